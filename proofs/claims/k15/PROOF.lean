import PyProof.Rows.All
import Wide.All
import OpenK.AllK
import Wide.FinOn
import PySem.Challenge.RW_pegleap_k15_standings_refused
import PySem.SetOps
import Lean
import PyProof.EqAt
import PyProof.EqKinds
import PyProof.TupleCall
import PyProof.NeKinds
import KE.KIsAll
import PyProof.ExcAttrAll.ValueError
import OpenK.KDescr
import PyProof.ZipIter
import KE.KDictOf
import PyProof.AttrMissHeap
import PyProof.FactsAll.zip_1
import PyProof.DictRoadsH
import PyProof.EnumMake
import PyProof.ConsumeWalk
import PyProof.FactsAll.list_3
import PyProof.SumWalkG
import PyProof.WalkInts
import PyProof.SeqI3
import Open.Pieces
set_option Elab.async false
set_option linter.all false
set_option maxRecDepth 100000
set_option maxHeartbeats 4000000
section T_XB
theorem x0_3 {p0 p1 p2:Prop} {G:Prop} (h:p0 /\ p1 /\ p2) (f:p0 -> p1 -> p2 -> G):G:=f h.1 h.2.1 h.2.2
theorem x1_2 {α0:Sort _} {p0 p1:α0 -> Prop} {G:Prop} (h:∃ a0,p0 a0 /\ p1 a0) (f:∀ a0,p0 a0 -> p1 a0 -> G):G:=h.elim fun a0 h=>f a0 h.1 h.2
theorem x2_1 {α0 α1:Sort _} {p0:α0 -> α1 -> Prop} {G:Prop} (h:∃ a0 a1,p0 a0 a1) (f:∀ a0 a1,p0 a0 a1 -> G):G:=h.elim fun a0 h=>h.elim fun a1 h=>f a0 a1 h
theorem x0_4 {p0 p1 p2 p3:Prop} {G:Prop} (h:p0 /\ p1 /\ p2 /\ p3) (f:p0 -> p1 -> p2 -> p3 -> G):G:=f h.1 h.2.1 h.2.2.1 h.2.2.2
theorem x1_3 {α0:Sort _} {p0 p1 p2:α0 -> Prop} {G:Prop} (h:∃ a0,p0 a0 /\ p1 a0 /\ p2 a0) (f:∀ a0,p0 a0 -> p1 a0 -> p2 a0 -> G):G:=h.elim fun a0 h=>f a0 h.1 h.2.1 h.2.2
theorem x2_2 {α0 α1:Sort _} {p0 p1:α0 -> α1 -> Prop} {G:Prop} (h:∃ a0 a1,p0 a0 a1 /\ p1 a0 a1) (f:∀ a0 a1,p0 a0 a1 -> p1 a0 a1 -> G):G:=h.elim fun a0 h=>h.elim fun a1 h=>f a0 a1 h.1 h.2
theorem x0_5 {p0 p1 p2 p3 p4:Prop} {G:Prop} (h:p0 /\ p1 /\ p2 /\ p3 /\ p4) (f:p0 -> p1 -> p2 -> p3 -> p4 -> G):G:=f h.1 h.2.1 h.2.2.1 h.2.2.2.1 h.2.2.2.2
theorem x2_3 {α0 α1:Sort _} {p0 p1 p2:α0 -> α1 -> Prop} {G:Prop} (h:∃ a0 a1,p0 a0 a1 /\ p1 a0 a1 /\ p2 a0 a1) (f:∀ a0 a1,p0 a0 a1 -> p1 a0 a1 -> p2 a0 a1 -> G):G:=h.elim fun a0 h=>h.elim fun a1 h=>f a0 a1 h.1 h.2.1 h.2.2
theorem x3_2 {α0 α1 α2:Sort _} {p0 p1:α0 -> α1 -> α2 -> Prop} {G:Prop} (h:∃ a0 a1 a2,p0 a0 a1 a2 /\ p1 a0 a1 a2) (f:∀ a0 a1 a2,p0 a0 a1 a2 -> p1 a0 a1 a2 -> G):G:=h.elim fun a0 h=>h.elim fun a1 h=>h.elim fun a2 h=>f a0 a1 a2 h.1 h.2
theorem x0_6 {p0 p1 p2 p3 p4 p5:Prop} {G:Prop} (h:p0 /\ p1 /\ p2 /\ p3 /\ p4 /\ p5) (f:p0 -> p1 -> p2 -> p3 -> p4 -> p5 -> G):G:=f h.1 h.2.1 h.2.2.1 h.2.2.2.1 h.2.2.2.2.1 h.2.2.2.2.2
theorem x1_5 {α0:Sort _} {p0 p1 p2 p3 p4:α0 -> Prop} {G:Prop} (h:∃ a0,p0 a0 /\ p1 a0 /\ p2 a0 /\ p3 a0 /\ p4 a0) (f:∀ a0,p0 a0 -> p1 a0 -> p2 a0 -> p3 a0 -> p4 a0 -> G):G:=h.elim fun a0 h=>f a0 h.1 h.2.1 h.2.2.1 h.2.2.2.1 h.2.2.2.2
theorem x2_4 {α0 α1:Sort _} {p0 p1 p2 p3:α0 -> α1 -> Prop} {G:Prop} (h:∃ a0 a1,p0 a0 a1 /\ p1 a0 a1 /\ p2 a0 a1 /\ p3 a0 a1) (f:∀ a0 a1,p0 a0 a1 -> p1 a0 a1 -> p2 a0 a1 -> p3 a0 a1 -> G):G:=h.elim fun a0 h=>h.elim fun a1 h=>f a0 a1 h.1 h.2.1 h.2.2.1 h.2.2.2
theorem x3_3 {α0 α1 α2:Sort _} {p0 p1 p2:α0 -> α1 -> α2 -> Prop} {G:Prop} (h:∃ a0 a1 a2,p0 a0 a1 a2 /\ p1 a0 a1 a2 /\ p2 a0 a1 a2) (f:∀ a0 a1 a2,p0 a0 a1 a2 -> p1 a0 a1 a2 -> p2 a0 a1 a2 -> G):G:=h.elim fun a0 h=>h.elim fun a1 h=>h.elim fun a2 h=>f a0 a1 a2 h.1 h.2.1 h.2.2
theorem x4_2 {α0 α1 α2 α3:Sort _} {p0 p1:α0 -> α1 -> α2 -> α3 -> Prop} {G:Prop} (h:∃ a0 a1 a2 a3,p0 a0 a1 a2 a3 /\ p1 a0 a1 a2 a3) (f:∀ a0 a1 a2 a3,p0 a0 a1 a2 a3 -> p1 a0 a1 a2 a3 -> G):G:=h.elim fun a0 h=>h.elim fun a1 h=>h.elim fun a2 h=>h.elim fun a3 h=>f a0 a1 a2 a3 h.1 h.2
theorem x5_1 {α0 α1 α2 α3 α4:Sort _} {p0:α0 -> α1 -> α2 -> α3 -> α4 -> Prop} {G:Prop} (h:∃ a0 a1 a2 a3 a4,p0 a0 a1 a2 a3 a4) (f:∀ a0 a1 a2 a3 a4,p0 a0 a1 a2 a3 a4 -> G):G:=h.elim fun a0 h=>h.elim fun a1 h=>h.elim fun a2 h=>h.elim fun a3 h=>h.elim fun a4 h=>f a0 a1 a2 a3 a4 h
theorem x0_7 {p0 p1 p2 p3 p4 p5 p6:Prop} {G:Prop} (h:p0 /\ p1 /\ p2 /\ p3 /\ p4 /\ p5 /\ p6) (f:p0 -> p1 -> p2 -> p3 -> p4 -> p5 -> p6 -> G):G:=f h.1 h.2.1 h.2.2.1 h.2.2.2.1 h.2.2.2.2.1 h.2.2.2.2.2.1 h.2.2.2.2.2.2
theorem x2_5 {α0 α1:Sort _} {p0 p1 p2 p3 p4:α0 -> α1 -> Prop} {G:Prop} (h:∃ a0 a1,p0 a0 a1 /\ p1 a0 a1 /\ p2 a0 a1 /\ p3 a0 a1 /\ p4 a0 a1) (f:∀ a0 a1,p0 a0 a1 -> p1 a0 a1 -> p2 a0 a1 -> p3 a0 a1 -> p4 a0 a1 -> G):G:=h.elim fun a0 h=>h.elim fun a1 h=>f a0 a1 h.1 h.2.1 h.2.2.1 h.2.2.2.1 h.2.2.2.2
theorem x3_4 {α0 α1 α2:Sort _} {p0 p1 p2 p3:α0 -> α1 -> α2 -> Prop} {G:Prop} (h:∃ a0 a1 a2,p0 a0 a1 a2 /\ p1 a0 a1 a2 /\ p2 a0 a1 a2 /\ p3 a0 a1 a2) (f:∀ a0 a1 a2,p0 a0 a1 a2 -> p1 a0 a1 a2 -> p2 a0 a1 a2 -> p3 a0 a1 a2 -> G):G:=h.elim fun a0 h=>h.elim fun a1 h=>h.elim fun a2 h=>f a0 a1 a2 h.1 h.2.1 h.2.2.1 h.2.2.2
theorem x4_3 {α0 α1 α2 α3:Sort _} {p0 p1 p2:α0 -> α1 -> α2 -> α3 -> Prop} {G:Prop} (h:∃ a0 a1 a2 a3,p0 a0 a1 a2 a3 /\ p1 a0 a1 a2 a3 /\ p2 a0 a1 a2 a3) (f:∀ a0 a1 a2 a3,p0 a0 a1 a2 a3 -> p1 a0 a1 a2 a3 -> p2 a0 a1 a2 a3 -> G):G:=h.elim fun a0 h=>h.elim fun a1 h=>h.elim fun a2 h=>h.elim fun a3 h=>f a0 a1 a2 a3 h.1 h.2.1 h.2.2
theorem x2_6 {α0 α1:Sort _} {p0 p1 p2 p3 p4 p5:α0 -> α1 -> Prop} {G:Prop} (h:∃ a0 a1,p0 a0 a1 /\ p1 a0 a1 /\ p2 a0 a1 /\ p3 a0 a1 /\ p4 a0 a1 /\ p5 a0 a1) (f:∀ a0 a1,p0 a0 a1 -> p1 a0 a1 -> p2 a0 a1 -> p3 a0 a1 -> p4 a0 a1 -> p5 a0 a1 -> G):G:=h.elim fun a0 h=>h.elim fun a1 h=>f a0 a1 h.1 h.2.1 h.2.2.1 h.2.2.2.1 h.2.2.2.2.1 h.2.2.2.2.2
theorem x3_5 {α0 α1 α2:Sort _} {p0 p1 p2 p3 p4:α0 -> α1 -> α2 -> Prop} {G:Prop} (h:∃ a0 a1 a2,p0 a0 a1 a2 /\ p1 a0 a1 a2 /\ p2 a0 a1 a2 /\ p3 a0 a1 a2 /\ p4 a0 a1 a2) (f:∀ a0 a1 a2,p0 a0 a1 a2 -> p1 a0 a1 a2 -> p2 a0 a1 a2 -> p3 a0 a1 a2 -> p4 a0 a1 a2 -> G):G:=h.elim fun a0 h=>h.elim fun a1 h=>h.elim fun a2 h=>f a0 a1 a2 h.1 h.2.1 h.2.2.1 h.2.2.2.1 h.2.2.2.2
theorem x4_4 {α0 α1 α2 α3:Sort _} {p0 p1 p2 p3:α0 -> α1 -> α2 -> α3 -> Prop} {G:Prop} (h:∃ a0 a1 a2 a3,p0 a0 a1 a2 a3 /\ p1 a0 a1 a2 a3 /\ p2 a0 a1 a2 a3 /\ p3 a0 a1 a2 a3) (f:∀ a0 a1 a2 a3,p0 a0 a1 a2 a3 -> p1 a0 a1 a2 a3 -> p2 a0 a1 a2 a3 -> p3 a0 a1 a2 a3 -> G):G:=h.elim fun a0 h=>h.elim fun a1 h=>h.elim fun a2 h=>h.elim fun a3 h=>f a0 a1 a2 a3 h.1 h.2.1 h.2.2.1 h.2.2.2
theorem x3_6 {α0 α1 α2:Sort _} {p0 p1 p2 p3 p4 p5:α0 -> α1 -> α2 -> Prop} {G:Prop} (h:∃ a0 a1 a2,p0 a0 a1 a2 /\ p1 a0 a1 a2 /\ p2 a0 a1 a2 /\ p3 a0 a1 a2 /\ p4 a0 a1 a2 /\ p5 a0 a1 a2) (f:∀ a0 a1 a2,p0 a0 a1 a2 -> p1 a0 a1 a2 -> p2 a0 a1 a2 -> p3 a0 a1 a2 -> p4 a0 a1 a2 -> p5 a0 a1 a2 -> G):G:=h.elim fun a0 h=>h.elim fun a1 h=>h.elim fun a2 h=>f a0 a1 a2 h.1 h.2.1 h.2.2.1 h.2.2.2.1 h.2.2.2.2.1 h.2.2.2.2.2
theorem x4_5 {α0 α1 α2 α3:Sort _} {p0 p1 p2 p3 p4:α0 -> α1 -> α2 -> α3 -> Prop} {G:Prop} (h:∃ a0 a1 a2 a3,p0 a0 a1 a2 a3 /\ p1 a0 a1 a2 a3 /\ p2 a0 a1 a2 a3 /\ p3 a0 a1 a2 a3 /\ p4 a0 a1 a2 a3) (f:∀ a0 a1 a2 a3,p0 a0 a1 a2 a3 -> p1 a0 a1 a2 a3 -> p2 a0 a1 a2 a3 -> p3 a0 a1 a2 a3 -> p4 a0 a1 a2 a3 -> G):G:=h.elim fun a0 h=>h.elim fun a1 h=>h.elim fun a2 h=>h.elim fun a3 h=>f a0 a1 a2 a3 h.1 h.2.1 h.2.2.1 h.2.2.2.1 h.2.2.2.2
theorem x3_7 {α0 α1 α2:Sort _} {p0 p1 p2 p3 p4 p5 p6:α0 -> α1 -> α2 -> Prop} {G:Prop} (h:∃ a0 a1 a2,p0 a0 a1 a2 /\ p1 a0 a1 a2 /\ p2 a0 a1 a2 /\ p3 a0 a1 a2 /\ p4 a0 a1 a2 /\ p5 a0 a1 a2 /\ p6 a0 a1 a2) (f:∀ a0 a1 a2,p0 a0 a1 a2 -> p1 a0 a1 a2 -> p2 a0 a1 a2 -> p3 a0 a1 a2 -> p4 a0 a1 a2 -> p5 a0 a1 a2 -> p6 a0 a1 a2 -> G):G:=h.elim fun a0 h=>h.elim fun a1 h=>h.elim fun a2 h=>f a0 a1 a2 h.1 h.2.1 h.2.2.1 h.2.2.2.1 h.2.2.2.2.1 h.2.2.2.2.2.1 h.2.2.2.2.2.2
theorem x4_6 {α0 α1 α2 α3:Sort _} {p0 p1 p2 p3 p4 p5:α0 -> α1 -> α2 -> α3 -> Prop} {G:Prop} (h:∃ a0 a1 a2 a3,p0 a0 a1 a2 a3 /\ p1 a0 a1 a2 a3 /\ p2 a0 a1 a2 a3 /\ p3 a0 a1 a2 a3 /\ p4 a0 a1 a2 a3 /\ p5 a0 a1 a2 a3) (f:∀ a0 a1 a2 a3,p0 a0 a1 a2 a3 -> p1 a0 a1 a2 a3 -> p2 a0 a1 a2 a3 -> p3 a0 a1 a2 a3 -> p4 a0 a1 a2 a3 -> p5 a0 a1 a2 a3 -> G):G:=h.elim fun a0 h=>h.elim fun a1 h=>h.elim fun a2 h=>h.elim fun a3 h=>f a0 a1 a2 a3 h.1 h.2.1 h.2.2.1 h.2.2.2.1 h.2.2.2.2.1 h.2.2.2.2.2
theorem x9_3 {α0 α1 α2 α3 α4 α5 α6 α7 α8:Sort _} {p0 p1 p2:α0 -> α1 -> α2 -> α3 -> α4 -> α5 -> α6 -> α7 -> α8 -> Prop} {G:Prop} (h:∃ a0 a1 a2 a3 a4 a5 a6 a7 a8,p0 a0 a1 a2 a3 a4 a5 a6 a7 a8 /\ p1 a0 a1 a2 a3 a4 a5 a6 a7 a8 /\ p2 a0 a1 a2 a3 a4 a5 a6 a7 a8) (f:∀ a0 a1 a2 a3 a4 a5 a6 a7 a8,p0 a0 a1 a2 a3 a4 a5 a6 a7 a8 -> p1 a0 a1 a2 a3 a4 a5 a6 a7 a8 -> p2 a0 a1 a2 a3 a4 a5 a6 a7 a8 -> G):G:=h.elim fun a0 h=>h.elim fun a1 h=>h.elim fun a2 h=>h.elim fun a3 h=>h.elim fun a4 h=>h.elim fun a5 h=>h.elim fun a6 h=>h.elim fun a7 h=>h.elim fun a8 h=>f a0 a1 a2 a3 a4 a5 a6 a7 a8 h.1 h.2.1 h.2.2
end T_XB
section T_Tb
namespace Tb
open PySem PySem.SetTable
noncomputable def jg5 (mask:Nat) (p:Probe):Probe :=
 if p.more > 0 then { p with j:=p.j + 1,more:=p.more - 1 } else
  { p with j:=(leap mask p.i p.perturb).1,more:=runEnd mask (leap mask p.i p.perturb).1 - (leap mask p.i p.perturb).1,i:=(leap mask p.i p.perturb).1,perturb:=(leap mask p.i p.perturb).2 }
theorem jo2 (t:SetTable) (p:Probe):t.advance p = jg5 t.mask p:=by
 unfold SetTable.advance jg5; rfl
noncomputable def grp (mask i per:Nat):Probe:={ j:=i,more:=runEnd mask i - i,i:=i,perturb:=per,dummy:=none }
theorem jr5 (t:SetTable) (h:Int):t.probeStart h = grp t.mask (bits h % (t.mask + 1)) (bits h):=rfl
noncomputable def W (mask:Nat):Probe -> Nat -> Probe
 | p,0=>p
 | p,k + 1=>W mask (jg5 mask p) k
theorem jk7 (mask:Nat):∀ (a b:Nat) (p:Probe),W mask p (a + b) = W mask (W mask p a) b
 | 0,b,p=>by rw [Nat.zero_add]; rfl
 | a + 1,b,p=>by
  rw [show a + 1 + b = (a + b) + 1 by lia]
  show W mask (jg5 mask p) (a + b) = _
  rw [jk7 mask a b]; rfl
theorem qo6 (mask:Nat) (p:Probe) (k:Nat):W mask p (k + 1) = jg5 mask (W mask p k):=by
 rw [jk7 mask k 1 p]; rfl
theorem jo6 (mask:Nat) (p:Probe) (h:p.dummy = none):(jg5 mask p).dummy = none:=by
 unfold jg5; split <;> exact h
theorem kk0 (mask:Nat):∀ (k:Nat) (p:Probe),p.dummy = none -> (W mask p k).dummy = none
 | 0,_,h=>h
 | k + 1,p,h=>kk0 mask k _ (jo6 mask p h)
theorem qg4 (mask:Nat):∀ (k:Nat) (p:Probe),k <= p.more -> W mask p k = { p with j:=p.j + k,more:=p.more - k }
 | 0,p,_=>rfl
 | k + 1,p,h=>by
  show W mask (jg5 mask p) k = _
  have e:jg5 mask p = { p with j:=p.j + 1,more:=p.more - 1 }:=by unfold jg5; rw [if_pos (by lia)]
  rw [e,qg4 mask k _ (by show k <= p.more - 1; lia)]
  simp only [Probe.mk.injEq,and_true,true_and]
  lia
theorem ko2 (mask i per:Nat):W mask (grp mask i per) (runEnd mask i - i + 1) = grp mask (leap mask i per).1 (leap mask i per).2:=by
 rw [qo6,qg4 mask (runEnd mask i - i) (grp mask i per) (Nat.le_refl _)]
 unfold jg5
 rw [if_neg (by show ¬ (runEnd mask i - i - (runEnd mask i - i) > 0); lia)]
 rfl
theorem qk9 (mask i:Nat):runEnd mask i - i <= 9:=by unfold runEnd; split <;> lia
noncomputable def G (mask:Nat):Nat -> Nat -> Nat -> Nat × Nat
 | 0,i,per=>(i,per)
 | n + 1,i,per=>G mask n (leap mask i per).1 (leap mask i per).2
theorem kc5 (mask:Nat):∀ (n i per:Nat),∃ k,k <= 10 * n /\ W mask (grp mask i per) k = grp mask (G mask n i per).1 (G mask n i per).2
 | 0,i,per=>⟨0,by lia,rfl⟩
 | n + 1,i,per=>by
  refine x1_2 (kc5 mask n (leap mask i per).1 (leap mask i per).2) fun k hk e=>?_
  refine ⟨runEnd mask i - i + 1 + k,by have:=qk9 mask i; lia,?_⟩
  rw [jk7,ko2,e]; rfl
theorem qh5 (mask:Nat):∀ (n i per:Nat),(G mask n i per).2 = per / 32 ^ n
 | 0,i,per=>by simp [G]
 | n + 1,i,per=>by
  show (G mask n (leap mask i per).1 (leap mask i per).2).2 = _
  rw [qh5 mask n,show (leap mask i per).2 = per / 32 from rfl,Nat.div_div_eq_div_mul,Nat.pow_succ,Nat.mul_comm]
theorem qi3 (mask:Nat):∀ (a b i per:Nat),G mask (a + b) i per = G mask b (G mask a i per).1 (G mask a i per).2
 | 0,b,i,per=>by rw [Nat.zero_add]; rfl
 | a + 1,b,i,per=>by
  rw [show a + 1 + b = (a + b) + 1 by lia]
  show G mask (a + b) _ _ = _
  rw [qi3 mask a b]; rfl
theorem G_lt (mask:Nat):∀ (n i per:Nat),i < mask + 1 -> (G mask n i per).1 < mask + 1
 | 0,_,_,h=>h
 | n + 1,i,per,_=>G_lt mask n _ _ (Nat.mod_lt _ (Nat.succ_pos _))
noncomputable def seen (mask:Nat):Nat -> Nat -> Nat -> Nat
 | 0,_,acc=>acc
 | n + 1,i,acc=>seen mask n ((i * 5 + 1) % (mask + 1)) (acc ||| (1 <<< i))
theorem kc7 (mask e:Nat):∀ (n i acc:Nat),(seen mask n i acc).testBit e = true -> acc.testBit e = true \/ ∃ m,m < n /\ (G mask m i 0).1 = e
 | 0,i,acc,h=>.inl h
 | n + 1,i,acc,h=>by
  rcases kc7 mask e n _ _ h with h | ⟨m,hm,e'⟩
  ·rw [Nat.testBit_or,Bool.or_eq_true] at h
   rcases h with h | h
   ·exact .inl h
   ·refine .inr ⟨0,by lia,?_⟩
    rw [Nat.one_shiftLeft,Nat.testBit_two_pow] at h
    exact of_decide_eq_true h
  ·exact .inr ⟨m + 1,by lia,e'⟩
noncomputable def jh6 (mask:Nat):Bool:=(List.range (mask + 1)).all fun i=>seen mask (mask + 1) i 0 == 2 ^ (mask + 1) - 1
theorem qp2:jh6 7 = true:=by decide +kernel
theorem qk6:jh6 31 = true:=by decide +kernel
theorem qd9:jh6 127 = true:=by decide +kernel
noncomputable def Msk (mask:Nat):Prop:=mask = 7 \/ mask = 31 \/ mask = 127
theorem Msk.full {mask:Nat} (h:Msk mask):jh6 mask = true:=by
 rcases h with rfl | rfl | rfl
 ·exact qp2
 ·exact qk6
 ·exact qd9
theorem qp7 {mask:Nat} (hm:Msk mask) {i e:Nat} (hi:i < mask + 1) (he:e < mask + 1):∃ m,m < mask + 1 /\ (G mask m i 0).1 = e:=by
 have h:=hm.full
 unfold jh6 at h
 rw [List.all_eq_true] at h
 have q:=beq_iff_eq.mp (h i (List.mem_range.mpr hi))
 have b:(seen mask (mask + 1) i 0).testBit e = true:=by
  rw [q,Nat.testBit_two_pow_sub_one]; exact decide_eq_true he
 rcases kc7 mask e _ _ _ b with h0 | h0
 ·rw [Nat.zero_testBit] at h0; cases h0
 ·exact h0
theorem qc3 (h:Int):bits h < 2 ^ 64:=by
 unfold bits; lia
theorem kn8 {mask:Nat} (hm:Msk mask) (h:Int) {e:Nat} (he:e < mask + 1):∃ n,n <= mask + 13 /\ (G mask n (bits h % (mask + 1)) (bits h)).1 = e:=by
 have p0:(G mask 13 (bits h % (mask + 1)) (bits h)).2 = 0:=by
  rw [qh5]; exact Nat.div_eq_of_lt (Nat.lt_of_lt_of_le (qc3 h) (by decide))
 obtain ⟨m,hm',e'⟩:=qp7 hm (G_lt mask 13 _ (bits h) (Nat.mod_lt _ (Nat.succ_pos _))) he
 refine ⟨13 + m,by lia,?_⟩
 rw [qi3,p0]; exact e'
theorem qq5 {mask:Nat} (hm:Msk mask) (h:Int) {e:Nat} (he:e < mask + 1):∃ k,k <= 10 * (mask + 13) /\ (W mask (grp mask (bits h % (mask + 1)) (bits h)) k).j = e:=by
 refine x1_2 (kn8 hm h he) fun n hn e'=>?_
 refine x1_2 (kc5 mask n (bits h % (mask + 1)) (bits h)) fun k hk ek=>?_
 refine ⟨k,by lia,?_⟩
 rw [ek]; exact e'
noncomputable def Rises (xs:Array Nat):Prop:=∀ i j,i < j -> j < xs.size -> xs.getD i 0 < xs.getD j 0
theorem Rises.le {xs:Array Nat} (h:Rises xs) {i j:Nat} (hij:i <= j) (hj:j < xs.size):xs.getD i 0 <= xs.getD j 0:=by
 rcases Nat.lt_or_eq_of_le hij with h' | rfl
 ·exact Nat.le_of_lt (h i j h' hj)
 ·exact Nat.le_refl _
theorem ks0 (xs:Array Nat) {i a b:Nat} (h:i < xs.size):xs.getD i a = xs.getD i b:=by simp [Array.getD,h]
theorem jq8 {xs:Array Nat} (hr:Rises xs) (j:Nat):∀ (fuel lo hi:Nat),hi <= xs.size -> lo <= hi -> hi - lo <= fuel -> (∀ i,i < lo -> xs.getD i 0 < j) -> (∀ i,hi <= i -> i < xs.size -> j <= xs.getD i 0) ->
  lo <= below.go xs j fuel lo hi /\ below.go xs j fuel lo hi <= xs.size /\ (∀ i,i < below.go xs j fuel lo hi -> xs.getD i 0 < j) /\ ∀ i,below.go xs j fuel lo hi <= i -> i < xs.size -> j <= xs.getD i 0
 | 0,lo,hi,h1,h2,h3,a,b=>by
  have:hi = lo:=by lia
  subst this
  exact ⟨Nat.le_refl _,h1,a,b⟩
 | fuel + 1,lo,hi,h1,h2,h3,a,b=>by
  unfold below.go
  by_cases hlt:lo < hi
  ·rw [if_pos hlt]
   dsimp only
   have hm:(lo + hi) / 2 < xs.size:=by lia
   rw [ks0 xs (b:=0) hm]
   by_cases hc:xs.getD ((lo + hi) / 2) 0 < j
   ·rw [if_pos hc]
    have q:=jq8 hr j fuel ((lo + hi) / 2 + 1) hi h1 (by lia) (by lia) (fun i hi'=>Nat.lt_of_le_of_lt (hr.le (by lia) hm) hc) b
    exact ⟨by lia,q.2⟩
   ·rw [if_neg hc]
    have q:=jq8 hr j fuel lo ((lo + hi) / 2) (by lia) (by lia) (by lia) a (fun i hi' hs=>Nat.le_trans (Nat.le_of_not_lt hc) (hr.le hi' hs))
    exact ⟨by lia,q.2⟩
  ·rw [if_neg hlt]
   have:hi = lo:=by lia
   subst this
   exact ⟨Nat.le_refl _,h1,a,b⟩
theorem je5 {xs:Array Nat} (hr:Rises xs) (j:Nat):below xs j <= xs.size /\ (∀ i,i < below xs j -> xs.getD i 0 < j) /\ ∀ i,below xs j <= i -> i < xs.size -> j <= xs.getD i 0 :=
 (jq8 hr j xs.size 0 xs.size (Nat.le_refl _) (Nat.zero_le _) (Nat.le_refl _) (fun i h=>absurd h (Nat.not_lt_zero _)) (fun i h h'=>absurd h' (Nat.not_lt.mpr h))).2
theorem ks1 {xs:Array Nat} (hr:Rises xs) {i:Nat} (hi:i < xs.size):below xs (xs.getD i 0) = i:=by
 refine x0_3 (je5 hr (xs.getD i 0)) fun a b c=>?_
 rcases Nat.lt_trichotomy (below xs (xs.getD i 0)) i with h | h | h
 ·have:=c _ (Nat.le_refl _) (by lia)
  have:=hr _ _ h hi
  lia
 ·exact h
 ·have:=b i h
  lia
structure Good (t:SetTable) (n:Nat):Prop where
 size:t.place.size = n
 rise:Rises t.place
 le:∀ i,i < n -> t.place.getD i 0 <= t.mask
 dum:t.dummies = #[]
 msk:Msk t.mask
 few:n < t.mask
theorem kk3 (j:Nat):has #[] j = false:=by simp [has]
theorem jw6 {t:SetTable} {n i:Nat} (g:Good t n) (hi:i < n):t.slot (t.place.getD i 0) = .live i:=by
 have hs:i < t.place.size:=by rw [g.size]; exact hi
 unfold SetTable.slot
 dsimp only
 rw [ks1 g.rise hs,if_pos (by simp [Array.getD,hs])]
theorem jp3 {t:SetTable} {n:Nat} (g:Good t n) (j:Nat):(∃ i,i < n /\ t.place.getD i 0 = j /\ t.slot j = .live i) \/ ((∀ i,i < n -> t.place.getD i 0 ≠ j) /\ t.slot j = .empty):=by
 by_cases h:∃ i,i < n /\ t.place.getD i 0 = j
 ·refine x1_2 h fun i hi e=>?_
  clear h
  exact .inl ⟨i,hi,e,by rw [<- e]; exact jw6 g hi⟩
 ·refine .inr ⟨fun i hi e=>h ⟨i,hi,e⟩,?_⟩
  unfold SetTable.slot
  dsimp only
  rw [if_neg,g.dum,kk3]
  ·rfl
  ·intro q
   have q:=beq_iff_eq.mp q
   obtain ⟨hs,e⟩:=Array.getElem?_eq_some_iff.mp q
   exact h ⟨below t.place j,by rw [<- g.size]; exact hs,by simp [Array.getD,hs,e]⟩
theorem Q0 {t:SetTable} {n:Nat} (g:Good t n) (j:Nat):t.slot j = .empty ↔ ∀ i,i < n -> t.place.getD i 0 ≠ j:=by
 rcases jp3 g j with ⟨i,hi,e,q⟩ | ⟨a,q⟩
 ·rw [q]; exact ⟨fun h=>(nomatch h),fun h=>absurd e (h i hi)⟩
 ·exact ⟨fun _=>a,fun _=>q⟩
theorem kp2 {xs:Array Nat} (h:Rises xs):∀ i,i < xs.size -> i <= xs.getD i 0
 | 0,_=>Nat.zero_le _
 | i + 1,hi=>by
  have a:=kp2 h i (by lia)
  have b:=h i (i + 1) (by lia) hi
  lia
theorem ke0 {t:SetTable} {n:Nat} (g:Good t n):∃ e,e < t.mask + 1 /\ t.slot e = .empty:=by
 by_cases h:∀ i,i < n -> t.place.getD i 0 = i
 ·refine ⟨n,by have:=g.few; lia,(Q0 g n).mpr fun i hi e=>?_⟩
  rw [h i hi] at e; lia
 ·have:∃ i,i < n /\ t.place.getD i 0 ≠ i /\ ∀ k,k < i -> t.place.getD k 0 = k:=by
   have aux:∀ m,m <= n -> (∀ k,k < m -> t.place.getD k 0 = k) \/ ∃ i,i < n /\ t.place.getD i 0 ≠ i /\ ∀ k,k < i -> t.place.getD k 0 = k:=by
    intro m
    induction m with
    | zero=>intro _; exact .inl fun k hk=>absurd hk (Nat.not_lt_zero _)
    | succ m ih =>
     intro hm
     rcases ih (by lia) with a | a
     ·by_cases e:t.place.getD m 0 = m
      ·refine .inl fun k hk=>?_
       rcases Nat.lt_or_eq_of_le (Nat.le_of_lt_succ hk) with h' | rfl
       ·exact a k h'
       ·exact e
      ·exact .inr ⟨m,by lia,e,a⟩
     ·exact .inr a
   rcases aux n (Nat.le_refl _) with a | a
   ·exact absurd a h
   ·exact a
  refine x1_3 this fun i hi ne before=>?_
  clear this
  have hs:i < t.place.size:=by rw [g.size]; exact hi
  have ge:=kp2 g.rise i hs
  refine ⟨i,by have:=g.le i hi; lia,(Q0 g i).mpr fun k hk e=>?_⟩
  rcases Nat.lt_trichotomy k i with h' | rfl | h'
  ·rw [before k h'] at e; lia
  ·exact ne e
  ·have:=g.rise i k h' (by rw [g.size]; exact hk)
   lia
theorem ji6 {α:Type} (xs:Array α) (p:Nat) (x:α):(SetTable.insertAt xs p x).toList = xs.toList.take p ++ x :: xs.toList.drop p:=by
 simp [SetTable.insertAt,List.extract_eq_take_drop,List.take_of_length_le]
theorem kt5 {α:Type} (xs:Array α) (p:Nat) (x:α) (hp:p <= xs.size):(SetTable.insertAt xs p x).size = xs.size + 1:=by
 rw [<- Array.length_toList,ji6,List.length_append,List.length_cons,List.length_take,List.length_drop,Array.length_toList]; lia
theorem jl2 {α:Type} (xs:Array α) (p:Nat) (x:α) (hp:p <= xs.size) (i:Nat):(SetTable.insertAt xs p x)[i]? = if i < p then xs[i]? else if i = p then some x else xs[i - 1]?:=by
 rw [<- Array.getElem?_toList,ji6]
 by_cases h1:i < p
 ·rw [if_pos h1,List.getElem?_append_left (by rw [List.length_take,Array.length_toList]; lia),List.getElem?_take_of_lt h1,Array.getElem?_toList]
 ·rw [if_neg h1,List.getElem?_append_right (by rw [List.length_take,Array.length_toList]; lia),List.length_take,Array.length_toList,Nat.min_eq_left hp]
  by_cases h2:i = p
  ·subst h2; simp
  ·rw [if_neg h2]
   obtain ⟨m,hm⟩ : ∃ m,i - p = m + 1:=⟨i - p - 1,by lia⟩
   rw [hm,List.getElem?_cons_succ,List.getElem?_drop,Array.getElem?_toList]
   congr 1; lia
theorem ka1 (xs:Array Nat) (p x:Nat) (hp:p <= xs.size) (i:Nat):(SetTable.insertAt xs p x).getD i 0 = if i < p then xs.getD i 0 else if i = p then x else xs.getD (i - 1) 0:=by
 have e:∀ ys:Array Nat,∀ k,ys.getD k 0 = (ys[k]?).getD 0:=fun ys k=>by simp [Array.getD_eq_getD_getElem?]
 rw [e,jl2 xs p x hp i]
 split
 ·rw [e]
 ·split
  ·rfl
  ·rw [e]
theorem kh8 {t:SetTable} {n j:Nat} (g:Good t n):t.put j = ({ t with place:=SetTable.insertAt t.place (below t.place j) j },below t.place j):=by
 unfold SetTable.put
 dsimp only
 rw [g.dum,kk3]
 simp only [Bool.false_eq_true,if_false]
theorem kd4 {t:SetTable} {n j:Nat} (g:Good t n) (hj:j <= t.mask) (he:t.slot j = .empty) (hf:n + 1 < t.mask):Good (t.put j).1 (n + 1) /\ (t.put j).2 = below t.place j /\ below t.place j <= n /\ (t.put j).1.mask = t.mask /\
  (∀ k,(t.put j).1.slot k = .empty ↔ (t.slot k = .empty /\ k ≠ j)) /\ (t.put j).1.place = SetTable.insertAt t.place (below t.place j) j:=by
 refine x0_3 (je5 g.rise j) fun b1 b2 b3=>?_
 rw [g.size] at b1 b3
 have hb1:below t.place j <= t.place.size:=by rw [g.size]; exact b1
 have hne:=(Q0 g j).mp he
 have gt:∀ i,below t.place j <= i -> i < n -> j < t.place.getD i 0:=fun i h1 h2=>by
  have:=b3 i h1 h2
  have:=hne i h2
  lia
 rw [kh8 g]
 have gd:=ka1 t.place (below t.place j) j hb1
 have sz:(SetTable.insertAt t.place (below t.place j) j).size = n + 1:=by rw [kt5 _ _ _ hb1,g.size]
 have gg:Good { t with place:=SetTable.insertAt t.place (below t.place j) j } (n + 1):=by
  refine ⟨sz,fun i k hik hk=>?_,fun i hi=>?_,g.dum,g.msk,hf⟩
  ·have hk:k < n + 1:=by rw [<- sz]; exact hk
   show (SetTable.insertAt t.place (below t.place j) j).getD i 0 < (SetTable.insertAt t.place (below t.place j) j).getD k 0
   rw [gd i,gd k]
   by_cases h1:k < below t.place j
   ·rw [if_pos h1,if_pos (by lia)]
    exact g.rise i k hik (by rw [g.size]; lia)
   ·rw [if_neg h1]
    by_cases h2:k = below t.place j
    ·rw [if_pos h2,if_pos (by lia)]
     exact b2 i (by lia)
    ·rw [if_neg h2]
     by_cases h3:i < below t.place j
     ·rw [if_pos h3]
      exact g.rise i (k - 1) (by lia) (by rw [g.size]; lia)
     ·rw [if_neg h3]
      by_cases h4:i = below t.place j
      ·rw [if_pos h4]
       exact gt (k - 1) (by lia) (by lia)
      ·rw [if_neg h4]
       exact g.rise (i - 1) (k - 1) (by lia) (by rw [g.size]; lia)
  ·show (SetTable.insertAt t.place (below t.place j) j).getD i 0 <= t.mask
   rw [gd i]
   by_cases h1:i < below t.place j
   ·rw [if_pos h1]; exact g.le i (by lia)
   ·rw [if_neg h1]
    by_cases h2:i = below t.place j
    ·rw [if_pos h2]; exact hj
    ·rw [if_neg h2]; exact g.le (i - 1) (by lia)
 refine ⟨gg,rfl,b1,rfl,fun k=>?_,rfl⟩
 rw [Q0 gg,Q0 g]
 show (∀ i,i < n + 1 -> (SetTable.insertAt t.place (below t.place j) j).getD i 0 ≠ k) ↔ _
 constructor
 ·intro h
  refine ⟨fun i hi e=>?_,fun e=>?_⟩
  ·by_cases h1:i < below t.place j
   ·exact h i (by lia) (by rw [gd i,if_pos h1]; exact e)
   ·exact h (i + 1) (by lia) (by rw [gd (i + 1),if_neg (by lia),if_neg (by lia)]; exact e)
  ·exact h (below t.place j) (by lia) (by rw [gd,if_neg (by lia),if_pos rfl]; exact e.symm)
 ·rintro ⟨h,hne'⟩ i hi e
  rw [gd i] at e
  by_cases h1:i < below t.place j
  ·rw [if_pos h1] at e; exact h i (by lia) e
  ·rw [if_neg h1] at e
   by_cases h2:i = below t.place j
   ·rw [if_pos h2] at e; exact hne' e.symm
   ·rw [if_neg h2] at e; exact h (i - 1) (by lia) e
end Tb
end T_Tb
section T_Tb2
namespace Tb
open PySem PySem.SetTable
noncomputable def jp5 (t:SetTable) (h:Int) (j:Nat):Prop:=∃ k,(W t.mask (t.probeStart h) k).j = j /\ ∀ m,m < k -> t.slot (W t.mask (t.probeStart h) m).j ≠ .empty
noncomputable def jv1 (t:SetTable) (hs:Nat -> Int) (n:Nat):Prop:=∀ i,i < n -> jp5 t (hs i) (t.place.getD i 0)
theorem qp3 {p:Nat -> Prop} [DecidablePred p] {k:Nat} (h:p k):∃ d,d <= k /\ p d /\ ∀ m,m < d -> ¬ p m:=by
 induction k using Nat.strongRecOn with
 | _ k ih =>
  by_cases q:∃ m,m < k /\ p m
  ·refine x1_2 q fun m hm pm=>?_
   clear q
   refine x1_3 (ih m hm pm) fun d hd a b=>?_
   exact ⟨d,by lia,a,b⟩
  ·exact ⟨k,Nat.le_refl _,h,fun m hm pm=>q ⟨m,hm,pm⟩⟩
theorem dist {t:SetTable} {n:Nat} (g:Good t n) (h:Int):∃ d,d <= 10 * (t.mask + 13) /\ t.slot (W t.mask (t.probeStart h) d).j = .empty /\ ∀ m,m < d -> t.slot (W t.mask (t.probeStart h) m).j ≠ .empty:=by
 refine x1_2 (ke0 g) fun e he se=>?_
 refine x1_2 (qq5 g.msk h he) fun k hk ek=>?_
 obtain ⟨d,hd,a,b⟩:=qp3 (p:=fun m=>t.slot (W t.mask (t.probeStart h) m).j = .empty) (k:=k) (by rw [jr5,ek]; exact se)
 exact ⟨d,by lia,a,b⟩
theorem kp6 {t:SetTable} {n:Nat} (g:Good t n) (hashAt:Nat -> Int) (h:Int):∀ (d:Nat) (p:Probe) (fuel:Nat),p.dummy = none -> d < fuel -> t.slot (W t.mask p d).j = .empty -> (∀ m,m < d -> t.slot (W t.mask p m).j ≠ .empty) ->
  (∃ m i,m < d /\ i < n /\ t.slot (W t.mask p m).j = .live i /\ hashAt i = h /\ (∀ m',m' < m -> ∀ i',t.slot (W t.mask p m').j = .live i' -> hashAt i' ≠ h) /\ probe.go t hashAt h fuel p = some (.candidate (W t.mask p m).j i (W t.mask p (m + 1)))) \/
  ((∀ m,m < d -> ∀ i,t.slot (W t.mask p m).j = .live i -> hashAt i ≠ h) /\ probe.go t hashAt h fuel p = some (.empty (W t.mask p d).j none))
 | 0,p,fuel + 1,hd,_,he,_=>by
  refine .inr ⟨fun m hm=>absurd hm (Nat.not_lt_zero _),?_⟩
  unfold probe.go
  have he':t.slot p.j = .empty:=he
  rw [he',hd]; rfl
 | d + 1,p,fuel + 1,hd,hf,he,hb=>by
  have h0:t.slot p.j ≠ .empty:=hb 0 (by lia)
  rcases jp3 g p.j with ⟨i,hi,_,q⟩ | ⟨_,q⟩
  ·by_cases hh:hashAt i = h
   ·refine .inl ⟨0,i,by lia,hi,q,hh,fun m hm=>absurd hm (Nat.not_lt_zero _),?_⟩
    unfold probe.go
    rw [q]
    dsimp only
    rw [if_pos (beq_iff_eq.mpr hh),jo2]; rfl
   ·have e:probe.go t hashAt h (fuel + 1) p = probe.go t hashAt h fuel (jg5 t.mask p):=by
     conv=>lhs; unfold probe.go
     rw [q]
     dsimp only
     rw [if_neg (fun z=>hh (beq_iff_eq.mp z)),jo2]
    rw [e]
    rcases kp6 g hashAt h d (jg5 t.mask p) fuel (jo6 _ _ hd) (by lia) he (fun m hm=>hb (m + 1) (by lia)) with ⟨m,i',a1,a2,a3,a4,a5,a6⟩ | ⟨a1,a2⟩
    ·refine .inl ⟨m + 1,i',by lia,a2,a3,a4,fun m' hm' i'' q'=>?_,a6⟩
     cases m' with
     | zero =>
      have q2:t.slot p.j = .live i'':=q'
      rw [q] at q2; cases q2; exact hh
     | succ m'=>exact a5 m' (by lia) i'' q'
    ·refine .inr ⟨fun m hm i'' q'=>?_,a2⟩
     cases m with
     | zero =>
      have q2:t.slot p.j = .live i'':=q'
      rw [q] at q2; cases q2; exact hh
     | succ m=>exact a1 m (by lia) i'' q'
  ·exact absurd q h0
theorem kn2 {t:SetTable} {n j:Nat} (g:Good t n) (hj:j <= t.mask) (he:t.slot j = .empty) (hf:n + 1 < t.mask) {hs hs':Nat -> Int} (P:jv1 t hs n) {h:Int}
  (hh:∀ i,i < n + 1 -> hs' i = if i < below t.place j then hs i else if i = below t.place j then h else hs (i - 1)) (hp:jp5 t h j):jv1 (t.put j).1 hs' (n + 1):=by
 refine x0_6 (kd4 g hj he hf) fun gg _ hb hm hsl hpl=>?_
 have keep:∀ {h':Int} {k:Nat},jp5 t h' k -> jp5 (t.put j).1 h' k:=by
  rintro h' k ⟨s,e,b⟩
  have es:(t.put j).1.probeStart h' = t.probeStart h':=by rw [jr5,jr5,hm]
  refine ⟨s,by rw [hm,es]; exact e,fun m hm' z=>?_⟩
  rw [hm,es] at z
  exact b m hm' ((hsl _).mp z).1
 intro i hi
 rw [hpl,ka1 _ _ _ (by rw [g.size]; exact hb),hh i hi]
 by_cases h1:i < below t.place j
 ·rw [if_pos h1,if_pos h1]; exact keep (P i (by lia))
 ·rw [if_neg h1,if_neg h1]
  by_cases h2:i = below t.place j
  ·rw [if_pos h2,if_pos h2]; exact keep hp
  ·rw [if_neg h2,if_neg h2]; exact keep (P (i - 1) (by lia))
noncomputable def occ (owner:Array (Option Nat)) (j:Nat):Bool:=(owner.getD j (some 0)).isSome
noncomputable def st (mask:Nat) (h:Int):Probe:=grp mask (bits h % (mask + 1)) (bits h)
theorem jt3 {mask:Nat} (owner:Array (Option Nat)) (hz:owner.size = mask + 1):∀ (fuel i per n:Nat),i < mask + 1 -> n < fuel -> occ owner (G mask n i per).1 = false ->
  ∃ k j,layClean.free mask owner fuel i per = some j /\ (W mask (grp mask i per) k).j = j /\ j < mask + 1 /\ occ owner j = false /\ ∀ m,m < k -> occ owner (W mask (grp mask i per) m).j = true
 | fuel + 1,i,per,n,hi,hn,he=>by
  have hrun:runEnd mask i <= mask:=by unfold runEnd; split <;> lia
  have hge:i <= runEnd mask i:=by unfold runEnd; split <;> lia
  have hW:∀ m,m <= runEnd mask i - i -> (W mask (grp mask i per) m).j = i + m:=fun m hm=>by rw [qg4 mask m (grp mask i per) hm]; rfl
  unfold layClean.free
  cases hf:(List.range (runEnd mask i + 1 - i)).find? (fun k=>(owner.getD (i + k) (some 0)).isNone) with
  | some k =>
   dsimp only
   rw [List.find?_range_eq_some] at hf
   refine x0_3 hf fun a b c=>?_
   clear hf
   have hk:k < runEnd mask i + 1 - i:=List.mem_range.mp b
   refine ⟨k,i + k,rfl,hW k (by lia),by lia,?_,fun m hm=>?_⟩
   ·unfold occ
    cases q:owner.getD (i + k) (some 0) with
    | none=>rfl
    | some z=>rw [q] at a; cases a
   ·rw [hW m (by lia)]
    have q:=c m hm
    unfold occ
    cases q2:owner.getD (i + m) (some 0) with
    | none=>rw [q2] at q; cases q
    | some z=>rfl
  | none =>
   dsimp only
   rw [List.find?_range_eq_none] at hf
   have hall:∀ m,m < runEnd mask i + 1 - i -> occ owner (i + m) = true:=fun m hm=>by
    have q:=hf m hm
    unfold occ
    cases q2:owner.getD (i + m) (some 0) with
    | none=>rw [q2] at q; cases q
    | some z=>rfl
   cases n with
   | zero =>
    have:occ owner i = true:=by have:=hall 0 (by lia); rwa [Nat.add_zero] at this
    have he':occ owner i = false:=he
    rw [this] at he'; cases he'
   | succ n =>
    refine x2_5 (jt3 owner hz fuel (leap mask i per).1 (leap mask i per).2 n (Nat.mod_lt _ (Nat.succ_pos _)) (by lia) he) fun k j e1 e2 e3 e4 e5=>?_
    refine ⟨runEnd mask i - i + 1 + k,j,e1,by rw [jk7,ko2]; exact e2,e3,e4,fun m hm=>?_⟩
    by_cases hm1:m < runEnd mask i - i + 1
    ·rw [hW m (by lia)]; exact hall m (by lia)
    ·obtain ⟨r,rfl⟩ : ∃ r,m = runEnd mask i - i + 1 + r:=⟨m - (runEnd mask i - i + 1),by lia⟩
     rw [jk7,ko2]
     exact e5 r (by lia)
end Tb
end T_Tb2
section T_Tb3
namespace Tb
open PySem PySem.SetTable
theorem W_in {mask:Nat}:∀ (k:Nat) (p:Probe),p.j + p.more <= mask -> (W mask p k).j <= mask
 | 0,p,h=>by show p.j <= mask; lia
 | k + 1,p,h=>by
  refine W_in k (jg5 mask p) ?_
  unfold jg5
  split
  ·show p.j + 1 + (p.more - 1) <= mask; lia
  ·show (leap mask p.i p.perturb).1 + (runEnd mask (leap mask p.i p.perturb).1 - (leap mask p.i p.perturb).1) <= mask
   have:(leap mask p.i p.perturb).1 < mask + 1:=Nat.mod_lt _ (Nat.succ_pos _)
   unfold runEnd; split <;> lia
theorem qi9 (mask:Nat) (h:Int) (k:Nat):(W mask (st mask h) k).j <= mask:=by
 refine W_in k _ ?_
 show bits h % (mask + 1) + (runEnd mask (bits h % (mask + 1)) - bits h % (mask + 1)) <= mask
 have:bits h % (mask + 1) < mask + 1:=Nat.mod_lt _ (Nat.succ_pos _)
 unfold runEnd; split <;> lia
structure Own (mask:Nat) (hs:Nat -> Int) (owner:Array (Option Nat)) (q:Nat):Prop where
 size:owner.size = mask + 1
 lt:∀ (j a:Nat),owner[j]? = some (some a) -> a < q
 at':∀ (a:Nat),a < q -> ∃ j,owner[j]? = some (some a) /\ ∃ k,(W mask (st mask (hs a)) k).j = j /\ ∀ m,m < k -> occ owner (W mask (st mask (hs a)) m).j = true
 uniq:∀ (a j j':Nat),owner[j]? = some (some a) -> owner[j']? = some (some a) -> j = j'
 cnt:owner.toList.countP Option.isNone = mask + 1 - q
theorem kh3 (mask:Nat) (hs:Nat -> Int):Own mask hs (Array.replicate (mask + 1) none) 0:=by
 have no:∀ (j a:Nat),(Array.replicate (mask + 1) (none:Option Nat))[j]? ≠ some (some a):=fun j a h=>by
  rw [Array.getElem?_replicate] at h
  split at h <;> cases h
 refine ⟨by simp,fun j a h=>absurd h (no j a),fun a h=>absurd h (Nat.not_lt_zero _),fun a j _ h=>absurd h (no j a),?_⟩
 rw [Array.toList_replicate,List.countP_replicate]; rfl
theorem kv3 {owner:Array (Option Nat)} {j:Nat} (h:occ owner j = false):owner[j]? = some none:=by
 unfold occ at h
 rw [Array.getD_eq_getD_getElem?] at h
 cases q:owner[j]? with
 | none=>rw [q] at h; cases h
 | some z=>cases z with
  | none=>rfl
  | some _=>rw [q] at h; cases h
theorem jz6 {owner:Array (Option Nat)} {j:Nat} (h:owner[j]? = some none):occ owner j = false:=by
 unfold occ
 rw [Array.getD_eq_getD_getElem?,h]; rfl
theorem kz6 {owner:Array (Option Nat)} {j q:Nat} (hj:j < owner.size) (i:Nat):(owner.setIfInBounds j (some q))[i]? = if i = j then some (some q) else owner[i]?:=by
 rw [Array.getElem?_setIfInBounds]
 by_cases e:i = j
 ·subst e; simp [hj]
 ·rw [if_neg (fun z=>e z.symm),if_neg e]
theorem kq3 {mask:Nat} (hm:Msk mask) {hs:Nat -> Int} {owner:Array (Option Nat)} {q:Nat} (o:Own mask hs owner q) (hq:q < mask + 1) :
  ∃ j,layClean.free mask owner (turns mask) (bits (hs q) % (mask + 1)) (bits (hs q)) = some j /\ Own mask hs (owner.setIfInBounds j (some q)) (q + 1):=by
 have hc:0 < owner.toList.countP Option.isNone:=by rw [o.cnt]; lia
 refine x1_2 (List.countP_pos_iff.mp hc) fun x hx hn=>?_
 obtain ⟨e,he,ex⟩:=List.mem_iff_getElem.mp hx
 have hes:e < owner.size:=by rw [<- Array.length_toList]; exact he
 have e0:owner[e]? = some none:=by
  rw [<- Array.getElem?_toList,List.getElem?_eq_getElem he,ex]
  cases x with
  | none=>rfl
  | some _=>cases hn
 obtain ⟨n,hn',en⟩:=kn8 hm (hs q) (e:=e) (by rw [<- o.size]; exact hes)
 obtain ⟨k,j,f1,f2,f3,f4,f5⟩:=jt3 owner o.size (turns mask) (bits (hs q) % (mask + 1)) (bits (hs q)) n (Nat.mod_lt _ (Nat.succ_pos _)) (by unfold turns; lia) (by rw [en]; exact jz6 e0)
 refine ⟨j,f1,?_⟩
 have hj:j < owner.size:=by rw [o.size]; exact f3
 have g:=kz6 (q:=q) hj
 have jn:owner[j]? = some none:=kv3 f4
 have up:∀ i,occ owner i = true -> occ (owner.setIfInBounds j (some q)) i = true:=fun i h=>by
  unfold occ at h ⊢
  rw [Array.getD_eq_getD_getElem?] at h ⊢
  rw [g i]
  by_cases z:i = j
  ·rw [if_pos z]; rfl
  ·rw [if_neg z]; exact h
 refine ⟨by rw [Array.size_setIfInBounds]; exact o.size,fun i a h=>?_,fun a ha=>?_,fun a i i' h h'=>?_,?_⟩
 ·rw [g i] at h
  by_cases z:i = j
  ·rw [if_pos z] at h; cases h; lia
  ·rw [if_neg z] at h; have:=o.lt i a h; lia
 ·by_cases z:a = q
  ·subst z
   exact ⟨j,by rw [g,if_pos rfl],k,f2,fun m hm'=>up _ (f5 m hm')⟩
  ·obtain ⟨i,b1,k',b2,b3⟩:=o.at' a (by lia)
   refine ⟨i,?_,k',b2,fun m hm'=>up _ (b3 m hm')⟩
   rw [g,if_neg,b1]
   rintro rfl
   rw [jn] at b1; cases b1
 ·rw [g i] at h; rw [g i'] at h'
  by_cases z:i = j
  ·by_cases z':i' = j
   ·rw [z,z']
   ·rw [if_pos z] at h; rw [if_neg z'] at h'; cases h
    exact absurd (o.lt _ _ h') (Nat.lt_irrefl _)
  ·by_cases z':i' = j
   ·rw [if_neg z] at h; rw [if_pos z'] at h'; cases h'
    exact absurd (o.lt _ _ h) (Nat.lt_irrefl _)
   ·rw [if_neg z] at h; rw [if_neg z'] at h'; exact o.uniq a i i' h h'
 ·rw [Array.toList_setIfInBounds]
  have hj':j < owner.toList.length:=by rw [Array.length_toList]; exact hj
  rw [List.countP_set hj',o.cnt]
  have ej:owner.toList[j] = none:=by
   have q1:owner.toList[j]? = some none:=by rw [Array.getElem?_toList]; exact jn
   rw [List.getElem?_eq_getElem hj'] at q1
   exact Option.some.inj q1
  rw [ej]
  simp
  lia
theorem kb8 {mask:Nat} (hm:Msk mask) {hs:Nat -> Int}:∀ (l:List Int) (owner:Array (Option Nat)) (q:Nat),Own mask hs owner q -> q + l.length <= mask -> (∀ i,i < l.length -> l[i]? = some (hs (q + i))) ->
  ∃ owner',l.foldl (init:=some (owner,q)) (fun acc h=>do
   let (owner,k) <- acc
   let j <- layClean.free mask owner (turns mask) (bits h % (mask + 1)) (bits h)
   pure (owner.setIfInBounds j (some k),k + 1)) = some (owner',q + l.length) /\ Own mask hs owner' (q + l.length)
 | [],owner,q,o,_,_=>⟨owner,rfl,o⟩
 | h :: r,owner,q,o,hl,hh=>by
  have e0:h = hs q:=by have:=hh 0 (by simp); simpa using this
  obtain ⟨j,f1,o1⟩:=kq3 hm o (by simp only [List.length_cons] at hl; lia)
  obtain ⟨owner',e,o2⟩:=kb8 hm r (owner.setIfInBounds j (some q)) (q + 1) o1 (by simp only [List.length_cons] at hl; lia) (fun i hi=>by
   have:=hh (i + 1) (by simp; lia)
   simp only [List.getElem?_cons_succ] at this
   rw [this,show q + (i + 1) = q + 1 + i by lia])
  refine ⟨owner',?_,by rw [List.length_cons,show q + (r.length + 1) = q + 1 + r.length by lia]; exact o2⟩
  rw [List.foldl_cons]
  have e1:(do
   let (owner,k) <- (some (owner,q):Option (Array (Option Nat) × Nat))
   let j <- layClean.free mask owner (turns mask) (bits h % (mask + 1)) (bits h)
   pure (owner.setIfInBounds j (some k),k + 1)) = some (owner.setIfInBounds j (some q),q + 1):=by
   show (do
    let j <- layClean.free mask owner (turns mask) (bits h % (mask + 1)) (bits h)
    pure (owner.setIfInBounds j (some q),q + 1)) = _
   rw [e0,f1]; rfl
  rw [e1,e,List.length_cons,show q + (r.length + 1) = q + 1 + r.length by lia]
theorem kf0 {mask:Nat} (hm:Msk mask) (hashes:Array Int) (hn:hashes.size <= mask):∃ owner,layClean mask hashes = some owner /\ Own mask (fun i=>hashes.getD i 0) owner hashes.size:=by
 obtain ⟨owner,e,o⟩:=kb8 hm (hs:=fun i=>hashes.getD i 0) hashes.toList (Array.replicate (mask + 1) none) 0 (kh3 mask _) (by rw [Array.length_toList]; lia) (fun i hi=>by
  rw [Array.length_toList] at hi
  rw [Array.getElem?_toList,Nat.zero_add]
  simp [Array.getD,hi])
 rw [Array.length_toList,Nat.zero_add] at e o
 refine ⟨owner,?_,o⟩
 unfold layClean
 rw [<- Array.foldl_toList,e]; rfl
noncomputable def live (mask:Nat) (owner:Array (Option Nat)):List (Nat × Nat):=(List.range (mask + 1)).filterMap fun j=>(owner.getD j none).map (j,·)
theorem jq0 {mask:Nat} {owner:Array (Option Nat)} (hz:owner.size = mask + 1) {j a:Nat}:(j,a) ∈ live mask owner ↔ owner[j]? = some (some a):=by
 unfold live
 rw [List.mem_filterMap]
 constructor
 ·rintro ⟨x,hx,e⟩
  cases q:owner.getD x none with
  | none=>rw [q] at e; cases e
  | some b =>
   rw [q] at e
   cases e
   rw [Array.getD_eq_getD_getElem?] at q
   cases q2:owner[j]? with
   | none=>rw [q2] at q; cases q
   | some z=>rw [q2] at q; have q:z = some a:=q; rw [q]
 ·intro h
  have hj:j < owner.size:=(Array.getElem?_eq_some_iff.mp h).1
  exact ⟨j,List.mem_range.mpr (by lia),by rw [Array.getD_eq_getD_getElem?,h]; rfl⟩
theorem ko3 (mask:Nat) (owner:Array (Option Nat)):(live mask owner).Pairwise fun x y=>x.1 < y.1:=by
 unfold live
 refine List.Pairwise.filterMap _ ?_ List.pairwise_lt_range
 intro a a' haa b hb b' hb'
 cases q:owner.getD a none with
 | none=>rw [q] at hb; cases hb
 | some z =>
  cases q':owner.getD a' none with
  | none=>rw [q'] at hb'; cases hb'
  | some z' =>
   rw [q] at hb; rw [q'] at hb'
   cases hb; cases hb'
   exact haa
theorem js7 {owner:Array (Option Nat)} {n:Nat} (hz:owner.size = n):owner.toList = (List.range n).map fun j=>owner.getD j none:=by
 refine List.ext_getElem? fun i=>?_
 rw [Array.getElem?_toList,List.getElem?_map]
 by_cases h:i < n
 ·rw [List.getElem?_range h]
  have h':i < owner.size:=by lia
  simp [Array.getD,h']
 ·rw [Array.getElem?_eq_none (by lia),List.getElem?_eq_none (by simp; lia)]; rfl
theorem kr6 {mask:Nat} {hs:Nat -> Int} {owner:Array (Option Nat)} {n:Nat} (o:Own mask hs owner n) (hn:n <= mask + 1):(live mask owner).length = n:=by
 unfold live
 rw [List.length_filterMap_eq_countP]
 have e1:List.countP (fun j=>((owner.getD j none).map fun x=>(j,x)).isSome) (List.range (mask + 1)) = owner.toList.countP Option.isSome:=by
  rw [js7 o.size,List.countP_map]
  congr 1
  funext j
  simp
 rw [e1]
 have e2:=List.length_eq_countP_add_countP (p:=Option.isNone) (l:=owner.toList)
 rw [o.cnt,Array.length_toList,o.size] at e2
 have e3:owner.toList.countP Option.isSome = List.countP (fun a=>decide ¬ (Option.isNone a = true)) owner.toList:=by
  congr 1
  funext a
  cases a <;> rfl
 lia
theorem kj7 {mask n:Nat} (hm:Msk mask) (hashes:Array Int) (hz:hashes.size = n) (hn:n < mask) (finger moves:Nat) (led plain:Bool) :
  ∃ t' order,laid mask finger moves led plain hashes = some (t',order) /\ Good t' n /\ t'.mask = mask /\ t'.led = led /\ t'.plain = plain /\ order.size = n /\ (∀ m,m < n -> order.getD m 0 < n) /\
   (∀ m m',m < n -> m' < n -> order.getD m 0 = order.getD m' 0 -> m = m') /\ (∀ a,a < n -> ∃ m,m < n /\ order.getD m 0 = a) /\ jv1 t' (fun m=>hashes.getD (order.getD m 0) 0) n:=by
 refine x1_2 (kf0 hm hashes (by lia)) fun owner e o=>?_
 rw [hz] at o
 have ll:=kr6 o (by lia)
 refine ⟨{ mask,place:=((live mask owner).map (·.1)).toArray,dummies:=#[],finger,led,moves,plain },((live mask owner).map (·.2)).toArray,?_,?_⟩
 ·unfold laid
  rw [e]; rfl
 have gp:∀ m,m < n -> ∃ j a,(live mask owner)[m]? = some (j,a) /\ (((live mask owner).map (·.1)).toArray).getD m 0 = j /\ (((live mask owner).map (·.2)).toArray).getD m 0 = a /\ owner[j]? = some (some a):=fun m h=>by
  have h':m < (live mask owner).length:=by lia
  refine ⟨((live mask owner)[m]).1,((live mask owner)[m]).2,List.getElem?_eq_getElem h',?_,?_,(jq0 o.size).mp (List.getElem_mem h')⟩
  ·simp [Array.getD,h']
  ·simp [Array.getD,h']
 have pw:=List.pairwise_iff_getElem.mp (ko3 mask owner)
 have rise:Rises (((live mask owner).map (·.1)).toArray):=fun i j hij hj=>by
  have hj:j < (live mask owner).length:=by simpa using hj
  have hi:i < (live mask owner).length:=by lia
  have:=pw i j hi hj hij
  simpa [Array.getD,hi,hj] using this
 have good:Good { mask,place:=((live mask owner).map (·.1)).toArray,dummies:=#[],finger,led,moves,plain } n:=by
  refine ⟨by simp [ll],rise,fun i hi=>?_,rfl,hm,hn⟩
  refine x2_4 (gp i hi) fun j a _ e2 _ e4=>?_
  show (((live mask owner).map (·.1)).toArray).getD i 0 <= mask
  rw [e2]
  have:=(Array.getElem?_eq_some_iff.mp e4).1
  have:=o.size
  lia
 refine ⟨good,rfl,rfl,rfl,by simp [ll],fun m h=>?_,fun m m' h h' q=>?_,fun a h=>?_,fun m h=>?_⟩
 ·refine x2_4 (gp m h) fun j a _ _ e3 e4=>?_
  rw [e3]; exact o.lt j a e4
 ·refine x2_4 (gp m h) fun j a _ e2 e3 e4=>?_
  refine x2_4 (gp m' h') fun j' a' _ e2' e3' e4'=>?_
  rw [e3,e3'] at q
  subst q
  have ej:=o.uniq a j j' e4 e4'
  rcases Nat.lt_trichotomy m m' with z | z | z
  ·have:=rise m m' z (by simp [ll]; exact h'); lia
  ·exact z
  ·have:=rise m' m z (by simp [ll]; exact h); lia
 ·refine x1_2 (o.at' a h) fun j b _=>?_
  obtain ⟨m,hm',em⟩:=List.mem_iff_getElem.mp ((jq0 (mask:=mask) o.size).mpr b)
  refine ⟨m,by lia,?_⟩
  simp [Array.getD,hm',em]
 ·refine x2_4 (gp m h) fun j a _ e2 e3 e4=>?_
  obtain ⟨j',b1,k,b2,b3⟩:=o.at' a (o.lt j a e4)
  have ej:=o.uniq a j j' e4 b1
  subst ej
  dsimp only
  rw [e2,e3]
  refine ⟨k,b2,fun m' hm' z=>?_⟩
  have z:=(Q0 good _).mp z
  have oc:=b3 m' hm'
  have inr:(W mask (st mask (hashes.getD a 0)) m').j <= mask:=qi9 mask _ m'
  unfold occ at oc
  rw [Array.getD_eq_getD_getElem?] at oc
  cases q:owner[(W mask (st mask (hashes.getD a 0)) m').j]? with
  | none =>
   have:=Array.getElem?_eq_none_iff.mp q
   have:=o.size
   lia
  | some x =>
   cases x with
   | none=>rw [q] at oc; cases oc
   | some b =>
    obtain ⟨r,hr,er⟩:=List.mem_iff_getElem.mp ((jq0 (mask:=mask) o.size).mpr q)
    refine z r (by lia) ?_
    dsimp only
    simp [Array.getD,hr,er]
    rfl
end Tb
end T_Tb3
section T_So
namespace So
open PySem PySem.W PyProof.Rows
noncomputable def Rn (r:Nat -> Nat) (n:Nat) {α:Type}:KasT α -> (α -> Prop) -> Prop
 | .ret a,P=>P a
 | .ask i j k,P=>i < n /\ j < n /\ Rn r n (k (decide (r i < r j))) P
theorem Rn.mono {r:Nat -> Nat} {n:Nat} {α:Type} {P P':α -> Prop} (h:∀ a,P a -> P' a):∀ (t:KasT α),Rn r n t P -> Rn r n t P'
 | .ret a,q=>h a q
 | .ask i j k,q=>⟨q.1,q.2.1,Rn.mono h _ q.2.2⟩
theorem Rn.bind {r:Nat -> Nat} {n:Nat} {α β:Type} {f:α -> KasT β} {P:β -> Prop}:∀ (t:KasT α),Rn r n t (fun a=>Rn r n (f a) P) -> Rn r n (t.bind f) P
 | .ret a,q=>q
 | .ask i j k,q=>⟨q.1,q.2.1,Rn.bind (k _) q.2.2⟩
section
variable {r:Nat -> Nat} {n:Nat}
noncomputable def vl (r:Nat -> Nat) (p:Array Nat) (k:Nat):Nat:=r (p.getD k 0)
noncomputable def Up (r:Nat -> Nat) (p:Array Nat) (a:Nat):Prop:=∀ i j,i <= j -> j < a -> vl r p i <= vl r p j
noncomputable def Dn (r:Nat -> Nat) (p:Array Nat) (a:Nat):Prop:=∀ i j,i <= j -> j < a -> vl r p j <= vl r p i
noncomputable def Lt (n:Nat) (p:Array Nat):Prop:=∀ k,p.getD k 0 < n
theorem qi8 {p:Array Nat} (hn:0 < n) (h:∀ x ∈ p,x < n):Lt n p:=fun k=>by
 rw [Array.getD_eq_getD_getElem?]
 cases q:p[k]? with
 | none=>exact hn
 | some x=>exact h x (Array.mem_of_getElem? q)
theorem Lt.perm {p p':Array Nat} (hn:0 < n) (h:Lt n p) (e:p'.Perm p):Lt n p':=qi8 hn fun x hx=>by
 have hx:=e.mem_iff.mp hx
 obtain ⟨i,hi,ei⟩:=Array.mem_iff_getElem.mp hx
 have:=h i
 simp [Array.getD,hi,ei] at this
 exact this
theorem kt2 {p:Array Nat} {i j:Nat} (hj:j <= p.size) (k:Nat):(kas_rev p i j).getD k 0 = if i <= k /\ k < j then p.getD (i + j - 1 - k) 0 else p.getD k 0:=by
 rw [Array.getD_eq_getD_getElem?]
 unfold kas_rev
 rw [getElem?_mirror_all hj]
 split <;> rw [Array.getD_eq_getD_getElem?]
theorem jo4 {p:Array Nat} {i j:Nat} (hj:j <= p.size) (k:Nat):vl r (kas_rev p i j) k = if i <= k /\ k < j then vl r p (i + j - 1 - k) else vl r p k:=by
 unfold vl
 rw [kt2 hj]
 split <;> rfl
theorem ja6 (p:Array Nat) (i j:Nat):(kas_rev p i j).Perm p:=mirror_perm _ _ _ _
theorem jc7 (p:Array Nat) (i j:Nat):(kas_rev p i j).size = p.size:=mirror_size _ _ _ _
theorem km9 {p:Array Nat} (hp:Lt n p):∀ (f a:Nat),1 <= a -> Up r p a -> Rn r n (kas_asc p f a) fun m=>a <= m /\ m <= a + f /\ Up r p m /\ (m = a + f \/ vl r p m < vl r p (m - 1))
 | 0,a,_,hu=>⟨Nat.le_refl _,by lia,hu,.inl rfl⟩
 | f + 1,a,ha,hu=>by
  refine ⟨hp _,hp _,?_⟩
  dsimp only
  by_cases c:r (p.getD a 0) < r (p.getD (a - 1) 0)
  ·rw [decide_eq_true c,if_pos rfl]
   exact ⟨Nat.le_refl _,by lia,hu,.inr c⟩
  ·rw [decide_eq_false c,if_neg (by simp)]
   refine Rn.mono (fun m h=>⟨by lia,by lia,h.2.2.1,?_⟩) _ (km9 hp f (a + 1) (by lia) fun i j hij hj=>?_)
   ·rcases h.2.2.2 with h | h
    ·left; lia
    ·exact .inr h
   ·by_cases hj':j < a
    ·exact hu i j hij hj'
    ·have e:j = a:=by lia
     subst e
     by_cases hi:i = j
     ·subst hi; exact Nat.le_refl _
     ·have q:=hu i (j - 1) (by lia) (by lia)
      unfold vl at q ⊢
      lia
theorem jr7 (hn:0 < n):∀ (f:Nat) (p:Array Nat) (a q:Nat),Lt n p -> 1 <= a -> a + f <= p.size -> Dn r p a -> q + 1 <= a -> (∀ i,a - (q + 1) <= i -> i < a -> vl r p i = vl r p (a - 1)) ->
  Rn r n (kas_desc f p a q) fun z=>z.1.Perm p /\ z.1.size = p.size /\ a <= z.2.1 /\ z.2.1 <= a + f /\ Dn r z.1 z.2.1 /\ z.2.2 + 1 <= z.2.1 /\ (∀ i,z.2.1 - (z.2.2 + 1) <= i -> i < z.2.1 -> vl r z.1 i = vl r z.1 (z.2.1 - 1))
 | 0,p,a,q,_,_,_,hd,hq,he=>⟨.refl _,rfl,Nat.le_refl _,Nat.le_add_right _ _,hd,hq,he⟩
 | f + 1,p,a,q,hp,ha,hz,hd,hq,he=>by
  refine ⟨hp _,hp _,?_⟩
  dsimp only
  by_cases c:r (p.getD a 0) < r (p.getD (a - 1) 0)
  ·rw [decide_eq_true c,if_pos rfl]
   have step:∀ p':Array Nat,(∀ k,vl r p' k = vl r p k) -> Dn r p' (a + 1):=fun p' hv i j hij hj=>by
    rw [hv,hv]
    by_cases hj':j < a
    ·exact hd i j hij hj'
    ·have e:j = a:=by lia
     subst e
     by_cases hi:i = j
     ·subst hi; exact Nat.le_refl _
     ·have:=hd i (j - 1) (by lia) (by lia)
      unfold vl at this ⊢
      lia
   by_cases hq0:q > 0
   ·rw [if_pos hq0]
    have hv:∀ k,vl r (kas_rev p (a - (q + 1)) a) k = vl r p k:=fun k=>by
     rw [jo4 (by lia)]
     split
     ·rename_i hk
      rw [he _ (by lia) (by lia),he k hk.1 hk.2]
     ·rfl
    refine Rn.mono (fun z h=>⟨h.1.trans (ja6 _ _ _),h.2.1.trans (jc7 _ _ _),by lia,by lia,h.2.2.2.2⟩) _
     (jr7 hn f (kas_rev p (a - (q + 1)) a) (a + 1) 0 (hp.perm hn (ja6 _ _ _)) (by lia) (by rw [jc7]; lia) (step _ hv) (by lia) fun i h1 h2=>?_)
    have:i = a:=by lia
    subst this; rfl
   ·rw [if_neg hq0]
    refine Rn.mono (fun z h=>⟨h.1,h.2.1,by lia,by lia,h.2.2.2.2⟩) _ (jr7 hn f p (a + 1) 0 hp (by lia) (by lia) (step p fun _=>rfl) (by lia) fun i h1 h2=>?_)
    have:i = a:=by lia
    subst this; rfl
  ·rw [decide_eq_false c,if_neg (by simp)]
   refine ⟨hp _,hp _,?_⟩
   dsimp only
   by_cases d:r (p.getD (a - 1) 0) < r (p.getD a 0)
   ·rw [decide_eq_true d,if_pos rfl]
    exact ⟨.refl _,rfl,Nat.le_refl _,Nat.le_add_right _ _,hd,hq,he⟩
   ·rw [decide_eq_false d,if_neg (by simp)]
    have eq:vl r p a = vl r p (a - 1):=by unfold vl; lia
    refine Rn.mono (fun z h=>⟨h.1,h.2.1,by lia,by lia,h.2.2.2.2⟩) _ (jr7 hn f p (a + 1) (q + 1) hp (by lia) (by lia) (fun i j hij hj=>?_) (by lia) fun i h1 h2=>?_)
    ·by_cases hj':j < a
     ·exact hd i j hij hj'
     ·have e:j = a:=by lia
      subst e
      by_cases hi:i = j
      ·subst hi; exact Nat.le_refl _
      ·rw [eq]; exact hd i (j - 1) (by lia) (by lia)
    ·show vl r p i = vl r p a
     by_cases hi:i = a
     ·subst hi; rfl
     ·rw [eq]; exact he i (by lia) (by lia)
noncomputable def Out (r:Nat -> Nat) (p₀:Array Nat) (nrem:Nat) (z:Nat × Array Nat):Prop:=z.2.Perm p₀ /\ z.2.size = p₀.size /\ 1 <= z.1 /\ z.1 <= nrem /\ Up r z.2 z.1
theorem kb9 (hn:0 < n) {p:Array Nat} {a nrem:Nat} (hp:Lt n p) (h1:1 <= a) (h2:a <= nrem) (hz:nrem <= p.size) (hd:Dn r p a):Rn r n (kas_tail3 a nrem p) (Out r p nrem):=by
 unfold kas_tail3
 refine Rn.bind _ (Rn.mono (fun m h=>?_) _ (km9 (r:=r) (hp.perm hn (ja6 p 0 a)) (nrem - a) a h1 fun i j hij hj=>?_))
 ·exact ⟨ja6 _ _ _,jc7 _ _ _,by show 1 <= m; lia,by show m <= nrem; lia,h.2.2.1⟩
 ·rw [jo4 (by lia),jo4 (by lia),if_pos (by lia),if_pos (by lia)]
  exact hd _ _ (by lia) (by lia)
theorem jm8 (hn:0 < n) {p:Array Nat} {a nrem:Nat} (hp:Lt n p) (h2:a + 1 <= nrem) (hz:nrem <= p.size) (hd:Dn r p (a + 1)):Rn r n (kas_descPart a nrem p) (Out r p nrem):=by
 unfold kas_descPart
 refine Rn.bind _ (Rn.mono (fun z h=>?_) _ (jr7 (r:=r) hn (nrem - (a + 1)) p (a + 1) 0 hp (by lia) (by lia) hd (by lia) fun i h1 h2=>by
  have:i = a:=by lia
  subst this; rfl))
 refine x0_7 h fun z1 z2 z3 z4 z5 z6 z7=>?_
 clear h
 split
 ·have hv:∀ k,vl r (kas_rev z.1 (z.2.1 - (z.2.2 + 1)) z.2.1) k = vl r z.1 k:=fun k=>by
   rw [jo4 (by lia)]
   split
   ·rename_i hk
    rw [z7 _ (by lia) (by lia),z7 k hk.1 hk.2]
   ·rfl
  refine Rn.mono (fun y h=>?_) _ (kb9 hn ((hp.perm hn z1).perm hn (ja6 _ _ _)) (by lia) (by lia) (by rw [jc7]; lia) fun i j hij hj=>by rw [hv,hv]; exact z5 i j hij hj)
  exact ⟨h.1.trans ((ja6 _ _ _).trans z1),h.2.1.trans ((jc7 _ _ _).trans z2),h.2.2⟩
 ·refine Rn.mono (fun y h=>?_) _ (kb9 hn (hp.perm hn z1) (by lia) (by lia) (by lia) z5)
  exact ⟨h.1.trans z1,h.2.1.trans z2,h.2.2⟩
theorem kr9 (hn:0 < n) {p:Array Nat} {nrem:Nat} (hp:Lt n p) (h1:1 <= nrem) (hz:nrem <= p.size):Rn r n (kas_count nrem p) (Out r p nrem):=by
 unfold kas_count
 refine Rn.bind _ (Rn.mono (fun m h=>?_) _ (km9 (r:=r) hp (nrem - 1) 1 (Nat.le_refl _) fun i j hij hj=>by
  have:i = j:=by lia
  subst this; exact Nat.le_refl _))
 refine x0_4 h fun a1 a2 a3 a4=>?_
 clear h
 by_cases e:m = nrem
 ·rw [if_pos (beq_iff_eq.mpr e)]
  exact ⟨.refl _,rfl,a1,by show m <= nrem; lia,a3⟩
 ·rw [if_neg (fun z=>e (beq_iff_eq.mp z))]
  have hlt:vl r p m < vl r p (m - 1):=by
   rcases a4 with a4 | a4
   ·lia
   ·exact a4
  by_cases g:m > 1
  ·rw [if_pos g]
   refine ⟨hp _,hp _,?_⟩
   dsimp only
   by_cases c:r (p.getD 0 0) < r (p.getD (m - 1) 0)
   ·rw [decide_eq_true c,if_pos rfl]
    exact ⟨.refl _,rfl,a1,by show m <= nrem; lia,a3⟩
   ·rw [decide_eq_false c,if_neg (by simp)]
    have all:∀ k,k < m -> vl r p k = vl r p (m - 1):=fun k hk=>by
     have b1:=a3 0 k (by lia) hk
     have b2:=a3 k (m - 1) (by lia) (by lia)
     unfold vl at b1 b2 ⊢
     lia
    refine Rn.mono (fun y h=>⟨h.1.trans (ja6 _ _ _),h.2.1.trans (jc7 _ _ _),h.2.2⟩) _ (jm8 hn (hp.perm hn (ja6 p 0 m)) (by lia) (by rw [jc7]; lia) fun i j hij hj=>?_)
    rw [jo4 (by lia),jo4 (by lia)]
    by_cases hj':j < m
    ·rw [if_pos (by lia),if_pos (by lia),all _ (by lia),all (0 + m - 1 - i) (by lia)]
     exact Nat.le_refl _
    ·have ej:j = m:=by lia
     subst ej
     rw [if_neg (show ¬ (0 <= j /\ j < j) by lia)]
     by_cases hi:i < j
     ·rw [if_pos (show 0 <= i /\ i < j by lia),all (0 + j - 1 - i) (by lia)]; exact Nat.le_of_lt hlt
     ·have:i = j:=by lia
      subst this
      rw [if_neg (show ¬ (0 <= i /\ i < i) by lia)]
      exact Nat.le_refl _
  ·rw [if_neg g]
   have em:m = 1:=by lia
   subst em
   refine jm8 hn hp (by lia) hz fun i j hij hj=>?_
   by_cases hi:i = j
   ·subst hi; exact Nat.le_refl _
   ·have e1:i = 0:=by lia
    have e2:j = 1:=by lia
    subst e1; subst e2
    exact Nat.le_of_lt hlt
theorem js0 {p:Array Nat} {k:Nat} (hp:Lt n p) (hu:Up r p k):∀ (f l q:Nat),q <= k -> q - l <= f -> l <= q -> (∀ i,i < l -> vl r p i <= vl r p k) -> (∀ i,q <= i -> i < k -> vl r p k < vl r p i) ->
  Rn r n (kas_place p k f l q) fun m=>m <= k /\ (∀ i,i < m -> vl r p i <= vl r p k) /\ (∀ i,m <= i -> i < k -> vl r p k < vl r p i)
 | 0,l,q,h1,h2,h3,a,b=>by
  have:q = l:=by lia
  subst this
  exact ⟨h1,a,b⟩
 | f + 1,l,q,h1,h2,h3,a,b=>by
  unfold kas_place
  by_cases hc:l ≥ q
  ·rw [if_pos hc]
   have:q = l:=by lia
   subst this
   exact ⟨h1,a,b⟩
  ·rw [if_neg hc]
   refine ⟨hp _,hp _,?_⟩
   dsimp only
   by_cases c:r (p.getD k 0) < r (p.getD ((l + q) / 2) 0)
   ·rw [decide_eq_true c,if_pos rfl]
    refine js0 hp hu f l ((l + q) / 2) (by lia) (by lia) (by lia) a fun i hi hk=>?_
    have:=hu ((l + q) / 2) i hi hk
    unfold vl at this ⊢
    lia
   ·rw [decide_eq_false c,if_neg (by simp)]
    refine js0 hp hu f ((l + q) / 2 + 1) q h1 (by lia) (by lia) (fun i hi=>?_) b
    have:=hu i ((l + q) / 2) (by lia) (by lia)
    unfold vl at this ⊢
    lia
theorem qm2 {p:Array Nat} {k l:Nat} (hk:k < p.size) (hl:l <= k) (j:Nat):vl r (bubble p k (k - l)) j = if j = l then vl r p k else if l < j /\ j <= k then vl r p (j - 1) else vl r p j:=by
 unfold vl
 have e:(bubble p k (k - l)).getD j 0 = if j = l then p.getD k 0 else if l < j /\ j <= k then p.getD (j - 1) 0 else p.getD j 0:=by
  rw [Array.getD_eq_getD_getElem?,getElem?_bubble hk (k - l) (by lia),show k - (k - l) = l by lia]
  by_cases c1:j = l
  ·rw [if_pos c1,if_pos c1,Array.getD_eq_getD_getElem?]
  ·rw [if_neg c1,if_neg c1]
   by_cases c2:l < j /\ j <= k
   ·rw [if_pos c2,if_pos c2,Array.getD_eq_getD_getElem?]
   ·rw [if_neg c2,if_neg c2,Array.getD_eq_getD_getElem?]
 rw [e]
 by_cases c1:j = l
 ·rw [if_pos c1,if_pos c1]
 ·rw [if_neg c1,if_neg c1]
  by_cases c2:l < j /\ j <= k
  ·rw [if_pos c2,if_pos c2]
  ·rw [if_neg c2,if_neg c2]
theorem kw5 (hn:0 < n):∀ (f:Nat) (p:Array Nat) (k:Nat),Lt n p -> k + f <= p.size -> Up r p k -> Rn r n (kas_bin f p k) fun z=>z.Perm p /\ z.size = p.size /\ Up r z (k + f)
 | 0,p,k,_,_,hu=>⟨.refl _,rfl,hu⟩
 | f + 1,p,k,hp,hz,hu=>by
  unfold kas_bin
  refine Rn.bind _ (Rn.mono (fun l h=>?_) _ (js0 hp hu k 0 k (Nat.le_refl _) (by lia) (by lia) (fun i hi=>absurd hi (Nat.not_lt_zero _)) (fun i h1 h2=>by lia)))
  refine x0_3 h fun h1 h2 h3=>?_
  clear h
  have bv:=qm2 (r:=r) (p:=p) (k:=k) (l:=l) (by lia) h1
  have up:Up r (bubble p k (k - l)) (k + 1):=fun i j hij hj=>by
   have eq1:∀ x,x = l -> vl r (bubble p k (k - l)) x = vl r p k:=fun x hx=>by rw [bv x,if_pos hx]
   have eq2:∀ x,l < x -> x <= k -> vl r (bubble p k (k - l)) x = vl r p (x - 1):=fun x hx hx'=>by rw [bv x,if_neg (show ¬ x = l by lia),if_pos ⟨hx,hx'⟩]
   have eq3:∀ x,x < l -> vl r (bubble p k (k - l)) x = vl r p x:=fun x hx=>by rw [bv x,if_neg (show ¬ x = l by lia),if_neg (show ¬ (l < x /\ x <= k) by lia)]
   by_cases c1:j = l
   ·rw [eq1 j c1]
    by_cases c2:i = l
    ·rw [eq1 i c2]; exact Nat.le_refl _
    ·rw [eq3 i (by lia)]; exact h2 i (by lia)
   ·by_cases c2:l < j
    ·rw [eq2 j c2 (by lia)]
     by_cases c3:i = l
     ·rw [eq1 i c3]; exact Nat.le_of_lt (h3 (j - 1) (by lia) (by lia))
     ·by_cases c4:l < i
      ·rw [eq2 i c4 (by lia)]; exact hu (i - 1) (j - 1) (by lia) (by lia)
      ·rw [eq3 i (by lia)]; exact hu i (j - 1) (by lia) (by lia)
    ·rw [eq3 j (by lia),eq3 i (by lia)]; exact hu i j hij (by lia)
  refine Rn.mono (fun z h=>⟨h.1.trans (bubble_perm _ _ _),h.2.1.trans (bubble_size _ _ _),by rw [show k + (f + 1) = k + 1 + f by lia]; exact h.2.2⟩) _
   (kw5 hn f (bubble p k (k - l)) (k + 1) (hp.perm hn (bubble_perm _ _ _)) (by rw [bubble_size]; lia) up)
theorem kz5 {n:Nat} (r:Nat -> Nat) (h:0 < n):Rn r n (kas_sort n) fun z=>z.Perm (List.range n).toArray /\ z.size = n /\ Up r z n:=by
 unfold kas_sort
 have hl:Lt n (List.range n).toArray:=qi8 h fun x hx=>by simpa using hx
 refine Rn.bind _ (Rn.mono (fun z q=>?_) _ (kr9 (r:=r) h hl (by lia) (by simp)))
 refine x0_5 q fun q1 q2 q3 q4 q5=>?_
 clear q
 have sz:z.2.size = n:=by rw [q2]; simp
 split
 ·rw [Nat.max_eq_left q3]
  refine Rn.mono (fun y u=>⟨u.1.trans q1,u.2.1.trans sz,?_⟩) _ (kw5 (r:=r) h (n - z.1) z.2 z.1 (hl.perm h q1) (by lia) q5)
  have:=u.2.2
  rw [show z.1 + (n - z.1) = n by lia] at this
  exact this
 ·refine ⟨q1,sz,?_⟩
  have:z.1 = n:=by lia
  rw [this] at q5; exact q5
end
end So
end T_So
section T_So2
namespace So
open PySem PySem.W PyProof.Rows
noncomputable def kk9 (a:Addr) (h h':Heap):Prop:=∀ b o,b ≠ a -> h.get? b = some o -> h'.get? b = some o
section
variable {prog:Program} {w:World} {A:Around} {E:Value -> Shared -> Prop} {s:Shared} {a:Addr} {vs:List Value} {kd:SortKind} {r:Nat -> Nat}
theorem qm0 {n:Nat} {α:Type} {cmp:Nat -> Nat -> (Bool -> Shared -> Prop) -> Shared -> Prop} {Q:α -> Shared -> Prop} {P:α -> Prop} (hc:∀ i j C,i < n -> j < n -> C (decide (r i < r j)) s -> cmp i j C s) (hq:∀ x,P x -> Q x s) :
  ∀ t:KasT α,Rn r n t P -> t.kasWp cmp Q s
 | .ret x,h=>hq x h
 | .ask i j k,h=>hc i j _ h.1 h.2.1 (qm0 hc hq _ h.2.2)
theorem jw5 {n:Nat} {P:PySem.Fin -> Shared -> Prop} (ho:s.heap.get? a = some (seqObj "list" vs.toArray n)) (h64:vs.length < 64)
  (hkind:2 <= vs.length -> ∀ h' Q,kk9 a s.heap h' -> Q kd { s with heap:=h' } -> wpAny (model prog w) A (keyKind' vs.toArray) Q E { s with heap:=h' })
  (hlt:2 <= vs.length -> ∀ h' i j C,kk9 a s.heap h' -> i < vs.length -> j < vs.length -> C (decide (r i < r j)) { s with heap:=h' } -> wpAny (model prog w) A (keyLt' kd (vs.getD i Value.none) (vs.getD j Value.none)) C (fun _ _=>False) { s with heap:=h' })
  (h:∀ h' n' (p:Array Nat),kk9 a s.heap h' -> p.Perm (List.range vs.length).toArray -> Up r p vs.length -> h'.get? a = some (seqObj "list" (p.toList.map fun i=>vs.getD i Value.none).toArray n') -> P (.done (.ret .none)) { s with heap:=h' }) :
  wpAny (model prog w) A (Builtin.«list.sort» ⟨[.ref a],[]⟩) P E s:=by
 have ha:a < s.heap.objs.size:=Heap.lt_size ho
 have line:sizeLine = 16777216 \/ 64 <= sizeLine:=.inr (by rw [sizeLine_eq]; decide)
 have big:64 <= sizeLine:=by rw [sizeLine_eq]; decide
 have sb1:=Heap.SameBut.update s.heap a (Obj.mapSeq fun _=>(#[]:Array Value))
 obtain ⟨e1,ho1⟩ : ∃ e1,(s.heap.update a (Obj.mapSeq fun _=>(#[]:Array Value))).get? a = some (seqObj "list" #[] e1):=⟨_,get?_update_seq ho fun _=>#[]⟩
 rw [list_sort_plain]
 refine wpAny_bind (listItems_at ho rfl (wpAny_bind (listUpdate_at ho rfl ?_ (by rw [List.size_toArray]; lia) (Nat.zero_le _))))
 refine wpAny_bind (seqEpoch_at ho1 rfl (wpAny_bind (wpAny_newTuple ?_ (by show vs.length <= _; lia))))
 refine wpAny_bind (wpAny_newList ?_ (Nat.zero_le _))
 refine wpAny_holding ?_
 generalize hG:((s.heap.update a (Obj.mapSeq fun _=>(#[]:Array Value))).push (seqObj "tuple" vs.toArray 0)).push (seqObj "list" #[] 0) = g
 have kg:kk9 a s.heap g:=fun b o hb e=>by
  rw [<- hG]
  exact Heap.get?_push_of_some _ (Heap.get?_push_of_some _ (by rw [sb1.2 b hb]; exact e))
 have ag:g.get? a = some (seqObj "list" #[] e1):=by rw [<- hG]; exact Heap.get?_push_of_some _ (Heap.get?_push_of_some _ ho1)
 show wpAny (model prog w) A _ P E { s with heap:=g }
 dsimp only
 have fin:∀ (p:Array Nat),p.size = vs.length -> p.Perm (List.range vs.length).toArray -> Up r p vs.length -> P (.done (.ret .none)) { s with heap:=g.update a (Obj.mapSeq fun _=>(p.toList.map fun i=>vs.getD i Value.none).toArray) }:=fun p hp h1 h2=>by
  have sb2:=Heap.SameBut.update g a (Obj.mapSeq fun _=>(p.toList.map fun i=>vs.getD i Value.none).toArray)
  exact h _ _ p (fun b o hb e=>by rw [sb2.2 b hb]; exact kg b o hb e) h1 h2 (get?_update_seq ag fun _=>_)
 have psz:∀ (p:Array Nat),p.size = vs.length -> (p.toList.map fun i=>vs.getD i Value.none).toArray.size <= sizeLine + 1:=fun p hp=>by
  rw [List.size_toArray,List.length_map,Array.length_toList,hp]; lia
 by_cases h2:vs.toArray.size < 2
 ·rw [if_pos h2,if_pos h2]
  refine wpAny_bind (wpAny_pure ?_)
  rw [StateT.run_pure]
  refine wpAny_bind (wpAny_pure ?_)
  dsimp only
  have h2':vs.length < 2:=by rw [<- List.size_toArray]; exact h2
  have ids:(List.range vs.length).toArray.toList.map (fun i=>vs.getD i Value.none) = vs:=by
   show (List.range vs.length).map (fun i=>vs.getD i Value.none) = vs
   refine List.ext_getElem (by simp) fun i h1 h2=>?_
   simp at h1
   simp [h1]
  have out:(arrOf (SortSt.mk' general' (vs.toArray.zip vs.toArray) #[] 7 none)).map (·.2) = ((List.range vs.length).toArray.toList.map fun i=>vs.getD i Value.none).toArray:=by
   rw [ids]
   show (vs.toArray.zip vs.toArray).map (·.2) = _
   apply Array.toList_inj.mp
   rw [Array.toList_map,Array.toList_zip]
   exact List.map_snd_zip (Nat.le_refl _)
  rw [out]
  have rs:(List.range vs.length).toArray.size = vs.length:=by rw [List.size_toArray,List.length_range]
  refine wpAny_bind (seqEpoch_at ag rfl ?_)
  refine wpAny_bind (listUpdate_at ag rfl ?_ (Nat.zero_le _) (psz _ rs))
  simp only [bne_self_eq_false,Bool.false_eq_true,if_false]
  refine wpAny_pure (fin _ rs (.refl _) fun i j hij hj=>?_)
  have:i = j:=by lia
  subst this; exact Nat.le_refl _
 ·rw [if_neg h2,if_neg h2]
  have h2':2 <= vs.length:=by rw [<- List.size_toArray]; lia
  refine wpAny_bind (hkind h2' g _ kg ?_)
  have est:SortSt.mk' kd (vs.toArray.zip vs.toArray) #[] 7 none = kas_st kd (pairsOf vs) (List.toArray (List.range vs.length)):=by
   have e:=kas_range (pairsOf vs)
   rw [pairsOf_size] at e
   show SortSt.mk' kd (pairsOf vs) #[] 7 none = SortSt.mk' kd _ #[] 7 none
   rw [e]
  have ask:=qm0 (s:={ s with heap:=g }) (cmp:=kas_ask prog w A kd vs) (Q:=fun (p:Array Nat) s'=>s' = { s with heap:=g } /\ p.Perm (List.range vs.length).toArray /\ p.size = vs.length /\ Up r p vs.length)
   (fun i j C hi hj hc=>hlt h2' g i j C kg hi hj hc) (fun x hx=>⟨rfl,hx⟩) (kas_sort vs.length) (kz5 r (by lia))
  rw [kas_ask_eq] at ask
  have run:=kas_runs (E:=E) (Q:=fun _ st' s'=>s' = { s with heap:=g } /\ failedOf st' = none /\ ∃ p:Array Nat,arrOf st' = p.map (kas_item (pairsOf vs)) /\ p.Perm (List.range vs.length).toArray /\ p.size = vs.length /\ Up r p vs.length)
   h2' h64 (fun p' st' s' a1 a2 a3 a4=>⟨a4.1,a3,p',a2,a4.2⟩) ask
  rw [<- est] at run
  refine wpAny_bind (wpAny_mono run ?_ fun _ _ e=>e)
  rintro ⟨⟨⟩,st'⟩ s' ⟨rfl,hf,p,har,p1,p2,p3⟩
  dsimp only
  have out:(arrOf st').map (·.2) = (p.toList.map fun i=>vs.getD i Value.none).toArray:=by
   apply Array.toList_inj.mp
   rw [har,Array.map_map,Array.toList_map]
   refine List.map_congr_left fun i _=>?_
   show (kas_item (pairsOf vs) i).2 = _
   rw [kas_item_eq]
  rw [out]
  refine wpAny_bind (seqEpoch_at ag rfl ?_)
  refine wpAny_bind (listUpdate_at ag rfl ?_ (Nat.zero_le _) (psz _ p2))
  rw [hf]
  simp only [bne_self_eq_false,Bool.false_eq_true,if_false]
  exact wpAny_pure (fin p p2 p1 p3)
end
end So
end T_So2
section T_Ts
namespace Ts
open PySem PySem.SetTable Tb
structure SKind (prog:Program) (w:World) (K:Type) [DecidableEq K] extends HeapKind prog w K where
 noCls:∀ {A:Around} {E:Value -> Shared -> Prop} {s:Shared} {k:K} {a:Addr} {Q:Bool -> Shared -> Prop},is s.heap k a -> Q false s -> wpAny (model prog w) A (ofAClassStatement 8 (.ref a)) Q E s
 byVal:∀ {A:Around} {E:Value -> Shared -> Prop} {s:Shared} {k:K} {a:Addr} {Q:Bool -> Shared -> Prop},is s.heap k a -> Q true s -> wpAny (model prog w) A (hashByValue 8 (.ref a)) Q E s
 mono:∀ {h h':Heap} {k:K} {a:Addr},is h k a -> (∀ b o,h.get? b = some o -> o.cls = .type "tuple" -> h'.get? b = some o) -> is h' k a
section
variable {prog:Program} {w:World} {K:Type} [DecidableEq K] {κ:SKind prog w K}
theorem qi0 (κ:SKind prog w K) {h h':Heap} {k:K} {a d:Addr} {o:Obj} (x:κ.is h k a) (ho:h.get? d = some o) (hc:o.cls = .type "set") (sb:Heap.SameBut d h h'):κ.is h' k a :=
 κ.mono x fun b ob e hb=>by
  rw [sb.2 b ?_]
  ·exact e
  ·rintro rfl
   obtain rfl:=Option.some.inj (e.symm.trans ho)
   rw [hc] at hb
   exact absurd hb (by decide)
noncomputable def entry (κ:SKind prog w K) (x:K × Addr):Int × Value:=(κ.hash x.1,.ref x.2)
structure SetO (κ:SKind prog w K) (h:Heap) (a:Addr) (led:Bool) (xs:List (K × Addr)) (o:Obj) (ep:Nat) (t:SetTable):Prop where
 obj:h.get? a = some o
 exact':o.ExactSet
 data:o.data = .set (xs.map (entry κ)).toArray ep t
 good:Good t xs.length
 paths:jv1 t (fun i=>((xs.map (entry κ)).toArray[i]?.map (·.1)).getD 0) xs.length
 led':t.led = led
 plain:t.plain = true
 few:xs.length * 5 < t.mask * 3
 keys:(xs.map (·.1)).Nodup
 each:∀ x ∈ xs,κ.is h x.1 x.2
theorem km5 {t:SetTable} {n:Nat} (g:Good t n):t.fits n = true:=by
 unfold SetTable.fits SetTable.fill
 rw [g.dum,g.size]
 have:=g.few
 simp
 lia
variable {A:Around} {E:Value -> Shared -> Prop} {s:Shared} {a b:Addr} {led:Bool} {xs:List (K × Addr)} {o:Obj} {ep:Nat} {t:SetTable} {k:K}
theorem Y8 {Q:(Array (Int × Value) × Nat × SetTable) -> Shared -> Prop} (S:SetO κ s.heap a led xs o ep t) (h:Q ((xs.map (entry κ)).toArray,ep,t) s):wpAny (model prog w) A (setState a) Q E s :=
 wpAny_setState_of S.obj S.data (by simpa using km5 S.good) h
theorem qd4 {Q:Bool -> Shared -> Prop} {l:List (K × Addr)} (hx:κ.is s.heap k b) (hl:∀ x ∈ l,κ.is s.heap x.1 x.2) (h:Q false s) :
  wpAny (model prog w) A (searchCouldBeSeen (.ref b) (l.map fun x=>Value.ref x.2)) Q E s:=by
 unfold searchCouldBeSeen
 refine wpAny_bind (wpAny_forIn_list _ (fun rest r s'=>r.1 = none /\ s' = s /\ ∃ (l':List (K × Addr)),rest = l'.map (fun x:K × Addr=>Value.ref x.2) /\ ∀ x ∈ l',κ.is s.heap x.1 x.2) _ ?_ ?_ _ _ ⟨rfl,rfl,l,rfl,hl⟩)
 ·rintro v rest r s' ⟨hr,rfl,l',hl',hk⟩
  cases l' with
  | nil=>cases hl'
  | cons x l' =>
   rw [List.map_cons] at hl'
   injection hl' with e1 e2
   subst e1
   have nx:r.1 = none /\ s' = s' /\ ∃ (l'':List (K × Addr)),rest = l''.map (fun x:K × Addr=>Value.ref x.2) /\ ∀ x ∈ l'',κ.is s'.heap x.1 x.2:=⟨hr,rfl,l',e2,fun y hy=>hk y (List.mem_cons_of_mem _ hy)⟩
   have hx2:=hk x List.mem_cons_self
   dsimp only
   split
   ·exact wpAny_pure ⟨rfl,rfl,nx.2.2⟩
   ·refine wpAny_bind (κ.quiet hx ?_)
    simp only [Bool.not_true,Bool.false_eq_true,if_false]
    refine wpAny_bind (κ.quiet hx2 ?_)
    simp only [Bool.not_true,Bool.false_eq_true,if_false]
    refine wpAny_bind (κ.noCls hx ?_)
    simp only [Bool.false_eq_true,if_false]
    refine wpAny_bind (κ.noCls hx2 ?_)
    simp only [Bool.false_eq_true,if_false]
    exact wpAny_pure ⟨rfl,rfl,nx.2.2⟩
 ·rintro ⟨r1,r2⟩ s' ⟨hr,rfl,_⟩
  simp only at hr
  subst hr
  exact wpAny_pure h
theorem jc4 (xs:List (K × Addr)) (i:Nat):(xs.map (entry κ)).toArray[i]? = xs[i]?.map (entry κ):=by simp
theorem kk1 {Q:SetFound -> Shared -> Prop} (S:SetO κ s.heap a led xs o ep t) (hr:κ.room A) (hx:κ.is s.heap k b)
  (hT:k ∈ xs.map (·.1) -> Q (.there none) s)
  (hF:k ∉ xs.map (·.1) -> ∀ j,j <= t.mask -> t.slot j = .empty -> jp5 t (κ.hash k) j -> Q (.free j false) s)
  {D:Nat} (hD:D <= 10 * (t.mask + 13)) (hE:t.slot (W t.mask (t.probeStart (κ.hash k)) D).j = .empty) (hB:∀ m,m < D -> t.slot (W t.mask (t.probeStart (κ.hash k)) m).j ≠ .empty) :
  ∀ (r m0 fuel:Nat),m0 + r = D -> r < fuel -> (∀ m i,m < m0 -> t.slot (W t.mask (t.probeStart (κ.hash k)) m).j = .live i -> ∀ x,xs[i]? = some x -> x.1 ≠ k) ->
   ∀ stand:Option Probe,stand.getD (t.probeStart (κ.hash k)) = W t.mask (t.probeStart (κ.hash k)) m0 ->
   wpAny (model prog w) A (setSearchFrom a (.ref b) (κ.hash k) true fuel stand) Q E s:=by
 intro r
 induction r using Nat.strongRecOn with
 | _ r ih =>
  intro m0 fuel hm hf hv stand hst
  obtain ⟨fuel,rfl⟩ : ∃ f,fuel = f + 1:=⟨fuel - 1,by lia⟩
  unfold setSearchFrom
  refine wpAny_bind (Y8 S ?_)
  dsimp only
  have hgw:t.gaveWay = false:=by
   unfold SetTable.gaveWay
   rcases S.good.msk with e | e | e <;> rw [e] <;> rfl
  rw [hgw]
  simp only [Bool.false_eq_true,if_false]
  have sp:=kp6 S.good (fun i=>((xs.map (entry κ)).toArray[i]?.map (·.1)).getD 0) (κ.hash k) r (W t.mask (t.probeStart (κ.hash k)) m0) (10 * turns t.mask) (kk0 _ _ _ rfl) (by unfold turns; lia)
   (by rw [<- jk7,hm]; exact hE) (fun m hm'=>by rw [<- jk7]; exact hB _ (by lia))
  have hpr:t.probe (fun i=>((xs.map (entry κ)).toArray[i]?.map (·.1)).getD 0) (κ.hash k) (stand.getD (t.probeStart (κ.hash k))) = probe.go t (fun i=>((xs.map (entry κ)).toArray[i]?.map (·.1)).getD 0) (κ.hash k) (10 * turns t.mask) (W t.mask (t.probeStart (κ.hash k)) m0):=by
   rw [hst]; rfl
  rcases sp with ⟨m,i,h1,h2,h3,h4,h5,h6⟩ | ⟨h1,h2⟩
  ·have hp2:=hpr.trans h6
   generalize hpq:t.probe _ (κ.hash k) (stand.getD (t.probeStart (κ.hash k))) = pr
   obtain rfl:=hpq.symm.trans hp2
   dsimp only
   obtain ⟨x,hxi⟩ : ∃ x,xs[i]? = some x:=⟨xs[i],List.getElem?_eq_getElem h2⟩
   have hxm:x ∈ xs:=List.mem_of_getElem? hxi
   have rest:wpAny (model prog w) A (do
     let some (_,y):=(xs.map (entry κ)).toArray[i]? | unsupported "internal:set-entry"
     let equal <- holding [y] (eqBool y (.ref b))
     let (es',_,t') <- setState a
     if true && equal then return .there none
     let some same:=t'.sameMemory t.moves t.mask | unsupported "set.changed-during-lookup:is-the-new-block-at-the-old-address"
     let still <- match (if same then t'.slot (W t.mask (W t.mask (t.probeStart (κ.hash k)) m0) m).j else .empty) with
      | .live i'=>match es'[i']? with
       | some (_,y')=>do pure (if <- isSame y' y then some i' else none)
       | none=>pure none
      | _=>pure none
     match still with
     | none=>rule "set.search.anew"; setSearchFrom a (.ref b) (κ.hash k) true fuel none
     | some i'=>if equal then return .there (some i') else setSearchFrom a (.ref b) (κ.hash k) true fuel (some (W t.mask (W t.mask (t.probeStart (κ.hash k)) m0) (m + 1)))) Q E s:=by
    rw [jc4,hxi]
    dsimp only [Option.map,entry]
    refine wpAny_bind (wpAny_holding (κ.eqBool hr (S.each x hxm) hx ?_))
    refine wpAny_bind (Y8 S ?_)
    dsimp only
    by_cases hk:x.1 = k
    ·rw [decide_eq_true hk]
     simp only [Bool.and_self,if_true]
     exact wpAny_pure (hT (List.mem_map.mpr ⟨x,hxm,hk⟩))
    ·rw [decide_eq_false hk]
     simp only [Bool.and_false,Bool.false_eq_true,if_false]
     have hsm:t.sameMemory t.moves t.mask = some true:=by unfold SetTable.sameMemory; rw [if_pos (by simp)]
     rw [hsm]
     dsimp only
     rw [if_pos rfl,h3]
     dsimp only
     rw [jc4,hxi]
     dsimp only [Option.map,entry]
     refine wpAny_bind (wpAny_isSame_ref_self (wpAny_bind (wpAny_pure ?_)))
     simp only [if_true]
     refine ih (r - (m + 1)) (by lia) (m0 + (m + 1)) fuel (by lia) (by lia) (fun m' i' hm' hl y hy=>?_) _ (by rw [<- jk7]; rfl)
     by_cases c1:m' < m0
     ·exact hv m' i' c1 hl y hy
     ·obtain ⟨q,rfl⟩ : ∃ q,m' = m0 + q:=⟨m' - m0,by lia⟩
      rw [jk7] at hl
      by_cases c2:q < m
      ·intro e
       refine h5 q c2 i' hl ?_
       show ((xs.map (entry κ)).toArray[i']?.map (·.1)).getD 0 = κ.hash k
       rw [jc4,hy]
       show κ.hash y.1 = κ.hash k
       rw [e]
      ·have:q = m:=by lia
       subst this
       rw [h3] at hl
       cases hl
       rw [hxi] at hy
       cases hy
       exact hk
   by_cases hl:led = true
   ·have hl':t.led = true:=S.led'.trans hl
    rw [hl']
    simp only [Bool.not_true,Bool.false_eq_true,if_false]
    exact rest
   ·have hl':t.led = false:=S.led'.trans (Bool.eq_false_iff.mpr hl)
    rw [hl']
    simp only [Bool.not_false,if_true]
    have el:((((xs.map (entry κ)).toArray.filter (·.1 == κ.hash k))).toList.map (·.2)) = (xs.filter fun y=>κ.hash y.1 == κ.hash k).map fun y=>Value.ref y.2:=by
     rw [Array.toList_filter,List.filter_map,List.map_map]
     rfl
    rw [el]
    refine wpAny_bind (qd4 hx (fun y hy=>S.each y (List.mem_filter.mp hy).1) ?_)
    simp only [Bool.false_eq_true,if_false]
    exact rest
  ·have hp2:=hpr.trans h2
   generalize hpq:t.probe _ (κ.hash k) (stand.getD (t.probeStart (κ.hash k))) = pr
   obtain rfl:=hpq.symm.trans hp2
   dsimp only
   have ej:(W t.mask (W t.mask (t.probeStart (κ.hash k)) m0) r).j = (W t.mask (t.probeStart (κ.hash k)) D).j:=by rw [<- jk7,hm]
   rw [ej]
   refine wpAny_pure (hF (fun hmem=>?_) _ (qi9 t.mask _ D) hE ⟨D,rfl,hB⟩)
   refine x1_2 (List.mem_map.mp hmem) fun x hxm ek=>?_
   obtain ⟨i,hi,ei⟩:=List.mem_iff_getElem.mp hxm
   have hxi:xs[i]? = some x:=by rw [List.getElem?_eq_getElem hi,ei]
   refine x1_2 (S.paths i hi) fun ki p1 p2=>?_
   have hh:(fun i=>((xs.map (entry κ)).toArray[i]?.map (·.1)).getD 0) i = κ.hash k:=by
    show ((xs.map (entry κ)).toArray[i]?.map (·.1)).getD 0 = κ.hash k
    rw [jc4,hxi]
    show κ.hash x.1 = κ.hash k
    rw [ek]
   rw [hh] at p1 p2
   have sl:t.slot (W t.mask (t.probeStart (κ.hash k)) ki).j = .live i:=by rw [p1]; exact jw6 S.good hi
   have c1:ki < D:=by
    rcases Nat.lt_trichotomy ki D with c | c | c
    ·exact c
    ·subst c; rw [sl] at hE; cases hE
    ·exact absurd hE (p2 D c)
   by_cases c2:ki < m0
   ·exact hv ki i c2 sl x hxi ek
   ·obtain ⟨q,rfl⟩ : ∃ q,ki = m0 + q:=⟨ki - m0,by lia⟩
    rw [jk7] at sl
    exact h1 q (by lia) i sl hh
end
end Ts
end T_Ts
section T_Ts2
namespace Ts
open PySem PySem.SetTable Tb
section
variable {prog:Program} {w:World} {K:Type} [DecidableEq K] {κ:SKind prog w K}
variable {A:Around} {E:Value -> Shared -> Prop} {s:Shared} {a b:Addr} {led:Bool} {xs:List (K × Addr)} {o:Obj} {ep:Nat} {t:SetTable} {k:K}
theorem SetO.store (S:SetO κ s.heap a led xs o ep t) {ys:List (K × Addr)} {t':SetTable} (hg:Good t' ys.length) (hp:jv1 t' (fun i=>((ys.map (entry κ)).toArray[i]?.map (·.1)).getD 0) ys.length) (hl:t'.led = led) (hpl:t'.plain = true)
  (hk:(ys.map (·.1)).Nodup) (he:∀ x ∈ ys,κ.is s.heap x.1 x.2) :
  let h':=s.heap.update a (Obj.putSet (ys.map (entry κ)).toArray t')
  Heap.SameBut a s.heap h' /\ h'.get? a = some { o with data:=.set (ys.map (entry κ)).toArray (ep + 1) t' } /\ (∀ x ∈ ys,κ.is h' x.1 x.2) /\
   (ys.length * 5 < t'.mask * 3 -> SetO κ h' a led ys { o with data:=.set (ys.map (entry κ)).toArray (ep + 1) t' } (ep + 1) t'):=by
 intro h'
 have sb:Heap.SameBut a s.heap h':=Heap.SameBut.update ..
 have hg':h'.get? a = some { o with data:=.set (ys.map (entry κ)).toArray (ep + 1) t' }:=by
  have:=Heap.get?_update_self (Obj.putSet (ys.map (entry κ)).toArray t') S.obj (by rw [putSet_of _ t' S.data]; rfl)
  rw [putSet_of _ t' S.data] at this; exact this
 have hi:∀ x ∈ ys,κ.is h' x.1 x.2:=fun x hx=>qi0 κ (he x hx) S.obj S.exact'.1 sb
 exact ⟨sb,hg',hi,fun hf=>⟨hg',S.exact',rfl,hg,hp,hl,hpl,hf,hk,hi⟩⟩
theorem jj0 {n M:Nat} (h:(M = 32 /\ 16 <= n /\ n < 32) \/ (M = 128 /\ 64 <= n /\ n < 128)):sizeAbove n = M:=by
 unfold sizeAbove
 rcases h with ⟨rfl,h1,h2⟩ | ⟨rfl,h1,h2⟩
 ·unfold sizeAbove.go; rw [if_pos (by lia)]
  unfold sizeAbove.go; rw [if_pos (by lia)]
  unfold sizeAbove.go; rw [if_neg (by lia)]
 ·unfold sizeAbove.go; rw [if_pos (by lia)]
  unfold sizeAbove.go; rw [if_pos (by lia)]
  unfold sizeAbove.go; rw [if_pos (by lia)]
  unfold sizeAbove.go; rw [if_pos (by lia)]
  unfold sizeAbove.go; rw [if_neg (by lia)]
theorem jp6 {α:Type} (l:List α) (p:Nat) (x y:α):y ∈ l.take p ++ x :: l.drop p ↔ y = x \/ y ∈ l:=by
 rw [List.mem_append,List.mem_cons]
 have:y ∈ l ↔ y ∈ l.take p \/ y ∈ l.drop p:=by rw [<- List.mem_append,List.take_append_drop]
 rw [this]
 constructor
 ·rintro (h | h | h)
  ·exact .inr (.inl h)
  ·exact .inl h
  ·exact .inr (.inr h)
 ·rintro (h | h | h)
  ·exact .inr (.inl h)
  ·exact .inl h
  ·exact .inr (.inr h)
theorem ko8 {α:Type} {l:List α} {x:α} (p:Nat) (h:l.Nodup) (hx:x ∉ l):(l.take p ++ x :: l.drop p).Nodup:=by
 have e:(l.take p ++ x :: l.drop p).Perm (x :: l):=by
  refine List.perm_middle.trans ?_
  rw [List.take_append_drop]
 exact e.nodup_iff.mpr (List.nodup_cons.mpr ⟨hx,h⟩)
theorem qf6 {α:Type} (l:List α) (order:Array Nat) {n:Nat} (hl:l.length = n) (ho:order.size = n) (hlt:∀ m,m < n -> order.getD m 0 < n) :
  (order.toList.filterMap (fun i=>l[i]?)).length = n /\ ∀ m,m < n -> (order.toList.filterMap (fun i=>l[i]?))[m]? = l[order.getD m 0]?:=by
 have key:∀ (q:List Nat),(∀ i ∈ q,i < l.length) -> (q.filterMap (fun i=>l[i]?)).length = q.length /\ ∀ m,m < q.length -> (q.filterMap (fun i=>l[i]?))[m]? = l[q.getD m 0]?:=by
  intro q
  induction q with
  | nil=>intro _; exact ⟨rfl,fun m h=>absurd h (Nat.not_lt_zero _)⟩
  | cons i q ih =>
   intro h
   have hi:=h i List.mem_cons_self
   obtain ⟨a1,a2⟩:=ih fun j hj=>h j (List.mem_cons_of_mem _ hj)
   rw [List.filterMap_cons_some (b:=l[i]) (List.getElem?_eq_getElem hi)]
   refine ⟨by rw [List.length_cons,List.length_cons,a1],fun m hm=>?_⟩
   cases m with
   | zero=>simp [List.getElem?_eq_getElem hi]
   | succ m=>simpa using a2 m (by simpa using hm)
 have hm:∀ i ∈ order.toList,i < l.length:=fun i hi=>by
  obtain ⟨m,h1,h2⟩:=List.mem_iff_getElem.mp hi
  have hz:m < order.size:=by rw [<- Array.length_toList]; exact h1
  have:=hlt m (by lia)
  have e:order.getD m 0 = i:=by simp [Array.getD,hz]; rw [<- h2]; simp
  lia
 obtain ⟨b1,b2⟩:=key order.toList hm
 refine ⟨by rw [b1,Array.length_toList,ho],fun m h=>?_⟩
 rw [b2 m (by rw [Array.length_toList]; lia)]
 congr 1
 have hz:m < order.size:=by lia
 simp [Array.getD,List.getD,hz]
theorem ku1 {Q:Unit -> Shared -> Prop} {wanted M:Nat} (ho:s.heap.get? a = some o) (hx:o.ExactSet) (hd:o.data = .set (xs.map (entry κ)).toArray ep t) (hg:Good t xs.length) (hl:t.led = led) (hpl:t.plain = true) (hk:(xs.map (·.1)).Nodup) (he:∀ x ∈ xs,κ.is s.heap x.1 x.2)
  (hM:Msk M) (hw:sizeAbove wanted = M + 1) (hn:xs.length * 5 < M * 3)
  (h:∀ h' o' ep' t' ys,Heap.SameBut a s.heap h' -> SetO κ h' a led ys o' ep' t' -> (∀ x,x ∈ ys ↔ x ∈ xs) -> ys.length = xs.length -> Q () { s with heap:=h' }):wpAny (model prog w) A (setRelay a wanted) Q E s:=by
 unfold setRelay
 refine wpAny_bind (wpAny_setState_of ho hd (by simpa using km5 hg) ?_)
 dsimp only
 have hM':M < 200:=by rcases hM with e | e | e <;> lia
 rw [if_neg (by rw [hw,sizeLine_eq]; lia)]
 obtain ⟨t',order,e1,g1,e2,e3,e4,e5,e6,e7,e8,e9⟩:=kj7 (n:=xs.length) hM (((xs.map (entry κ)).toArray).map (·.1)) (by simp) (by lia) t.finger (t.movedTo M) t.led t.plain
 have hrl:t.relaid (((xs.map (entry κ)).toArray).map (·.1)) wanted = some (t',order):=by
  unfold SetTable.relaid
  rw [hw,Nat.add_sub_cancel]
  exact e1
 rw [hrl]
 obtain ⟨r1,r2⟩:=qf6 xs order rfl e5 e6
 have ent:order.filterMap (fun i=>((xs.map (entry κ)).toArray)[i]?) = ((order.toList.filterMap (fun i=>xs[i]?)).map (entry κ)).toArray:=by
  apply Array.toList_inj.mp
  rw [Array.toList_filterMap,List.map_filterMap]
  congr 1
  funext i
  rw [jc4]
 refine wpAny_bind (wpAny_of_eq (a:=(((order.toList.filterMap (fun i=>xs[i]?)).map (entry κ)).toArray,t')) ?_ ?_)
 ·show (do
   if (order.filterMap (fun i=>((xs.map (entry κ)).toArray)[i]?)).size != ((xs.map (entry κ)).toArray).size then unsupported "internal:set-table-lost-an-element"
   pure (order.filterMap (fun i=>((xs.map (entry κ)).toArray)[i]?),t'):Sem (Array (Int × Value) × SetTable)) = _
  rw [ent,if_neg (by simp [r1])]
  first | done | rfl
 dsimp only
 have len:(order.toList.filterMap (fun i=>xs[i]?)).length = xs.length:=r1
 have mem:∀ x,x ∈ order.toList.filterMap (fun i=>xs[i]?) ↔ x ∈ xs:=fun x=>by
  rw [List.mem_filterMap]
  constructor
  ·rintro ⟨i,_,e⟩; exact List.mem_of_getElem? e
  ·intro hx'
   obtain ⟨i,hi,ei⟩:=List.mem_iff_getElem.mp hx'
   refine x1_2 (e8 i hi) fun m hm em=>?_
   have hz:m < order.size:=by lia
   refine ⟨i,?_,by rw [List.getElem?_eq_getElem hi,ei]⟩
   have:order[m] = i:=by rw [<- em]; simp [Array.getD,hz]
   rw [<- this]
   exact Array.mem_toList_iff.mpr (Array.getElem_mem hz)
 have nd:((order.toList.filterMap (fun i=>xs[i]?)).map (·.1)).Nodup:=by
  rw [List.nodup_iff_pairwise_ne,List.pairwise_iff_getElem]
  intro i j hi hj hij e
  rw [List.length_map,len] at hi hj
  have gi:=r2 i hi
  have gj:=r2 j hj
  rw [List.getElem?_eq_getElem (by lia),List.getElem?_eq_getElem (e6 i hi)] at gi
  rw [List.getElem?_eq_getElem (by lia),List.getElem?_eq_getElem (e6 j hj)] at gj
  rw [List.getElem_map,List.getElem_map,Option.some.inj gi,Option.some.inj gj] at e
  have pw:=List.pairwise_iff_getElem.mp (List.nodup_iff_pairwise_ne.mp hk)
  have a1:order.getD i 0 < (xs.map (·.1)).length:=by rw [List.length_map]; exact e6 i hi
  have a2:order.getD j 0 < (xs.map (·.1)).length:=by rw [List.length_map]; exact e6 j hj
  rcases Nat.lt_trichotomy (order.getD i 0) (order.getD j 0) with c | c | c
  ·exact pw _ _ a1 a2 c (by rw [List.getElem_map,List.getElem_map]; exact e)
  ·have:=e7 i j hi hj c; lia
  ·exact pw _ _ a2 a1 c (by rw [List.getElem_map,List.getElem_map]; exact e.symm)
 have pth:jv1 t' (fun i=>(((order.toList.filterMap (fun i=>xs[i]?)).map (entry κ)).toArray[i]?.map (·.1)).getD 0) (order.toList.filterMap (fun i=>xs[i]?)).length:=by
  rw [len]
  intro i hi
  have q:=e9 i hi
  have ee:(((order.toList.filterMap (fun i=>xs[i]?)).map (entry κ)).toArray[i]?.map (·.1)).getD 0 = (((xs.map (entry κ)).toArray).map (·.1)).getD (order.getD i 0) 0:=by
   rw [jc4,r2 i hi]
   generalize order.getD i 0 = z
   rw [Array.getD_eq_getD_getElem?,Array.getElem?_map,jc4]
  show jp5 t' ((((order.toList.filterMap (fun i=>xs[i]?)).map (entry κ)).toArray[i]?.map (·.1)).getD 0) (t'.place.getD i 0)
  rw [ee]
  exact q
 have sb:Heap.SameBut a s.heap (s.heap.update a (Obj.putSet ((order.toList.filterMap (fun i=>xs[i]?)).map (entry κ)).toArray t')):=Heap.SameBut.update ..
 have hg':=Heap.get?_update_self (Obj.putSet ((order.toList.filterMap (fun i=>xs[i]?)).map (entry κ)).toArray t') ho (by rw [putSet_of _ t' hd]; rfl)
 rw [putSet_of _ t' hd] at hg'
 refine wpAny_storeSet_of ho hd (h _ _ (ep + 1) t' (order.toList.filterMap (fun i=>xs[i]?)) sb ⟨hg',hx,rfl,by rw [len]; exact g1,pth,e3.trans hl,e4.trans hpl,by rw [len,e2]; exact hn,nd,fun x hx'=>qi0 κ (he x ((mem x).mp hx')) ho hx.1 sb⟩ mem len) ?_
 rw [List.size_toArray,List.length_map,len,sizeLine_eq]
 lia
theorem qm7 {Q:Bool -> Shared -> Prop} (S:SetO κ s.heap a led xs o ep t) (hr:κ.room A) (hx:κ.is s.heap k b) (hn:xs.length < 60)
  (h:∀ c h' o' ep' t' ys,Heap.SameBut a s.heap h' -> SetO κ h' a led ys o' ep' t' -> (∀ x ∈ ys,x ∈ xs \/ x = (k,b)) -> (∀ x ∈ xs,x ∈ ys) -> k ∈ ys.map (·.1) -> ys.length <= xs.length + 1 -> Q c { s with heap:=h',toks:=s.toks + κ.draws k }) :
  wpAny (model prog w) A (setAdd a (.ref b)) Q E s:=by
 unfold setAdd
 refine wpAny_holding (wpAny_bind (κ.pyHash hr hx ?_))
 have S':SetO κ ({ s with toks:=s.toks + κ.draws k }:Shared).heap a led xs o ep t:=S
 have hx':κ.is ({ s with toks:=s.toks + κ.draws k }:Shared).heap k b:=hx
 refine x1_3 (dist S.good (κ.hash k)) fun D d1 d2 d3=>?_
 have hm:t.mask <= 127:=by rcases S.good.msk with e | e | e <;> lia
 unfold setAddHashed setAddHashedIn
 refine wpAny_holding (wpAny_bind (Y8 S' ?_))
 dsimp only
 have hsc:byScan (.ref b) (xs.map (entry κ)).toArray = false:=by simp [byScan,Value.scannable]
 rw [hsc]
 simp only [Bool.false_eq_true,if_false]
 unfold setSearch
 refine wpAny_bind (kk1 S' hr hx' (fun hmem=>?_) (fun hmem j hj he hp=>?_) d1 d2 d3 D 0 100000 (by lia) (by lia) (fun m i h0=>absurd h0 (Nat.not_lt_zero _)) none rfl)
 ·dsimp only
  refine wpAny_pure (h false s.heap o ep t xs (.refl ..) S (fun x hx=>.inl hx) (fun x hx=>hx) hmem (by lia))
 dsimp only
 refine wpAny_bind (Y8 S' ?_)
 dsimp only
 have hf1:xs.length + 1 < t.mask:=by
  have:=S.few
  rcases S.good.msk with e | e | e <;> rw [e] at this ⊢ <;> lia
 refine x0_6 (kd4 S.good hj he hf1) fun g1 p1 p2 p3 p4 p5=>?_
 have hpl:(t.put j).1.plain = true:=by rw [kh8 S.good]; exact S.plain
 have hld:(t.put j).1.led = led:=by rw [kh8 S.good]; exact S.led'
 rw [hpl]
 simp only [if_true]
 refine wpAny_bind (κ.byVal hx' ?_)
 simp only [if_true]
 have ent:SetTable.insertAt (xs.map (entry κ)).toArray (t.put j).2 (κ.hash k,Value.ref b) = ((xs.take (below t.place j) ++ (k,b) :: xs.drop (below t.place j)).map (entry κ)).toArray:=by
  apply Array.toList_inj.mp
  rw [ji6,p1,List.map_append,List.map_cons,List.map_take,List.map_drop]
  rfl
 rw [ent]
 have len:(xs.take (below t.place j) ++ (k,b) :: xs.drop (below t.place j)).length = xs.length + 1:=by
  rw [List.length_append,List.length_cons,List.length_take,List.length_drop]; lia
 have nd:((xs.take (below t.place j) ++ (k,b) :: xs.drop (below t.place j)).map (·.1)).Nodup:=by
  rw [List.map_append,List.map_cons,List.map_take,List.map_drop]
  exact ko8 _ S.keys hmem
 have mem:∀ x,x ∈ (xs.take (below t.place j) ++ (k,b) :: xs.drop (below t.place j)) ↔ x = (k,b) \/ x ∈ xs:=fun x=>jp6 _ _ _ _
 have is':∀ x ∈ (xs.take (below t.place j) ++ (k,b) :: xs.drop (below t.place j)),κ.is s.heap x.1 x.2:=fun x hx2=>by
  rcases (mem x).mp hx2 with e | e
  ·rw [e]; exact hx
  ·exact S.each x e
 have pth:jv1 (t.put j).1 (fun i=>(((xs.take (below t.place j) ++ (k,b) :: xs.drop (below t.place j)).map (entry κ)).toArray[i]?.map (·.1)).getD 0) (xs.length + 1):=by
  refine kn2 S.good hj he hf1 S.paths (h:=κ.hash k) (fun i hi=>?_) hp
  rw [<- ent,p1,jl2 _ _ _ (by simp; exact p2)]
  by_cases c1:i < below t.place j
  ·rw [if_pos c1,if_pos c1]
  ·rw [if_neg c1,if_neg c1]
   by_cases c2:i = below t.place j
   ·rw [if_pos c2,if_pos c2]; rfl
   ·rw [if_neg c2,if_neg c2]
 obtain ⟨sb,hg',is2,S2⟩:=SetO.store (s:={ s with toks:=s.toks + κ.draws k }) S' (t':=(t.put j).1) (by rw [len]; exact g1) (by rw [len]; exact pth) hld hpl nd is'
 refine wpAny_bind (wpAny_storeSet_of S.obj S.data ?_ (by rw [List.size_toArray,List.length_map,len,sizeLine_eq]; lia))
 have hend:∀ h' o' ep' t' ys,Heap.SameBut a s.heap h' -> SetO κ h' a led ys o' ep' t' -> (∀ x,x ∈ ys ↔ x ∈ (xs.take (below t.place j) ++ (k,b) :: xs.drop (below t.place j))) -> ys.length = xs.length + 1 -> Q true { s with heap:=h',toks:=s.toks + κ.draws k } :=
  fun h' o' ep' t' ys q1 q2 q3 q4=>h true h' o' ep' t' ys q1 q2 (fun x hx2=>((mem x).mp ((q3 x).mp hx2)).symm) (fun x hx2=>(q3 x).mpr ((mem x).mpr (.inr hx2))) (List.mem_map.mpr ⟨(k,b),(q3 _).mpr ((mem _).mpr (.inl rfl)),rfl⟩) (by lia)
 have tf:(t.put j).1.tooFull = decide ((xs.length + 1) * 5 ≥ t.mask * 3):=by
  unfold SetTable.tooFull SetTable.fill
  rw [g1.dum,g1.size,p3]
  simp
 rw [tf]
 simp only [Bool.not_false,Bool.true_and]
 by_cases full:(xs.length + 1) * 5 ≥ t.mask * 3
 ·rw [if_pos (decide_eq_true full)]
  have few:=S.few
  have hM:∃ M,Msk M /\ sizeAbove (SetTable.grown ((xs.map (entry κ)).toArray.size + 1)) = M + 1 /\ (xs.length + 1) * 5 < M * 3:=by
   have eg:SetTable.grown ((xs.map (entry κ)).toArray.size + 1) = (xs.length + 1) * 4:=by
    unfold SetTable.grown
    rw [List.size_toArray,List.length_map,if_neg (by lia)]
   rw [eg]
   rcases S.good.msk with e | e | e
   ·rw [e] at full few
    exact ⟨31,.inr (.inl rfl),jj0 (.inl ⟨rfl,by lia,by lia⟩),by lia⟩
   ·rw [e] at full few
    exact ⟨127,.inr (.inr rfl),jj0 (.inr ⟨rfl,by lia,by lia⟩),by lia⟩
   ·rw [e] at full; lia
  refine x1_3 hM fun M hM1 hM2 hM3=>?_
  clear hM
  refine wpAny_bind (ku1 (κ:=κ) (M:=M) (led:=led) (s:={ s with heap:=_,toks:=_ }) hg' S.exact' rfl (by rw [len]; exact g1) hld hpl nd is2 hM1 hM2 (by rw [len]; exact hM3) fun h' o' ep' t' ys q1 q2 q3 q4=>?_)
  exact wpAny_pure (hend h' o' ep' t' ys (sb.trans q1) q2 q3 (q4.trans len))
 ·rw [if_neg (by simp; lia)]
  refine wpAny_pure (hend _ _ _ _ _ sb (S2 (by rw [len,p3]; lia)) (fun x=>Iff.rfl) len)
end
end Ts
end T_Ts2
section T_Ts3
namespace Ts
open PySem PySem.SetTable Tb
section
variable {prog:Program} {w:World} {K:Type} [DecidableEq K] {κ:SKind prog w K}
variable {A:Around} {E:Value -> Shared -> Prop} {R:Result -> Shared -> Prop} {s:Shared} {a b:Addr} {led:Bool} {xs:List (K × Addr)} {o:Obj} {ep:Nat} {t:SetTable} {k:K}
theorem SetO.keep {h h':Heap} (S:SetO κ h a led xs o ep t) (e:∀ b o,h.get? b = some o -> (b = a \/ o.cls = .type "tuple") -> h'.get? b = some o):SetO κ h' a led xs o ep t :=
 ⟨e _ _ S.obj (.inl rfl),S.exact',S.data,S.good,S.paths,S.led',S.plain,S.few,S.keys,fun x hx=>κ.mono (S.each x hx) fun b o q c=>e b o q (.inr c)⟩
theorem qb1 {S I l:Addr} {ys:List (K × Addr)} (hh:A.handled = none) (hroom:κ.room A.in1) (hSI:S ≠ I) (hSl:S ≠ l) (hlI:l ≠ I) (hn:ys.length <= 50) :
  ∀ (r i:Nat) (s:Shared) (xs:List (K × Addr)) (o:Obj) (ep:Nat) (t:SetTable),i + r = ys.length -> s.heap.IsListIter I l i -> s.heap.IsList l (ys.map fun y=>Value.ref y.2).toArray -> SetO κ s.heap S led xs o ep t ->
   (∀ y ∈ ys,κ.is s.heap y.1 y.2) -> (∀ x ∈ xs,x ∈ ys) -> (∀ j y,j < i -> ys[j]? = some y -> y.1 ∈ xs.map (·.1)) -> xs.length <= i ->
   (∀ h' tk o' ep' t' zs,(∀ b ob,b ≠ S -> b ≠ I -> s.heap.get? b = some ob -> h'.get? b = some ob) -> SetO κ h' S led zs o' ep' t' -> (∀ x ∈ zs,x ∈ ys) -> (∀ y ∈ ys,y.1 ∈ zs.map (·.1)) -> R (.ok (.ret .none)) { s with heap:=h',toks:=tk }) ->
   codeAny (model prog w) A (.builtin "set.update.loop" ⟨[.ref S,.ref I],[]⟩) R s:=by
 intro r
 induction r with
 | zero =>
  intro i s xs o ep t hi hit hl hS hk hx hd hz hR
  refine codeAny_builtin PyProof.Rows.F.entry_set_update_loop ?_
  rw [Around.under_plainId PyProof.Rows.F.plain_set_update_loop _]
  refine wpAny_bind (m:=pyNext (.ref I)) (wpAny_pyNext_list_end hh hit hl (by simp; lia) fun h' he=>?_)
  refine wpAny_pure (hR h' s.toks o ep t xs (fun b ob _ h2 e=>he b ob h2 e) (hS.keep fun b ob e c=>he b ob ?_ e) hx fun y hy=>?_)
  ·rintro rfl
   rcases c with c | c
   ·exact hSI c.symm
   ·refine x1_3 hit fun oi h1 h2 _=>?_
    clear hit
    obtain rfl:=Option.some.inj (e.symm.trans h1)
    rw [h2] at c; exact absurd c (by decide)
  ·obtain ⟨j,hj,ej⟩:=List.mem_iff_getElem.mp hy
   exact hd j y (by lia) (by rw [List.getElem?_eq_getElem hj,ej])
 | succ r ih =>
  intro i s xs o ep t hi hit hl hS hk hx hd hz hR
  have hil:i < ys.length:=by lia
  refine codeAny_builtin PyProof.Rows.F.entry_set_update_loop ?_
  rw [Around.under_plainId PyProof.Rows.F.plain_set_update_loop _]
  refine wpAny_bind (m:=pyNext (.ref I)) (wpAny_pyNext_list_item hit hl (x:=.ref (ys[i]).2) (by simp [hil]) fun h1 hit1 sb1=>?_)
  have tupI:∀ b ob,s.heap.get? b = some ob -> ob.cls = .type "tuple" -> b ≠ I:=fun b ob e c z=>by
   subst z
   refine x1_3 hit fun oi q1 q2 _=>?_
   clear hit
   obtain rfl:=Option.some.inj (e.symm.trans q1)
   rw [q2] at c; exact absurd c (by decide)
  have keep1:∀ b ob,s.heap.get? b = some ob -> (b = S \/ ob.cls = .type "tuple") -> h1.get? b = some ob:=fun b ob e c=>by
   rw [sb1.2 b ?_]
   ·exact e
   ·rcases c with c | c
    ·rw [c]; exact hSI
    ·exact tupI b ob e c
  have S1:SetO κ ({ s with heap:=h1 }:Shared).heap S led xs o ep t:=hS.keep keep1
  have hk1:∀ y ∈ ys,κ.is h1 y.1 y.2:=fun y hy=>κ.mono (hk y hy) fun b ob e c=>keep1 b ob e (.inr c)
  have hm:ys[i] ∈ ys:=List.getElem_mem hil
  dsimp only
  refine wpAny_bind (wpAny_holding (qm7 S1 hroom (hk1 _ hm) (by lia) fun c h2 o2 ep2 t2 zs sb2 S2 m1 m2 m3 m4=>?_))
  refine wpAny_pure ⟨plainId_quiet PyProof.Rows.F.plain_set_update_loop _,?_⟩
  have tupS:∀ b ob,h1.get? b = some ob -> ob.cls = .type "tuple" -> b ≠ S:=fun b ob e c z=>by
   subst z
   obtain rfl:=Option.some.inj (e.symm.trans S1.obj)
   rw [S1.exact'.1] at c; exact absurd c (by decide)
  refine ih (i + 1) _ zs o2 ep2 t2 (by lia) (hit1.at fun ob e=>by rw [sb2.2 _ (Ne.symm hSI)]; exact e) ?_ S2 (fun y hy=>κ.mono (hk1 y hy) fun b ob e c=>by rw [sb2.2 b (tupS b ob e c)]; exact e)
   (fun x hx'=>?_) (fun j y hj hy=>?_) (by lia) fun h' tk o' ep' t' ws q1 q2 q3 q4=>?_
  ·refine hl.at fun ob e=>?_
   show h2.get? l = _
   rw [sb2.2 _ (Ne.symm hSl),sb1.2 _ hlI]; exact e
  ·rcases m1 x hx' with e | e
   ·exact hx x e
   ·rw [e]; exact hm
  ·by_cases c:j < i
   ·refine x1_2 (List.mem_map.mp (hd j y c hy)) fun x hx1 hx2=>?_
    exact List.mem_map.mpr ⟨x,m2 x hx1,hx2⟩
   ·have:j = i:=by lia
    subst this
    rw [List.getElem?_eq_getElem hil] at hy
    obtain rfl:=Option.some.inj hy
    exact m3
  ·refine hR h' tk o' ep' t' ws (fun b ob h1' h2' e=>q1 b ob h1' h2' ?_) q2 q3 q4
   show h2.get? b = _
   rw [sb2.2 b h1',sb1.2 b h2']; exact e
end
end Ts
end T_Ts3
section T_Ts4
namespace Ts
open PySem PySem.SetTable Tb
section
variable {prog:Program} {w:World} {K:Type} [DecidableEq K] {κ:SKind prog w K}
variable {A:Around} {E:Value -> Shared -> Prop} {R:Result -> Shared -> Prop} {s:Shared}
noncomputable def jc0 (w:World):Bool:=!(w.params.followText "set-order")
noncomputable def ja9 (w:World):Obj:={ cls:=.type "set",dict:=none,data:=.set #[] 0 (.fresh 0 0 (jc0 w)) }
theorem kd9 (w:World):Good (SetTable.fresh 0 0 (jc0 w)) 0:=⟨rfl,fun i j _ h=>absurd h (Nat.not_lt_zero _),fun i h=>absurd h (Nat.not_lt_zero _),rfl,.inl rfl,(by show 0 < 7; decide)⟩
theorem kf7 {h:Heap} {a:Addr} (e:h.get? a = some (ja9 w)):SetO κ h a (jc0 w) [] (ja9 w) 0 (.fresh 0 0 (jc0 w)) :=
 ⟨e,⟨rfl,rfl,rfl⟩,rfl,kd9 w,fun i h=>absurd h (Nat.not_lt_zero _),rfl,rfl,(by show 0 * 5 < 7 * 3; decide),List.nodup_nil,fun x h=>absurd h (by simp)⟩
theorem kr3 (v:Value) {Q₁:Value -> Shared -> Prop} (h:Q₁ (.ref s.heap.objs.size) { s with heap:=s.heap.push (ja9 w) }) :
  codeAny (model prog w) A (.call (.builtin "set.__new__") ⟨[.type "set",v],[]⟩) (wants Q₁ E) s:=by
 refine codeAny_of_tree ?_
 show wpAny _ A.in1 (checkBuiltinCall "set.__new__" ⟨[.type "set",v],[]⟩ >>= fun _=>again (.builtin "set.__new__" ⟨[.type "set",v],[]⟩)) _ _ s
 refine wpAny_bind (wpAny_of_eq (F.newCall_set_1 v) (wpAny_pure ⟨plainId_quiet F.plain_set_new _,codeAny_builtin F.entry_set_new ?_⟩))
 rw [Around.under_plainId F.plain_set_new _]
 unfold Builtin.«set.__new__» Builtin.Frozenset.newClass
 have own:=sub_set_self
 obtain ⟨hp,g,d,tk,os⟩:=s
 dsimp only
 wp_walk
 refine wpAny_askSetting (wpAny_pure ?_)
 dsimp only
 simp only [newObj]
 exact wpAny_bind (wpAny_alloc (wpAny_pure (wpAny_pure h)))
theorem kq8 {l:Addr} {ys:List (K × Addr)} {Q:Value -> Shared -> Prop} (hh:A.handled = none) (hroom:κ.room A.in1.in1.in1) (hl:s.heap.IsList l (ys.map fun y=>Value.ref y.2).toArray) (hn:ys.length <= 50) (hk:∀ y ∈ ys,κ.is s.heap y.1 y.2)
  (h:∀ h' tk o ep t zs,(∀ b ob,s.heap.get? b = some ob -> h'.get? b = some ob) -> SetO κ h' s.heap.objs.size (jc0 w) zs o ep t -> (∀ x ∈ zs,x ∈ ys) -> (∀ y ∈ ys,y.1 ∈ zs.map (·.1)) -> Q (.ref s.heap.objs.size) { s with heap:=h',toks:=tk }) :
  wpAny (model prog w) A (call (.type "set") [.ref l]) Q E s:=by
 refine x2_1 F.called_set.mro fun c tl hmro=>?_
 have made:=F.called_set.made
 have sub:=F.called_set.sub
 have n1:=F.called_set.notType
 have n2:=F.called_set.canCreate
 have ct:=F.typeCall_set_1 (.ref l)
 refine wpAny_call (codeAny_of_tree ?_)
 show wpAny _ _ (callAny (.type "set") _) _ _ _
 refine wpAny_pure ⟨Code.quiet_builtin _ (by decide +kernel),codeAny_builtin F.entry_type_call ?_⟩
 rw [Around.under_plain (weight_type_call_type "set" [.ref l] []) rfl]
 repeat any_goals first | assumption | wp_step
 refine codeAny_mono (kr3 (.ref l) (E:=E) (Q₁:=fun obj s₁=>obj = .ref s.heap.objs.size /\ s₁ = { s with heap:=s.heap.push (ja9 w) }) ⟨rfl,rfl⟩) fun r s₁ hr=>?_
 cases r with
 | error e=>exact hr
 | ok fl =>
  cases fl with
  | ret obj =>
   obtain ⟨rfl,rfl⟩:=hr
   have got:(s.heap.push (ja9 w)).get? s.heap.objs.size = some (ja9 w):=Heap.get?_push_size _ rfl
   have ty:Shared.TypeIs { s with heap:=s.heap.push (ja9 w) } (.ref s.heap.objs.size) "set":=⟨_,got,rfl⟩
   have li:=F.called_set.init.lookup
   have bi:=F.called_set.init.bind (.ref s.heap.objs.size)
   repeat any_goals first | assumption | wp_step
   refine codeAny_mono (codeAny_call_builtin (R:=wants (fun r s₂=>r = .none /\ ∃ h' tk o ep t zs,s₂ = { s with heap:=h',toks:=tk } /\ (∀ b ob,s.heap.get? b = some ob -> h'.get? b = some ob) /\ SetO κ h' s.heap.objs.size (jc0 w) zs o ep t /\ (∀ x ∈ zs,x ∈ ys) /\ (∀ y ∈ ys,y.1 ∈ zs.map (·.1))) E)
    F.called_set.init.plain F.entry_set_init (check_set_init_1 ty ?_)) fun r₂ s₂ hr₂=>?_
   ·obtain ⟨ol,hol,hcl,nl,hdl⟩:=hl
    obtain ⟨ocls,odict,odata,oslots⟩:=ol
    simp only at hcl hdl
    subst hcl; subst hdl
    have hol':(s.heap.push (ja9 w)).get? l = some { cls:=.type "list",dict:=odict,data:=.seq (ys.map fun y=>Value.ref y.2).toArray nl,slots:=oslots }:=Heap.get?_push_of_some _ hol
    have s1:=F.sub_list_set
    have s2:=F.sub_list_frozenset
    have s3:(Value.type "list" == Value.type "dict") = false:=by decide
    have hl1:(s.heap.push (ja9 w)).IsList l (ys.map fun y=>Value.ref y.2).toArray:=⟨_,hol',rfl,nl,rfl⟩
    have got':(s.heap.push (ja9 w)).get? s.heap.objs.size = some { cls:=.type "set",dict:=none,data:=.set #[] 0 (.fresh 0 0 (jc0 w)) }:=got
    unfold Builtin.«set.__init__» noKeywords Builtin.Frozenset.updateFrom
    generalize hPI:pyIter = PI
    wp_walk
    subst hPI
    refine wpAny_pyIter_list hl1 ?_
    refine wpAny_bind (wpAny_runValue ?_)
    have lt:l < s.heap.objs.size:=Heap.lt_size hol
    have sz:(s.heap.push (ja9 w)).objs.size = s.heap.objs.size + 1:=by rw [Heap.size_push]
    have d1:s.heap.objs.size ≠ (s.heap.push (ja9 w)).objs.size:=by rw [sz]; exact Nat.ne_of_lt (Nat.lt_succ_self _)
    have d2:s.heap.objs.size ≠ l:=Nat.ne_of_gt lt
    have d3:l ≠ (s.heap.push (ja9 w)).objs.size:=by rw [sz]; exact Nat.ne_of_lt (Nat.lt_succ_of_lt lt)
    refine qb1 (κ:=κ) (led:=jc0 w) (ys:=ys) (by simp [hh]) hroom d1 d2 d3 hn ys.length 0 _ [] (ja9 w) 0 (.fresh 0 0 (jc0 w)) (by lia)
     ?h1 ?h2 ?h3 ?hk (fun x hx=>absurd hx (by simp)) (fun j y hj=>absurd hj (Nat.not_lt_zero _)) (Nat.le_refl _) fun h' tk o ep t zs q1 q2 q3 q4=>?_
    case h1=>exact ⟨_,Heap.get?_push_size _ rfl,rfl,rfl⟩
    case h2=>exact hl1.push _
    case h3=>exact kf7 (Heap.get?_push_of_some _ got)
    case hk=>exact fun y hy=>κ.mono (hk y hy) fun b ob e _=>Heap.get?_push_of_some _ (Heap.get?_push_of_some _ e)
    refine wpAny_pure (wpAny_pure ⟨rfl,h',tk,o,ep,t,zs,rfl,fun b ob e=>?_,q2,q3,q4⟩)
    have lb:=Heap.lt_size e
    exact q1 b ob (Nat.ne_of_lt lb) (by rw [sz]; exact Nat.ne_of_lt (Nat.lt_succ_of_lt lb)) (Heap.get?_push_of_some _ (Heap.get?_push_of_some _ e))
   ·cases r₂ with
    | error e=>exact hr₂
    | ok fl₂ =>
     cases fl₂ with
     | ret r =>
      obtain ⟨rfl,h',tk,o,ep,t,zs,rfl,q1,q2,q3,q4⟩:=hr₂
      repeat any_goals first | assumption | wp_step
      exact h h' tk o ep t zs q1 q2 q3 q4
     | _=>exact hr₂.elim
  | _=>exact hr.elim
end
end Ts
end T_Ts4
section T_Ts5
namespace Ts
open PySem PySem.SetTable Tb
theorem W3:Slot "set_iterator" "__next__" "set_iterator.__next__" :=
 .of (owner:="set_iterator") (n:="__next__") (by rw [typeLookup_type,builtinLookup_eq_fast]; kernel_rfl) (by decide +kernel)
  (by decide +kernel) (by decide +kernel) (by first | exact .inl (by decide +kernel) | exact .inr (by decide +kernel))
  (by rw [isSubtype_type]; kernel_rfl)
theorem jf8:entryFor table "set_iterator.__next__" = some Builtin.«set_iterator.__next__»:=entryFor_of_tree (by kernel_rfl)
theorem jh2 (a:Value):argsOk "set_iterator.__next__" ⟨[a],[]⟩:=by unfold argsOk; kernel_rfl
theorem jn9:entryFor table "set.__iter__" = some Builtin.«frozenset.__iter__» :=
 entryFor_alias (id':="frozenset.__iter__") (by kernel_rfl) rfl (by decide +kernel) (by kernel_rfl)
theorem kn4 {α:Type} (next:Nat -> Nat):∀ (fuel k:Nat) (left:List α) (out:Array α),fuel = left.length -> (pickOrder.go next fuel k left out).toList.Perm (out.toList ++ left)
 | 0,k,left,out,h=>by
  have:left = []:=List.length_eq_zero_iff.mp h.symm
  subst this
  unfold pickOrder.go
  simp
 | fuel + 1,k,left,out,h=>by
  unfold pickOrder.go
  have hlt:next k % left.length < left.length:=Nat.mod_lt _ (by lia)
  rw [List.getElem?_eq_getElem hlt]
  dsimp only
  refine (kn4 next fuel (k + 1) _ _ (by rw [List.length_eraseIdx_of_lt hlt]; lia)).trans ?_
  rw [Array.toList_push,List.append_assoc]
  refine List.Perm.append_left _ ?_
  have e1:left = left.take (next k % left.length) ++ left[next k % left.length] :: left.drop (next k % left.length + 1):=by
   rw [<- List.drop_eq_getElem_cons hlt,List.take_append_drop]
  have e2:left.eraseIdx (next k % left.length) = left.take (next k % left.length) ++ left.drop (next k % left.length + 1):=List.eraseIdx_eq_take_drop_succ _ _
  rw [e2]
  refine List.Perm.trans ?_ (List.Perm.of_eq e1.symm)
  rw [List.singleton_append]
  exact List.perm_middle.symm
theorem jx2 {α:Type} (next:Nat -> Nat) (xs:Array α):(pickOrder next xs).toList.Perm xs.toList:=by
 have:=kn4 next xs.size 0 xs.toList #[] (by simp)
 simpa [pickOrder] using this
section
variable {prog:Program} {w:World} {K:Type} [DecidableEq K] {κ:SKind prog w K}
variable {A:Around} {E:Value -> Shared -> Prop} {R:Result -> Shared -> Prop} {s:Shared} {a I:Addr} {xs:List (K × Addr)} {o:Obj} {ep:Nat} {t:SetTable}
noncomputable def jd2 (w:World) (a:Addr) (ep:Nat) (es:Array (Int × Value)):Array (Int × Value):=if w.params.followText "set-order" then pickOrder (w.params.setOrder a ep) es else es
theorem jn3 (w:World) (a:Addr) (ep:Nat) (es:Array (Int × Value)):(jd2 w a ep es).toList.Perm es.toList:=by
 unfold jd2; split
 ·exact jx2 _ _
 ·exact .refl _
noncomputable def U7 (w:World) (t:SetTable) (m:Nat):Nat:=if w.params.followText "set-order" then 0 else if m = 0 then 0 else t.place.getD (m - 1) 0 + 1
noncomputable def SIter (h:Heap) (I a:Addr) (n ep slot m:Nat):Prop:=∃ ob,h.get? I = some ob /\ ob.cls = .type "set_iterator" /\ ob.data = .fields #[rawInt slot,rawInt m,.ref a,rawInt n,rawInt ep]
theorem SIter.typeIs {n ep slot m:Nat} (x:SIter s.heap I a n ep slot m):s.TypeIs (.ref I) "set_iterator":=let ⟨ob,h1,h2,_⟩:=x; ⟨ob,h1,h2⟩
theorem jm2 {Q:Bool -> Shared -> Prop} (h:Q (w.params.followText "set-order") s):wpAny (model prog w) A setsByText Q E s:=by
 unfold setsByText
 exact wpAny_bind (wpAny_askSetting (wpAny_pure h))
theorem ki7 {Q:Option (Value × Nat) -> Shared -> Prop} {m:Nat} (S:SetO κ s.heap a (jc0 w) xs o ep t) (hm:m <= xs.length)
  (h1:∀ e,(jd2 w a ep (xs.map (entry κ)).toArray)[m]? = some e -> Q (some (e.2,U7 w t (m + 1))) s) (h2:m = xs.length -> Q none s) :
  wpAny (model prog w) A (setNext a (U7 w t m) m ep) Q E s:=by
 unfold setNext
 refine wpAny_bind (Y8 S ?_)
 dsimp only
 refine wpAny_bind (jm2 ?_)
 by_cases hb:w.params.followText "set-order" = true
 ·rw [if_pos hb]
  simp only [bne_self_eq_false,Bool.false_eq_true,if_false]
  unfold setWalk
  refine wpAny_bind (wpAny_bind (Y8 S ?_))
  dsimp only
  refine wpAny_bind (jm2 ?_)
  rw [if_pos hb]
  refine wpAny_bind (wpAny_askSetting (wpAny_pure ?_))
  have ew:jd2 w a ep (xs.map (entry κ)).toArray = pickOrder (w.params.setOrder a ep) (xs.map (entry κ)).toArray:=by unfold jd2; rw [if_pos hb]
  have es:∀ q,U7 w t q = 0:=fun q=>by unfold U7; rw [if_pos hb]
  have sz:(pickOrder (w.params.setOrder a ep) (xs.map (entry κ)).toArray).size = xs.length:=by
   rw [<- Array.length_toList,(jx2 _ _).length_eq]; simp
  refine wpAny_pure ?_
  show Q ((pickOrder (w.params.setOrder a ep) (xs.map (entry κ)).toArray)[m]?.map fun e=>(e.2,U7 w t m)) s
  cases q:(pickOrder (w.params.setOrder a ep) (xs.map (entry κ)).toArray)[m]? with
  | none =>
   have:=Array.getElem?_eq_none_iff.mp q
   exact h2 (by lia)
  | some e =>
   have:=h1 e (by rw [ew]; exact q)
   rw [es] at this ⊢
   exact this
 ·rw [if_neg hb]
  have ew:jd2 w a ep (xs.map (entry κ)).toArray = (xs.map (entry κ)).toArray:=by unfold jd2; rw [if_neg hb]
  have ld:t.led = true:=by rw [S.led']; unfold jc0; rw [Bool.eq_false_iff.mpr hb]; rfl
  have bl:below t.place (U7 w t m) = m:=by
   unfold U7
   rw [if_neg hb]
   by_cases c:m = 0
   ·rw [if_pos c,c]
    refine x0_3 (je5 S.good.rise 0) fun b1 b2 b3=>?_
    rcases Nat.eq_zero_or_pos (below t.place 0) with z | z
    ·exact z
    ·exact absurd (b2 0 z) (Nat.not_lt_zero _)
   ·rw [if_neg c]
    refine x0_3 (je5 S.good.rise (t.place.getD (m - 1) 0 + 1)) fun b1 b2 b3=>?_
    rw [S.good.size] at b1 b3
    rcases Nat.lt_trichotomy (below t.place (t.place.getD (m - 1) 0 + 1)) m with z | z | z
    ·have:=b3 (m - 1) (by lia) (by lia)
     lia
    ·exact z
    ·have q1:=b2 m z
     have q2:=S.good.rise (m - 1) m (by lia) (by rw [S.good.size]; lia)
     lia
  refine wpAny_ite ?_
  split
  ·rename_i hd
   exfalso
   have:(!t.plain && decide ((xs.map (entry κ)).toArray.size > 1)) = true:=hd
   rw [S.plain] at this
   cases this
  ·refine wpAny_bind (wpAny_of_eq (a:=()) ?_ ?_)
   ·show (if (!t.led && !((xs.map (entry κ)).toArray).isEmpty) = true then (unsupported "set:maker-not-led" : Sem Unit) else pure ()) = pure ()
    rw [ld]; rfl
   refine wpAny_pure ?_
   show Q (match ((xs.map (entry κ)).toArray)[below t.place (U7 w t m)]?,t.place[below t.place (U7 w t m)]? with
    | some (_,x),some j=>some (x,j + 1)
    | _,_=>none) s
   rw [bl]
   by_cases c:m < xs.length
   ·have e1:((xs.map (entry κ)).toArray)[m]? = some (entry κ xs[m]):=by rw [jc4,List.getElem?_eq_getElem c]; rfl
    have hs:m < t.place.size:=by rw [S.good.size]; exact c
    have e2:t.place[m]? = some (t.place.getD m 0):=by simp [Array.getD,hs]
    rw [e1,e2]
    have:=h1 (entry κ xs[m]) (by rw [ew]; exact e1)
    unfold U7 at this
    rw [if_neg hb,if_neg (by lia),Nat.add_sub_cancel] at this
    exact this
   ·have em:m = xs.length:=by lia
    have e1:((xs.map (entry κ)).toArray)[m]? = none:=by rw [jc4,List.getElem?_eq_none (by lia)]; rfl
    rw [e1]
    exact h2 em
end
end Ts
end T_Ts5
section T_Ts6
namespace Ts
open PySem PySem.SetTable Tb
section
variable {prog:Program} {w:World} {K:Type} [DecidableEq K] {κ:SKind prog w K}
variable {A:Around} {E:Value -> Shared -> Prop} {R:Result -> Shared -> Prop} {s:Shared} {a I:Addr} {xs:List (K × Addr)} {o:Obj} {ep:Nat} {t:SetTable}
theorem ji5 {Q:Array (Int × Value) -> Shared -> Prop} {led:Bool} (S:SetO κ s.heap a led xs o ep t) (h:Q (xs.map (entry κ)).toArray s):wpAny (model prog w) A (setEntries a) Q E s:=by
 unfold setEntries
 exact wpAny_bind (Y8 S (wpAny_pure h))
theorem qf7 {Q:Value -> Shared -> Prop} (S:SetO κ s.heap a (jc0 w) xs o ep t) (hn:xs.length <= 50)
  (h:Q (.ref s.heap.objs.size) { s with heap:=s.heap.push { cls:=.type "set_iterator",data:=.fields #[rawInt (U7 w t 0),rawInt ((0:Nat):Int),.ref a,rawInt xs.length,rawInt ep] } }):wpAny (model prog w) A (pyIter (.ref a)) Q E s:=by
 have ty:s.TypeIs (.ref a) "set":=⟨o,S.obj,S.exact'.1⟩
 refine wpAny_pyIter_slot ty F.slot_set_iter (wpAny_call_entry F.slot_set_iter ty jn9 ?_ (F.args_set_iter_1 _))
 unfold Builtin.«frozenset.__iter__» Builtin.Frozenset.slot0 slotArgs
 simp only [List.isEmpty_nil,Bool.not_true,Bool.false_eq_true,if_false,bind_assoc,List.length_nil,bne_self_eq_false]
 unfold Builtin.Frozenset.addrOf Builtin.Frozenset.sizeOf
 refine wpAny_bind (wpAny_pure ?_)
 try dsimp only
 refine wpAny_bind (wpAny_pure ?_)
 refine wpAny_bind (wpAny_bind (ji5 S (wpAny_pure ?_)))
 refine wpAny_bind ?_
 unfold setDrawn
 refine wpAny_bind (Y8 S ?_)
 dsimp only
 refine wpAny_bind (jm2 (wpAny_pure ?_))
 rw [if_neg (by
  intro z
  have z:(!(w.params.followText "set-order") && (!t.plain && decide ((xs.map (entry κ)).toArray.size > 1))) = true:=z
  rw [S.plain] at z
  simp at z)]
 refine wpAny_bind (wpAny_pure ?_)
 have z0:U7 w t 0 = 0:=by unfold U7; split <;> rfl
 rw [z0] at h
 refine wpAny_bind ?_
 unfold setEpoch
 refine wpAny_bind (Y8 S (wpAny_pure ?_))
 dsimp only
 unfold newFields
 refine wpAny_bind (wpAny_newObj_type (wpAny_pure ⟨_,rfl,"set_iterator",_,⟨_,Heap.get?_push_size _ rfl,rfl⟩,W3.lookup,?_⟩))
 simpa using h
theorem kq4 {Q:Option Value -> Shared -> Prop} {m:Nat} {e:Int × Value} (S:SetO κ s.heap a (jc0 w) xs o ep t) (hit:SIter s.heap I a xs.length ep (U7 w t m) m) (he:(jd2 w a ep (xs.map (entry κ)).toArray)[m]? = some e)
  (hm:m < xs.length) (hQ:∀ h',SIter h' I a xs.length ep (U7 w t (m + 1)) (m + 1) -> Heap.SameBut I s.heap h' -> Q (some e.2) { s with heap:=h' }):wpAny (model prog w) A (pyNext (.ref I)) Q E s:=by
 refine x1_3 (id hit) fun ob ho hc hd=>?_
 unfold pyNext
 refine wpAny_bind (wpAny_attempt (wpAny_callSpecial?_slot (name:=Str.ofString "__next__") hit.typeIs W3 (wpAny_call_entry W3 hit.typeIs jf8 ?_ (jh2 _))))
 unfold Builtin.«set_iterator.__next__» slotArgs
 simp only [List.isEmpty_nil,Bool.not_true,Bool.false_eq_true,if_false,bind_assoc,List.length_nil,bne_self_eq_false]
 refine wpAny_bind (wpAny_pure ?_)
 dsimp only
 refine wpAny_bind (wpAny_fieldsOf ho hd ?_)
 dsimp only [rawInt]
 refine wpAny_bind (ji5 S ?_)
 rw [if_neg (by simp)]
 simp only [Int.toNat_natCast]
 refine wpAny_bind (ki7 S (Nat.le_of_lt hm) (fun e' he'=>?_) (fun z=>absurd z (Nat.ne_of_lt hm)))
 obtain rfl:e = e':=Option.some.inj (he.symm.trans he')
 dsimp only
 refine wpAny_bind (wpAny_setField ho hd (by simp) ?_)
 have d1:=Obj.data_mapFields hd (·.setIfInBounds 0 (rawInt (U7 w t (m + 1):Nat)))
 have g1:=Heap.get?_update_self (Obj.mapFields (·.setIfInBounds 0 (rawInt (U7 w t (m + 1):Nat)))) ho (Obj.isFreed_of_fields d1)
 refine wpAny_bind (wpAny_setField g1 d1 (by simp) ?_)
 have d2:=Obj.data_mapFields d1 (·.setIfInBounds 1 (rawInt ((m:Int) + 1)))
 have g2:=Heap.get?_update_self (Obj.mapFields (·.setIfInBounds 1 (rawInt ((m:Int) + 1)))) g1 (Obj.isFreed_of_fields d2)
 refine wpAny_pure ⟨_,rfl,wpAny_pure (hQ _ ⟨_,g2,?_,?_⟩ ((Heap.SameBut.update ..).trans (Heap.SameBut.update ..)))⟩
 ·rw [Obj.cls_mapFields,Obj.cls_mapFields]; exact hc
 ·rw [d2]; simp [rawInt]
theorem qb5 {Q:Option Value -> Shared -> Prop} (hh:A.handled = none) (S:SetO κ s.heap a (jc0 w) xs o ep t) (hit:SIter s.heap I a xs.length ep (U7 w t xs.length) xs.length)
  (hQ:∀ h',Heap.ExtBut I s.heap h' -> Q none { s with heap:=h' }):wpAny (model prog w) A (pyNext (.ref I)) Q E s:=by
 refine x1_3 (id hit) fun ob ho hc hd=>?_
 unfold pyNext
 refine wpAny_bind (wpAny_attempt (wpAny_callSpecial?_slot (name:=Str.ofString "__next__") hit.typeIs W3 (wpAny_call_entry W3 hit.typeIs jf8 ?_ (jh2 _))))
 unfold Builtin.«set_iterator.__next__» slotArgs
 simp only [List.isEmpty_nil,Bool.not_true,Bool.false_eq_true,if_false,bind_assoc,List.length_nil,bne_self_eq_false]
 refine wpAny_bind (wpAny_pure ?_)
 dsimp only
 refine wpAny_bind (wpAny_fieldsOf ho hd ?_)
 dsimp only [rawInt]
 refine wpAny_bind (ji5 S ?_)
 rw [if_neg (by simp)]
 simp only [Int.toNat_natCast]
 have sz:(jd2 w a ep (xs.map (entry κ)).toArray).size = xs.length:=by rw [<- Array.length_toList,(jn3 _ _ _ _).length_eq]; simp
 refine wpAny_bind (ki7 S (Nat.le_refl _) (fun e' he'=>?_) (fun z=>?_))
 ·rw [Array.getElem?_eq_none (by lia)] at he'; cases he'
 dsimp only
 refine wpAny_bind (wpAny_setField ho hd (by simp) ?_)
 refine wpAny_bind ?_
 simp only [newExc,newTuple]
 refine wpAny_bind (wpAny_newObj_type ?_ (by size_fits))
 refine wpAny_bind (m:=firstArgMember _ _) (wpAny_of_eq (a:=Value.none) (by first | rfl | (simp only [firstArgMember]; rfl)) ?_)
 refine wpAny_newObj_type ?_ (by size_fits)
 simp only [raiseNew]
 refine wpAny_bind (wpAny_handled ?_)
 have hh1:A.in1.handled = none:=hh
 rw [hh1]
 refine wpAny_bind (wpAny_pure (wpAny_throw ?_))
 refine wpAny_bind (wpAny_isInstance (T:="StopIteration") (b:=true) ⟨_,Heap.get?_push_size _ rfl,rfl⟩ isSubtype_stop ?_)
 exact wpAny_pure (hQ _ (((Heap.SameBut.update ..).extBut.push _).push _))
theorem ki2 {L:Addr} {res:Value} (hh:A.handled = none) (hLI:L ≠ I) (hLa:L ≠ a) (hIa:a ≠ I) (hn:xs.length <= 50) :
  ∀ (r m:Nat) (s:Shared),m + r = xs.length -> SetO κ s.heap a (jc0 w) xs o ep t -> SIter s.heap I a xs.length ep (U7 w t m) m ->
   (∃ n,s.heap.get? L = some (PyProof.Rows.seqObj "list" (((jd2 w a ep (xs.map (entry κ)).toArray).toList.take m).map (·.2)).toArray n)) ->
   (∀ h' n,(∀ b ob,b ≠ L -> b ≠ I -> s.heap.get? b = some ob -> h'.get? b = some ob) -> h'.get? L = some (PyProof.Rows.seqObj "list" ((jd2 w a ep (xs.map (entry κ)).toArray).toList.map (·.2)).toArray n) -> R (.ok (.ret res)) { s with heap:=h' }) ->
   codeAny (model prog w) A (.builtin "list.extend.loop" ⟨[.ref L,.ref I,res],[]⟩) R s:=by
 have sz:(jd2 w a ep (xs.map (entry κ)).toArray).size = xs.length:=by rw [<- Array.length_toList,(jn3 _ _ _ _).length_eq]; simp
 have ji7:entryFor table "list.extend.loop" = some Builtin.«list.extend.loop»:=entryFor_of_tree (by kernel_rfl)
 have je8:plainId "list.extend.loop" = true:=by decide +kernel
 intro r
 induction r with
 | zero =>
  intro m s hm S hit ⟨n,hL⟩ hR
  have em:m = xs.length:=by lia
  subst em
  refine codeAny_builtin ji7 ?_
  rw [Around.under_plainId je8 _]
  refine wpAny_bind (m:=pyNext (.ref I)) (qb5 hh S hit fun h' he=>?_)
  refine wpAny_pure (hR h' n (fun b ob _ h2 e=>he b ob h2 e) ?_)
  have:=he L _ hLI hL
  rw [List.take_of_length_le (by rw [Array.length_toList]; lia)] at this
  exact this
 | succ r ih =>
  intro m s hm S hit ⟨n,hL⟩ hR
  have hml:m < xs.length:=by lia
  have hml':m < (jd2 w a ep (xs.map (entry κ)).toArray).size:=by lia
  refine codeAny_builtin ji7 ?_
  rw [Around.under_plainId je8 _]
  refine wpAny_bind (m:=pyNext (.ref I)) (kq4 S hit (Array.getElem?_eq_getElem hml') hml fun h1 hit1 sb1=>?_)
  have hL1:h1.get? L = some (PyProof.Rows.seqObj "list" (((jd2 w a ep (xs.map (entry κ)).toArray).toList.take m).map (·.2)).toArray n):=by rw [sb1.2 L hLI]; exact hL
  refine wpAny_bind (PyProof.Rows.listUpdate_at hL1 rfl ?_ (by simp; rw [sizeLine_eq]; lia) (by simp; rw [sizeLine_eq]; lia))
  refine wpAny_pure ⟨plainId_quiet je8 _,?_⟩
  have sb2:=Heap.SameBut.update h1 L (Obj.mapSeq fun x=>x.push ((jd2 w a ep (xs.map (entry κ)).toArray)[m]).2)
  have tup:∀ b ob,s.heap.get? b = some ob -> (b = a \/ ob.cls = .type "tuple") -> b ≠ I /\ b ≠ L:=fun b ob e c=>by
   constructor
   ·rintro rfl
    rcases c with c | c
    ·exact hIa c.symm
    ·refine x1_3 hit fun q q1 q2 _=>?_
     clear hit
     obtain rfl:=Option.some.inj (e.symm.trans q1)
     rw [q2] at c; exact absurd c (by decide)
   ·rintro rfl
    rcases c with c | c
    ·exact hLa c
    ·obtain rfl:=Option.some.inj (e.symm.trans hL)
     exact absurd (show Value.type "list" = Value.type "tuple" from c) (by decide)
  refine ih (m + 1) _ (by lia) (S.keep fun b ob e c=>?_) ?_ ?_ fun h' n' q1 q2=>?_
  ·obtain ⟨c1,c2⟩:=tup b ob e c
   show (h1.update L _).get? b = _
   rw [sb2.2 b c2,sb1.2 b c1]; exact e
  ·refine x1_2 hit1 fun q q1 q2=>?_
   clear hit1
   exact ⟨q,(by show (h1.update L _).get? I = _; rw [sb2.2 I (Ne.symm hLI)]; exact q1),q2⟩
  ·obtain ⟨n',hn'⟩ : ∃ n',(h1.update L (Obj.mapSeq fun x=>x.push ((jd2 w a ep (xs.map (entry κ)).toArray)[m]).2)).get? L = some (PyProof.Rows.seqObj "list" ((((jd2 w a ep (xs.map (entry κ)).toArray).toList.take m).map (·.2)).toArray.push ((jd2 w a ep (xs.map (entry κ)).toArray)[m]).2) n'):=⟨_,PyProof.Rows.get?_update_seq hL1 _⟩
   refine ⟨n',hn'.trans ?_⟩
   congr 2
   rw [List.take_succ,List.getElem?_eq_getElem (by rw [Array.length_toList]; exact hml')]
   simp
  ·refine hR h' n' (fun b ob h1' h2' e=>q1 b ob h1' h2' ?_) q2
   show (h1.update L _).get? b = _
   rw [sb2.2 b h1',sb1.2 b h2']; exact e
end
end Ts
end T_Ts6
section T_Ts7
namespace Ts
open PySem PySem.SetTable Tb
section
variable {prog:Program} {w:World} {K:Type} [DecidableEq K] {κ:SKind prog w K}
variable {A:Around} {E:Value -> Shared -> Prop} {R:Result -> Shared -> Prop} {s:Shared} {a I:Addr} {xs:List (K × Addr)} {o:Obj} {ep:Nat} {t:SetTable}
theorem kz7 {Q:Bool -> Shared -> Prop} (hT:s.TypeIs (.ref a) "set") (h:∀ c tk,Q c { s with toks:=tk }):wpAny (model prog w) A (Builtin.List.listLengthHint (.ref a)) Q E s:=by
 unfold Builtin.List.listLengthHint
 refine wpAny_bind (wpAny_specialOf hT F.slot_set_len.lookup ?_)
 have sp:splitId "set.__len__" = some ("set","__len__"):=by kernel_rfl
 dsimp only
 rw [sp]
 dsimp only
 refine wpAny_bind (wpAny_isInstance hT sub_set_self ?_)
 rw [Bool.not_true,if_neg Bool.false_ne_true]
 rw [if_pos (by decide +kernel)]
 refine wpAny_bind (wpAny_typeOf hT ?_)
 exact wpAny_pure (h false s.toks)
theorem jy9 {Q:List Value -> Shared -> Prop} (hh:A.handled = none) (S:SetO κ s.heap a (jc0 w) xs o ep t) (hn:xs.length <= 50)
  (h:∀ h' tk vs,(∀ b ob,s.heap.get? b = some ob -> h'.get? b = some ob) -> vs.Perm (xs.map fun x=>Value.ref x.2) -> Q vs { s with heap:=h',toks:=tk }):wpAny (model prog w) A (collect (.ref a)) Q E s:=by
 unfold collect
 refine wpAny_bind (wpAny_runValue (codeAny_builtin PyProof.Rows.entry_proto_collect' ?_))
 refine wpAny_bind (m:=newList []) (wpAny_newList (wpAny_pure ⟨Code.quiet_builtin _ (by decide +kernel),codeAny_builtin PyProof.Rows.entry_list_iadd' ?_⟩))
 show wpAny _ _ (Builtin.List.listExtendWith (.ref s.heap.objs.size) (.ref a) (.ref s.heap.objs.size)) _ _ { s with heap:=s.heap.push (PyProof.Rows.seqObj "list" #[] 0) }
 unfold Builtin.List.listExtendWith
 have al:a < s.heap.objs.size:=Heap.lt_size S.obj
 have S1:SetO κ ({ s with heap:=s.heap.push (PyProof.Rows.seqObj "list" #[] 0) }:Shared).heap a (jc0 w) xs o ep t:=S.keep fun b ob e _=>Heap.get?_push_of_some _ e
 have ty1:Shared.TypeIs { s with heap:=s.heap.push (PyProof.Rows.seqObj "list" #[] 0) } (.ref a) "set":=⟨o,S1.obj,S1.exact'.1⟩
 refine wpAny_bind (wpAny_typeOf ty1 ?_)
 have sr:Builtin.List.listSameRef (.ref s.heap.objs.size) (.ref a) = false:=by
  show (s.heap.objs.size == a) = false
  exact beq_eq_false_iff_ne.mpr (Nat.ne_of_gt al)
 rw [sr,if_neg (by decide)]
 refine wpAny_bind (qf7 S1 hn ?_)
 have sz1:(s.heap.push (PyProof.Rows.seqObj "list" #[] 0)).objs.size = s.heap.objs.size + 1:=by rw [Heap.size_push]
 generalize hO:({ cls:=.type "set_iterator",data:=.fields #[rawInt (U7 w t 0),rawInt ((0:Nat):Int),.ref a,rawInt xs.length,rawInt ep] }:Obj) = ob
 have hI:((s.heap.push (PyProof.Rows.seqObj "list" #[] 0)).push ob).get? (s.heap.push (PyProof.Rows.seqObj "list" #[] 0)).objs.size = some ob:=Heap.get?_push_size _ (by rw [<- hO]; rfl)
 have hl0:((s.heap.push (PyProof.Rows.seqObj "list" #[] 0)).push ob).get? s.heap.objs.size = some (PyProof.Rows.seqObj "list" #[] 0):=Heap.get?_push_of_some _ (Heap.get?_push_size _ rfl)
 have S2:SetO κ ((s.heap.push (PyProof.Rows.seqObj "list" #[] 0)).push ob) a (jc0 w) xs o ep t:=S1.keep fun b ob e _=>Heap.get?_push_of_some _ e
 refine wpAny_bind (wpAny_holding (kz7 (s:={ s with heap:=(s.heap.push (PyProof.Rows.seqObj "list" #[] 0)).push ob }) ⟨o,S2.obj,S2.exact'.1⟩ fun c tk=>?_))
 refine wpAny_ite ?_
 split
 ·refine wpAny_bind (wpAny_rule ?_)
  unfold Builtin.List.listTouch
  refine wpAny_bind (wpAny_bind (PyProof.Rows.listUpdate_at hl0 rfl ?_ (by simp) (by simp)))
  obtain ⟨n1,g1⟩ : ∃ n1,(((s.heap.push (PyProof.Rows.seqObj "list" #[] 0)).push ob).update s.heap.objs.size (Obj.mapSeq (·.push .none))).get? s.heap.objs.size = some (PyProof.Rows.seqObj "list" (#[].push .none) n1):=⟨_,PyProof.Rows.get?_update_seq hl0 _⟩
  refine PyProof.Rows.listUpdate_at g1 rfl ?_ (by simp; rw [sizeLine_eq]; decide) (by simp)
  obtain ⟨n2,g2⟩ : ∃ n2,((((s.heap.push (PyProof.Rows.seqObj "list" #[] 0)).push ob).update s.heap.objs.size (Obj.mapSeq (·.push .none))).update s.heap.objs.size (Obj.mapSeq (·.pop))).get? s.heap.objs.size = some (PyProof.Rows.seqObj "list" (#[].push .none).pop n2):=⟨_,PyProof.Rows.get?_update_seq g1 _⟩
  have sb:=(Heap.SameBut.update ((s.heap.push (PyProof.Rows.seqObj "list" #[] 0)).push ob) s.heap.objs.size (Obj.mapSeq (·.push .none))).trans (Heap.SameBut.update _ s.heap.objs.size (Obj.mapSeq (·.pop)))
  generalize ((((s.heap.push (PyProof.Rows.seqObj "list" #[] 0)).push ob).update s.heap.objs.size (Obj.mapSeq (·.push .none))).update s.heap.objs.size (Obj.mapSeq (·.pop))) = g at g2 sb ⊢
  have ne1:s.heap.objs.size ≠ (s.heap.push (PyProof.Rows.seqObj "list" #[] 0)).objs.size:=by rw [sz1]; exact Nat.ne_of_lt (Nat.lt_succ_self _)
  have ne2:s.heap.objs.size ≠ a:=Nat.ne_of_gt al
  have ne3:a ≠ (s.heap.push (PyProof.Rows.seqObj "list" #[] 0)).objs.size:=by rw [sz1]; exact Nat.ne_of_lt (Nat.lt_succ_of_lt al)
  refine wpAny_pure ⟨Code.quiet_builtin _ (by decide +kernel),?_⟩
  refine ki2 (κ:=κ) (a:=a) (xs:=xs) (o:=o) (ep:=ep) (t:=t) (by simp [hh]) ne1 ne2 ne3 hn xs.length 0 _ (by lia) ?h1 ?h2 ⟨n2,g2⟩ fun h' n' q1 q2=>?_
  case h1 =>
   refine S2.keep fun b ob' e c=>?_
   show g.get? b = _
   rw [sb.2 b ?_]
   ·exact e
   ·rintro rfl
    rcases c with c | c
    ·exact ne2 c
    ·obtain rfl:=Option.some.inj (e.symm.trans hl0)
     exact absurd (show Value.type "list" = Value.type "tuple" from c) (by decide)
  case h2=>exact ⟨ob,(by show g.get? _ = _; rw [sb.2 _ (Ne.symm ne1)]; exact hI),by rw [<- hO],by rw [<- hO]⟩
  have pm:=(jn3 w a ep (xs.map (entry κ)).toArray).map (·.2)
  have em:(xs.map (entry κ)).toArray.toList.map (·.2) = xs.map fun x=>Value.ref x.2:=by simp [entry]
  rw [em] at pm
  show wpAny _ _ (load s.heap.objs.size >>= fun ob=>match ob.data with | .seq xs _=>pure xs.toList | _=>unsupported "internal:collect") _ _ _
  refine wpAny_bind (wpAny_load q2 ?_)
  refine wpAny_pure (h h' tk _ (fun b ob' e=>q1 b ob' (Nat.ne_of_lt (Heap.lt_size e)) (by rw [sz1]; exact Nat.ne_of_lt (Nat.lt_succ_of_lt (Heap.lt_size e))) ?_) (by simpa using pm))
  show g.get? b = _
  rw [sb.2 b (Nat.ne_of_lt (Heap.lt_size e))]
  exact Heap.get?_push_of_some _ (Heap.get?_push_of_some _ e)
 ·rename_i hs
  refine absurd ?_ hs
  rw [Bool.or_eq_true]
  exact .inr (by decide +kernel)
end
end Ts
end T_Ts7
section T_PpL
namespace L2
open PySem PySem.Spec PyProof.Rows
noncomputable abbrev Key:=Sum Int Str
noncomputable def qm3:Key -> Value -> Bool
 | .inl k,v=>Value.isInt k v
 | .inr x,v=>Value.isStrOf x v
noncomputable def keyH (w:World):Key -> Int
 | .inl k=>hashInt k
 | .inr x=>hashStr w x
theorem J7:∀ {k:Key} {v:Value},qm3 k v = true -> (∃ i t,k = Sum.inl i /\ v = Value.int i t) \/ (∃ x t,k = Sum.inr x /\ v = Value.str x t)
 | .inl i,v,h=>by
  obtain ⟨t,e⟩:=Value.isInt_shape (k:=i) (v:=v) h
  exact .inl ⟨i,t,rfl,e⟩
 | .inr x,v,h=>by
  obtain ⟨t,e⟩:=Value.isStrOf_shape (x:=x) (v:=v) h
  exact .inr ⟨x,t,rfl,e⟩
theorem qj4 (a b:Int):decide ((Sum.inl a:Key) = Sum.inl b) = (a == b):=by
 by_cases e:a = b
 ·subst e; simp
 ·have h:¬ (Sum.inl a:Key) = Sum.inl b:=fun q=>e (Sum.inl.inj q)
  rw [decide_eq_false h]
  exact (beq_eq_false_iff_ne.mpr e).symm
theorem ql9 (a b:Str):decide ((Sum.inr a:Key) = Sum.inr b) = decide (a = b):=by
 by_cases e:a = b
 ·subst e; simp
 ·have h:¬ (Sum.inr a:Key) = Sum.inr b:=fun q=>e (Sum.inr.inj q)
  rw [decide_eq_false h,decide_eq_false e]
theorem qh8 (a:Int) (b:Str):decide ((Sum.inl a:Key) = Sum.inr b) = false:=decide_eq_false (fun q=>nomatch q)
theorem qk2 (a:Str) (b:Int):decide ((Sum.inr a:Key) = Sum.inl b) = false:=decide_eq_false (fun q=>nomatch q)
noncomputable def kp1 (prog:Program) (w:World):PySem.KeyKind prog w Key where
 is:=qm3
 hash:=keyH w
 inj:=fun v a b ha hb=>by
  rcases J7 ha with ⟨i,t,rfl,rfl⟩ | ⟨x,t,rfl,rfl⟩
  ·rcases J7 hb with ⟨j,u,rfl,e⟩ | ⟨y,u,rfl,e⟩
   ·injection e with e1 _; rw [e1]
   ·exact nomatch e
  ·rcases J7 hb with ⟨j,u,rfl,e⟩ | ⟨y,u,rfl,e⟩
   ·exact nomatch e
   ·injection e with e1 _; rw [e1]
 byValue:=fun k v h=>by
  rcases J7 h with ⟨i,t,rfl,rfl⟩ | ⟨x,t,rfl,rfl⟩ <;> rfl
 pyHash:=fun hv h=>by
  rcases J7 hv with ⟨i,t,rfl,rfl⟩ | ⟨x,t,rfl,rfl⟩
  ·exact wpAny_pyHash_int h
  ·exact wpAny_pyHash_str h
 eqBool:=fun hu hv h=>by
  rcases J7 hu with ⟨i,t,rfl,rfl⟩ | ⟨x,t,rfl,rfl⟩
  ·rcases J7 hv with ⟨j,u,rfl,rfl⟩ | ⟨y,u,rfl,rfl⟩
   ·rw [qj4] at h; exact wpAny_eqBool_int h
   ·rw [qh8] at h; exact SeqAt.EqAt.int_str i t y u _ _ _ _ h
  ·rcases J7 hv with ⟨j,u,rfl,rfl⟩ | ⟨y,u,rfl,rfl⟩
   ·rw [qk2] at h; exact SeqAt.EqAt.str_int x t j u _ _ _ _ h
   ·rw [ql9] at h; exact wpAny_eqBool_str h
 «strs»:=fun k x t v h=>by
  rcases J7 h with ⟨i,u,rfl,e⟩ | ⟨y,u,rfl,e⟩
  ·exact nomatch e
  ·injection e with e1 _
   subst e1
   cases v <;> rfl
end L2
namespace L2
open PySem PySem.Spec PyProof.Rows
inductive V where
 | non | bl (b:Bool) | int (i:Int) | str (x:Str) | byt (b:Array UInt8) | flt (b:UInt64) | ref (a:Addr) | ty (n:String)
 deriving DecidableEq
noncomputable def RelV:V -> Value -> Prop
 | .non,u=>u = Value.none
 | .bl b,u=>u = Value.bool b
 | .int i,u=>∃ t,u = Value.int i t
 | .str x,u=>∃ t,u = Value.str x t
 | .byt b,u=>∃ t,u = Value.bytes b t
 | .flt b,u=>∃ t,u = Value.float b t
 | .ref a,u=>u = Value.ref a
 | .ty n,u=>u = Value.type n
noncomputable abbrev Vals:List V -> List Value -> Prop:=Paired RelV
theorem Vals.length {xs:List V} {us:List Value} (r:Vals xs us):xs.length = us.length:=Paired.length r
theorem Vals.get:∀ {xs:List V} {us:List Value} {i:Nat} {x:V},Vals xs us -> xs[i]? = some x -> ∃ u,us[i]? = some u /\ RelV x u
 | _,_,_,_,.nil,e=>by simp at e
 | _,_,0,_,.cons r _,e=>by simp at e; subst e; exact ⟨_,rfl,r⟩
 | _,_,i + 1,x,.cons _ t,e=>by
  refine x1_2 (Vals.get (i:=i) (x:=x) t (by simpa using e)) fun u h1 h2=>?_
  exact ⟨u,by simpa using h1,h2⟩
theorem Vals.set {x:V} {u:Value} (r:RelV x u):∀ {xs:List V} {us:List Value} (i:Nat),Vals xs us -> Vals (xs.set i x) (us.set i u)
 | _,_,_,.nil=>.nil
 | _,_,0,.cons _ t=>.cons r t
 | _,_,i + 1,.cons q t=>.cons q (Vals.set r i t)
theorem Vals.append {xs ys:List V} {us ws:List Value} (h:Vals xs us) (s:Vals ys ws):Vals (xs ++ ys) (us ++ ws):=by
 induction h with
 | nil=>exact s
 | cons r t ih=>exact .cons r ih
theorem Vals.take:∀ {xs:List V} {us:List Value} (n:Nat),Vals xs us -> Vals (xs.take n) (us.take n)
 | _,_,0,_=>.nil
 | _,_,_ + 1,.nil=>.nil
 | _,_,n + 1,.cons r t=>.cons r (Vals.take n t)
theorem Vals.drop:∀ {xs:List V} {us:List Value} (n:Nat),Vals xs us -> Vals (xs.drop n) (us.drop n)
 | _,_,0,r=>r
 | _,_,_ + 1,.nil=>.nil
 | _,_,n + 1,.cons _ t=>Vals.drop n t
noncomputable def RelO:Option V -> Option Value -> Prop
 | some v,some u=>RelV v u
 | none,none=>True
 | _,_=>False
noncomputable def KV {κ:Type}:List (κ × V) -> List (κ × Value) -> Prop:=Paired fun (p:κ × V) (q:κ × Value)=>p.1 = q.1 /\ RelV p.2 q.2
noncomputable def kV:Key -> V
 | .inl i=>.int i
 | .inr x=>.str x
inductive HO where
  | lst (xs:List V)
  | tup (xs:List V)
  | dK (kvs:List (Key × V)) | dT (kvs:List (List Key × V))
  | set (S:Int -> Bool) (n:Nat)
  | ins (C dx:Addr) (fs:List (Str × V))
  | own (x:Addr)
  | xd (fs:List (Str × V))
  | met (f x:Addr)
  | rng (lo hi:Int)
  | frz (o:Obj) (u:HO)
  | tbl (ps:Array Value)
  | ext (φ:Heap -> Prop)
noncomputable abbrev Hp:=Addr -> Option HO
noncomputable def upd (H:Hp) (a:Addr) (o:HO):Hp:=fun b=>if b = a then some o else H b
theorem J2 {H:Hp} {a:Addr} {o:HO}:upd H a o a = some o:=by unfold upd; rw [if_pos rfl]
theorem v5 {H:Hp} {a b:Addr} {o:HO} (h:b ≠ a):upd H a o b = H b:=by unfold upd; rw [if_neg h]
theorem v9 {H:Hp} {a b:Addr} {o:HO} (h:H a = some o) (h':H b = none):a ≠ b:=by
 intro e; subst e; rw [h] at h'; cases h'
section
variable (P:Program) (w:World)
noncomputable def ObjOk (H:Hp) (h:Heap) (a:Addr):HO -> Prop
 | .lst xs=>xs.length <= sizeLine /\ ∃ (its:List Value) (n:Nat),Vals xs its /\ h.get? a = some { cls:=.type "list",data:=.seq its.toArray n }
 | .tup xs=>xs.length <= sizeLine /\ ∃ its:List Value,Vals xs its /\ IsTup h a its.toArray
 | .dK kvs=>kvs.length <= sizeLine /\ (a == sysModules) = false /\ ∃ vs,KV kvs vs /\ h.DictOf (kp1 P w) a vs
 | .dT kvs=>kvs.length <= sizeLine /\ (a == sysModules) = false /\ ∃ xs:List (List Key × Addr × Value),
   Paired (fun (p:List Key × V) (q:List Key × Addr × Value)=>p.1 = q.1 /\ H q.2.1 = some (.tup (p.1.map kV)) /\ RelV p.2 q.2.2) kvs xs /\
   ∃ o es ep,h.get? a = some o /\ o.ExactDict /\ o.data = .dict es ep /\ es.toList = xs.map (entryOfKey (tupleKind (kp1 P w))) /\ (xs.map (·.1)).Nodup
 | .set S n=>h.SetOf (intKind P w) a S n
 | .ins C dx fs=>H dx = some (.own a) /\ fs.length <= 1000 /\ dx ≠ a /\ h.get? a = some (PySem.W.instObj C dx) /\
   ∃ mA,h.Ns1 dx mA /\ (∀ f,RelO (fs.lookup f) (mA f)) /\ PySem.Within mA (fs.map (·.1))
 | .own _=>∃ o,h.get? a = some o
 | .xd fs=>∃ mA,h.Ns1 a mA /\ ∀ f,RelO (fs.lookup f) (mA f)
 | .rng lo hi=>∃ t u v,h.get? a = some { cls:=.type "range",data:=.fields #[.int lo t,.int hi u,.int 1 v] }
 | .frz o u=>h.get? a = some o /\ ObjOk H h a u
 | .tbl ps=>h.get? a = some { cls:=.none,data:=.fields ps }
 | .met f x=>h.get? a = some (PySem.W.methodObj (.ref f) (.ref x))
 | .ext φ=>φ h /\ (∃ o,h.get? a = some o) /\ ∀ h1 h2:Heap,φ h1 -> (∀ o,h1.get? a = some o -> h2.get? a = some o) -> φ h2
noncomputable def HOk (H:Hp) (h:Heap):Prop:=∀ a o,H a = some o -> ObjOk P w H h a o
end
section
variable {P:Program} {w:World} {H H':Hp} {h h':Heap} {a:Addr} {o:HO}
theorem ObjOk.lt (x:ObjOk P w H h a o):a < h.objs.size:=by
 cases o with
 | lst xs=>obtain ⟨_,_,_,_,e⟩:=x; exact Heap.lt_size e
 | tup xs=>obtain ⟨_,_,_,p⟩:=x; exact p.lt
 | dK kvs=>obtain ⟨_,_,_,_,o,_,_,e,_⟩:=x; exact Heap.lt_size e
 | dT kvs=>obtain ⟨_,_,_,_,o,_,_,e,_⟩:=x; exact Heap.lt_size e
 | set S n=>obtain ⟨o,_,_,_,e,_⟩:=x; exact Heap.lt_size e
 | ins C dx fs=>obtain ⟨_,_,_,e,_⟩:=x; exact Heap.lt_size e
 | own y=>obtain ⟨_,e⟩:=x; exact Heap.lt_size e
 | xd fs=>obtain ⟨_,⟨_,_,_,e,_⟩,_⟩:=x; exact Heap.lt_size e
 | rng lo hi=>obtain ⟨_,_,_,e⟩:=x; exact Heap.lt_size e
 | frz ob u=>obtain ⟨e,_⟩:=x; exact Heap.lt_size e
 | tbl ps=>exact Heap.lt_size (show h.get? a = some _ from x)
 | met f y=>exact Heap.lt_size (show h.get? a = some _ from x)
 | ext φ=>obtain ⟨_,⟨_,e⟩,_⟩:=x; exact Heap.lt_size e
theorem Paired.mapP {α β:Type} {F G:α -> β -> Prop} {l₁:List α} {l₂:List β} (h:Paired F l₁ l₂) (f:∀ a b,F a b -> G a b):Paired G l₁ l₂:=by
 induction h with
 | nil=>exact .nil
 | cons r t ih=>exact .cons (f _ _ r) ih
theorem ObjOk.stay (x:ObjOk P w H h a o) (k:∀ b u,(b = a \/ H b = some (.own a)) -> h.get? b = some u -> h'.get? b = some u)
  (ho:∀ b,H b = some (.own a) -> H' b = some (.own a)) (ht:∀ b xs,H b = some (.tup xs) -> H' b = some (.tup xs)):ObjOk P w H' h' a o:=by
 induction o with
 | lst xs=>obtain ⟨z,its,n,r,e⟩:=x; exact ⟨z,its,n,r,k _ _ (.inl rfl) e⟩
 | tup xs=>obtain ⟨z,its,r,ob,e,c⟩:=x; exact ⟨z,its,r,ob,k _ _ (.inl rfl) e,c⟩
 | dK kvs=>obtain ⟨z,y,vs,r,ob,es,ep,e,c⟩:=x; exact ⟨z,y,vs,r,ob,es,ep,k _ _ (.inl rfl) e,c⟩
 | dT kvs =>
  obtain ⟨z,y,xs,r,ob,es,ep,e,c⟩:=x
  exact ⟨z,y,xs,Paired.mapP r fun p q z=>⟨z.1,ht _ _ z.2.1,z.2.2⟩,ob,es,ep,k _ _ (.inl rfl) e,c⟩
 | set S n=>obtain ⟨ob,es,ep,t,e,c⟩:=x; exact ⟨ob,es,ep,t,k _ _ (.inl rfl) e,c⟩
 | ins C dx fs =>
  obtain ⟨d,z,ne,e,mA,⟨od,es,ep,e2,c⟩,r⟩:=x
  exact ⟨ho _ d,z,ne,k _ _ (.inl rfl) e,mA,⟨od,es,ep,k _ _ (.inr d) e2,c⟩,r⟩
 | own y=>obtain ⟨ob,e⟩:=x; exact ⟨ob,k _ _ (.inl rfl) e⟩
 | xd fs=>obtain ⟨mA,⟨od,es,ep,e,c⟩,r⟩:=x; exact ⟨mA,⟨od,es,ep,k _ _ (.inl rfl) e,c⟩,r⟩
 | rng lo hi=>obtain ⟨t,u,v,e⟩:=x; exact ⟨t,u,v,k _ _ (.inl rfl) e⟩
 | frz ob u ih=>obtain ⟨e,q⟩:=x; exact ⟨k _ _ (.inl rfl) e,ih q⟩
 | tbl ps =>
  have e:h.get? a = some { cls:=.none,data:=.fields ps }:=x
  show h'.get? a = some { cls:=.none,data:=.fields ps }
  exact k a _ (.inl rfl) e
 | met f y =>
  have e:h.get? a = some (PySem.W.methodObj (.ref f) (.ref y)):=x
  show h'.get? a = some (PySem.W.methodObj (.ref f) (.ref y))
  exact k a _ (.inl rfl) e
 | ext φ=>obtain ⟨p,⟨o,e⟩,st⟩:=x; exact ⟨st _ _ p fun o q=>k _ _ (.inl rfl) q,⟨o,k _ _ (.inl rfl) e⟩,st⟩
theorem HOk.lt (x:HOk P w H h) (e:H a = some o):a < h.objs.size:=(x a o e).lt
theorem HOk.fresh (x:HOk P w H h) (e:h.objs.size <= a):H a = none:=by
 cases q:H a with
 | none=>rfl
 | some u=>exact absurd (Nat.lt_of_lt_of_le (x.lt q) e) (Nat.lt_irrefl _)
theorem HOk.kept (x:HOk P w H h) (k:∀ b u,h.get? b = some u -> h'.get? b = some u):HOk P w H h':=fun a o e =>
 (x a o e).stay (fun b u _ q=>k b u q) (fun _ q=>q) fun _ _ q=>q
theorem HOk.laid (x:HOk P w H h) (k:∀ b u,h.get? b = some u -> h'.get? b = some u) (hp:h.objs.size <= a) (new:ObjOk P w (upd H a o) h' a o):HOk P w (upd H a o) h':=fun b u e=>by
 have hn:=x.fresh hp
 by_cases hb:b = a
 ·subst hb; rw [J2] at e; cases e; exact new
 ·rw [v5 hb] at e
  exact (x b u e).stay (fun c v _ q=>k c v q) (fun c q=>by rw [v5 (v9 q hn)]; exact q) fun c xs q=>by rw [v5 (v9 q hn)]; exact q
end
noncomputable def Rd (H:Hp) (a:Addr) (u:HO):Prop:=H a = some u \/ ∃ o,H a = some (.frz o u)
theorem Rd.of {H:Hp} {a:Addr} {u:HO} (h:H a = some u):Rd H a u:=.inl h
theorem Rd.ok {P:Program} {w:World} {H:Hp} {h:Heap} {a:Addr} {u:HO} (r:Rd H a u) (x:HOk P w H h):ObjOk P w H h a u:=by
 rcases r with r | ⟨o,r⟩
 ·exact x a u r
 ·obtain ⟨_,q⟩:=x a _ r
  exact q
noncomputable def Mut:Option HO -> Prop
 | some (.lst _)=>True
 | some (.dK _)=>True
 | some (.dT _)=>True
 | some (.set _ _)=>True
 | some (.ins _ _ _)=>True
 | some (.ext _)=>True
 | _=>False
section
variable {P:Program} {w:World} {H:Hp} {h h':Heap} {x e:Addr} {o':HO}
theorem HOk.write (ok:HOk P w H h) (mu:Mut (H x)) (he:e = x \/ H e = some (.own x)) (k:∀ b u,b ≠ e -> h.get? b = some u -> h'.get? b = some u) (heo:∃ u,h'.get? e = some u)
  (new:ObjOk P w (upd H x o') h' x o'):HOk P w (upd H x o') h':=fun b u q=>by
 have nown:∀ c y,H c = some (.own y) -> c ≠ x:=fun c y r z=>by subst z; rw [r] at mu; exact mu
 have ntup:∀ c xs,H c = some (.tup xs) -> c ≠ x:=fun c xs r z=>by subst z; rw [r] at mu; exact mu
 by_cases hb:b = x
 ·subst hb; rw [J2] at q; cases q; exact new
 ·rw [v5 hb] at q
  by_cases hbe:b = e
  ·have q':H b = some (.own x):=by
    rcases he with z | z
    ·exact absurd (hbe.trans z) hb
    ·rw [hbe]; exact z
   rw [q] at q'; cases q'
   obtain ⟨v,hv⟩:=heo
   exact ⟨v,by rw [hbe]; exact hv⟩
  ·refine (ok b u q).stay (fun c v hc r=>k c v ?_ r) (fun c r=>by rw [v5 (nown c b r)]; exact r) fun c xs r=>by rw [v5 (ntup c xs r)]; exact r
   rcases hc with rfl | hc
   ·exact hbe
   ·rintro rfl
    rcases he with z | z
    ·exact nown c b hc z
    ·rw [hc] at z; cases z; exact hb rfl
end
structure Un (fs ex:List Addr) (H H':Hp) (h h':Heap):Prop where
 keep:∀ b o,h.get? b = some o -> H b = none -> b ∉ fs -> b ∉ ex -> h'.get? b = some o
 slot:∀ b o,h.get? b = some o -> H b = none -> b ∈ fs -> b ∉ ex -> ∃ sl,h'.get? b = some { o with slots:=sl }
 free:∀ b o,h.get? b = some o -> H b = none -> b ∉ ex -> H' b = none
 there:∀ b o,h.get? b = some o -> b ∉ ex -> ∃ o',h'.get? b = some o'
 tups:∀ b xs,H b = some (.tup xs) -> H' b = some (.tup xs)
 frzs:∀ b o u,H b = some (.frz o u) -> H' b = some (.frz o u)
 tbls:∀ b ps,H b = some (.tbl ps) -> ∃ more,H' b = some (.tbl (ps ++ more))
section
variable {fs fs' ex ex':List Addr} {H H1 H2:Hp} {h h1 h2 h':Heap} {a x e:Addr} {o:HO}
theorem Un.any (u:Un fs ex H H1 h h1) {b:Addr} {ob:Obj} (q:h.get? b = some ob) (n:H b = none) (hx:b ∉ ex):∃ sl,h1.get? b = some { ob with slots:=sl }:=by
 by_cases hb:b ∈ fs
 ·exact u.slot b ob q n hb hx
 ·exact ⟨ob.slots,u.keep b ob q n hb hx⟩
theorem Un.trans (a:Un fs ex H H1 h h1) (b:Un fs ex H1 H2 h1 h2):Un fs ex H H2 h h2 where
 keep:=fun c ob q n hc hx=>b.keep c ob (a.keep c ob q n hc hx) (a.free c ob q n hx) hc hx
 slot:=fun c ob q n hc hx=>by
  obtain ⟨sl,e1⟩:=a.slot c ob q n hc hx
  obtain ⟨sl',e2⟩:=b.slot c _ e1 (a.free c ob q n hx) hc hx
  exact ⟨sl',e2⟩
 free:=fun c ob q n hx=>by
  obtain ⟨o',e1⟩:=a.there c ob q hx
  exact b.free c o' e1 (a.free c ob q n hx) hx
 there:=fun c ob q hx=>by
  obtain ⟨o',e1⟩:=a.there c ob q hx
  exact b.there c o' e1 hx
 tups:=fun c xs q=>b.tups c xs (a.tups c xs q)
 frzs:=fun c ob xs q=>b.frzs c ob xs (a.frzs c ob xs q)
 tbls:=fun c ps q=>by
  obtain ⟨m1,e1⟩:=a.tbls c ps q
  obtain ⟨m2,e2⟩:=b.tbls c _ e1
  exact ⟨m1 ++ m2,by rw [e2,Array.append_assoc]⟩
theorem Un.kept (k:∀ b u,h.get? b = some u -> h'.get? b = some u):Un fs ex H H h h' :=
 ⟨fun b ob q _ _ _=>k b ob q,fun b ob q _ _ _=>⟨ob.slots,k b ob q⟩,fun _ _ _ n _=>n,fun b ob q _=>⟨ob,k b ob q⟩,fun _ _ q=>q,fun _ _ _ q=>q,fun _ ps q=>⟨#[],by rw [q]; simp⟩⟩
theorem Un.refl:Un fs ex H H h h:=Un.kept fun _ _ q=>q
theorem Un.laid (k:∀ b u,h.get? b = some u -> h'.get? b = some u) (hp:h.objs.size <= a) (hn:H a = none):Un fs ex H (upd H a o) h h' where
 keep:=fun b u q _ _ _=>k b u q
 slot:=fun b u q _ _ _=>⟨u.slots,k b u q⟩
 free:=fun b u q n _=>by rw [v5 (Nat.ne_of_lt (Nat.lt_of_lt_of_le (Heap.lt_size q) hp))]; exact n
 there:=fun b u q _=>⟨u,k b u q⟩
 tups:=fun b xs q=>by rw [v5 (v9 q hn)]; exact q
 frzs:=fun b u xs q=>by rw [v5 (v9 q hn)]; exact q
 tbls:=fun b ps q=>⟨#[],by rw [v5 (v9 q hn),q]; simp⟩
theorem Un.write (mu:Mut (H x)) (he:e = x \/ H e = some (.own x)) (k:∀ b u,b ≠ e -> h.get? b = some u -> h'.get? b = some u) (heo:∃ u,h'.get? e = some u):Un fs ex H (upd H x o) h h':=by
 have hx:∀ b,H b = none -> b ≠ x:=fun b n z=>by subst z; rw [n] at mu; exact mu
 have hb:∀ b,H b = none -> b ≠ e:=fun b n z=>by
  subst z
  rcases he with r | r
  ·exact hx b n r
  ·rw [n] at r; cases r
 have hm:∀ b u,H b = some u -> ¬ Mut (some u) -> b ≠ x:=fun b u q nm z=>by subst z; rw [q] at mu; exact nm mu
 refine ⟨fun b u q n _ _=>k b u (hb b n) q,fun b u q n _ _=>⟨u.slots,k b u (hb b n) q⟩,fun b u q n _=>by rw [v5 (hx b n)]; exact n,fun b u q _=>?_,
  fun b xs q=>by rw [v5 (hm b _ q fun z=>z)]; exact q,fun b u xs q=>by rw [v5 (hm b _ q fun z=>z)]; exact q,fun b ps q=>⟨#[],by rw [v5 (hm b _ q fun z=>z),q]; simp⟩⟩
 by_cases hbe:b = e
 ·subst hbe; exact heo
 ·exact ⟨u,k b u hbe q⟩
theorem Un.mono (u:Un fs ex H H1 h h1) (hs:∀ b ∈ fs,b ∈ fs') (hx:∀ b ∈ ex,b ∈ ex'):Un fs' ex' H H1 h h1 :=
 ⟨fun b ob q n hb he=>u.keep b ob q n (fun z=>hb (hs b z)) fun z=>he (hx b z),fun _ _ q n _ he=>u.any q n fun z=>he (hx _ z),fun b ob q n he=>u.free b ob q n fun z=>he (hx b z),fun b ob q he=>u.there b ob q fun z=>he (hx b z),u.tups,u.frzs,u.tbls⟩
end
noncomputable def trk (h:Heap) (H:Hp):List Addr:=(List.range h.objs.size).filter fun a=>(H a).isSome
noncomputable def hidT (h:Heap) (H:Hp):Heap:=PySem.W.hideAll h (trk h H)
theorem kn0 (h:Heap) (H:Hp):(hidT h H).objs.size = h.objs.size:=PySem.W.hideAll_size _ _
theorem kr1 {h:Heap} {H:Hp} {b:Addr} {o:Obj} (e:h.get? b = some o) (n:H b = none):(hidT h H).get? b = some o :=
 PySem.W.hideAll_get _ e fun hm=>by
  have q:(H b).isSome = true:=(List.mem_filter.mp hm).2
  rw [n] at q; simp at q
theorem qe9 {h:Heap} {H:Hp} {b:Addr} {o:Obj} (e:(hidT h H).get? b = some o):h.get? b = some o /\ H b = none:=by
 have e':h.get? b = some o:=PySem.W.of_hideAll (trk h H) e
 refine ⟨e',?_⟩
 cases q:H b with
 | none=>rfl
 | some x =>
  have hm:b ∈ trk h H:=List.mem_filter.mpr ⟨List.mem_range.mpr (Heap.lt_size e'),by simp [q]⟩
  have z:(hidT h H).get? b = none:=PySem.W.hideAll_none (trk h H) hm
  rw [z] at e; cases e
noncomputable def qe0 (g h:Heap) (L:Addr):List (Addr × Obj):=(List.range h.objs.size).filterMap fun a=>if a = L \/ (g.get? a).isSome = true then none else (h.get? a).map fun o=>(a,o)
noncomputable def rest (g h:Heap) (L d:Addr):List (Addr × Obj):=(qe0 g h L).filter fun p=>decide (p.1 ≠ d)
end L2
namespace L2
open PySem PySem.Spec PyProof.Rows
structure Mod (K:PySem.W.Frag) (mg:Str -> Option Value) (base:Heap):Prop where
 kin:K.In base
 glob:base.Ns mainGlobals mg
 blt:∃ mb,base.Ns builtinsNs mb /\ ∀ x:Str,x ≠ "__name__" -> mb x = bootBuiltins x
 nolimit:base.NoLimit
structure Cx where
 prog:Program
 w:World
 K:PySem.W.Frag
 mg:Str -> Option Value
 base:Heap
 A:Around
 N:List Str
 s₀:Shared
 H₀:Hp
 env:Env
 outer:List Env
 stack:List Env
 ex:List Addr
 fn:Str -> Bool
 calm:Bool
 pn:List (Addr × Obj)
 xe:Value -> Shared -> Prop
noncomputable def frs (l:List Env):List Addr:=l.filterMap (·.frame)
noncomputable abbrev Cx.fs (X:Cx):List Addr:=frs X.outer
noncomputable def Vis (sc:Scope) (x:Str):Prop:=sc.names.lookup x = some .local \/ sc.names.lookup x = some .cell \/ sc.names.lookup x = some .free
noncomputable def Loc (sc:Scope) (x:Str):Prop:=sc.names.lookup x = some .local \/ sc.names.lookup x = some .cell
noncomputable def Look (env:Env) (h:Heap) (m:Str -> Option Value) (x:Str) (u:Value):Prop :=
 (env.kindOf x = some .local /\ m x = some u) \/ ((env.kindOf x = some .cell \/ env.kindOf x = some .free) /\ ∃ c,env.cells.lookup x = some c /\ h.IsCell c (some u))
structure Cx.Ok (X:Cx):Prop where
 mod:Mod X.K X.mg X.base
 kind:X.env.scope.kind = .function
 glob:X.env.globals = mainGlobals
 blt:X.env.builtins = builtinsNs
 above:X.s₀.heap.objs.size <= X.env.locals
 inj:∀ x y c,X.env.cells.lookup x = some c -> X.env.cells.lookup y = some c -> x = y
 has:∀ x,(X.env.kindOf x = some .cell \/ X.env.kindOf x = some .free) -> ∃ c,X.env.cells.lookup x = some c
 cab:∀ x c,X.fn x = true -> X.env.cells.lookup x = some c -> X.s₀.heap.objs.size <= c
 hd:X.calm = true -> X.A.handled = none
 frames:X.A.frames = some X.stack
 stk:X.stack = X.outer \/ (X.stack = X.env :: X.outer /\ X.env.frame = some X.env.locals)
 exf:∀ b ∈ X.ex,b ≠ X.env.locals /\ ∀ x c,X.env.cells.lookup x = some c -> c ≠ b
 bs:∀ b o,X.base.get? b = some o -> X.s₀.heap.get? b = some o /\ X.H₀ b = none
 bsz:X.base.objs.size <= X.s₀.heap.objs.size
 noex:∀ b o,X.base.get? b = some o -> b ∉ X.ex
 exfs:∀ b ∈ X.ex,b ∉ X.fs
 funs:X.s₀.heap.FunFrames X.base X.outer
 frf:∀ b ∈ X.fs,X.H₀ b = none
structure Inv (X:Cx) (pins:List (Addr × Obj)) (σ:List (Option V)) (H:Hp) (s:Shared):Prop where
 ok:X.Ok
 os:s.os = X.s₀.os
 bare:AllBare s.gens
 base:Un X.fs X.ex X.H₀ H X.s₀.heap s.heap
 loc:∃ m,s.heap.Ns X.env.locals m /\ ∀ (i:Nat) (x:Str) (v:V),X.N[i]? = some x -> σ[i]? = some (some v) -> Vis X.env.scope x -> ∃ u,RelV v u /\ Look X.env s.heap m x u
 cell:∀ x c,X.env.cells.lookup x = some c -> ∃ v,s.heap.IsCell c v
 free:H X.env.locals = none
 freeC:∀ x c,X.env.cells.lookup x = some c -> H c = none
 pin:∀ p ∈ X.pn ++ pins,s.heap.get? p.1 = some p.2 /\ H p.1 = none /\ p.1 ≠ X.env.locals /\ p.1 ∉ X.fs /\ ∀ v,p.2.data ≠ .cell v
 hok:HOk X.prog X.w H s.heap
 len:σ.length = X.N.length
section
variable {X:Cx} {pins:List (Addr × Obj)} {σ:List (Option V)} {H H':Hp} {s:Shared} {h':Heap}
theorem Cx.Ok.nofr (ok:X.Ok) {b:Addr} {o:Obj} (e:X.base.get? b = some o):b ∉ X.fs:=fun hb=>by
 have:=(ok.funs.mem hb).1
 rw [e] at this; cases this
theorem Inv.bs (I:Inv X pins σ H s):∀ b o,X.base.get? b = some o -> s.heap.get? b = some o /\ H b = none:=fun b o e =>
 ⟨I.base.keep b o (I.ok.bs b o e).1 (I.ok.bs b o e).2 (I.ok.nofr e) (I.ok.noex b o e),I.base.free b o (I.ok.bs b o e).1 (I.ok.bs b o e).2 (I.ok.noex b o e)⟩
theorem Inv.bk (I:Inv X pins σ H s):∀ b o,X.base.get? b = some o -> s.heap.get? b = some o:=fun b o e=>(I.bs b o e).1
theorem Inv.mod (I:Inv X pins σ H s):Mod X.K X.mg X.base:=I.ok.mod
theorem Inv.kIn (I:Inv X pins σ H s):X.K.In s.heap:=I.ok.mod.kin.keeps I.bk
theorem Inv.nolimit (I:Inv X pins σ H s):s.heap.NoLimit:=I.ok.mod.nolimit.keeps I.bk
theorem Inv.fr (I:Inv X pins σ H s):∃ m,Fr X.base X.env.locals s.heap m :=
 let ⟨m,hn,_⟩:=I.loc
 ⟨m,hn,I.bk,Nat.le_trans I.ok.bsz I.ok.above⟩
theorem Inv.lt (I:Inv X pins σ H s):X.env.locals < s.heap.objs.size:=let ⟨_,hn,_⟩:=I.loc; hn.lt
theorem Inv.sz (I:Inv X pins σ H s):X.s₀.heap.objs.size <= s.heap.objs.size:=Nat.le_trans I.ok.above (Nat.le_of_lt I.lt)
theorem Inv.nofs (I:Inv X pins σ H s) {a:Addr} (h:s.heap.objs.size <= a):a ∉ X.fs:=fun hb=>by
 obtain ⟨_,o,ho,_⟩:=I.ok.funs.mem hb
 exact absurd (Nat.lt_of_lt_of_le (Heap.lt_size ho) (Nat.le_trans I.sz h)) (Nat.lt_irrefl _)
theorem Inv.cne (I:Inv X pins σ H s):∀ x c,X.env.cells.lookup x = some c -> c ≠ X.env.locals:=fun x c e z=>by
 refine x2_2 (I.cell x c e) fun v o ho hd=>?_
 refine x1_2 I.loc fun m zo1 _=>?_
 obtain ⟨o',es,ep,ho',hd',_⟩:=zo1
 rw [z,ho'] at ho; cases ho; rw [hd'] at hd; cases hd
theorem Inv.funs (I:Inv X pins σ H s):s.heap.FunFrames X.base X.outer:=by
 have all:∀ (l:List Env),(∀ b ∈ frs l,b ∈ X.fs) -> X.s₀.heap.FunFrames X.base l -> s.heap.FunFrames X.base l:=by
  intro l
  induction l with
  | nil=>intro _ _; trivial
  | cons env r ih =>
   intro hs hl
   refine x0_3 hl fun hk zo1 hr=>?_
   clear hl
   obtain ⟨L,o,hf,hn,ho,hd⟩:=zo1
   have hL:L ∈ X.fs:=hs L (by unfold frs; rw [List.filterMap_cons,hf]; exact List.mem_cons_self)
   obtain ⟨sl,e⟩:=I.base.slot L o ho (I.ok.frf L hL) hL fun z=>I.ok.exfs L z hL
   exact ⟨hk,⟨L,_,hf,hn,e,hd⟩,ih (fun b hb=>hs b (by unfold frs; rw [List.filterMap_cons,hf]; exact List.mem_cons_of_mem _ hb)) hr⟩
 exact all X.outer (fun _ hb=>hb) I.ok.funs
theorem Inv.stack (I:Inv X pins σ H s):s.heap.FunFrames X.base X.stack:=by
 rcases I.ok.stk with e | ⟨e,hf⟩
 ·rw [e]; exact I.funs
 ·rw [e]
  refine x1_2 I.loc fun m hn _=>?_
  refine .cons (by rw [I.ok.kind]; decide) hf hn ?_ I.funs
  exact Heap.get?_none_of_le (Nat.le_trans I.ok.bsz I.ok.above)
theorem Inv.stkSub (I:Inv X pins σ H s):∀ b ∈ frs X.stack,b ∈ X.env.locals :: X.fs:=fun b hb=>by
 rcases I.ok.stk with e | ⟨e,hf⟩
 ·rw [e] at hb; exact List.mem_cons_of_mem _ hb
 ·rw [e] at hb
  unfold frs at hb
  rw [List.filterMap_cons,hf] at hb
  exact hb
theorem Inv.stkFree (I:Inv X pins σ H s):∀ b ∈ frs X.stack,H b = none:=fun b hb=>by
 rcases List.mem_cons.mp (I.stkSub b hb) with e | hb
 ·rw [e]; exact I.free
 ·obtain ⟨_,o,ho,_⟩:=I.ok.funs.mem hb
  exact I.base.free b o ho (I.ok.frf b hb) fun z=>I.ok.exfs b z hb
theorem Inv.step {g':Array GenState} {t':Nat} {d':Drawn} {ch:List Addr} (I:Inv X pins σ H s)
  (hch:∀ b ∈ ch,(b ∈ X.ex \/ X.s₀.heap.objs.size <= b) /\ b ≠ X.env.locals /\ (∀ x c,X.env.cells.lookup x = some c -> c ≠ b) /\ ∀ p ∈ X.pn ++ pins,p.1 ≠ b)
  (keep:∀ b o,b ≠ X.env.locals -> b ∉ X.fs -> b ∉ ch -> s.heap.get? b = some o -> H b = none -> h'.get? b = some o)
  (slot:∀ b o,b ≠ X.env.locals -> b ∈ X.fs -> b ∉ ch -> s.heap.get? b = some o -> H b = none -> ∃ sl,h'.get? b = some { o with slots:=sl }) (free:∀ b o,b ∉ ch -> s.heap.get? b = some o -> H b = none -> H' b = none)
  (there:∀ b o,b ∉ ch -> s.heap.get? b = some o -> ∃ o',h'.get? b = some o')
  (tups:∀ b xs,H b = some (.tup xs) -> H' b = some (.tup xs)) (frzs:∀ b o u,H b = some (.frz o u) -> H' b = some (.frz o u)) (tbls:∀ b ps,H b = some (.tbl ps) -> ∃ more,H' b = some (.tbl (ps ++ more)))
  (ns:∀ m,s.heap.Ns X.env.locals m -> h'.Ns X.env.locals m) (hok:HOk X.prog X.w H' h') (hg:AllBare g') :
  Inv X pins σ H' { s with heap:=h',gens:=g',drawn:=d',toks:=t' }:=by
 have neL:∀ b o,X.s₀.heap.get? b = some o -> b ≠ X.env.locals:=fun b o e=>Nat.ne_of_lt (Nat.lt_of_lt_of_le (Heap.lt_size e) I.ok.above)
 have neC:∀ b o,X.s₀.heap.get? b = some o -> b ∉ X.ex -> b ∉ ch:=fun b o e hx hb=>by
  rcases (hch b hb).1 with z | z
  ·exact hx z
  ·exact absurd (Nat.lt_of_lt_of_le (Heap.lt_size e) z) (Nat.lt_irrefl _)
 have cellK:∀ x c,X.env.cells.lookup x = some c -> ∀ v,s.heap.IsCell c v -> h'.IsCell c v:=fun x c e v zz1=>by
  refine x1_2 zz1 fun o ho hd=>?_
  clear zz1
  have nch:c ∉ ch:=fun z=>(hch c z).2.2.1 x c e rfl
  by_cases hc:c ∈ X.fs
  ·obtain ⟨sl,q⟩:=slot c o (I.cne x c e) hc nch ho (I.freeC x c e)
   exact ⟨_,q,hd⟩
  ·exact ⟨o,keep c o (I.cne x c e) hc nch ho (I.freeC x c e),hd⟩
 refine ⟨I.ok,I.os,hg,⟨fun b o e n hb hx=>?_,fun b o e n hb hx=>?_,fun b o e n hx=>?_,fun b o e hx=>?_,fun b xs e=>tups b xs (I.base.tups b xs e),fun b o xs e=>frzs b o xs (I.base.frzs b o xs e),fun b ps e=>?_⟩,?_,fun x c e=>?_,?_,fun x c e=>?_,fun p hp=>?_,hok,I.len⟩
 ·exact keep b o (neL b o e) hb (neC b o e hx) (I.base.keep b o e n hb hx) (I.base.free b o e n hx)
 ·obtain ⟨sl,e1⟩:=I.base.slot b o e n hb hx
  obtain ⟨sl',e2⟩:=slot b _ (neL b o e) hb (neC b o e hx) e1 (I.base.free b o e n hx)
  exact ⟨sl',e2⟩
 ·obtain ⟨o',e1⟩:=I.base.there b o e hx
  exact free b o' (neC b o e hx) e1 (I.base.free b o e n hx)
 ·obtain ⟨o',e1⟩:=I.base.there b o e hx
  exact there b o' (neC b o e hx) e1
 ·obtain ⟨m1,e1⟩:=I.base.tbls b ps e
  obtain ⟨m2,e2⟩:=tbls b _ e1
  exact ⟨m1 ++ m2,by rw [e2,Array.append_assoc]⟩
 ·refine x1_2 I.loc fun m hn hl=>?_
  refine ⟨m,ns m hn,fun i x v e1 e2 e3=>?_⟩
  refine x1_2 (hl i x v e1 e2 e3) fun u r l=>?_
  refine ⟨u,r,?_⟩
  rcases l with l | ⟨k,c,e,z⟩
  ·exact .inl l
  ·exact .inr ⟨k,c,e,cellK x c e _ z⟩
 ·obtain ⟨v,z⟩:=I.cell x c e
  exact ⟨v,cellK x c e v z⟩
 ·refine x1_2 I.loc fun m zo1 _=>?_
  obtain ⟨o,_,_,ho,_⟩:=zo1
  exact free _ o (fun z=>(hch _ z).2.1 rfl) ho I.free
 ·refine x2_2 (I.cell x c e) fun v o ho hd=>?_
  exact free c o (fun z=>(hch c z).2.2.1 x c e rfl) ho (I.freeC x c e)
 ·refine x0_5 (I.pin p hp) fun e n ne nf d=>?_
  have nch:p.1 ∉ ch:=fun z=>(hch p.1 z).2.2.2 p hp rfl
  exact ⟨keep p.1 p.2 ne nf nch e n,free p.1 p.2 nch e n,ne,nf,d⟩
theorem Inv.un {t':Nat} (I:Inv X pins σ H s) (u:Un X.fs [] H H' s.heap h') (hok:HOk X.prog X.w H' h'):Inv X pins σ H' { s with heap:=h',toks:=t' }:=by
 refine x1_2 (id I.loc) fun m zo1 _=>?_
 obtain ⟨o,es,ep,ho,r⟩:=zo1
 obtain ⟨sl,hL⟩:=u.any ho I.free (by simp)
 exact I.step (g':=s.gens) (d':=s.drawn) (ch:=[]) (fun _ z=>nomatch z) (fun b o _ hb _ e n=>u.keep b o e n hb (by simp)) (fun b o _ hb _ e n=>u.slot b o e n hb (by simp)) (fun b o _ e n=>u.free b o e n (by simp)) (fun b o _ e=>u.there b o e (by simp)) u.tups u.frzs u.tbls (fun m' hm=>by
  refine x3_2 hm fun o' es' ep' ho' r'=>?_
  clear hm
  rw [ho] at ho'; cases ho'
  exact ⟨_,es',ep',hL,r'⟩) hok I.bare
theorem Inv.call {g':Array GenState} {t':Nat} {d':Drawn} {ch:List Addr} (I:Inv X pins σ H s) (u:Un (frs X.stack) ch H H' s.heap h') (hok:HOk X.prog X.w H' h') (hg:AllBare g')
  (hch:∀ b ∈ ch,(b ∈ X.ex \/ X.s₀.heap.objs.size <= b) /\ b ≠ X.env.locals /\ (∀ x c,X.env.cells.lookup x = some c -> c ≠ b) /\ ∀ p ∈ X.pn ++ pins,p.1 ≠ b) :
  Inv X pins σ H' { s with heap:=h',gens:=g',drawn:=d',toks:=t' }:=by
 refine x1_2 (id I.loc) fun m zo1 _=>?_
 obtain ⟨o,es,ep,ho,r⟩:=zo1
 obtain ⟨sl,hL⟩:=u.any ho I.free fun z=>(hch _ z).2.1 rfl
 exact I.step (ch:=ch) hch (fun b o hL hb hc e n=>u.keep b o e n (fun z=>(List.mem_cons.mp (I.stkSub b z)).elim hL hb) hc) (fun b o _ _ hc e n=>u.any e n hc) (fun b o hc e n=>u.free b o e n hc) (fun b o hc e=>u.there b o e hc) u.tups u.frzs u.tbls (fun m' hm=>by
  refine x3_2 hm fun o' es' ep' ho' r'=>?_
  clear hm
  rw [ho] at ho'; cases ho'
  exact ⟨_,es',ep',hL,r'⟩) hok hg
theorem Inv.turned {t':Nat} {it:Addr} (I:Inv X pins σ H s) (k:∀ b o,b ≠ it -> s.heap.get? b = some o -> h'.get? b = some o) (hn:H it = none) (hL:it ≠ X.env.locals)
  (h1:it ∈ X.ex \/ X.s₀.heap.objs.size <= it) (h2:∀ x c,X.env.cells.lookup x = some c -> c ≠ it) (h3:∀ p ∈ X.pn ++ pins,p.1 ≠ it):Inv X pins σ H { s with heap:=h',toks:=t' }:=by
 have nit:∀ b u,H b = some u -> b ≠ it:=fun b u e z=>by rw [z,hn] at e; cases e
 refine I.step (g':=s.gens) (d':=s.drawn) (ch:=[it]) (fun b hb=>?_) (fun b o _ _ hc e _=>k b o (fun z=>hc (by simp [z])) e) (fun b o _ _ hc e _=>⟨o.slots,k b o (fun z=>hc (by simp [z])) e⟩) (fun _ _ _ _ n=>n)
  (fun b o hc e=>⟨o,k b o (fun z=>hc (by simp [z])) e⟩) (fun _ _ e=>e) (fun _ _ _ e=>e) (fun b ps e=>⟨#[],by rw [e]; simp⟩) (fun m hm=>?_) (fun b u e=>?_) I.bare
 ·have e:b = it:=by simpa using hb
  subst e
  exact ⟨h1,hL,h2,h3⟩
 ·refine x3_2 hm fun o es ep ho r=>?_
  clear hm
  exact ⟨o,es,ep,k _ o (Ne.symm hL) ho,r⟩
 ·refine (I.hok b u e).stay (fun c v hc q=>k c v ?_ q) (fun _ q=>q) fun _ _ q=>q
  rcases hc with z | z
  ·rw [z]; exact nit b u e
  ·exact nit c _ z
theorem Inv.tok (I:Inv X pins σ H s) (t:Nat):Inv X pins σ H { s with toks:=t }:=I.un (h':=s.heap) (t':=t) Un.refl I.hok
theorem Inv.kept {t':Nat} (I:Inv X pins σ H s) (k:∀ b u,s.heap.get? b = some u -> h'.get? b = some u):Inv X pins σ H { s with heap:=h',toks:=t' }:=I.un (Un.kept k) (I.hok.kept k)
theorem Inv.laid {a:Addr} {o:HO} {t':Nat} (I:Inv X pins σ H s) (k:∀ b u,s.heap.get? b = some u -> h'.get? b = some u) (hp:s.heap.objs.size <= a) (new:ObjOk X.prog X.w (upd H a o) h' a o) :
  Inv X pins σ (upd H a o) { s with heap:=h',toks:=t' }:=I.un (Un.laid k hp (I.hok.fresh hp)) (I.hok.laid k hp new)
theorem Inv.write {x e:Addr} {o:HO} {t':Nat} (I:Inv X pins σ H s) (mu:Mut (H x)) (he:e = x \/ H e = some (.own x)) (k:∀ b u,b ≠ e -> s.heap.get? b = some u -> h'.get? b = some u) (heo:∃ u,h'.get? e = some u)
  (new:ObjOk X.prog X.w (upd H x o) h' x o):Inv X pins σ (upd H x o) { s with heap:=h',toks:=t' }:=I.un (Un.write mu he k heo) (I.hok.write mu he k heo new)
theorem Inv.pins_of {pins':List (Addr × Obj)} (I:Inv X pins σ H s) (h:∀ p ∈ pins',s.heap.get? p.1 = some p.2 /\ H p.1 = none /\ p.1 ≠ X.env.locals /\ p.1 ∉ X.fs /\ ∀ v,p.2.data ≠ .cell v):Inv X pins' σ H s :=
 ⟨I.ok,I.os,I.bare,I.base,I.loc,I.cell,I.free,I.freeC,fun p hp=>(List.mem_append.mp hp).elim (fun z=>I.pin p (List.mem_append_left _ z)) (h p),I.hok,I.len⟩
theorem kd6 {N:List Str} (hN:N.Nodup) {i j:Nat} {x:Str} (a:N[i]? = some x) (b:N[j]? = some x):i = j:=by
 obtain ⟨h1,e1⟩:=List.getElem?_eq_some_iff.mp a
 obtain ⟨h2,e2⟩:=List.getElem?_eq_some_iff.mp b
 exact (List.getElem_inj hN).mp (e1.trans e2.symm)
theorem kk8 {M:Model} {A:Around} {E:Value -> Shared -> Prop} {i:Nat} {x:Str} {v:V} {u:Value} {Q:Unit -> Shared -> Prop} (I:Inv X pins σ H s) (hN:X.N.Nodup) (hi:X.N[i]? = some x) (hx:Loc X.env.scope x) (r:RelV v u)
  (h:∀ s',Inv X pins (σ.set i (some v)) H s' -> (∃ a,Heap.SameBut a s.heap s'.heap /\ (a = X.env.locals \/ X.env.cells.lookup x = some a)) -> Q () s') (hf:X.fn x = true \/ X.env.scope.names.lookup x = some .local:=by first | exact .inl rfl | exact .inr rfl | assumption):wpAny M A (storeName X.env x u) Q E s:=by
 refine x1_2 (id I.loc) fun m hn hl=>?_
 have hcls:(X.env.scope.kind == .class || (X.env.scope.kind == .module && X.env.locals != X.env.globals)) = false:=by rw [I.ok.kind]; rfl
 have hiσ:i < σ.length:=by rw [I.len]; exact (List.getElem?_eq_some_iff.mp hi).1
 have cne:=I.cne
 have tracked:∀ {a:Addr} {h':Heap},(∃ o,s.heap.get? a = some o /\ H a = none) -> Heap.SameBut a s.heap h' -> HOk X.prog X.w H h':=fun {a h'} ha hs b ob e=>by
  refine x1_2 ha fun _ _ hfree=>?_
  clear ha
  refine (I.hok b ob e).stay (fun c w' hc q=>(hs.2 c ?_).trans q) (fun _ q=>q) fun _ _ q=>q
  rintro rfl
  rcases hc with rfl | hc
  ·rw [hfree] at e; cases e
  ·rw [hfree] at hc; cases hc
 rcases hx with hk | hk
 ·refine wpAny_storeName_local hk hn (fun h' hn' hs=>?_) hcls
  refine x3_2 (id hn) fun oL _ _ hoL _=>?_
  refine h _ ⟨I.ok,I.os,I.bare,⟨fun b o e n hb hx=>?_,fun b o e n hb hx=>?_,I.base.free,fun b o e hx=>?_,I.base.tups,I.base.frzs,I.base.tbls⟩,⟨_,hn',fun j y v' e1 e2 e3=>?_⟩,fun y c e=>?_,I.free,I.freeC,fun p hp=>?_,tracked ⟨oL,hoL,I.free⟩ hs,by simpa using I.len⟩ ⟨_,hs,.inl rfl⟩
  ·exact (hs.2 b (Nat.ne_of_lt (Nat.lt_of_lt_of_le (Heap.lt_size e) I.ok.above))).trans (I.base.keep b o e n hb hx)
  ·obtain ⟨sl,e1⟩:=I.base.slot b o e n hb hx
   exact ⟨sl,(hs.2 b (Nat.ne_of_lt (Nat.lt_of_lt_of_le (Heap.lt_size e) I.ok.above))).trans e1⟩
  ·obtain ⟨o',e1⟩:=I.base.there b o e hx
   exact ⟨o',(hs.2 b (Nat.ne_of_lt (Nat.lt_of_lt_of_le (Heap.lt_size e) I.ok.above))).trans e1⟩
  ·by_cases hj:j = i
   ·subst hj
    rw [hi] at e1; cases e1
    rw [List.getElem?_set_self hiσ] at e2
    cases e2
    exact ⟨u,r,.inl ⟨hk,by simp⟩⟩
   ·rw [List.getElem?_set_ne (Ne.symm hj)] at e2
    refine x1_2 (hl j y v' e1 e2 e3) fun u' r' q=>?_
    refine ⟨u',r',?_⟩
    rcases q with ⟨k,e⟩ | ⟨k,c,e,z⟩
    ·refine .inl ⟨k,?_⟩
     have:y ≠ x:=fun e=>hj (kd6 hN e1 (e ▸ hi))
     simp [this,e]
    ·exact .inr ⟨k,c,e,z.sameBut hs (cne y c e)⟩
  ·obtain ⟨w',z⟩:=I.cell y c e
   exact ⟨w',z.sameBut hs (cne y c e)⟩
  ·refine x0_5 (I.pin p hp) fun e n ne nf d=>?_
   exact ⟨(hs.2 p.1 ne).trans e,n,ne,nf,d⟩
 ·have hfn:X.fn x = true:=by
   rcases hf with z | z
   ·exact z
   ·rw [z] at hk; cases hk
  obtain ⟨c,hc⟩:=I.ok.has x (.inl hk)
  obtain ⟨w',z⟩:=I.cell x c hc
  refine wpAny_storeName_cell I.ok.kind hk hc z (fun h' hc' hs=>?_)
  refine x1_2 (id z) fun oc hoc hocd=>?_
  refine h { s with heap:=h' } ⟨I.ok,I.os,I.bare,⟨fun b o e n hb hx=>?_,fun b o e n hb hx=>?_,I.base.free,fun b o e hx=>?_,I.base.tups,I.base.frzs,I.base.tbls⟩,⟨m,hn.sameBut hs (Ne.symm (cne x c hc)),fun j y v' e1 e2 e3=>?_⟩,fun y c' e=>?_,I.free,I.freeC,fun p hp=>?_,tracked ⟨oc,hoc,I.freeC x c hc⟩ hs,by simpa using I.len⟩ ⟨c,hs,.inr hc⟩
  ·exact (hs.2 b (Nat.ne_of_lt (Nat.lt_of_lt_of_le (Heap.lt_size e) (I.ok.cab x c hfn hc)))).trans (I.base.keep b o e n hb hx)
  ·obtain ⟨sl,e1⟩:=I.base.slot b o e n hb hx
   exact ⟨sl,(hs.2 b (Nat.ne_of_lt (Nat.lt_of_lt_of_le (Heap.lt_size e) (I.ok.cab x c hfn hc)))).trans e1⟩
  ·obtain ⟨o',e1⟩:=I.base.there b o e hx
   exact ⟨o',(hs.2 b (Nat.ne_of_lt (Nat.lt_of_lt_of_le (Heap.lt_size e) (I.ok.cab x c hfn hc)))).trans e1⟩
  ·by_cases hj:j = i
   ·subst hj
    rw [hi] at e1; cases e1
    rw [List.getElem?_set_self hiσ] at e2
    cases e2
    exact ⟨u,r,.inr ⟨.inl hk,c,hc,hc'⟩⟩
   ·rw [List.getElem?_set_ne (Ne.symm hj)] at e2
    refine x1_2 (hl j y v' e1 e2 e3) fun u' r' q=>?_
    refine ⟨u',r',?_⟩
    rcases q with q | ⟨k,c',e,z'⟩
    ·exact .inl q
    ·refine .inr ⟨k,c',e,z'.sameBut hs ?_⟩
     rintro rfl
     exact hj (kd6 hN e1 (I.ok.inj _ _ _ e hc ▸ hi))
  ·by_cases hcc:c' = c
   ·subst hcc; exact ⟨_,hc'⟩
   ·obtain ⟨w2,z2⟩:=I.cell y c' e
    exact ⟨w2,z2.sameBut hs hcc⟩
  ·refine x0_5 (I.pin p hp) fun e n ne nf d=>?_
   refine ⟨(hs.2 p.1 ?_).trans e,n,ne,nf,d⟩
   intro q
   rw [q,hoc] at e
   have q':oc = p.2:=Option.some.inj e
   exact d w' (by rw [<- q']; exact hocd)
theorem jg8 {M:Model} {A:Around} {E:Value -> Shared -> Prop} {i:Nat} {x:Str} {v:V} {u:Value} {Q:Unit -> Shared -> Prop} (I:Inv X pins σ H s) (hN:X.N.Nodup) (hi:X.N[i]? = some x) (hx:Loc X.env.scope x) (r:RelV v u)
  (h:∀ s',Inv X pins (σ.set i (some v)) H s' -> Q () s') (hf:X.fn x = true \/ X.env.scope.names.lookup x = some .local:=by first | exact .inl rfl | exact .inr rfl | assumption):wpAny M A (storeName X.env x u) Q E s :=
 kk8 I hN hi hx r (fun s' I' _=>h s' I') hf
theorem Inv.call' {s':Shared} {ch:List Addr} (I:Inv X pins σ H s) (ho:s'.os = s.os) (u:Un (frs X.stack) ch H H' s.heap s'.heap) (hok:HOk X.prog X.w H' s'.heap) (hg:AllBare s'.gens)
  (hch:∀ b ∈ ch,(b ∈ X.ex \/ X.s₀.heap.objs.size <= b) /\ b ≠ X.env.locals /\ (∀ x c,X.env.cells.lookup x = some c -> c ≠ b) /\ ∀ p ∈ X.pn ++ pins,p.1 ≠ b):Inv X pins σ H' s':=by
 obtain ⟨h',g',d',t',o'⟩:=s'
 have e:o' = s.os:=ho
 subst e
 exact I.call (g':=g') (t':=t') (d':=d') u hok hg hch
end
noncomputable abbrev XK:=Value -> Option Addr -> Hp -> Prop
noncomputable abbrev St:=List (Option V)
noncomputable abbrev VK:=V -> Hp -> Prop
noncomputable abbrev TE:=St -> Hp -> VK -> Prop
noncomputable abbrev TT:=St -> Hp -> (Bool -> Hp -> Prop) -> Prop
noncomputable abbrev TA:=St -> Hp -> (List V -> Hp -> Prop) -> Prop
structure Ends where
 nx:St -> Hp -> Prop
 rt:VK
 bk:St -> Hp -> Prop:=fun _ _=>False
 ct:St -> Hp -> Prop:=fun _ _=>False
noncomputable abbrev TS:=Ends -> St -> Hp -> Prop
noncomputable def EP (X:Cx) (pins:List (Addr × Obj)) (σ:St) (Q:VK) (u:Value) (s':Shared):Prop:=∃ v H',Inv X pins σ H' s' /\ RelV v u /\ Q v H'
noncomputable def TP (X:Cx) (pins:List (Addr × Obj)) (σ:St) (Q:Bool -> Hp -> Prop) (b:Bool) (s':Shared):Prop:=∃ H',Inv X pins σ H' s' /\ Q b H'
noncomputable def AP (X:Cx) (pins:List (Addr × Obj)) (σ:St) (Q:List V -> Hp -> Prop) (us:List Value) (s':Shared):Prop:=∃ vs H',Inv X pins σ H' s' /\ Vals vs us /\ Q vs H'
noncomputable def SP (X:Cx) (pins:List (Addr × Obj)) (D:Ends) (f:Flow) (s':Shared):Prop :=
 match f with
 | .next=>∃ σ' H',Inv X pins σ' H' s' /\ D.nx σ' H'
 | .brk=>∃ σ' H',Inv X pins σ' H' s' /\ D.bk σ' H'
 | .cont=>∃ σ' H',Inv X pins σ' H' s' /\ D.ct σ' H'
 | .ret u=>∃ v σ' H',Inv X pins σ' H' s' /\ RelV v u /\ D.rt v H'
noncomputable def PE (X:Cx) (e:Expr) (t:TE):Prop :=
 ∀ (pins:List (Addr × Obj)) (s:Shared) (σ:St) (H:Hp) (Q:VK),Inv X pins σ H s -> t σ H Q -> wpAny (model X.prog X.w) X.A (eval e X.env) (EP X pins σ Q) X.xe s
noncomputable def PT (X:Cx) (e:Expr) (t:TT):Prop :=
 ∀ (pins:List (Addr × Obj)) (s:Shared) (σ:St) (H:Hp) (Q:Bool -> Hp -> Prop),Inv X pins σ H s -> t σ H Q -> wpAny (model X.prog X.w) X.A (isTrue e X.env (eval e X.env)) (TP X pins σ Q) X.xe s
noncomputable def PW (X:Cx) (e:Expr) (t:TT):Prop :=
 ∀ (whole:Sem Value) (pins:List (Addr × Obj)) (s:Shared) (σ:St) (H:Hp) (Q:Bool -> Hp -> Prop),Inv X pins σ H s -> t σ H Q -> wpAny (model X.prog X.w) X.A (isTrue e X.env whole) (TP X pins σ Q) X.xe s
theorem PW.pt {X:Cx} {e:Expr} {t:TT} (h:PW X e t):PT X e t:=h _
noncomputable def PA (X:Cx) (es:List Expr) (t:TA):Prop :=
 ∀ (pos:Pos) (pins:List (Addr × Obj)) (s:Shared) (σ:St) (H:Hp) (Q:List V -> Hp -> Prop),Inv X pins σ H s -> t σ H Q -> wpAny (model X.prog X.w) X.A (spliced (backTo pos (starEach es X.env))) (AP X pins σ Q) X.xe s
noncomputable def PS (X:Cx) (st:Stmt) (t:TS):Prop :=
 ∀ (pins:List (Addr × Obj)) (s:Shared) (σ:St) (H:Hp) (D:Ends),Inv X pins σ H s -> t D σ H -> wpAny (model X.prog X.w) X.A (exec st X.env) (SP X pins D) X.xe s
noncomputable def PSs (X:Cx) (st:List Stmt) (t:TS):Prop :=
 ∀ (pins:List (Addr × Obj)) (s:Shared) (σ:St) (H:Hp) (D:Ends),Inv X pins σ H s -> t D σ H -> wpAny (model X.prog X.w) X.A (execs st X.env) (SP X pins D) X.xe s
theorem thn {α:Type} {t:Sem α} {Q Q':α -> Shared -> Prop} {M:Model} {A:Around} {E:Value -> Shared -> Prop} {s:Shared} (h:wpAny M A t Q E s) (hQ:∀ a s,Q a s -> Q' a s):wpAny M A t Q' E s:=wpAny_mono h hQ fun _ _ x=>x
end L2
namespace L2
open PySem PySem.Spec PyProof.Rows
section
variable {X:Cx}
noncomputable def tVar (i:Nat):TE:=fun σ H Q=>∃ v,σ[i]? = some (some v) /\ Q v H
noncomputable def tC (v:V):TE:=fun _ H Q=>Q v H
theorem qo8 {i:Nat} {x:Str} {pos:Pos} (hN:X.N[i]? = some x) (hv:Vis X.env.scope x) (hd:(x == ("__debug__" : Str)) = false:=by decide) (hcd:(x == ("__classdict__" : Str)) = false:=by decide):PE X (.Name x pos) (tVar i):=by
 intro pins s σ H Q I h
 obtain ⟨v,e,h⟩:=h
 obtain ⟨m,hn,hl⟩:=I.loc
 obtain ⟨u,r,l⟩:=hl i x v hN e hv
 have fin:EP X pins σ Q u s:=⟨v,H,I,r,h⟩
 rcases l with ⟨hk,hm⟩ | ⟨hk,c,hc,hcell⟩
 ·exact wpAny_Name (wpAny_loadName_local I.ok.kind hk hn hm fin) hd
 ·rcases hk with hk | hk
  ·exact wpAny_Name (wpAny_loadName_cell I.ok.kind hk hc hcell fin) hd
  ·exact wpAny_Name (wpAny_loadName_free I.ok.kind hk hc hcell fin hcd) hd
theorem ql8 {i j pos}:PE X (.Constant (.int i) j pos) (tC (.int i)):=fun _ _ _ H _ I h=>wpAny_Constant_int ⟨.int i,H,I.tok _,⟨_,rfl⟩,h⟩
theorem qp1 {b j pos}:PE X (.Constant (.bool b) j pos) (tC (.bl b)):=fun _ _ _ H _ I h=>Constant_bool ⟨.bl b,H,I,rfl,h⟩
theorem qh0 {x j pos}:PE X (.Constant (.str x) j pos) (tC (.str x)):=fun _ _ _ H _ I h=>Calls.Constant_str ⟨.str x,H,I.tok _,⟨_,rfl⟩,h⟩
noncomputable def Gl (X:Cx) (x:Str):Prop:=X.env.kindOf x = some .globalImplicit
theorem ji2 {E:Value -> Shared -> Prop} {pins:List (Addr × Obj)} {s:Shared} {σ:St} {H:Hp} {x:Str} {u:Value} {pos:Pos} {Q:Value -> Shared -> Prop} (I:Inv X pins σ H s) (hg:Gl X x) (hm:X.mg x = some u) (h:Q u s)
  (hd:(x == ("__debug__" : Str)) = false:=by decide):wpAny (model X.prog X.w) X.A (eval (.Name x pos) X.env) Q E s :=
 Calls.Name_function_global I.ok.kind hg (Calls.loadGlobal_global (by rw [I.ok.glob]; exact I.mod.glob.keeps I.bk) hm h) hd
theorem kc9 {E:Value -> Shared -> Prop} {pins:List (Addr × Obj)} {s:Shared} {σ:St} {H:Hp} {x:Str} {u:Value} {pos:Pos} {Q:Value -> Shared -> Prop} (I:Inv X pins σ H s) (hg:Gl X x) (hm:X.mg x = none) (hv:bootBuiltins x = some u) (h:Q u s)
  (hn:x ≠ "__name__":=by decide) (hd:(x == ("__debug__" : Str)) = false:=by decide):wpAny (model X.prog X.w) X.A (eval (.Name x pos) X.env) Q E s:=by
 refine x1_2 I.mod.blt fun mb h1 h2=>?_
 exact Calls.Name_function_global I.ok.kind hg (Calls.loadGlobal_builtin (by rw [I.ok.glob]; exact I.mod.glob.keeps I.bk) hm (by rw [I.ok.blt]; exact h1.keeps I.bk) ((h2 x hn).trans hv) h) hd
theorem jq1 {x:Str} {v:V} {u:Value} {pos:Pos} (hg:Gl X x) (hm:X.mg x = some u) (r:RelV v u) (hd:(x == ("__debug__" : Str)) = false:=by decide):PE X (.Name x pos) (tC v) :=
 fun _ _ _ H _ I h=>ji2 I hg hm ⟨v,H,I,r,h⟩ hd
variable {a b:Expr} {ta tb:TE} {pos:Pos}
noncomputable def tB (t:TE):TT:=fun σ H Q=>t σ H fun x H1=>∃ c,x = .bl c /\ Q c H1
theorem qk3 {e:Expr} {t:TE} (h:PE X e t) (he:∀ whole,isTrue e X.env whole = (do let v <- whole; standAt e.pos; holding [v] (truthy v)):=by intro _; rfl):PT X e (tB t):=by
 intro pins s σ H Q I hw
 refine isTrue_plain (thn (h pins s σ H _ I hw) fun v s1 zz7=>?_) (he _)
 refine x2_3 zz7 fun x H1 I1 r1 q1=>?_
 clear zz7
 refine x1_2 q1 fun d zo1 q=>?_
 clear q1
 obtain rfl:=zo1
 cases r1
 exact wpAny_truthy_bool ⟨H1,I1,q⟩
variable {tA tB':TT} {rest:List Expr}
noncomputable def tAnd (t u:TT):TT:=fun σ H Q=>t σ H fun c H1=>if c = true then u σ H1 Q else Q false H1
noncomputable def tNot (t:TT):TT:=fun σ H Q=>t σ H fun c H1=>Q (!c) H1
theorem qf1 (ha:PT X a tA):PW X (.BoolOp .And [a] pos) tA:=by
 intro wh pins s σ H Q I h
 refine isTrue_and (thn (ha pins s σ H Q I h) fun c s1 e=>?_)
 cases c with
 | true=>exact isTrue_and_nil e
 | false=>exact e
theorem qj5 (ha:PT X a tA) (hb:PW X (.BoolOp .And (b :: rest) pos) tB'):PW X (.BoolOp .And (a :: b :: rest) pos) (tAnd tA tB'):=by
 intro wh pins s σ H Q I h
 refine isTrue_and (thn (ha pins s σ H _ I h) fun c s1 zz8=>?_)
 refine x1_2 zz8 fun H1 I1 q1=>?_
 clear zz8
 cases c with
 | true=>exact hb wh pins s1 σ H1 Q I1 q1
 | false=>exact ⟨H1,I1,q1⟩
theorem qh7 (ha:PT X a tA):PT X (.UnaryOp .Not a pos) (tNot tA):=by
 intro pins s σ H Q I h
 exact isTrue_not (ha pins s σ H (fun c H1=>Q (!c) H1) I h)
noncomputable def qq0 (ta tb:TE):TE:=fun σ H Q=>ta σ H fun x H1=>∃ c,x = .bl c /\ if c = true then tb σ H1 Q else Q (.bl false) H1
theorem qh6 {op} {t:TE} (h:PE X a t):PE X (.BoolOp op [a] pos) t:=fun pins s σ H Q I hw=>BoolOp_one (h pins s σ H Q I hw)
theorem qn6 (ha:PE X a ta) (hb:PE X (.BoolOp .And (b :: rest) pos) tb):PE X (.BoolOp .And (a :: b :: rest) pos) (qq0 ta tb):=by
 intro pins s σ H Q I h
 refine BoolOp_and (thn (ha pins s σ H _ I h) fun v s1 zz10=>?_)
 obtain ⟨x,H1,I1,r1,q1⟩:=zz10
 obtain ⟨c,rfl,q1⟩:=q1
 cases r1
 refine wpAny_truthy_bool ?_
 cases c with
 | true=>exact hb pins s1 σ H1 Q I1 q1
 | false=>exact ⟨.bl false,H1,I1,rfl,q1⟩
end
end L2
namespace L2
open PySem PySem.Spec PyProof.Rows
noncomputable def SqL (K:PySem.W.Frag) (H:Hp) (a:Addr) (xs:List V):Prop :=
 Rd H a (.lst xs) \/
  ∃ (o:Obj) (its:Array Value) (n:Nat),K.lookup a = some o /\ o.cls = .type "list" /\ o.dict = none /\ o.data = .seq its n /\ its.size <= sizeLine /\ Vals xs its.toList
noncomputable def SqT (K:PySem.W.Frag) (H:Hp) (a:Addr) (xs:List V):Prop :=
 Rd H a (.tup xs) \/
  ∃ (o:Obj) (its:Array Value) (n:Nat),K.lookup a = some o /\ o.cls = .type "tuple" /\ o.data = .seq its n /\ its.size <= sizeLine /\ Vals xs its.toList
noncomputable def absV:Value -> Option V
 | .none=>some .non
 | .bool b=>some (.bl b)
 | .int i _=>some (.int i)
 | .str x _=>some (.str x)
 | .bytes b _=>some (.byt b)
 | .float b _=>some (.flt b)
 | .ref a=>some (.ref a)
 | .type n=>some (.ty n)
 | _=>none
theorem RelV.abs {x:V} {u:Value} (r:RelV x u):absV u = some x:=by
 cases x with
 | non=>cases r; rfl
 | bl _=>cases r; rfl
 | int _=>obtain ⟨t,rfl⟩:=r; rfl
 | str _=>obtain ⟨t,rfl⟩:=r; rfl
 | byt _=>obtain ⟨t,rfl⟩:=r; rfl
 | flt _=>obtain ⟨t,rfl⟩:=r; rfl
 | ref _=>cases r; rfl
 | ty _=>cases r; rfl
theorem RelV.inj {x y:V} {u:Value} (r:RelV x u) (q:RelV y u):x = y:=Option.some.inj (r.abs.symm.trans q.abs)
theorem Vals.inj {xs ys:List V} {us:List Value} (h:Vals xs us) (h':Vals ys us):xs = ys:=by
 induction h generalizing ys with
 | nil=>cases h'; rfl
 | cons r t ih =>
  cases h' with
  | cons r' t'=>rw [r.inj r',ih t']
section
variable {X:Cx} {pins:List (Addr × Obj)} {σ:St} {H:Hp} {s:Shared} {a:Addr} {xs ys:List V}
theorem SqL.of {K:PySem.W.Frag} (h:H a = some (.lst xs)):SqL K H a xs:=.inl (.inl h)
theorem SqT.of {K:PySem.W.Frag} (h:H a = some (.tup xs)):SqT K H a xs:=.inl (.inl h)
theorem Inv.list (I:Inv X pins σ H s) (h:SqL X.K H a xs):∃ its:List Value,Vals xs its /\ PlainL s.heap a its.toArray /\ xs.length <= sizeLine:=by
 rcases h with h | ⟨o,its,n,hk,hc,hd,hs,hz,r⟩
 ·obtain ⟨z,its,n,r,e⟩:=h.ok I.hok
  exact ⟨its,r,⟨_,n,e,rfl,rfl,rfl⟩,z⟩
 ·refine ⟨its.toList,r,⟨o,n,I.kIn a o hk,hc,hd,by simpa using hs⟩,?_⟩
  have e:=r.length
  simp only [Array.length_toList] at e
  lia
theorem Inv.tuple (I:Inv X pins σ H s) (h:SqT X.K H a xs):∃ its:List Value,Vals xs its /\ IsTup s.heap a its.toArray /\ xs.length <= sizeLine:=by
 rcases h with h | ⟨o,its,n,hk,hc,hs,hz,r⟩
 ·obtain ⟨z,its,r,p⟩:=h.ok I.hok
  exact ⟨its,r,p,z⟩
 ·refine ⟨its.toList,r,⟨o,I.kIn a o hk,hc,n,by simpa using hs⟩,?_⟩
  have e:=r.length
  simp only [Array.length_toList] at e
  lia
theorem Inv.list_inj (I:Inv X pins σ H s) (h:SqL X.K H a xs) (h':SqL X.K H a ys):xs = ys:=by
 refine x1_3 (I.list h) fun its r zo2 _=>?_
 obtain ⟨o,n,e,_,_,d⟩:=zo2
 refine x1_3 (I.list h') fun its' r' zo2 _=>?_
 obtain ⟨o',n',e',_,_,d'⟩:=zo2
 rw [e] at e'; cases e'
 rw [d] at d'
 injection d' with d1 _
 have:its = its':=by simpa using congrArg Array.toList d1
 subst this
 exact r.inj r'
end
noncomputable abbrev Cx.wish (X:Cx) (E:Value -> Shared -> Prop):Cx:={ X with xe:=E }
noncomputable abbrev Cx.nox (X:Cx):Cx:=X.wish fun _ _=>False
theorem Cx.Ok.wish {X:Cx} (ok:X.Ok) (E:Value -> Shared -> Prop):(X.wish E).Ok :=
 ⟨ok.mod,ok.kind,ok.glob,ok.blt,ok.above,ok.inj,ok.has,ok.cab,ok.hd,ok.frames,ok.stk,ok.exf,ok.bs,ok.bsz,ok.noex,ok.exfs,ok.funs,ok.frf⟩
theorem Cx.Ok.unwish {X:Cx} {E:Value -> Shared -> Prop} (ok:(X.wish E).Ok):X.Ok :=
 ⟨ok.mod,ok.kind,ok.glob,ok.blt,ok.above,ok.inj,ok.has,ok.cab,ok.hd,ok.frames,ok.stk,ok.exf,ok.bs,ok.bsz,ok.noex,ok.exfs,ok.funs,ok.frf⟩
section
variable {X:Cx} {pins:List (Addr × Obj)} {σ:St} {H:Hp} {s:Shared} {E:Value -> Shared -> Prop}
theorem Inv.wish (I:Inv X pins σ H s) (E:Value -> Shared -> Prop):Inv (X.wish E) pins σ H s:=⟨I.ok.wish E,I.os,I.bare,I.base,I.loc,I.cell,I.free,I.freeC,I.pin,I.hok,I.len⟩
theorem Inv.unwish (I:Inv (X.wish E) pins σ H s):Inv X pins σ H s:=⟨I.ok.unwish,I.os,I.bare,I.base,I.loc,I.cell,I.free,I.freeC,I.pin,I.hok,I.len⟩
theorem SP.unwish {D:Ends} {f:Flow} {s':Shared} (h:SP (X.wish E) pins D f s'):SP X pins D f s':=by
 cases f with
 | next=>obtain ⟨σ',H',I,q⟩:=h; exact ⟨σ',H',I.unwish,q⟩
 | brk=>obtain ⟨σ',H',I,q⟩:=h; exact ⟨σ',H',I.unwish,q⟩
 | cont=>obtain ⟨σ',H',I,q⟩:=h; exact ⟨σ',H',I.unwish,q⟩
 | ret u=>obtain ⟨v,σ',H',I,r,q⟩:=h; exact ⟨v,σ',H',I.unwish,r,q⟩
theorem PE.nox {e:Expr} {t:TE} (h:PE X.nox e t):PE X e t:=fun pins s σ H Q I hw =>
 wpAny_mono (h pins s σ H Q (I.wish _) hw) (fun _ _ zz14=>zz14.elim fun v zz15=>zz15.elim fun H' zz16=>zz16.elim fun I' zz17=>zz17.elim fun r q=>⟨v,H',I'.unwish,r,q⟩) fun _ _ z=>False.elim z
theorem PT.nox {e:Expr} {t:TT} (h:PT X.nox e t):PT X e t:=fun pins s σ H Q I hw =>
 wpAny_mono (h pins s σ H Q (I.wish _) hw) (fun _ _ zz18=>zz18.elim fun H' zz19=>zz19.elim fun I' q=>⟨H',I'.unwish,q⟩) fun _ _ z=>False.elim z
theorem PSs.nox {st:List Stmt} {t:TS} (h:PSs X.nox st t):PSs X st t:=fun pins s σ H D I hw =>
 wpAny_mono (h pins s σ H D (I.wish _) hw) (fun _ _ q=>q.unwish) fun _ _ z=>False.elim z
end
section
variable {X:Cx} {st:Stmt} {rest:List Stmt} {t u:TS} {e:Expr} {te:TE} {pos:Pos}
noncomputable def qq6:TS:=fun D σ H=>D.nx σ H
noncomputable def tSeq (t u:TS):TS:=fun D σ H=>t { D with nx:=u D } σ H
theorem qf9:PSs X [] qq6:=fun _ _ σ H _ I h=>wpAny_execs_nil ⟨σ,H,I,h⟩
theorem kc0 (h1:PS X st t) (h2:PSs X rest u):PSs X (st :: rest) (tSeq t u):=by
 intro pins s σ H D I h
 refine wpAny_execs_cons (thn (h1 pins s σ H { D with nx:=u D } I h) fun f s1 q=>?_)
 cases f with
 | next =>
  obtain ⟨σ',H',I',q⟩:=q
  exact h2 pins s1 σ' H' D I' q
 | ret v=>exact q
 | brk=>exact q
 | cont=>exact q
theorem ko1 (h1:PS X st t):PSs X [st] t:=by
 intro pins s σ H D I h
 refine wpAny_execs_cons (thn (h1 pins s σ H D I h) fun f s1 q=>?_)
 cases f with
 | next=>exact wpAny_execs_nil q
 | ret v=>exact q
 | brk=>exact q
 | cont=>exact q
theorem Inv.quiet {pins:List (Addr × Obj)} {σ:St} {H:Hp} {s:Shared} (I:Inv X pins σ H s):interactive X.env = false:=by simp [interactive,I.ok.kind]
noncomputable def qh2 (te:TE):TS:=fun D σ H=>te σ H fun _ H1=>D.nx σ H1
theorem jx8 (he:PE X e te) (hs:swapsWith e none pos.line X.env = pure false:=by rfl):PS X (.Expr e pos) (qh2 te):=by
 intro pins s σ H D I h
 exact wpAny_Expr_any (thn (he pins s σ H _ I h) fun v s1 zz20=>zz20.elim fun x zz21=>zz21.elim fun H1 zz22=>zz22.elim fun I1 zz23=>zz23.elim fun r1 q1=>⟨σ,H1,I1,q1⟩) I.quiet hs
noncomputable def tRet (te:TE):TS:=fun D σ H=>te σ H D.rt
theorem ql2 (he:PE X e te):PS X (.Return (some e) pos) (tRet te):=by
 intro pins s σ H D I h
 exact wpAny_Return_some (thn (he pins s σ H _ I h) fun v s1 zz24=>zz24.elim fun x zz25=>zz25.elim fun H1 zz26=>zz26.elim fun I1 zz27=>zz27.elim fun r1 q1=>⟨x,σ,H1,I1,r1,q1⟩)
noncomputable def tIfS (c:TT) (t u:TS):TS:=fun D σ H=>c σ H fun b H1=>if b = true then t D σ H1 else u D σ H1
theorem qp0 {c:Expr} {a b:List Stmt} {tc:TT} (hc:PT X c tc) (ha:PSs X a t) (hb:PSs X b u):PS X (.If c a b pos) (tIfS tc t u):=by
 intro pins s σ H D I h
 refine wpAny_If (thn (hc pins s σ H _ I h) fun d s1 zz28=>?_)
 refine x1_2 zz28 fun H1 I1 q1=>?_
 clear zz28
 cases d with
 | true=>exact ha pins s1 σ H1 D I1 q1
 | false=>exact hb pins s1 σ H1 D I1 q1
end
noncomputable abbrev TG:=V -> St -> Hp -> (St -> Hp -> Prop) -> Prop
noncomputable abbrev TGs:=List V -> St -> Hp -> (St -> Hp -> Prop) -> Prop
noncomputable def PG (X:Cx) (target:Expr) (t:TG):Prop :=
 ∀ (pins:List (Addr × Obj)) (s:Shared) (σ:St) (H:Hp) (v:V) (u:Value) (Q:St -> Hp -> Prop),Inv X pins σ H s -> RelV v u -> t v σ H Q ->
  wpAny (model X.prog X.w) X.A (assign target X.env u) (fun _ s'=>∃ σ' H',Inv X pins σ' H' s' /\ Q σ' H') X.xe s
noncomputable def PGs (X:Cx) (ts:List Expr) (t:TGs):Prop :=
 ∀ (pins:List (Addr × Obj)) (s:Shared) (σ:St) (H:Hp) (vs:List V) (us:List Value) (Q:St -> Hp -> Prop),Inv X pins σ H s -> Vals vs us -> t vs σ H Q ->
  wpAny (model X.prog X.w) X.A (assignInOrder ((assignEach ts X.env).map (·.2)) us) (fun _ s'=>∃ σ' H',Inv X pins σ' H' s' /\ Q σ' H') X.xe s
noncomputable abbrev TSet:=V -> V -> V -> Hp -> (Hp -> Prop) -> Prop
section
variable {X:Cx} {pos:Pos}
noncomputable def km0 (i:Nat):TG:=fun v σ H Q=>Q (σ.set i (some v)) H
theorem jc8 {i:Nat} {x:Str} (hN:X.N.Nodup) (hi:X.N[i]? = some x) (hx:Loc X.env.scope x) (hf:X.fn x = true \/ X.env.scope.names.lookup x = some .local:=by first | exact .inl rfl | exact .inr rfl | assumption):PG X (.Name x pos) (km0 i):=by
 intro pins s σ H v u Q I r h
 exact wpAny_assign_Name (jg8 I hN hi hx r (fun s' I'=>⟨_,H,I',h⟩) hf)
noncomputable def gNil:TGs:=fun vs σ H Q=>vs = [] /\ Q σ H
noncomputable def qd1 (t:TG) (u:TGs):TGs:=fun vs σ H Q=>∃ v r,vs = v :: r /\ t v σ H fun σ' H'=>u r σ' H' Q
theorem ki3:PGs X [] gNil:=by
 intro pins s σ H vs us Q I r h
 obtain ⟨e,h⟩:=h
 subst e
 cases r
 exact assignInOrder_nil ⟨σ,H,I,h⟩
theorem jk2 {e:Expr} {es:List Expr} {t:TG} {u:TGs} (h1:PG X e t) (h2:PGs X es u)
  (hs:(assignEach (e :: es) X.env).map (·.2) = assign e X.env :: (assignEach es X.env).map (·.2):=by rfl):PGs X (e :: es) (qd1 t u):=by
 intro pins s σ H vs us Q I r h
 obtain ⟨v,vr,e1,h⟩:=h
 subst e1
 cases r with
 | cons r rr =>
  rw [hs]
  refine assignInOrder_cons (thn (h1 pins s σ H _ _ _ I r h) fun _ s1 zz29=>?_)
  refine x2_2 zz29 fun σ1 H1 I1 q1=>?_
  clear zz29
  exact h2 pins s1 σ1 H1 _ _ Q I1 rr q1
noncomputable def gTup (K:PySem.W.Frag) (n:Nat) (t:TGs):TG:=fun v σ H Q=>∃ a xs,v = .ref a /\ SqT K H a xs /\ xs.length = n /\ t xs σ H Q
theorem kx3 {es:List Expr} {k:Nat} {t:TGs} {n:Nat} (hc:X.calm = true) (h:PGs X es t)
  (hn:(assignEach es X.env).length = n:=by rfl) (hst:(assignEach es X.env).findIdx? (·.1) = none:=by rfl):PG X (.Tuple es k pos) (gTup X.K n t):=by
 intro pins s σ H v u Q I r hw
 obtain ⟨a,xs,e1,hq,hl,hw⟩:=hw
 subst e1
 cases r
 obtain ⟨its,rv,ht,hz⟩:=I.tuple hq
 refine assign_Tuple_tuple (I.ok.hd hc) ht (by simp [hn,<- hl,rv.length]) hst fun h' hx=>?_
 have I1:Inv X pins σ H { s with heap:=h' }:=I.kept (t':=s.toks) fun b o e=>hx b o (Nat.ne_of_lt (Heap.lt_size e)) e
 exact h pins _ σ H xs _ Q I1 (by simpa using rv) hw
noncomputable def gSub (to ti:TE) (t:TSet):TG:=fun v σ H Q=>to σ H fun o H1=>ti σ H1 fun i H2=>t o i v H2 fun H3=>Q σ H3
noncomputable def tAsg (te:TE) (g:TG):TS:=fun D σ H=>te σ H fun x H1=>g x σ H1 D.nx
theorem qo2 {tg e:Expr} {te:TE} {g:TG} (he:PE X e te) (hg:PG X tg g) (hs:swapsWithSole [tg] e pos.line X.env = pure false:=by rfl) (hw:swappedStores [tg] e X.env = pure none:=by rfl)
  (h1:(assignEach [tg] X.env).map (·.2) = [assign tg X.env]:=by rfl):PS X (.Assign [tg] e pos) (tAsg te g):=by
 intro pins s σ H D I h
 refine wpAny_Assign_stores (thn (he pins s σ H _ I h) fun v s1 zz33=>?_) hs hw
 refine x2_3 zz33 fun x H1 I1 r1 q1=>?_
 clear zz33
 rw [h1]
 exact thn (hg pins s1 σ H1 x v _ I1 r1 q1) fun _ s2 q=>q
theorem ql5 {i:Nat} {x:Str} {e:Expr} {te:TE} {pos':Pos} (hN:X.N.Nodup) (hi:X.N[i]? = some x) (hx:Loc X.env.scope x) (he:PE X e te) (hs:swapsWith e (some (.Name x pos')) pos.line X.env = pure false:=by rfl) (hf:X.fn x = true \/ X.env.scope.names.lookup x = some .local:=by first | exact .inl rfl | exact .inr rfl | assumption) :
  PS X (.Assign [.Name x pos'] e pos) (tAsg te (km0 i)):=by
 intro pins s σ H D I h
 refine wpAny_Assign_Name (thn (he pins s σ H _ I h) fun v s1 zz34=>?_) hs
 refine x2_3 zz34 fun y H1 I1 r1 q1=>?_
 clear zz34
 exact jg8 I1 hN hi hx r1 (fun s2 I2=>⟨_,H1,I2,q1⟩) hf
noncomputable def tPar (i j:Nat) (ta:TA):TS:=fun D σ H=>ta σ H fun vs H1=>∃ v w,vs = [v,w] /\ D.nx ((σ.set i (some v)).set j (some w)) H1
theorem qi1 {i j:Nat} {x y:Str} {a b:Expr} {ta:TA} {px py pt:Pos} {kt k2 pt2} (hc:X.calm = true) (hN:X.N.Nodup) (hi:X.N[i]? = some x) (hj:X.N[j]? = some y) (hij:i ≠ j)
  (hx:X.env.scope.names.lookup x = some .local) (hy:X.env.scope.names.lookup y = some .local) (ha:PA X [a,b] ta)
  (hw:swappedStores [.Tuple [.Name x px,.Name y py] kt pt] (.Tuple [a,b] k2 pt2) X.env = pure (some [x,y]))
  (hs:swapsWithSole [.Tuple [.Name x px,.Name y py] kt pt] (.Tuple [a,b] k2 pt2) pos.line X.env = pure false:=by rfl) :
  PS X (.Assign [.Tuple [.Name x px,.Name y py] kt pt] (.Tuple [a,b] k2 pt2) pos) (tPar i j ta):=by
 intro pins s σ H D I h
 rw [exec_Assign_arm]
 refine wpAny_bind (wpAny_standAt ?_)
 rw [hs]
 refine wpAny_bind (wpAny_pure ?_)
 rw [if_neg (by decide)]
 refine wpAny_bind (Tuple_ (thn (ha _ pins s σ H _ I h) fun us s1 zz35=>?_))
 refine x2_3 zz35 fun vs H1 I1 r1 q1=>?_
 clear zz35
 obtain ⟨v,w,e1,q1⟩:=q1
 subst e1
 obtain ⟨u1,u2,rfl,rv,rw'⟩ : ∃ u1 u2,us = [u1,u2] /\ RelV v u1 /\ RelV w u2:=by
  cases r1 with
  | cons p q =>
   cases q with
   | cons p' q' =>
    cases q'
    exact ⟨_,_,rfl,p,p'⟩
 refine wpAny_newObj_type ?_ (by show 2 <= sizeLine; decide)
 have I2:Inv X pins σ H1 { s1 with heap:=s1.heap.push { cls:=.type "tuple",data:=.seq [u1,u2].toArray } }:=I1.kept (t':=s1.toks) fun b o e=>Heap.get?_push_of_some _ e
 rw [hw]
 refine wpAny_bind (wpAny_pure ?_)
 show wpAny (model X.prog X.w) X.A (do rule "assign.swapped-stores"; let items <- unpackItems (.ref s1.heap.objs.size) 2 none; assignInOrder [fun v=>bindName X.env y v,fun v=>bindName X.env x v] items.reverse; pure Flow.next) _ _ _
 refine wpAny_bind (wpAny_rule (wpAny_bind (unpackItems_tuple (items:=#[u1,u2]) (I.ok.hd hc) (IsTup.new s1.heap _) fun h' hx'=>?_)))
 have I3:=I2.kept (h':=h') (t':=s1.toks) fun b o e=>hx' b o (Nat.ne_of_lt (Heap.lt_size e)) e
 show wpAny _ _ (assignInOrder [fun v=>bindName X.env y v,fun v=>bindName X.env x v] [u2,u1] >>= fun _=>pure Flow.next) _ _ _
 refine wpAny_bind (assignInOrder_cons (wpAny_bindName (jg8 I3 hN hj (.inl hy) rw' (fun s2 I4=>?_) (.inr hy))))
 refine assignInOrder_cons (wpAny_bindName (jg8 I4 hN hi (.inl hx) rv (fun s3 I5=>assignInOrder_nil (wpAny_pure ?_)) (.inr hx)))
 rw [List.set_comm _ _ (Ne.symm hij)] at I5
 exact ⟨_,H1,I5,q1⟩
end
section
variable {X:Cx} {pos:Pos}
end
structure It where
 go:Nat -> Hp -> Prop
 yld:Nat -> Hp -> V -> Hp -> Prop
 stop:Nat -> Hp -> Prop
noncomputable def FpOk (X:Cx) (pins:List (Addr × Obj)) (H:Hp) (b:Addr):Prop :=
 H b = none /\ b ≠ X.env.locals /\ b ∉ X.fs /\ (b ∈ X.ex \/ X.s₀.heap.objs.size <= b) /\ (∀ x c,X.env.cells.lookup x = some c -> c ≠ b) /\ ∀ p ∈ X.pn ++ pins,p.1 ≠ b
theorem Inv.fpOk {X:Cx} {pins:List (Addr × Obj)} {σ:St} {H H':Hp} {s:Shared} {b:Addr} (I:Inv X pins σ H s) (hb:s.heap.objs.size <= b) (hn:H' b = none):FpOk X pins H' b:=by
 refine ⟨hn,Nat.ne_of_gt (Nat.lt_of_lt_of_le I.lt hb),I.nofs hb,.inr (Nat.le_trans I.sz hb),fun x c e z=>?_,fun p hp z=>?_⟩
 ·obtain ⟨v,q⟩:=I.cell x c e
  exact absurd (Nat.lt_of_lt_of_le q.lt (by rw [z]; exact hb)) (Nat.lt_irrefl _)
 ·exact absurd (Nat.lt_of_lt_of_le (Heap.lt_size (I.pin p hp).1) (by rw [z]; exact hb)) (Nat.lt_irrefl _)
structure Turn (P:Program) (w:World) (K:PySem.W.Frag) (tg:Expr) (J:It) (fp:List Addr) (it:Addr) (tn:Nat -> Heap -> Prop):Prop where
 mem:it ∈ fp
 obj:∀ i h,tn i h -> ∀ b ∈ fp,∃ o,h.get? b = some o /\ ∀ v,o.data ≠ .cell v
 keep:∀ i h h',tn i h -> (∀ b ∈ fp,∀ o,h.get? b = some o -> h'.get? b = some o) -> tn i h'
 item:∀ (X:Cx),X.prog = P -> X.w = w -> X.K = K -> X.calm = true -> ∀ (i:Nat) (pins:List (Addr × Obj)) (s:Shared) (σ:St) (H:Hp) (E:Value -> Shared -> Prop),Inv X pins σ H s -> (∀ b ∈ fp,FpOk X pins H b) -> tn i s.heap -> J.go i H ->
  wpAny (model P w) X.A (pyNext (.ref it)) (fun r s1=>∃ u,r = some u /\
   wpAny (model P w) X.A (letOwnedTupleGo tg (.ref it) u) (fun _ s2=>∃ x H',Inv X pins σ H' s2 /\ RelV x u /\ J.yld i H x H' /\ tn (i + 1) s2.heap /\ ∀ b ∈ fp,H' b = none) E s1) E s
 done:∀ (X:Cx),X.prog = P -> X.w = w -> X.K = K -> X.calm = true -> ∀ (i:Nat) (pins:List (Addr × Obj)) (s:Shared) (σ:St) (H:Hp) (E:Value -> Shared -> Prop),Inv X pins σ H s -> (∀ b ∈ fp,FpOk X pins H b) -> tn i s.heap -> J.stop i H ->
  wpAny (model P w) X.A (pyNext (.ref it)) (fun r s1=>r = none /\ Inv X pins σ H s1) E s
 self:∀ (A:Around) (i:Nat) (s:Shared) (Q:Value -> Shared -> Prop) (E:Value -> Shared -> Prop),tn i s.heap -> Q (.ref it) s -> wpAny (model P w) A (pyIter (.ref it)) Q E s
noncomputable abbrev TI:=St -> Hp -> (It -> Hp -> Prop) -> Prop
noncomputable def PIE (X:Cx) (pins:List (Addr × Obj)) (σ:St) (tg:Expr) (R:It -> Hp -> Prop) (itv:Value) (s2:Shared):Prop :=
 ∃ (it:Addr) (fp:List Addr) (tn:Nat -> Heap -> Prop) (J:It) (H':Hp),itv = .ref it /\ Inv X pins σ H' s2 /\ Turn X.prog X.w X.K tg J fp it tn /\ tn 0 s2.heap /\ (∀ b ∈ fp,FpOk X pins H' b) /\ R J H'
noncomputable def PI (X:Cx) (tg iter:Expr) (wi:TI):Prop :=
 ∀ (pins:List (Addr × Obj)) (s:Shared) (σ:St) (H:Hp) (R:It -> Hp -> Prop),Inv X pins σ H s -> wi σ H R ->
  wpAny (model X.prog X.w) X.A (eval iter X.env) (fun v s1=>wpAny (model X.prog X.w) X.A (pyIter v) (PIE X pins σ tg R) X.xe s1) X.xe s
theorem qn2 {M:Model} {A:Around} {E:Value -> Shared -> Prop} {s:Shared} {tg:Expr} {it:Addr} {u:Value} {o:Obj} {n:String} {vs:Array Value} {Q:Unit -> Shared -> Prop} (ho:s.heap.get? it = some o) (hc:o.cls = .type n) (hd:o.data = .fields vs)
    (hn:["enumerate","zip","dict_itemiterator","dict_reverseitemiterator","odict_iterator","itertools.zip_longest","itertools.pairwise"].contains n = false) (hQ:Q () s):wpAny M A (letOwnedTupleGo tg (.ref it) u) Q E s:=by
  unfold letOwnedTupleGo
  cases tg <;> first
    | exact wpAny_pure hQ
    | (cases u <;> first
        | exact wpAny_pure hQ
        | (refine wpAny_bind (wpAny_load ho ?_)
           rw [hc,hd]
           show wpAny M A (if (["enumerate","zip","dict_itemiterator","dict_reverseitemiterator","odict_iterator","itertools.zip_longest","itertools.pairwise"].contains n && vs[0]? == some (rawInt _)) = true then _ else _) Q E s
           rw [if_neg (by intro h; rw [hn,Bool.false_and] at h; cases h)]
           exact wpAny_pure hQ))
noncomputable def Itl (K:PySem.W.Frag) (a:Addr):It :=
 ⟨fun i H=>∃ xs x,SqL K H a xs /\ xs[i]? = some x,fun i H x H'=>H' = H /\ ∀ xs,SqL K H a xs -> xs[i]? = some x,fun i H=>∃ xs,SqL K H a xs /\ xs.length <= i⟩
noncomputable def Itr (lo:Int) (n:Nat):It:=⟨fun i _=>i < n,fun i H x H'=>H' = H /\ x = .int (lo + i),fun i _=>n <= i⟩
theorem kp3 {P:Program} {w:World} {K:PySem.W.Frag} {tg:Expr} (a it:Addr):Turn P w K tg (Itl K a) [it] it (fun i h=>h.IsListIter it a i) where
 mem:=by simp
 obj:=fun i h st b hb=>by
  have e:b = it:=by simpa using hb
  subst e
  refine x1_3 st fun o e c d=>?_
  clear st
  exact ⟨o,e,fun v z=>by rw [d] at z; cases z⟩
 keep:=fun i h h' st k=>st.at fun o e=>k it (by simp) o e
 item:=by
  intro X hP hw hK hc i pins s σ H E I hf st hg
  subst hP hw hK
  refine x2_2 hg fun xs x hq hx=>?_
  clear hg
  refine x1_3 (I.list hq) fun its rv p hz=>?_
  refine x1_2 (rv.get hx) fun u hu ru=>?_
  refine x0_6 (hf it (by simp)) fun f0 f1 f2 f3 f4 f5=>?_
  refine wpAny_pyNext_list_item st p.isList (x:=u) (by simpa using hu) fun h' st' sb=>?_
  have I1:Inv X pins σ H { s with heap:=h' }:=I.turned (t':=s.toks) (fun b o hb e=>(sb.2 b hb).trans e) f0 f1 f3 f4 f5
  refine x1_3 (id st') fun o e c d=>?_
  exact ⟨u,rfl,qn2 (s:={ s with heap:=h' }) e c d (by decide) ⟨x,H,I1,ru,⟨rfl,fun ys hy=>by rw [I.list_inj hy hq]; exact hx⟩,st',fun b hb=>(hf b hb).1⟩⟩
 done:=by
  intro X hP hw hK hc i pins s σ H E I hf st hg
  subst hP hw hK
  refine x1_2 hg fun xs hq hx=>?_
  clear hg
  refine x1_3 (I.list hq) fun its rv p hz=>?_
  refine x0_6 (hf it (by simp)) fun f0 f1 f2 f3 f4 f5=>?_
  have hl:=rv.length
  exact wpAny_pyNext_list_end (I.ok.hd hc) st p.isList (by simp; lia) fun h' eb=>⟨rfl,I.turned (t':=s.toks) (fun b o hb e=>eb b o hb e) f0 f1 f3 f4 f5⟩
 self:=fun _ _ _ _ _ st h=>wpAny_pyIter_listiter st h
theorem kf9 {P:Program} {w:World} {K:PySem.W.Frag} {tg:Expr} (it:Addr) (lo:Int) (n:Nat):Turn P w K tg (Itr lo n) [it] it (fun i h=>IsRangeIter h it (lo + (i:Nat) * 1) ((n:Int) - (i:Nat)) 1) where
 mem:=by simp
 obj:=fun i h st b hb=>by
  have e:b = it:=by simpa using hb
  subst e
  exact ⟨_,st,fun v z=>by
   have z':Data.fields _ = Data.cell v:=z
   cases z'⟩
 keep:=fun i h h' st k=>k it (by simp) _ st
 item:=by
  intro X hP hw hK hc i pins s σ H E I hf st hg
  subst hP hw hK
  refine x0_6 (hf it (by simp)) fun f0 f1 f2 f3 f4 f5=>?_
  have W:=Walks.range (prog:=X.prog) (w:=X.w) (I.ok.hd hc) it lo 1 n
  refine W.item i s _ _ hg st fun v h' tk hv st' kk=>?_
  obtain ⟨t,rfl⟩:=hv
  have I1:Inv X pins σ H { s with heap:=h',toks:=tk }:=I.turned (fun b o hb e=>kk b o (by simpa using hb) e) f0 f1 f3 f4 f5
  refine ⟨_,rfl,qn2 (s:={ s with heap:=h',toks:=tk }) (n:="range_iterator") st' rfl rfl (by decide) ⟨.int (lo + i),H,I1,⟨t,?_⟩,⟨rfl,rfl⟩,st',fun b hb=>(hf b hb).1⟩⟩
  rw [Int.mul_one]
 done:=by
  intro X hP hw hK hc i pins s σ H E I hf st hg
  subst hP hw hK
  refine x0_6 (hf it (by simp)) fun f0 f1 f2 f3 f4 f5=>?_
  exact wpAny_pyNext_range_end (I.ok.hd hc) st (by have:n <= i:=hg; lia) fun h' eb=>⟨rfl,I.turned (t':=s.toks) (fun b o hb e=>eb b o hb e) f0 f1 f3 f4 f5⟩
 self:=fun _ _ _ _ _ st h=>wpAny_pyIter_rangeiter st h
end L2
namespace L2
open PySem PySem.Spec PyProof.Rows
section
variable {X:Cx} {tg:Expr}
noncomputable def qp9 (K:PySem.W.Frag) (tl:TE):TI:=fun σ H R=>tl σ H fun x H1=>∃ a,x = .ref a /\ (∃ xs,SqL K H1 a xs) /\ R (Itl K a) H1
theorem qe8 {l:Expr} {tl:TE} (hl:PE X l tl):PI X tg l (qp9 X.K tl):=by
 intro pins s σ H R I h
 refine thn (hl pins s σ H _ I h) fun v s1 zz46=>?_
 refine x2_3 zz46 fun x H1 I1 r1 q1=>?_
 clear zz46
 refine x1_3 q1 fun a e zo2 q=>?_
 clear q1
 obtain ⟨xs,hq⟩:=zo2
 subst e
 cases r1
 refine x1_3 (I1.list hq) fun its rv p hz=>?_
 refine wpAny_pyIter_list p.isList ?_
 refine ⟨s1.heap.objs.size,[s1.heap.objs.size],_,_,H1,rfl,I1.kept (t':=s1.toks) fun b o e=>Heap.get?_push_of_some _ e,kp3 a _,⟨_,Heap.get?_push_size _ rfl,rfl,rfl⟩,fun b hb=>?_,q⟩
 have e:b = s1.heap.objs.size:=by simpa using hb
 subst e
 exact I1.fpOk (Nat.le_refl _) (I1.hok.fresh (Nat.le_refl _))
theorem kv6 {pins:List (Addr × Obj)} {σ:St} {H:Hp} {s:Shared} {R:It -> Hp -> Prop} {E:Value -> Shared -> Prop} {lo hi:Int} {t u v:Tok} {tk:Nat} (I:Inv X pins σ H s) (h1 : -(2 ^ 62) <= lo) (h2:lo < 2 ^ 62) (h3 : -(2 ^ 62) <= hi) (h4:hi < 2 ^ 62)
  (q:R (Itr lo (hi - lo).toNat) H):wpAny (model X.prog X.w) X.A (pyIter (.ref s.heap.objs.size)) (PIE X pins σ tg R) E { s with heap:=s.heap.push { cls:=.type "range",data:=.fields #[.int lo t,.int hi u,.int 1 v] },toks:=tk }:=by
 refine wpAny_pyIter_range (IsRange.new ..) (small_one h1 h2 h3 h4) ?_
 have I1:Inv X pins σ H { s with heap:=s.heap.push { cls:=.type "range",data:=.fields #[.int lo t,.int hi u,.int 1 v] },toks:=tk }:=I.kept fun b o e=>Heap.get?_push_of_some _ e
 refine ⟨(s.heap.push { cls:=.type "range",data:=.fields #[.int lo t,.int hi u,.int 1 v] }).objs.size,[(s.heap.push { cls:=.type "range",data:=.fields #[.int lo t,.int hi u,.int 1 v] }).objs.size],_,_,H,rfl,
  I1.kept (t':=tk) fun b o e=>Heap.get?_push_of_some _ e,kf9 _ lo (hi - lo).toNat,?_,fun b hb=>?_,q⟩
 ·have e1:lo + ((0:Nat):Int) * 1 = lo:=by simp
  have e2:(((hi - lo).toNat:Nat):Int) - ((0:Nat):Int) = Builtin.Range.rangeSize lo hi 1:=by rw [rangeSize_one]; split <;> lia
  show IsRangeIter _ _ (lo + ((0:Nat):Int) * 1) ((((hi - lo).toNat:Nat):Int) - ((0:Nat):Int)) 1
  rw [e1,e2]
  exact Heap.get?_push_size _ rfl
 ·have e:b = (s.heap.push { cls:=.type "range",data:=.fields #[.int lo t,.int hi u,.int 1 v] }).objs.size:=by simpa using hb
  subst e
  exact I1.fpOk (Nat.le_refl _) (I1.hok.fresh (Nat.le_refl _))
noncomputable def qp4 (ta:TA):TI:=fun σ H R=>ta σ H fun vs H1=>∃ j:Int,vs = [.int j] /\ -(2 ^ 62) <= j /\ j < 2 ^ 62 /\ R (Itr 0 j.toNat) H1
theorem kp4 {a:Expr} {ta:TA} {p pos:Pos} (hg:Gl X "range") (hm:X.mg "range" = none) (ha:PA X [a] ta) (hs:starEach [a] X.env = [(false,eval a X.env)]:=by rfl):PI X tg (.Call (.Name "range" p) [a] [] pos) (qp4 ta):=by
 intro pins s σ H R I h
 refine Call_ (kc9 I hg hm boot_range (PyProof.Rows.callWith_type1 (thn (ha pos pins s σ H _ I h) fun us s1 zz48=>?_) hs rfl))
 refine x2_3 zz48 fun vs H1 I1 r1 q1=>?_
 clear zz48
 obtain ⟨j,e,q1,q2,q⟩:=q1
 subst e
 cases r1 with
 | cons r rr =>
  cases rr
  obtain ⟨t,rfl⟩:=r
  exact call_range_1 (kv6 I1 (by lia) (by lia) q1 q2 (by simpa using q))
noncomputable def tFor (wi:TI) (g:TG) (tb:TS):TS:=fun D σ H=>wi σ H fun J H1=>∃ W:Nat -> Nat -> St -> Hp -> Prop,(∃ m,W 0 m σ H1) /\ ∀ i m σ H,W i m σ H ->
 (J.stop i H /\ D.nx σ H) \/ (J.go i H /\ ∃ N:St -> Hp -> Prop,(∀ σ' H',N σ' H' -> ∃ m',m' < m /\ W (i + 1) m' σ' H') /\ ∀ x H',J.yld i H x H' -> g x σ H' fun σ2 H2=>tb { D with nx:=N,ct:=N,bk:=D.nx } σ2 H2)
noncomputable def jv5 (fp:List Addr) (h:Heap):List (Addr × Obj):=fp.filterMap fun b=>(h.get? b).map fun o=>(b,o)
theorem je7 {fp:List Addr} {h:Heap} {b:Addr} {o:Obj} (hb:b ∈ fp) (e:h.get? b = some o):(b,o) ∈ jv5 fp h:=List.mem_filterMap.mpr ⟨b,hb,by rw [e]; rfl⟩
theorem kk7 {fp:List Addr} {h:Heap} {p:Addr × Obj} (hp:p ∈ jv5 fp h):p.1 ∈ fp /\ h.get? p.1 = some p.2:=by
 refine x1_2 (List.mem_filterMap.mp hp) fun b hb e=>?_
 cases q:h.get? b with
 | none=>rw [q] at e; cases e
 | some o =>
  rw [q] at e
  have e':(b,o) = p:=Option.some.inj e
  subst e'
  exact ⟨hb,q⟩
theorem Inv.pinned {pins:List (Addr × Obj)} {σ:St} {H:Hp} {s:Shared} {fp:List Addr} (I:Inv X pins σ H s) (hf:∀ b ∈ fp,FpOk X pins H b) (ho:∀ b ∈ fp,∃ o,s.heap.get? b = some o /\ ∀ v,o.data ≠ .cell v):Inv X (pins ++ jv5 fp s.heap) σ H s :=
 I.pins_of fun p hp=>(List.mem_append.mp hp).elim (fun z=>I.pin p (List.mem_append_right _ z)) fun z=>by
  obtain ⟨hb,e⟩:=kk7 z
  refine x0_4 (hf p.1 hb) fun f0 f1 f2 _=>?_
  refine x1_2 (ho p.1 hb) fun o e' d=>?_
  rw [e] at e'; cases e'
  exact ⟨e,f0,f1,f2,d⟩
theorem Inv.unpinned {pins pl:List (Addr × Obj)} {σ:St} {H:Hp} {s:Shared} (I:Inv X (pins ++ pl) σ H s):Inv X pins σ H s:=I.pins_of fun p hp=>I.pin p (List.mem_append_right _ (List.mem_append_left _ hp))
theorem kw2 {iter:Expr} {body:List Stmt} {wi:TI} {g:TG} {tb:TS} {pos:Pos} (hp:PassesOwn (model X.prog X.w) X.A X.env X.xe) (hc:X.calm = true) (hi:PI X tg iter wi) (hg:PG X tg g) (hb:PSs X body tb)
  (hs:∀ x,foldedSetIterable iter X.env x = pure x:=by intro _; rfl):PS X (.For tg iter body [] pos) (tFor wi g tb):=by
 intro pins s σ H D I h
 refine wpAny_For (thn (hi pins s σ H _ I h) fun v s1 h1=>thn h1 fun itv s2 h2=>?_) hs
 obtain ⟨it,fp,tn,J,H2,e,I2,T,st2,f2,W,⟨m0,w0⟩,turn⟩:=h2
 subst e
 have stat:∀ {H':Hp},(∀ b ∈ fp,H' b = none) -> ∀ b ∈ fp,FpOk X pins H' b:=fun hn b hb=>⟨hn b hb,(f2 b hb).2⟩
 refine codeAny_forLoop_any (fun n s'=>∃ i σ' H',Inv X pins σ' H' s' /\ tn i s'.heap /\ (∀ b ∈ fp,H' b = none) /\ W i n σ' H') ?_ m0 ⟨0,σ,H2,I2,st2,fun b hb=>(f2 b hb).1,w0⟩
 rintro n s3 ⟨i,σ3,H3,I3,st3,fr3,w3⟩
 rcases turn i n σ3 H3 w3 with ⟨stop,qn⟩ | ⟨go,N,hN,step⟩
 ·refine wpAny_passesOwn hp (thn (T.done X rfl rfl rfl hc i pins s3 σ3 H3 X.xe I3 (stat fr3) st3 stop) fun r s4 zz50=>?_)
  obtain ⟨hr,I4⟩:=zz50
  subst hr
  exact wpAny_execs_nil ⟨σ3,H3,I4,qn⟩
 ·refine wpAny_passesOwn hp (thn (T.item X rfl rfl rfl hc i pins s3 σ3 H3 X.xe I3 (stat fr3) st3 go) fun r s4 zz51=>?_)
  refine x1_2 zz51 fun u hr h4=>?_
  clear zz51
  subst hr
  refine wpAny_passesOwn hp (thn h4 fun _ s5 zz52=>?_)
  refine x2_5 zz52 fun x H5 I5 r5 y5 st5 fr5=>?_
  clear zz52
  have I5':=I5.pinned (stat fr5) (T.obj _ _ st5)
  refine wpAny_passesOwn hp (thn (hg _ s5 σ3 H5 x u _ I5' r5 (step x H5 y5)) fun _ s6 zz53=>?_)
  refine x2_2 zz53 fun σ6 H6 I6 q6=>?_
  clear zz53
  refine wpAny_passesOwn hp (thn (hb _ s6 σ6 H6 _ I6 q6) fun f s7 q7=>?_)
  have again:∀ {σ7:St} {H7:Hp},Inv X (pins ++ jv5 fp s5.heap) σ7 H7 s7 -> N σ7 H7 -> ∃ m,m < n /\ ∃ i σ' H',Inv X pins σ' H' s7 /\ tn i s7.heap /\ (∀ b ∈ fp,H' b = none) /\ W i m σ' H':=fun {σ7 H7} I7 n7=>by
   refine x1_2 (hN σ7 H7 n7) fun m' hm w7=>?_
   refine ⟨m',hm,i + 1,σ7,H7,I7.unpinned,T.keep _ _ _ st5 fun b hb o e=>(I7.pin (b,o) (List.mem_append_right _ (List.mem_append_right _ (je7 hb e)))).1,fun b hb=>?_,w7⟩
   refine x1_2 (T.obj _ _ st5 b hb) fun o e d=>?_
   exact (I7.pin (b,o) (List.mem_append_right _ (List.mem_append_right _ (je7 hb e)))).2.1
  cases f with
  | next=>obtain ⟨σ7,H7,I7,n7⟩:=q7; exact again I7 n7
  | cont=>obtain ⟨σ7,H7,I7,n7⟩:=q7; exact again I7 n7
  | brk=>obtain ⟨σ7,H7,I7,q7⟩:=q7; exact ⟨σ7,H7,I7.unpinned,q7⟩
  | ret v=>obtain ⟨x7,σ7,H7,I7,r7,q7⟩:=q7; exact ⟨x7,σ7,H7,I7.unpinned,r7,q7⟩
end
end L2
namespace L2
open PySem PySem.Spec PyProof.Rows
noncomputable abbrev R2:=V -> V -> Hp -> VK -> Prop
noncomputable def OpR (X:Cx) (f:Value -> Value -> Sem Value) (r:R2):Prop :=
 ∀ (pins:List (Addr × Obj)) (s:Shared) (σ:St) (H:Hp) (x y:V) (v u:Value) (Q:VK),Inv X pins σ H s -> RelV x v -> RelV y u -> r x y H Q ->
  wpAny (model X.prog X.w) X.A (f v u) (EP X pins σ Q) X.xe s
noncomputable def UnR (X:Cx) (f:Value -> Sem Value) (r:V -> Hp -> VK -> Prop):Prop :=
 ∀ (pins:List (Addr × Obj)) (s:Shared) (σ:St) (H:Hp) (x:V) (v:Value) (Q:VK),Inv X pins σ H s -> RelV x v -> r x H Q ->
  wpAny (model X.prog X.w) X.A (f v) (EP X pins σ Q) X.xe s
noncomputable def CallR (X:Cx) (f:Value) (r:List V -> Hp -> VK -> Prop):Prop :=
 ∀ (pins:List (Addr × Obj)) (s:Shared) (σ:St) (H:Hp) (xs:List V) (us:List Value) (Q:VK),Inv X pins σ H s -> Vals xs us -> r xs H Q ->
  wpAny (model X.prog X.w) X.A (call f us) (EP X pins σ Q) X.xe s
noncomputable def tOp (r:R2) (ta tb:TE):TE:=fun σ H Q=>ta σ H fun x H1=>tb σ H1 fun y H2=>r x y H2 Q
noncomputable def tUn (r:V -> Hp -> VK -> Prop) (ta:TE):TE:=fun σ H Q=>ta σ H fun x H1=>r x H1 Q
noncomputable def rI (C:Int -> Int -> Prop) (g:Int -> Int -> V):R2:=fun x y H Q=>∃ i j,x = .int i /\ y = .int j /\ C i j /\ Q (g i j) H
noncomputable def rI0 (g:Int -> Int -> V):R2:=fun x y H Q=>∃ i j,x = .int i /\ y = .int j /\ Q (g i j) H
noncomputable def rU (g:Int -> V):V -> Hp -> VK -> Prop:=fun x H Q=>∃ i,x = .int i /\ Q (g i) H
section
variable {X:Cx} {a b c:Expr} {ta tb tc:TE} {pos:Pos}
theorem binT (ha:PE X a ta) (hb:PE X b tb) {pins:List (Addr × Obj)} {s:Shared} {σ:St} {H:Hp} {R:V -> V -> Hp -> Prop} (I:Inv X pins σ H s)
  (h:ta σ H fun x H1=>tb σ H1 fun y H2=>R x y H2) {Q:Value -> Shared -> Prop} {f:Value -> Value -> Sem Value}
  (hf:∀ v u s2 x y H2,Inv X pins σ H2 s2 -> RelV x v -> RelV y u -> R x y H2 -> wpAny (model X.prog X.w) X.A (f v u) Q X.xe s2) :
  wpAny (model X.prog X.w) X.A (eval a X.env) (fun v s₁=>wpAny (model X.prog X.w) X.A (eval b X.env) (fun u s₂=>wpAny (model X.prog X.w) X.A (f v u) Q X.xe s₂) X.xe s₁) X.xe s:=by
 refine thn (ha pins s σ H _ I h) fun v s1 zz55=>?_
 refine x2_3 zz55 fun x H1 I1 r1 q1=>?_
 clear zz55
 refine thn (hb pins s1 σ H1 _ I1 q1) fun u s2 zz56=>?_
 refine x2_3 zz56 fun y H2 I2 r2 q2=>?_
 clear zz56
 exact hf v u s2 x y H2 I2 r1 r2 q2
theorem qo5 {op:Operator} {r:R2} (ho:OpR X (binaryOp op) r) (ha:PE X a ta) (hb:PE X b tb):PE X (.BinOp a op b pos) (tOp r ta tb):=by
 intro pins s σ H Q I h
 exact wpAny_BinOp (binT ha hb I h fun v u s2 x y H2 I2 rx ry q=>ho pins s2 σ H2 x y v u Q I2 rx ry q)
theorem qo9 {op:UnaryOp} {r:V -> Hp -> VK -> Prop} (ho:UnR X (unaryOp op) r) (ha:PE X a ta):PE X (.UnaryOp op a pos) (tUn r ta):=by
 intro pins s σ H Q I h
 exact UnaryOp_ (thn (ha pins s σ H _ I h) fun v s1 zz57=>zz57.elim fun x zz58=>zz58.elim fun H1 zz59=>zz59.elim fun I1 zz60=>zz60.elim fun r1 q1=>ho pins s1 σ H1 x v Q I1 r1 q1)
theorem opI {f:Value -> Value -> Sem Value} {C:Int -> Int -> Prop} {g:Int -> Int -> Int}
  (rule:∀ (i j:Int) (t u:Tok) (s:Shared) (Q:Value -> Shared -> Prop) (E:Value -> Shared -> Prop),C i j -> Q (.int (g i j) s.toks) { s with toks:=s.toks + 1 } -> wpAny (model X.prog X.w) X.A (f (.int i t) (.int j u)) Q E s) :
  OpR X f (rI C fun i j=>.int (g i j)):=by
 intro pins s σ H x y v u Q I rx ry h
 refine x2_4 h fun i j zo2 zo3 hc q=>?_
 clear h
 obtain rfl:=zo2
 obtain rfl:=zo3
 obtain ⟨t,rfl⟩:=rx
 obtain ⟨t',rfl⟩:=ry
 exact rule i j t t' s _ _ hc ⟨.int (g i j),H,I.tok _,⟨_,rfl⟩,q⟩
theorem opI0 {f:Value -> Value -> Sem Value} {g:Int -> Int -> Int}
  (rule:∀ (i j:Int) (t u:Tok) (s:Shared) (Q:Value -> Shared -> Prop) (E:Value -> Shared -> Prop),Q (.int (g i j) s.toks) { s with toks:=s.toks + 1 } -> wpAny (model X.prog X.w) X.A (f (.int i t) (.int j u)) Q E s) :
  OpR X f (rI0 fun i j=>.int (g i j)):=by
 intro pins s σ H x y v u Q I rx ry h
 refine x2_3 h fun i j zo2 zo3 q=>?_
 clear h
 obtain rfl:=zo2
 obtain rfl:=zo3
 obtain ⟨t,rfl⟩:=rx
 obtain ⟨t',rfl⟩:=ry
 exact rule i j t t' s _ _ ⟨.int (g i j),H,I.tok _,⟨_,rfl⟩,q⟩
theorem opB0 {f:Value -> Value -> Sem Value} {g:Int -> Int -> Bool}
  (rule:∀ (i j:Int) (t u:Tok) (s:Shared) (Q:Value -> Shared -> Prop) (E:Value -> Shared -> Prop),Q (.bool (g i j)) s -> wpAny (model X.prog X.w) X.A (f (.int i t) (.int j u)) Q E s) :
  OpR X f (rI0 fun i j=>.bl (g i j)):=by
 intro pins s σ H x y v u Q I rx ry h
 refine x2_3 h fun i j zo2 zo3 q=>?_
 clear h
 obtain rfl:=zo2
 obtain rfl:=zo3
 obtain ⟨t,rfl⟩:=rx
 obtain ⟨t',rfl⟩:=ry
 exact rule i j t t' s _ _ ⟨.bl (g i j),H,I,rfl,q⟩
noncomputable def CDiv (i j:Int):Prop:=0 < j /\ j < 1073741824
noncomputable def CPow (i j:Int):Prop:=0 <= j /\ j <= 1000000 /\ i.natAbs < 2 ^ 64
noncomputable def CMul (i j:Int):Prop:=(-(2 ^ 64) < i /\ i < 2 ^ 64) \/ (-(2 ^ 64) < j /\ j < 2 ^ 64)
theorem CMul.ok {i j:Int} (h:CMul i j):IntMulOk i j:=by
 rcases h with ⟨h1,h2⟩ | ⟨h1,h2⟩
 ·exact .of_left (intBits_le_64 h1 h2)
 ·exact .of_right (intBits_le_64 h1 h2)
theorem jd7:OpR X (binaryOp .Add) (rI0 fun i j=>.int (i + j)):=opI0 fun _ _ _ _ _ _ _ q=>add_int q
theorem kx1:OpR X (binaryOp .Sub) (rI0 fun i j=>.int (i - j)):=opI0 fun _ _ _ _ _ _ _ q=>sub_int q
theorem ju9:OpR X (binaryOp .Mult) (rI CMul fun i j=>.int (i * j)):=opI fun _ _ _ _ _ _ _ hc q=>mul_int q hc.ok
theorem jg2:OpR X (binaryOp .FloorDiv) (rI CDiv fun i j=>.int (i / j)):=opI fun i j _ _ _ _ _ hc q=>by
 have h1:(0:Int) < j:=hc.1
 have h2:j < 1073741824:=hc.2
 exact floordiv_int (by lia) (by rw [Int.fdiv_eq_ediv_of_nonneg i (by lia)]; exact q) (.inl (PyProof.noPylong_small (by lia)))
theorem ja5:OpR X (binaryOp .Mod) (rI (fun _ j=>0 < j) fun i j=>.int (i % j)):=opI fun i j _ _ _ _ _ hc q=>by
 have h1:(0:Int) < j:=hc
 exact mod_int' (by lia) (by rw [Int.fmod_eq_emod_of_nonneg i (by lia)]; exact q)
theorem ql4:OpR X (binaryOp .Pow) (rI CPow fun i j=>.int (i ^ j.toNat)):=opI fun _ _ _ _ _ _ _ hc q=>pow_int_small hc.1 hc.2.1 hc.2.2 q
theorem unI {f:Value -> Sem Value} {g:Int -> Int}
  (rule:∀ (i:Int) (t:Tok) (s:Shared) (Q:Value -> Shared -> Prop) (E:Value -> Shared -> Prop),Q (.int (g i) s.toks) { s with toks:=s.toks + 1 } -> wpAny (model X.prog X.w) X.A (f (.int i t)) Q E s) :
  UnR X f (rU fun i=>.int (g i)):=by
 intro pins s σ H x v Q I rx h
 refine x1_2 h fun i zo1 q=>?_
 clear h
 obtain rfl:=zo1
 obtain ⟨t,rfl⟩:=rx
 exact rule i t s _ _ ⟨.int (g i),H,I.tok _,⟨_,rfl⟩,q⟩
theorem ql0:UnR X (unaryOp .USub) (rU fun i=>.int (-i)):=unI fun _ _ _ _ _ q=>neg_int q
end
section
variable {X:Cx} {a b c:Expr} {ta tb tc:TE} {pos:Pos}
theorem qj1:OpR X (compareOp .Lt) (rI0 fun i j=>.bl (decide (i < j))):=opB0 fun _ _ _ _ _ _ _ q=>lt_int q
theorem jv8:OpR X (compareOp .LtE) (rI0 fun i j=>.bl (decide (i <= j))):=opB0 fun _ _ _ _ _ _ _ q=>le_int q
theorem kr2:OpR X (compareOp .Gt) (rI0 fun i j=>.bl (decide (j < i))):=opB0 fun _ _ _ _ _ _ _ q=>gt_int q
theorem OpR.or {f:Value -> Value -> Sem Value} {r r':R2} (h:OpR X f r) (h':OpR X f r'):OpR X f (fun x y H Q=>r x y H Q \/ r' x y H Q):=by
 intro pins s σ H x y v u Q I rx ry q
 rcases q with q | q
 ·exact h pins s σ H x y v u Q I rx ry q
 ·exact h' pins s σ H x y v u Q I rx ry q
theorem y7 (b:Expr) {op:CmpOp} (h:op ≠ .In:=by decide) (h2:op ≠ .NotIn:=by decide):behindInMarks op b = false:=by
 have e1:(op == CmpOp.In) = false:=by cases op <;> first | rfl | exact absurd rfl h
 have e2:(op == CmpOp.NotIn) = false:=by cases op <;> first | rfl | exact absurd rfl h2
 cases b <;> simp [behindInMarks,e1,e2]
theorem qc1 {op:CmpOp} {r:R2} (ho:OpR X (compareOp op) r) (ha:PE X a ta) (hb:PE X b tb) (hm:behindInMarks op b = false):PE X (.Compare a [op] [b] pos) (tOp r ta tb):=by
 intro pins s σ H Q I h
 exact wpAny_Compare1 (binT ha hb I h fun v u s2 x y H2 I2 rx ry q=>ho pins s2 σ H2 x y v u Q I2 rx ry q) hm
noncomputable def ql6 (t:TE):TT:=fun σ H Q=>t σ H fun x H'=>∃ k,x = .bl k /\ Q k H'
theorem qe3 {op:CmpOp} {r:R2} (ho:OpR X (compareOp op) r) (ha:PE X a ta) (hb:PE X b tb) (hm:behindInMarks op b = false):PT X (.Compare a [op] [b] pos) (ql6 (tOp r ta tb)):=by
 intro pins s σ H Q I h
 refine wpAny_isTrue_Compare1 (thn (ha pins s σ H _ I h) fun v s1 zz61=>zz61.elim fun x zz62=>zz62.elim fun H1 zz63=>zz63.elim fun I1 zz64=>zz64.elim fun r1 q1=>thn (hb pins s1 σ H1 _ I1 q1) fun u s2 zz65=>zz65.elim fun y zz66=>zz66.elim fun H2 zz67=>zz67.elim fun I2 zz68=>zz68.elim fun r2 q2 =>
  thn (ho pins s2 σ H2 x y v u _ I2 r1 r2 q2) fun c s3 zz69=>zz69.elim fun z zz70=>zz70.elim fun H3 zz71=>zz71.elim fun I3 zz72=>zz72.elim fun r3 zz73=>zz73.elim fun k zz74=>zz74.elim fun e q3=>?_) hm
 subst e
 cases r3
 exact wpAny_truthy_bool ⟨H3,I3,q3⟩
noncomputable def kj4 (r r':R2) (ta tb tc:TE):TE:=fun σ H Q=>ta σ H fun x H1=>tb σ H1 fun y H2=>r x y H2 fun z H3=>∃ k,z = .bl k /\
 (if k = true then tc σ H3 fun w' H4=>r' y w' H4 Q else Q (.bl false) H3)
theorem kq5 {op op':CmpOp} {r r':R2} (ho:OpR X (compareOp op) r) (ho':OpR X (compareOp op') r') (ha:PE X a ta) (hb:PE X b tb) (hc:PE X c tc)
  (hm:lastMarks [op,op'] [b,c] = false:=by with_unfolding_all rfl):PE X (.Compare a [op,op'] [b,c] pos) (kj4 r r' ta tb tc):=by
 intro pins s σ H Q I h
 refine Compare_chain (thn (ha pins s σ H _ I h) fun v s1 zz75=>zz75.elim fun x zz76=>zz76.elim fun H1 zz77=>zz77.elim fun I1 zz78=>zz78.elim fun r1 q1=>chain_link (thn (hb pins s1 σ H1 _ I1 q1) fun u s2 zz79=>zz79.elim fun y zz80=>zz80.elim fun H2 zz81=>zz81.elim fun I2 zz82=>zz82.elim fun r2 q2 =>
  thn (ho pins s2 σ H2 x y v u _ I2 r1 r2 q2) fun d s3 zz83=>zz83.elim fun z zz84=>zz84.elim fun H3 zz85=>zz85.elim fun I3 zz86=>zz86.elim fun r3 zz87=>zz87.elim fun k zz88=>zz88.elim fun e q3=>?_)) hm
 subst e
 cases r3
 refine wpAny_truthy_bool ?_
 cases k with
 | false=>exact ite_ff ⟨.bl false,H3,I3,rfl,q3⟩
 | true=>exact ite_tt (chain_last (thn (hc pins s3 σ H3 _ I3 q3) fun w' s4 zz89=>zz89.elim fun z' zz90=>zz90.elim fun H4 zz91=>zz91.elim fun I4 zz92=>zz92.elim fun r4 q4=>ho' pins s4 σ H4 y z' u w' Q I4 r2 r4 q4))
theorem kr0 {op op':CmpOp} {r r':R2} (ho:OpR X (compareOp op) r) (ho':OpR X (compareOp op') r') (ha:PE X a ta) (hb:PE X b tb) (hc:PE X c tc)
  (hm:lastMarks [op,op'] [b,c] = false:=by with_unfolding_all rfl):PT X (.Compare a [op,op'] [b,c] pos) (ql6 (kj4 r r' ta tb tc)):=by
 intro pins s σ H Q I h
 refine isTrue_chain (thn (ha pins s σ H _ I h) fun v s1 zz93=>zz93.elim fun x zz94=>zz94.elim fun H1 zz95=>zz95.elim fun I1 zz96=>zz96.elim fun r1 q1=>test_link (thn (hb pins s1 σ H1 _ I1 q1) fun u s2 zz97=>zz97.elim fun y zz98=>zz98.elim fun H2 zz99=>zz99.elim fun I2 zz100=>zz100.elim fun r2 q2 =>
  thn (ho pins s2 σ H2 x y v u _ I2 r1 r2 q2) fun d s3 zz101=>zz101.elim fun z zz102=>zz102.elim fun H3 zz103=>zz103.elim fun I3 zz104=>zz104.elim fun r3 zz105=>zz105.elim fun k zz106=>zz106.elim fun e q3=>?_)) hm
 subst e
 cases r3
 refine wpAny_truthy_bool ?_
 cases k with
 | false =>
  refine x1_2 q3 fun k' e' q'=>?_
  clear q3
  cases e'
  exact ite_ff ⟨H3,I3,q'⟩
 | true =>
  refine ite_tt (test_last (thn (hc pins s3 σ H3 _ I3 q3) fun w' s4 zz107=>zz107.elim fun z' zz108=>zz108.elim fun H4 zz109=>zz109.elim fun I4 zz110=>zz110.elim fun r4 q4=>thn (ho' pins s4 σ H4 y z' u w' _ I4 r2 r4 q4) fun d' s5 zz111=>?_))
  obtain ⟨z2,H5,I5,r5,k2,e2,q5⟩:=zz111
  subst e2
  cases r5
  exact wpAny_truthy_bool ⟨H5,I5,q5⟩
theorem kh7:(sizeLine:Nat) < 2 ^ 63:=by rw [sizeLine_eq]; decide
theorem kh6 {x:V} {us:List Value} (r:Vals [x] us):∃ u,us = [u] /\ RelV x u:=by
 cases r with
 | cons r1 r2=>cases r2; exact ⟨_,rfl,r1⟩
theorem qq2 {x y:V} {us:List Value} (r:Vals [x,y] us):∃ u w',us = [u,w'] /\ RelV x u /\ RelV y w':=by
 cases r with
 | cons r1 r2 =>
  cases r2 with
  | cons r3 r4=>cases r4; exact ⟨_,_,rfl,r1,r3⟩
end
end L2
namespace L2
open PySem PySem.Spec PyProof.Rows
structure ObjM (h:Heap) (x dx C:Addr) (mA:Str -> Option Value):Prop where
 obj:h.get? x = some (PySem.W.instObj C dx)
 ns:h.Ns1 dx mA
 ne:dx ≠ x
theorem kl8 {h:Heap} {dx:Addr} {mA:Str -> Option Value} (n:h.Ns1 dx mA):∃ od,h.get? dx = some od /\ ∀ name,PySem.W.lookIn name od = some (mA name):=by
 refine x3_5 n fun o es ep ho hd hk _ hm=>?_
 clear n
 refine ⟨o,ho,fun name=>?_⟩
 have e:=hm name
 unfold nsFind findBy at e
 rw [<- Array.find?_toList] at e
 unfold PySem.W.lookIn
 rw [hd]
 dsimp only
 split
 ·rename_i y q
  rw [q] at e
  exact congrArg some e
 ·rename_i q
  rw [q] at e
  have a:es.toList.any (·.refKey) = false:=by
   rw [List.any_eq_false]
   intro y hy
   refine x2_1 (hk y (Array.mem_toList_iff.mp hy)) fun z t hkey=>?_
   simp [DictEntry.refKey,hkey]
  have a':¬ es.toList.any (·.refKey) = true:=by rw [a]; exact Bool.false_ne_true
  rw [if_neg a']
  exact congrArg some e
theorem ObjM.look {h:Heap} {x dx C:Addr} {mA:Str -> Option Value} (I:ObjM h x dx C mA):∃ od,PySem.W.InstAt h x (PySem.W.instObj C dx) C (some od) /\ ∀ name,PySem.W.lookIn name od = some (mA name) :=
 let ⟨od,ho,hl⟩:=kl8 I.ns
 ⟨od,⟨I.obj,rfl,rfl,ho⟩,hl⟩
section
variable {prog:Program} {w:World} {A:Around} {E:Value -> Shared -> Prop} {s:Shared} {K:PySem.W.Frag} {x dx C f:Addr} {mA:Str -> Option Value} {name:Str} {v:Value}
theorem qb0 {expr:Bool} {Q:Value -> Shared -> Prop} (X:K.In s.heap) (I:ObjM s.heap x dx C mA) (hg:PySem.W.plainGet K C name = true) (hh:PySem.W.hasDictIn K C = true)
  (ha:PySem.W.findIn K (.ref C) name = some none) (hv:mA name = some v) (hv':PySem.W.handedIn v = true) (h:Q v { s with toks:=s.toks + 1 }) :
  wpAny (model prog w) A (getAttr (.ref x) name expr) Q E s:=by
 refine x1_2 I.look fun od J hl=>?_
 exact PySem.W.get_value X J (PySem.W.plainGet_of hg).1 (PySem.W.findObj_own hh ha rfl (by rw [hl,hv])) hv' h
theorem qa1 {ns:List Str} {Q:Unit -> Shared -> Prop} (X:K.In s.heap) (I:ObjM s.heap x dx C mA)
  (hs:PySem.W.findIn K (.ref C) "__setattr__" = some (some (.builtin "object.__setattr__"))) (hp:PySem.W.plainOver K C = true) (ht:PySem.W.takerIn K C name = some none) (hh:PySem.W.hasDictIn K C = true)
  (hw:PySem.Within mA ns) (hsz:ns.length <= sizeLine)
  (h:∀ h',ObjM h' x dx C (fun y=>if y = name then some v else mA y) -> Heap.SameBut dx s.heap h' -> Q () { s with heap:=h',toks:=s.toks + 2 }) :
  wpAny (model prog w) A (setAttr (.ref x) name v) Q E s:=by
 refine x1_2 I.look fun od J hl=>?_
 refine PySem.W.set_plain X J hs (PySem.W.osa_open (s:={ s with toks:=s.toks + 1 }) (r:=none) X J hp ht fun b=>?_)
 refine x1_2 (PySem.W.any_some hh) fun cd hc hd'=>?_
 have hx:s.heap.get? x = some ⟨.ref C,some dx,.plain,#[]⟩:=I.obj
 refine wpAny_bind (wpAny_pure (wpAny_bind (wpAny_bind (wpAny_loadPart hx (wpAny_bind (PySem.W.Looks.here (s:={ s with toks:=s.toks + 1 }) (PySem.W.looks_clsIn X hc) ?_))))))
 rw [hd']
 refine wpAny_pure (a:=some dx) (wpAny_bind (wpAny_pure (wpAny_bind ?_)))
 refine wpAny_nsSet1 (s:={ s with toks:=s.toks + 1 }) I.ns fun h' hn2 hs2=>?_
 refine x3_3 (hn2.count (PySem.Within.cons name v hw)) fun oD esD epD hoD hdD hcD=>?_
 refine wpAny_bind (wpAny_lookBehind hoD (by rw [hdD]; exact pastItsLine_dict (Nat.le_trans hcD (by rw [List.length_cons]; lia))) ?_)
 exact wpAny_pure (h _ ⟨(hs2.2 _ (Ne.symm I.ne)).trans I.obj,hn2,I.ne⟩ hs2)
theorem kv2 {R:Result -> Shared -> Prop} {vs:List Value} {kw:List (Str × Value)} (X:K.In s.heap) (hm:PySem.W.makesIn K C = true)
  (hi:PySem.W.findIn K (.ref C) "__init__" = some (some (.ref f))) (hf:PySem.W.typeIn K (.ref f) = some (.type "function"))
  (h:codeAny (model prog w) (A.under (.builtin "type.__call__" ⟨.ref C :: vs,kw⟩)) (.call (.ref f) ⟨.ref (s.heap.objs.size + 1) :: vs,kw⟩) (PySem.W.InitBack (s.heap.objs.size + 1) R)
   { s with heap:=(s.heap.push PySem.W.emptyDict).push (PySem.W.instObj C s.heap.objs.size) }) :
  codeAny (model prog w) A (.call (.ref C) ⟨vs,kw⟩) R s:=by
 obtain ⟨hh,g,d,t,os⟩:=s
 exact PySem.W.make_core (PySem.W.makes_of X hm) (PySem.W.looks_findIn X hi) (fun self=>PySem.W.bind_fn X self hf) (.inl rfl) h
end
noncomputable def putF (f:Str) (v:V):List (Str × V) -> List (Str × V)
 | []=>[(f,v)]
 | (g,x) :: r=>if g = f then (g,v) :: r else (g,x) :: putF f v r
theorem jn0 (f g:Str) (v:V):∀ fs:List (Str × V),(putF f v fs).lookup g = if g = f then some v else fs.lookup g
 | []=>by
  show List.lookup g [(f,v)] = _
  by_cases h:g = f
  ·have hb:(g == f) = true:=beq_iff_eq.mpr h
   simp only [List.lookup,hb,if_pos h]
  ·have hb:(g == f) = false:=beq_eq_false_iff_ne.mpr h
   simp only [List.lookup,hb,if_neg h]
 | (k,x) :: r=>by
  have ih:=jn0 f g v r
  rw [show putF f v ((k,x) :: r) = (if k = f then (k,v) :: r else (k,x) :: putF f v r) from rfl]
  by_cases hk:k = f
  ·rw [if_pos hk]
   by_cases h:g = k
   ·have hb:(g == k) = true:=beq_iff_eq.mpr h
    simp only [List.lookup,hb,if_pos (h.trans hk)]
   ·have hb:(g == k) = false:=beq_eq_false_iff_ne.mpr h
    simp only [List.lookup,hb,if_neg (fun e:g = f=>h (e.trans hk.symm))]
  ·rw [if_neg hk]
   by_cases h:g = k
   ·have hb:(g == k) = true:=beq_iff_eq.mpr h
    simp only [List.lookup,hb,if_neg (fun e:g = f=>hk (h.symm.trans e))]
   ·have hb:(g == k) = false:=beq_eq_false_iff_ne.mpr h
    simp only [List.lookup,hb]
    exact ih
theorem jk9 (f:Str) (v:V):∀ fs:List (Str × V),f ∈ (putF f v fs).map (·.1) /\ ∀ g,g ∈ fs.map (·.1) -> g ∈ (putF f v fs).map (·.1)
 | []=>⟨by simp [putF],fun g h=>by simp at h⟩
 | (k,x) :: r=>by
  obtain ⟨i1,i2⟩:=jk9 f v r
  rw [show putF f v ((k,x) :: r) = (if k = f then (k,v) :: r else (k,x) :: putF f v r) from rfl]
  by_cases hk:k = f
  ·rw [if_pos hk]
   subst hk
   exact ⟨by simp,fun g h=>by simpa using h⟩
  ·rw [if_neg hk]
   refine ⟨?_,fun g h=>?_⟩
   ·rw [List.map_cons]
    exact List.mem_cons_of_mem _ i1
   ·rw [List.map_cons] at h ⊢
    rcases List.mem_cons.mp h with e | e
    ·exact List.mem_cons.mpr (.inl e)
    ·exact List.mem_cons_of_mem _ (i2 g e)
theorem jm6 (f:Str) (v:V):∀ fs:List (Str × V),(putF f v fs).length <= fs.length + 1
 | []=>by simp [putF]
 | (k,x) :: r=>by
  have ih:=jm6 f v r
  rw [show putF f v ((k,x) :: r) = (if k = f then (k,v) :: r else (k,x) :: putF f v r) from rfl]
  by_cases hk:k = f
  ·rw [if_pos hk,List.length_cons,List.length_cons]; lia
  ·rw [if_neg hk,List.length_cons,List.length_cons]; lia
theorem RelO.some_of {v:V} {o:Option Value} (r:RelO (some v) o):∃ u,o = some u /\ RelV v u:=by
 cases o with
 | none=>exact (show False from r).elim
 | some u=>exact ⟨u,rfl,r⟩
theorem kp7 {v:V} {u:Value} (r:RelV v u):PySem.W.handedIn u = true:=by
 cases v with
 | non=>cases (show u = Value.none from r); rfl
 | bl b=>cases (show u = Value.bool b from r); rfl
 | int i=>obtain ⟨t,e⟩:=(show ∃ t,u = Value.int i t from r); cases e; rfl
 | str x=>obtain ⟨t,e⟩:=(show ∃ t,u = Value.str x t from r); cases e; rfl
 | byt b=>obtain ⟨t,e⟩:=(show ∃ t,u = Value.bytes b t from r); cases e; rfl
 | flt b=>obtain ⟨t,e⟩:=(show ∃ t,u = Value.float b t from r); cases e; rfl
 | ref a=>cases (show u = Value.ref a from r); rfl
 | ty n=>cases (show u = Value.type n from r); rfl
section
variable {P:Program} {w:World} {H H':Hp} {h h':Heap} {a C dx:Addr} {fs fs':List (Str × V)}
theorem jl2 (hok:HOk P w H h) (e:H a = some (.ins C dx fs)):∃ mA,ObjM h a dx C mA /\ (∀ f,RelO (fs.lookup f) (mA f)) /\ PySem.Within mA (fs.map (·.1)) /\ fs.length <= 1000 /\ H dx = some (.own a):=by
 obtain ⟨d,z,ne,ob,mA,n,r,q⟩:=(show ObjOk P w H h a (.ins C dx fs) from hok a _ e)
 exact ⟨mA,⟨ob,n,ne⟩,r,q,z,d⟩
end
structure Cls (K:PySem.W.Frag) (C:Addr):Prop where
 pg:PySem.W.plainGet K C Str.empty = true
 hd:PySem.W.hasDictIn K C = true
 po:PySem.W.plainOver K C = true
 sa:PySem.W.findIn K (.ref C) "__setattr__" = some (some (.builtin "object.__setattr__"))
theorem Cls.get {K:PySem.W.Frag} {C:Addr} (c:Cls K C) (f:Str):PySem.W.plainGet K C f = true:=c.pg
noncomputable def NoAttr (K:PySem.W.Frag) (C:Addr) (f:Str):Prop:=PySem.W.findIn K (.ref C) f = some none
theorem NoAttr.taker {K:PySem.W.Frag} {C:Addr} {f:Str} (n:NoAttr K C f):PySem.W.takerIn K C f = some none:=by
 unfold PySem.W.takerIn
 rw [show PySem.W.findIn K (.ref C) f = some none from n]
 rfl
section
variable {X:Cx} {pins:List (Addr × Obj)} {σ:St} {H:Hp} {s:Shared} {a C dx:Addr} {fs:List (Str × V)} {f:Str} {v:V} {A:Around} {E:Value -> Shared -> Prop}
theorem ke7 {b:Bool} {Q:Value -> Shared -> Prop} (I:Inv X pins σ H s) (e:H a = some (.ins C dx fs)) (c:Cls X.K C) (n:NoAttr X.K C f) (l:fs.lookup f = some v)
  (h:∀ u s',Inv X pins σ H s' -> RelV v u -> Q u s'):wpAny (model X.prog X.w) A (getAttr (.ref a) f b) Q E s:=by
 refine x1_5 (jl2 I.hok e) fun mA O r _ _ _=>?_
 obtain ⟨u,hu,ru⟩:=RelO.some_of (v:=v) (o:=mA f) (by rw [<- l]; exact r f)
 exact qb0 I.kIn O (c.get f) c.hd n hu (kp7 ru) (h u _ (I.tok _) ru)
theorem ke3 {y:V} {u:Value} {Q:Unit -> Shared -> Prop} (I:Inv X pins σ H s) (e:H a = some (.ins C dx fs)) (c:Cls X.K C) (n:NoAttr X.K C f) (hl:fs.length < 1000) (ry:RelV y u)
  (h:∀ s',Inv X pins σ (upd H a (.ins C dx (putF f y fs))) s' -> Q () s'):wpAny (model X.prog X.w) A (setAttr (.ref a) f u) Q E s:=by
 refine x1_5 (jl2 I.hok e) fun mA O r wi _ ho=>?_
 have hz:(fs.map (·.1)).length <= sizeLine:=by rw [List.length_map,sizeLine_eq]; lia
 refine qa1 I.kIn O c.sa c.po n.taker c.hd wi hz fun h' O' sb=>h _ ?_
 have hd:∃ o,h'.get? dx = some o:=let ⟨o,_,_,e',_⟩:=O'.ns; ⟨o,e'⟩
 refine I.write (x:=a) (e:=dx) (by rw [e]; exact True.intro) (.inr ho) (fun b q hb z=>(sb.2 b hb).trans z) hd ?_
 refine ⟨by rw [v5 O.ne]; exact ho,?_,O.ne,O'.obj,_,O'.ns,fun g=>?_,fun g hg=>?_⟩
 ·have:=jm6 f y fs; lia
 ·show RelO ((putF f y fs).lookup g) (if g = f then some u else mA g)
  rw [jn0]
  by_cases q:g = f
  ·rw [if_pos q,if_pos q]; exact ry
  ·rw [if_neg q,if_neg q]; exact r g
 ·by_cases q:g = f
  ·rw [q]; exact (jk9 f y fs).1
  ·refine (jk9 f y fs).2 g (wi g fun z=>hg ?_)
   show (if g = f then some u else mA g) = none
   rw [if_neg q]; exact z
theorem Inv.made (I:Inv X pins σ H s):Inv X pins σ (upd (upd H s.heap.objs.size (.own (s.heap.objs.size + 1))) (s.heap.objs.size + 1) (.ins C s.heap.objs.size []))
  { s with heap:=(s.heap.push PySem.W.emptyDict).push (PySem.W.instObj C s.heap.objs.size) }:=by
 have e1:(s.heap.push PySem.W.emptyDict).get? s.heap.objs.size = some PySem.W.emptyDict:=Heap.get?_push_size s.heap rfl
 have e2:((s.heap.push PySem.W.emptyDict).push (PySem.W.instObj C s.heap.objs.size)).get? (s.heap.objs.size + 1) = some (PySem.W.instObj C s.heap.objs.size):=by
  have:=Heap.get?_push_size (s.heap.push PySem.W.emptyDict) (o:=PySem.W.instObj C s.heap.objs.size) rfl
  rwa [Heap.size_push] at this
 have e3:(s.heap.push PySem.W.emptyDict).Ns s.heap.objs.size (fun _=>none):=⟨PySem.W.emptyDict,#[],_,e1,rfl,(fun e he=>absurd he (by simp)),fun _=>rfl⟩
 have I1:=I.laid (a:=s.heap.objs.size) (o:=.own (s.heap.objs.size + 1)) (h':=s.heap.push PySem.W.emptyDict) (t':=s.toks) (fun b u q=>Heap.get?_push_of_some _ q) (Nat.le_refl _) ⟨_,e1⟩
 refine I1.laid (a:=s.heap.objs.size + 1) (o:=.ins C s.heap.objs.size []) (t':=s.toks) (fun b u q=>Heap.get?_push_of_some _ q) (Nat.le_of_eq (Heap.size_push _ _)) ?_
 have ne:s.heap.objs.size ≠ s.heap.objs.size + 1:=Nat.ne_of_lt (Nat.lt_succ_self _)
 refine ⟨by rw [v5 ne,J2],Nat.zero_le _,ne,e2,fun _=>none,(Heap.Ns1.of_empty e3).at fun o q=>Heap.get?_push_of_some _ q,fun _=>True.intro,fun y hy=>absurd rfl hy⟩
theorem qe4 {prog:Program} {w:World} {env:Env} {e:Expr} {f:Str} {pos:Pos} {s:Shared} {Q:Value -> Shared -> Prop} (hb:attributeBase e f env (eval e env) = eval e env)
  (h:wpAny (model prog w) A (eval e env) (fun o s₁=>wpAny (model prog w) A (getAttr o f true) Q E s₁) E s):wpAny (model prog w) A (eval (.Attribute e f pos) env) Q E s :=
 Attribute_any_ h (by rw [arm_eval_Attribute,hb])
end
noncomputable def tFld (K:PySem.W.Frag) (ta:TE) (f:Str):TE:=fun σ H Q=>ta σ H fun x H1=>∃ a C dx fs v,x = .ref a /\ H1 a = some (.ins C dx fs) /\ Cls K C /\ NoAttr K C f /\ fs.lookup f = some v /\ Q v H1
noncomputable def sFld (K:PySem.W.Frag) (ta tv:TE) (f:Str):TS:=fun D σ H=>tv σ H fun y H1=>ta σ H1 fun x H2=>∃ a C dx fs,x = .ref a /\ H2 a = some (.ins C dx fs) /\ Cls K C /\ NoAttr K C f /\ fs.length < 1000 /\
 D.nx σ (upd H2 a (.ins C dx (putF f y fs)))
section
variable {X:Cx} {o e value:Expr} {f:Str} {pos pos' tpos:Pos} {ta tv:TE}
theorem qh4 (he:PE X e ta) (hb:attributeBase e f X.env (eval e X.env) = eval e X.env):PE X (.Attribute e f pos) (tFld X.K ta f):=by
 intro pins s σ H Q I h
 refine qe4 hb (thn (he pins s σ H _ I h) fun u s1 zz116=>?_)
 obtain ⟨x,H1,I1,rx,a,C,dx,fs,v,ex,ea,c,n,l,q⟩:=zz116
 subst ex
 obtain rfl:u = Value.ref a:=rx
 exact ke7 I1 ea c n l fun u' s2 I2 ru=>⟨v,H1,I2,ru,q⟩
theorem qn8 (ha:PE X o ta) (hv:PE X value tv) (hs:swapsWith value (some (.Attribute o f pos')) pos.line X.env = pure false):PS X (.Assign [.Attribute o f pos'] value pos) (sFld X.K ta tv f):=by
 intro pins s σ H D I h
 refine plainObj_wpAny_Assign_Attribute (thn (hv pins s σ H _ I h) fun u s1 zz118=>zz118.elim fun y zz119=>zz119.elim fun H1 zz120=>zz120.elim fun I1 zz121=>zz121.elim fun ry q=>thn (ha pins s1 σ H1 _ I1 q) fun ov s2 zz122=>?_) hs
 obtain ⟨x,H2,I2,rx,a,C,dx,fs,ex,ea,c,n,l,q2⟩:=zz122
 subst ex
 obtain rfl:ov = Value.ref a:=rx
 exact ke3 I2 ea c n l ry fun s3 I3=>⟨σ,_,I3,q2⟩
end
section
variable {X:Cx} {pins:List (Addr × Obj)} {σ:St} {H:Hp} {s:Shared} {A:Around} {E:Value -> Shared -> Prop} {Q:Value -> Shared -> Prop} {c:Value} {b:Bool}
end
end L2
namespace L2
open PySem PySem.Spec PyProof.Rows
structure Room (k:Nat) (A:Around):Prop where
 hd:A.handled = none
 dp:A.depth + 3 * k + 5 < recursionLimit
 un:A.units + 16 * k + 200 < cLine
theorem Room.mono {j k:Nat} {A:Around} (r:Room k A) (h:j <= k):Room j A:=⟨r.hd,by have:=r.dp; lia,by have:=r.un; lia⟩
theorem Room.deeper {k:Nat} {A:Around} (r:Room (k + 1) A) (env:Env):Room k (A.deeper env) :=
 ⟨r.hd,by have:=r.dp; show A.depth + 1 + 3 * k + 5 < _; lia,by have:=r.un; show A.units + 3 + 16 * k + 200 < _; lia⟩
theorem Room.in1 {k:Nat} {A:Around} (r:Room (k + 1) A):Room k A.in1 :=
 ⟨r.hd,by have:=r.dp; show A.depth + 3 * k + 5 < _; lia,by have:=r.un; show A.units + 1 + 16 * k + 200 < _; lia⟩
theorem ke8 {A:Around} {C:Addr} {us:List Value} {kw:List (Str × Value)}:(A.under (.builtin "type.__call__" ⟨.ref C :: us,kw⟩)).depth = A.depth + 1:=by
 first | rfl | simp [Around.under,Code.weight,Code.isCreation,Code.isGuard,Code.isCaller,Code.frames,Code.isFrame,guardIds]
theorem kf3 {A:Around} {C:Addr} {us:List Value} {kw:List (Str × Value)}:(A.under (.builtin "type.__call__" ⟨.ref C :: us,kw⟩)).units = A.units + 1:=by
 first | rfl | simp [Around.under,Code.cUnits,Code.frames,Code.isFrame]
theorem Room.make {k:Nat} {A:Around} (r:Room (k + 1) A) (C:Addr) (us:List Value) (kw:List (Str × Value)):Room k (A.under (.builtin "type.__call__" ⟨.ref C :: us,kw⟩)) :=
 ⟨r.hd,by have:=r.dp; rw [ke8]; lia,by have:=r.un; rw [kf3]; lia⟩
theorem Room.depth {k:Nat} {A:Around} (r:Room k A):A.depth < recursionLimit:=by have:=r.dp; lia
theorem Room.units {k:Nat} {A:Around} (r:Room k A):A.units + 64 < cLine:=by have:=r.un; lia
noncomputable def tNil:TA:=fun _ H Q=>Q [] H
noncomputable def kg6 (ta:TE) (tr:TA):TA:=fun σ H Q=>ta σ H fun x H1=>tr σ H1 fun xs H2=>Q (x :: xs) H2
section
variable {X:Cx} {e:Expr} {es:List Expr} {te:TE} {t:TA} {pos:Pos}
theorem jm3:PA X [] tNil:=fun _ _ _ _ H Q I h=>Calls.spliced_nil ⟨[],H,I,.nil,h⟩
theorem jd4 (ha:PE X e te) (hr:PA X es t) (hs:starEach (e :: es) X.env = (false,eval e X.env) :: starEach es X.env:=by rfl):PA X (e :: es) (kg6 te t):=by
 intro pos pins s σ H Q I h
 rw [hs]
 show wpAny _ _ (spliced ((false,eval e X.env) :: backTo pos (starEach es X.env))) _ _ s
 refine Calls.spliced_cons (thn (ha pins s σ H _ I h) fun u s1 zz130=>?_)
 refine x2_3 zz130 fun x H1 I1 r1 q1=>?_
 clear zz130
 exact thn (hr pos pins s1 σ H1 _ I1 q1) fun us s2 zz131=>zz131.elim fun xs zz132=>zz132.elim fun H2 zz133=>zz133.elim fun I2 zz134=>zz134.elim fun r2 q2=>⟨x :: xs,H2,I2,.cons r1 r2,q2⟩
noncomputable def tTup (t:TA):TE:=fun σ H Q=>t σ H fun xs H1=>xs.length <= sizeLine /\ ∀ p,H1 p = none -> Q (.ref p) (upd H1 p (.tup xs))
noncomputable def tLst (t:TA):TE:=fun σ H Q=>t σ H fun xs H1=>xs.length <= sizeLine /\ ∀ p,H1 p = none -> Q (.ref p) (upd H1 p (.lst xs))
theorem qi4 {x1} (h:PA X es t):PE X (.Tuple es x1 pos) (tTup t):=by
 intro pins s σ H Q I hq
 refine wpAny_Tuple_spliced (thn (h pos pins s σ H _ I hq) fun us s1 zz135=>zz135.elim fun xs zz136=>zz136.elim fun H1 zz137=>zz137.elim fun I1 zz138=>zz138.elim fun r zz139=>zz139.elim fun z q=>⟨by rw [<- r.length]; exact z,?_⟩)
 have hf:H1 s1.heap.objs.size = none:=I1.hok.fresh (Nat.le_refl _)
 refine ⟨.ref s1.heap.objs.size,upd H1 s1.heap.objs.size (.tup xs),I1.laid (t':=s1.toks) (fun b u e=>Heap.get?_push_of_some _ e) (Nat.le_refl _) ?_,rfl,q _ hf⟩
 exact ⟨z,us,r,⟨_,Heap.get?_push_size _ rfl,rfl,_,rfl⟩⟩
theorem qk4 (h:PA X es t):PE X (.List es pos) (tLst t):=by
 intro pins s σ H Q I hq
 refine wpAny_List_spliced (thn (h pos pins s σ H _ I hq) fun us s1 zz140=>zz140.elim fun xs zz141=>zz141.elim fun H1 zz142=>zz142.elim fun I1 zz143=>zz143.elim fun r zz144=>zz144.elim fun z q=>⟨by rw [<- r.length]; exact z,?_⟩)
 have hf:H1 s1.heap.objs.size = none:=I1.hok.fresh (Nat.le_refl _)
 refine ⟨.ref s1.heap.objs.size,upd H1 s1.heap.objs.size (.lst xs),I1.laid (t':=s1.toks) (fun b u e=>Heap.get?_push_of_some _ e) (Nat.le_refl _) ?_,rfl,q _ hf⟩
 exact ⟨z,us,0,r,Heap.get?_push_size _ rfl⟩
end
noncomputable abbrev Sp:=List V -> Hp -> VK -> XK -> Prop
noncomputable abbrev CXT:=List Env -> Hp -> Shared -> XK -> Value -> Shared -> Prop
structure Env0 (P:Program) (w:World) (K:PySem.W.Frag) (mg:Str -> Option Value) (base:Heap) (A:Around) (outer:List Env) (s:Shared) (H:Hp):Prop where
 frames:A.frames = some outer
 mod:Mod K mg base
 bs:∀ b o,base.get? b = some o -> s.heap.get? b = some o /\ H b = none
 bsz:base.objs.size <= s.heap.objs.size
 funs:s.heap.FunFrames base outer
 frf:∀ b ∈ frs outer,H b = none
 hok:HOk P w H s.heap
 bare:AllBare s.gens
noncomputable def CE (outer:List Env) (P:Program) (w:World) (H:Hp) (s:Shared) (Q:VK) (u:Value) (s':Shared):Prop :=
 ∃ v H',s'.os = s.os /\ AllBare s'.gens /\ Un (frs outer) [] H H' s.heap s'.heap /\ HOk P w H' s'.heap /\ RelV v u /\ Q v H'
noncomputable def CR (CX:CXT) (outer:List Env) (P:Program) (w:World) (H:Hp) (s:Shared) (Q:VK) (E:XK) (r:Result) (s':Shared):Prop :=
 match r with
 | .ok (.ret u)=>CE outer P w H s Q u s'
 | .ok _=>False
 | .error e=>CX outer H s E e s'
structure FnOk (P:Program) (w:World) (K:PySem.W.Frag) (mg:Str -> Option Value) (base:Heap) (CX:CXT) (k:Nat) (f:Addr) (fd:FuncData) (ps:List Str) (sp:Sp):Prop where
 len:∀ vs H Q E,sp vs H Q E -> vs.length = ps.length
 run:∀ (A:Around) (outer:List Env) (s:Shared) (H:Hp) (args:Args) (us:List Value) (vs:List V) (Q:VK) (E:XK),Room k A -> Env0 P w K mg base A outer s H -> BindsTo s fd args (ps.zip us) -> Vals vs us -> sp vs H Q E ->
  codeAny (model P w) A (.call (.ref f) args) (CR CX outer P w H s Q E) s
theorem FnOk.mono {P:Program} {w:World} {K:PySem.W.Frag} {mg:Str -> Option Value} {base:Heap} {CX:CXT} {j k:Nat} {f:Addr} {fd:FuncData} {ps:List Str} {sp:Sp} (F:FnOk P w K mg base CX j f fd ps sp) (h:j <= k) :
  FnOk P w K mg base CX k f fd ps sp:=⟨F.len,fun A outer s H args us vs Q E hr=>F.run A outer s H args us vs Q E (hr.mono h)⟩
theorem FnOk.imp {P:Program} {w:World} {K:PySem.W.Frag} {mg:Str -> Option Value} {base:Heap} {CX:CXT} {k:Nat} {f:Addr} {fd:FuncData} {ps:List Str} {sp sp':Sp} (F:FnOk P w K mg base CX k f fd ps sp)
  (h:∀ vs H Q E,sp' vs H Q E -> sp vs H Q E):FnOk P w K mg base CX k f fd ps sp' :=
 ⟨fun vs H Q E q=>F.len vs H Q E (h _ _ _ _ q),fun A outer s H args us vs Q E hr he hb hv hs=>F.run A outer s H args us vs Q E hr he hb hv (h _ _ _ _ hs)⟩
theorem Env0.make {P:Program} {w:World} {K:PySem.W.Frag} {mg:Str -> Option Value} {base:Heap} {A:Around} {outer:List Env} {s:Shared} {H:Hp} (e:Env0 P w K mg base A outer s H) (C:Addr) (us:List Value) (kw:List (Str × Value)) :
  Env0 P w K mg base (A.under (.builtin "type.__call__" ⟨.ref C :: us,kw⟩)) outer s H:=⟨by first | exact e.frames | (simpa [Around.under,Code.envs,Code.isFrame,pushEnvs] using e.frames),e.mod,e.bs,e.bsz,e.funs,e.frf,e.hok,e.bare⟩
theorem Env0.in1 {P:Program} {w:World} {K:PySem.W.Frag} {mg:Str -> Option Value} {base:Heap} {A:Around} {outer:List Env} {s:Shared} {H:Hp} (e:Env0 P w K mg base A outer s H) :
  Env0 P w K mg base A.in1 outer s H:=⟨e.frames,e.mod,e.bs,e.bsz,e.funs,e.frf,e.hok,e.bare⟩
section
variable {X:Cx} {pins:List (Addr × Obj)} {σ:St} {H:Hp} {s s':Shared}
theorem Inv.env0 (I:Inv X pins σ H s):Env0 X.prog X.w X.K X.mg X.base X.A X.stack s H :=
 ⟨I.ok.frames,I.ok.mod,I.bs,Nat.le_trans I.ok.bsz I.sz,I.stack,I.stkFree,I.hok,I.bare⟩
theorem Inv.after {Q:VK} {u:Value} (I:Inv X pins σ H s) (h:CE X.stack X.prog X.w H s Q u s'):EP X pins σ Q u s':=by
 refine x2_6 h fun v H' os bare un hok r q=>?_
 clear h
 obtain ⟨hh,g,d,t,os'⟩:=s'
 obtain rfl:os' = s.os:=os
 exact ⟨v,H',I.call (h':=hh) (g':=g) (d':=d) (t':=t) (ch:=[]) un hok bare (fun b z=>absurd z (by simp)),r,q⟩
end
noncomputable def Binds (K:PySem.W.Frag) (fd:FuncData) (ps:List Str) (ds:List Value):Prop :=
 ∀ (s:Shared) (us:List Value),K.In s.heap -> (us ++ ds).length = ps.length -> BindsTo s fd ⟨us,[]⟩ (ps.zip (us ++ ds))
theorem Binds.all {K:PySem.W.Frag} {fd:FuncData} {ps:List Str} (h:∀ us:List Value,us.length = ps.length -> bindArgs fd ⟨us,[]⟩ = pure (ps.zip us)):Binds K fd ps []:=fun s us _ hl=>by
 rw [List.append_nil] at hl ⊢
 exact .of_eq (h us hl)
section
variable {X:Cx} {CX:CXT} {k:Nat} {f C:Addr} {fd:FuncData} {ps:List Str} {sp:Sp} {dvs:List V} {ds:List Value} {E:XK} {x m:Str} {p pos apos:Pos} {e o:Expr} {es:List Expr} {ta:TE} {t:TA}
structure Mk (K:PySem.W.Frag) (C f:Addr):Prop where
 makes:PySem.W.makesIn K C = true
 init:PySem.W.findIn K (.ref C) "__init__" = some (some (.ref f))
 fn:PySem.W.isFn K (.ref f) = true
 kp:PySem.W.keepIn K (.ref C) = true
end
section
variable {X:Cx} {CX:CXT} {k:Nat} {f C:Addr} {fd:FuncData} {ps ks:List Str} {sp:Sp} {E:XK} {x m:Str} {p pos apos kpos:Pos} {e o:Expr} {es:List Expr} {kws:List Keyword} {te ta:TE} {t tk:TA} {nm:Option Str}
variable {g:List Value -> List Value -> List Value} {gV:List V -> List V -> List V}
end
structure FnScope (N P:List Str) (sc:Scope):Prop where
 kind:sc.kind = .function
 co:sc.isCoroutine = false
 gen:sc.isGenerator = false
 nd:N.Nodup
 pre:N.take P.length = P
 par:∀ x ∈ P,sc.names.lookup x = some .local \/ sc.names.lookup x = some .cell
 nofree:∀ y ∈ sc.names,y.2 ≠ .free
theorem jt8 {kindOf:Str -> Option NameKind} {x:Str}:∀ {binds:List (Str × Value)} {m:Str -> Option Value},(∀ v,(x,v) ∉ binds) -> bindL kindOf binds m x = m x
 | [],_,_=>rfl
 | (n,v) :: r,m,h=>by
  unfold bindL
  rw [jt8 fun w hw=>h w (List.mem_cons_of_mem _ hw)]
  split
  ·have:x ≠ n:=by rintro rfl; exact h v List.mem_cons_self
   simp [this]
  ·rfl
theorem js8 {kindOf:Str -> Option NameKind} {x:Str}:∀ {binds:List (Str × Value)} {m:Str -> Option Value},(∀ v,(x,v) ∉ binds) -> bindC kindOf binds m x = m x
 | [],_,_=>rfl
 | (n,v) :: r,m,h=>by
  unfold bindC
  rw [js8 fun w hw=>h w (List.mem_cons_of_mem _ hw)]
  split
  ·rfl
  ·have:x ≠ n:=by rintro rfl; exact h v List.mem_cons_self
   simp [this]
theorem ju0 {kindOf:Str -> Option NameKind} {x:Str} {v:Value}:∀ {P:List Str} {vs:List Value} {i:Nat} {m:Str -> Option Value},P.Nodup -> P[i]? = some x -> vs[i]? = some v -> kindOf x = some .local ->
  bindL kindOf (P.zip vs) m x = some v
 | [],_,_,_,_,h,_,_=>by simp at h
 | _ :: _,[],_,_,_,_,h,_=>by simp at h
 | p :: P,w :: vs,0,m,nd,h1,h2,hk=>by
  simp at h1 h2; subst h1; subst h2
  show bindL kindOf ((p,w) :: P.zip vs) m p = _
  unfold bindL
  rw [jt8 fun v hv=>(List.nodup_cons.mp nd).1 (List.of_mem_zip hv).1,if_pos hk]
  simp
 | p :: P,w :: vs,i + 1,m,nd,h1,h2,hk=>by
  show bindL kindOf ((p,w) :: P.zip vs) m x = _
  unfold bindL
  exact ju0 (i:=i) (List.nodup_cons.mp nd).2 (by simpa using h1) (by simpa using h2) hk
theorem jw8 {kindOf:Str -> Option NameKind} {x:Str} {v:Value}:∀ {P:List Str} {vs:List Value} {i:Nat} {m:Str -> Option Value},P.Nodup -> P[i]? = some x -> vs[i]? = some v -> kindOf x ≠ some .local ->
  bindC kindOf (P.zip vs) m x = some v
 | [],_,_,_,_,h,_,_=>by simp at h
 | _ :: _,[],_,_,_,_,h,_=>by simp at h
 | p :: P,w :: vs,0,m,nd,h1,h2,hk=>by
  simp at h1 h2; subst h1; subst h2
  show bindC kindOf ((p,w) :: P.zip vs) m p = _
  unfold bindC
  rw [js8 fun v hv=>(List.nodup_cons.mp nd).1 (List.of_mem_zip hv).1,if_neg hk]
  simp
 | p :: P,w :: vs,i + 1,m,nd,h1,h2,hk=>by
  show bindC kindOf ((p,w) :: P.zip vs) m x = _
  unfold bindC
  exact jw8 (i:=i) (List.nodup_cons.mp nd).2 (by simpa using h1) (by simpa using h2) hk
noncomputable def start (N:List Str) (vs:List V):St:=vs.map some ++ List.replicate (N.length - vs.length) none
noncomputable def cxOf (CX:CXT) (P:Program) (w:World) (K:PySem.W.Frag) (mg:Str -> Option Value) (base:Heap) (N:List Str) (qual:Str) (scope:Scope) (f:Addr) (cd:Value) (A:Around) (outer:List Env) (s:Shared) (H:Hp) (E:XK):Cx where
 prog:=P
 w:=w
 K:=K
 mg:=mg
 base:=base
 A:=A.deeper (envOfC qual scope s.heap.objs.size f cd)
 N:=N
 s₀:=s
 H₀:=H
 env:=envOfC qual scope s.heap.objs.size f cd
 outer:=outer
 stack:=envOfC qual scope s.heap.objs.size f cd :: outer
 ex:=[]
 calm:=true
 fn:=fun _=>true
 pn:=[]
 xe:=fun e s'=>wpAny (model P w) (A.deeper (envOfC qual scope s.heap.objs.size f cd)) (leaving (envOfC qual scope s.heap.objs.size f cd) e) (fun _ s''=>CX outer H s E e s'') (fun e' s''=>CX outer H s E e' s'') s'
theorem ka3 {sc:Scope} {n:Nat} {x:Str} (h:sc.names.lookup x = some .cell):∃ c,(cellsFrom n sc.names []).lookup x = some c:=by
 have q:=PySem.W.cellsFrom_some sc.names n [] (.inl h)
 exact Option.isSome_iff_exists.mp q
theorem jw2 {CX:CXT} {P:Program} {w:World} {K:PySem.W.Frag} {mg:Str -> Option Value} {base:Heap} {N ps:List Str} {qual:Str} {scope:Scope} {f:Addr} {cd:Value} {A:Around} {outer:List Env} {s s1:Shared} {H:Hp} {E:XK} {us:List Value} {vs:List V}
  (S:FnScope N ps scope) (hd:A.handled = none) (e0:Env0 P w K mg base A outer s H) (hl:vs.length = ps.length) (r:Vals vs us)
  (x:InCallC s s.heap.objs.size (bindL (envOfC qual scope s.heap.objs.size f cd).kindOf (ps.zip us) fun _=>none) (cellsFrom (s.heap.objs.size + 1) scope.names []) (bindC (envOfC qual scope s.heap.objs.size f cd).kindOf (ps.zip us) fun _=>none) s1) :
  Inv (cxOf CX P w K mg base N qual scope f cd A outer s H E) [] (start N vs) H s1:=by
 have hpl:ps.length <= N.length:=by have:=congrArg List.length S.pre; rw [List.length_take] at this; lia
 refine x2_2 x.done fun h1 tk zo2 hk=>?_
 obtain rfl:=zo2
 have noA:∀ b:Addr,b ∉ (cxOf CX P w K mg base N qual scope f cd A outer s H E).ex:=fun b z=>absurd (show b ∈ ([]:List Addr) from z) (by simp)
 refine ⟨⟨e0.mod,S.kind,rfl,rfl,Nat.le_refl _,fun y z c h1 h2=>?_,fun y hy=>?_,fun y c _ h=>?_,fun _=>hd,Around.frames_deeper e0.frames,.inr ⟨rfl,rfl⟩,fun b z=>absurd z (noA b),e0.bs,e0.bsz,fun b _ _=>noA b,fun b z=>absurd z (noA b),e0.funs,e0.frf⟩,
  rfl,e0.bare,Un.kept hk,⟨_,x.toInCall.ns,fun i y v h1 h2 h3=>?_⟩,fun y c h=>⟨_,x.cell y c h⟩,e0.hok.fresh (Nat.le_refl _),fun y c h=>?_,fun p hp=>absurd (show p ∈ ([]:List (Addr × Obj)) from hp) (by simp),e0.hok.kept hk,?_⟩
 ·exact name_of_addr x.apart (PySem.mem_of_lookup h1) (PySem.mem_of_lookup h2)
 ·have hy:scope.names.lookup y = some .cell \/ scope.names.lookup y = some .free:=hy
  rcases hy with hy | hy
  ·exact ka3 hy
  ·exact absurd rfl (S.nofree _ (PySem.mem_of_lookup hy))
 ·exact Nat.le_of_lt (x.above y c (PySem.mem_of_lookup h))
 ·have hi:i < vs.length:=by
   unfold start at h2
   by_cases hi:i < vs.length
   ·exact hi
   ·rw [List.getElem?_append_right (by simpa using hi)] at h2
    rw [List.getElem?_replicate] at h2
    split at h2 <;> cases h2
  have ha:vs[i]? = some v:=by
   unfold start at h2
   rw [List.getElem?_append_left (by simpa using hi),List.getElem?_map] at h2
   cases e:vs[i]? with
   | none=>rw [e] at h2; cases h2
   | some a=>rw [e] at h2; cases h2; rfl
  refine x1_2 (r.get ha) fun u hu rv=>?_
  have hp:ps[i]? = some y:=by
   rw [<- S.pre,List.getElem?_take_of_lt (by lia)]; exact h1
  have ndP:ps.Nodup:=by rw [<- S.pre]; exact S.nd.sublist (List.take_sublist _ _)
  refine ⟨u,rv,?_⟩
  rcases S.par y (List.mem_of_getElem? hp) with k | k
  ·exact .inl ⟨k,ju0 ndP hp hu k⟩
  ·obtain ⟨c,e⟩:=ka3 (n:=s.heap.objs.size + 1) k
   refine .inr ⟨.inl k,c,e,?_⟩
   have q:=x.cell y c e
   rw [jw8 ndP hp hu (by show scope.names.lookup y ≠ _; rw [k]; decide)] at q
   exact q
 ·exact e0.hok.fresh (Nat.le_of_lt (x.above y c (PySem.mem_of_lookup h)))
 ·unfold start
  show _ = N.length
  rw [List.length_append,List.length_map,List.length_replicate]
  lia
theorem qo4 {CX:CXT} {P:Program} {w:World} {K:PySem.W.Frag} {mg:Str -> Option Value} {base:Heap} {k:Nat} {f:Addr} {name qual:Str} {params:Arguments} {body:List Stmt} {scope:Scope} {dV kV doc pm cdv ct oc:Value} {an od:Option Addr}
  {osl:Array (Option Value)} {N ps:List Str} {sp:Sp} (lk:K.lookup f = some ⟨oc,od,.func (PySem.W.fnOf name qual params body scope dV kV doc pm an cdv ct),osl⟩) (hcd:PySem.W.codeIn K cdv qual = true) (S:FnScope N ps scope)
  (len:∀ vs H Q E,sp vs H Q E -> vs.length = ps.length)
  (hbody:∀ (A:Around) (outer:List Env) (s:Shared) (H:Hp) (vs:List V) (Q:VK) (E:XK),Room k (A.deeper (envOfC qual scope s.heap.objs.size f cdv)) -> sp vs H Q E ->
   ∃ t,PSs (cxOf CX P w K mg base N qual scope f cdv A outer s H E) body t /\ t { nx:=fun _ H'=>Q .non H',rt:=Q } (start N vs) H) :
  FnOk P w K mg base CX (k + 1) f (PySem.W.fnOf name qual params body scope dV kV doc pm an cdv ct) ps sp:=by
 refine ⟨len,fun A outer s H args us vs Q E hr e0 hb r hsp=>?_⟩
 have hl:=len _ _ _ _ hsp
 have KX:K.In s.heap:=e0.mod.kin.keeps fun b o e=>(e0.bs b o e).1
 have lim:s.heap.NoLimit:=e0.mod.nolimit.keeps fun b o e=>(e0.bs b o e).1
 have hkind:∀ y ∈ ps.zip us,scope.names.lookup y.1 = some .local \/ (scope.names.lookup y.1 = some .cell /\ ((cellsFrom (s.heap.objs.size + 1) scope.names []).lookup y.1).isSome = true):=fun zz172 hy=>by
  obtain ⟨n,v⟩:=zz172
  rcases S.par n (List.of_mem_zip hy).1 with q | q
  ·exact .inl q
  ·exact .inr ⟨q,PySem.W.cellsFrom_some _ _ _ (.inl q)⟩
 refine codeAny_call_function hr.depth (KX _ _ lk) rfl S.co S.gen rfl (PySem.W.codeRec_of KX hcd) (hb _ _ _ _ ?_)
 refine wpAny_newFunctionEnv_cells S.kind hkind fun env he s1 x=>?_
 subst he
 refine ⟨lim.keeps x.toInCall.keep,codeAny_func ?_⟩
 refine x1_2 (hbody A outer s H vs Q E (hr.deeper _) hsp) fun t ht hq=>?_
 have I:Inv (cxOf CX P w K mg base N qual scope f cdv A outer s H E) [] (start N vs) H s1:=jw2 S hr.hd e0 hl r x
 refine wpAny_mono (ht [] s1 (start N vs) H _ I hq) (fun fl s' hs=>?_) fun e s' hs=>hs
 have fin:∀ {σ':St} {H':Hp} {v:V} {u:Value},Inv (cxOf CX P w K mg base N qual scope f cdv A outer s H E) [] σ' H' s' -> RelV v u -> Q v H' -> CE outer P w H s Q u s' :=
  fun {σ' H' v u} J rv q=>⟨v,H',J.os,J.bare,J.base,J.hok,rv,q⟩
 cases fl with
 | ret u =>
  refine x3_3 hs fun v σ' H' J rv q=>?_
  clear hs
  exact fin J rv q
 | next =>
  refine x2_2 hs fun σ' H' J q=>?_
  clear hs
  exact fin (v:=V.non) (u:=Value.none) J rfl q
 | brk =>
  refine x2_2 hs fun _ _ _ q=>?_
  clear hs
  exact False.elim q
 | cont =>
  refine x2_2 hs fun _ _ _ q=>?_
  clear hs
  exact False.elim q
end L2
namespace L2
open PySem PySem.Spec PyProof.Rows
section
variable {X:Cx} {x:Str} {p pos:Pos} {e:Expr} {es:List Expr} {t:TA} {id T:String} {r:List V -> Hp -> VK -> Prop}
noncomputable def tCB (r:List V -> Hp -> VK -> Prop) (t:TA):TE:=fun σ H Q=>t σ H fun vs H1=>r vs H1 Q
theorem Q3 (hc:CallR X (.builtin id) r) (hg:Gl X x) (hm:X.mg x = none) (hv:bootBuiltins x = some (.builtin id)) (ha:PA X (e :: es) t) (hn:x ≠ "__name__":=by decide) (hdb:(x == ("__debug__" : Str)) = false:=by decide)
  (he:starEach (e :: es) X.env = (false,eval e X.env) :: starEach es X.env:=by rfl) (hpl:(backTo pos (starEach es X.env)).any (·.1) = false:=by rfl):PE X (.Call (.Name x p) (e :: es) [] pos) (tCB r t):=by
 intro pins s σ H Q I h
 refine wpAny_Call_Name_kw (kc9 I hg hm hv ?_ hn hdb)
 exact PyProof.Rows.callWith_builtin1 (thn (ha pos pins s σ H _ I h) fun us s1 zz173=>zz173.elim fun vs zz174=>zz174.elim fun H1 zz175=>zz175.elim fun I1 zz176=>zz176.elim fun r1 q1=>hc pins s1 σ H1 vs us Q I1 r1 q1) he hpl
theorem jd6 (hc:CallR X (.type T) r) (hg:Gl X x) (hm:X.mg x = none) (hv:bootBuiltins x = some (.type T)) (ha:PA X (e :: es) t) (hn:x ≠ "__name__":=by decide) (hdb:(x == ("__debug__" : Str)) = false:=by decide)
  (he:starEach (e :: es) X.env = (false,eval e X.env) :: starEach es X.env:=by rfl) (hpl:(backTo pos (starEach es X.env)).any (·.1) = false:=by rfl):PE X (.Call (.Name x p) (e :: es) [] pos) (tCB r t):=by
 intro pins s σ H Q I h
 refine wpAny_Call_Name_kw (kc9 I hg hm hv ?_ hn hdb)
 exact PyProof.Rows.callWith_type1 (thn (ha pos pins s σ H _ I h) fun us s1 zz177=>zz177.elim fun vs zz178=>zz178.elim fun H1 zz179=>zz179.elim fun I1 zz180=>zz180.elim fun r1 q1=>hc pins s1 σ H1 vs us Q I1 r1 q1) he hpl
end
end L2
namespace HT
open PySem PyProof.Rows
noncomputable def J9:List Int -> List Int -> Bool
 | [],[]=>false
 | [],_ :: _=>true
 | _ :: _,[]=>false
 | x :: xs,y :: ys=>if x = y then J9 xs ys else decide (x < y)
theorem Q9 (x y:Int) (xs ys:List Int):J9 (x :: xs) (y :: ys) = if x = y then J9 xs ys else decide (x < y):=rfl
theorem Y7:J9 [] [] = false:=rfl
theorem jf6 (y:Int) (ys:List Int):J9 [] (y :: ys) = true:=rfl
theorem jb4 (x:Int) (xs:List Int):J9 (x :: xs) [] = false:=rfl
theorem ku8 (A:Around) (s:Shared) (a:Int) (t:Tok) (c:Int) (u:Tok) (prog:Program) (w:World) (E:Value -> Shared -> Prop) (Q:Value -> Shared -> Prop) (h:Q (.bool (decide (a < c))) s) :
  wpAny (model prog w) A (richCompare .Lt (.int a t) (.int c u)) Q E s :=
 (PyProof.Rows.lt_int h:wpAny (model prog w) A (compareOp .Lt (.int a t) (.int c u)) Q E s)
section
open PySem.SeqAt
open PySem.AutoSeq1 (wpAny_loadPart')
open PySem.MeetsSeq PySem.MeetsSeq2 PySem.MeetsSeq3
end
section
variable {prog:Program} {w:World} {A:Around} {E:Value -> Shared -> Prop} {s:Shared}
noncomputable def sIx (n d:Nat):Option Int -> Nat
 | none=>d
 | some v=>if v < 0 then (v + (n:Int)).toNat else min v.toNat n
end
end HT
namespace L2
open PySem PySem.Spec PyProof.Rows
noncomputable abbrev TO:=St -> Hp -> (Option Int -> Hp -> Prop) -> Prop
noncomputable def PO (X:Cx) (e:Option Expr) (t:TO):Prop :=
 ∀ (pins:List (Addr × Obj)) (s:Shared) (σ:St) (H:Hp) (Q:Option Int -> Hp -> Prop),Inv X pins σ H s -> t σ H Q ->
  wpAny (model X.prog X.w) X.A (evalPart e X.env) (fun u s'=>∃ o H',Inv X pins σ H' s' /\ IsPart u o /\ Q o H') X.xe s
noncomputable def qd8:TO:=fun _ H Q=>Q none H
noncomputable def qq7 (t:TE):TO:=fun σ H Q=>t σ H fun x H1=>∃ i,x = .int i /\ Q (some i) H1
section
variable {X:Cx} {e:Expr} {te:TE} {lo hi:Option Expr} {tl th:TO} {pos p2:Pos}
theorem qg8:PO X none qd8:=by
 intro pins s σ H Q I h
 rw [evalPart_none]
 exact wpAny_pure ⟨none,H,I,.none,h⟩
theorem qa9 (h:PE X e te):PO X (some e) (qq7 te):=by
 intro pins s σ H Q I hw
 rw [evalPart_some]
 refine thn (h pins s σ H _ I hw) fun u s1 zz181=>?_
 refine x2_3 zz181 fun x H1 I1 r1 q1=>?_
 clear zz181
 refine x1_2 q1 fun i zo1 q=>?_
 clear q1
 obtain rfl:=zo1
 obtain ⟨t,rfl⟩:=r1
 exact ⟨some i,H1,I1,.int i t,q⟩
noncomputable def SlR (X:Cx) (r:V -> Option Int -> Option Int -> Hp -> VK -> Prop):Prop :=
 ∀ (pins:List (Addr × Obj)) (s:Shared) (σ:St) (H:Hp) (x:V) (v vl vu:Value) (lo hi:Option Int) (sl:Addr) (Q:VK),Inv X pins σ H s -> RelV x v -> s.heap.IsSliceOf sl vl vu .none -> IsPart vl lo -> IsPart vu hi -> r x lo hi H Q ->
  ∃ T id,typeLookup (.type T) "__getitem__" = pure (some (.builtin id)) /\ s.TypeIs v T /\ wpAny (model X.prog X.w) X.A (getItem v (.ref sl)) (EP X pins σ Q) X.xe s
theorem SlR.or {r r':V -> Option Int -> Option Int -> Hp -> VK -> Prop} (h:SlR X r) (h':SlR X r'):SlR X (fun x lo hi H Q=>r x lo hi H Q \/ r' x lo hi H Q):=by
 intro pins s σ H x v vl vu lo hi sl Q I rx hs pl pu q
 rcases q with q | q
 ·exact h pins s σ H x v vl vu lo hi sl Q I rx hs pl pu q
 ·exact h' pins s σ H x v vl vu lo hi sl Q I rx hs pl pu q
noncomputable def tSl (r:V -> Option Int -> Option Int -> Hp -> VK -> Prop) (te:TE) (tl th:TO):TE:=fun σ H Q=>te σ H fun x H1=>tl σ H1 fun l H2=>th σ H2 fun u H3=>r x l u H3 Q
theorem kw0 {r:V -> Option Int -> Option Int -> Hp -> VK -> Prop} (hr:SlR X r) (he:PE X e te) (hl:PO X lo tl) (hu:PO X hi th):PE X (.Subscript e (.Slice lo hi none p2) pos) (tSl r te tl th):=by
 intro pins s σ H Q I h
 refine Subscript_ (thn (he pins s σ H _ I h) fun v s1 zz182=>?_)
 refine x2_3 zz182 fun x H1 I1 r1 q1=>?_
 clear zz182
 refine wpAny_Slice (thn (hl pins s1 σ H1 _ I1 q1) fun vl s2 zz183=>zz183.elim fun l zz184=>zz184.elim fun H2 zz185=>zz185.elim fun I2 zz186=>zz186.elim fun pl q2=>thn (hu pins s2 σ H2 _ I2 q2) fun vu s3 zz187=>?_)
 refine x2_3 zz187 fun u H3 I3 pu q3=>?_
 clear zz187
 rw [evalPart_none]
 refine wpAny_pure ?_
 have I4:Inv X pins σ H3 { s3 with heap:=s3.heap.push { cls:=.type "slice",data:=.fields #[vl,vu,.none] } }:=I3.kept (t':=s3.toks) fun b ob q=>Heap.get?_push_of_some _ q
 refine x2_3 (hr pins { s3 with heap:=s3.heap.push { cls:=.type "slice",data:=.fields #[vl,vu,.none] } } σ H3 x v vl vu l u s3.heap.objs.size Q I4 r1 (Heap.IsSliceOf.new ..) pl pu q3) fun T id hT ht hg=>?_
 show wpAny (model X.prog X.w) X.A (subscriptTail e (.Slice lo hi none p2) v (.ref s3.heap.objs.size)) (EP X pins σ Q) X.xe { s3 with heap:=s3.heap.push { cls:=.type "slice",data:=.fields #[vl,vu,.none] } }
 exact tail_any (ops:=[.ref s3.heap.objs.size,v]) ht hT hg (by with_unfolding_all rfl)
noncomputable def cutV (xs:List V) (lo hi:Option Int):List V:=(xs.drop (HT.sIx xs.length 0 lo)).take (HT.sIx xs.length xs.length hi - HT.sIx xs.length 0 lo)
theorem jy2 (xs:List V) (lo hi:Option Int):(cutV xs lo hi).length <= xs.length:=by
 unfold cutV
 rw [List.length_take,List.length_drop]
 lia
end
end L2
namespace L2
open PySem PySem.Spec PyProof.Rows
noncomputable def ixN (n:Nat) (i:Int):Option Nat:=if 0 <= i then (if i < n then some i.toNat else none) else if -(n:Int) <= i then some (i + n).toNat else none
noncomputable def atI {α:Type} (xs:List α) (i:Int):Option α:=(ixN xs.length i).bind fun j=>xs[j]?
theorem qg7 {n:Nat} {i:Int} {j:Nat} (h:ixN n i = some j):seqIndex? i n = some j /\ j < n /\ -(n:Int) <= i /\ i < n:=by
 unfold ixN at h
 by_cases h0:0 <= i
 ·rw [if_pos h0] at h
  by_cases h1:i < n
  ·rw [if_pos h1] at h
   have e:i.toNat = j:=Option.some.inj h
   exact ⟨by rw [seqIndex_of h0 h1,e],by lia,by lia,h1⟩
  ·rw [if_neg h1] at h; cases h
 ·rw [if_neg h0] at h
  by_cases h1 : -(n:Int) <= i
  ·rw [if_pos h1] at h
   have e:(i + n).toNat = j:=Option.some.inj h
   exact ⟨by rw [seqIndex_neg (by lia) h1,e],by lia,h1,by lia⟩
  ·rw [if_neg h1] at h; cases h
theorem kn9 {α:Type} {xs:List α} {i:Int} {v:α} (h:atI xs i = some v):∃ j,seqIndex? i xs.length = some j /\ xs[j]? = some v /\ j < xs.length /\ -(xs.length:Int) <= i /\ i < xs.length:=by
 unfold atI at h
 cases e:ixN xs.length i with
 | none=>rw [e] at h; cases h
 | some j =>
  rw [e] at h
  refine x0_4 (qg7 e) fun h1 h2 h3 h4=>?_
  exact ⟨j,h1,h,h2,h3,h4⟩
noncomputable def jz2 (b:Expr):Prop:=∀ o i,subscripted b false o i = operate [o,i] (getItem o i)
noncomputable def IxR (X:Cx) (r:R2):Prop :=
 ∀ (value slice:Expr) (pins:List (Addr × Obj)) (s:Shared) (σ:St) (H:Hp) (x y:V) (v u:Value) (Q:VK),Inv X pins σ H s -> RelV x v -> RelV y u -> r x y H Q ->
  subscripted slice false v u = operate [v,u] (getItem v u) -> wpAny (model X.prog X.w) X.A (subscriptTail value slice v u) (EP X pins σ Q) X.xe s
noncomputable def MtR (X:Cx) (id:String) (r:V -> List V -> Hp -> VK -> Prop):Prop :=
 ∀ (pins:List (Addr × Obj)) (s:Shared) (σ:St) (H:Hp) (x:V) (xs:List V) (v:Value) (us:List Value) (Q:VK),Inv X pins σ H s -> RelV x v -> Vals xs us -> r x xs H Q ->
  wpAny (model X.prog X.w) X.A (call (.builtin id) (v :: us)) (EP X pins σ Q) X.xe s
section
variable {X:Cx} {a b:Expr} {ta tb:TE} {pos:Pos}
theorem IxR.or {r r':R2} (h:IxR X r) (h':IxR X r'):IxR X (fun x y H Q=>r x y H Q \/ r' x y H Q):=by
 intro value slice pins s σ H x y v u Q I rx ry q hs
 rcases q with q | q
 ·exact h value slice pins s σ H x y v u Q I rx ry q hs
 ·exact h' value slice pins s σ H x y v u Q I rx ry q hs
theorem MtR.or {id:String} {r r':V -> List V -> Hp -> VK -> Prop} (h:MtR X id r) (h':MtR X id r'):MtR X id (fun x xs H Q=>r x xs H Q \/ r' x xs H Q):=by
 intro pins s σ H x xs v us Q I rx rs q
 rcases q with q | q
 ·exact h pins s σ H x xs v us Q I rx rs q
 ·exact h' pins s σ H x xs v us Q I rx rs q
theorem qq1 {r:R2} (hr:IxR X r) (ha:PE X a ta) (hb:PE X b tb) (hs:jz2 b):PE X (.Subscript a b pos) (tOp r ta tb):=by
 intro pins s σ H Q I h
 exact Subscript_ (binT ha hb I h fun v u s2 x y H2 I2 rx ry q=>hr a b pins s2 σ H2 x y v u Q I2 rx ry q (hs _ _))
noncomputable def rIxL (K:PySem.W.Frag):R2:=fun x y H Q=>∃ p xs i v,x = .ref p /\ y = .int i /\ SqL K H p xs /\ atI xs i = some v /\ Q v H
noncomputable def rIxT (K:PySem.W.Frag):R2:=fun x y H Q=>∃ p xs i v,x = .ref p /\ y = .int i /\ SqT K H p xs /\ atI xs i = some v /\ Q v H
theorem qg0:IxR X (rIxL X.K):=by
 intro value slice pins s σ H x y v u Q I rx ry h hs
 refine x4_5 h fun p xs i z zo4 zo5 hq he q=>?_
 clear h
 obtain rfl:=zo4
 obtain rfl:=zo5
 cases rx
 obtain ⟨t,rfl⟩:=ry
 refine x1_3 (I.list hq) fun its r pl hz=>?_
 refine x1_5 (kn9 he) fun j h1 h2 h3 h4 h5=>?_
 refine x1_2 (r.get h2) fun w ew rw'=>?_
 have hl:=r.length
 have hn:=kh7
 have fin:EP X pins σ Q w s:=⟨z,H,I,rw',q⟩
 by_cases h0:0 <= i
 ·have hj:i.toNat = j:=by
   rw [seqIndex_of h0 h5] at h1
   exact Option.some.inj h1
  exact item_listR pl.isList h0 (by lia) (by rw [hj]; simpa using ew) fin hs
 ·have hj:(i + (its.toArray.size:Int)).toNat = j:=by
   rw [seqIndex_neg (by lia) h4] at h1
   rw [List.size_toArray,<- hl]
   exact Option.some.inj h1
  exact subscriptTail_builtinR (x:=w) pl.isList.typeIs slot_list_getitem.lookup
   (wpAny_getItem_list_neg (Q:=fun r s'=>r = w /\ EP X pins σ Q r s') pl.isList (by lia) (by rw [List.size_toArray] <;> lia) (by lia) (by rw [hj]; simpa using ew) ⟨rfl,fin⟩) hs
theorem qi5:IxR X (rIxT X.K):=by
 intro value slice pins s σ H x y v u Q I rx ry h hs
 refine x4_5 h fun p xs i z zo4 zo5 hq he q=>?_
 clear h
 obtain rfl:=zo4
 obtain rfl:=zo5
 cases rx
 obtain ⟨t,rfl⟩:=ry
 refine x1_3 (I.tuple hq) fun its r pl hz=>?_
 refine x1_5 (kn9 he) fun j h1 h2 h3 h4 h5=>?_
 refine x1_2 (r.get h2) fun w ew rw'=>?_
 have hl:=r.length
 have hn:=kh7
 have fin:EP X pins σ Q w s:=⟨z,H,I,rw',q⟩
 exact subscriptTail_builtinR (x:=w) pl.typeIs slot_tuple_getitem.lookup
  (getItem_tuple (j:=j) (Q:=fun r s'=>r = w /\ EP X pins σ Q r s') pl (by lia) (by lia) (by rw [List.size_toArray,<- hl]; exact h1) (by simpa using ew) ⟨rfl,fin⟩) hs
theorem Inv.lst {pins:List (Addr × Obj)} {σ:St} {H:Hp} {s:Shared} {p:Addr} {xs:List V} (I:Inv X pins σ H s) (h:H p = some (.lst xs)) :
  ∃ (its:List Value) (n:Nat),Vals xs its /\ s.heap.get? p = some { cls:=.type "list",data:=.seq its.toArray n } /\ xs.length <= sizeLine:=by
 obtain ⟨z,its,n,r,e⟩:=I.hok p _ h
 exact ⟨its,n,r,e,z⟩
theorem js9 (lo hi:Option Int) (n:Nat):(sliceBounds lo hi none n).1 = ((HT.sIx n 0 lo:Nat):Int) /\ (sliceBounds lo hi none n).2.1 = ((HT.sIx n n hi:Nat):Int) /\ (sliceBounds lo hi none n).2.2 = 1:=by
 refine ⟨?_,?_,rfl⟩
 ·cases lo with
  | none=>simp [sliceBounds,HT.sIx]
  | some i =>
   simp only [sliceBounds,HT.sIx,Option.getD_none,show (1:Int) > 0 by decide,if_true]
   by_cases h:i < 0
   ·simp only [h,if_true] <;> lia
   ·simp only [h,if_false] <;> lia
 ·cases hi with
  | none=>simp [sliceBounds,HT.sIx]
  | some i =>
   simp only [sliceBounds,HT.sIx,Option.getD_none,show (1:Int) > 0 by decide,if_true]
   by_cases h:i < 0
   ·simp only [h,if_true] <;> lia
   ·simp only [h,if_false] <;> lia
theorem jq3 (its:List Value) (lo hi:Option Int):slicePick its.toArray lo hi none = ((its.drop (HT.sIx its.length 0 lo)).take (HT.sIx its.length its.length hi - HT.sIx its.length 0 lo)).toArray:=by
 refine x0_3 (js9 lo hi its.toArray.size) fun h1 h2 h3=>?_
 unfold slicePick
 rw [h1,h2,h3]
 simp only [sliceRange_one,pick_run,List.size_toArray] <;> rfl
noncomputable def rSlL (K:PySem.W.Frag):V -> Option Int -> Option Int -> Hp -> VK -> Prop:=fun x lo hi H Q=>∃ a xs,x = .ref a /\ SqL K H a xs /\ ∀ p,H p = none -> Q (.ref p) (upd H p (.lst (cutV xs lo hi)))
theorem kz1:SlR X (rSlL X.K):=by
 intro pins s σ H x v vl vu lo hi sl Q I rx hs pl pu h
 refine x2_3 h fun a xs zo2 hx q=>?_
 clear h
 obtain rfl:=zo2
 cases rx
 refine x1_3 (I.list hx) fun its r ht hz=>?_
 have hlen:=r.length
 refine ⟨"list",_,slot_list_getitem.lookup,ht.isList.typeIs,?_⟩
 refine wpAny_getItem_list_slice ht.isList hs pl pu .none (by simp) ?_ (by rw [List.size_toArray] <;> lia)
 rw [jq3,<- hlen]
 refine ⟨.ref s.heap.objs.size,_,I.laid (t':=s.toks) (o:=.lst (cutV xs lo hi)) (fun b ob q=>Heap.get?_push_of_some _ q) (Nat.le_refl _) ?_,rfl,q _ (I.hok.fresh (Nat.le_refl _))⟩
 exact ⟨Nat.le_trans (jy2 xs lo hi) hz,_,0,(r.drop (HT.sIx xs.length 0 lo)).take (HT.sIx xs.length xs.length hi - HT.sIx xs.length 0 lo),Heap.get?_push_size _ rfl⟩
theorem y3:CallR X (.builtin "len") (fun xs H Q=>∃ p ys,xs = [.ref p] /\ (SqL X.K H p ys \/ SqT X.K H p ys) /\ Q (.int ys.length) H):=by
 intro pins s σ H xs us Q I r h
 refine x2_3 h fun p ys zo2 hq q=>?_
 clear h
 obtain rfl:=zo2
 refine x1_2 (kh6 r) fun u zo1 rx=>?_
 obtain rfl:=zo1
 cases rx
 have hn:=kh7
 rcases hq with hq | hq
 ·refine x1_3 (I.list hq) fun its r' pl hz=>?_
  have hlen:=r'.length
  exact Calls.call_len_list pl.isList (by simp only [List.size_toArray] <;> lia) ⟨.int ys.length,H,I.tok _,⟨s.toks + 1,by rw [List.size_toArray,hlen]⟩,q⟩
 ·refine x1_3 (I.tuple hq) fun its r' pl hz=>?_
  have hlen:=r'.length
  exact len_tuple pl (by simp only [List.size_toArray] <;> lia) ⟨.int ys.length,H,I.tok _,⟨s.toks + 1,by rw [List.size_toArray,hlen]⟩,q⟩
theorem CallR.or {f:Value} {r r':List V -> Hp -> VK -> Prop} (h:CallR X f r) (h':CallR X f r'):CallR X f (fun xs H Q=>r xs H Q \/ r' xs H Q):=by
 intro pins s σ H xs us Q I rs q
 rcases q with q | q
 ·exact h pins s σ H xs us Q I rs q
 ·exact h' pins s σ H xs us Q I rs q
theorem jb0:CallR X (.type "list") (fun xs H Q=>∃ p ys,xs = [.ref p] /\ (SqL X.K H p ys \/ SqT X.K H p ys) /\ ∀ l,H l = none -> Q (.ref l) (upd H l (.lst ys))):=by
 intro pins s σ H xs us Q I r h
 refine x2_3 h fun p ys zo2 hq q=>?_
 clear h
 obtain rfl:=zo2
 refine x1_2 (kh6 r) fun u zo1 rx=>?_
 obtain rfl:=zo1
 cases rx
 have fin:∀ (its:List Value),Vals ys its -> ys.length <= sizeLine -> ∀ (h':Heap) (c':Nat),(∀ b o',s.heap.get? b = some o' -> h'.get? b = some o') ->
   h'.get? s.heap.objs.size = some { cls:=.type "list",dict:=none,data:=.seq its.toArray c',slots:=#[] } -> EP X pins σ Q (.ref s.heap.objs.size) { s with heap:=h' }:=fun its r' hz h' c' kp e =>
  ⟨.ref s.heap.objs.size,_,I.laid (t':=s.toks) kp (Nat.le_refl _) (show ObjOk X.prog X.w _ h' _ (.lst ys) from ⟨hz,its,c',r',e⟩),rfl,q _ (I.hok.fresh (Nat.le_refl _))⟩
 rcases hq with hq | hq
 ·refine x1_3 (I.list hq) fun its r' pl hz=>?_
  have hlen:=r'.length
  obtain ⟨o,ho,hc,n,hd⟩:=pl.isList
  exact call_list_seq p (.inl rfl) ho hc hd (fun h' c' kp e=>fin its r' hz h' c' kp e) (by simp only [List.size_toArray] <;> lia)
 ·refine x1_3 (I.tuple hq) fun its r' pl hz=>?_
  have hlen:=r'.length
  obtain ⟨o,ho,hc,n,hd⟩:=pl
  exact call_list_seq p (.inr rfl) ho hc hd (fun h' c' kp e=>fin its r' hz h' c' kp e) (by simp only [List.size_toArray] <;> lia)
noncomputable def tyV (K:PySem.W.Frag) (T:String) (x:V) (H:Hp):Prop:=match x with
 | .str _=>T = "str"
 | .int _=>T = "int"
 | .ref p=>(T = "list" /\ ∃ xs,SqL K H p xs) \/ (T = "tuple" /\ ∃ o,K.lookup p = some o /\ o.cls = .type "tuple" /\ o.dict = none) \/
   (T = "dict" /\ ((∃ kvs,H p = some (.dK kvs)) \/ ∃ kvs,H p = some (.dT kvs))) \/ (T = "set" /\ ∃ S n,H p = some (.set S n))
 | _=>False
theorem qk0 {pins:List (Addr × Obj)} {σ:St} {H:Hp} {s:Shared} {T:String} {x:V} {v:Value} (I:Inv X pins σ H s) (r:RelV x v) (ty:tyV X.K T x H) :
  s.TypeIs v T /\ ∀ a,v = .ref a -> ∃ ob,s.heap.get? a = some ob /\ ob.dict = none:=by
 cases x with
 | str z =>
  obtain ⟨t,rfl⟩:=r
  cases (show T = "str" from ty)
  exact ⟨typeIs_str s z t,fun _ e=>nomatch e⟩
 | int i =>
  obtain ⟨t,rfl⟩:=r
  cases (show T = "int" from ty)
  exact ⟨typeIs_int s i t,fun _ e=>nomatch e⟩
 | ref p =>
  cases r
  rcases ty with ⟨rfl,xs,hq⟩ | ⟨rfl,o,hk,hc,hd⟩ | ⟨rfl,hk⟩ | ⟨rfl,S,n,hk⟩
  ·refine x1_3 (I.list hq) fun its _ pl _=>?_
   refine ⟨pl.isList.typeIs,fun a e=>?_⟩
   cases e
   refine x2_4 pl fun o n e c hd _=>?_
   clear pl
   exact ⟨o,e,hd⟩
  ·refine ⟨⟨o,I.kIn p o hk,hc⟩,fun a e=>?_⟩
   cases e
   exact ⟨o,I.kIn _ o hk,hd⟩
  ·have z:∃ o,s.heap.get? p = some o /\ o.ExactDict:=by
    rcases hk with ⟨kvs,hk⟩ | ⟨kvs,hk⟩
    ·obtain ⟨_,_,_,_,o,_,_,e,ex,_⟩:=I.hok p _ hk
     exact ⟨o,e,ex⟩
    ·obtain ⟨_,_,_,_,o,_,_,e,ex,_⟩:=I.hok p _ hk
     exact ⟨o,e,ex⟩
   refine x1_2 z fun o e ex=>?_
   clear z
   refine ⟨⟨o,e,ex.1⟩,fun a e2=>?_⟩
   cases e2
   exact ⟨o,e,ex.2.1⟩
  ·refine x4_3 (I.hok p _ hk) fun o _ _ _ e ex _=>?_
   refine ⟨⟨o,e,ex.1⟩,fun a e2=>?_⟩
   cases e2
   exact ⟨o,e,ex.2.1⟩
 | _=>exact False.elim ty
noncomputable def tBM (K:PySem.W.Frag) (T:String) (r:V -> List V -> Hp -> VK -> Prop) (to:TE) (t:TA):TE:=fun σ H Q=>to σ H fun x H1=>tyV K T x H1 /\ t σ H1 fun xs H2=>r x xs H2 Q
variable {o e:Expr} {es:List Expr} {to:TE} {t:TA} {name:Str} {apos cpos:Pos} {T id:String} {r:V -> List V -> Hp -> VK -> Prop}
theorem qq4 (pa:PlainAttrs T) (slot:Slot T name id) (hty:typeOf (.builtin id) = pure (.type "method_descriptor")) (hm:MtR X id r) (ho:PE X o to) (ha:PA X (e :: es) t)
  (hbase:attributeBase o name X.env (eval o X.env) = eval o X.env:=by rfl)
  (hfew:((backTo cpos (starEach (e :: es) X.env)).all (fun x=>!x.1) && (backToKw cpos (keywordEach [] X.env)).all (fun x=>x.1.isSome)
   && decide ((e :: es).length + ([]:List Keyword).length + (if ([]:List Keyword).isEmpty then 0 else 1) < 30)) = true:=by rfl)
  (hline:(apos.endLine == cpos.line) = true:=by rfl) (hs:starEach (e :: es) X.env = (false,eval e X.env) :: starEach es X.env:=by rfl) (hplain:(backTo cpos (starEach es X.env)).any (·.1) = false:=by rfl) :
  PE X (.Call (.Attribute o name apos) (e :: es) [] cpos) (tBM X.K T r to t):=by
 intro pins s σ H Q I h
 refine wpAny_Call_method_late hbase hfew hline rfl (thn (ho pins s σ H _ I h) fun v s1 zz189=>?_)
 refine x2_4 zz189 fun x H1 I1 r1 ty q1=>?_
 clear zz189
 obtain ⟨h1,h2⟩:=qk0 I1 r1 ty
 refine ⟨T,id,pa,slot,hty,h1,h2,?_⟩
 have hA:=ha cpos pins s1 σ H1 _ I1 q1
 rw [hs] at hA ⊢
 refine Calls.callWith_builtin (by show (false || (backTo cpos (starEach es X.env)).any (·.1)) = false; rw [hplain] <;> rfl) (Calls.evalArgs_plain ?_)
 exact thn hA fun us s2 zz190=>zz190.elim fun vs zz191=>zz191.elim fun H2 zz192=>zz192.elim fun I2 zz193=>zz193.elim fun r2 q2=>hm pins s2 σ H2 x vs v us Q I2 r1 r2 q2
end
end L2
namespace L2
open PySem PySem.Spec PyProof.Rows
noncomputable def MtM (X:Cx) (id:String) (r:V -> List V -> Hp -> VK -> Prop):Prop :=
 ∀ (pins:List (Addr × Obj)) (s:Shared) (σ:St) (H:Hp) (x:V) (xs:List V) (v:Value) (us:List Value) (Q:VK),Inv X pins σ H s -> RelV x v -> Vals xs us -> r x xs H Q ->
  wpAny (model X.prog X.w) X.A (call (.builtin id) (v :: us)) (EP X pins σ Q) X.xe s
theorem Vals.inv {x:V} {xs:List V} {us:List Value} (h:Vals (x :: xs) us):∃ u vs,us = u :: vs /\ RelV x u /\ Vals xs vs:=by
 cases h with
 | cons r t=>exact ⟨_,_,rfl,r,t⟩
theorem Vals.zero {us:List Value} (h:Vals [] us):us = []:=by
 cases h
 rfl
theorem Vals.one {x:V} {us:List Value} (h:Vals [x] us):∃ u,us = [u] /\ RelV x u:=by
 refine x2_3 h.inv fun u vs zo2 r t=>?_
 obtain rfl:=zo2
 obtain rfl:=t.zero
 exact ⟨u,rfl,r⟩
theorem Vals.two {x y:V} {us:List Value} (h:Vals [x,y] us):∃ u v,us = [u,v] /\ RelV x u /\ RelV y v:=by
 refine x2_3 h.inv fun u vs zo2 r t=>?_
 obtain rfl:=zo2
 refine x1_2 t.one fun v zo1 q=>?_
 obtain rfl:=zo1
 exact ⟨u,v,rfl,r,q⟩
theorem Vals.eraseIdx:∀ {xs:List V} {us:List Value} (i:Nat),Vals xs us -> Vals (xs.eraseIdx i) (us.eraseIdx i)
 | _,_,_,.nil=>.nil
 | _,_,0,.cons _ t=>t
 | _,_,i + 1,.cons r t=>.cons r (Vals.eraseIdx i t)
theorem Vals.reverse {xs:List V} {us:List Value} (h:Vals xs us):Vals xs.reverse us.reverse:=by
 induction h with
 | nil=>exact .nil
 | cons r t ih=>rw [List.reverse_cons,List.reverse_cons]; exact Vals.append ih (.cons r .nil)
theorem Vals.rep {xs:List V} {us:List Value} (h:Vals xs us):∀ k:Nat,Vals (List.replicate k xs).flatten (List.replicate k us).flatten
 | 0=>.nil
 | k + 1=>by
  rw [List.replicate_succ,List.replicate_succ,List.flatten_cons,List.flatten_cons]
  exact Vals.append h (Vals.rep h k)
theorem jv6 (its:List Value):∀ (k:Nat) (acc:List Value),
  List.foldl (fun x1 x2=>x1 ++ x2) acc.toArray (List.replicate k its.toArray) = (acc ++ (List.replicate k its).flatten).toArray
 | 0,acc=>by simp
 | k + 1,acc=>by
  have e:acc.toArray ++ its.toArray = (acc ++ its).toArray:=by simp
  have e2:(acc ++ its) ++ (List.replicate k its).flatten = acc ++ (List.replicate (k + 1) its).flatten:=by
   rw [List.replicate_succ,List.flatten_cons,List.append_assoc]
  rw [<- e2,<- jv6 its k (acc ++ its),<- e,List.replicate_succ,List.foldl_cons]
section
variable {X:Cx} {pins:List (Addr × Obj)} {σ:St} {H:Hp} {s:Shared} {l b:Addr} {xs ys zs:List V}
theorem Inv.lset {its its':List Value} {n:Nat} {f:Array Value -> Array Value} {t':Nat} (I:Inv X pins σ H s) (hH:H l = some (.lst xs))
  (e:s.heap.get? l = some { cls:=.type "list",data:=.seq its.toArray n }) (hf:f its.toArray = its'.toArray) (hv:Vals ys its') (hz:ys.length <= sizeLine) :
  Inv X pins σ (upd H l (.lst ys)) { s with heap:=s.heap.update l (Obj.mapSeq f),toks:=t' }:=by
 have q:=PySem.IsL.update e f
 rw [hf] at q
 refine I.write (x:=l) (e:=l) (by rw [hH]; exact trivial) (.inl rfl) (fun b' u hb hu=>(Heap.get?_update_other s.heap (Obj.mapSeq f) (Ne.symm hb)).trans hu) ⟨_,q⟩ ?_
 exact ⟨hz,its',_,hv,q⟩
theorem Inv.lnew {its:List Value} {t':Nat} (I:Inv X pins σ H s) (hv:Vals ys its) (hz:ys.length <= sizeLine) :
  Inv X pins σ (upd H s.heap.objs.size (.lst ys)) { s with heap:=s.heap.push { cls:=.type "list",data:=.seq its.toArray },toks:=t' } :=
 I.laid (fun _ _ q=>Heap.get?_push_of_some _ q) (Nat.le_refl _) ⟨hz,its,0,hv,Heap.get?_push_size _ rfl⟩
theorem Inv.fresh (I:Inv X pins σ H s):H s.heap.objs.size = none:=I.hok.fresh (Nat.le_refl _)
theorem Inv.lstM (I:Inv X pins σ H s) (hH:H l = some (.lst xs)):xs.length <= sizeLine /\ ∃ (its:List Value) (n:Nat),Vals xs its /\ xs.length = its.length /\ s.heap.get? l = some { cls:=.type "list",data:=.seq its.toArray n }:=by
 obtain ⟨z,its,n,r,e⟩:=I.hok l _ hH
 exact ⟨z,its,n,r,r.length,e⟩
theorem ks2 {n:Nat} (h:n <= sizeLine):Builtin.List.listTooLong n = false:=by
 unfold Builtin.List.listTooLong
 exact decide_eq_false (by lia)
end
section
variable {X:Cx}
noncomputable def ko7:V -> List V -> Hp -> VK -> Prop:=fun x vs H Q=>∃ l xs y,x = .ref l /\ vs = [y] /\ H l = some (.lst xs) /\ xs.length < sizeLine /\ Q .non (upd H l (.lst (xs ++ [y])))
theorem jt2:MtM X "list.append" ko7:=by
 intro pins s σ H x vs v us Q I rx rv h
 refine x3_5 h fun l xs y zo3 zo4 hH hz q=>?_
 clear h
 obtain rfl:=zo3
 obtain rfl:=zo4
 cases rx
 refine x1_2 rv.one fun u zo1 ru=>?_
 obtain rfl:=zo1
 obtain ⟨z,its,n,r,hl,e⟩:=I.lstM hH
 refine call_meets F.slot_list_append ⟨_,e,rfl⟩ F.entry_list_append (F.args_list_append_2 _ _) (PySem.list_append l its.toArray n u (by rw [List.size_toArray]; lia)) ⟨e,?_⟩
 refine ⟨.non,_,I.lset (its':=its ++ [u]) hH e (by simp) (r.append (.cons ru .nil)) ?_,rfl,q⟩
 rw [List.length_append,List.length_singleton]
 lia
noncomputable def rRep:R2:=fun x y H Q=>∃ l k xs,x = .ref l /\ y = .int k /\ H l = some (.lst xs) /\ -(2 ^ 63) <= k /\ k < 2 ^ 63 /\ xs.length * k.toNat <= sizeLine /\
 ∀ p,H p = none -> Q (.ref p) (upd H p (.lst (List.replicate k.toNat xs).flatten))
theorem qe1 {α:Type} (xs:List α) (k:Nat):(List.replicate k xs).flatten.length = k * xs.length:=by
 induction k with
 | zero=>simp
 | succ k ih=>rw [List.replicate_succ,List.flatten_cons,List.length_append,ih,Nat.succ_mul,Nat.add_comm]
theorem qk7:OpR X (binaryOp .Mult) rRep:=by
 intro pins s σ H x y v u Q I rx ry h
 refine x3_7 h fun l k xs zo3 zo4 hH h1 h2 hz q=>?_
 clear h
 obtain rfl:=zo3
 obtain rfl:=zo4
 cases rx
 obtain ⟨t,rfl⟩:=ry
 obtain ⟨z,its,n,r,hl,e⟩:=I.lstM hH
 have hlen:its.toArray.size * k.toNat <= sizeLine:=by rw [List.size_toArray,<- hl]; exact hz
 have hcap:¬ its.toArray.size * k.toNat > (2 ^ 63 - 1) / 8:=by
  have:(sizeLine:Nat) <= (2 ^ 63 - 1) / 8:=by decide
  lia
 have hfit:¬ (!Builtin.List.listFitsIndex k) = true:=by
  rw [fitsIndex_both h1 h2]
  exact Bool.false_ne_true
 have hlong:¬ Builtin.List.listTooLong (its.toArray.size * k.toNat) = true:=by
  rw [ks2 hlen]
  exact Bool.false_ne_true
 have hnew:List.foldl (fun x1 x2=>x1 ++ x2) #[] (List.replicate (if its.toArray.isEmpty = true then 0 else k.toNat) its.toArray) = (List.replicate k.toNat its).flatten.toArray:=by
  have f0:∀ m:Nat,List.foldl (fun x1 x2=>x1 ++ x2) #[] (List.replicate m its.toArray) = (List.replicate m its).flatten.toArray:=fun m=>by
   have:=jv6 its m []
   rw [List.nil_append] at this
   exact this
  rw [f0]
  cases its with
  | nil=>simp
  | cons a r'=>rw [if_neg (by simp)]
 refine wpAny_binaryOp_repeat_ref (T:="list") (U:="int") (by decide) ⟨_,e,rfl⟩ (fun s'=>typeIs_int s' k t) noFill_list_mul F.fills_int_mul F.slot_int_rmul repeat_list F.slot_int_index.lookup
  (call_meets F.slot_int_rmul (typeIs_int s k t) F.entry_int_rmul (F.args_int_rmul_2 _ _) (int___rmul___int_list k t l its.toArray n)
   ⟨e,rfl,⟨_,e,rfl⟩,call_meets F.slot_list_mul ⟨_,e,rfl⟩ F.entry_list_mul (F.args_list_mul_2 _ _) (AutoListH.list___mul___list_int_3 l its.toArray n k t hfit hcap hlong) ⟨e,?_⟩⟩)
 rw [hnew]
 exact ⟨.ref _,_,I.lnew (t':=s.toks) (r.rep k.toNat) (by rw [qe1,Nat.mul_comm]; exact hz),rfl,q _ I.fresh⟩
end
section
variable {prog:Program} {w:World} {A:Around} {E:Value -> Shared -> Prop} {s:Shared}
end
section
variable {X:Cx}
end
end L2
namespace Att
open PySem PySem.W PySem.Calls PyProof.Rows
theorem jn4 {P:Params} {h:Heap}:∀ (ns:List Int) (vs:List Value),WellAll P h vs (ns.map WData.int) -> IntsAre vs ns:=by
 intro ns
 induction ns with
 | nil =>
  intro vs w
  rw [List.map_nil] at w
  cases w
  exact .nil
 | cons n ns ih =>
  intro vs w
  rw [List.map_cons] at w
  cases w with
  | cons a b =>
   cases a
   exact .cons _ _ (ih _ b)
theorem ko4 {l:OpenLaw} {n:Nat} (hn:l.most = some n) {P:Params} {h:Heap} {args:List WData} {vals:List Value}
  (hpre:l.row.toRowW.claim.pre args = true) (hwl:WellAll P h vals args) :
  ∃ a vs ns,vals = [Value.ref a] /\ args = [WData.list (ns.map WData.int)] /\ h.get? a = some { cls:=.type "list",data:=.seq vs.toArray } /\ IntsAre vs ns /\ ns.length <= n:=by
 have hsh:WShape.hasAll [] args [.list .int] = true:=(pre_splitW hpre).1
 have hc:l.pre.holds [] { args:=args } = true:=(pre_splitW hpre).2
 refine x2_3 (hasAllW_cons hsh) fun d r zo2 h1 h2=>?_
 obtain rfl:=zo2
 obtain rfl:=hasAllW_nil h2
 refine x1_2 (hasW_list h1) fun xs zo1 h3=>?_
 obtain rfl:=zo1
 obtain ⟨ns,rfl⟩:=items_int h3
 have hlen:ns.length <= n:=by
  unfold OpenLaw.pre at hc
  have h4:(WTm.not (.lt (.lit (.int (n:Int))) (.len (.arg 0)))).holds [] { args:=[.list (ns.map .int)] } = true:=by
   have h4:=(holds_andW hc).1
   rw [hn] at h4
   exact h4
  have h5:=condW_of h4 (w_not (w_lt w_lit (w_len_list (w_arg rfl))))
  rw [List.length_map] at h5
  refine Nat.le_of_not_lt fun q=>?_
  have q':(n:Int) < ((ns.length:Nat):Int):=by lia
  first
   | (rw [decide_eq_true q'] at h5; exact absurd h5 (by decide))
   | (simp at h5; lia)
 cases hwl with
 | cons w1 w2 =>
  cases w2
  cases w1 with
  | list ho hall=>exact ⟨_,_,ns,rfl,rfl,ho,jn4 ns _ hall,hlen⟩
theorem kj5 (l:OpenLaw) (args:List WData):l.row.toRowW.claim.post args (.bool true) args = true :=
 postW_of (r:=l.row.toRowW) (X:=(true == true))
  (show WShape.has [] (.bool true) .bool = true by first | rfl | decide | simp [WShape.has,WShape.arms,WShape.armsAll])
  (show (WTm.eq .res (.lit (.bool true))).value [] { args:=args,res:=some (.bool true),after:=args } = some (.bool (true == true)) from w_eq_bool (w_res rfl) w_lit) rfl
theorem attach_call {l:OpenLaw} {n:Nat} {q:Program} {loose:List Str} {XP:(Str -> Option Value) -> Heap -> Prop} {YP:World -> Heap -> Prop} {d:DefRec}
  (hn:l.most = some n) (hdf:d.params.defaults = [])
  (call:∀ (w:World) (s₀ s₁:Shared) (mg mb:Str -> Option Value) (fa:Addr) (o:Obj) (pm cd doc:Value) (a:Addr) (vs:List Value) (ns:List Int),
   Ground q loose [] XP w s₀ mg mb s₁.heap -> YP w s₁.heap ->
   s₁.heap.get? fa = some o -> o.data = .func (docDef d.name d.params d.body d.scope pm cd doc) -> s₁.heap.CodeRec cd d.name -> mg d.name = some (.ref fa) ->
   s₁.heap.get? a = some { cls:=.type "list",data:=.seq vs.toArray } -> IntsAre vs ns -> ns.length <= n -> s₁.gens = #[] ->
   codeAny (model l.prog w) callerA (.call (.ref fa) ⟨[.ref a],[]⟩) (fun r s'=>r = .ok (.ret (.bool true)) /\ OldK s₁.heap s'.heap /\ s'.os = s₁.os /\ AllBare s'.gens) s₁) :
  WalkO q loose XP YP l.row.toRowW d [] (fun f vs=>PySem.call f vs):=by
 intro w s₀ s₁ mg mb G Y fa o pm cd doc dV kV ho hd hcd hD hmg hg args vals as hpre hlay hrd hwl hlo
 obtain rfl:dV = .none:=Dflts.none hD hdf
 obtain rfl:kV = .none:=Dflts.noKw hD
 refine x3_5 (ko4 hn hpre hwl) fun a vs ns zo3 zo4 hobj hints hlen=>?_
 obtain rfl:=zo3
 obtain rfl:=zo4
 refine enter_call (codeAny_mono (call w s₀ s₁ mg mb fa o pm cd doc a vs ns G Y ho (fd_plain hd) hcd hmg hobj hints hlen hg) fun r s' hq=>?_)
 refine x0_4 hq fun zo0 h2 h3 h4=>?_
 clear hq
 obtain rfl:=zo0
 exact ⟨.inl ⟨.bool true,.bool true,[],rfl,fun _=>rfl,.bool true,kj5 l _,fun _=>⟨List.Pairwise.nil,fun _ hm=>(nomatch hm)⟩⟩,h2,h3,h4⟩
section
variable {prog:Program} {w:World} {A:Around} {E:Value -> Shared -> Prop} {s:Shared} {K:Frag}
end
end Att
namespace L2
open PySem PySem.Spec PyProof.Rows
theorem jv7:∀ {vs:List Value} {ns:List Int},IntsAre vs ns -> Vals (ns.map V.int) vs
 | _,_,.nil=>.nil
 | _,_,.cons n t h=>.cons ⟨t,rfl⟩ (jv7 h)
noncomputable def Only (H:Hp):Prop:=∀ b,H b = none \/ ∃ o xs,H b = some (.frz o (.lst xs))
theorem ku6 {P:Program} {w:World} {K:PySem.W.Frag} {mg mb:Str -> Option Value} {CX:CXT} {k:Nat} {fa a:Addr} {fd:FuncData} {x:Str} {sp:Sp} {s₁:Shared} {vs:List Value} {ns:List Int}
  (KX:K.In s₁.heap) (hns:s₁.heap.Ns mainGlobals mg) (hb:s₁.heap.Ns builtinsNs mb) (hbb:∀ x:Str,x ≠ "__name__" -> mb x = bootBuiltins x) (hlim:s₁.heap.NoLimit) (hg:s₁.gens = #[])
  (ha:s₁.heap.get? a = some { cls:=.type "list",data:=.seq vs.toArray }) (hi:IntsAre vs ns) (hl:ns.length <= sizeLine) (hr:Room k callerA)
  (F:∀ base:Heap,K.In base -> base.Ns mainGlobals mg -> FnOk P w K mg base CX k fa fd [x] sp) (hbind:∀ (s:Shared) (u:Value),BindsTo s fd ⟨[u],[]⟩ [(x,u)])
  (hsp:∀ H:Hp,Only H -> SqL K H a (ns.map V.int) -> sp [.ref a] H (fun v _=>v = .bl true) fun _ _ _=>False)
  (hCX:∀ H e s',CX [] H s₁ (fun _ _ _=>False) e s' -> False) :
  codeAny (model P w) callerA (.call (.ref fa) ⟨[.ref a],[]⟩) (fun r s'=>r = .ok (.ret (.bool true)) /\ OldK s₁.heap s'.heap /\ s'.os = s₁.os /\ AllBare s'.gens) s₁:=by
 have rv:=jv7 hi
 have lenV:=hi.length
 have core:∀ H:Hp,Only H -> SqL K H a (ns.map V.int) -> HOk P w H s₁.heap -> (∀ b,H b ≠ none -> b = a) -> (H a ≠ none -> K.lookup a = none) ->
   codeAny (model P w) callerA (.call (.ref fa) ⟨[.ref a],[]⟩) (fun r s'=>r = .ok (.ret (.bool true)) /\ OldK s₁.heap s'.heap /\ s'.os = s₁.os /\ AllBare s'.gens) s₁:=by
  intro H hO hS hok hA hK
  have jq5:∀ {b:Addr} {o:Obj},s₁.heap.get? b = some o -> H b = none -> (hidT s₁.heap H).get? b = some o:=fun e n=>kr1 e n
  have noA:∀ {b:Addr} {o:Obj} {es:Array DictEntry} {ep:Nat},s₁.heap.get? b = some o -> o.data = .dict es ep -> H b = none:=fun {b o es ep} e d=>by
   cases q:H b with
   | none=>rfl
   | some u =>
    have e':b = a:=hA b (by rw [q]; simp)
    subst e'
    rw [ha] at e; cases e
    have d':Data.seq vs.toArray _ = Data.dict es ep:=d
    cases d'
  have nsK:∀ {b:Addr} {m:Str -> Option Value},s₁.heap.Ns b m -> (hidT s₁.heap H).Ns b m:=fun {b m} zz194=>zz194.elim fun o zz195=>zz195.elim fun es zz196=>zz196.elim fun ep zz197=>zz197.elim fun e zz198=>zz198.elim fun d r=>⟨o,es,ep,jq5 e (noA e d),d,r⟩
  have hKb:K.In (hidT s₁.heap H):=fun b o e=>jq5 (KX b o e) (by
   cases q:H b with
   | none=>rfl
   | some u =>
    have e':b = a:=hA b (by rw [q]; simp)
    subst e'
    rw [hK (by rw [q]; simp)] at e; cases e)
  have hM:Mod K mg (hidT s₁.heap H):=⟨hKb,nsK hns,⟨mb,nsK hb,hbb⟩,let ⟨mc,h1,h2⟩:=hlim; ⟨mc,nsK h1,h2⟩⟩
  have e0:Env0 P w K mg (hidT s₁.heap H) callerA [] s₁ H:=⟨rfl,hM,fun b o e=>qe9 e,Nat.le_of_eq (kn0 _ _),trivial,fun b hb=>absurd (show b ∈ ([]:List Addr) from hb) (by simp),hok,.of_eq hg⟩
  refine codeAny_mono ((F _ hKb (nsK hns)).run callerA [] s₁ H ⟨[.ref a],[]⟩ [.ref a] [.ref a] _ _ hr e0 (hbind s₁ (.ref a)) (.cons rfl .nil) (hsp H hO hS)) fun r s' h=>?_
  cases r with
  | error e=>exact (hCX H e s' h).elim
  | ok fl =>
   cases fl with
   | next=>exact False.elim h
   | brk=>exact False.elim h
   | cont=>exact False.elim h
   | ret u =>
    refine x2_6 h fun v H' os bare un hok' r' q=>?_
    clear h
    have q':v = .bl true:=q
    subst q'
    obtain rfl:u = Value.bool true:=r'
    refine ⟨rfl,OldK.of_keep fun b o e=>?_,os,bare⟩
    cases q:H b with
    | none=>exact un.keep b o e q (by intro z; exact absurd (show b ∈ ([]:List Addr) from z) (by simp)) (by simp)
    | some u =>
     rcases hO b with z | ⟨ob,xs,z⟩
     ·rw [q] at z; cases z
     ·have z2:=un.frzs b ob _ z
      obtain ⟨e1,_⟩:=hok b _ z
      obtain ⟨e2,_⟩:=hok' b _ z2
      rw [e] at e1; cases e1
      exact e2
 cases hk:K.lookup a with
 | some o =>
  have e:=KX a o hk
  rw [ha] at e
  cases e
  refine core (fun _=>none) (fun _=>.inl rfl) (.inr ⟨_,vs.toArray,_,hk,rfl,rfl,rfl,by rw [List.size_toArray,lenV]; exact hl,by simpa using rv⟩) (fun b u z=>by have z':(none:Option HO) = some u:=z; cases z') (fun b z=>absurd rfl z) fun z=>absurd rfl z
 | none =>
  refine core (fun b=>if b = a then some (.frz { cls:=.type "list",data:=.seq vs.toArray } (.lst (ns.map V.int))) else none) (fun b=>?_) (.inl (.inr ⟨{ cls:=.type "list",data:=.seq vs.toArray },if_pos rfl⟩)) (fun b u z=>?_) (fun b z=>?_) fun _=>hk
  ·by_cases hb:b = a
   ·exact .inr ⟨_,_,if_pos hb⟩
   ·exact .inl (if_neg hb)
  ·by_cases hb:b = a
   ·have z':=(if_pos hb).symm.trans z
    cases z'
    subst hb
    exact ⟨ha,by rw [List.length_map]; exact hl,vs,_,rv,ha⟩
   ·have z':=(if_neg hb).symm.trans z
    cases z'
  ·by_cases hb:b = a
   ·exact hb
   ·exact absurd (if_neg hb) z
end L2
namespace L2
open PySem PySem.Spec PyProof.Rows
theorem walk_of {l:PySem.W.OpenLaw} {n k:Nat} {q:Program} {loose:List Str} {XP:(Str -> Option Value) -> Heap -> Prop} {YP:World -> Heap -> Prop} {d:DefRec} {K:Params -> PySem.W.Frag} {CX:World -> CXT} {sp:World -> Sp} {x:Str}
  (hn:l.most = some n) (hn2:n <= sizeLine) (hdf:d.params.defaults = []) (hr:Room k callerA)
  (hY:∀ (w:World) (h:Heap),YP w h -> (K w.params).In h)
  (F:∀ (w:World) (mg:Str -> Option Value) (fa:Addr) (h:Heap),(K w.params).In h -> h.Ns mainGlobals mg -> mg d.name = some (.ref fa) ->
   ∃ fd:FuncData,(∀ (s:Shared) (u:Value),BindsTo s fd ⟨[u],[]⟩ [(x,u)]) /\
    ∀ base:Heap,(K w.params).In base -> base.Ns mainGlobals mg -> FnOk l.prog w (K w.params) mg base (CX w) k fa fd [x] (sp w))
  (hsp:∀ (w:World) (H:Hp) (a:Addr) (ns:List Int),ns.length <= n -> Only H -> SqL (K w.params) H a (ns.map V.int) -> sp w [.ref a] H (fun v _=>v = .bl true) fun _ _ _=>False)
  (hCX:∀ (w:World) (H:Hp) (s:Shared) (e:Value) (s':Shared),CX w [] H s (fun _ _ _=>False) e s' -> False) :
  PySem.W.WalkO q loose XP YP l.row.toRowW d [] (fun f vs=>PySem.call f vs):=by
 refine Att.attach_call hn hdf fun w s₀ s₁ mg mb fa o pm cd doc a vs ns G Y ho hd hcd hmg hobj hints hlen hg=>?_
 have KX:=hY w _ Y
 refine x1_2 (F w mg fa _ KX G.T.g hmg) fun fd hb hF=>?_
 exact ku6 KX G.T.g G.T.b G.T.builtins G.T.nolimit hg hobj hints (Nat.le_trans hlen hn2) hr hF hb (fun H hO hS=>hsp w H a ns hlen hO hS) fun H e s'=>hCX w H s₁ e s'
end L2
namespace L2
open PySem PySem.Spec PyProof.Rows
noncomputable def qg1 (s:Stmt) (j:Nat):Stmt:=match s with
 | .ClassDef _ _ _ body _ _ _ _ _ _ _=>body.getD j (.Pass ⟨0,0,0,0⟩)
 | _=>.Pass ⟨0,0,0,0⟩
noncomputable def w8 (s:Stmt):Arguments:=match s with
 | .FunctionDef _ a _ _ _ _ _ _ _ _=>a
 | _=>{ posonlyargs:=[],args:=[],vararg:=none,kwonlyargs:=[],kw_defaults:=[],kwarg:=none,defaults:=[] }
noncomputable def v3 (s:Stmt):List Stmt:=match s with
 | .FunctionDef _ _ b _ _ _ _ _ _ _=>b
 | _=>[]
noncomputable def j4 (s:Stmt):Scope:=match s with
 | .FunctionDef _ _ _ _ _ _ sc _ _ _=>sc
 | _=>{ kind:=.function,names:=[],isGenerator:=false,isCoroutine:=false }
noncomputable abbrev CX0:CXT:=fun _ _ _ _ _ _=>False
noncomputable abbrev E0:XK:=fun _ _ _=>False
structure Fun (K:PySem.W.Frag) (x qual:Str) (st:Stmt) (f:Addr) (fd:FuncData):Prop where
 ex:∃ (oc:Value) (od:Option Addr) (kV doc pm:Value) (an:Option Addr) (cdv ct:Value) (osl:Array (Option Value)),
  fd = PySem.W.fnOf x qual (w8 st) (v3 st) (j4 st) .none kV doc pm an cdv ct /\ K.lookup f = some ⟨oc,od,.func fd,osl⟩ /\ PySem.W.codeIn K cdv qual = true
 kp:PySem.W.keepIn K (.ref f) = true
section
variable {P:Program} {w:World} {K:PySem.W.Frag} {mg:Str -> Option Value} {base:Heap}
theorem Fun.ok {x qual:Str} {st:Stmt} {f:Addr} {fd:FuncData} {N ps:List Str} {k:Nat} {sp:Sp} (F:Fun K x qual st f fd) (S:FnScope N ps (j4 st)) (len:∀ vs H Q E,sp vs H Q E -> vs.length = ps.length)
  (hbody:∀ (cdv:Value) (A:Around) (outer:List Env) (s:Shared) (H:Hp) (vs:List V) (Q:VK) (E:XK),Room k (A.deeper (envOfC qual (j4 st) s.heap.objs.size f cdv)) -> sp vs H Q E ->
   ∃ t,PSs (cxOf CX0 P w K mg base N qual (j4 st) f cdv A outer s H E).nox (v3 st) t /\ t { nx:=fun _ H'=>Q .non H',rt:=Q } (start N vs) H):FnOk P w K mg base CX0 (k + 1) f fd ps sp:=by
 refine x9_3 F.ex fun oc od kV doc pm an cdv ct osl zo9 lk hcd=>?_
 obtain rfl:=zo9
 refine qo4 lk hcd S len fun A outer s H vs Q E hr hsp=>?_
 refine x1_2 (hbody cdv A outer s H vs Q E hr hsp) fun t h q=>?_
 exact ⟨t,h.nox,q⟩
theorem Fun.binds {x qual:Str} {st:Stmt} {f:Addr} {fd:FuncData} {ps:List Str} (F:Fun K x qual st f fd)
  (h:∀ (kV doc pm:Value) (an:Option Addr) (cdv ct:Value) (us:List Value),us.length = ps.length -> bindArgs (PySem.W.fnOf x qual (w8 st) (v3 st) (j4 st) .none kV doc pm an cdv ct) ⟨us,[]⟩ = pure (ps.zip us)):Binds K fd ps []:=by
 refine x9_3 F.ex fun oc od kV doc pm an cdv ct osl zo9 lk hcd=>?_
 obtain rfl:=zo9
 exact .all (h kV doc pm an cdv ct)
theorem kd0 {x qual:Str} {st:Stmt} {f:Addr} {oc:Value} {od an:Option Addr} {osl:Array (Option Value)} {kV doc pm cdv ct:Value} (l:K.lookup f = some ⟨oc,od,.func (PySem.W.fnOf x qual (w8 st) (v3 st) (j4 st) .none kV doc pm an cdv ct),osl⟩)
  (c:PySem.W.codeIn K cdv qual = true) (k:PySem.W.keepIn K (.ref f) = true):Fun K x qual st f (PySem.W.fnOf x qual (w8 st) (v3 st) (j4 st) .none kV doc pm an cdv ct):=⟨⟨oc,od,kV,doc,pm,an,cdv,ct,osl,rfl,l,c⟩,k⟩
end
section
variable {X:Cx}
theorem pv (i:Nat) {x:Str} {pos:Pos} (hN:X.N[i]? = some x:=by rfl) (hv:Vis X.env.scope x:=by first | exact Or.inl rfl | exact Or.inr (Or.inl rfl) | exact Or.inr (Or.inr rfl)) (hd:(x == ("__debug__" : Str)) = false:=by decide)
  (hcd:(x == ("__classdict__" : Str)) = false:=by decide):PE X (.Name x pos) (tVar i):=qo8 hN hv hd hcd
end
noncomputable def Same (H H':Hp):Prop:=∀ b o,H b = some o -> H' b = some o
theorem Same.refl (H:Hp):Same H H:=fun _ _ h=>h
theorem Same.trans {H H1 H2:Hp} (a:Same H H1) (b:Same H1 H2):Same H H2:=fun c o h=>b c o (a c o h)
theorem Same.free {H H':Hp} (e:Same H H') {l:Addr} (h:H' l = Option.none):H l = Option.none:=by
 cases q:H l with
 | none=>rfl
 | some o =>
  rw [e l o q] at h
  cases h
theorem Same.seq {K:PySem.W.Frag} {H H':Hp} {a:Addr} {xs:List V} (e:Same H H') (h:SqL K H a xs):SqL K H' a xs:=by
 rcases h with (h | ⟨o,h⟩) | h
 ·exact .inl (.inl (e _ _ h))
 ·exact .inl (.inr ⟨o,e _ _ h⟩)
 ·exact .inr h
end L2
end T_PpL
section T_Xd
namespace Dm
open PySem PySem.Spec PyProof.Rows L2
noncomputable def XD (dx:Option Addr) (a:Addr) (h:Heap):Prop:=∀ d,dx = some d -> ∃ o,h.get? a = some o /\ o.dict = some d
theorem XD.no {a:Addr} {h:Heap}:XD none a h:=fun _ z=>nomatch z
theorem XD.keeps {dx:Option Addr} {a:Addr} {h h':Heap} (x:XD dx a h) (k:∀ o,h.get? a = some o -> ∃ o',h'.get? a = some o' /\ o'.dict = o.dict):XD dx a h':=fun d z=>by
 obtain ⟨o,e,ed⟩:=x d z
 obtain ⟨o',e',ed'⟩:=k o e
 exact ⟨o',e',ed'.trans ed⟩
noncomputable def ki6 (f:Obj -> Obj):Prop:=∀ o,(f o).dict = o.dict /\ (o.isFreed = false -> (f o).isFreed = false)
inductive KD {α:Type}:Sem α -> Prop
 | ret (a:α):KD (.pure a)
 | exc (e:Value):KD (.raise e)
 | no (w:String):KD (.unsupported w)
 | load {a:Addr} {pt:Option Value} {k:Obj -> Sem α} (h:∀ o,KD (k o)):KD (.load a pt k)
 | upd {a:Addr} {pt:Option Value} {f:Obj -> Obj} {k:Unit -> Sem α} (hf:ki6 f) (h:KD (k ())):KD (.update a pt f k)
 | alloc {o:Obj} {k:Addr -> Sem α} (h:∀ a,KD (k a)):KD (.alloc o k)
 | stack {k:List (Code × Pos) -> Sem α} (h:∀ l,KD (k l)):KD (.stack k)
theorem KD.bind {α β:Type} {m:Sem α} {f:α -> Sem β} (hm:KD m) (hf:∀ a,KD (f a)):KD (m >>= f):=by
 show KD (Sem.bind m f)
 induction hm with
 | ret a=>exact hf a
 | exc e=>exact .exc e
 | no w=>exact .no w
 | load _ ih=>exact .load ih
 | upd z _ ih=>exact .upd z ih
 | alloc _ ih=>exact .alloc ih
 | stack _ ih=>exact .stack ih
theorem XD.upd {dx:Option Addr} {a b:Addr} {h:Heap} {f:Obj -> Obj} (x:XD dx a h) (hf:ki6 f):XD dx a (h.update b f):=x.keeps fun o e=>by
 by_cases z:b = a
 ·subst z
  exact ⟨f o,Heap.get?_update_self f e ((hf o).2 (Heap.get?_some_iff.mp e).2),(hf o).1⟩
 ·exact ⟨o,(Heap.get?_update_other h f z).trans e,rfl⟩
theorem qp5 {α:Type} {M:Model} {Γ:PySem.Ctx} {t:Sem α} (k:KD t) {Q:α -> Pos -> Shared -> Prop} {E:Value -> Pos -> Shared -> Prop} {dx:Option Addr} {a:Addr} :
  ∀ {p:Pos} {s:Shared},Sem.wp M Γ t Q E p s -> XD dx a s.heap -> Sem.wp M Γ t (fun x p s=>Q x p s /\ XD dx a s.heap) (fun x p s=>E x p s /\ XD dx a s.heap) p s:=by
 induction k with
 | ret x=>exact fun h z=>⟨h,z⟩
 | exc e=>exact fun h z=>⟨h,z⟩
 | no w=>exact fun h z=>h
 | load _ ih =>
  intro p s h z
  rw [Sem.wp_load] at h ⊢
  obtain ⟨o,e,h⟩:=h
  exact ⟨o,e,ih o h z⟩
 | upd hf _ ih =>
  intro p s h z
  rw [Sem.wp_update] at h ⊢
  exact ⟨h.1,ih h.2 (z.upd hf)⟩
 | alloc _ ih =>
  intro p s h z
  rw [Sem.wp_alloc] at h ⊢
  exact ih _ h (z.keeps fun o e=>⟨o,Heap.get?_push_of_some _ e,rfl⟩)
 | stack _ ih =>
  intro p s h z
  exact ih _ h z
theorem jk0 {α:Type} {M:Model} {A:Around} {t:Sem α} {Q:α -> Shared -> Prop} {E:Value -> Shared -> Prop} {s:Shared} {dx:Option Addr} {a:Addr} (k:KD t) (h:wpAny M A t Q E s) (z:XD dx a s.heap) :
  wpAny M A t (fun x s'=>Q x s' /\ XD dx a s'.heap) (fun x s'=>E x s' /\ XD dx a s'.heap) s:=fun Γ p hΓ=>qp5 k (h Γ p hΓ) z
theorem jx4 (a:Addr):KD (load a):=.load fun o=>.ret o
theorem js6:KD stack:=.stack fun l=>.ret l
theorem ji8 (f:Array Value -> Array Value):ki6 (Obj.mapFields f):=fun o=>by
 obtain ⟨c,d,dt,sl⟩:=o
 cases dt <;> exact ⟨rfl,fun h=>h⟩
theorem jz8 (v:Value):KD (fieldsOf v):=by
 unfold fieldsOf
 cases v with
 | ref a =>
  refine .bind (jx4 a) fun o=>?_
  split
  ·exact .ret _
  ·exact .no _
 | _=>exact .no _
theorem jj9 (v:Value) (i:Nat):KD (field v i):=by
 unfold field
 refine .bind (jz8 v) fun vs=>?_
 split
 ·exact .ret _
 ·exact .no _
theorem jn8 (a:Addr) (i:Nat) (x:Value):KD (updateField a i x):=by
 unfold updateField
 refine .bind (jx4 a) fun o=>?_
 split
 ·split
  ·exact .upd (ji8 _) (.ret _)
  ·exact .no _
 ·exact .no _
theorem jg4 (v:Value) (i:Nat) (x:Value):KD (setField v i x):=by
 unfold setField
 cases v with
 | ref a=>exact jn8 a i x
 | _=>exact .no _
theorem jd8 (e:Value) (f:Option Addr):KD (setFlight e f):=by
 unfold setFlight
 refine .bind (jj9 e 1) fun tb=>?_
 split
 ·exact jg4 _ _ _
 ·exact .ret _
theorem kk4 (env:Env) (outer:List Env):KD (behindIsImport env outer):=by
 unfold behindIsImport
 split
 ·exact .ret _
 ·split
  ·exact .ret _
  ·exact .bind (jj9 _ _) fun _=>.ret _
theorem qc7 (env:Env) (i:Bool) (outer:List Env):KD (keptBack env i outer):=by
 unfold keptBack
 split
 ·split
  ·exact .ret _
  ·unfold underTheClaimsCaller
   exact .bind (.bind js6 fun _=>.ret _) fun _=>.ret _
 ·exact .ret _
theorem kq1:∀ l:List Env,KD (readyFrames l):=fun l=>by
 induction l with
 | nil=>exact .ret _
 | cons env outer ih =>
  unfold readyFrames
  split
  ·refine .bind (jx4 _) fun o=>?_
   split
   ·exact .ret _
   ·refine .bind (kk4 env outer) fun i=>.bind (qc7 env i outer) fun b=>.bind (.upd (fun o=>⟨rfl,fun h=>by obtain ⟨_,_,d,_⟩:=o; cases d <;> exact h⟩) (.ret _)) fun _=>ih
  ·exact .no _
theorem kg0 (env:Env):KD (PySem.frameOf env):=by
 unfold PySem.frameOf frameEnvs
 refine .bind (.bind js6 fun _=>.ret _) fun l=>.bind ?_ fun o=>?_
 ·unfold frameObject
  split
  ·exact .ret _
  ·exact .bind (kq1 _) fun _=>.ret _
 ·split
  ·exact .ret _
  ·exact .no _
theorem ku7 (f:Addr) (b:Bool):KD (entryPlaceOf f b):=by
 unfold entryPlaceOf
 refine .bind js6 fun l=>?_
 split
 ·exact .ret _
 ·exact .ret _
theorem kt4 (head:Value) (fr:Value) (l f x:Value) (pl:List Value):KD (EntryCells.newEntry head fr l f x pl):=by
 have fin:∀ d,KD (newObjAsIs (.type "traceback") d):=fun d=>by
  unfold newObjAsIs
  exact .bind (.alloc fun a=>.ret a) fun _=>.ret _
 unfold EntryCells.newEntry newFields
 generalize ([head,fr,l,f,x] ++ if pl.isEmpty = true then List.replicate 6 Value.none else pl).toArray = vs
 unfold newObj
 dsimp only
 split
 ·exact .bind (.no _) fun _=>fin _
 ·exact fin _
theorem qa5 (e:Value) (env:Env):KD (noteFrame e env):=by
 unfold noteFrame
 split
 ·refine .bind (jj9 e 1) fun head=>?_
  have fin:=fun (f:Addr)=>KD.bind (kg0 env) fun a=>KD.bind (ku7 f (head != .none)) fun pl=>KD.bind (kt4 head a .none (rawInt f) .none pl) fun b=>jg4 e 1 b
  dsimp only
  split
  ·refine .bind (jj9 head 3) fun x=>?_
   split
   ·exact .ret _
   ·exact .bind (jg4 _ _ _) fun _=>fin _
  ·exact fin _
 ·exact .no _
end Dm
end T_Xd
section T_Dd
namespace Dm
open PySem PyProof.Rows L2
inductive D where
 | non | bl (b:Bool) | int (i:Int) | str (x:Str) | tup (ds:List D) | lst (ds:List D) | brd (t:Nat) (ds:List D)
mutual
noncomputable def dep:D -> Nat
 | .tup ds=>deps ds + 1
 | .lst ds=>deps ds + 1
 | .brd tb ds=>deps ds + 2
 | _=>0
noncomputable def deps:List D -> Nat
 | []=>0
 | d :: ds=>max (dep d) (deps ds)
end
theorem Y3:∀ {ds:List D} {d:D},d ∈ ds -> dep d <= deps ds
 | _ :: _,_,.head _=>Nat.le_max_left _ _
 | _ :: ds,_,.tail _ h=>Nat.le_trans (Y3 h) (Nat.le_max_right _ _)
theorem jz9 {n:Nat}:∀ {ds:List D},(∀ d ∈ ds,dep d <= n) -> deps ds <= n
 | [],_=>Nat.zero_le _
 | d :: ds,h=>Nat.max_le.mpr ⟨h d (.head _),jz9 fun x hx=>h x (.tail _ hx)⟩
mutual
noncomputable def eqD:D -> D -> Bool
 | .non,.non=>true
 | .bl a,.bl b=>a == b
 | .bl a,.int j=>(if a then 1 else 0) == j
 | .int i,.bl b=>i == (if b then 1 else 0)
 | .int i,.int j=>i == j
 | .str x,.str y=>x == y
 | .tup xs,.tup ys=>eqDs xs ys
 | .lst xs,.lst ys=>eqDs xs ys
 | _,_=>false
noncomputable def eqDs:List D -> List D -> Bool
 | [],[]=>true
 | x :: xs,y :: ys=>eqD x y && eqDs xs ys
 | _,_=>false
end
theorem kd3:∀ {xs ys:List D},eqDs xs ys = true -> xs.length = ys.length
 | [],[],_=>rfl
 | [],_ :: _,h=>by simp [eqDs] at h
 | _ :: _,[],h=>by simp [eqDs] at h
 | x :: xs,y :: ys,h=>by
  rw [eqDs,Bool.and_eq_true] at h
  rw [List.length_cons,List.length_cons,kd3 h.2]
theorem kc3:∀ {xs ys:List D},xs.length = ys.length -> eqDs xs ys = (List.range xs.length).all fun j=>eqD (xs.getD j .non) (ys.getD j .non)
 | [],[],_=>rfl
 | x :: xs,y :: ys,h=>by
  rw [eqDs,kc3 (xs:=xs) (ys:=ys) (by simpa using h),List.length_cons,List.range_succ_eq_map,List.all_cons,List.all_map]
  rfl
mutual
noncomputable def flat:D -> Bool
 | .tup ds=>J3 ds
 | .lst ds=>J3 ds
 | .brd _ _=>false
 | _=>true
noncomputable def J3:List D -> Bool
 | []=>true
 | d :: ds=>flat d && J3 ds
end
theorem J0:∀ {ds:List D} {d:D},J3 ds = true -> d ∈ ds -> flat d = true
 | _ :: _,_,h,.head _=>by rw [J3,Bool.and_eq_true] at h; exact h.1
 | _ :: ds,_,h,.tail _ m=>by rw [J3,Bool.and_eq_true] at h; exact J0 h.2 m
theorem je6:∀ {ds:List D},(∀ d ∈ ds,flat d = true) -> J3 ds = true
 | [],_=>rfl
 | d :: ds,h=>by rw [J3,Bool.and_eq_true]; exact ⟨h d (.head _),je6 fun x hx=>h x (.tail _ hx)⟩
mutual
noncomputable def DAt (h:Heap):D -> Value -> Prop
 | .non,v=>v = .none
 | .bl b,v=>v = .bool b
 | .int i,v=>∃ t,v = .int i t
 | .str x,v=>∃ t,v = .str x t
 | .tup ds,v=>∃ a items,v = .ref a /\ IsTup h a items /\ DAts h ds items.toList
 | .lst ds,v=>∃ a items,v = .ref a /\ PlainL h a items /\ DAts h ds items.toList
 | .brd _ _,_=>False
noncomputable def DAts (h:Heap):List D -> List Value -> Prop
 | [],vs=>vs = []
 | d :: ds,vs=>∃ v r,vs = v :: r /\ DAt h d v /\ DAts h ds r
end
theorem DAts.len {h:Heap}:∀ {ds:List D} {vs:List Value},DAts h ds vs -> vs.length = ds.length
 | [],_,e=>by rw [DAts] at e; subst e; rfl
 | d :: ds,_,e=>by
  rw [DAts] at e
  obtain ⟨v,r,rfl,_,q⟩:=e
  rw [List.length_cons,List.length_cons,q.len]
theorem DAts.get {h:Heap}:∀ {ds:List D} {vs:List Value} (j:Nat) (hj:j < vs.length),DAts h ds vs -> DAt h (ds.getD j .non) vs[j] /\ ds.getD j .non ∈ ds
 | [],_,j,hj,e=>by rw [DAts] at e; subst e; exact absurd hj (Nat.not_lt_zero _)
 | d :: ds,_,j,hj,e=>by
  rw [DAts] at e
  obtain ⟨v,r,rfl,q1,q⟩:=e
  cases j with
  | zero=>exact ⟨q1,.head _⟩
  | succ j =>
   obtain ⟨a,b⟩:=q.get j (by simpa using hj)
   exact ⟨by simpa using a,by simpa using .inr b⟩
mutual
theorem ku3:∀ d:D,flat d = true -> eqD d d = true
 | .non,_=>by rw [eqD]
 | .bl b,_=>by rw [eqD]; exact beq_self_eq_true b
 | .int i,_=>by rw [eqD]; exact beq_self_eq_true i
 | .str x,_=>by rw [eqD]; exact beq_self_eq_true x
 | .tup xs,h=>by rw [eqD]; rw [flat] at h; exact je0 xs h
 | .lst xs,h=>by rw [eqD]; rw [flat] at h; exact je0 xs h
 | .brd tb xs,h=>by rw [flat] at h; cases h
theorem je0:∀ ds:List D,J3 ds = true -> eqDs ds ds = true
 | [],_=>by rw [eqDs]
 | d :: ds,h=>by
  rw [J3,Bool.and_eq_true] at h
  rw [eqDs,ku3 d h.1,je0 ds h.2]; rfl
end
inductive Vw (h:Heap):D -> Value -> Prop
 | non:Vw h .non .none
 | bl (b:Bool):Vw h (.bl b) (.bool b)
 | int (i:Int) (t:Tok):Vw h (.int i) (.int i t)
 | str (x:Str) (t:Tok):Vw h (.str x) (.str x t)
 | tup {ds:List D} {a:Addr} {its:Array Value} (q:IsTup h a its) (p:DAts h ds its.toList):Vw h (.tup ds) (.ref a)
 | lst {ds:List D} {a:Addr} {its:Array Value} (q:PlainL h a its) (p:DAts h ds its.toList):Vw h (.lst ds) (.ref a)
theorem vw {h:Heap} {d:D} {u:Value} (x:DAt h d u):Vw h d u:=by
 cases d with
 | non=>rw [DAt] at x; subst x; exact .non
 | bl b=>rw [DAt] at x; subst x; exact .bl b
 | int i=>rw [DAt] at x; obtain ⟨t,rfl⟩:=x; exact .int i t
 | str y=>rw [DAt] at x; obtain ⟨t,rfl⟩:=x; exact .str y t
 | tup ds=>rw [DAt] at x; obtain ⟨a,its,rfl,q,p⟩:=x; exact .tup q p
 | lst ds=>rw [DAt] at x; obtain ⟨a,its,rfl,q,p⟩:=x; exact .lst q p
 | brd _ _=>rw [DAt] at x; exact x.elim
theorem DAts.inj {h:Heap} {ds es:List D} {vs:List Value} (H:∀ d ∈ ds,∀ (e:D) (v:Value),DAt h d v -> DAt h e v -> d = e) (x:DAts h ds vs) (y:DAts h es vs):ds = es:=by
 induction ds generalizing es vs with
 | nil =>
  rw [DAts] at x
  subst x
  cases es with
  | nil=>rfl
  | cons e es=>rw [DAts] at y; obtain ⟨_,_,z,_⟩:=y; cases z
 | cons d ds ih =>
  rw [DAts] at x
  obtain ⟨v,r,rfl,p1,p2⟩:=x
  cases es with
  | nil=>rw [DAts] at y; cases y
  | cons e es =>
   rw [DAts] at y
   obtain ⟨v',r',z,q1,q2⟩:=y
   cases z
   rw [H d (.head _) e v p1 q1,ih (fun d hd=>H d (.tail _ hd)) p2 q2]
theorem DAt.inj {h:Heap} (d e:D) {v:Value} (hu:DAt h d v) (hv:DAt h e v):d = e:=by
 generalize hn:dep d = n
 induction n using Nat.strongRecOn generalizing d e v with
 | ind n ih =>
 have x:=vw hu
 have y:=vw hv
 clear hu hv
 cases x with
 | non=>cases y; rfl
 | bl b=>cases y; rfl
 | int i t=>cases y; rfl
 | str s t=>cases y; rfl
 | tup q p =>
  rw [dep] at hn
  cases y with
  | tup q' p' =>
   obtain ⟨o1,q1,_,n1,d1⟩:=q
   obtain ⟨o2,q2,_,n2,d2⟩:=q'
   obtain rfl:=Option.some.inj (q1.symm.trans q2)
   rw [d1] at d2
   cases d2
   rw [DAts.inj (fun d hd e v a b=>ih _ (by have:=Y3 hd; lia) d e a b rfl) p p']
  | lst q' p' =>
   obtain ⟨o1,q1,c1,_⟩:=q
   obtain ⟨o2,n2,q2,c2,_⟩:=q'
   obtain rfl:=Option.some.inj (q1.symm.trans q2)
   rw [c1] at c2
   exact absurd c2 (by decide)
 | lst q p =>
  rw [dep] at hn
  cases y with
  | tup q' p' =>
   obtain ⟨o2,n2,q2,c2,_⟩:=q
   obtain ⟨o1,q1,c1,_⟩:=q'
   obtain rfl:=Option.some.inj (q1.symm.trans q2)
   rw [c1] at c2
   exact absurd c2 (by decide)
  | lst q' p' =>
   obtain ⟨o1,n1,q1,_,_,d1⟩:=q
   obtain ⟨o2,n2,q2,_,_,d2⟩:=q'
   obtain rfl:=Option.some.inj (q1.symm.trans q2)
   rw [d1] at d2
   cases d2
   rw [DAts.inj (fun d hd e v a b=>ih _ (by have:=Y3 hd; lia) d e a b rfl) p p']
open PySem.SeqAt
section
variable {s:Shared}
theorem j7 {h:Heap} {a:Addr} {items:Array Value} (x:IsTup h a items):h.IsTuple a items:=by
 obtain ⟨o,h1,h2,n,h3⟩:=x
 exact ⟨o,h1,h2,n,h3⟩
theorem jf1 {A:Around} {xs ys:List D} {its jts:Array Value} (pu:DAts s.heap xs its.toList) (pv:DAts s.heap ys jts.toList) (h:∀ (x y:D) (u v:Value),x ∈ xs -> y ∈ ys -> DAt s.heap x u -> DAt s.heap y v -> EqAt A s u v (eqD x y)):∀ j (h1:j < its.size) (h2:j < jts.size),EqAt A s its[j] jts[j] (eqD (xs.getD j .non) (ys.getD j .non)):=fun j h1 h2=>by
 obtain ⟨g1,m1⟩:=pu.get j (by rw [Array.length_toList]; exact h1)
 obtain ⟨g2,m2⟩:=pv.get j (by rw [Array.length_toList]; exact h2)
 rw [Array.getElem_toList] at g1 g2
 exact h _ _ _ _ m1 m2 g1 g2
theorem jw3 {xs ys:List D} {its jts:Array Value} (pu:DAts s.heap xs its.toList) (pv:DAts s.heap ys jts.toList):((List.range (min its.size jts.size)).all (fun j=>eqD (xs.getD j .non) (ys.getD j .non)) && (its.size == jts.size)) = eqDs xs ys:=by
 have lu:its.size = xs.length:=by rw [<- Array.length_toList]; exact pu.len
 have lv:jts.size = ys.length:=by rw [<- Array.length_toList]; exact pv.len
 by_cases hl:its.size = jts.size
 ·rw [<- hl,Nat.min_self,beq_self_eq_true,Bool.and_true,lu,<- kc3 (lu.symm.trans (hl.trans lv))]
 ·rw [beq_eq_false_iff_ne.mpr hl,Bool.and_false]
  exact (Bool.eq_false_iff.mpr fun z=>hl (by rw [lu,lv]; exact kd3 z)).symm
theorem ko5 {xs ys:List D} {its jts:Array Value} (pu:DAts s.heap xs its.toList) (pv:DAts s.heap ys jts.toList) (hl:its.size = jts.size):(List.range its.size).all (fun j=>eqD (xs.getD j .non) (ys.getD j .non)) = eqDs xs ys:=by
 rw [<- jw3 pu pv,<- hl,Nat.min_self,beq_self_eq_true,Bool.and_true]
theorem kl1 {xs ys:List D} {its jts:Array Value} (pu:DAts s.heap xs its.toList) (pv:DAts s.heap ys jts.toList) (hl:¬ its.size = jts.size):false = eqDs xs ys:=by
 rw [<- jw3 pu pv,beq_eq_false_iff_ne.mpr hl,Bool.and_false]
theorem qf0 {A:Around} {d e:D} {u v:Value} {n:Nat} (x:Vw s.heap d u) (y:Vw s.heap e v) (hr0:A.units < cLine) (hn:dep d = n) (fx:flat d = true) (fy:flat e = true)
  (ht:∀ {xs ys:List D} {a b:Addr} {its jts:Array Value},dep (.tup xs) = n -> J3 xs = true -> J3 ys = true -> IsTup s.heap a its -> DAts s.heap xs its.toList -> IsTup s.heap b jts -> DAts s.heap ys jts.toList -> EqAt A s (.ref a) (.ref b) (eqDs xs ys))
  (hl:∀ {xs ys:List D} {a b:Addr} {its jts:Array Value},dep (.lst xs) = n -> J3 xs = true -> J3 ys = true -> PlainL s.heap a its -> DAts s.heap xs its.toList -> PlainL s.heap b jts -> DAts s.heap ys jts.toList -> EqAt A s (.ref a) (.ref b) (eqDs xs ys)):EqAt A s u v (eqD d e):=by
 cases x with
 | non =>
  cases y with
  | non=>exact EqAt.same _
  | bl c=>exact EqAt.none_bool c
  | int j r=>exact EqAt.none_int j r
  | str y r=>exact EqAt.none_str y r
  | tup q' p'=>exact EqAt.none_tuple (j7 q') hr0
  | lst q' p'=>exact EqAt.none_list q'.isList hr0
 | bl b =>
  cases y with
  | non=>exact EqAt.bool_none b
  | bl c=>exact EqAt.bool_bool b c
  | int j r=>exact EqAt.bool_int b j r
  | str y r=>exact EqAt.bool_str b y r
  | tup q' p'=>exact EqAt.bool_tuple b (j7 q') hr0
  | lst q' p'=>exact EqAt.bool_list b q'.isList hr0
 | int i t =>
  cases y with
  | non=>exact EqAt.int_none i t
  | bl c=>exact EqAt.int_bool i t c
  | int j r=>exact EqAt.int_int i t j r
  | str y r=>exact EqAt.int_str i t y r
  | tup q' p'=>exact EqAt.int_tuple i t (j7 q') hr0
  | lst q' p'=>exact EqAt.int_list i t q'.isList hr0
 | str x t =>
  cases y with
  | non=>exact EqAt.str_none x t
  | bl c=>exact EqAt.str_bool x t c
  | int j r=>exact EqAt.str_int x t j r
  | str y r=>exact EqAt.str_str x t y r
  | tup q' p'=>exact EqAt.str_tuple x t (j7 q') hr0
  | lst q' p'=>exact EqAt.str_list x t q'.isList hr0
 | tup q p =>
  cases y with
  | non=>exact EqAt.tuple_none (j7 q) hr0
  | bl c=>exact EqAt.tuple_bool c (j7 q) hr0
  | int j r=>exact EqAt.tuple_int j r (j7 q) hr0
  | str y r=>exact EqAt.tuple_str y r (j7 q) hr0
  | tup q' p'=>exact ht hn (by rw [flat] at fx; exact fx) (by rw [flat] at fy; exact fy) q p q' p'
  | lst q' p'=>exact EqAt.tuple_list (j7 q) q'.isList hr0
 | lst q p =>
  cases y with
  | non=>exact EqAt.list_none q.isList hr0
  | bl c=>exact EqAt.list_bool c q.isList hr0
  | int j r=>exact EqAt.list_int j r q.isList hr0
  | str y r=>exact EqAt.list_str y r q.isList hr0
  | tup q' p'=>exact EqAt.list_tuple q.isList (j7 q') hr0
  | lst q' p'=>exact hl hn (by rw [flat] at fx; exact fx) (by rw [flat] at fy; exact fy) q p q' p'
theorem jo3 (d e:D) {A:Around} {u v:Value} (fx:flat d = true) (fy:flat e = true) (hu:DAt s.heap d u) (hv:DAt s.heap e v) (hr:A.units + dep d < cLine):EqAt A s u v (eqD d e):=by
 generalize hn:dep d = n at hr
 induction n using Nat.strongRecOn generalizing d e A u v with
 | ind n ih =>
 have hr0:A.units < cLine:=Nat.lt_of_le_of_lt (Nat.le_add_right _ _) hr
 refine qf0 (vw hu) (vw hv) hr0 hn fx fy (fun {xs ys a b its jts} hn fx fy q p q' p'=>?_) (fun {xs ys a b its jts} hn fx fy q p q' p'=>?_)
 ·by_cases hab:a = b
  ·subst hab
   have e:D.tup xs = D.tup ys:=DAt.inj (h:=s.heap) _ _ (v:=.ref a) (by rw [DAt]; exact ⟨a,its,rfl,q,p⟩) (by rw [DAt]; exact ⟨a,jts,rfl,q',p'⟩)
   obtain rfl:xs = ys:=by injection e
   rw [je0 xs fx]
   exact EqAt.same _
  ·rw [<- jw3 p p']
   exact EqAt.of_refs hab (RcAt.tuples (j7 q) (j7 q') hr0 (jf1 p p' fun x y u v m1 m2 g1 g2=>ih _ (by rw [<- hn,dep]; have:=Y3 m1; lia) _ _ (J0 fx m1) (J0 fy m2) g1 g2 rfl (by show A.units + 1 + _ < _; rw [<- hn,dep] at hr; have:=Y3 m1; lia)))
 ·by_cases hab:a = b
  ·subst hab
   have e:D.lst xs = D.lst ys:=DAt.inj (h:=s.heap) _ _ (v:=.ref a) (by rw [DAt]; exact ⟨a,its,rfl,q,p⟩) (by rw [DAt]; exact ⟨a,jts,rfl,q',p'⟩)
   obtain rfl:xs = ys:=by injection e
   rw [je0 xs fx]
   exact EqAt.same _
  ·refine EqAt.of_refs hab ?_
   by_cases hl:its.size = jts.size
   ·rw [<- ko5 p p' hl]
    exact RcAt.lists q.isList q'.isList hl hr0 (jf1 p p' fun x y u v m1 m2 g1 g2=>ih _ (by rw [<- hn,dep]; have:=Y3 m1; lia) _ _ (J0 fx m1) (J0 fy m2) g1 g2 rfl (by show A.units + 1 + _ < _; rw [<- hn,dep] at hr; have:=Y3 m1; lia))
   ·rw [<- kl1 p p' hl]
    exact RcAt.lists_lengths q.isList q'.isList (by simpa using hl) hr0
end
end Dm
end T_Dd
section T_Dl
namespace Dm
open PySem PyProof.Rows L2 HT
mutual
noncomputable def decD:(a b:D) -> Decidable (a = b)
 | .non,.non=>Decidable.isTrue rfl
 | .bl a,.bl b=>if h:a = b then Decidable.isTrue (by rw [h]) else Decidable.isFalse fun e=>h (by injection e)
 | .int a,.int b=>if h:a = b then Decidable.isTrue (by rw [h]) else Decidable.isFalse fun e=>h (by injection e)
 | .str a,.str b=>if h:a = b then Decidable.isTrue (by rw [h]) else Decidable.isFalse fun e=>h (by injection e)
 | .tup a,.tup b=>match kv4 a b with
  | Decidable.isTrue h=>Decidable.isTrue (by rw [h])
  | Decidable.isFalse h=>Decidable.isFalse fun e=>h (by injection e)
 | .lst a,.lst b=>match kv4 a b with
  | Decidable.isTrue h=>Decidable.isTrue (by rw [h])
  | Decidable.isFalse h=>Decidable.isFalse fun e=>h (by injection e)
 | .brd t a,.brd u b=>if ht:t = u then match kv4 a b with
  | Decidable.isTrue h=>Decidable.isTrue (by rw [h,ht])
  | Decidable.isFalse h=>Decidable.isFalse fun e=>h (by injection e)
  else Decidable.isFalse fun e=>ht (by injection e)
 | .non,.bl _=>Decidable.isFalse nofun | .non,.int _=>Decidable.isFalse nofun | .non,.str _=>Decidable.isFalse nofun | .non,.tup _=>Decidable.isFalse nofun | .non,.lst _=>Decidable.isFalse nofun | .non,.brd _ _=>Decidable.isFalse nofun
 | .bl _,.non=>Decidable.isFalse nofun | .bl _,.int _=>Decidable.isFalse nofun | .bl _,.str _=>Decidable.isFalse nofun | .bl _,.tup _=>Decidable.isFalse nofun | .bl _,.lst _=>Decidable.isFalse nofun | .bl _,.brd _ _=>Decidable.isFalse nofun
 | .int _,.non=>Decidable.isFalse nofun | .int _,.bl _=>Decidable.isFalse nofun | .int _,.str _=>Decidable.isFalse nofun | .int _,.tup _=>Decidable.isFalse nofun | .int _,.lst _=>Decidable.isFalse nofun | .int _,.brd _ _=>Decidable.isFalse nofun
 | .str _,.non=>Decidable.isFalse nofun | .str _,.bl _=>Decidable.isFalse nofun | .str _,.int _=>Decidable.isFalse nofun | .str _,.tup _=>Decidable.isFalse nofun | .str _,.lst _=>Decidable.isFalse nofun | .str _,.brd _ _=>Decidable.isFalse nofun
 | .tup _,.non=>Decidable.isFalse nofun | .tup _,.bl _=>Decidable.isFalse nofun | .tup _,.int _=>Decidable.isFalse nofun | .tup _,.str _=>Decidable.isFalse nofun | .tup _,.lst _=>Decidable.isFalse nofun | .tup _,.brd _ _=>Decidable.isFalse nofun
 | .lst _,.non=>Decidable.isFalse nofun | .lst _,.bl _=>Decidable.isFalse nofun | .lst _,.int _=>Decidable.isFalse nofun | .lst _,.str _=>Decidable.isFalse nofun | .lst _,.tup _=>Decidable.isFalse nofun | .lst _,.brd _ _=>Decidable.isFalse nofun
 | .brd _ _,.non=>Decidable.isFalse nofun | .brd _ _,.bl _=>Decidable.isFalse nofun | .brd _ _,.int _=>Decidable.isFalse nofun | .brd _ _,.str _=>Decidable.isFalse nofun | .brd _ _,.tup _=>Decidable.isFalse nofun | .brd _ _,.lst _=>Decidable.isFalse nofun
noncomputable def kv4:(a b:List D) -> Decidable (a = b)
 | [],[]=>Decidable.isTrue rfl
 | [],_ :: _=>Decidable.isFalse nofun
 | _ :: _,[]=>Decidable.isFalse nofun
 | a :: as,b :: bs=>match decD a b,kv4 as bs with
  | Decidable.isTrue h,Decidable.isTrue h'=>Decidable.isTrue (by rw [h,h'])
  | Decidable.isFalse h,_=>Decidable.isFalse fun e=>h (by injection e)
  | _,Decidable.isFalse h=>Decidable.isFalse fun e=>h (by injection e)
end
noncomputable instance:DecidableEq D:=decD
mutual
noncomputable def fl:D -> List Int
 | .int i=>[i]
 | .tup ds=>fls ds
 | .lst ds=>fls ds
 | _=>[]
noncomputable def fls:List D -> List Int
 | []=>[]
 | d :: ds=>fl d ++ fls ds
end
mutual
noncomputable def shp:D -> D -> Bool
 | .int _,.int _=>true
 | .tup xs,.tup ys=>shps xs ys
 | .lst xs,.lst ys=>shps xs ys
 | _,_=>false
noncomputable def shps:List D -> List D -> Bool
 | [],[]=>true
 | x :: xs,y :: ys=>shp x y && shps xs ys
 | _,_=>false
end
mutual
theorem jq6:∀ (x y:D),shp x y = true -> (fl x).length = (fl y).length
 | .int _,.int _,_=>rfl
 | .tup xs,.tup ys,h=>by rw [fl,fl]; exact jq4 xs ys (by rw [shp] at h; exact h)
 | .lst xs,.lst ys,h=>by rw [fl,fl]; exact jq4 xs ys (by rw [shp] at h; exact h)
 | .non,y,h=>by cases y <;> simp [shp] at h
 | .bl _,y,h=>by cases y <;> simp [shp] at h
 | .str _,y,h=>by cases y <;> simp [shp] at h
 | .brd _ _,y,h=>by cases y <;> simp [shp] at h
 | .int _,.non,h=>by simp [shp] at h
 | .int _,.bl _,h=>by simp [shp] at h
 | .int _,.str _,h=>by simp [shp] at h
 | .int _,.tup _,h=>by simp [shp] at h
 | .int _,.lst _,h=>by simp [shp] at h
 | .int _,.brd _ _,h=>by simp [shp] at h
 | .tup _,.non,h=>by simp [shp] at h
 | .tup _,.bl _,h=>by simp [shp] at h
 | .tup _,.str _,h=>by simp [shp] at h
 | .tup _,.int _,h=>by simp [shp] at h
 | .tup _,.lst _,h=>by simp [shp] at h
 | .tup _,.brd _ _,h=>by simp [shp] at h
 | .lst _,.non,h=>by simp [shp] at h
 | .lst _,.bl _,h=>by simp [shp] at h
 | .lst _,.str _,h=>by simp [shp] at h
 | .lst _,.int _,h=>by simp [shp] at h
 | .lst _,.tup _,h=>by simp [shp] at h
 | .lst _,.brd _ _,h=>by simp [shp] at h
theorem jq4:∀ (xs ys:List D),shps xs ys = true -> (fls xs).length = (fls ys).length
 | [],[],_=>rfl
 | [],_ :: _,h=>by simp [shps] at h
 | _ :: _,[],h=>by simp [shps] at h
 | x :: xs,y :: ys,h=>by
  rw [shps,Bool.and_eq_true] at h
  rw [fls,fls,List.length_append,List.length_append,jq6 x y h.1,jq4 xs ys h.2]
end
theorem Q7 {x y:D} (h:shp x y = true):(∃ i j,x = .int i /\ y = .int j) \/ (∃ xs ys,x = .tup xs /\ y = .tup ys /\ shps xs ys = true) \/ (∃ xs ys,x = .lst xs /\ y = .lst ys /\ shps xs ys = true):=by
 cases x <;> cases y <;> simp [shp] at h
 ·exact .inl ⟨_,_,rfl,rfl⟩
 ·exact .inr (.inl ⟨_,_,rfl,rfl,h⟩)
 ·exact .inr (.inr ⟨_,_,rfl,rfl,h⟩)
mutual
theorem kj1:∀ (x y:D),shp x y = true -> fl x = fl y -> x = y
 | .int i,y,h,e=>by
  rcases Q7 h with ⟨i',j,e1,rfl⟩ | ⟨_,_,e1,_⟩ | ⟨_,_,e1,_⟩
  ·rw [fl,fl] at e; injection e with e; rw [e]
  ·cases e1
  ·cases e1
 | .tup xs,y,h,e=>by
  rcases Q7 h with ⟨_,_,e1,_⟩ | ⟨xs',ys,e1,rfl,q⟩ | ⟨_,_,e1,_⟩
  ·cases e1
  ·obtain rfl:xs = xs':=by injection e1
   rw [fl,fl] at e
   rw [js2 xs ys q e]
  ·cases e1
 | .lst xs,y,h,e=>by
  rcases Q7 h with ⟨_,_,e1,_⟩ | ⟨_,_,e1,_⟩ | ⟨xs',ys,e1,rfl,q⟩
  ·cases e1
  ·cases e1
  ·obtain rfl:xs = xs':=by injection e1
   rw [fl,fl] at e
   rw [js2 xs ys q e]
 | .non,y,h,_=>by cases y <;> simp [shp] at h
 | .bl _,y,h,_=>by cases y <;> simp [shp] at h
 | .str _,y,h,_=>by cases y <;> simp [shp] at h
 | .brd _ _,y,h,_=>by cases y <;> simp [shp] at h
theorem js2:∀ (xs ys:List D),shps xs ys = true -> fls xs = fls ys -> xs = ys
 | [],[],_,_=>rfl
 | [],_ :: _,h,_=>by simp [shps] at h
 | _ :: _,[],h,_=>by simp [shps] at h
 | x :: xs,y :: ys,h,e=>by
  rw [shps,Bool.and_eq_true] at h
  rw [fls,fls] at e
  obtain ⟨e1,e2⟩:=List.append_inj e (jq6 x y h.1)
  rw [kj1 x y h.1 e1,js2 xs ys h.2 e2]
end
mutual
theorem js3:∀ (x y:D),shp x y = true -> flat x = true /\ flat y = true
 | .int i,y,h=>by
  rcases Q7 h with ⟨_,j,_,rfl⟩ | ⟨_,_,e1,_⟩ | ⟨_,_,e1,_⟩
  ·exact ⟨by rw [flat] <;> simp,by rw [flat] <;> simp⟩
  ·cases e1
  ·cases e1
 | .tup xs,y,h=>by
  rcases Q7 h with ⟨_,_,e1,_⟩ | ⟨xs',ys,e1,rfl,q⟩ | ⟨_,_,e1,_⟩
  ·cases e1
  ·obtain rfl:xs = xs':=by injection e1
   rw [flat,flat]; exact jm5 xs ys q
  ·cases e1
 | .lst xs,y,h=>by
  rcases Q7 h with ⟨_,_,e1,_⟩ | ⟨_,_,e1,_⟩ | ⟨xs',ys,e1,rfl,q⟩
  ·cases e1
  ·cases e1
  ·obtain rfl:xs = xs':=by injection e1
   rw [flat,flat]; exact jm5 xs ys q
 | .non,y,h=>by cases y <;> simp [shp] at h
 | .bl _,y,h=>by cases y <;> simp [shp] at h
 | .str _,y,h=>by cases y <;> simp [shp] at h
 | .brd _ _,y,h=>by cases y <;> simp [shp] at h
theorem jm5:∀ (xs ys:List D),shps xs ys = true -> J3 xs = true /\ J3 ys = true
 | [],[],_=>⟨by rw [J3],by rw [J3]⟩
 | [],_ :: _,h=>by simp [shps] at h
 | _ :: _,[],h=>by simp [shps] at h
 | x :: xs,y :: ys,h=>by
  rw [shps,Bool.and_eq_true] at h
  obtain ⟨a,b⟩:=js3 x y h.1
  obtain ⟨c,d⟩:=jm5 xs ys h.2
  rw [J3,J3,a,b,c,d]; exact ⟨rfl,rfl⟩
end
mutual
theorem ky5:∀ (x y:D),shp x y = true -> eqD x y = decide (fl x = fl y)
 | .int i,y,h=>by
  rcases Q7 h with ⟨_,j,_,rfl⟩ | ⟨_,_,e1,_⟩ | ⟨_,_,e1,_⟩
  ·rw [eqD,fl,fl]
   by_cases c:i = j
   ·subst c; simp
   ·simp [c]
  ·cases e1
  ·cases e1
 | .tup xs,y,h=>by
  rcases Q7 h with ⟨_,_,e1,_⟩ | ⟨xs',ys,e1,rfl,q⟩ | ⟨_,_,e1,_⟩
  ·cases e1
  ·obtain rfl:xs = xs':=by injection e1
   rw [eqD,fl,fl]; exact jz1 xs ys q
  ·cases e1
 | .lst xs,y,h=>by
  rcases Q7 h with ⟨_,_,e1,_⟩ | ⟨_,_,e1,_⟩ | ⟨xs',ys,e1,rfl,q⟩
  ·cases e1
  ·cases e1
  ·obtain rfl:xs = xs':=by injection e1
   rw [eqD,fl,fl]; exact jz1 xs ys q
 | .non,y,h=>by cases y <;> simp [shp] at h
 | .bl _,y,h=>by cases y <;> simp [shp] at h
 | .str _,y,h=>by cases y <;> simp [shp] at h
 | .brd _ _,y,h=>by cases y <;> simp [shp] at h
theorem jz1:∀ (xs ys:List D),shps xs ys = true -> eqDs xs ys = decide (fls xs = fls ys)
 | [],[],_=>by rw [eqDs]; simp [fls]
 | [],_ :: _,h=>by simp [shps] at h
 | _ :: _,[],h=>by simp [shps] at h
 | x :: xs,y :: ys,h=>by
  rw [shps,Bool.and_eq_true] at h
  rw [eqDs,ky5 x y h.1,jz1 xs ys h.2,fls,fls]
  have l:=jq6 x y h.1
  by_cases c1:fl x = fl y
  ·rw [c1]
   by_cases c2:fls xs = fls ys
   ·rw [c2]; simp
   ·simp [c2]
  ·have:¬ (fl x ++ fls xs = fl y ++ fls ys):=fun z=>c1 (List.append_inj z l).1
   simp [c1,this]
end
theorem jy6:∀ {a c b d:List Int},a.length = c.length -> J9 (a ++ b) (c ++ d) = if a = c then J9 b d else J9 a c
 | [],[],b,d,_=>by simp
 | x :: a,y :: c,b,d,h=>by
  rw [List.cons_append,List.cons_append,Q9,Q9,jy6 (a:=a) (c:=c) (by simpa using h)]
  by_cases e:x = y
  ·subst e
   by_cases e2:a = c
   ·subst e2; simp
   ·simp [e2]
  ·simp [e]
theorem jr0:∀ a:List Int,J9 a a = false
 | []=>rfl
 | x :: a=>by rw [Q9,if_pos rfl]; exact jr0 a
theorem jy5:∀ a b:List Int,J9 a b = false -> J9 b a = false -> a = b
 | [],[],_,_=>rfl
 | [],_ :: _,h,_=>by rw [jf6] at h; cases h
 | _ :: _,[],_,h=>by rw [jf6] at h; cases h
 | x :: a,y :: b,h1,h2=>by
  rw [Q9] at h1 h2
  by_cases e:x = y
  ·subst e
   rw [if_pos rfl] at h1 h2
   rw [jy5 a b h1 h2]
  ·rw [if_neg e] at h1
   rw [if_neg (fun z=>e z.symm)] at h2
   have:=of_decide_eq_false h1
   have:=of_decide_eq_false h2
   lia
theorem jh3:∀ a b c:List Int,J9 a b = true -> J9 b c = true -> J9 a c = true
 | [],[],_,h,_=>by rw [Y7] at h; cases h
 | [],_ :: _,[],_,h=>by rw [jb4] at h; cases h
 | [],_ :: _,_ :: _,_,_=>rfl
 | _ :: _,[],_,h,_=>by rw [jb4] at h; cases h
 | _ :: _,_ :: _,[],_,h=>by rw [jb4] at h; cases h
 | x :: a,y :: b,z :: c,h1,h2=>by
  rw [Q9] at h1 h2 ⊢
  by_cases e1:x = y
  ·subst e1
   rw [if_pos rfl] at h1
   by_cases e2:x = z
   ·subst e2
    rw [if_pos rfl] at h2 ⊢
    exact jh3 a b c h1 h2
   ·rw [if_neg e2] at h2 ⊢; exact h2
  ·rw [if_neg e1] at h1
   have k1:=of_decide_eq_true h1
   by_cases e2:y = z
   ·subst e2
    rw [if_neg e1]; exact h1
   ·rw [if_neg e2] at h2
    have k2:=of_decide_eq_true h2
    rw [if_neg (by lia)]
    exact decide_eq_true (by lia)
theorem ku4 (a b:List Int) (h:J9 a b = true):J9 b a = false:=by
 cases q:J9 b a with
 | false=>rfl
 | true=>have:=jh3 a b a h q; rw [jr0] at this; cases this
noncomputable def leL (a b:List Int):Bool:=!J9 b a
theorem kk5 (a b:List Int):(leL a b || leL b a) = true:=by
 unfold leL
 cases q:J9 b a with
 | false=>rfl
 | true=>rw [ku4 b a q]; rfl
theorem ju1 (a b c:List Int) (h1:leL a b = true) (h2:leL b c = true):leL a c = true:=by
 unfold leL at h1 h2 ⊢
 have h1:J9 b a = false:=by simpa using h1
 have h2:J9 c b = false:=by simpa using h2
 cases q:J9 c a with
 | false=>rfl
 | true =>
  by_cases e:a = b
  ·subst e; rw [h2] at q; cases q
  ·have:J9 a b = true:=by
    cases z:J9 a b with
    | true=>rfl
    | false=>exact absurd (jy5 a b z h1) e
   have:=jh3 c a b q this
   rw [h2] at this; cases this
theorem ks9 (a b:List Int) (h1:leL a b = true) (h2:leL b a = true):a = b:=jy5 a b (by simpa [leL] using h2) (by simpa [leL] using h1)
noncomputable def ja3 (ds:List D):List D:=ds.mergeSort fun a b=>leL (fl a) (fl b)
theorem Q8 (ds:List D):(ja3 ds).Perm ds:=List.mergeSort_perm _ _
theorem jj5 (ds:List D):(ja3 ds).Pairwise fun a b=>leL (fl a) (fl b) = true :=
 List.pairwise_mergeSort (le:=fun a b=>leL (fl a) (fl b)) (fun a b c=>ju1 (fl a) (fl b) (fl c)) (fun a b=>kk5 (fl a) (fl b)) ds
theorem jd9 {ds es:List D} (hs:∀ a ∈ ds,∀ b ∈ ds,shp a b = true) (hp:es.Perm ds) (hw:es.Pairwise fun a b=>leL (fl a) (fl b) = true):es = ja3 ds:=by
 refine List.Perm.eq_of_pairwise (le:=fun a b=>leL (fl a) (fl b) = true) (fun a b ha hb h1 h2=>?_) hw (jj5 ds) (hp.trans (Q8 ds).symm)
 exact kj1 a b (hs a (hp.mem_iff.mp ha) b ((Q8 ds).mem_iff.mp hb)) (ks9 _ _ h1 h2)
end Dm
end T_Dl
section T_Dm2
namespace Dm
open PySem PyProof.Rows L2 HT PySem.SeqAt
noncomputable def LtAt (A:Around) (s:Shared) (u v:Value) (b:Bool):Prop :=
 ∀ (prog:Program) (w:World) (E:Value -> Shared -> Prop) (Q:Value -> Shared -> Prop),Q (.bool b) s -> wpAny (model prog w) A (richCompare .Lt u v) Q E s
inductive PL (A:Around) (s:Shared):List Value -> List Value -> List D -> List D -> Prop
 | nil:PL A s [] [] [] []
 | cons {v w:Value} {x y:D} {vs ws:List Value} {xs ys:List D}:EqAt A s v w (decide (fl x = fl y)) -> LtAt A s v w (J9 (fl x) (fl y)) -> (fl x).length = (fl y).length -> PL A s vs ws xs ys -> PL A s (v :: vs) (w :: ws) (x :: xs) (y :: ys)
theorem PL.len {A:Around} {s:Shared} {vs ws:List Value} {xs ys:List D} (h:PL A s vs ws xs ys):vs.length = ws.length:=by
 induction h with
 | nil=>rfl
 | cons _ _ _ _ ih=>rw [List.length_cons,List.length_cons,ih]
section
open PySem.AutoSeq1 (wpAny_loadPart')
open PySem.MeetsSeq PySem.MeetsSeq2 PySem.MeetsSeq3
theorem ke4 (l b:Addr) (items items2:Array Value) (n n2:Nat) (dd dd2:Option Addr) (sl sl2:Array (Option Value)) (xs ys:List D) :
  Meets (Builtin.«tuple.__lt__» ⟨[.ref l,.ref b],[]⟩) (fun A R s =>
   s.heap.get? l = some { cls:=.type "tuple",dict:=dd,data:=.seq items n,slots:=sl } /\
   s.heap.get? b = some { cls:=.type "tuple",dict:=dd2,data:=.seq items2 n2,slots:=sl2 } /\
   PL A.in1 s items.toList items2.toList xs ys /\ R (.ok (.ret (.bool (J9 (fls xs) (fls ys))))) s) :=
 .of_wp fun prog w A R s h=>by
  obtain ⟨hp,g,d,tk,os⟩:=s
  obtain ⟨hl,hb,hP,h⟩:=h
  have f2:=AutoSeq1.sub_tuple_tuple
  have lens:items.size = items2.size:=by simpa using hP.len
  wp_walk using wpAny_loadPart' hl,wpAny_loadPart' hb,wpAny_forIn_list _ (fun rest b s'=>b.1 = none /\ s' = ⟨hp,g,d,tk,os⟩ /\ ∃ (vs ws:List Value) (xs' ys':List D),rest = vs.zip ws /\
   PL A.in1 ⟨hp,g,d,tk,os⟩ vs ws xs' ys' /\ R (.ok (.ret (.bool (J9 (fls xs') (fls ys'))))) ⟨hp,g,d,tk,os⟩) _
  case turn =>
   rintro ⟨y,x⟩ rest b s' ⟨hb',rfl,vs,ws,xs',ys',hz,hP',hR⟩
   cases hP' with
   | nil=>cases hz
   | @cons v0 w0 x0 y0 _ _ _ _ he hlt hfl hP'' =>
    rw [List.zip_cons_cons] at hz
    injection hz with hyx hrest
    injection hyx with hy hx
    subst hy hx
    rw [fls,fls,jy6 hfl] at hR
    refine wpAny_bind (he prog w _ _ ?_)
    by_cases c:fl x0 = fl y0
    ·rw [if_pos c] at hR
     rw [decide_eq_true c]
     wp_walk
     exact ⟨rfl,rfl,_,_,_,_,hrest,hP'',hR⟩
    ·rw [if_neg c] at hR
     rw [decide_eq_false c]
     have hri:=hlt prog w
     wp_walk using hri
     exact ⟨_,rfl,by simpa using hR⟩
  case fin =>
   rintro ⟨b1,b2⟩ s' ⟨hb',rfl,vs,ws,xs',ys',hz,hP',hR⟩
   simp only at hb'
   subst hb'
   cases hP' with
   | cons _ _ _ _=>cases hz
   | nil =>
    wp_walk
    refine ⟨_,rfl,?_⟩
    simpa [Builtin.Tuple.tupleCompareSizes,lens,fls,Y7] using hR
  case h=>exact ⟨rfl,rfl,items.toList,items2.toList,xs,ys,rfl,hP,h⟩
end
mutual
noncomputable def nl:D -> Bool
 | .lst _=>false
 | .tup ds=>nls ds
 | _=>true
noncomputable def nls:List D -> Bool
 | []=>true
 | d :: ds=>nl d && nls ds
end
section
variable {s:Shared}
mutual
theorem qm8:∀ (x y:D) {A:Around} {u v:Value},shp x y = true -> nl x = true -> DAt s.heap x u -> DAt s.heap y v -> A.units + dep x < cLine -> LtAt A s u v (J9 (fl x) (fl y))
 | .int i,y,A,u,v,h,_,hu,hv,_=>by
  rcases Q7 h with ⟨_,j,_,rfl⟩ | ⟨_,_,e1,_⟩ | ⟨_,_,e1,_⟩
  ·rw [DAt] at hu
   rw [DAt] at hv
   obtain ⟨t,rfl⟩:=hu
   obtain ⟨t',rfl⟩:=hv
   intro prog w E Q hq
   refine ku8 A s i t j t' prog w E Q ?_
   rw [fl,fl,Q9,Y7] at hq
   by_cases c:i = j
   ·rw [if_pos c] at hq
    rw [decide_eq_false (by lia)]; exact hq
   ·rw [if_neg c] at hq; exact hq
  ·cases e1
  ·cases e1
 | .tup xs,y,A,u,v,h,hn,hu,hv,hr=>by
  rcases Q7 h with ⟨_,_,e1,_⟩ | ⟨xs',ys,e1,rfl,q⟩ | ⟨_,_,e1,_⟩
  ·cases e1
  ·obtain rfl:xs = xs':=by injection e1
   rw [DAt] at hu
   rw [DAt] at hv
   refine x2_3 hu fun a it zo2 t1 p1=>?_
   clear hu
   obtain rfl:=zo2
   refine x2_3 hv fun b it2 zo2 t2 p2=>?_
   clear hv
   obtain rfl:=zo2
   rw [dep] at hr
   rw [nl] at hn
   obtain ⟨⟨cls,dd,data,sl⟩,ho,hc,n,hd⟩:=id t1
   obtain ⟨⟨cls2,dd2,data2,sl2⟩,ho2,hc2,n2,hd2⟩:=id t2
   simp only at hc hd hc2 hd2
   subst hc hd hc2 hd2
   intro prog w E Q hq
   rw [fl,fl] at hq
   exact richCompare_meets_room (op:=.Lt) ⟨_,ho,rfl⟩ ⟨_,ho2,rfl⟩ PySem.F.slot_tuple_lt PySem.F.entry_tuple_lt (PySem.F.args_tuple_lt_2 _ _) (ke4 a b it it2 n n2 dd dd2 sl sl2 xs ys)
    ⟨ho,ho2,pl_D xs ys q hn p1 p2 (A:=A.in1) (by show A.units + 1 + _ < _; lia),show Value.bool (J9 (fls xs) (fls ys)) ≠ Value.notImplemented /\ Q _ s from ⟨(fun x=>nomatch x),hq⟩⟩ (by lia)
  ·cases e1
 | .lst xs,y,A,u,v,h,hn,_,_,_=>by rw [nl] at hn; cases hn
 | .non,y,_,_,_,h,_,_,_,_=>by cases y <;> simp [shp] at h
 | .bl _,y,_,_,_,h,_,_,_,_=>by cases y <;> simp [shp] at h
 | .str _,y,_,_,_,h,_,_,_,_=>by cases y <;> simp [shp] at h
 | .brd _ _,y,_,_,_,h,_,_,_,_=>by cases y <;> simp [shp] at h
theorem pl_D:∀ (xs ys:List D) {A:Around} {vs ws:List Value},shps xs ys = true -> nls xs = true -> DAts s.heap xs vs -> DAts s.heap ys ws -> A.units + deps xs < cLine -> PL A s vs ws xs ys
 | [],[],A,vs,ws,_,_,h1,h2,_=>by rw [DAts] at h1 h2; subst h1; subst h2; exact .nil
 | [],_ :: _,_,_,_,h,_,_,_,_=>by simp [shps] at h
 | _ :: _,[],_,_,_,h,_,_,_,_=>by simp [shps] at h
 | x :: xs,y :: ys,A,vs,ws,h,hn,h1,h2,hr=>by
  rw [DAts] at h1
  rw [DAts] at h2
  refine x2_3 h1 fun v r zo2 a1 a2=>?_
  clear h1
  obtain rfl:=zo2
  refine x2_3 h2 fun v' r' zo2 b1 b2=>?_
  clear h2
  obtain rfl:=zo2
  rw [shps,Bool.and_eq_true] at h
  rw [nls,Bool.and_eq_true] at hn
  rw [deps] at hr
  obtain ⟨f1,f2⟩:=js3 x y h.1
  refine .cons ?_ (qm8 x y h.1 hn.1 a1 b1 (by lia)) (jq6 x y h.1) (pl_D xs ys h.2 hn.2 a2 b2 (by lia))
  rw [<- ky5 x y h.1]
  exact jo3 x y f1 f2 a1 b1 (by lia)
end
end
end Dm
end T_Dm2
section T_Dm3
namespace Dm
open PySem PySem.W PyProof.Rows L2 HT PySem.SeqAt So
mutual
theorem DAt.keep {h h':Heap} (k:∀ b o,h.get? b = some o -> h'.get? b = some o):∀ (d:D) {v:Value},DAt h d v -> DAt h' d v
 | .non,v,q=>by rw [DAt] at q ⊢; exact q
 | .bl b,v,q=>by rw [DAt] at q ⊢; exact q
 | .int i,v,q=>by rw [DAt] at q ⊢; exact q
 | .str x,v,q=>by rw [DAt] at q ⊢; exact q
 | .tup ds,v,q=>by
  rw [DAt] at q ⊢
  refine x2_3 q fun a it e t p=>?_
  clear q
  exact ⟨a,it,e,t.keeps k,DAts.keep k ds p⟩
 | .lst ds,v,q=>by
  rw [DAt] at q ⊢
  refine x2_3 q fun a it e t p=>?_
  clear q
  exact ⟨a,it,e,t.keeps k,DAts.keep k ds p⟩
 | .brd tb ds,v,q=>by rw [DAt] at q; exact q.elim
theorem DAts.keep {h h':Heap} (k:∀ b o,h.get? b = some o -> h'.get? b = some o):∀ (ds:List D) {vs:List Value},DAts h ds vs -> DAts h' ds vs
 | [],_,q=>by rw [DAts] at q ⊢; exact q
 | d :: ds,_,q=>by
  rw [DAts] at q ⊢
  refine x2_3 q fun v r e a b=>?_
  clear q
  exact ⟨v,r,e,DAt.keep k d a,DAts.keep k ds b⟩
end
theorem DAts.of_map {h:Heap} {α:Type} (f:α -> D) (g:α -> Value):∀ (l:List α),(∀ x ∈ l,DAt h (f x) (g x)) -> DAts h (l.map f) (l.map g)
 | [],_=>by rw [List.map_nil,DAts]; rfl
 | x :: l,hx=>by
  rw [List.map_cons,List.map_cons,DAts]
  exact ⟨_,_,rfl,hx x (.head _),DAts.of_map f g l fun y hy=>hx y (.tail _ hy)⟩
theorem kl6 {α:Type} {p q:α -> Bool}:∀ (l:List α),(∀ x ∈ l,p x = true -> q x = true) -> l.countP p <= l.countP q
 | [],_=>Nat.le_refl _
 | x :: l,h=>by
  rw [List.countP_cons,List.countP_cons]
  have ih:=kl6 l fun y hy=>h y (.tail _ hy)
  by_cases c:p x = true
  ·rw [if_pos c,if_pos (h x (.head _) c)]; lia
  ·rw [if_neg c]; lia
theorem kx2 {α:Type} {p q:α -> Bool}:∀ (l:List α),(∀ x ∈ l,p x = true -> q x = true) -> ∀ z ∈ l,q z = true -> p z = false -> l.countP p < l.countP q
 | x :: l,h,z,hz,hq,hp=>by
  rw [List.countP_cons,List.countP_cons]
  rcases List.mem_cons.mp hz with e | e
  ·subst e
   rw [if_neg (by rw [hp]; exact Bool.false_ne_true),if_pos hq]
   have:=kl6 l fun y hy=>h y (.tail _ hy)
   lia
  ·have ih:=kx2 l (fun y hy=>h y (.tail _ hy)) z e hq hp
   by_cases c:p x = true
   ·rw [if_pos c,if_pos (h x (.head _) c)]; lia
   ·rw [if_neg c]; lia
noncomputable def rk (ds:List D) (i:Nat):Nat:=(List.range ds.length).countP fun j=>J9 (fl (ds.getD j .non)) (fl (ds.getD i .non))
theorem qn4 (ds:List D) {i j:Nat} (hi:i < ds.length):J9 (fl (ds.getD i .non)) (fl (ds.getD j .non)) = decide (rk ds i < rk ds j):=by
 cases q:J9 (fl (ds.getD i .non)) (fl (ds.getD j .non)) with
 | true =>
  refine (decide_eq_true ?_).symm
  exact kx2 _ (fun k _ hk=>jh3 _ _ _ hk q) i (List.mem_range.mpr hi) q (jr0 _)
 | false =>
  refine (decide_eq_false (Nat.not_lt.mpr ?_)).symm
  refine kl6 _ fun k _ hk=>?_
  cases z:J9 (fl (ds.getD k .non)) (fl (ds.getD i .non)) with
  | true=>rfl
  | false =>
   have a:leL (fl (ds.getD i .non)) (fl (ds.getD k .non)) = true:=by unfold leL; rw [z]; rfl
   have b:leL (fl (ds.getD j .non)) (fl (ds.getD i .non)) = true:=by unfold leL; rw [q]; rfl
   have c:=ju1 _ _ _ b a
   unfold leL at c
   rw [hk] at c
   cases c
theorem kn6 {α:Type} (ds:List α) (z:α):(List.range ds.length).map (fun i=>ds.getD i z) = ds:=by
 refine List.ext_getElem (by simp) fun i h1 h2=>?_
 simp at h1
 simp [h1]
theorem kq7 {ds:List D} (hs:∀ a ∈ ds,∀ b ∈ ds,shp a b = true) {p:Array Nat} (hp:p.Perm (List.range ds.length).toArray) (hu:Up (rk ds) p ds.length):p.toList.map (fun i=>ds.getD i .non) = ja3 ds:=by
 have pm:p.toList.Perm (List.range ds.length):=by
  have:=Array.perm_iff_toList_perm.mp hp
  simpa using this
 refine jd9 hs ?_ ?_
 ·have:=pm.map fun i=>ds.getD i D.non
  rw [kn6] at this
  exact this
 ·rw [List.pairwise_map,List.pairwise_iff_getElem]
  intro i j hi hj hij
  have sz:p.toList.length = ds.length:=by rw [pm.length_eq,List.length_range]
  have u:=hu i j (Nat.le_of_lt hij) (by lia)
  have e:∀ k (hk:k < p.toList.length),vl (rk ds) p k = rk ds p.toList[k]:=fun k hk=>by
   unfold vl
   have:k < p.size:=by rw [<- Array.length_toList]; exact hk
   simp [Array.getD,this]
  rw [e i hi,e j hj] at u
  unfold leL
  rw [qn4 ds (i:=p.toList[j])]
  ·rw [decide_eq_false (by lia)]; rfl
  ·have:=pm.mem_iff.mp (List.getElem_mem hj)
   exact List.mem_range.mp this
inductive Sk:List D -> SortKind -> Prop
 | few {ds:List D} {kd:SortKind}:ds.length < 2 -> Sk ds kd
 | nums {ds:List D}:(∀ d ∈ ds,∃ i,d = .int i) -> Sk ds oneType'
 | tups {ds:List D}:(∀ d ∈ ds,∃ i xs,d = .tup (.int i :: xs)) -> Sk ds (tuples' true)
 | tupt {ds:List D}:(∀ d ∈ ds,∃ ys xs,d = .tup (.tup ys :: xs)) -> Sk ds (tuples' false)
section
variable {prog:Program} {w:World} {A:Around} {E:Value -> Shared -> Prop} {s:Shared}
theorem kk6 (i j:Int):J9 [i] [j] = decide (i < j):=by
 rw [Q9,Y7]
 by_cases c:i = j
 ·rw [if_pos c,decide_eq_false (by lia)]
 ·rw [if_neg c]
theorem kb2 {b fin:Bool} {Q:Bool -> Shared -> Prop}:∀ (xs ys:List D) (vs ws:List Value) (i:Nat),(b = true -> i = 0 -> ∃ m n xs' ys',xs = .int m :: xs' /\ ys = .int n :: ys') -> shps xs ys = true -> PL A s vs ws xs ys -> DAts s.heap xs vs -> DAts s.heap ys ws -> fin = false -> Q (J9 (fls xs) (fls ys)) s ->
  KatLex prog w A b fin Q (vs.zip ws) i s
 | [],[],vs,ws,i,_,_,hP,h1,h2,hf,hq=>by
  rw [DAts] at h1 h2
  subst h1; subst h2
  show Q fin s
  rw [hf]
  exact hq
 | [],_ :: _,_,_,_,_,h,_,_,_,_,_=>by simp [shps] at h
 | _ :: _,[],_,_,_,_,h,_,_,_,_,_=>by simp [shps] at h
 | x :: xs,y :: ys,vs,ws,i,hb,h,hP,h1,h2,hf,hq=>by
  rw [DAts] at h1
  rw [DAts] at h2
  refine x2_3 h1 fun v r zo2 a1 a2=>?_
  clear h1
  obtain rfl:=zo2
  refine x2_3 h2 fun v' r' zo2 b1 b2=>?_
  clear h2
  obtain rfl:=zo2
  rw [shps,Bool.and_eq_true] at h
  cases hP with
  | cons he hl hfl hP' =>
   rw [fls,fls,jy6 hfl] at hq
   refine kat_cons (he prog w _ _ (kat_go (fun c=>kat_yes ?_) (fun c=>kat_no ?_)))
   ·have c:=of_decide_eq_true c
    rw [if_pos c] at hq
    exact kb2 xs ys r r' (i + 1) (fun _ z=>absurd z (Nat.succ_ne_zero _)) h.2 hP' a2 b2 hf hq
   ·have c:=of_decide_eq_false c
    rw [if_neg c] at hq
    by_cases hb':b = true /\ i = 0
    ·obtain ⟨hb1,hb2⟩:=hb'
     refine x4_2 (hb hb1 hb2) fun m n _ _ e1 e2=>?_
     obtain ⟨rfl,_⟩ : x = .int m /\ _:=List.cons.inj e1
     obtain ⟨rfl,_⟩ : y = .int n /\ _:=List.cons.inj e2
     rw [DAt] at a1
     rw [DAt] at b1
     obtain ⟨t,rfl⟩:=a1
     obtain ⟨t',rfl⟩:=b1
     rw [hb1,hb2]
     refine oneLt_int ?_
     rw [fl,fl,kk6] at hq
     exact hq
    ·have:(b && i == 0) = false:=by
      cases b with
      | false=>rfl
      | true =>
       have:i ≠ 0:=fun z=>hb' ⟨rfl,z⟩
       simp [this]
     rw [this]
     exact kat_one _ _ (hl prog w _ _ (show PySem.W.BoolBack Q (.bool (J9 (fl x) (fl y))) s from hq))
theorem jl6 {h:Heap} {ds:List D} {vs:List Value} (p:DAts h ds vs) {i:Nat} (hi:i < ds.length):DAt h (ds.getD i .non) (vs.getD i Value.none) /\ ds.getD i .non ∈ ds:=by
 have hv:i < vs.length:=by rw [p.len]; exact hi
 obtain ⟨a,b⟩:=p.get i hv
 have e:vs.getD i Value.none = vs[i]:=by simp [hv]
 rw [e]
 exact ⟨a,b⟩
theorem qj0 {ds:List D} {kd:SortKind} {vs:List Value} {i j:Nat} {C:Bool -> Shared -> Prop} (k:Sk ds kd) (h2:2 <= ds.length) (hs:∀ a ∈ ds,∀ b ∈ ds,shp a b = true) (hn:∀ a ∈ ds,nl a = true) (hd:∀ a ∈ ds,A.units + dep a < cLine) (p:DAts s.heap ds vs)
  (hi:i < ds.length) (hj:j < ds.length) (hc:C (decide (rk ds i < rk ds j)) s):wpAny (model prog w) A (keyLt' kd (vs.getD i Value.none) (vs.getD j Value.none)) C (fun _ _=>False) s:=by
 rw [<- qn4 ds hi] at hc
 obtain ⟨ai,mi⟩:=jl6 p hi
 obtain ⟨aj,mj⟩:=jl6 p hj
 generalize ds.getD i .non = x at hc ai mi
 generalize ds.getD j .non = y at hc aj mj
 have tup:∀ {b:Bool} {xs ys:List D},x = .tup xs -> y = .tup ys -> (b = true -> ∃ m n xs' ys',xs = .int m :: xs' /\ ys = .int n :: ys') -> wpAny (model prog w) A (keyLt' (tuples' b) (vs.getD i Value.none) (vs.getD j Value.none)) C (fun _ _=>False) s:=by
  intro b xs ys ex ey hb
  have sh:=hs x mi y mj
  have nx:=hn x mi
  have dx:=hd x mi
  subst ex; subst ey
  rw [shp] at sh
  rw [nl] at nx
  rw [dep] at dx
  rw [DAt] at ai
  rw [DAt] at aj
  refine x2_3 ai fun a it e1 zo3 p1=>?_
  clear ai
  obtain ⟨o1,q1,_,n1,d1⟩:=zo3
  refine x2_3 aj fun b' it2 e2 zo3 p2=>?_
  clear aj
  obtain ⟨o2,q2,_,n2,d2⟩:=zo3
  rw [e1,e2]
  have P:=pl_D xs ys (A:=A) sh nx p1 p2 (by lia)
  refine kat_lt q1 d1 q2 d2 (kb2 xs ys _ _ 0 (fun h _=>hb h) sh P p1 p2 (decide_eq_false ?_) ?_)
  ·have:it.toList.length = it2.toList.length:=P.len
   simp at this
   lia
  ·rw [fl,fl] at hc
   exact hc
 cases k with
 | few h=>lia
 | nums h =>
  obtain ⟨m,rfl⟩:=h x mi
  obtain ⟨n,rfl⟩:=h y mj
  rw [DAt] at ai
  rw [DAt] at aj
  obtain ⟨t,e1⟩:=ai
  obtain ⟨t',e2⟩:=aj
  rw [e1,e2,keyLt'_oneType]
  refine oneLt_int ?_
  rw [fl,fl,kk6] at hc
  exact hc
 | tups h =>
  refine x2_1 (h x mi) fun m xs e1=>?_
  refine x2_1 (h y mj) fun n ys e2=>?_
  exact tup e1 e2 fun _=>⟨m,n,xs,ys,rfl,rfl⟩
 | tupt h =>
  refine x2_1 (h x mi) fun m xs e1=>?_
  refine x2_1 (h y mj) fun n ys e2=>?_
  exact tup e1 e2 fun z=>nomatch z
theorem jx9 {h:Heap}:∀ {ds:List D} {vs:List Value} (f:D -> Prop),(∀ d ∈ ds,∃ x xs,d = .tup (x :: xs) /\ f x) -> DAts h ds vs -> ∃ fs:List Value,fs.length = ds.length /\ KatTups h vs fs /\ ∀ v ∈ fs,∃ x,f x /\ DAt h x v
 | [],vs,f,_,p=>by
  rw [DAts] at p; subst p
  exact ⟨[],rfl,.nil,fun v hv=>absurd hv (by simp)⟩
 | d :: ds,vs,f,hd,p=>by
  rw [DAts] at p
  refine x2_3 p fun v r zo2 a b=>?_
  clear p
  obtain rfl:=zo2
  refine x1_3 (jx9 f (fun d hd'=>hd d (.tail _ hd')) b) fun fs l k e=>?_
  refine x2_2 (hd d (.head _)) fun x xs zo2 fx=>?_
  obtain rfl:=zo2
  rw [DAt] at a
  refine x2_3 a fun ad it zo2 zo3 p1=>?_
  clear a
  obtain rfl:=zo2
  obtain ⟨o1,q1,c1,n1,d1⟩:=zo3
  rw [DAts] at p1
  refine x2_3 p1 fun y r' e1 a1 _=>?_
  clear p1
  refine ⟨y :: fs,by rw [List.length_cons,List.length_cons,l],.cons q1 c1 d1 ?_ k,fun z hz=>?_⟩
  ·rw [<- Array.getElem?_toList,e1]; rfl
  ·rcases List.mem_cons.mp hz with rfl | hz
   ·exact ⟨x,fx,a1⟩
   ·exact e z hz
theorem ku5 {ds:List D} {kd:SortKind} {vs:List Value} {Q:SortKind -> Shared -> Prop} (k:Sk ds kd) (h2:2 <= ds.length) (p:DAts s.heap ds vs) (hq:Q kd s):wpAny (model prog w) A (keyKind' vs.toArray) Q E s:=by
 cases k with
 | few h=>lia
 | nums h =>
  refine kas_kind (T:=.type "int") (by rw [p.len]; exact h2) (fun v hv=>?_) (by decide) (by decide) hq
  obtain ⟨i,hi,e⟩:=List.mem_iff_getElem.mp hv
  obtain ⟨a,b⟩:=p.get i hi
  obtain ⟨m,em⟩:=h _ b
  rw [em,DAt] at a
  obtain ⟨t,et⟩:=a
  rw [<- e,et]
  exact Looks.now
 | tups h =>
  obtain ⟨fs,l,kt,e⟩:=jx9 (fun x=>∃ i,x = .int i) (fun d hd=>by obtain ⟨i,xs,e⟩:=h d hd; exact ⟨_,xs,e,i,rfl⟩) p
  refine kat_kind (T:=.type "int") kt (by lia) (fun v hv=>?_) (by decide) hq
  refine x1_2 (e v hv) fun x zo1 q=>?_
  obtain ⟨i,rfl⟩:=zo1
  rw [DAt] at q
  obtain ⟨t,rfl⟩:=q
  exact Looks.now
 | tupt h =>
  obtain ⟨fs,l,kt,e⟩:=jx9 (fun x=>∃ ys,x = .tup ys) (fun d hd=>by obtain ⟨ys,xs,e⟩:=h d hd; exact ⟨_,xs,e,ys,rfl⟩) p
  refine kat_kind (T:=.type "tuple") kt (by lia) (fun v hv=>?_) (by decide) hq
  refine x1_2 (e v hv) fun x zo1 q=>?_
  obtain ⟨ys,rfl⟩:=zo1
  rw [DAt] at q
  refine x2_3 q fun a it zo2 zo3 _=>?_
  clear q
  obtain rfl:=zo2
  obtain ⟨o1,q1,c1,_⟩:=zo3
  have lk:Looks (model prog w) s.heap (typeOf (.ref a)) o1.cls:=(Looks.ld q1).andThen .now
  rw [c1] at lk
  exact lk
theorem jl4 {v:Value} {Pd:List D -> SortKind -> List Value -> Prop} {Q:Value -> Shared -> Prop}
  (hk:∀ es kd vs,Pd es kd vs -> Sk es kd /\ es.length < 64 /\ (∀ a ∈ es,∀ b ∈ es,shp a b = true) /\ (∀ a ∈ es,nl a = true) /\ ∀ a ∈ es,A.units + 2 + dep a < cLine)
  (hcol:∀ R:List Value -> Shared -> Prop,(∀ h' tk es kd vs,(∀ b ob,s.heap.get? b = some ob -> h'.get? b = some ob) -> Pd es kd vs -> DAts h' es vs -> R vs { s with heap:=h',toks:=tk }) -> wpAny (model prog w) A.in1 (collect v) R E s)
  (h:∀ (h1 h':Heap) tk es kd vs L n (pm:List Nat),(∀ b ob,s.heap.get? b = some ob -> h1.get? b = some ob) -> (∀ b ob,h1.get? b = some ob -> h'.get? b = some ob) -> Pd es kd vs -> DAts h1 es vs -> h1.objs.size <= L -> (∀ i ∈ pm,i < es.length) -> ja3 es = pm.map (fun i=>es.getD i .non) ->
   h'.get? L = some (seqObj "list" (pm.map fun i=>vs.getD i Value.none).toArray n) -> Q (.ref L) { s with heap:=h',toks:=tk }) :
  wpAny (model prog w) A (call (.builtin "sorted") [v]) Q E s:=by
 refine Calls.call_function_entry kind_sorted plain_sorted entry_sorted (args_sorted1 _) ?_
 unfold Builtin.«sorted»
 refine wpAny_bind (m:=checkCount "sorted" 1 1 _) (wpAny_pure ?_)
 refine wpAny_bind (hcol _ fun h1 tk es kd vs k1 pd p=>?_)
 refine x0_5 (hk es kd vs pd) fun sk l64 hs hn hd=>?_
 have lv:vs.length = es.length:=p.len
 have big:64 <= sizeLine:=by rw [sizeLine_eq]; decide
 refine wpAny_bind (wpAny_newList ?_ (by lia))
 have oL:(h1.push (seqObj "list" vs.toArray 0)).get? h1.objs.size = some (seqObj "list" vs.toArray 0):=Heap.get?_push_size _ rfl
 have nk:∀ h',kk9 h1.objs.size (h1.push (seqObj "list" vs.toArray 0)) h' -> ∀ b ob,h1.get? b = some ob -> h'.get? b = some ob:=fun h' kh b ob e=>kh b ob (Nat.ne_of_lt (Heap.lt_size e)) (Heap.get?_push_of_some _ e)
 refine wpAny_bind (wpAny_holding (wpAny_call_entry slot_list_sort ⟨_,oL,rfl⟩ entry_list_sort ?body (args_list_sort _)))
 case body =>
  refine jw5 (kd:=kd) (r:=rk es) (s:={ s with heap:=h1.push (seqObj "list" vs.toArray 0),toks:=tk }) oL (by lia) (fun h2 h' R kh hR=>ku5 sk (by lia) (p.keep (nk h' kh)) hR) (fun h2 h' i j C kh hi hj hC=>?_) fun h' n' pm kh hp hu ho=>?_
  ·exact qj0 sk (by lia) hs hn (fun a ha=>by have:=hd a ha; show A.units + 1 + 1 + _ < _; lia) (p.keep (nk h' kh)) (by lia) (by lia) hC
  ·rw [lv] at hp hu
   have lt:∀ i ∈ pm.toList,i < es.length:=fun i hi=>by
    have:=(Array.perm_iff_toList_perm.mp hp).mem_iff.mp hi
    simpa using this
   exact ⟨_,rfl,wpAny_pure ⟨_,rfl,h h1 h' tk es kd vs _ n' pm.toList k1 (nk h' kh) pd p (Nat.le_refl _) lt (kq7 hs hp hu).symm ho⟩⟩
end
end Dm
end T_Dm3
section T_Dn
namespace Dm
open PySem PyProof.Rows L2 PySem.SeqAt
section
variable {s:Shared}
theorem qc9 {A:Around} {d e:D} {u v:Value} {n:Nat} (x:Vw s.heap d u) (y:Vw s.heap e v) (hr0:A.units < cLine) (hn:dep d = n) (fx:flat d = true) (fy:flat e = true)
  (ht:∀ {xs ys:List D} {a b:Addr} {its jts:Array Value},dep (.tup xs) = n -> J3 xs = true -> J3 ys = true -> IsTup s.heap a its -> DAts s.heap xs its.toList -> IsTup s.heap b jts -> DAts s.heap ys jts.toList -> RcAt A s (.ref a) (.ref b) (eqDs xs ys))
  (hl:∀ {xs ys:List D} {a b:Addr} {its jts:Array Value},dep (.lst xs) = n -> J3 xs = true -> J3 ys = true -> PlainL s.heap a its -> DAts s.heap xs its.toList -> PlainL s.heap b jts -> DAts s.heap ys jts.toList -> RcAt A s (.ref a) (.ref b) (eqDs xs ys)):RcAt A s u v (eqD d e):=by
 cases x with
 | non =>
  cases y with
  | non=>exact RcAt.none_none
  | bl c=>exact RcAt.none_bool c
  | int j r=>exact RcAt.none_int j r
  | str y r=>exact RcAt.none_str y r
  | tup q' p'=>exact RcAt.none_tuple (j7 q') hr0
  | lst q' p'=>exact RcAt.none_list q'.isList hr0
 | bl b =>
  cases y with
  | non=>exact RcAt.bool_none b
  | bl c=>exact RcAt.bool_bool b c
  | int j r=>exact RcAt.bool_int b j r
  | str y r=>exact RcAt.bool_str b y r
  | tup q' p'=>exact RcAt.bool_tuple b (j7 q') hr0
  | lst q' p'=>exact RcAt.bool_list b q'.isList hr0
 | int i t =>
  cases y with
  | non=>exact RcAt.int_none i t
  | bl c=>exact RcAt.int_bool i t c
  | int j r=>exact RcAt.int_int i t j r
  | str y r=>exact RcAt.int_str i t y r
  | tup q' p'=>exact RcAt.int_tuple i t (j7 q') hr0
  | lst q' p'=>exact RcAt.int_list i t q'.isList hr0
 | str x t =>
  cases y with
  | non=>exact RcAt.str_none x t
  | bl c=>exact RcAt.str_bool x t c
  | int j r=>exact RcAt.str_int x t j r
  | str y r=>exact RcAt.str_str x t y r
  | tup q' p'=>exact RcAt.str_tuple x t (j7 q') hr0
  | lst q' p'=>exact RcAt.str_list x t q'.isList hr0
 | tup q p =>
  cases y with
  | non=>exact RcAt.tuple_none (j7 q) hr0
  | bl c=>exact RcAt.tuple_bool c (j7 q) hr0
  | int j r=>exact RcAt.tuple_int j r (j7 q) hr0
  | str y r=>exact RcAt.tuple_str y r (j7 q) hr0
  | tup q' p'=>exact ht hn (by rw [flat] at fx; exact fx) (by rw [flat] at fy; exact fy) q p q' p'
  | lst q' p'=>exact RcAt.tuple_list (j7 q) q'.isList hr0
 | lst q p =>
  cases y with
  | non=>exact RcAt.list_none q.isList hr0
  | bl c=>exact RcAt.list_bool c q.isList hr0
  | int j r=>exact RcAt.list_int j r q.isList hr0
  | str y r=>exact RcAt.list_str y r q.isList hr0
  | tup q' p'=>exact RcAt.list_tuple q.isList (j7 q') hr0
  | lst q' p'=>exact hl hn (by rw [flat] at fx; exact fx) (by rw [flat] at fy; exact fy) q p q' p'
theorem qo0 (d e:D) {A:Around} {u v:Value} (fx:flat d = true) (fy:flat e = true) (hu:DAt s.heap d u) (hv:DAt s.heap e v) (hr:A.units + dep d < cLine):RcAt A s u v (eqD d e):=by
 have hr0:A.units < cLine:=Nat.lt_of_le_of_lt (Nat.le_add_right _ _) hr
 refine qc9 (vw hu) (vw hv) hr0 rfl fx fy (fun {xs ys a b its jts} hn fx fy q p q' p'=>?_) (fun {xs ys a b its jts} hn fx fy q p q' p'=>?_)
 ·rw [<- jw3 p p']
  exact RcAt.tuples (j7 q) (j7 q') hr0 (jf1 p p' fun x y u v m1 m2 g1 g2=>jo3 _ _ (J0 fx m1) (J0 fy m2) g1 g2 (by show A.units + 1 + _ < _; rw [<- hn,dep] at hr; have:=Y3 m1; lia))
 ·by_cases hl:its.size = jts.size
  ·rw [<- ko5 p p' hl]
   exact RcAt.lists q.isList q'.isList hl hr0 (jf1 p p' fun x y u v m1 m2 g1 g2=>jo3 _ _ (J0 fx m1) (J0 fy m2) g1 g2 (by show A.units + 1 + _ < _; rw [<- hn,dep] at hr; have:=Y3 m1; lia))
  ·rw [<- kl1 p p' hl]
   exact RcAt.lists_lengths q.isList q'.isList (by simpa using hl) hr0
theorem ki9 {A:Around} {d e:D} {u v:Value} {n:Nat} (x:Vw s.heap d u) (y:Vw s.heap e v) (hr0:A.units < cLine) (hn:dep d = n) (fx:flat d = true) (fy:flat e = true)
  (ht:∀ {xs ys:List D} {a b:Addr} {its jts:Array Value},dep (.tup xs) = n -> J3 xs = true -> J3 ys = true -> IsTup s.heap a its -> DAts s.heap xs its.toList -> IsTup s.heap b jts -> DAts s.heap ys jts.toList -> RcNeAt A s (.ref a) (.ref b) (!eqDs xs ys))
  (hl:∀ {xs ys:List D} {a b:Addr} {its jts:Array Value},dep (.lst xs) = n -> J3 xs = true -> J3 ys = true -> PlainL s.heap a its -> DAts s.heap xs its.toList -> PlainL s.heap b jts -> DAts s.heap ys jts.toList -> RcNeAt A s (.ref a) (.ref b) (!eqDs xs ys)):RcNeAt A s u v (!eqD d e):=by
 cases x with
 | non =>
  cases y with
  | non=>exact RcNeAt.none_none
  | bl c=>exact RcNeAt.none_bool c
  | int j r=>exact RcNeAt.none_int j r
  | str y r=>exact RcNeAt.none_str y r
  | tup q' p'=>exact RcNeAt.none_tuple (j7 q') hr0
  | lst q' p'=>exact RcNeAt.none_list q'.isList hr0
 | bl b =>
  cases y with
  | non=>exact RcNeAt.bool_none b
  | bl c=>exact RcNeAt.bool_bool b c
  | int j r=>exact RcNeAt.bool_int b j r
  | str y r=>exact RcNeAt.bool_str b y r
  | tup q' p'=>exact RcNeAt.bool_tuple b (j7 q') hr0
  | lst q' p'=>exact RcNeAt.bool_list b q'.isList hr0
 | int i t =>
  cases y with
  | non=>exact RcNeAt.int_none i t
  | bl c=>exact RcNeAt.int_bool i t c
  | int j r=>exact RcNeAt.int_int i t j r
  | str y r=>exact RcNeAt.int_str i t y r
  | tup q' p'=>exact RcNeAt.int_tuple i t (j7 q') hr0
  | lst q' p'=>exact RcNeAt.int_list i t q'.isList hr0
 | str x t =>
  cases y with
  | non=>exact RcNeAt.str_none x t
  | bl c=>exact RcNeAt.str_bool x t c
  | int j r=>exact RcNeAt.str_int x t j r
  | str y r=>exact RcNeAt.str_str x t y r
  | tup q' p'=>exact RcNeAt.str_tuple x t (j7 q') hr0
  | lst q' p'=>exact RcNeAt.str_list x t q'.isList hr0
 | tup q p =>
  cases y with
  | non=>exact RcNeAt.tuple_none (j7 q) hr0
  | bl c=>exact RcNeAt.tuple_bool c (j7 q) hr0
  | int j r=>exact RcNeAt.tuple_int j r (j7 q) hr0
  | str y r=>exact RcNeAt.tuple_str y r (j7 q) hr0
  | tup q' p'=>exact ht hn (by rw [flat] at fx; exact fx) (by rw [flat] at fy; exact fy) q p q' p'
  | lst q' p'=>exact RcNeAt.tuple_list (j7 q) q'.isList hr0
 | lst q p =>
  cases y with
  | non=>exact RcNeAt.list_none q.isList hr0
  | bl c=>exact RcNeAt.list_bool c q.isList hr0
  | int j r=>exact RcNeAt.list_int j r q.isList hr0
  | str y r=>exact RcNeAt.list_str y r q.isList hr0
  | tup q' p'=>exact RcNeAt.list_tuple q.isList (j7 q') hr0
  | lst q' p'=>exact hl hn (by rw [flat] at fx; exact fx) (by rw [flat] at fy; exact fy) q p q' p'
theorem ks5 (d e:D) {A:Around} {u v:Value} (fx:flat d = true) (fy:flat e = true) (hu:DAt s.heap d u) (hv:DAt s.heap e v) (hr:A.units + dep d < cLine):RcNeAt A s u v (!eqD d e):=by
 have hr0:A.units < cLine:=Nat.lt_of_le_of_lt (Nat.le_add_right _ _) hr
 refine ki9 (vw hu) (vw hv) hr0 rfl fx fy (fun {xs ys a b its jts} hn fx fy q p q' p'=>?_) (fun {xs ys a b its jts} hn fx fy q p q' p'=>?_)
 ·rw [<- jw3 p p']
  exact RcNeAt.tuples (j7 q) (j7 q') hr0 (jf1 p p' fun x y u v m1 m2 g1 g2=>jo3 _ _ (J0 fx m1) (J0 fy m2) g1 g2 (by show A.units + 1 + _ < _; rw [<- hn,dep] at hr; have:=Y3 m1; lia))
 ·by_cases hl:its.size = jts.size
  ·rw [<- ko5 p p' hl]
   exact RcNeAt.lists q.isList q'.isList hl hr0 (jf1 p p' fun x y u v m1 m2 g1 g2=>jo3 _ _ (J0 fx m1) (J0 fy m2) g1 g2 (by show A.units + 1 + _ < _; rw [<- hn,dep] at hr; have:=Y3 m1; lia))
  ·rw [<- kl1 p p' hl]
   exact RcNeAt.lists_lengths q.isList q'.isList (by simpa using hl) hr0
end
end Dm
end T_Dn
section T_Rp
namespace Dm
open PySem PyProof.Rows L2 PySem.SeqAt
theorem Same.tup {K:PySem.W.Frag} {H H':Hp} {a:Addr} {xs:List V} (e:Same H H') (h:SqT K H a xs):SqT K H' a xs:=by
 rcases h with (h | ⟨o,h⟩) | h
 ·exact .inl (.inl (e _ _ h))
 ·exact .inl (.inr ⟨o,e _ _ h⟩)
 ·exact .inr h
noncomputable def er (H:Hp) (A:List Addr):Hp:=fun a=>if a ∈ A then none else H a
theorem Z5 {H:Hp} {A:List Addr} {a:Addr} (h:a ∈ A):er H A a = none:=if_pos h
theorem w6 {H:Hp} {A:List Addr} {a:Addr} (h:a ∉ A):er H A a = H a:=if_neg h
theorem q8 (H:Hp) (A:List Addr):Same (er H A) H:=fun b o h=>by
 by_cases q:b ∈ A
 ·rw [Z5 q] at h; cases h
 ·rwa [w6 q] at h
theorem q0 {H H':Hp} {A:List Addr} (e:Same H H'):Same (er H A) (er H' A):=fun b o h=>by
 by_cases q:b ∈ A
 ·rw [Z5 q] at h; cases h
 ·rw [w6 q] at h ⊢; exact e b o h
structure Cfg where
 ob:Nat -> PySem.W.Frag -> Hp -> Addr -> List V -> Prop
 mono:∀ {t:Nat} {K:PySem.W.Frag} {H H':Hp} {a:Addr} {vs:List V},Same H H' -> ob t K H a vs -> ob t K H' a vs
noncomputable def cfg0:Cfg:=⟨fun _ _ _ _ _=>False,fun _ h=>h⟩
mutual
noncomputable def Rep (K:PySem.W.Frag) (C:Cfg):Hp -> D -> V -> Prop
 | _,.non,v=>v = .non
 | _,.bl b,v=>v = .bl b
 | _,.int i,v=>v = .int i
 | _,.str x,v=>v = .str x
 | H,.tup ds,v=>∃ a xs,v = .ref a /\ SqT K H a xs /\ Reps K C H ds xs
 | H,.lst ds,v=>∃ a xs,v = .ref a /\ SqL K H a xs /\ Reps K C (er H [a]) ds xs
 | H,.brd t ds,v=>∃ a xs,v = .ref a /\ C.ob t K H a xs /\ Reps K C H ds xs
noncomputable def Reps (K:PySem.W.Frag) (C:Cfg):Hp -> List D -> List V -> Prop
 | _,[],vs=>vs = []
 | H,d :: ds,vs=>∃ v r,vs = v :: r /\ Rep K C H d v /\ Reps K C H ds r
end
section
variable {K:PySem.W.Frag} {C:Cfg}
mutual
theorem Rep.same:∀ {H H':Hp} (e:Same H H') (d:D) {v:V},Rep K C H d v -> Rep K C H' d v
 | _,_,e,.non,v,q=>by rw [Rep] at q ⊢; exact q
 | _,_,e,.bl b,v,q=>by rw [Rep] at q ⊢; exact q
 | _,_,e,.int i,v,q=>by rw [Rep] at q ⊢; exact q
 | _,_,e,.str x,v,q=>by rw [Rep] at q ⊢; exact q
 | _,_,e,.tup ds,v,q=>by
  rw [Rep] at q ⊢
  refine x2_3 q fun a xs h1 h2 h3=>?_
  clear q
  exact ⟨a,xs,h1,Same.tup e h2,Reps.same e ds h3⟩
 | _,_,e,.lst ds,v,q=>by
  rw [Rep] at q ⊢
  refine x2_3 q fun a xs h1 h2 h3=>?_
  clear q
  exact ⟨a,xs,h1,e.seq h2,Reps.same (q0 e) ds h3⟩
 | _,_,e,.brd t ds,v,q=>by
  rw [Rep] at q ⊢
  refine x2_3 q fun a xs h1 h2 h3=>?_
  clear q
  exact ⟨a,xs,h1,C.mono e h2,Reps.same e ds h3⟩
theorem Reps.same:∀ {H H':Hp} (e:Same H H') (ds:List D) {vs:List V},Reps K C H ds vs -> Reps K C H' ds vs
 | _,_,e,[],_,q=>by rw [Reps] at q ⊢; exact q
 | _,_,e,d :: ds,_,q=>by
  rw [Reps] at q ⊢
  refine x2_3 q fun v r e1 a b=>?_
  clear q
  exact ⟨v,r,e1,Rep.same e d a,Reps.same e ds b⟩
end
variable {H H':Hp}
theorem Rep.items {ds:List D} {v:V} (q:Rep K C H (.lst ds) v):∃ a xs,v = .ref a /\ SqL K H a xs /\ Reps K C H ds xs:=by
 rw [Rep] at q
 refine x2_3 q fun a xs h1 h2 h3=>?_
 clear q
 exact ⟨a,xs,h1,h2,h3.same (q8 _ _) _⟩
theorem Reps.len:∀ {ds:List D} {vs:List V},Reps K C H ds vs -> vs.length = ds.length
 | [],_,e=>by rw [Reps] at e; subst e; rfl
 | d :: ds,_,e=>by
  rw [Reps] at e
  refine x2_3 e fun v r zo2 _ q=>?_
  clear e
  obtain rfl:=zo2
  rw [List.length_cons,List.length_cons,q.len]
theorem Reps.get:∀ {ds:List D} {vs:List V} {j:Nat} {v:V},Reps K C H ds vs -> vs[j]? = some v -> ∃ d,ds[j]? = some d /\ Rep K C H d v
 | [],_,j,v,e,h=>by rw [Reps] at e; subst e; cases h
 | d :: ds,_,j,v,e,h=>by
  rw [Reps] at e
  refine x2_3 e fun u r zo2 a q=>?_
  clear e
  obtain rfl:=zo2
  cases j with
  | zero=>cases h; exact ⟨d,rfl,a⟩
  | succ j=>exact q.get (by simpa using h)
theorem Reps.get':∀ {ds:List D} {vs:List V} {j:Nat} {d:D},Reps K C H ds vs -> ds[j]? = some d -> ∃ v,vs[j]? = some v /\ Rep K C H d v
 | [],_,j,v,e,h=>by cases h
 | d :: ds,_,j,v,e,h=>by
  rw [Reps] at e
  refine x2_3 e fun u r zo2 a q=>?_
  clear e
  obtain rfl:=zo2
  cases j with
  | zero=>cases h; exact ⟨u,rfl,a⟩
  | succ j =>
   refine x1_2 (q.get' (j:=j) (by simpa using h)) fun z h1 h2=>?_
   exact ⟨z,by simpa using h1,h2⟩
theorem Reps.nil:Reps K C H [] []:=by rw [Reps]
theorem Reps.cons {d:D} {ds:List D} {v:V} {vs:List V} (a:Rep K C H d v) (b:Reps K C H ds vs):Reps K C H (d :: ds) (v :: vs):=by rw [Reps]; exact ⟨v,vs,rfl,a,b⟩
theorem Reps.app:∀ {ds es:List D} {vs ws:List V},Reps K C H ds vs -> Reps K C H es ws -> Reps K C H (ds ++ es) (vs ++ ws)
 | [],_,_,_,a,b=>by rw [Reps] at a; subst a; exact b
 | d :: ds,_,_,_,a,b=>by
  rw [Reps] at a
  refine x2_3 a fun v r zo2 a1 a2=>?_
  clear a
  obtain rfl:=zo2
  exact .cons a1 (a2.app b)
theorem Reps.take:∀ {ds:List D} {vs:List V} (n:Nat),Reps K C H ds vs -> Reps K C H (ds.take n) (vs.take n)
 | [],_,n,a=>by rw [Reps] at a; subst a; simp [Reps]
 | d :: ds,_,0,a=>by simp [Reps]
 | d :: ds,_,n + 1,a=>by
  rw [Reps] at a
  refine x2_3 a fun v r zo2 a1 a2=>?_
  clear a
  obtain rfl:=zo2
  rw [List.take_succ_cons,List.take_succ_cons]
  exact .cons a1 (a2.take n)
theorem Reps.drop:∀ {ds:List D} {vs:List V} (n:Nat),Reps K C H ds vs -> Reps K C H (ds.drop n) (vs.drop n)
 | [],_,n,a=>by rw [Reps] at a; subst a; simp [Reps]
 | d :: ds,_,0,a=>a
 | d :: ds,_,n + 1,a=>by
  rw [Reps] at a
  refine x2_3 a fun v r zo2 a1 a2=>?_
  clear a
  obtain rfl:=zo2
  rw [List.drop_succ_cons,List.drop_succ_cons]
  exact a2.drop n
theorem Reps.ints:∀ ns:List Int,Reps K C H (ns.map D.int) (ns.map V.int)
 | []=>.nil
 | n :: ns=>.cons (by rw [Rep]) (Reps.ints ns)
end
section
variable {X:Cx} {pins:List (Addr × Obj)} {σ:L2.St} {H:Hp} {s:Shared} {C:Cfg}
mutual
theorem Inv.dat (I:Inv X pins σ H s):∀ (d:D) {v:V} {u:Value},flat d = true -> Rep X.K C H d v -> RelV v u -> DAt s.heap d u
 | .non,v,u,_,q,r=>by rw [Rep] at q; subst q; rw [DAt]; exact r
 | .bl b,v,u,_,q,r=>by rw [Rep] at q; subst q; rw [DAt]; exact r
 | .int i,v,u,_,q,r=>by rw [Rep] at q; subst q; rw [DAt]; exact r
 | .str x,v,u,_,q,r=>by rw [Rep] at q; subst q; rw [DAt]; exact r
 | .tup ds,v,u,f,q,r=>by
  rw [Rep] at q
  rw [flat] at f
  refine x2_3 q fun a xs zo2 h2 h3=>?_
  clear q
  obtain rfl:=zo2
  obtain rfl:u = .ref a:=r
  refine x1_3 (I.tuple h2) fun its r1 t _=>?_
  rw [DAt]
  exact ⟨a,its.toArray,rfl,t,Inv.dats I ds f h3 r1⟩
 | .lst ds,v,u,f,q,r=>by
  have q:=q.items
  rw [flat] at f
  refine x2_3 q fun a xs zo2 h2 h3=>?_
  clear q
  obtain rfl:=zo2
  obtain rfl:u = .ref a:=r
  refine x1_3 (I.list h2) fun its r1 t _=>?_
  rw [DAt]
  exact ⟨a,its.toArray,rfl,t,Inv.dats I ds f h3 r1⟩
 | .brd tb ds,v,u,f,q,r=>by rw [flat] at f; cases f
theorem Inv.dats (I:Inv X pins σ H s):∀ (ds:List D) {vs:List V} {us:List Value},J3 ds = true -> Reps X.K C H ds vs -> Vals vs us -> DAts s.heap ds us
 | [],_,_,_,q,r=>by rw [Reps] at q; subst q; cases r; rw [DAts]
 | d :: ds,_,_,f,q,r=>by
  rw [Reps] at q
  refine x2_3 q fun v vs' zo2 a b=>?_
  clear q
  obtain rfl:=zo2
  rw [J3,Bool.and_eq_true] at f
  cases r with
  | cons r1 r2 =>
   rw [DAts]
   exact ⟨_,_,rfl,Inv.dat I d f.1 a r1,Inv.dats I ds f.2 b r2⟩
end
noncomputable def rEqD (K:PySem.W.Frag) (C:Cfg) (neg:Bool):R2:=fun x y H Q=>∃ d e,Rep K C H d x /\ Rep K C H e y /\ flat d = true /\ flat e = true /\ dep d <= 60 /\ Q (.bl (if neg then !eqD d e else eqD d e)) H
theorem Q5 (hu:X.A.units + 64 < cLine):OpR X (compareOp .Eq) (rEqD X.K C false):=by
 intro pins s σ H x y v u Q I rx ry ⟨d,e,h1,h2,f1,f2,h3,q⟩
 exact qo0 d e f1 f2 (Inv.dat I d f1 h1 rx) (Inv.dat I e f2 h2 ry) (by lia) _ _ _ _ ⟨.bl (eqD d e),H,I,rfl,q⟩
theorem ky1 (hu:X.A.units + 64 < cLine):OpR X (compareOp .NotEq) (rEqD X.K C true):=by
 intro pins s σ H x y v u Q I rx ry ⟨d,e,h1,h2,f1,f2,h3,q⟩
 exact ks5 d e f1 f2 (Inv.dat I d f1 h1 rx) (Inv.dat I e f2 h2 ry) (by lia) _ _ _ _ ⟨.bl (!eqD d e),H,I,rfl,q⟩
noncomputable def rInD (K:PySem.W.Frag) (C:Cfg) (neg:Bool):R2:=fun x y H Q=>∃ d es,Rep K C H d x /\ (Rep K C H (.lst es) y \/ Rep K C H (.tup es) y) /\ flat d = true /\ J3 es = true /\ deps es <= 60 /\ Q (.bl (if neg then !(es.any fun e=>eqD e d) else es.any fun e=>eqD e d)) H
noncomputable def jt9 (h:Heap) (d:D) (y:Value):Bool:=@decide (∃ e,DAt h e y /\ eqD e d = true) (Classical.propDecidable _)
theorem kb7 {h:Heap} {d e:D} {y:Value} (q:DAt h e y):jt9 h d y = eqD e d:=by
 unfold jt9
 cases z:eqD e d with
 | true=>exact @decide_eq_true _ (Classical.propDecidable _) ⟨e,q,z⟩
 | false =>
  refine @decide_eq_false _ (Classical.propDecidable _) ?_
  rintro ⟨e',q',z'⟩
  rw [DAt.inj e e' q q'] at z
  rw [z] at z'; cases z'
theorem jd5 {h:Heap} {d:D}:∀ (es:List D) {ys:List Value},DAts h es ys -> ys.any (jt9 h d) = es.any fun e=>eqD e d
 | [],_,q=>by rw [DAts] at q; subst q; rfl
 | e :: es,_,q=>by
  rw [DAts] at q
  refine x2_3 q fun v r zo2 a b=>?_
  clear q
  obtain rfl:=zo2
  rw [List.any_cons,List.any_cons,kb7 a,jd5 es b]
theorem jf0 {A:Around} {d:D} {x:Value} (fd:flat d = true) (hx:DAt s.heap d x) {es:List D} {ys:List Value} (f:J3 es = true) (q:DAts s.heap es ys) (hu:A.units + deps es < cLine):∀ y ∈ ys,EqAt A s y x (jt9 s.heap d y):=fun y hy=>by
 obtain ⟨j,hj,e⟩:=List.mem_iff_getElem.mp hy
 obtain ⟨a,b⟩:=q.get j hj
 rw [e] at a
 rw [kb7 a]
 have:=Y3 b
 exact jo3 _ _ (J0 f b) fd a hx (by lia)
theorem qn3 (hu:X.A.units + 64 < cLine):OpR X (compareOp .In) (rInD X.K C false):=by
 intro pins s σ H x y v u Q I rx ry ⟨d,es,h1,h2,f1,f2,h3,q⟩
 have hd:=Inv.dat I d f1 h1 rx
 rcases h2 with h2 | h2
 ·have he:=Inv.dat I (.lst es) (by rw [flat]; exact f2) h2 ry
  rw [DAt] at he
  refine x2_3 he fun a it zo2 t p=>?_
  clear he
  obtain rfl:=zo2
  refine in_listAt (jt9 s.heap d) t.isList (fun y hy=>jf0 f1 hd f2 p (by show X.A.units + 1 + _ < _; lia) y (Array.mem_toList_iff.mpr hy)) ?_
  rw [<- Array.any_toList,jd5 es p]
  exact ⟨.bl (es.any fun e=>eqD e d),H,I,rfl,q⟩
 ·have he:=Inv.dat I (.tup es) (by rw [flat]; exact f2) h2 ry
  rw [DAt] at he
  refine x2_3 he fun a it zo2 t p=>?_
  clear he
  obtain rfl:=zo2
  refine in_tupleAt (jt9 s.heap d) (j7 t) (fun y hy=>jf0 f1 hd f2 p (by show X.A.units + 1 + _ < _; lia) y (Array.mem_toList_iff.mpr hy)) ?_
  rw [<- Array.any_toList,jd5 es p]
  exact ⟨.bl (es.any fun e=>eqD e d),H,I,rfl,q⟩
theorem kh4 (hu:X.A.units + 64 < cLine):OpR X (compareOp .NotIn) (rInD X.K C true):=by
 intro pins s σ H x y v u Q I rx ry ⟨d,es,h1,h2,f1,f2,h3,q⟩
 have hd:=Inv.dat I d f1 h1 rx
 rcases h2 with h2 | h2
 ·have he:=Inv.dat I (.lst es) (by rw [flat]; exact f2) h2 ry
  rw [DAt] at he
  refine x2_3 he fun a it zo2 t p=>?_
  clear he
  obtain rfl:=zo2
  refine notIn_listAt (jt9 s.heap d) t.isList (fun y hy=>jf0 f1 hd f2 p (by show X.A.units + 1 + _ < _; lia) y (Array.mem_toList_iff.mpr hy)) ?_
  rw [<- Array.any_toList,jd5 es p]
  exact ⟨.bl (!es.any fun e=>eqD e d),H,I,rfl,q⟩
 ·have he:=Inv.dat I (.tup es) (by rw [flat]; exact f2) h2 ry
  rw [DAt] at he
  refine x2_3 he fun a it zo2 t p=>?_
  clear he
  obtain rfl:=zo2
  refine notIn_tupleAt (jt9 s.heap d) (j7 t) (fun y hy=>jf0 f1 hd f2 p (by show X.A.units + 1 + _ < _; lia) y (Array.mem_toList_iff.mpr hy)) ?_
  rw [<- Array.any_toList,jd5 es p]
  exact ⟨.bl (!es.any fun e=>eqD e d),H,I,rfl,q⟩
end
end Dm
end T_Rp
section T_Rq
namespace Dm
open PySem PyProof.Rows L2 PySem.SeqAt Ts
section
variable {X:Cx} {C:Cfg}
theorem jy0 {ws:List V} {vs:List Value} (r:Vals ws vs):∀ (pm:List Nat),(∀ i ∈ pm,i < ws.length) -> Vals (pm.map fun i=>ws.getD i .non) (pm.map fun i=>vs.getD i Value.none)
 | [],_=>.nil
 | i :: pm,h=>by
  refine .cons ?_ (jy0 r pm fun j hj=>h j (.tail _ hj))
  have hi:=h i (.head _)
  refine x1_2 (r.get (List.getElem?_eq_getElem hi)) fun u h1 h2=>?_
  have e1:ws.getD i .non = ws[i]:=by simp [hi]
  have e2:vs.getD i Value.none = u:=by simp [h1]
  show RelV (ws.getD i .non) (vs.getD i Value.none)
  rw [e1,e2]; exact h2
theorem jz5 {K:PySem.W.Frag} {H:Hp} {ws:List V} {ds:List D} (r:Reps K C H ds ws):∀ (pm:List Nat),(∀ i ∈ pm,i < ds.length) -> Reps K C H (pm.map fun i=>ds.getD i .non) (pm.map fun i=>ws.getD i .non)
 | [],_=>.nil
 | i :: pm,h=>by
  refine .cons ?_ (jz5 r pm fun j hj=>h j (.tail _ hj))
  have hi:=h i (.head _)
  refine x1_2 (r.get' (List.getElem?_eq_getElem hi)) fun u h1 h2=>?_
  have e1:ds.getD i .non = ds[i]:=by simp [hi]
  have e2:ws.getD i .non = u:=by simp [h1]
  show Rep K C H (ds.getD i .non) (ws.getD i .non)
  rw [e1,e2]; exact h2
structure Sortable (ds:List D):Prop where
 kd:∃ kd,Sk ds kd
 few:ds.length < 64
 shp:∀ a ∈ ds,∀ b ∈ ds,shp a b = true
 nl:∀ a ∈ ds,nl a = true
 dep:∀ a ∈ ds,dep a <= 50
theorem jr3 {ds:List D} (h:∀ a ∈ ds,∀ b ∈ ds,shp a b = true):J3 ds = true:=je6 fun d hd=>(js3 d d (h d hd d hd)).1
noncomputable def ky3 (K:PySem.W.Frag) (C:Cfg):List V -> Hp -> VK -> Prop:=fun xs H Q=>∃ v ds,xs = [v] /\ Rep K C H (.lst ds) v /\ Sortable ds /\ ∀ p ws,H p = none -> Reps K C H (ja3 ds) ws -> Q (.ref p) (upd H p (.lst ws))
theorem ka4 {pins:List (Addr × Obj)} {σ:L2.St} {H:Hp} {s:Shared} {Q:VK} {h1 h':Heap} {tk L n:Nat} {ws:List V} {vs:List Value} (I:L2.Inv X pins σ H s) (k1:∀ b ob,s.heap.get? b = some ob -> h1.get? b = some ob) (k2:∀ b ob,h1.get? b = some ob -> h'.get? b = some ob)
  (hL:h1.objs.size <= L) (ho:h'.get? L = some (seqObj "list" vs.toArray n)) (r:Vals ws vs) (hz:ws.length <= sizeLine) (q:H L = none -> Q (.ref L) (upd H L (.lst ws))):EP X pins σ Q (.ref L) { s with heap:=h',toks:=tk }:=by
 have I1:L2.Inv X pins σ H { s with heap:=h1,toks:=tk }:=I.kept k1
 have hn:H L = none:=I1.hok.fresh hL
 refine ⟨.ref L,upd H L (.lst ws),I1.laid (t':=tk) k2 hL ⟨hz,vs,n,r,ho⟩,rfl,q hn⟩
theorem ju2 (hu:X.A.units + 64 < cLine):CallR X (.builtin "sorted") (ky3 X.K C):=by
 intro pins s σ H xs us Q I r ⟨v,ds,e,h1,S,q⟩
 subst e
 refine x1_2 (kh6 r) fun u zo1 rv=>?_
 obtain rfl:=zo1
 have h1:=h1.items
 refine x2_3 h1 fun a ws zo2 h2 h3=>?_
 clear h1
 obtain rfl:=zo2
 obtain rfl:u = .ref a:=rv
 refine x1_3 (I.list h2) fun its r1 pl hz=>?_
 have ff:=jr3 S.shp
 obtain ⟨kd,sk⟩:=S.kd
 have ld:its.length = ds.length:=by rw [<- r1.length,h3.len]
 refine jl4 (Pd:=fun es kd' vs=>es = ds /\ kd' = kd /\ vs = its) (fun es kd' vs hp=>?_) (fun R hR=>?_) fun h1 h' tk es kd' vs L n pm k1 k2 hp hd hL hlt hs ho=>?_
 ·refine x0_3 hp fun zo0 zo1 zo2=>?_
  clear hp
  obtain rfl:=zo0
  obtain rfl:=zo1
  obtain rfl:=zo2
  exact ⟨sk,S.few,S.shp,S.nl,fun a ha=>by have:=S.dep a ha; lia⟩
 ·refine collect_list (vs:=its) (s:=s) pl.isList ?_ (by rw [<- r1.length]; exact hz)
  have keep:∀ b ob,s.heap.get? b = some ob -> ((s.heap.push (seqObj "list" #[] 0)).update s.heap.objs.size (Obj.mapSeq (· ++ its.toArray))).get? b = some ob:=fun b ob e=>by
   rw [Heap.get?_update_ne _ _ _ _ (Nat.ne_of_lt (Heap.lt_size e))]
   exact Heap.get?_push_of_some _ e
  exact hR _ s.toks ds kd its keep ⟨rfl,rfl,rfl⟩ ((Inv.dats I ds ff h3 r1).keep keep)
 ·refine x0_3 hp fun zo0 zo1 zo2=>?_
  clear hp
  obtain rfl:=zo0
  obtain rfl:=zo1
  obtain rfl:=zo2
  have lw:ws.length = es.length:=h3.len
  have lp:pm.length = es.length:=by
   have:=congrArg List.length hs
   rw [List.length_map,(Q8 es).length_eq] at this
   exact this.symm
  refine ka4 I k1 k2 hL ho (jy0 r1 pm fun i hi=>by rw [lw]; exact hlt i hi) (by rw [List.length_map,lp,<- lw]; exact hz) fun hn=>q L _ hn ?_
  rw [hs]
  exact jz5 h3 pm hlt
end
end Dm
end T_Rq
section T_Sk
namespace Dm
open PySem PyProof.Rows L2 PySem.SeqAt Ts Tb
theorem jp2 {prog:Program} {w:World} {ks:List Int} {vs:List Value} (h:ItemsAre (intKind prog w) ks vs):∀ v ∈ vs,∃ i t,v = Value.int i t:=by
 induction h with
 | nil=>intro v hv; cases hv
 | cons h1 _ ih =>
  intro v hv
  rcases List.mem_cons.mp hv with rfl | hv
  ·obtain ⟨t,e⟩:=Value.isInt_shape h1
   exact ⟨_,t,e⟩
  ·exact ih v hv
noncomputable def tupS (prog:Program) (w:World):SKind prog w (List Int) where
 toHeapKind:=tupleKind (intKind prog w)
 noCls:=fun {A E s k a Q} hk h=>by
  have hT:=hk.typeIs
  refine x3_4 hk fun o items n ho _ hd hi=>?_
  clear hk
  unfold ofAClassStatement
  refine wpAny_bind (wpAny_typeOf hT ?_)
  dsimp only
  rw [if_pos (by decide)]
  refine wpAny_bind (wpAny_pure ?_)
  simp only [Bool.not_true,Bool.false_eq_true,if_false]
  refine wpAny_bind (wpAny_seqItems ho hd ?_)
  dsimp only
  refine wpAny_bind ?_
  rw [<- Array.forIn_toList]
  refine wpAny_forIn_list _ (fun rest r s'=>r.1 = none /\ s' = s /\ ∀ v ∈ rest,∃ i t,v = Value.int i t) _ ?_ ?_ _ _ ⟨rfl,rfl,jp2 hi⟩
  ·rintro v rest r s' ⟨hr,rfl,hall⟩
   refine x2_1 (hall v List.mem_cons_self) fun i t zo2=>?_
   obtain rfl:=zo2
   unfold ofAClassStatement
   refine wpAny_bind (wpAny_pure ?_)
   simp only [Bool.false_eq_true,if_false]
   exact wpAny_pure ⟨rfl,rfl,fun u hu=>hall u (List.mem_cons_of_mem _ hu)⟩
  ·rintro ⟨r1,r2⟩ s' ⟨hr,rfl,_⟩
   simp only at hr
   subst hr
   exact wpAny_pure h
 byVal:=fun {A E s k a Q} hk h=>by
  have hT:=hk.typeIs
  refine x3_4 hk fun o items n ho _ hd hi=>?_
  clear hk
  unfold hashByValue
  refine wpAny_bind (wpAny_specialOf hT F.slot_tuple_hash.lookup ?_)
  dsimp only
  refine wpAny_bind (wpAny_seqItems ho hd ?_)
  dsimp only [Option.getD]
  refine wpAny_bind ?_
  rw [<- Array.forIn_toList]
  refine wpAny_forIn_list _ (fun rest r s'=>r.1 = none /\ s' = s /\ ∀ v ∈ rest,∃ i t,v = Value.int i t) _ ?_ ?_ _ _ ⟨rfl,rfl,jp2 hi⟩
  ·rintro v rest r s' ⟨hr,rfl,hall⟩
   refine x2_1 (hall v List.mem_cons_self) fun i t zo2=>?_
   obtain rfl:=zo2
   unfold hashByValue
   refine wpAny_bind (wpAny_pure ?_)
   simp only [Bool.not_true,Bool.false_eq_true,if_false]
   exact wpAny_pure ⟨rfl,rfl,fun u hu=>hall u (List.mem_cons_of_mem _ hu)⟩
  ·rintro ⟨r1,r2⟩ s' ⟨hr,rfl,_⟩
   simp only at hr
   subst hr
   exact wpAny_pure h
 mono:=fun hk e=>by
  refine x3_4 hk fun o items n ho hc hd hi=>?_
  clear hk
  exact ⟨o,items,n,e _ _ ho hc,hc,hd,hi⟩
theorem ka6 {prog:Program} {w:World} {h:Heap}:∀ {ns:List Int} {vs:List Value},DAts h (ns.map D.int) vs -> ItemsAre (intKind prog w) ns vs
 | [],_,q=>by rw [List.map_nil,DAts] at q; subst q; exact .nil
 | n :: ns,_,q=>by
  rw [List.map_cons,DAts] at q
  refine x2_3 q fun v r zo2 a b=>?_
  clear q
  obtain rfl:=zo2
  rw [DAt] at a
  obtain ⟨t,rfl⟩:=a
  exact .cons (by show Value.isInt n (.int n t) = true; simp [Value.isInt]) (ka6 b)
theorem qq3 {prog:Program} {w:World} {h:Heap} {ns:List Int} {a:Addr} (q:DAt h (.tup (ns.map D.int)) (.ref a)):(tupS prog w).is h ns a:=by
 rw [DAt] at q
 refine x2_3 q fun b it e zo3 p=>?_
 clear q
 obtain ⟨o,h1,h2,n,h3⟩:=zo3
 obtain rfl:a = b:=by injection e
 exact ⟨o,it,n,h1,h2,h3,ka6 p⟩
noncomputable def SObj (prog:Program) (w:World) (a:Addr) (zs:List (List Int × Addr)) (h:Heap):Prop :=
 ∃ o ep t,h.get? a = some o /\ o.ExactSet /\ o.data = .set (zs.map (entry (tupS prog w))).toArray ep t /\ Good t zs.length /\ jv1 t (fun i=>((zs.map (entry (tupS prog w))).toArray[i]?.map (·.1)).getD 0) zs.length /\
  t.led = jc0 w /\ t.plain = true /\ zs.length * 5 < t.mask * 3 /\ (zs.map (·.1)).Nodup
section
variable {X:Cx} {C:Cfg}
noncomputable def jy1 (K:PySem.W.Frag) (H:Hp) (zs:List (List Int × Addr)):Prop:=∀ z ∈ zs,SqT K H z.2 (z.1.map V.int)
noncomputable def kt6 (X:Cx) (C:Cfg):List V -> Hp -> VK -> Prop:=fun xs H Q=>∃ (v:V) (nss:List (List Int)),xs = [v] /\ Rep X.K C H (.lst (nss.map fun ns=>.tup (ns.map D.int))) v /\ nss.length <= 50 /\
 ∀ p zs,H p = none -> jy1 X.K H zs -> (zs.map (·.1)).Nodup -> (∀ ns,ns ∈ zs.map (·.1) ↔ ns ∈ nss) -> Q (.ref p) (upd H p (.ext (SObj X.prog X.w p zs)))
theorem ju6 {K:PySem.W.Frag} {H:Hp}:∀ {nss:List (List Int)} {ws:List V},Reps K C H (nss.map fun ns=>.tup (ns.map D.int)) ws -> ∃ ys:List (List Int × Addr),ys.map (·.1) = nss /\ ws = (ys.map fun y=>V.ref y.2) /\ jy1 K H ys
 | [],_,q=>by rw [List.map_nil,Reps] at q; subst q; exact ⟨[],rfl,rfl,fun z hz=>by cases hz⟩
 | ns :: nss,_,q=>by
  rw [List.map_cons,Reps] at q
  refine x2_3 q fun v r zo2 a b=>?_
  clear q
  obtain rfl:=zo2
  refine x1_3 (ju6 b) fun ys e1 e2 m=>?_
  rw [Rep] at a
  refine x2_3 a fun ad xs zo2 t p=>?_
  clear a
  obtain rfl:=zo2
  have exs:xs = ns.map V.int:=by
   clear t
   induction ns generalizing xs with
   | nil=>rw [List.map_nil,Reps] at p; exact p
   | cons n ns ih =>
    rw [List.map_cons,Reps] at p
    refine x2_3 p fun v r' zo2 a1 a2=>?_
    clear p
    obtain rfl:=zo2
    rw [Rep] at a1
    rw [a1,ih _ a2]; rfl
  subst exs
  refine ⟨(ns,ad) :: ys,by rw [List.map_cons,e1],by rw [List.map_cons,e2],fun z hz=>?_⟩
  rcases List.mem_cons.mp hz with rfl | hz
  ·exact t
  ·exact m z hz
theorem kx4 {pins:List (Addr × Obj)} {σ:L2.St} {H:Hp} {s:Shared} (I:L2.Inv X pins σ H s) {z:List Int × Addr} (h:SqT X.K H z.2 (z.1.map V.int)):(tupS X.prog X.w).is s.heap z.1 z.2:=by
 refine qq3 ?_
 refine Inv.dat (C:=cfg0) I _ (v:=V.ref z.2) ?_ ?_ rfl
 ·rw [flat]
  exact je6 fun d hd=>by
   refine x1_2 (List.mem_map.mp hd) fun n _ zo2=>?_
   obtain rfl:=zo2
   rw [flat] <;> simp
 ·rw [Rep]
  exact ⟨z.2,_,rfl,h,Reps.ints z.1⟩
theorem ju5 {vs:List Value}:∀ {ys:List (List Int × Addr)},Vals (ys.map fun y=>V.ref y.2) vs -> vs = ys.map fun y=>Value.ref y.2
 | [],r=>by cases r; rfl
 | y :: ys,r=>by
  cases r with
  | cons r1 r2 =>
   rw [List.map_cons,ju5 r2]
   congr 1
theorem kp5 (hh:X.A.handled = none) (hu:X.A.units + 64 < cLine):CallR X (.type "set") (kt6 X C):=by
 intro pins s σ H xs us Q I r ⟨v,nss,e,h1,hn,q⟩
 subst e
 refine x1_2 (kh6 r) fun u zo1 rv=>?_
 obtain rfl:=zo1
 have h1:=h1.items
 refine x2_3 h1 fun a ws zo2 h2 h3=>?_
 clear h1
 obtain rfl:=zo2
 obtain rfl:u = .ref a:=rv
 refine x1_3 (I.list h2) fun its r1 pl hz=>?_
 refine x1_3 (ju6 h3) fun ys e1 e2 m=>?_
 subst e2
 obtain rfl:=ju5 r1
 have ly:ys.length = nss.length:=by rw [<- e1,List.length_map]
 refine kq8 (κ:=tupS X.prog X.w) (ys:=ys) hh (by show X.A.units + 1 + 1 + 1 < cLine; lia) pl.isList (by lia) (fun y hy=>kx4 I (m y hy)) fun h' tk o ep t zs k S m1 m2=>?_
 have hf:H s.heap.objs.size = none:=I.hok.fresh (Nat.le_refl _)
 refine ⟨.ref s.heap.objs.size,upd H s.heap.objs.size (.ext (SObj X.prog X.w s.heap.objs.size zs)),I.laid (t':=tk) k (Nat.le_refl _) ?_,rfl,q _ zs hf (fun z hz=>m z (m1 z hz)) S.keys fun ns=>?_⟩
 ·refine ⟨⟨o,ep,t,S.obj,S.exact',S.data,S.good,S.paths,S.led',S.plain,S.few,S.keys⟩,⟨o,S.obj⟩,?_⟩
  rintro h1 h2 ⟨o',ep',t',q1,q2⟩ ke
  exact ⟨o',ep',t',ke _ q1,q2⟩
 ·constructor
  ·intro hm
   refine x1_2 (List.mem_map.mp hm) fun z hz zo2=>?_
   obtain rfl:=zo2
   rw [<- e1]
   exact List.mem_map.mpr ⟨z,m1 z hz,rfl⟩
  ·intro hm
   rw [<- e1] at hm
   refine x1_2 (List.mem_map.mp hm) fun y hy zo2=>?_
   obtain rfl:=zo2
   exact m2 y hy
noncomputable def Rows (nss:List (List Int)):Prop:=∃ n,∀ ns ∈ nss,ns.length = n + 1
theorem jk8:∀ {a b:List Int},a.length = b.length -> shps (a.map D.int) (b.map D.int) = true
 | [],[],_=>by simp [shps]
 | x :: a,y :: b,h=>by
  rw [List.map_cons,List.map_cons,shps,jk8 (by simpa using h)]
  simp [shp]
theorem kd2:∀ a:List Int,nls (a.map D.int) = true
 | []=>by simp [nls]
 | x :: a=>by rw [List.map_cons,nls,kd2 a]; simp [nl]
theorem kn5 (a:List Int):deps (a.map D.int) = 0:=by
 have:deps (a.map D.int) <= 0:=jz9 fun d hd=>by
  refine x1_2 (List.mem_map.mp hd) fun n _ zo2=>?_
  obtain rfl:=zo2
  rw [dep] <;> simp
 lia
theorem jr2 {nss:List (List Int)} (h:Rows nss) (few:nss.length < 64):Sortable (nss.map fun ns=>.tup (ns.map D.int)):=by
 obtain ⟨n,hn⟩:=h
 have mem:∀ d ∈ nss.map (fun ns=>D.tup (ns.map D.int)),∃ ns ∈ nss,d = .tup (ns.map D.int):=fun d hd=>by
  refine x1_2 (List.mem_map.mp hd) fun ns h1 h2=>?_
  exact ⟨ns,h1,h2.symm⟩
 refine ⟨⟨_,.tups fun d hd=>?_⟩,by rw [List.length_map]; exact few,fun a ha b hb=>?_,fun a ha=>?_,fun a ha=>?_⟩
 ·refine x1_2 (mem d hd) fun ns h1 zo2=>?_
  obtain rfl:=zo2
  have:=hn ns h1
  match ns,this with
  | i :: r,_=>exact ⟨i,r.map D.int,rfl⟩
 ·refine x1_2 (mem a ha) fun ns h1 zo2=>?_
  obtain rfl:=zo2
  refine x1_2 (mem b hb) fun ms h2 zo2=>?_
  obtain rfl:=zo2
  rw [shp]
  exact jk8 (by rw [hn ns h1,hn ms h2])
 ·refine x1_2 (mem a ha) fun ns h1 zo2=>?_
  obtain rfl:=zo2
  rw [nl]; exact kd2 ns
 ·refine x1_2 (mem a ha) fun ns h1 zo2=>?_
  obtain rfl:=zo2
  rw [dep,kn5]; decide
noncomputable def ko9 (X:Cx) (C:Cfg):List V -> Hp -> VK -> Prop:=fun xs H Q=>∃ a zs,xs = [.ref a] /\ H a = some (.ext (SObj X.prog X.w a zs)) /\ jy1 X.K H zs /\ zs.length <= 50 /\ Rows (zs.map (·.1)) /\
 ∀ p ws (es:List (List Int)),H p = none -> es.Perm (zs.map (·.1)) -> Reps X.K C H (ja3 (es.map fun ns=>.tup (ns.map D.int))) ws -> Q (.ref p) (upd H p (.lst ws))
theorem km4 {α β:Type} {f:α -> β}:∀ {l:List α} {m:List β},m.Perm (l.map f) -> ∃ l':List α,l'.Perm l /\ m = l'.map f:=by
 intro l m h
 generalize e:l.map f = k at h
 induction h generalizing l with
 | nil =>
  exact ⟨l,.refl _,e.symm⟩
 | cons x _ ih =>
  match l,e with
  | a :: l,e =>
   rw [List.map_cons] at e
   injection e with e1 e2
   refine x1_2 (ih e2) fun l' p q=>?_
   exact ⟨a :: l',p.cons a,by rw [List.map_cons,e1,q]⟩
 | swap x y k =>
  match l,e with
  | a :: b :: l,e =>
   rw [List.map_cons,List.map_cons] at e
   injection e with e1 e2
   injection e2 with e2 e3
   exact ⟨b :: a :: l,.swap a b l,by rw [List.map_cons,List.map_cons,e1,e2,e3]⟩
 | trans _ _ ih1 ih2 =>
  refine x1_2 (ih2 e) fun l1 p1 q1=>?_
  refine x1_2 (ih1 q1.symm) fun l2 p2 q2=>?_
  exact ⟨l2,p2.trans p1,q2⟩
theorem jw9 (hh:X.A.handled = none) (hu:X.A.units + 64 < cLine):CallR X (.builtin "sorted") (ko9 X C):=by
 intro pins s σ H xs us Q I r ⟨a,zs,e,h1,hm,hn,hr,q⟩
 subst e
 refine x1_2 (kh6 r) fun u zo1 rv=>?_
 obtain rfl:=zo1
 obtain rfl:u = .ref a:=rv
 refine x0_3 (I.hok a _ h1) fun zo0 _ _=>?_
 obtain ⟨o,ep,t,g1,g2,g3,g4,g5,g6,g7,g8,g9⟩:=zo0
 have S:SetO (tupS X.prog X.w) s.heap a (jc0 X.w) zs o ep t:=⟨g1,g2,g3,g4,g5,g6,g7,g8,g9,fun x hx=>kx4 I (hm x hx)⟩
 refine jl4 (Pd:=fun es kd vs=>kd = tuples' true /\ ∃ l:List (List Int × Addr),l.Perm zs /\ es = (l.map fun y=>.tup (y.1.map D.int)) /\ vs = l.map fun y=>Value.ref y.2) (fun es kd vs hp=>?_) (fun R hR=>?_) fun h1 h' tk es kd vs L n pm k1 k2 hp hd hL hlt hs ho=>?_
 ·obtain ⟨rfl,l,p,rfl,rfl⟩:=hp
  obtain ⟨m,hm'⟩:=hr
  have rows:Rows (l.map (·.1)):=⟨m,fun ns hns=>hm' ns ((p.map _).mem_iff.mp hns)⟩
  have so:=jr2 rows (by rw [List.length_map,p.length_eq]; lia)
  rw [List.map_map] at so
  refine ⟨.tups fun d hd=>?_,so.few,so.shp,so.nl,fun a ha=>by have:=so.dep a ha; lia⟩
  refine x1_2 (List.mem_map.mp hd) fun y hy zo2=>?_
  obtain rfl:=zo2
  have:=hm' y.1 (List.mem_map.mpr ⟨y,p.mem_iff.mp hy,rfl⟩)
  match h:y.1,this with
  | i :: r,_=>exact ⟨i,r.map D.int,rfl⟩
 ·refine jy9 (κ:=tupS X.prog X.w) hh S hn fun h' tk vs k pv=>?_
  refine x1_2 (km4 pv) fun l p zo2=>?_
  obtain rfl:=zo2
  refine hR h' tk _ _ _ k ⟨rfl,l,p,rfl,rfl⟩ (DAts.of_map _ _ l fun y hy=>DAt.keep k _ ?_)
  have t:=hm y (p.mem_iff.mp hy)
  refine Inv.dat (C:=cfg0) I _ (v:=V.ref y.2) ?_ ?_ rfl
  ·rw [flat]
   exact je6 fun d hd=>by
    refine x1_2 (List.mem_map.mp hd) fun n _ zo2=>?_
    obtain rfl:=zo2
    rw [flat] <;> simp
  ·rw [Rep]
   exact ⟨y.2,_,rfl,t,Reps.ints y.1⟩
 ·obtain ⟨rfl,l,p,rfl,rfl⟩:=hp
  have ll:l.length <= 50:=by rw [p.length_eq]; exact hn
  have lp:pm.length = l.length:=by
   have:=congrArg List.length hs
   rw [List.length_map,(Q8 _).length_eq,List.length_map] at this
   exact this.symm
  have rv:∀ l:List (List Int × Addr),Vals (l.map fun y=>V.ref y.2) (l.map fun y=>Value.ref y.2):=fun l=>by
   induction l with
   | nil=>exact .nil
   | cons y l ih=>exact .cons rfl ih
  have lt':∀ i ∈ pm,i < l.length:=fun i hi=>by have:=hlt i hi; rwa [List.length_map] at this
  have rp:Reps X.K C H (l.map fun y=>.tup (y.1.map D.int)) (l.map fun y=>V.ref y.2):=by
   have hm2:∀ y ∈ l,SqT X.K H y.2 (y.1.map V.int):=fun y hy=>hm y (p.mem_iff.mp hy)
   clear hs hlt lt' lp hd ho p ll
   induction l with
   | nil=>exact .nil
   | cons y l ih =>
    refine .cons ?_ (ih fun z hz=>hm2 z (List.mem_cons_of_mem _ hz))
    rw [Rep]
    exact ⟨y.2,_,rfl,hm2 y List.mem_cons_self,Reps.ints y.1⟩
  have big:64 <= sizeLine:=by rw [sizeLine_eq]; decide
  refine ka4 I k1 k2 hL ho (jy0 (rv l) pm fun i hi=>by rw [List.length_map]; exact lt' i hi) (by rw [List.length_map,lp]; lia) fun hn'=>q L _ (l.map (·.1)) hn' (p.map _) ?_
  rw [List.map_map]
  show Reps X.K C H (ja3 (l.map fun y=>.tup (y.1.map D.int))) _
  rw [hs]
  exact jz5 rp pm hlt
end
end Dm
end T_Sk
section T_Ex
namespace Dm
open PySem PySem.Spec PyProof.Rows L2
noncomputable def Cov (l:List Env) (B h:Heap):Prop:=∀ b o,h.get? b = some o -> b ∉ frs l -> B.get? b = some o
noncomputable def CXr (P:Program) (w:World):CXT:=fun outer H s E e s'=>∃ a cls dx a0 H' h B,e = .ref a /\ Heap.FlyingW B outer a cls a0 s'.heap /\ XD dx a s'.heap /\ Cov outer B h /\ h.UpToSlots s'.heap /\ E cls dx H' /\ s'.os = s.os /\ AllBare s'.gens /\
 Un (frs outer) [] H H' s.heap h /\ HOk P w H' h
structure Made (h h':Heap) (a:Addr) (cls:Value):Prop where
 keeps:∀ b o,h.get? b = some o -> h'.get? b = some o
 new:h.get? a = none
 there:∃ o a0,h'.get? a = some o /\ o.cls = cls /\ o.data = .fields #[a0,.none,.none,.none,.bool false,.none]
theorem Made.of {h h':Heap} {a:Addr} {cls:Value} {vs:List Value} (x:Heap.MadeExcOf h h' a cls vs):Made h h' a cls:=by
 refine x1_3 x.there fun t he _ _=>?_
 exact ⟨x.keeps,x.new,_,_,he,rfl,rfl⟩
noncomputable def Fly (X:Cx) (E:L2.St -> XK) (e:Value) (s':Shared):Prop:=∃ a cls dx σ H h,e = .ref a /\ L2.Inv X [] σ H { s' with heap:=h } /\ E σ cls dx H /\ XD dx a s'.heap /\
 (Made h s'.heap a cls \/ (∃ a0 B,Cov X.stack B h /\ h.UpToSlots s'.heap /\ (Heap.FlyingW B X.stack a cls a0 s'.heap \/ Heap.HeldW B X.stack a cls a0 X.env.locals s'.heap)))
theorem jo8 {X:Cx} {pins:List (Addr × Obj)} {σ:L2.St} {H:Hp} {s:Shared} (I:L2.Inv X pins σ H s):L2.Inv X [] σ H s:=I.pins_of fun p hp=>by cases hp
section
variable {X:Cx} {E:L2.St -> XK}
theorem qe6 {pins:List (Addr × Obj)} {σ:L2.St} {H:Hp} {s:Shared} {h':Heap} {a:Addr} {cls:Value} (I:L2.Inv X pins σ H s) (hx:Made s.heap h' a cls) (q:E σ cls none H):Fly X E (.ref a) { s with heap:=h' } :=
 ⟨a,cls,none,σ,H,s.heap,rfl,jo8 I,q,.no,.inl hx⟩
theorem kc6 {pins:List (Addr × Obj)} {σ:L2.St} {H:Hp} {s s':Shared} {e:Value} (I:L2.Inv X pins σ H s) (c:CXr X.prog X.w X.stack H s (E σ) e s'):Fly X E e s':=by
 obtain ⟨a,cls,dx,a0,H',h,B,rfl,f,xd,cv,up,q,os,bare,un,hok⟩:=c
 have I':L2.Inv X pins σ H' { s' with heap:=h }:=Inv.call' I (s':={ s' with heap:=h }) os un hok bare (fun b z=>absurd z (by simp))
 exact ⟨a,cls,dx,σ,H',h,rfl,jo8 I',q,xd,.inr ⟨a0,B,cv,up,.inl f⟩⟩
theorem jq5 {h base:Heap} {l:List Env} (f:h.FunFrames base l):∃ B:Heap,Cov l B h /\ B.StaysIn h /\ h.FunFrames B l /\ ∀ b,h.get? b = none -> B.get? b = none:=by
 have st:(PySem.W.hideAll h (frs l)).StaysIn h:=fun b o e=>PySem.W.of_hideAll _ e
 refine ⟨PySem.W.hideAll h (frs l),fun b o e n=>PySem.W.hideAll_get _ e n,st,PySem.W.funFrames_hide f fun env he a ha=>List.mem_filterMap.mpr ⟨env,he,ha⟩,fun b hb=>?_⟩
 cases hq:(PySem.W.hideAll h (frs l)).get? b with
 | none=>rfl
 | some o'=>have:=st b o' hq; rw [hb] at this; cases this
structure Own1 (X:Cx):Prop where
 stk:X.stack = X.env :: X.outer
 fr:X.env.frame = some X.env.locals
theorem jp9 {e:Value} {s':Shared} {Q:Unit -> Shared -> Prop} {E':Value -> Shared -> Prop} (O:Own1 X) (f:Fly X E e s')
  (hq:∀ (a:Addr) cls dx a0 σ H h B h',e = .ref a -> L2.Inv X [] σ H { s' with heap:=h } -> E σ cls dx H -> XD dx a h' -> Cov X.stack B h -> h.UpToSlots h' -> Heap.HeldW B X.stack a cls a0 X.env.locals h' -> Q () { s' with heap:=h' }) :
  wpAny (model X.prog X.w) X.A (noteFrame e X.env) Q E' s':=by
 obtain ⟨a,cls,dx,σ,H,h,rfl,I,q,xd,f⟩:=f
 have fr:X.A.frames = some (X.env :: X.outer):=by rw [I.ok.frames,O.stk]
 refine wpAny_mono (jk0 (Q:=fun u s1=>XD dx a s1.heap -> Q u s1) (E:=E') (qa5 _ _) ?_ xd) (fun u s1 h=>h.1 h.2) fun _ _ h=>h.1
 rcases f with hx | ⟨a0,B,cv,up,f | f⟩
 ·obtain ⟨oe,a0,he,hcl,hdt⟩:=hx.there
  subst hcl
  obtain ⟨B,b1,b2,b3,b4⟩:=jq5 I.stack
  have ff:s'.heap.FunFrames B X.stack:=b3.of_keeps fun b o hb _=>⟨o,hx.keeps b o hb,rfl⟩
  rw [O.stk] at ff
  unfold noteFrame
  simp only [O.fr]
  refine wpAny_bind (wpAny_field he (vs:=#[a0,.none,.none,.none,.bool false,.none]) hdt (x:=.none) rfl ?_)
  rw [if_neg (by decide)]
  refine wpAny_entryW (a0:=a0) fr ff O.fr he (fun b o hb=>hx.keeps b o (b2 b o hb)) (b4 a hx.new) hdt (by simp) rfl fun h' hN=>?_
  obtain ⟨k1,k2,k3,k4⟩:=hN
  refine fun xd=>hq a _ dx a0 σ H h B h' rfl I q xd b1 ((Heap.UpToSlots.of_keeps hx.keeps).trans k4) ⟨k1,b4 a hx.new,?_,k3⟩
  rw [O.stk]; exact k2
 ·rw [O.stk] at f
  refine wpAny_looks_onW fr O.fr f fun h' hh us=>?_
  exact fun xd=>hq a cls dx a0 σ H h B h' rfl I q xd cv (up.trans us) (by rw [O.stk]; exact hh)
 ·refine wpAny_noteFrame_againW O.fr f.2.2.2 ?_
  exact fun xd=>hq a cls dx a0 σ H h B s'.heap rfl I q xd cv up f
theorem W0 (O:Own1 X):PassesOwn (model X.prog X.w) X.A X.env (Fly X E):=by
 intro e s' f
 refine jp9 O f fun a cls dx a0 σ H h B h' ea I q xd cv up hd=>?_
 subst ea
 unfold cameBackBy
 obtain ⟨k1,k2,k3,oe,vs,T,oT,ts,he,hc,hdd,h1,hnT,hTe,hT,hdT,h3⟩:=hd
 refine wpAny_bind (wpAny_field he hdd h1 ?_)
 rw [if_neg (by simp)]
 unfold setFlight
 refine wpAny_bind (wpAny_field he hdd h1 ?_)
 rw [if_pos (show (Value.ref T != Value.none) = true from by simp)]
 have h3s:3 < ts.size:=(Array.getElem?_eq_some_iff.mp h3).1
 rw [O.fr]
 refine wpAny_setField hT hdT h3s ?_
 have other:∀ b,b ≠ T -> (h'.update T (Obj.mapFields (·.setIfInBounds 3 (rawInt X.env.locals)))).get? b = h'.get? b:=fun b hb=>Heap.get?_update_other _ _ (Ne.symm hb)
 have noRec:∀ b o,h'.get? b = some o -> (∀ vs,o.data ≠ .fields vs) -> b ≠ T:=fun b o hb hnf z=>by
  rw [z,hT] at hb; injection hb with hb; subst hb; exact hnf ts hdT
 refine ⟨a,cls,dx,σ,H,h,rfl,I,q,xd.upd (ji8 _),.inr ⟨a0,B,cv,fun b o hb hn=>?_,.inr ⟨fun b o hb=>?_,k2,k3.of_keeps fun b o hb hnf=>⟨o,(other b (noRec b o hb hnf)).trans hb,rfl⟩,?_⟩⟩⟩
 ·obtain ⟨sl,e1⟩:=up b o hb hn
  exact ⟨sl,(other b (noRec b _ e1 fun vs z=>hn vs z)).trans e1⟩
 ·refine (other b fun z=>?_).trans (k1 b o hb)
  rw [z,hnT] at hb; cases hb
 ·refine ⟨oe,vs,T,_,_,(other a (Ne.symm hTe)).trans he,hc,hdd,h1,hnT,hTe,Heap.get?_update_self _ hT (Obj.isFreed_of_fields (Obj.data_mapFields hdT _)),Obj.data_mapFields hdT _,?_⟩
  simp [h3s]
end
section
variable {P:Program} {w:World} {K:PySem.W.Frag} {mg:Str -> Option Value} {base:Heap} {N:List Str} {qual:Str} {scope:Scope} {f:Addr} {cd:Value} {A:Around} {outer:List Env} {s:Shared} {H:Hp} {E:XK}
theorem jx3 {e:Value} {s':Shared} (fl:Fly (cxOf (CXr P w) P w K mg base N qual scope f cd A outer s H E) (fun _=>E) e s'):(cxOf (CXr P w) P w K mg base N qual scope f cd A outer s H E).xe e s':=by
 let X:=cxOf (CXr P w) P w K mg base N qual scope f cd A outer s H E
 have O:Own1 X:=⟨rfl,rfl⟩
 show wpAny (model P w) X.A (leaving X.env e) (fun _ s''=>CXr P w outer H s E e s'') (fun e' s''=>CXr P w outer H s E e' s'') s'
 unfold leaving
 refine wpAny_bind (jp9 O fl fun a cls dx a0 σ H' h B h' ea I q xd cv up hd=>?_)
 subst ea
 refine wpAny_mono (jk0 (Q:=fun _ s1=>XD dx a s1.heap -> CXr P w outer H s E (.ref a) s1) (E:=fun e' s1=>CXr P w outer H s E e' s1) (jd8 _ _) ?_ xd) (fun u s1 h=>h.1 h.2) fun _ _ h=>h.1
 refine wpAny_landsW hd fun h2 fl2 us xd=>?_
 refine x0_4 fl2 fun k1 k2 zo2 k4=>?_
 clear fl2
 obtain ⟨_,⟨L',o',e1,e2,e3,e4⟩,k3⟩:=zo2
 obtain rfl:X.env.locals = L':=Option.some.inj e1
 have hL:H' X.env.locals = none:=I.free
 have fr:∀ b,b ∈ frs X.stack ↔ b = X.env.locals \/ b ∈ frs outer:=fun b=>by
  show b ∈ frs (X.env :: outer) ↔ _
  unfold frs
  rw [List.filterMap_cons_some (show X.env.frame = some X.env.locals from rfl),List.mem_cons]
 have get:∀ b o,b ≠ X.env.locals -> h.get? b = some o -> (PySem.W.hideAll h [X.env.locals]).get? b = some o:=fun b o n e=>PySem.W.hideAll_get _ e (by simpa using n)
 refine ⟨a,cls,dx,a0,H',PySem.W.hideAll h [X.env.locals],B,rfl,⟨k1,k2,k3,k4⟩,xd,fun b o e nb=>?_,fun b o e hn=>?_,q,I.os,I.bare,?_,?_⟩
 ·have nl:b ≠ X.env.locals:=fun z=>by
   have z':=PySem.W.hideAll_none [X.env.locals] (h:=h) (b:=b) (by simp [z])
   rw [e] at z'
   cases z'
  exact cv b o (PySem.W.of_hideAll _ e) fun z=>by
   rcases (fr b).mp z with z | z
   ·exact nl z
   ·exact nb z
 ·exact (up.trans us) b o (PySem.W.of_hideAll _ e) hn
 ·have u:Un (frs outer) [] H H' s.heap h:=I.base
  have ne:∀ b o,s.heap.get? b = some o -> b ≠ X.env.locals:=fun b o e=>Nat.ne_of_lt (Nat.lt_of_lt_of_le (Heap.lt_size e) I.ok.above)
  refine ⟨fun b o e n nf nx=>get b o (ne b o e) (u.keep b o e n nf nx),fun b o e n nf nx=>?_,u.free,fun b o e nx=>?_,u.tups,u.frzs,u.tbls⟩
  ·obtain ⟨sl,e1⟩:=u.slot b o e n nf nx
   exact ⟨sl,get b _ (ne b o e) e1⟩
  ·obtain ⟨o',e1⟩:=u.there b o e nx
   exact ⟨o',get b _ (ne b o e) e1⟩
 ·intro b u e
  refine (I.hok b u e).stay (fun c v hc q'=>get c v ?_ q') (fun _ z=>z) fun _ _ z=>z
  rcases hc with z | z
  ·rintro rfl; rw [<- z,hL] at e; cases e
  ·rintro rfl; rw [hL] at z; cases z
end
end Dm
end T_Ex
section T_Ex2
namespace Dm
open PySem PySem.Spec PyProof.Rows L2 PySem.W
noncomputable def exD (K:Frag) (C:Addr) (bmB:List Value) (newId:String) (o:Obj):Bool:=match o.data with
 | .cls cd=>!cd.hasDel && cd.mro.head? == some (.ref C) && tailIn K bmB cd.mro.tail && nsOkIn K cd.ns && nsIn K cd.ns "__init__" == some none && o.cls == .type "type" && o.slots.toList[4]? == some (some (.builtin newId)) && o.slots.toList.length == 6
 | _=>false
noncomputable def exB (K:Frag) (C:Addr) (bmB:List Value) (newId:String):Bool:=(K.lookup C).any (exD K C bmB newId)
theorem six {l:List (Option Value)} {a:Option Value} (h:l.length = 6) (e:l[4]? = some a):∃ k0 k1 k2 k3 k5,l = [k0,k1,k2,k3,a,k5]:=by
 refine x2_1 (List.exists_cons_of_length_eq_add_one h) fun k0 l zo2=>?_
 obtain rfl:=zo2
 refine x2_1 (List.exists_cons_of_length_eq_add_one (Nat.succ.inj h)) fun k1 l zo2=>?_
 obtain rfl:=zo2
 refine x2_1 (List.exists_cons_of_length_eq_add_one (Nat.succ.inj (Nat.succ.inj h))) fun k2 l zo2=>?_
 obtain rfl:=zo2
 refine x2_1 (List.exists_cons_of_length_eq_add_one (Nat.succ.inj (Nat.succ.inj (Nat.succ.inj h)))) fun k3 l zo2=>?_
 obtain rfl:=zo2
 refine x2_1 (List.exists_cons_of_length_eq_add_one (Nat.succ.inj (Nat.succ.inj (Nat.succ.inj (Nat.succ.inj h))))) fun k4 l zo2=>?_
 obtain rfl:=zo2
 refine x2_1 (List.exists_cons_of_length_eq_add_one (Nat.succ.inj (Nat.succ.inj (Nat.succ.inj (Nat.succ.inj (Nat.succ.inj h)))))) fun k5 l zo2=>?_
 obtain rfl:=zo2
 obtain rfl:=List.eq_nil_of_length_eq_zero (Nat.succ.inj (Nat.succ.inj (Nat.succ.inj (Nat.succ.inj (Nat.succ.inj (Nat.succ.inj h))))))
 cases e
 exact ⟨k0,k1,k2,k3,k5,rfl⟩
theorem kw8 {K:Frag} {h:Heap} {mg:Str -> Option Value} {x:Str} {C:Addr} {bmB:List Value} {newId:String} (X:K.In h) (hb:mg x = some (.ref C)) (q:exB K C bmB newId = true):OwnCls x C bmB newId mg h:=by
 refine ⟨hb,?_⟩
 unfold exB at q
 cases ho:K.lookup C with
 | none=>rw [ho] at q; cases q
 | some o =>
  rw [ho] at q
  replace q:exD K C bmB newId o = true:=q
  obtain ⟨oc,dd,dt,sl⟩:=o
  cases dt with
  | cls cd =>
   obtain ⟨nm,bs,mro,ns,qn,hd,sn,sub,ab,col,del⟩:=cd
   obtain ⟨l⟩:=sl
   unfold exD at q
   simp only [Bool.and_eq_true,beq_iff_eq,Bool.not_eq_true'] at q
   obtain ⟨⟨⟨⟨⟨⟨⟨rfl,q1⟩,q2⟩,q3⟩,q4⟩,rfl⟩,q5⟩,q6⟩:=q
   cases mro with
   | nil=>cases q1
   | cons m bm =>
    cases q1
    refine x5_1 (six q6 q5) fun k0 k1 k2 k3 k5 zo5=>?_
    obtain rfl:=zo5
    exact ⟨bm,ns,nm,qn,bs,hd,sn,sub,ab,col,dd,k0,k1,k2,k3,k5,_,X _ _ ho,.of_isNs (isNs_of_in X q3),nsMap_none_of_in X q3 q4,tail_of_in X q2⟩
  | _=>exact nomatch q
section
variable {X:Cx} {E:L2.St -> XK} {x:Str} {C:Addr} {B newId initId:String} {bm:List Value} {np cpos pos:Pos} {e₀:Expr} {rest:List Expr} {ta:TA}
noncomputable def qo3 (E:L2.St -> XK) (cls:Value) (ta:TA):TS:=fun _ σ H=>ta σ H fun vs H1=>vs.length <= sizeLine /\ E σ cls none H1
theorem ks3 (FB:ExcBaseFacts B newId initId bm) (hh:X.A.handled = none) (hm:X.mg x = some (.ref C)) (hc:exB X.K C bm newId = true) (hg:Gl X x) (ha:PA (X.wish (Fly X E)) (e₀ :: rest) ta)
  (he:starEach (e₀ :: rest) X.env = (false,eval e₀ X.env) :: starEach rest X.env:=by rfl) (hplain:(backTo cpos (starEach rest X.env)).any (·.1) = false:=by rfl) (hd:(x == ("__debug__" : Str)) = false:=by decide) :
  PS (X.wish (Fly X E)) (.Raise (some (.Call (.Name x np) (e₀ :: rest) [] cpos)) none pos) (qo3 E (.ref C) ta):=by
 intro pins s σ H D I h
 have O:OwnCls x C bm newId X.mg X.base:=kw8 I.ok.mod.kin hm hc
 obtain ⟨tl,N,nm,q,bs,hdct,sn,sub,ab,col,dd,k0,k1,k2,k3,k5,mN,hC,hN,hni,T⟩:=O.obj
 refine wpAny_Raise_call_subT (C:=C) (nm:=nm) (q:=q) (N:=N) (bs:=bs) (bm:=tl) (hdct:=hdct) (sn:=sn) (sub:=sub) (ab:=ab) (col:=col) (dd:=dd) (k0:=k0) (k1:=k1) (k2:=k2) (k3:=k3) (k5:=k5)
  FB (mN:=mN) (T.hasType FB.hasBase) hh (by rw [he]; show (false || (backTo cpos (starEach rest X.env)).any (·.1)) = false; rw [hplain]; rfl) hni (ji2 I hg hm ⟨rfl,?_⟩ hd)
 have hp:=ha cpos pins s σ H _ I h
 rw [he] at hp ⊢
 refine Calls.evalArgs_plain (wpAny_mono hp (fun us s2 zz1=>?_) fun _ _ y=>y)
 refine x2_4 zz1 fun vs H1 I1 r z w=>?_
 clear zz1
 exact ⟨rfl,by rw [<- r.length]; exact z,I1.bk _ _ hC,hN.keeps I1.bk,T.keeps I1.bk,fun h' e hx=>qe6 I1.unwish (.of hx) w⟩
noncomputable def kx9 (sp:Sp) (E:L2.St -> XK) (t:TA):TE:=fun σ H Q=>t σ H fun vs H1=>sp vs H1 Q (E σ)
theorem qd6 {CX:CXT} {k:Nat} {f:Addr} {fd:FuncData} {ps:List Str} {sp:Sp} {pins:List (Addr × Obj)} {σ:L2.St} {H:Hp} {s:Shared} {Q:VK} {us:List Value} {vs:List V} (F:FnOk X.prog X.w X.K X.mg X.base (CXr X.prog X.w) k f fd ps sp) (hr:Room k X.A) (hb:Binds X.K fd ps [])
  (I:L2.Inv X pins σ H s) (r:Vals vs us) (h:sp vs H Q (E σ)):wpAny (model X.prog X.w) X.A (call (.ref f) us) (EP X pins σ Q) (Fly X E) s:=by
 have hl:(us ++ []).length = ps.length:=by rw [List.append_nil,<- r.length]; exact F.len _ _ _ _ h
 have hbd:=hb s us I.kIn hl
 rw [List.append_nil] at hbd
 refine wpAny_call (codeAny_mono (F.run X.A X.stack s H ⟨us,[]⟩ us vs Q (E σ) hr I.env0 hbd r h) fun r s' hq=>?_)
 cases r with
 | error e=>exact kc6 I hq
 | ok fl =>
  cases fl with
  | ret u=>exact I.after hq
  | next=>exact False.elim hq
  | brk=>exact False.elim hq
  | cont=>exact False.elim hq
theorem ks6 {k:Nat} {f:Addr} {fd:FuncData} {ps:List Str} {sp:Sp} {e:Expr} {es:List Expr} {t:TA} {p:Pos} (F:FnOk X.prog X.w X.K X.mg X.base (CXr X.prog X.w) k f fd ps sp) (hr:Room k X.A) (hg:Gl X x) (hm:X.mg x = some (.ref f)) (hk:PySem.W.keepIn X.K (.ref f) = true) (hb:Binds X.K fd ps [])
  (ha:PA (X.wish (Fly X E)) (e :: es) t) (hdb:(x == ("__debug__" : Str)) = false:=by decide) (he:starEach (e :: es) X.env = (false,eval e X.env) :: starEach es X.env:=by rfl) (hpl:(backTo pos (starEach es X.env)).any (·.1) = false:=by rfl) :
  PE (X.wish (Fly X E)) (.Call (.Name x p) (e :: es) [] pos) (kx9 sp E t):=by
 intro pins s σ H Q I h
 refine wpAny_Call_Name_kw (ji2 I hg hm ?_ hdb)
 refine PySem.W.callWith_K (h₀:=X.base) I.ok.mod.kin hk (thn (ha pos pins s σ H _ I h) fun us s1 zz2=>zz2.elim fun vs zz3=>zz3.elim fun H1 zz4=>zz4.elim fun I1 zz5=>zz5.elim fun r q=>⟨I1.kIn,?_⟩) he hpl
 refine thn (qd6 (CX:=CXr X.prog X.w) F hr hb I1.unwish r q) fun u s2 zz6=>zz6.elim fun v zz7=>zz7.elim fun H2 zz8=>zz8.elim fun I2 zz9=>zz9.elim fun r2 q2=>⟨v,H2,I2.wish _,r2,q2⟩
noncomputable def qj6 (C:Addr) (sp:Sp) (E:L2.St -> XK) (t:TA):TE:=fun σ H Q=>t σ H fun vs H1=>∀ x dx,H1 x = none -> H1 dx = none -> dx ≠ x ->
 sp (.ref x :: vs) (upd (upd H1 dx (.own x)) x (.ins C dx [])) (fun v H2=>v = .non /\ Q (.ref x) H2) (E σ)
theorem kl0 {k:Nat} {f:Addr} {fd:FuncData} {ps:List Str} {sp:Sp} {pins:List (Addr × Obj)} {σ:L2.St} {H:Hp} {s:Shared} {Q:VK} {us:List Value} {vs:List V} (M:Mk X.K C f) (F:FnOk X.prog X.w X.K X.mg X.base (CXr X.prog X.w) k f fd ps sp) (hr:Room (k + 1) X.A) (hb:Binds X.K fd ps [])
  (I:L2.Inv X pins σ H s) (r:Vals vs us) (h:∀ x dx,H x = none -> H dx = none -> dx ≠ x -> sp (.ref x :: vs) (upd (upd H dx (.own x)) x (.ins C dx [])) (fun v H2=>v = .non /\ Q (.ref x) H2) (E σ)) :
  wpAny (model X.prog X.w) X.A (call (.ref C) us) (EP X pins σ Q) (Fly X E) s:=by
 have hq:=h (s.heap.objs.size + 1) s.heap.objs.size (I.hok.fresh (Nat.le_succ _)) (I.hok.fresh (Nat.le_refl _)) (Nat.ne_of_lt (Nat.lt_succ_self _))
 have I2:=Inv.made (C:=C) I
 have r2:Vals (V.ref (s.heap.objs.size + 1) :: vs) (Value.ref (s.heap.objs.size + 1) :: us):=.cons rfl r
 have hl:(Value.ref (s.heap.objs.size + 1) :: us ++ []).length = ps.length:=by
  rw [List.append_nil,<- r2.length]; exact F.len _ _ _ _ hq
 have hbd:=hb _ (Value.ref (s.heap.objs.size + 1) :: us) I2.kIn hl
 rw [List.append_nil] at hbd
 refine wpAny_call (kv2 (f:=f) I.kIn M.makes M.init (beq_iff_eq.mp M.fn) (codeAny_mono (F.run _ X.stack _ _ ⟨Value.ref (s.heap.objs.size + 1) :: us,[]⟩ (Value.ref (s.heap.objs.size + 1) :: us) _ _ (E σ) (hr.make C us [])
  (I2.env0.make C us []) hbd r2 hq) fun r s' hq'=>?_))
 cases r with
 | error e=>exact kc6 I2 hq'
 | ok fl =>
  cases fl with
  | ret u =>
   refine x2_4 (I2.after hq') fun v H' I3 rv ev q3=>?_
   subst ev
   exact ⟨rv,⟨V.ref (s.heap.objs.size + 1),H',I3,rfl,q3⟩⟩
  | next=>exact False.elim hq'
  | brk=>exact False.elim hq'
  | cont=>exact False.elim hq'
theorem kt8 {k:Nat} {f:Addr} {fd:FuncData} {ps:List Str} {sp:Sp} {e:Expr} {es:List Expr} {t:TA} {p:Pos} (M:Mk X.K C f) (F:FnOk X.prog X.w X.K X.mg X.base (CXr X.prog X.w) k f fd ps sp) (hr:Room (k + 1) X.A) (hg:Gl X x) (hm:X.mg x = some (.ref C)) (hb:Binds X.K fd ps [])
  (ha:PA (X.wish (Fly X E)) (e :: es) t) (hdb:(x == ("__debug__" : Str)) = false:=by decide) (he:starEach (e :: es) X.env = (false,eval e X.env) :: starEach es X.env:=by rfl) (hpl:(backTo pos (starEach es X.env)).any (·.1) = false:=by rfl) :
  PE (X.wish (Fly X E)) (.Call (.Name x p) (e :: es) [] pos) (qj6 C sp E t):=by
 intro pins s σ H Q I h
 refine wpAny_Call_Name_kw (ji2 I hg hm ?_ hdb)
 refine PySem.W.callWith_K (h₀:=X.base) I.ok.mod.kin M.kp (thn (ha pos pins s σ H _ I h) fun us s1 zz10=>zz10.elim fun vs zz11=>zz11.elim fun H1 zz12=>zz12.elim fun I1 zz13=>zz13.elim fun r q=>⟨I1.kIn,?_⟩) he hpl
 refine thn (kl0 M F hr hb I1.unwish r q) fun u s2 zz14=>zz14.elim fun v zz15=>zz15.elim fun H2 zz16=>zz16.elim fun I2 zz17=>zz17.elim fun r2 q2=>⟨v,H2,I2.wish _,r2,q2⟩
theorem jv3 {P:Program} {w:World} {K:PySem.W.Frag} {mg:Str -> Option Value} {base:Heap} {x qual:Str} {st:Stmt} {f:Addr} {fd:FuncData} {N ps:List Str} {k:Nat} {sp:Sp} (F:Fun K x qual st f fd) (S:FnScope N ps (j4 st)) (len:∀ vs H Q E,sp vs H Q E -> vs.length = ps.length)
  (hbody:∀ (cdv:Value) (A:Around) (outer:List Env) (s:Shared) (H:Hp) (vs:List V) (Q:VK) (E:XK),Room k (A.deeper (envOfC qual (j4 st) s.heap.objs.size f cdv)) -> sp vs H Q E ->
   ∃ t,PSs ((cxOf (CXr P w) P w K mg base N qual (j4 st) f cdv A outer s H E).wish (Fly (cxOf (CXr P w) P w K mg base N qual (j4 st) f cdv A outer s H E) fun _=>E)) (v3 st) t /\ t { nx:=fun _ H'=>Q .non H',rt:=Q } (start N vs) H) :
  FnOk P w K mg base (CXr P w) (k + 1) f fd ps sp:=by
 refine x9_3 F.ex fun oc od kV doc pm an cdv ct osl zo9 lk hcd=>?_
 obtain rfl:=zo9
 refine qo4 lk hcd S len fun A outer s H vs Q E hr h=>?_
 refine x1_2 (hbody cdv A outer s H vs Q E hr h) fun t ht q=>?_
 refine ⟨t,fun pins s' σ H' D I hw=>?_,q⟩
 exact wpAny_mono (ht pins s' σ H' D (I.wish _) hw) (fun fl s'' hs=>SP.unwish hs) fun e s'' hs=>jx3 hs
end
end Dm
end T_Ex2
section T_Ex3
namespace Dm
open PySem PySem.Spec PyProof.Rows L2 PySem.W
section
variable {M:Model} {A:Around} {E:Value -> Shared -> Prop} {K:Frag} {h:Heap} {g:Array GenState} {d:Drawn} {t:Nat} {os:OsState} {e:Addr} {oe:Obj}
variable {nm q:Str} {C N:Addr} {bs bm:List Value} {hdct:Bool} {sn:List Str} {sub:List Value} {ab:Bool} {col:Option Bool} {dd:Option Addr} {k0 k1 k2 k3 k5:Option Value} {newId:String}
theorem jn5 {C0:Addr} {Q:Bool -> Shared -> Prop} (X:K.In h) (hC:h.get? C = some (excClassObj nm q C N bs bm hdct sn sub ab col dd k0 k1 k2 k3 k5 newId)) (hb:bm.contains (.type "BaseException") = true)
  (he:h.get? e = some oe) (hc:oe.cls = .ref C0) (e1:kitCls K (.ref C0) (.ref C) = some true) (hq:Q true ⟨h,g,d,t,os⟩):wpAny M A (excMatches (.ref e) (.ref C)) Q E ⟨h,g,d,t,os⟩:=by
 refine x0_3 (kit_cls (M:=M) X e1) fun a1 a2 a3=>?_
 have hcB:(Value.ref C :: bm).contains (.type "BaseException") = true:=by rw [List.contains_cons,hb,Bool.or_true]
 have f:=tc_notTuple
 unfold excMatches
 repeat (first | (with_reducible refine wpAny_loadPart_at he ?_; rw [hc]) | with_reducible refine wpAny_loadPart_at hC ?_ | (with_reducible refine wpAny_isSubtype_exc hC ?_; rw [hcB]) | with_reducible refine a3.at ?_ | wp_step)
 exact hq
end
section
variable {K:Frag} {prog:Program} {w:World} {A:Around} {E:Value -> Shared -> Prop} {s:Shared} {Q:Value -> Shared -> Prop} {e C:Addr} {c:Value}
noncomputable def ClsAt (e:Addr) (cls:Value) (h:Heap):Prop:=∃ o,h.get? e = some o /\ o.cls = cls
theorem ClsAt.looks {M:Model} {h:Heap} {cls:Value} (p:ClsAt e cls h):Looks M h (typeOf (.ref e)) cls:=by
 refine x1_2 p fun o h1 h2=>?_
 clear p
 exact h2 ▸ (Looks.ld h1).andThen .now
end
end Dm
end T_Ex3
section T_Is0
namespace Dm
open PySem PySem.Spec PyProof.Rows L2 PySem.W PySem.Calls PySem.Builtin PySem.Builtin.ObjectAttr PySem.Builtin.Getset_descriptor
structure ExC (K:Frag) (C:Addr):Prop where
 gt:findIn K (.ref C) "__getattribute__" = some (some (.builtin "BaseException.__getattribute__"))
 gh:findIn K (.ref C) "__getattr__" = some none
 mb:mroIn K C (.type "BaseException") = some true
 dc:hasDictIn K C = true
 fi:findIn K (.ref C) "__class__" = some (some (.builtin "object.__class__"))
 sp:specialIn K (.builtin "object.__class__") "__get__" = some (some (.builtin "getset_descriptor.__get__"))
 tk:takesIn K (.builtin "object.__class__") = some true
 mr:mroIn K C (.type "object") = some true
section
variable {K:Frag} {prog:Program} {w:World} {A:Around} {E:Value -> Shared -> Prop} {s:Shared} {e C:Addr} {c:Value}
theorem kv1 {M:Model} {h:Heap} (Y:K.In h) (S:ExC K C):Looks M h (find (.ref e) (.ref C) "__class__") (.bind (.builtin "getset_descriptor.__get__") (.builtin "object.__class__")):=by
 have a3:=(looks_takesIn (M:=M) Y S.tk)
 refine (looks_findIn (M:=M) Y S.fi).andThen ((looks_specialIn Y S.sp).andThen ?_)
 have a4:Looks M h (dataDescriptor? (some (.builtin "object.__class__")) (some (.builtin "getset_descriptor.__get__"))) (some (.builtin "getset_descriptor.__get__",.builtin "object.__class__")):=a3.andThen .now
 exact a4.andThen (Looks.tag .now)
theorem qd5 {R:Result -> Shared -> Prop} {tp:Value} (Y:K.In s.heap) (p:ClsAt e (.ref C) s.heap) (S:ExC K C) (q:R (.ok (.ret (.ref C))) s) :
  codeAny (model prog w) A (.call (.builtin "getset_descriptor.__get__") ⟨[.builtin "object.__class__",.ref e,tp],[]⟩) R s:=by
 obtain ⟨h0,g,d,t,os⟩:=s
 have b0:=p.looks (M:=model prog w)
 have b1:=looks_mroIn (M:=model prog w) Y S.mr
 refine codeAny_call_builtin KF.slot_gs.plain KF.entry_gs
  (KF.slot_gs.check _ _ _ _ _ _ _ _ KF.type_class (KF.args_gs _ _ _) ?_)
 unfold Builtin.«getset_descriptor.__get__»
 unfold descrGet
 rw [dga_obj]
 refine wpAny_bind (wpAny_pure ?_)
 unfold descrGetter descrCheckInstance
 unfold descrNameAndClass isInstance
 simp only [KF.owner_class]
 repeat lk
 refine ⟨Code.quiet_builtin _ (by decide +kernel),
  codeAny_builtin KF.entry_class ?_⟩
 unfold Builtin.«object.__class__»
 unfold shownTypeOf
 repeat lk
 exact q
theorem km7 {tk:Tok} {Q:Fin -> Shared -> Prop} (Y:K.In s.heap) (p:ClsAt e (.ref C) s.heap) (S:ExC K C) (q:Q (.done (.ret (.ref C))) s):wpAny (model prog w) A (Builtin.«object.__getattribute__» ⟨[.ref e,.str "__class__" tk],[]⟩) Q E s:=by
 have b0:=p.looks (M:=model prog w)
 have b3:=kv1 (e:=e) (M:=model prog w) Y S
 obtain ⟨h0,g,d,t,os⟩:=s
 unfold Builtin.«object.__getattribute__»
 repeat (any_goals (first | assumption | with_reducible refine b0.at ?_ | with_reducible refine b3.at ?_ | wp_step))
 refine qd5 (s:=⟨h0,g,d,t,os⟩) Y p S ?_
 repeat (any_goals (first | assumption | wp_step))
theorem km1 {nameV:Value} {Q:Unit -> Shared -> Prop} (Y:K.In s.heap) (p:ClsAt e (.ref C) s.heap) (S:ExC K C) (q:Q () s):wpAny (model prog w) A (checkBuiltinCall "BaseException.__getattribute__" ⟨[.ref e,nameV],[]⟩) Q E s:=by
 have b0:=p.looks (M:=model prog w)
 have b1:=looks_mroIn (M:=model prog w) Y S.mb
 have k1:builtinKind "BaseException.__getattribute__" = some .slot:=by decide +kernel
 have k2:splitId "BaseException.__getattribute__" = some ("BaseException","__getattribute__"):=by decide +kernel
 have k3:=F.args_bexc_ga (.ref e) nameV
 obtain ⟨h0,g,d,t,os⟩:=s
 have b2:Looks (model prog w) h0 (isInstance (.ref e) (.type "BaseException")) true:=b0.andThen b1
 simp only [checkBuiltinCall,k1,k2]
 refine wpAny_bind (b2.at ?_)
 repeat (any_goals (first | assumption | wp_step))
theorem kh2 {Q:Option Value -> Shared -> Prop} (Y:K.In s.heap) (p:ClsAt e (.ref C) s.heap) (S:ExC K C) (q:Q (some (.ref C)) { s with toks:=s.toks + 1 }):wpAny (model prog w) A (getAttr? (.ref e) "__class__") Q E s:=by
 have b0:=p.looks (M:=model prog w)
 have b1:=looks_findIn (M:=model prog w) Y S.gt
 have b2:=looks_findIn (M:=model prog w) Y S.gh
 obtain ⟨h0,g,d,t,os⟩:=s
 have k1:=F.attr_ValueError.ga.bind (.ref e)
 unfold getAttr?
 unfold getAttrBy? getAttrBy
 refine wpAny_bind (wpAny_mkText (wpAny_bind (wpAny_attempt (wpAny_holding (wpAny_bind (b0.at (wpAny_bind (b1.at ?_))))))))
 have n1:¬ (onTheHeap (Value.ref C) && Value.builtin "BaseException.__getattribute__" == Value.builtin "object.__getattribute__") = true:=by
  have:(Value.builtin "BaseException.__getattribute__" == Value.builtin "object.__getattribute__") = false:=by decide +kernel
  rw [this,Bool.and_false]; exact Bool.false_ne_true
 dsimp only
 rw [if_neg n1]
 unfold getAttrByItsOwn
 refine wpAny_bind (b2.at ?_)
 refine wpAny_bind (wpAny_attempt (wpAny_holding ?_))
 show wpAny _ _ (boundAndCalled _ _ _) _ _ _
 unfold boundAndCalled
 refine wpAny_bind ?_
 rw [k1]
 refine wpAny_pure ?_
 refine wpAny_call (codeAny_call_builtin F.attr_ValueError.ga.plain F.entry_bexc_ga (km1 (s:=⟨h0,g,d,t + 1,os⟩) Y p S (km7 (s:=⟨h0,g,d,t + 1,os⟩) Y p S ?_)))
 exact handed_on rfl (wpAny_pure q)
theorem kt3 (S:ExC K C):KitX K (.ref e) (.ref C) (ClsAt e (.ref C)) where
 ty:=fun _ _ _ p=>p.looks
 it:=fun _ _ Y _=>by
  refine x1_2 (any_some S.dc) fun cd hcd _=>?_
  unfold clsIn at hcd
  split at hcd
  ·rename_i c' d' cd' sl' ho
   intro A' Q' E' s' k q
   unfold isType
   unfold loadHead
   refine wpAny_bind (wpAny_loadPart (k _ _ (Y _ _ ho)) ?_)
   exact wpAny_pure q
  ·cases hcd
 ne:=fun h tp dd its n sl Y htp=>by
  refine x1_2 (any_some S.dc) fun cd hcd _=>?_
  refine Bool.eq_false_iff.mpr fun q=>?_
  obtain rfl:C = tp:=Value.ref.inj (beq_iff_eq.mp q)
  unfold clsIn at hcd
  split at hcd
  ·rename_i c' d' cd' sl' ho
   rw [Y _ _ ho] at htp
   cases htp
  ·cases hcd
 ca:=fun Y p k=>kh2 Y p S k
theorem qa7 {Q:Value -> Shared -> Prop} {b:Bool} (S:ExC K C) (Y:K.In s.heap) (p:ClsAt e (.ref C) s.heap) (k:kitOne K (.ref C) c = some b) (h:∀ tk,Q (.bool b) { s with toks:=tk }):wpAny (model prog w) A (call (.builtin "isinstance") [.ref e,c]) Q E s :=
 kia_one (kt3 S) Y p k (by intro q; cases q) h
end
end Dm
end T_Is0
section T_Xa
namespace Dm
open PySem PySem.Spec PyProof.Rows L2 PySem.W PySem.Calls PySem.Builtin PySem.Builtin.ObjectAttr PySem.Builtin.Getset_descriptor
noncomputable def ClsX (e C dx:Addr) (h:Heap):Prop:=∃ o,h.get? e = some o /\ o.cls = .ref C /\ o.dict = some dx /\ ∃ vs,o.data = .fields vs
theorem ClsX.at_ {e C dx:Addr} {h:Heap} (p:ClsX e C dx h):ClsAt e (.ref C) h:=by
 obtain ⟨o,h1,h2,_⟩:=p
 exact ⟨o,h1,h2⟩
section
variable {K:Frag} {prog:Program} {w:World} {A:Around} {E:Value -> Shared -> Prop} {s:Shared} {e C dx:Addr} {v:Value} {mA:Str -> Option Value}
end
end Dm
end T_Xa
section T_De
namespace Dm
open PySem PySem.Spec PyProof.Rows L2
inductive R (α:Type) where
 | ok (a:α) | ex (c:Addr) (p:Option Int) | bad
noncomputable def R.bind {α β:Type} (r:R α) (f:α -> R β):R β:=match r with | .ok a=>f a | .ex c p=>.ex c p | .bad=>.bad
noncomputable abbrev DSt:=List (Option D)
noncomputable abbrev DF:=DSt -> R D
noncomputable abbrev DA:=DSt -> R (List D)
inductive Out where
 | nx (st:DSt) | rt (d:D) | bk (st:DSt) | ct (st:DSt) | ex (c:Addr) (p:Option Int) (st:DSt) | bad
noncomputable abbrev DS:=DSt -> Out
noncomputable def exP (E:XK) (c:Addr) (p:Option Int) (H:Hp):Prop:=match p with
 | none=>E (.ref c) none H
 | some n=>∀ dx,H dx = some (.xd [("at",.int n)]) -> E (.ref c) (some dx) H
noncomputable def keepN:Option HO -> Bool
 | none=>true
 | some (.tup _)=>true
 | some (.frz _ (.tup _))=>true
 | _=>false
noncomputable def nw (G H:Hp):Hp:=fun a=>if keepN (G a) = true then H a else none
theorem U1 (G H:Hp):Same (nw G H) H:=fun b o h=>by
 unfold nw at h; split at h
 ·exact h
 ·cases h
theorem y4 {G H H':Hp} (e:Same H H'):Same (nw G H) (nw G H'):=fun b o h=>by
 unfold nw at h ⊢; split at h
 ·rename_i q; rw [if_pos q]; exact e b o h
 ·cases h
theorem ji1 {G G':Hp} (e:Same G G') {a:Addr} (h:keepN (G' a) = true):keepN (G a) = true:=by
 cases q:G a with
 | none=>rfl
 | some o=>rw [e a o q] at h; exact h
theorem jq2 {G G' H:Hp} (e:Same G G'):Same (nw G' H) (nw G H):=fun b o h=>by
 unfold nw at h ⊢; split at h
 ·rename_i q; rw [if_pos (ji1 e q)]; exact h
 ·cases h
theorem jj2 {G H:Hp} {a:Addr} (h:G a = none):nw G H a = H a:=by unfold nw; rw [h]; rfl
noncomputable def KeepT (H G:Hp):Prop:=Same G H /\ ∀ a xs,Rd H a (.tup xs) -> Rd G a (.tup xs)
theorem KeepT.refl (H:Hp):KeepT H H:=⟨.refl _,fun _ _ h=>h⟩
theorem KeepT.trans {H G F:Hp} (a:KeepT H G) (b:KeepT G F):KeepT H F:=⟨b.1.trans a.1,fun x xs h=>b.2 x xs (a.2 x xs h)⟩
theorem KeepT.nw {G H:Hp} (e:Same G H):KeepT H (nw G H):=⟨U1 _ _,fun a xs h=>by
 have k:keepN (G a) = true:=by
  cases q:G a with
  | none=>rfl
  | some o =>
   have:=e a o q
   rcases h with h | ⟨u,h⟩
   ·rw [h] at this; cases this; rfl
   ·rw [h] at this; cases this; rfl
 unfold Rd Dm.nw
 rw [if_pos k]; exact h⟩
theorem KeepT.er {H:Hp} {A:List Addr} (h:∀ a ∈ A,∃ xs,H a = some (.lst xs)):KeepT H (er H A):=⟨q8 _ _,fun a xs r=>by
 have k:a ∉ A:=fun m=>by
  obtain ⟨ys,q⟩:=h a m
  rcases r with r | ⟨u,r⟩
  ·rw [q] at r; cases r
  ·rw [q] at r; cases r
 unfold Rd
 rw [w6 k]; exact r⟩
mutual
noncomputable def noL:D -> Bool
 | .tup ds=>noLs ds
 | .lst _=>false
 | .brd _ _=>false
 | _=>true
noncomputable def noLs:List D -> Bool
 | []=>true
 | d :: ds=>noL d && noLs ds
end
theorem jb2:∀ {ds:List D} {d:D},noLs ds = true -> d ∈ ds -> noL d = true
 | _ :: _,_,h,.head _=>by rw [noLs,Bool.and_eq_true] at h; exact h.1
 | _ :: ds,_,h,.tail _ m=>by rw [noLs,Bool.and_eq_true] at h; exact jb2 h.2 m
theorem Z0:∀ {ds:List D},(∀ d ∈ ds,noL d = true) -> noLs ds = true
 | [],_=>rfl
 | d :: ds,h=>by rw [noLs,Bool.and_eq_true]; exact ⟨h d (.head _),Z0 fun x hx=>h x (.tail _ hx)⟩
section
variable {K:PySem.W.Frag} {C:Cfg} {H G:Hp}
theorem KeepT.sq (k:KeepT H G) {a:Addr} {xs:List V} (h:SqT K H a xs):SqT K G a xs:=by
 rcases h with h | h
 ·exact .inl (k.2 a xs h)
 ·exact .inr h
mutual
theorem Rep.part (k:KeepT H G):∀ (d:D) {v:V},noL d = true -> Rep K C H d v -> Rep K C G d v
 | .non,v,_,q=>by rw [Rep] at q ⊢; exact q
 | .bl b,v,_,q=>by rw [Rep] at q ⊢; exact q
 | .int i,v,_,q=>by rw [Rep] at q ⊢; exact q
 | .str x,v,_,q=>by rw [Rep] at q ⊢; exact q
 | .tup ds,v,n,q=>by
  rw [Rep] at q ⊢
  rw [noL] at n
  refine x2_3 q fun a xs h1 h2 h3=>?_
  clear q
  exact ⟨a,xs,h1,k.sq h2,Reps.part k ds n h3⟩
 | .lst ds,v,n,q=>by rw [noL] at n; cases n
 | .brd t ds,v,n,q=>by rw [noL] at n; cases n
theorem Reps.part (k:KeepT H G):∀ (ds:List D) {vs:List V},noLs ds = true -> Reps K C H ds vs -> Reps K C G ds vs
 | [],_,_,q=>by rw [Reps] at q ⊢; exact q
 | d :: ds,_,n,q=>by
  rw [Reps] at q ⊢
  rw [noLs,Bool.and_eq_true] at n
  refine x2_3 q fun v r e1 a b=>?_
  clear q
  exact ⟨v,r,e1,Rep.part k d n.1 a,Reps.part k ds n.2 b⟩
end
end
inductive Kd where
 | new | nwo | loc | old | tmn | tmp
inductive SK where
 | par | loc | own (n:Bool) | any
noncomputable def TopL (K:PySem.W.Frag) (C:Cfg) (G F:Hp) (d:D) (v:V):Prop:=∀ ds,d = .lst ds -> ∃ p xs,v = .ref p /\ G p = none /\ F p = some (.lst xs) /\ Reps K C (er F [p]) ds xs
section
variable (K:PySem.W.Frag) (C:Cfg)
noncomputable def Val (κ:Kd) (G0:Hp) (A:List Addr) (H H':Hp) (d:D) (v:V):Prop:=match κ with
 | .new=>Rep K C (nw H H') d v /\ TopL K C H (nw H H') d v
 | .nwo=>Rep K C (er H' A) d v /\ TopL K C H (er H' A) d v
 | .loc=>Rep K C (nw G0 (er H' A)) d v /\ TopL K C G0 (nw G0 (er H' A)) d v
 | .old=>Rep K C (er H' A) d v
 | .tmn=>Rep K C (nw G0 H') d v /\ TopL K C G0 (nw G0 H') d v
 | .tmp=>Rep K C H' d v
noncomputable def eh (n:Bool) (G0:Hp) (A:List Addr) (H:Hp):Hp:=if n = true then nw G0 (er H A) else er H A
noncomputable def Slot (k:SK) (G0:Hp) (A:List Addr) (H:Hp) (d:D) (v:V):Prop:=match k with
 | .par=>Rep K C (er H A) d v
 | .loc=>Rep K C (nw G0 (er H A)) d v /\ TopL K C G0 (nw G0 (er H A)) d v
 | .own n=>(∃ ds p xs,d = .lst ds /\ v = .ref p /\ p ∈ A /\ G0 p = none /\ H p = some (.lst xs) /\ Reps K C (eh n G0 A H) ds xs) \/ ((∀ ds,d ≠ .lst ds) /\ Rep K C (eh n G0 A H) d v)
 | .any=>Rep K C H d v
structure RS (G0:Hp) (Γ:List SK) (σ:L2.St) (H:Hp) (A:List Addr) (st:DSt):Prop where
 base:Same G0 (er H A)
 lists:∀ a ∈ A,∃ xs,H a = some (.lst xs)
 len:σ.length = st.length
 slot:∀ (i:Nat) (d:D),st[i]? = some (some d) -> ∃ k v,Γ[i]? = some k /\ σ[i]? = some (some v) /\ Slot K C k G0 A H d v
 apart:∀ (i j:Nat) (n m:Bool) (p:Addr) (ds es:List D),i ≠ j -> Γ[i]? = some (.own n) -> Γ[j]? = some (.own m) -> st[i]? = some (some (.lst ds)) -> st[j]? = some (some (.lst es)) -> σ[i]? = some (some (.ref p)) -> σ[j]? ≠ some (some (.ref p))
end
section
variable {K:PySem.W.Frag} {C:Cfg} {G0:Hp} {Γ:List SK} {σ:L2.St} {H H' H'' H1:Hp} {A:List Addr} {st:DSt} {κ:Kd} {d:D} {v:V}
theorem TopL.mono {G F F':Hp} (f:Same F F') (t:TopL K C G F d v):TopL K C G F' d v:=fun ds h=>by
 refine x2_4 (t ds h) fun p xs a b c q=>?_
 exact ⟨p,xs,a,b,f _ _ c,q.same (q0 f) _⟩
theorem TopL.early {G G' F:Hp} (e:Same G G') (t:TopL K C G' F d v):TopL K C G F d v:=fun ds h=>by
 refine x2_3 (t ds h) fun p xs a b c=>?_
 exact ⟨p,xs,a,e.free b,c⟩
theorem TopL.noL {G F:Hp} (n:noL d = true):TopL K C G F d v:=fun ds h=>by subst h; rw [Dm.noL] at n; cases n
theorem Val.later (e:Same H' H'') (q:Val K C κ G0 A H H' d v):Val K C κ G0 A H H'' d v:=by
 cases κ with
 | new=>exact ⟨q.1.same (y4 e) _,q.2.mono (y4 e)⟩
 | nwo=>exact ⟨q.1.same (q0 e) _,q.2.mono (q0 e)⟩
 | loc=>exact ⟨q.1.same (y4 (q0 e)) _,q.2.mono (y4 (q0 e))⟩
 | old=>exact Rep.same (q0 e) _ q
 | tmn=>exact ⟨q.1.same (y4 e) _,q.2.mono (y4 e)⟩
 | tmp=>exact Rep.same e _ q
theorem Val.early (e:Same H H1) (q:Val K C κ G0 A H1 H' d v):Val K C κ G0 A H H' d v:=by
 cases κ with
 | new=>exact ⟨q.1.same (jq2 e) _,(q.2.early e).mono (jq2 e)⟩
 | nwo=>exact ⟨q.1,q.2.early e⟩
 | loc=>exact q
 | old=>exact q
 | tmn=>exact q
 | tmp=>exact q
theorem Val.rep (q:Val K C κ G0 A H H' d v):Rep K C H' d v:=by
 cases κ with
 | new=>exact q.1.same (U1 _ _) _
 | nwo=>exact q.1.same (q8 _ _) _
 | loc=>exact q.1.same ((U1 _ _).trans (q8 _ _)) _
 | old=>exact Rep.same (q8 _ _) _ q
 | tmn=>exact q.1.same (U1 _ _) _
 | tmp=>exact q
theorem RS.mono (r:RS K C G0 Γ σ H A st) (e:Same H H'):RS K C G0 Γ σ H' A st where
 base:=r.base.trans (q0 e)
 lists:=fun a m=>let ⟨xs,h⟩:=r.lists a m; ⟨xs,e _ _ h⟩
 len:=r.len
 slot:=fun i d h=>by
  refine x2_3 (r.slot i d h) fun k v h1 h2 h3=>?_
  refine ⟨k,v,h1,h2,?_⟩
  have ee:∀ n,Same (eh n G0 A H) (eh n G0 A H'):=fun n=>by
   unfold eh; cases n
   ·exact q0 e
   ·exact y4 (q0 e)
  cases k with
  | par=>exact Rep.same (q0 e) _ h3
  | loc=>exact ⟨h3.1.same (y4 (q0 e)) _,h3.2.mono (y4 (q0 e))⟩
  | own n =>
   rcases h3 with ⟨ds,p,xs,a,b,c,f,g,j⟩ | ⟨a,b⟩
   ·exact .inl ⟨ds,p,xs,a,b,c,f,e _ _ g,j.same (ee n) _⟩
   ·exact .inr ⟨a,b.same (ee n) _⟩
  | any=>exact Rep.same e _ h3
 apart:=r.apart
theorem RS.g0 (r:RS K C G0 Γ σ H A st):Same G0 H:=r.base.trans (q8 _ _)
theorem RS.keepE (r:RS K C G0 Γ σ H A st):KeepT H (er H A):=.er r.lists
theorem RS.keepN (r:RS K C G0 Γ σ H A st):KeepT H (nw G0 (er H A)):=r.keepE.trans (.nw r.base)
theorem Val.flat (r:RS K C G0 Γ σ H A st) (e:Same H H') (n:noL d = true) (q:Rep K C H' d v) (κ:Kd):Val K C κ G0 A H H' d v:=by
 have r':=r.mono e
 cases κ with
 | new=>exact ⟨q.part (.nw e) _ n,.noL n⟩
 | nwo=>exact ⟨q.part r'.keepE _ n,.noL n⟩
 | loc=>exact ⟨q.part r'.keepN _ n,.noL n⟩
 | old=>exact Rep.part r'.keepE _ n q
 | tmn=>exact ⟨q.part (.nw r'.g0) _ n,.noL n⟩
 | tmp=>exact q
theorem RS.new_er (r:RS K C G0 Γ σ H A st) (e:Same H H'):Same (nw H H') (er H' A):=fun b o h=>by
 unfold nw at h; split at h
 ·rename_i q
  have:b ∉ A:=fun m=>by
   obtain ⟨xs,hx⟩:=r.lists b m
   rw [hx] at q; cases q
  rw [w6 this]; exact h
 ·cases h
theorem RS.new_loc (r:RS K C G0 Γ σ H A st) (e:Same H H'):Same (nw H H') (nw G0 (er H' A)):=fun b o h=>by
 have h1:=r.new_er e b o h
 unfold nw at h; split at h
 ·rename_i q
  unfold nw
  rw [if_pos (ji1 r.g0 q)]; exact h1
 ·cases h
noncomputable def Kd.le:Kd -> Kd -> Bool
 | .new,_=>true
 | .nwo,.nwo=>true | .nwo,.old=>true | .nwo,.tmp=>true
 | .loc,.loc=>true | .loc,.old=>true | .loc,.tmn=>true | .loc,.tmp=>true
 | .old,.old=>true | .old,.tmp=>true
 | .tmn,.tmn=>true | .tmn,.tmp=>true
 | .tmp,.tmp=>true
 | _,_=>false
theorem Val.le (r:RS K C G0 Γ σ H A st) (e:Same H H') {κ κ':Kd} (l:κ.le κ' = true) (q:Val K C κ G0 A H H' d v):Val K C κ' G0 A H H' d v:=by
 have ne:=r.new_er e
 have nl:=r.new_loc e
 cases κ <;> cases κ' <;> first
  | exact q
  | (cases l; done)
  | exact q.rep
  | exact ⟨q.1.same ne _,q.2.mono ne⟩
  | exact ⟨q.1.same nl _,(q.2.early r.g0).mono nl⟩
  | exact q.1.same ne _
  | exact ⟨q.1.same (nl.trans (y4 (q8 _ _))) _,(q.2.early r.g0).mono (nl.trans (y4 (q8 _ _)))⟩
  | exact q.1
  | exact q.1.same (U1 _ _) _
  | exact ⟨q.1.same (y4 (q8 _ _)) _,q.2.mono (y4 (q8 _ _))⟩
end
end Dm
end T_De
section T_De2
namespace Dm
open PySem PySem.Spec PyProof.Rows L2
noncomputable def Kd.hp (κ:Kd) (G0:Hp) (A:List Addr) (H H':Hp):Hp:=match κ with
 | .new=>nw H H' | .nwo=>er H' A | .loc=>nw G0 (er H' A) | .old=>er H' A | .tmn=>nw G0 H' | .tmp=>H'
noncomputable def SK.kd:SK -> Kd
 | .par=>.old | .loc=>.loc | .own true=>.tmn | .own false=>.tmp | .any=>.tmp
noncomputable def SK.takes:SK -> Kd -> Bool
 | .par,κ=>κ.le .old
 | .loc,κ=>κ.le .loc
 | .own true,κ=>κ.le .new
 | .own false,κ=>κ.le .nwo
 | .any,_=>true
theorem Kd.le_new:∀ {κ:Kd},κ.le .new = true -> κ = .new
 | .new,_=>rfl
section
variable {K:PySem.W.Frag} {C:Cfg} {G0:Hp} {Γ:List SK} {σ:L2.St} {H H' H'' H1:Hp} {A:List Addr} {st:DSt} {κ:Kd} {d:D} {v:V}
theorem Val.hp (q:Val K C κ G0 A H H' d v):Rep K C (κ.hp G0 A H H') d v:=by
 cases κ with
 | new=>exact q.1
 | nwo=>exact q.1
 | loc=>exact q.1
 | old=>exact q
 | tmn=>exact q.1
 | tmp=>exact q
theorem Kd.hp_later (e:Same H' H''):Same (κ.hp G0 A H H') (κ.hp G0 A H H''):=by
 cases κ with
 | new=>exact y4 e
 | nwo=>exact q0 e
 | loc=>exact y4 (q0 e)
 | old=>exact q0 e
 | tmn=>exact y4 e
 | tmp=>exact e
theorem Kd.hp_early (e:Same H H1):Same (κ.hp G0 A H1 H') (κ.hp G0 A H H'):=by
 cases κ with
 | new=>exact jq2 e
 | nwo=>exact .refl _
 | loc=>exact .refl _
 | old=>exact .refl _
 | tmn=>exact .refl _
 | tmp=>exact .refl _
theorem Kd.hp_all:Same (κ.hp G0 A H H') H':=by
 cases κ with
 | new=>exact U1 _ _
 | nwo=>exact q8 _ _
 | loc=>exact (U1 _ _).trans (q8 _ _)
 | old=>exact q8 _ _
 | tmn=>exact U1 _ _
 | tmp=>exact .refl _
theorem RS.keep (r:RS K C G0 Γ σ H A st) (e:Same H H'):KeepT H' (κ.hp G0 A H H'):=by
 have r':=r.mono e
 cases κ with
 | new=>exact .nw e
 | nwo=>exact r'.keepE
 | loc=>exact r'.keepN
 | old=>exact r'.keepE
 | tmn=>exact .nw r'.g0
 | tmp=>exact .refl _
theorem U6 {p:Addr} {o:HO} (h:H p = none):Same H (upd H p o):=fun b u q=>by rw [v5 (v9 q h)]; exact q
theorem qe7 (r:RS K C G0 Γ σ H A st) (e:Same H H') {p:Addr} {o:HO} (h:H' p = none):κ.hp G0 A H (upd H' p o) p = some o:=by
 have h0:H p = none:=e.free h
 have g0:G0 p = none:=r.g0.free h0
 have nA:p ∉ A:=fun m=>by obtain ⟨xs,q⟩:=r.lists p m; rw [h0] at q; cases q
 have u:upd H' p o p = some o:=J2
 cases κ with
 | new=>show nw H _ p = _; rw [jj2 h0]; exact u
 | nwo=>show er _ A p = _; rw [w6 nA]; exact u
 | loc=>show nw G0 _ p = _; rw [jj2 g0,w6 nA]; exact u
 | old=>show er _ A p = _; rw [w6 nA]; exact u
 | tmn=>show nw G0 _ p = _; rw [jj2 g0]; exact u
 | tmp=>exact u
theorem Val.tup (r:RS K C G0 Γ σ H A st) (e:Same H H') {p:Addr} {ds:List D} {xs:List V} (h:H' p = none) (q:Reps K C (κ.hp G0 A H H') ds xs):Val K C κ G0 A H (upd H' p (.tup xs)) (.tup ds) (.ref p):=by
 have R:Rep K C (κ.hp G0 A H (upd H' p (.tup xs))) (.tup ds) (.ref p):=by
  rw [Rep]
  exact ⟨p,xs,rfl,.of (qe7 r e h),q.same (Kd.hp_later (U6 h)) _⟩
 have T:∀ G F,TopL K C G F (.tup ds) (.ref p):=fun G F ds' z=>by cases z
 cases κ with
 | new=>exact ⟨R,T _ _⟩
 | nwo=>exact ⟨R,T _ _⟩
 | loc=>exact ⟨R,T _ _⟩
 | old=>exact R
 | tmn=>exact ⟨R,T _ _⟩
 | tmp=>exact R
theorem Val.lst (r:RS K C G0 Γ σ H A st) (e:Same H H') {p:Addr} {ds:List D} {xs:List V} (h:H' p = none) (q:Reps K C (κ.hp G0 A H H') ds xs):Val K C κ G0 A H (upd H' p (.lst xs)) (.lst ds) (.ref p):=by
 have h0:H p = none:=e.free h
 have R0:Reps K C (er (κ.hp G0 A H (upd H' p (.lst xs))) [p]) ds xs:=by
  refine q.same (fun b u z=>?_) _
  have nb:b ≠ p:=fun w=>by
   have:=Kd.hp_all _ _ z
   rw [w,h] at this; cases this
  rw [w6 (by simpa using nb)]
  exact Kd.hp_later (U6 h) _ _ z
 have R:Rep K C (κ.hp G0 A H (upd H' p (.lst xs))) (.lst ds) (.ref p):=by
  rw [Rep]
  exact ⟨p,xs,rfl,.of (qe7 r e h),R0⟩
 have T:∀ G,G p = none -> TopL K C G (κ.hp G0 A H (upd H' p (.lst xs))) (.lst ds) (.ref p):=fun G g ds' z=>by cases z; exact ⟨p,xs,rfl,g,qe7 r e h,R0⟩
 cases κ with
 | new=>exact ⟨R,T _ h0⟩
 | nwo=>exact ⟨R,T _ h0⟩
 | loc=>exact ⟨R,T _ (r.g0.free h0)⟩
 | old=>exact R
 | tmn=>exact ⟨R,T _ (r.g0.free h0)⟩
 | tmp=>exact R
theorem RS.read (r:RS K C G0 Γ σ H A st) {i:Nat} {k:SK} (hk:Γ[i]? = some k) (h:st[i]? = some (some d)):∃ v,σ[i]? = some (some v) /\ Val K C k.kd G0 A H H d v:=by
 refine x2_3 (r.slot i d h) fun k' v h1 h2 h3=>?_
 rw [hk] at h1; cases h1
 refine ⟨v,h2,?_⟩
 cases k with
 | par=>exact h3
 | loc=>exact h3
 | any=>exact h3
 | own n =>
  rcases h3 with ⟨ds,p,xs,rfl,rfl,c,f,g,j⟩ | ⟨a,b⟩
  ·have R0:∀ F:Hp,Same (eh n G0 A H) F -> Reps K C (er F [p]) ds xs:=fun F e=>by
    refine j.same (fun b u w=>?_) _
    have nb:b ≠ p:=fun w'=>by
     subst w'
     unfold eh at w
     cases n with
     | true=>have:=U1 _ _ _ _ w; rw [Z5 c] at this; cases this
     | false=>rw [if_neg (by decide),Z5 c] at w; cases w
    rw [w6 (by simpa using nb)]
    exact e _ _ w
   have R:∀ F:Hp,Same (eh n G0 A H) F -> F p = some (.lst xs) -> Rep K C F (.lst ds) (.ref p):=fun F e z=>by
    rw [Rep]
    exact ⟨p,xs,rfl,.of z,R0 F e⟩
   cases n with
   | true=>exact ⟨R _ (by unfold eh; exact y4 (q8 _ _)) (by rw [jj2 f]; exact g),fun ds' z=>by cases z; exact ⟨p,xs,rfl,f,by rw [jj2 f]; exact g,R0 _ (by unfold eh; exact y4 (q8 _ _))⟩⟩
   | false=>exact R _ (by unfold eh; exact q8 _ _) g
  ·cases n with
   | true=>exact ⟨b.same (by unfold eh; exact y4 (q8 _ _)) _,fun ds z=>absurd z (a ds)⟩
   | false=>exact b.same (by unfold eh; exact q8 _ _) _
theorem RS.set (r:RS K C G0 Γ σ H A st) (e:Same H H') {i:Nat} {k:SK} (hk:Γ[i]? = some k) (l:k.takes κ = true) (q:Val K C κ G0 A H H' d v) :
  ∃ A',RS K C G0 Γ (σ.set i (some v)) H' A' (st.set i (some d)) /\ Same (er H A) (er H' A') /\ ∀ a ∈ A,a ∈ A':=by
 have r':=r.mono e
 have same:(∀ n,k = .own n -> ∀ ds,d ≠ .lst ds) -> Slot K C k G0 A H' d v -> ∃ A',RS K C G0 Γ (σ.set i (some v)) H' A' (st.set i (some d)) /\ Same (er H A) (er H' A') /\ ∀ a ∈ A,a ∈ A':=fun nl s=>by
  refine ⟨A,⟨r'.base,r'.lists,by simp [r.len],fun j d' h=>?_,fun a b n m p ds es hab g1 g2 s1 s2 w1 w2=>?_⟩,q0 e,fun _ m=>m⟩
  ·by_cases hj:i = j
   ·subst hj
    have hlt:i < st.length:=by
     have:=(List.getElem?_eq_some_iff.mp h).1
     simpa using this
    rw [List.getElem?_set_self hlt] at h
    cases h
    exact ⟨k,v,hk,List.getElem?_set_self (by rw [r.len]; exact hlt),s⟩
   ·rw [List.getElem?_set_ne hj] at h ⊢
    exact r'.slot j d' h
  ·have ha:a ≠ i:=fun z=>by
    subst z
    have hlt:a < st.length:=by
     have:=(List.getElem?_eq_some_iff.mp s1).1
     simpa using this
    rw [List.getElem?_set_self hlt] at s1
    rw [hk] at g1
    exact nl n (Option.some.inj g1) ds (Option.some.inj (Option.some.inj s1))
   have hb:b ≠ i:=fun z=>by
    subst z
    have hlt:b < st.length:=by
     have:=(List.getElem?_eq_some_iff.mp s2).1
     simpa using this
    rw [List.getElem?_set_self hlt] at s2
    rw [hk] at g2
    exact nl m (Option.some.inj g2) es (Option.some.inj (Option.some.inj s2))
   rw [List.getElem?_set_ne (Ne.symm ha)] at s1 w1
   rw [List.getElem?_set_ne (Ne.symm hb)] at s2 w2
   exact r.apart a b n m p ds es hab g1 g2 s1 s2 w1 w2
 cases k with
 | par=>exact same (fun _ z=>by cases z) (Val.le r e (κ':=.old) l q)
 | loc=>exact same (fun _ z=>by cases z) (Val.le r e (κ':=.loc) l q)
 | any=>exact same (fun _ z=>by cases z) q.rep
 | own n =>
  have q1:Val K C .nwo G0 A H H' d v:=Val.le r e (κ':=.nwo) (by cases n <;> cases κ <;> first | rfl | cases l) q
  have q2:n = true -> Val K C .loc G0 A H H' d v:=fun z=>by
   subst z
   obtain rfl:=Kd.le_new (κ:=κ) l
   exact Val.le r e rfl q
  by_cases hd:∃ ds,d = .lst ds
  ·obtain ⟨ds,rfl⟩:=hd
   refine x2_4 (q1.2 ds rfl) fun p xs zo2 h0 hp' i1=>?_
   obtain rfl:=zo2
   have hp:H' p = some (.lst xs):=q8 _ _ _ _ hp'
   have pA:p ∉ A:=fun m=>by obtain ⟨ys,z⟩:=r.lists p m; rw [h0] at z; cases z
   have g0:G0 p = none:=r.g0.free h0
   have ee:Same (er H A) (er H' (p :: A)):=fun b u z=>by
    have nb:b ≠ p:=fun w=>by have:=q8 _ _ _ _ z; rw [w,h0] at this; cases this
    by_cases mb:b ∈ A
    ·rw [Z5 mb] at z; cases z
    ·rw [w6 (by simp [nb,mb])]
     rw [w6 mb] at z
     exact e _ _ z
   have eeh:∀ m,Same (eh m G0 A H) (eh m G0 (p :: A) H'):=fun m=>by
    unfold eh; cases m
    ·exact ee
    ·exact y4 ee
   have items:Reps K C (eh n G0 (p :: A) H') ds xs:=by
    cases n with
    | false=>exact i1.same (fun b u z=>by
      by_cases mb:b ∈ [p]
      ·rw [Z5 mb] at z; cases z
      ·rw [w6 mb] at z
       by_cases ma:b ∈ A
       ·rw [Z5 ma] at z; cases z
       ·rw [w6 ma] at z
        show er H' (p :: A) b = _
        rw [w6 (by simpa [ma] using mb)]; exact z) _
    | true =>
     refine x2_4 ((q2 rfl).2 ds rfl) fun p' xs' e1 _ e2 i2=>?_
     cases e1
     have e2:=q8 _ _ _ _ (U1 _ _ _ _ e2)
     rw [hp] at e2
     cases e2
     exact i2.same (fun b u z=>by
      by_cases mb:b ∈ [p]
      ·rw [Z5 mb] at z; cases z
      ·rw [w6 mb] at z
       show nw G0 (er H' (p :: A)) b = _
       unfold nw at z ⊢
       split at z
       ·rename_i kk
        rw [if_pos kk]
        by_cases ma:b ∈ A
        ·rw [Z5 ma] at z; cases z
        ·rw [w6 ma] at z
         rw [w6 (by simpa [ma] using mb)]; exact z
       ·cases z) _
   refine ⟨p :: A,⟨r.base.trans ee,fun a m=>?_,by simp [r.len],fun j d' h=>?_,fun a b n' m' p' ds' es' hab g1 g2 s1 s2 w1 w2=>?_⟩,ee,fun _ m=>.tail _ m⟩
   ·rcases List.mem_cons.mp m with rfl | m
    ·exact ⟨xs,hp⟩
    ·exact r'.lists a m
   ·by_cases hj:i = j
    ·subst hj
     have hlt:i < st.length:=by
      have:=(List.getElem?_eq_some_iff.mp h).1
      simpa using this
     rw [List.getElem?_set_self hlt] at h
     cases h
     exact ⟨.own n,.ref p,hk,List.getElem?_set_self (by rw [r.len]; exact hlt),.inl ⟨ds,p,xs,rfl,rfl,.head _,g0,hp,items⟩⟩
    ·rw [List.getElem?_set_ne hj] at h ⊢
     refine x2_3 (r.slot j d' h) fun k' v' h1 h2 h3=>?_
     refine ⟨k',v',h1,h2,?_⟩
     cases k' with
     | par=>exact Rep.same ee _ h3
     | loc=>exact ⟨h3.1.same (y4 ee) _,h3.2.mono (y4 ee)⟩
     | any=>exact Rep.same e _ h3
     | own m =>
      rcases h3 with ⟨ds2,p2,xs2,a,b,c,f,g,j⟩ | ⟨a,b⟩
      ·exact .inl ⟨ds2,p2,xs2,a,b,.tail _ c,f,e _ _ g,j.same (eeh m) _⟩
      ·exact .inr ⟨a,b.same (eeh m) _⟩
   ·
    have old:∀ {c:Nat} {nn:Bool} {cs:List D},c ≠ i -> Γ[c]? = some (.own nn) -> (st.set i (some (.lst ds)))[c]? = some (some (.lst cs)) -> (σ.set i (some (.ref p)))[c]? ≠ some (some (.ref p)):=fun {c nn cs} hc gc sc wc=>by
     rw [List.getElem?_set_ne (Ne.symm hc)] at sc wc
     refine x2_3 (r.slot c _ sc) fun k' v' h1 h2 h3=>?_
     rw [gc] at h1; cases h1
     rw [wc] at h2; cases h2
     rcases h3 with ⟨ds2,p2,xs2,a,b,c',_⟩ | ⟨a,_⟩
     ·cases b; exact pA c'
     ·exact a _ rfl
    by_cases ha:a = i
    ·subst ha
     have hlt:a < st.length:=by
      have:=(List.getElem?_eq_some_iff.mp s1).1
      simpa using this
     rw [List.getElem?_set_self (by rw [r.len]; exact hlt)] at w1
     cases w1
     exact old (Ne.symm hab) g2 s2 w2
    ·by_cases hb:b = i
     ·subst hb
      have hlt:b < st.length:=by
       have:=(List.getElem?_eq_some_iff.mp s2).1
       simpa using this
      rw [List.getElem?_set_self (by rw [r.len]; exact hlt)] at w2
      cases w2
      exact old ha g1 s1 w1
     ·rw [List.getElem?_set_ne (Ne.symm ha)] at s1 w1
      rw [List.getElem?_set_ne (Ne.symm hb)] at s2 w2
      exact r.apart a b n' m' p' ds' es' hab g1 g2 s1 s2 w1 w2
  ·refine same (fun _ _ ds z=>hd ⟨ds,z⟩) (.inr ⟨fun ds z=>hd ⟨ds,z⟩,?_⟩)
   cases n with
   | false=>exact q1.1
   | true=>exact (q2 rfl).1
end
end Dm
end T_De2
section T_De3
namespace Dm
open PySem PySem.Spec PyProof.Rows L2
section
variable (K:PySem.W.Frag) (C:Cfg) (G0:Hp) (Γ:List SK) (E:L2.St -> XK)
noncomputable def tD (f:DF) (κ:Kd):TE:=fun σ H Q=>∃ A st,RS K C G0 Γ σ H A st /\ match f st with
 | .ok d=>∀ v H',Same H H' -> Val K C κ G0 A H H' d v -> Q v H'
 | .ex c p=>∀ H',Same H H' -> exP (E σ) c p H'
 | .bad=>False
noncomputable def tDA (f:DA) (κ:Kd):TA:=fun σ H Q=>∃ A st,RS K C G0 Γ σ H A st /\ match f st with
 | .ok ds=>∀ vs H',Same H H' -> Reps K C (κ.hp G0 A H H') ds vs -> Q vs H'
 | .ex c p=>∀ H',Same H H' -> exP (E σ) c p H'
 | .bad=>False
noncomputable def tDT (f:DF):TT:=fun σ H Q=>∃ A st,RS K C G0 Γ σ H A st /\ match f st with
 | .ok (.bl b)=>∀ H',Same H H' -> Q b H'
 | .ex c p=>∀ H',Same H H' -> exP (E σ) c p H'
 | _=>False
end
theorem _root_.L2.PE.imp {X:Cx} {e:Expr} {t t':TE} (h:PE X e t) (i:∀ σ H Q,t' σ H Q -> t σ H Q):PE X e t':=fun pins s σ H Q I q=>h pins s σ H Q I (i σ H Q q)
theorem _root_.L2.PT.imp {X:Cx} {e:Expr} {t t':TT} (h:PT X e t) (i:∀ σ H Q,t' σ H Q -> t σ H Q):PT X e t':=fun pins s σ H Q I q=>h pins s σ H Q I (i σ H Q q)
theorem _root_.L2.PW.imp {X:Cx} {e:Expr} {t t':TT} (h:PW X e t) (i:∀ σ H Q,t' σ H Q -> t σ H Q):PW X e t':=fun w pins s σ H Q I q=>h w pins s σ H Q I (i σ H Q q)
theorem _root_.L2.PA.imp {X:Cx} {e:List Expr} {t t':TA} (h:PA X e t) (i:∀ σ H Q,t' σ H Q -> t σ H Q):PA X e t':=fun p pins s σ H Q I q=>h p pins s σ H Q I (i σ H Q q)
theorem _root_.L2.PS.imp {X:Cx} {e:Stmt} {t t':TS} (h:PS X e t) (i:∀ D σ H,t' D σ H -> t D σ H):PS X e t':=fun pins s σ H D I q=>h pins s σ H D I (i D σ H q)
theorem _root_.L2.PSs.imp {X:Cx} {e:List Stmt} {t t':TS} (h:PSs X e t) (i:∀ D σ H,t' D σ H -> t D σ H):PSs X e t':=fun pins s σ H D I q=>h pins s σ H D I (i D σ H q)
noncomputable def dVar (i:Nat):DF:=fun st=>match st[i]? with | some (some d)=>.ok d | _=>.bad
noncomputable def dC (d:D):DF:=fun _=>.ok d
noncomputable def jb3 (f:DF):DF:=fun st=>(f st).bind fun d=>if noL d = true then .ok d else .bad
noncomputable def dOp (g:D -> D -> R D) (fa fb:DF):DF:=fun st=>(fa st).bind fun a=>(fb st).bind fun b=>g a b
noncomputable def dUn (g:D -> R D) (fa:DF):DF:=fun st=>(fa st).bind g
noncomputable def aNil:DA:=fun _=>.ok []
noncomputable def j2 (f:DF) (g:DA):DA:=fun st=>(f st).bind fun d=>(g st).bind fun ds=>.ok (d :: ds)
noncomputable def dFn (g:List D -> R D) (f:DA):DF:=fun st=>(f st).bind g
noncomputable def dAnd (fa fb:DF):DF:=fun st=>(fa st).bind fun a=>match a with | .bl true=>fb st | .bl false=>.ok (.bl false) | _=>.bad
noncomputable def dNot (fa:DF):DF:=fun st=>(fa st).bind fun a=>match a with | .bl b=>.ok (.bl (!b)) | _=>.bad
section
variable {X:Cx} {C:Cfg} {G0:Hp} {Γ:List SK} {E:L2.St -> XK} {e a b c:Expr} {f fa fb fc:DF} {κ κ' κa κb:Kd} {es:List Expr} {fs:DA} {pos:Pos}
theorem kw1 (i:Nat) {k:SK} (h:PE X e (tVar i)) (hk:Γ[i]? = some k:=by rfl):PE X e (tD X.K C G0 Γ E (dVar i) k.kd):=h.imp fun σ H Q zz=>by
 refine x2_2 zz fun A st r q=>?_
 clear zz
 unfold dVar at q
 cases hs:st[i]? with
 | none=>rw [hs] at q; exact q.elim
 | some o =>
  cases o with
  | none=>rw [hs] at q; exact q.elim
  | some d =>
   rw [hs] at q
   refine x1_2 (r.read hk hs) fun v h1 h2=>?_
   exact ⟨v,h1,q v H (.refl _) h2⟩
theorem de_c {v:V} {d:D} (h:PE X e (tC v)) (n:noL d = true) (q:∀ H,Rep X.K C H d v):PE X e (tD X.K C G0 Γ E (dC d) .new):=h.imp fun σ H Q zz1=>zz1.elim fun A zz2=>zz2.elim fun st zz3=>zz3.elim fun r k=>k v H (.refl _) (.flat r (.refl _) n (q H) _)
theorem j5 {i:Int} {j}:PE X (.Constant (.int i) j pos) (tD X.K C G0 Γ E (dC (.int i)) .new):=de_c ql8 (by rw [noL] <;> simp) fun H=>by rw [Rep]
theorem qm9 {i:Bool} {j}:PE X (.Constant (.bool i) j pos) (tD X.K C G0 Γ E (dC (.bl i)) .new):=de_c qp1 (by rw [noL] <;> simp) fun H=>by rw [Rep]
theorem kw7 {i:Str} {j}:PE X (.Constant (.str i) j pos) (tD X.K C G0 Γ E (dC (.str i)) .new):=de_c qh0 (by rw [noL] <;> simp) fun H=>by rw [Rep]
theorem jl7 {x:Str} {i:Int} {t:Tok} (hg:Gl X x) (hm:X.mg x = some (.int i t)) (hd:(x == ("__debug__" : Str)) = false:=by decide):PE X (.Name x pos) (tD X.K C G0 Γ E (dC (.int i)) .new):=de_c (jq1 hg hm (v:=.int i) ⟨t,rfl⟩ hd) (by rw [noL] <;> simp) fun H=>by rw [Rep]
theorem jc1 (h:PE X e (tD X.K C G0 Γ E f κ)):PE X e (tD X.K C G0 Γ E (jb3 f) .new):=h.imp fun σ H Q zz7=>zz7.elim fun A zz8=>zz8.elim fun st zz9=>zz9.elim fun r q=>⟨A,st,r,by
 unfold jb3 R.bind at q
 cases hf:f st with
 | ok d =>
  rw [hf] at q
  dsimp only at q ⊢
  by_cases n:noL d = true
  ·rw [if_pos n] at q
   exact fun v H' e w=>q v H' e (.flat r e n w.rep _)
  ·rw [if_neg n] at q; exact q.elim
 | ex c p=>rw [hf] at q; exact q
 | bad=>rw [hf] at q; exact q⟩
noncomputable def OpD (K:PySem.W.Frag) (C:Cfg) (r2:R2) (g:D -> D -> R D) (κ:Kd):Prop:=∀ (G0:Hp) (Γ:List SK) (E:XK) (σ:L2.St) (A:List Addr) (st:DSt) (H:Hp) (a b:D) (x y:V) (Q:VK),RS K C G0 Γ σ H A st -> Rep K C H a x -> Rep K C H b y ->
 (match g a b with | .ok d=>∀ v H',Same H H' -> Val K C κ G0 A H H' d v -> Q v H' | .ex c p=>∀ H',Same H H' -> exP E c p H' | .bad=>False) -> r2 x y H Q
theorem two {r2:R2} {g:D -> D -> R D} (ho:OpD X.K C r2 g κ):∀ σ H Q,tD X.K C G0 Γ E (dOp g fa fb) κ σ H Q -> tOp r2 (tD X.K C G0 Γ E fa κa) (tD X.K C G0 Γ E fb κb) σ H Q:=fun σ H Q zz=>by
 refine x2_2 zz fun A st r q=>?_
 clear zz
 refine ⟨A,st,r,?_⟩
 unfold dOp R.bind at q
 cases ha:fa st with
 | bad=>rw [ha] at q; exact q
 | ex c p=>rw [ha] at q; exact q
 | ok a =>
  rw [ha] at q
  intro x H1 e1 w1
  refine ⟨A,st,r.mono e1,?_⟩
  dsimp only at q
  cases hb:fb st with
  | bad=>rw [hb] at q; exact q
  | ex c p=>rw [hb] at q; exact fun H' e'=>q H' (e1.trans e')
  | ok b =>
   rw [hb] at q
   intro y H2 e2 w2
   refine ho G0 Γ (E σ) σ A st H2 a b x y Q ((r.mono e1).mono e2) (w1.rep.same e2 _) w2.rep ?_
   dsimp only at q
   cases hg:g a b with
   | bad=>rw [hg] at q; exact q
   | ex c p=>rw [hg] at q; exact fun H' e'=>q H' ((e1.trans e2).trans e')
   | ok d=>rw [hg] at q; exact fun v H' e' w=>q v H' ((e1.trans e2).trans e') (w.early (e1.trans e2))
theorem z9 {op:Operator} {r2:R2} {g:D -> D -> R D} (hr:OpR X (binaryOp op) r2) (ho:OpD X.K C r2 g κ) (ha:PE X a (tD X.K C G0 Γ E fa κa)) (hb:PE X b (tD X.K C G0 Γ E fb κb)):PE X (.BinOp a op b pos) (tD X.K C G0 Γ E (dOp g fa fb) κ):=(qo5 hr ha hb).imp (two ho)
theorem jv9 {op:CmpOp} {r2:R2} {g:D -> D -> R D} (hr:OpR X (compareOp op) r2) (ho:OpD X.K C r2 g κ) (ha:PE X a (tD X.K C G0 Γ E fa κa)) (hb:PE X b (tD X.K C G0 Γ E fb κb)) (hm:behindInMarks op b = false):PE X (.Compare a [op] [b] pos) (tD X.K C G0 Γ E (dOp g fa fb) κ):=(qc1 hr ha hb hm).imp (two ho)
theorem OpD.flat {K:PySem.W.Frag} {r2:R2} {g:D -> D -> R D} (h:∀ (H:Hp) (a b:D) (x y:V) (Q:VK),Rep K C H a x -> Rep K C H b y -> (match g a b with | .ok d=>noL d = true /\ ∀ v,Rep K C H d v -> Q v H | _=>False) -> r2 x y H Q) (hg:∀ a b,(∀ c p,g a b ≠ .ex c p) /\ ∀ d,g a b = .ok d -> noL d = true):OpD K C r2 g κ:=fun G0 Γ E σ A st H a b x y Q r qa qb q=>h H a b x y Q qa qb (by
 cases hz:g a b with
 | bad=>rw [hz] at q; exact q
 | ex c p=>exact absurd hz ((hg a b).1 c p)
 | ok d=>rw [hz] at q; exact ⟨(hg a b).2 d hz,fun v w=>q v H (.refl _) (.flat r (.refl _) ((hg a b).2 d hz) w _)⟩)
noncomputable def iOp (Cd:Int -> Int -> Bool) (g:Int -> Int -> D):D -> D -> R D:=fun a b=>match a,b with | .int i,.int j=>if Cd i j = true then .ok (g i j) else .bad | _,_=>.bad
theorem kw6 {Cd:Int -> Int -> Bool} {g:Int -> Int -> D} {a b d:D} (h:iOp Cd g a b = .ok d):∃ i j,a = .int i /\ b = .int j /\ Cd i j = true /\ d = g i j:=by
 unfold iOp at h
 split at h
 ·split at h
  ·rename_i q; cases h; exact ⟨_,_,rfl,rfl,q,rfl⟩
  ·cases h
 ·cases h
theorem kw3 {Cd:Int -> Int -> Bool} {g:Int -> Int -> D} {a b:D} {c:Addr} {p:Option Int}:iOp Cd g a b ≠ .ex c p:=by
 unfold iOp
 split
 ·split <;> exact fun h=>by cases h
 ·exact fun h=>by cases h
theorem jc6 {K:PySem.W.Frag} {r2:R2} {Cd:Int -> Int -> Bool} {g:Int -> Int -> D} (h:∀ (H:Hp) (i j:Int) (Q:VK),Cd i j = true -> (∀ v,Rep K C H (g i j) v -> Q v H) -> r2 (.int i) (.int j) H Q) (n:∀ i j,noL (g i j) = true):OpD K C r2 (iOp Cd g) κ:=.flat (fun H a b x y Q qa qb q=>by
  cases hz:iOp Cd g a b with
  | bad=>rw [hz] at q; exact q.elim
  | ex c p=>exact absurd hz kw3
  | ok d =>
   rw [hz] at q
   refine x2_4 (kw6 hz) fun i j zo2 zo3 hc zo5=>?_
   obtain rfl:=zo2
   obtain rfl:=zo3
   obtain rfl:=zo5
   rw [Rep] at qa qb; subst qa; subst qb
   exact h H i j Q hc q.2) fun a b=>⟨fun c p=>kw3,fun d hd=>by obtain ⟨i,j,_,_,_,rfl⟩:=kw6 hd; exact n i j⟩
noncomputable def gAdd:=iOp (fun _ _=>true) fun i j=>.int (i + j)
noncomputable def gSub:=iOp (fun _ _=>true) fun i j=>.int (i - j)
noncomputable def sm (i:Int):Bool:=decide (-(2 ^ 64) < i) && decide (i < 2 ^ 64)
noncomputable def gMul:=iOp (fun i j=>sm i || sm j) fun i j=>.int (i * j)
noncomputable def gDiv:=iOp (fun _ j=>decide (0 < j) && decide (j < 1073741824)) fun i j=>.int (i / j)
noncomputable def gMod:=iOp (fun _ j=>decide (0 < j)) fun i j=>.int (i % j)
noncomputable def gPow:=iOp (fun i j=>decide (0 <= j) && decide (j <= 1000000) && decide (i.natAbs < 2 ^ 64)) fun i j=>.int (i ^ j.toNat)
noncomputable def gLt:=iOp (fun _ _=>true) fun i j=>.bl (decide (i < j))
noncomputable def gLe:=iOp (fun _ _=>true) fun i j=>.bl (decide (i <= j))
noncomputable def gGt:=iOp (fun _ _=>true) fun i j=>.bl (decide (j < i))
theorem repI {K:PySem.W.Frag} {H:Hp} {i:Int}:Rep K C H (.int i) (.int i):=by rw [Rep]
theorem repB {K:PySem.W.Frag} {H:Hp} {i:Bool}:Rep K C H (.bl i) (.bl i):=by rw [Rep]
theorem Z3 {K:PySem.W.Frag}:OpD K C (rI0 fun i j=>.int (i + j)) gAdd .new:=jc6 (fun H i j Q _ q=>⟨i,j,rfl,rfl,q _ repI⟩) fun i j=>by rw [noL] <;> simp
theorem km3 {K:PySem.W.Frag}:OpD K C (rI0 fun i j=>.int (i - j)) gSub .new:=jc6 (fun H i j Q _ q=>⟨i,j,rfl,rfl,q _ repI⟩) fun i j=>by rw [noL] <;> simp
theorem jk5 {K:PySem.W.Frag}:OpD K C (rI CMul fun i j=>.int (i * j)) gMul .new:=jc6 (fun H i j Q c q=>⟨i,j,rfl,rfl,by
 rcases Bool.or_eq_true _ _ |>.mp c with c | c
 ·simp [sm] at c; exact .inl ⟨by lia,by lia⟩
 ·simp [sm] at c; exact .inr ⟨by lia,by lia⟩,q _ repI⟩) fun i j=>by rw [noL] <;> simp
theorem jg0 {K:PySem.W.Frag}:OpD K C (rI CDiv fun i j=>.int (i / j)) gDiv .new:=jc6 (fun H i j Q c q=>⟨i,j,rfl,rfl,by simp at c; exact ⟨c.1,c.2⟩,q _ repI⟩) fun i j=>by rw [noL] <;> simp
theorem W2 {K:PySem.W.Frag}:OpD K C (rI (fun _ j=>0 < j) fun i j=>.int (i % j)) gMod .new:=jc6 (fun H i j Q c q=>⟨i,j,rfl,rfl,by simpa using c,q _ repI⟩) fun i j=>by rw [noL] <;> simp
theorem qa6 {K:PySem.W.Frag}:OpD K C (rI CPow fun i j=>.int (i ^ j.toNat)) gPow .new:=jc6 (fun H i j Q c q=>⟨i,j,rfl,rfl,by simp only [Bool.and_eq_true,decide_eq_true_eq] at c; exact ⟨c.1.1,c.1.2,c.2⟩,q _ repI⟩) fun i j=>by rw [noL] <;> simp
theorem kx5 {K:PySem.W.Frag}:OpD K C (rI0 fun i j=>.bl (decide (i < j))) gLt .new:=jc6 (fun H i j Q _ q=>⟨i,j,rfl,rfl,q _ repB⟩) fun i j=>by rw [noL] <;> simp
theorem jj1 {K:PySem.W.Frag}:OpD K C (rI0 fun i j=>.bl (decide (i <= j))) gLe .new:=jc6 (fun H i j Q _ q=>⟨i,j,rfl,rfl,q _ repB⟩) fun i j=>by rw [noL] <;> simp
theorem kc8 {K:PySem.W.Frag}:OpD K C (rI0 fun i j=>.bl (decide (j < i))) gGt .new:=jc6 (fun H i j Q _ q=>⟨i,j,rfl,rfl,q _ repB⟩) fun i j=>by rw [noL] <;> simp
noncomputable def gEq (neg:Bool):D -> D -> R D:=fun a b=>if (Dm.flat a && Dm.flat b && decide (dep a <= 60)) = true then .ok (.bl (if neg then !eqD a b else eqD a b)) else .bad
theorem J8 {K:PySem.W.Frag} {neg:Bool}:OpD K C (rEqD K C neg) (gEq neg) .new:=.flat (fun H a b x y Q qa qb q=>by
  unfold gEq at q
  split at q
  ·rename_i c
   split at c
   ·rename_i c'
    cases c
    simp only [Bool.and_eq_true,decide_eq_true_eq] at c'
    exact ⟨a,b,qa,qb,c'.1.1,c'.1.2,c'.2,q.2 _ repB⟩
   ·cases c
  ·exact q.elim) fun a b=>⟨fun c p=>(by unfold gEq; split <;> exact fun h=>(by cases h)),fun d h=>by unfold gEq at h; split at h <;> cases h; rw [noL] <;> simp⟩
noncomputable def gIn (neg:Bool):D -> D -> R D:=fun a b=>match b with
 | .lst es=>if (Dm.flat a && J3 es && decide (deps es <= 60)) = true then .ok (.bl (if neg then !(es.any fun e=>eqD e a) else es.any fun e=>eqD e a)) else .bad
 | .tup es=>if (Dm.flat a && J3 es && decide (deps es <= 60)) = true then .ok (.bl (if neg then !(es.any fun e=>eqD e a) else es.any fun e=>eqD e a)) else .bad
 | _=>.bad
theorem kx6 {K:PySem.W.Frag} {neg:Bool}:OpD K C (rInD K C neg) (gIn neg) .new:=.flat (fun H a b x y Q qa qb q=>by
  cases b with
  | lst es =>
   unfold gIn at q
   dsimp only at q
   split at q
   ·rename_i c
    split at c
    ·rename_i c'
     cases c
     simp only [Bool.and_eq_true,decide_eq_true_eq] at c'
     exact ⟨a,es,qa,.inl qb,c'.1.1,c'.1.2,c'.2,q.2 _ repB⟩
    ·cases c
   ·exact q.elim
  | tup es =>
   unfold gIn at q
   dsimp only at q
   split at q
   ·rename_i c
    split at c
    ·rename_i c'
     cases c
     simp only [Bool.and_eq_true,decide_eq_true_eq] at c'
     exact ⟨a,es,qa,.inr qb,c'.1.1,c'.1.2,c'.2,q.2 _ repB⟩
    ·cases c
   ·exact q.elim
  | _=>exact q.elim) fun a b=>⟨fun c p=>(by unfold gIn; split <;> (try split) <;> exact fun h=>(by cases h)),fun d h=>by unfold gIn at h; split at h <;> (try split at h) <;> cases h <;> (rw [noL] <;> simp)⟩
noncomputable def gIx:D -> D -> R D:=fun a b=>match a,b with
 | .lst ds,.int i=>match atI ds i with | some d=>.ok d | none=>.bad
 | .tup ds,.int i=>match atI ds i with | some d=>.ok d | none=>.bad
 | _,_=>.bad
theorem kd1 {K:PySem.W.Frag} {H:Hp} {ds:List D} {xs:List V} {i:Int} {d:D} (q:Reps K C H ds xs) (h:atI ds i = some d):∃ v,atI xs i = some v /\ Rep K C H d v:=by
 unfold atI at h ⊢
 rw [q.len]
 cases hj:ixN ds.length i with
 | none=>rw [hj] at h; cases h
 | some j =>
  rw [hj] at h
  exact q.get' h
end
end Dm
end T_De3
section T_De4
namespace Dm
open PySem PySem.Spec PyProof.Rows L2
section
variable {X:Cx} {C:Cfg} {G0:Hp} {Γ:List SK} {E:L2.St -> XK} {e a b c:Expr} {f fa fb fc:DF} {κ κ' κa κb:Kd} {es rest:List Expr} {fs:DA} {pos:Pos}
theorem qj3 {K:PySem.W.Frag} {H:Hp} {a d:D} {x:V} {i:Int} (qa:Rep K C H a x) (h:gIx a (.int i) = .ok d):(∃ p xs v,x = .ref p /\ (SqL K H p xs \/ SqT K H p xs) /\ atI xs i = some v /\ Rep K C H d v):=by
 cases a with
 | lst ds =>
  unfold gIx at h
  dsimp only at h
  cases hz:atI ds i with
  | none=>rw [hz] at h; cases h
  | some d' =>
   rw [hz] at h; cases h
   refine x2_3 qa.items fun p xs zo2 h2 h3=>?_
   obtain rfl:=zo2
   refine x1_2 (kd1 h3 hz) fun v h4 h5=>?_
   exact ⟨p,xs,v,rfl,.inl h2,h4,h5⟩
 | tup ds =>
  unfold gIx at h
  dsimp only at h
  cases hz:atI ds i with
  | none=>rw [hz] at h; cases h
  | some d' =>
   rw [hz] at h; cases h
   rw [Rep] at qa
   refine x2_3 qa fun p xs zo2 h2 h3=>?_
   clear qa
   obtain rfl:=zo2
   refine x1_2 (kd1 h3 hz) fun v h4 h5=>?_
   exact ⟨p,xs,v,rfl,.inr h2,h4,h5⟩
 | _=>cases h
noncomputable def rIxD (K:PySem.W.Frag):R2:=fun x y H Q=>rIxL K x y H Q \/ rIxT K x y H Q
theorem ix_D:IxR X (rIxD X.K):=qg0.or qi5
theorem SqL.part {K:PySem.W.Frag} {G H:Hp} (e:Same G H) {p:Addr} {xs:List V} (h:SqL K G p xs \/ SqT K G p xs):SqL K H p xs \/ SqT K H p xs:=h.imp (fun h=>e.seq h) fun h=>Same.tup e h
noncomputable def Kd.item:Kd -> Kd
 | .nwo=>.old
 | .new=>.old
 | .loc=>.old
 | .old=>.old
 | _=>.tmp
theorem qf2 {a b d:D} (h:gIx a b = .ok d):∃ i,b = .int i:=by
 cases b with
 | int i=>exact ⟨i,rfl⟩
 | _=>cases a <;> cases h
theorem qm4 {a b:D} {c:Addr} {p:Option Int}:gIx a b ≠ .ex c p:=by
 unfold gIx
 split
 ·split <;> exact fun h=>(by cases h)
 ·split <;> exact fun h=>(by cases h)
 ·exact fun h=>(by cases h)
theorem qj9 (ha:PE X a (tD X.K C G0 Γ E fa κa)) (hb:PE X b (tD X.K C G0 Γ E fb κb)) (hs:jz2 b):PE X (.Subscript a b pos) (tD X.K C G0 Γ E (dOp gIx fa fb) κa.item):=(qq1 ix_D ha hb hs).imp fun σ H Q zz=>by
 refine x2_2 zz fun A st r q=>?_
 clear zz
 refine ⟨A,st,r,?_⟩
 unfold dOp R.bind at q
 cases ha:fa st with
 | bad=>rw [ha] at q; exact q
 | ex c p=>rw [ha] at q; exact q
 | ok a =>
  rw [ha] at q
  intro x H1 e1 w1
  refine ⟨A,st,r.mono e1,?_⟩
  dsimp only at q
  cases hb:fb st with
  | bad=>rw [hb] at q; exact q
  | ex c p=>rw [hb] at q; exact fun H' e'=>q H' (e1.trans e')
  | ok b =>
   rw [hb] at q
   intro y H2 e2 w2
   dsimp only at q
   cases hg:gIx a b with
   | bad=>rw [hg] at q; exact q.elim
   | ex c p=>exact absurd hg qm4
   | ok d =>
    rw [hg] at q
    obtain ⟨i,rfl⟩:=qf2 hg
    have e12:=e1.trans e2
    have w:=w1.later e2
    obtain rfl:y = .int i:=by have:=w2.rep; rw [Rep] at this; exact this
    have fin:∀ G:Hp,Same G H2 -> Rep X.K C G a x -> (∀ v,Rep X.K C G d v -> Val X.K C κa.item G0 A H H2 d v) -> rIxD X.K x (.int i) H2 Q:=fun G e qa k=>by
     refine x3_4 (qj3 qa hg) fun p xs v zo3 s at' rv=>?_
     obtain rfl:=zo3
     rcases SqL.part e s with s | s
     ·exact .inl ⟨p,xs,i,v,rfl,rfl,s,at',q v H2 e12 (k v rv)⟩
     ·exact .inr ⟨p,xs,i,v,rfl,rfl,s,at',q v H2 e12 (k v rv)⟩
    cases κa with
    | new=>exact fin _ (q8 _ _) (w.le r e12 (κ':=.old) rfl) fun v z=>z
    | nwo=>exact fin _ (q8 _ _) (w.le r e12 (κ':=.old) rfl) fun v z=>z
    | loc=>exact fin _ (q8 _ _) (w.le r e12 (κ':=.old) rfl) fun v z=>z
    | old=>exact fin _ (q8 _ _) w fun v z=>z
    | tmn=>exact fin _ (.refl _) w.rep fun v z=>z
    | tmp=>exact fin _ (.refl _) w fun v z=>z
theorem j6:PA X [] (tDA X.K C G0 Γ E aNil κ):=jm3.imp fun σ H Q zz1=>zz1.elim fun A zz2=>zz2.elim fun st zz3=>zz3.elim fun r q=>q [] H (.refl _) .nil
theorem j0 (ha:PE X e (tD X.K C G0 Γ E f κa)) (hr:PA X es (tDA X.K C G0 Γ E fs κ)) (l:κa.le κ = true:=by rfl) (hs:starEach (e :: es) X.env = (false,eval e X.env) :: starEach es X.env:=by rfl):PA X (e :: es) (tDA X.K C G0 Γ E (j2 f fs) κ):=(jd4 ha hr hs).imp fun σ H Q zz=>by
 refine x2_2 zz fun A st r q=>?_
 clear zz
 refine ⟨A,st,r,?_⟩
 unfold j2 R.bind at q
 cases hf:f st with
 | bad=>rw [hf] at q; exact q
 | ex c p=>rw [hf] at q; exact q
 | ok a =>
  rw [hf] at q
  intro x H1 e1 w1
  refine ⟨A,st,r.mono e1,?_⟩
  dsimp only at q
  cases hb:fs st with
  | bad=>rw [hb] at q; exact q
  | ex c p=>rw [hb] at q; exact fun H' e'=>q H' (e1.trans e')
  | ok b =>
   rw [hb] at q
   intro y H2 e2 w2
   exact q (x :: y) H2 (e1.trans e2) (.cons ((w1.le r e1 l).hp.same (Kd.hp_later e2) _) (w2.same (Kd.hp_early e1) _))
theorem jq9 {α:Type} {l:List α} (h:l.length <= 100):l.length <= sizeLine:=Nat.le_trans h (by rw [sizeLine_eq]; decide)
noncomputable def W6 (n:Nat) (f:DA):DF:=fun st=>(f st).bind fun ds=>if ds.length <= n then .ok (.tup ds) else .bad
theorem ja7 {x1} (h:PA X es (tDA X.K C G0 Γ E fs κ)):PE X (.Tuple es x1 pos) (tD X.K C G0 Γ E (W6 100 fs) κ):=(qi4 h).imp fun σ H Q zz=>by
 refine x2_2 zz fun A st r q=>?_
 clear zz
 refine ⟨A,st,r,?_⟩
 unfold W6 R.bind at q
 cases hf:fs st with
 | bad=>rw [hf] at q; exact q
 | ex c p=>rw [hf] at q; exact q
 | ok ds =>
  rw [hf] at q
  dsimp only at q
  split at q
  ·rename_i d hz
   split at hz
   ·rename_i hl
    cases hz
    exact fun vs H1 e1 w1=>⟨jq9 (by rw [w1.len]; exact hl),fun p hp=>q _ _ (e1.trans (U6 hp)) (.tup r e1 hp w1)⟩
   ·cases hz
  ·rename_i hz; split at hz <;> cases hz
  ·exact q.elim
noncomputable def U9 (n:Nat) (f:DA):DF:=fun st=>(f st).bind fun ds=>if ds.length <= n then .ok (.lst ds) else .bad
theorem W7 (h:PA X es (tDA X.K C G0 Γ E fs κ)):PE X (.List es pos) (tD X.K C G0 Γ E (U9 100 fs) κ):=(qk4 h).imp fun σ H Q zz=>by
 refine x2_2 zz fun A st r q=>?_
 clear zz
 refine ⟨A,st,r,?_⟩
 unfold U9 R.bind at q
 cases hf:fs st with
 | bad=>rw [hf] at q; exact q
 | ex c p=>rw [hf] at q; exact q
 | ok ds =>
  rw [hf] at q
  dsimp only at q
  split at q
  ·rename_i d hz
   split at hz
   ·rename_i hl
    cases hz
    exact fun vs H1 e1 w1=>⟨jq9 (by rw [w1.len]; exact hl),fun p hp=>q _ _ (e1.trans (U6 hp)) (.lst r e1 hp w1)⟩
   ·cases hz
  ·rename_i hz; split at hz <;> cases hz
  ·exact q.elim
noncomputable def FnD (K:PySem.W.Frag) (C:Cfg) (r1:List V -> Hp -> VK -> Prop) (g:List D -> R D) (κ:Kd):Prop:=∀ (G0:Hp) (Γ:List SK) (E:XK) (σ:L2.St) (A:List Addr) (st:DSt) (H:Hp) (ds:List D) (xs:List V) (Q:VK),RS K C G0 Γ σ H A st -> Reps K C H ds xs ->
 (match g ds with | .ok d=>∀ v H',Same H H' -> Val K C κ G0 A H H' d v -> Q v H' | .ex c p=>∀ H',Same H H' -> exP E c p H' | .bad=>False) -> r1 xs H Q
theorem jf4 {r1:List V -> Hp -> VK -> Prop} {g:List D -> R D} (ho:FnD X.K C r1 g κ) (h:PE X e (tCB r1 (tDA X.K C G0 Γ E fs κa))):PE X e (tD X.K C G0 Γ E (dFn g fs) κ):=h.imp fun σ H Q zz=>by
 refine x2_2 zz fun A st r q=>?_
 clear zz
 refine ⟨A,st,r,?_⟩
 unfold dFn R.bind at q
 cases hf:fs st with
 | bad=>rw [hf] at q; exact q
 | ex c p=>rw [hf] at q; exact q
 | ok ds =>
  rw [hf] at q
  dsimp only at q
  intro vs H1 e1 w1
  refine ho G0 Γ (E σ) σ A st H1 ds vs Q (r.mono e1) (w1.same Kd.hp_all _) ?_
  cases hg:g ds with
  | bad=>rw [hg] at q; exact q
  | ex c p=>rw [hg] at q; exact fun H' e'=>q H' (e1.trans e')
  | ok d=>rw [hg] at q; exact fun v H' e' w=>q v H' (e1.trans e') (w.early e1)
theorem jw0 {K:PySem.W.Frag} {H:Hp} {d:D} {xs:List V} (h:Reps K C H [d] xs):∃ v,xs = [v] /\ Rep K C H d v:=by
 rw [Reps] at h
 refine x2_3 h fun v r zo2 q z=>?_
 clear h
 obtain rfl:=zo2
 rw [Reps] at z; subst z
 exact ⟨v,rfl,q⟩
noncomputable def gLen:List D -> R D:=fun ds=>match ds with | [.lst xs]=>.ok (.int xs.length) | [.tup xs]=>.ok (.int xs.length) | _=>.bad
theorem ja1 {K:PySem.W.Frag}:FnD K C (fun xs H Q=>∃ p ys,xs = [.ref p] /\ (SqL K H p ys \/ SqT K H p ys) /\ Q (.int ys.length) H) gLen .new:=fun G0 Γ E σ A st H ds xs Q r w q=>by
 unfold gLen at q
 split at q
 ·rename_i z
  split at z
  ·cases z
   refine x1_2 (jw0 w) fun v zo1 w1=>?_
   obtain rfl:=zo1
   refine x2_3 w1.items fun p ys zo2 s t=>?_
   obtain rfl:=zo2
   exact ⟨p,ys,rfl,.inl s,q _ H (.refl _) (.flat r (.refl _) (by rw [noL] <;> simp) (by rw [t.len]; exact repI) _)⟩
  ·cases z
   refine x1_2 (jw0 w) fun v zo1 w1=>?_
   obtain rfl:=zo1
   rw [Rep] at w1
   refine x2_3 w1 fun p ys zo2 s t=>?_
   clear w1
   obtain rfl:=zo2
   exact ⟨p,ys,rfl,.inr s,q _ H (.refl _) (.flat r (.refl _) (by rw [noL] <;> simp) (by rw [t.len]; exact repI) _)⟩
  ·cases z
 ·rename_i z; split at z <;> cases z
 ·exact q.elim
noncomputable def jl1:List D -> R D:=fun ds=>match ds with | [.lst xs]=>if noLs xs = true then .ok (.lst xs) else .bad | [.tup xs]=>if noLs xs = true then .ok (.lst xs) else .bad | _=>.bad
theorem jj8 {K:PySem.W.Frag}:FnD K C (fun xs H Q=>∃ p ys,xs = [.ref p] /\ (SqL K H p ys \/ SqT K H p ys) /\ ∀ l,H l = none -> Q (.ref l) (upd H l (.lst ys))) jl1 .new:=fun G0 Γ E σ A st H ds xs Q r w q=>by
 have fin:∀ (es:List D) (p:Addr) (ys:List V),(SqL K H p ys \/ SqT K H p ys) -> Reps K C H es ys -> noLs es = true -> (∀ v H',Same H H' -> Val K C .new G0 A H H' (.lst es) v -> Q v H') -> ∃ p' ys',[V.ref p] = [.ref p'] /\ (SqL K H p' ys' \/ SqT K H p' ys') /\ ∀ l,H l = none -> Q (.ref l) (upd H l (.lst ys')):=fun es p ys s t n q =>
  ⟨p,ys,rfl,s,fun l hl=>q _ _ (U6 hl) (.lst r (.refl _) hl (t.part (.nw (.refl _)) _ n))⟩
 unfold jl1 at q
 split at q
 ·rename_i z
  split at z
  ·split at z
   ·rename_i n
    cases z
    refine x1_2 (jw0 w) fun v zo1 w1=>?_
    obtain rfl:=zo1
    refine x2_3 w1.items fun p ys zo2 s t=>?_
    obtain rfl:=zo2
    exact fin _ _ _ (.inl s) t n q
   ·cases z
  ·split at z
   ·rename_i n
    cases z
    refine x1_2 (jw0 w) fun v zo1 w1=>?_
    obtain rfl:=zo1
    rw [Rep] at w1
    refine x2_3 w1 fun p ys zo2 s t=>?_
    clear w1
    obtain rfl:=zo2
    exact fin _ _ _ (.inr s) t n q
   ·cases z
  ·cases z
 ·rename_i z; split at z <;> (try split at z) <;> cases z
 ·exact q.elim
theorem qb7 (h:PE X e (tD X.K C G0 Γ E f κ)) (he:∀ whole,isTrue e X.env whole = (do let v <- whole; standAt e.pos; holding [v] (truthy v)):=by intro _; rfl):PT X e (tDT X.K C G0 Γ E f):=(qk3 h he).imp fun σ H Q zz=>by
 refine x2_2 zz fun A st r q=>?_
 clear zz
 refine ⟨A,st,r,?_⟩
 cases hf:f st with
 | bad=>rw [hf] at q; exact q
 | ex c p=>rw [hf] at q; exact q
 | ok d =>
  rw [hf] at q
  cases d with
  | bl b=>exact fun v H' e' w=>⟨b,by have:=w.rep; rw [Rep] at this; exact this,q H' e'⟩
  | _=>exact q.elim
theorem J4 {op:CmpOp} {r2:R2} {g:D -> D -> R D} (hr:OpR X (compareOp op) r2) (ho:OpD X.K C r2 g .new) (ha:PE X a (tD X.K C G0 Γ E fa κa)) (hb:PE X b (tD X.K C G0 Γ E fb κb)) (hm:behindInMarks op b = false):PT X (.Compare a [op] [b] pos) (tDT X.K C G0 Γ E (dOp g fa fb)):=(qe3 hr ha hb hm).imp fun σ H Q zz=>by
 refine x2_2 zz fun A st r q=>?_
 clear zz
 refine two (κ:=.new) ho σ H _ ⟨A,st,r,?_⟩
 cases hf:dOp g fa fb st with
 | bad=>rw [hf] at q; exact q
 | ex c p=>rw [hf] at q; exact q
 | ok d =>
  rw [hf] at q
  cases d with
  | bl b=>exact fun v H' e' w=>⟨b,by have:=w.rep; rw [Rep] at this; exact this,q H' e'⟩
  | _=>exact q.elim
theorem jt0 (h:PT X a (tDT X.K C G0 Γ E fa)):PT X (.UnaryOp .Not a pos) (tDT X.K C G0 Γ E (dNot fa)):=(qh7 h).imp fun σ H Q zz=>by
 refine x2_2 zz fun A st r q=>?_
 clear zz
 refine ⟨A,st,r,?_⟩
 unfold dNot R.bind at q
 cases hf:fa st with
 | bad=>rw [hf] at q; exact q
 | ex c p=>rw [hf] at q; exact q
 | ok d =>
  rw [hf] at q
  cases d with
  | bl b=>exact q
  | _=>exact q.elim
theorem kg3 (ha:PT X a (tDT X.K C G0 Γ E fa)):PW X (.BoolOp .And [a] pos) (tDT X.K C G0 Γ E fa):=qf1 ha
theorem ky2 (ha:PT X a (tDT X.K C G0 Γ E fa)) (hb:PW X (.BoolOp .And (b :: rest) pos) (tDT X.K C G0 Γ E fb)):PW X (.BoolOp .And (a :: b :: rest) pos) (tDT X.K C G0 Γ E (dAnd fa fb)):=(qj5 ha hb).imp fun σ H Q zz=>by
 refine x2_2 zz fun A st r q=>?_
 clear zz
 refine ⟨A,st,r,?_⟩
 unfold dAnd R.bind at q
 cases hf:fa st with
 | bad=>rw [hf] at q; exact q
 | ex c p=>rw [hf] at q; exact q
 | ok d =>
  rw [hf] at q
  cases d with
  | bl b =>
   intro H1 e1
   cases b with
   | false=>rw [if_neg Bool.false_ne_true]; exact q H1 e1
   | true =>
    rw [if_pos rfl]
    refine ⟨A,st,r.mono e1,?_⟩
    dsimp only at q
    cases hb:fb st with
    | bad=>rw [hb] at q; exact q
    | ex c p=>rw [hb] at q; exact fun H' e'=>q H' (e1.trans e')
    | ok d =>
     rw [hb] at q
     cases d with
     | bl b=>exact fun H' e'=>q H' (e1.trans e')
     | _=>exact q.elim
  | _=>exact q.elim
theorem ky6 {op} (ha:PE X a (tD X.K C G0 Γ E fa κ)):PE X (.BoolOp op [a] pos) (tD X.K C G0 Γ E fa κ):=qh6 ha
theorem vbl {K:PySem.W.Frag} {A:List Addr} {H H':Hp} {b:Bool} {v:V} (w:Val K C κ G0 A H H' (.bl b) v):v = .bl b:=by have:=w.rep; rw [Rep] at this; exact this
theorem ky7 (ha:PE X a (tD X.K C G0 Γ E fa κa)) (hb:PE X (.BoolOp .And (b :: rest) pos) (tD X.K C G0 Γ E fb κ)):PE X (.BoolOp .And (a :: b :: rest) pos) (tD X.K C G0 Γ E (dAnd fa fb) κ):=(qn6 ha hb).imp fun σ H Q zz=>by
 refine x2_2 zz fun A st r q=>?_
 clear zz
 refine ⟨A,st,r,?_⟩
 unfold dAnd R.bind at q
 cases hf:fa st with
 | bad=>rw [hf] at q; exact q
 | ex c p=>rw [hf] at q; exact q
 | ok d =>
  rw [hf] at q
  cases d with
  | bl b =>
   intro v H1 e1 w1
   refine ⟨b,vbl w1,?_⟩
   cases b with
   | false=>rw [if_neg Bool.false_ne_true]; exact q _ H1 e1 (.flat r e1 (by rw [noL] <;> simp) repB _)
   | true =>
    rw [if_pos rfl]
    refine ⟨A,st,r.mono e1,?_⟩
    dsimp only at q
    cases hb:fb st with
    | bad=>rw [hb] at q; exact q
    | ex c p=>rw [hb] at q; exact fun H' e'=>q H' (e1.trans e')
    | ok d=>rw [hb] at q; exact fun v H' e' w=>q v H' (e1.trans e') (w.early e1)
  | _=>exact q.elim
end
end Dm
end T_De4
section T_De5
namespace Dm
open PySem PySem.Spec PyProof.Rows L2
noncomputable def RetV (K:PySem.W.Frag) (C:Cfg) (κr:Bool) (G0 H':Hp) (d:D) (v:V):Prop:=match κr with
 | true=>Rep K C (nw G0 H') d v /\ TopL K C G0 (nw G0 H') d v
 | false=>Rep K C H' d v
section
variable (K:PySem.W.Frag) (C:Cfg) (G0:Hp) (Γ:List SK) (E:L2.St -> XK) (κr:Bool)
noncomputable def tDS (F:DS):TS:=fun D σ H=>∃ A st,RS K C G0 Γ σ H A st /\ match F st with
 | .nx st'=>∀ σ' H' A',RS K C G0 Γ σ' H' A' st' -> Same (er H A) (er H' A') -> D.nx σ' H'
 | .bk st'=>∀ σ' H' A',RS K C G0 Γ σ' H' A' st' -> Same (er H A) (er H' A') -> D.bk σ' H'
 | .ct st'=>∀ σ' H' A',RS K C G0 Γ σ' H' A' st' -> Same (er H A) (er H' A') -> D.ct σ' H'
 | .rt d=>∀ v H',Same G0 H' -> RetV K C κr G0 H' d v -> D.rt v H'
 | .ex c p st'=>∀ σ' H' A',RS K C G0 Γ σ' H' A' st' -> Same (er H A) (er H' A') -> exP (E σ') c p H'
 | .bad=>False
end
noncomputable def dSeq (F G:DS):DS:=fun st=>match F st with | .nx st'=>G st' | o=>o
noncomputable def y6:DS:=fun st=>.nx st
noncomputable def dAsg (i:Nat) (f:DF):DS:=fun st=>match f st with | .ok d=>.nx (st.set i (some d)) | .ex c p=>.ex c p st | .bad=>.bad
noncomputable def J5 (f:DF):DS:=fun st=>match f st with | .ok _=>.nx st | .ex c p=>.ex c p st | .bad=>.bad
noncomputable def dRet (f:DF):DS:=fun st=>match f st with | .ok d=>.rt d | .ex c p=>.ex c p st | .bad=>.bad
noncomputable def dIfS (fc:DF) (F G:DS):DS:=fun st=>match fc st with | .ok (.bl true)=>F st | .ok (.bl false)=>G st | .ok _=>.bad | .ex c p=>.ex c p st | .bad=>.bad
section
variable {X:Cx} {C:Cfg} {G0:Hp} {Γ:List SK} {E:L2.St -> XK} {κr:Bool} {e a b c:Expr} {f fa fb fc:DF} {κ κ' κa κb:Kd} {es rest:List Expr} {fs:DA} {pos:Pos} {s:Stmt} {ss:List Stmt} {F G:DS}
theorem z8:PSs X [] (tDS X.K C G0 Γ E κr y6):=qf9.imp fun D σ H zz1=>zz1.elim fun A zz2=>zz2.elim fun st zz3=>zz3.elim fun r q=>q σ H A r (.refl _)
theorem k6 (h1:PS X s (tDS X.K C G0 Γ E κr F)) (h2:PSs X ss (tDS X.K C G0 Γ E κr G)):PSs X (s :: ss) (tDS X.K C G0 Γ E κr (dSeq F G)):=(kc0 h1 h2).imp fun D σ H zz=>by
 refine x2_2 zz fun A st r q=>?_
 clear zz
 refine ⟨A,st,r,?_⟩
 unfold dSeq at q
 cases hf:F st with
 | nx st' =>
  rw [hf] at q
  intro σ' H' A' r' e'
  refine ⟨A',st',r',?_⟩
  dsimp only at q
  cases hg:G st' with
  | nx st2=>rw [hg] at q; exact fun σ2 H2 A2 r2 e2=>q σ2 H2 A2 r2 (e'.trans e2)
  | bk st2=>rw [hg] at q; exact fun σ2 H2 A2 r2 e2=>q σ2 H2 A2 r2 (e'.trans e2)
  | ct st2=>rw [hg] at q; exact fun σ2 H2 A2 r2 e2=>q σ2 H2 A2 r2 (e'.trans e2)
  | rt d=>rw [hg] at q; exact q
  | ex c p st2=>rw [hg] at q; exact fun σ2 H2 A2 r2 e2=>q σ2 H2 A2 r2 (e'.trans e2)
  | bad=>rw [hg] at q; exact q
 | bk st'=>rw [hf] at q; exact q
 | ct st'=>rw [hf] at q; exact q
 | rt d=>rw [hf] at q; exact q
 | ex c p st'=>rw [hf] at q; exact q
 | bad=>rw [hf] at q; exact q
theorem v4 (h1:PS X s (tDS X.K C G0 Γ E κr F)):PSs X [s] (tDS X.K C G0 Γ E κr F):=ko1 h1
theorem Y4 {i:Nat} {k:SK} {x:Str} {pos':Pos} (hN:X.N.Nodup) (he:PE X e (tD X.K C G0 Γ E f κ)) (hk:Γ[i]? = some k:=by rfl) (hl:k.takes κ = true:=by rfl) (hi:X.N[i]? = some x:=by rfl) (hx:Loc X.env.scope x:=by first | exact Or.inl rfl | exact Or.inr rfl) (hs:swapsWith e (some (.Name x pos')) pos.line X.env = pure false:=by rfl)
  (hf:X.fn x = true \/ X.env.scope.names.lookup x = some .local:=by first | exact .inl rfl | exact .inr rfl | assumption):PS X (.Assign [.Name x pos'] e pos) (tDS X.K C G0 Γ E κr (dAsg i f)):=(ql5 hN hi hx he hs hf).imp fun D σ H zz=>by
 refine x2_2 zz fun A st r q=>?_
 clear zz
 refine ⟨A,st,r,?_⟩
 unfold dAsg at q
 cases hf:f st with
 | bad=>rw [hf] at q; exact q
 | ex c p=>rw [hf] at q; exact fun H' e'=>q σ H' A (r.mono e') (q0 e')
 | ok d =>
  rw [hf] at q
  intro v H' e' w
  refine x1_3 (r.set e' hk hl w) fun A' r' e2 _=>?_
  exact q _ _ A' r' e2
theorem y1 (he:PE X e (tD X.K C G0 Γ E f κ)) (hs:swapsWith e none pos.line X.env = pure false:=by rfl):PS X (.Expr e pos) (tDS X.K C G0 Γ E κr (J5 f)):=(jx8 he hs).imp fun D σ H zz=>by
 refine x2_2 zz fun A st r q=>?_
 clear zz
 refine ⟨A,st,r,?_⟩
 unfold J5 at q
 cases hf:f st with
 | bad=>rw [hf] at q; exact q
 | ex c p=>rw [hf] at q; exact fun H' e'=>q σ H' A (r.mono e') (q0 e')
 | ok d=>rw [hf] at q; exact fun v H' e' w=>q σ H' A (r.mono e') (q0 e')
noncomputable def retK:Bool -> Kd | true=>.tmn | false=>.tmp
theorem Y6 (he:PE X e (tD X.K C G0 Γ E f κ)) (l:κ.le (retK κr) = true:=by rfl):PS X (.Return (some e) pos) (tDS X.K C G0 Γ E κr (dRet f)):=(ql2 he).imp fun D σ H zz=>by
 refine x2_2 zz fun A st r q=>?_
 clear zz
 refine ⟨A,st,r,?_⟩
 unfold dRet at q
 cases hf:f st with
 | bad=>rw [hf] at q; exact q
 | ex c p=>rw [hf] at q; exact fun H' e'=>q σ H' A (r.mono e') (q0 e')
 | ok d =>
  rw [hf] at q
  intro v H' e' w
  have w':=w.le r e' l
  refine q v H' (r.g0.trans e') ?_
  cases κr with
  | true=>exact w'
  | false=>exact w'
theorem U8 (hc:PT X c (tDT X.K C G0 Γ E fc)) (ha:PSs X ss (tDS X.K C G0 Γ E κr F)) {ss':List Stmt} (hb:PSs X ss' (tDS X.K C G0 Γ E κr G)):PS X (.If c ss ss' pos) (tDS X.K C G0 Γ E κr (Dm.dIfS fc F G)):=(qp0 hc ha hb).imp fun D σ H zz=>by
 refine x2_2 zz fun A st r q=>?_
 clear zz
 refine ⟨A,st,r,?_⟩
 unfold Dm.dIfS at q
 have sub:∀ {H1:Hp} (e1:Same H H1) {G:DS},(match G st with
   | .nx st'=>∀ σ' H' A',RS X.K C G0 Γ σ' H' A' st' -> Same (er H A) (er H' A') -> D.nx σ' H'
   | .bk st'=>∀ σ' H' A',RS X.K C G0 Γ σ' H' A' st' -> Same (er H A) (er H' A') -> D.bk σ' H'
   | .ct st'=>∀ σ' H' A',RS X.K C G0 Γ σ' H' A' st' -> Same (er H A) (er H' A') -> D.ct σ' H'
   | .rt d=>∀ v H',Same G0 H' -> RetV X.K C κr G0 H' d v -> D.rt v H'
   | .ex c p st'=>∀ σ' H' A',RS X.K C G0 Γ σ' H' A' st' -> Same (er H A) (er H' A') -> exP (E σ') c p H'
   | .bad=>False) -> tDS X.K C G0 Γ E κr G D σ H1:=fun {H1} e1 {G} q=>by
  refine ⟨A,st,r.mono e1,?_⟩
  cases hg:G st with
  | nx st2=>rw [hg] at q; exact fun σ2 H2 A2 r2 e2=>q σ2 H2 A2 r2 ((q0 e1).trans e2)
  | bk st2=>rw [hg] at q; exact fun σ2 H2 A2 r2 e2=>q σ2 H2 A2 r2 ((q0 e1).trans e2)
  | ct st2=>rw [hg] at q; exact fun σ2 H2 A2 r2 e2=>q σ2 H2 A2 r2 ((q0 e1).trans e2)
  | rt d=>rw [hg] at q; exact q
  | ex c p st2=>rw [hg] at q; exact fun σ2 H2 A2 r2 e2=>q σ2 H2 A2 r2 ((q0 e1).trans e2)
  | bad=>rw [hg] at q; exact q
 cases hf:fc st with
 | bad=>rw [hf] at q; exact q
 | ex c p=>rw [hf] at q; exact fun H' e'=>q σ H' A (r.mono e') (q0 e')
 | ok d =>
  rw [hf] at q
  cases d with
  | bl b =>
   intro H1 e1
   cases b with
   | true=>rw [if_pos rfl]; exact sub e1 q
   | false=>rw [if_neg Bool.false_ne_true]; exact sub e1 q
  | _=>exact q.elim
noncomputable def kr8:List SK -> Bool:=fun Γ=>Γ.all fun k=>match k with | .any=>false | _=>true
theorem kp9 {Γ:List SK} (h:kr8 Γ = true) {i:Nat}:Γ[i]? ≠ some .any:=fun z=>by
 unfold kr8 at h
 have:=List.all_eq_true.mp h _ (List.mem_of_getElem? z)
 cases this
theorem RS.mut {K:PySem.W.Frag} {σ:L2.St} {H:Hp} {A:List Addr} {st:DSt} (r:RS K C G0 Γ σ H A st) (na:kr8 Γ = true) {i:Nat} {n:Bool} {p:Addr} {ds':List D} {xs':List V} {d0:D} (hk:Γ[i]? = some (.own n)) (hs:st[i]? = some (some d0)) (hv:σ[i]? = some (some (.ref p))) (hp:p ∈ A) (g0:G0 p = none)
  (hd0:∃ ds,d0 = .lst ds) (q:Reps K C (eh n G0 A H) ds' xs'):RS K C G0 Γ σ (upd H p (.lst xs')) A (st.set i (some (.lst ds'))) /\ Same (er H A) (er (upd H p (.lst xs')) A):=by
 have ee:er (upd H p (.lst xs')) A = er H A:=by
  funext b
  by_cases mb:b ∈ A
  ·rw [Z5 mb,Z5 mb]
  ·rw [w6 mb,w6 mb,v5 (fun z:b = p=>mb (by rw [z]; exact hp))]
 have eeh:∀ m,eh m G0 A (upd H p (.lst xs')) = eh m G0 A H:=fun m=>by unfold eh; rw [ee]
 refine ⟨⟨by rw [ee]; exact r.base,fun a m=>?_,by simp [r.len],fun j d h=>?_,fun a b n' m' p' ds es hab g1 g2 s1 s2 w1 w2=>?_⟩,by rw [ee]; exact .refl _⟩
 ·by_cases ha:a = p
  ·subst ha; exact ⟨xs',J2⟩
  ·rw [v5 ha]; exact r.lists a m
 ·by_cases hj:i = j
  ·subst hj
   rw [List.getElem?_set_self (List.getElem?_eq_some_iff.mp hs).1] at h
   cases h
   exact ⟨_,_,hk,hv,.inl ⟨ds',p,xs',rfl,rfl,hp,g0,J2,by rw [eeh]; exact q⟩⟩
  ·rw [List.getElem?_set_ne hj] at h
   refine x2_3 (r.slot j d h) fun k v h1 h2 h3=>?_
   refine ⟨k,v,h1,h2,?_⟩
   cases k with
   | par=>show Rep K C (er _ A) d v; rw [ee]; exact h3
   | loc=>show _ /\ _; rw [ee]; exact h3
   | any=>exact absurd h1 (kp9 na)
   | own m =>
    rcases h3 with ⟨ds2,p2,xs2,a,b,c,f,g,q2⟩ | ⟨a,b⟩
    ·subst a; subst b
     have np:p2 ≠ p:=fun z=>by
      subst z
      obtain ⟨ds0,rfl⟩:=hd0
      exact r.apart i j n m p2 ds0 ds2 hj hk h1 hs h hv h2
     exact .inl ⟨ds2,p2,xs2,rfl,rfl,c,f,by rw [v5 np]; exact g,by rw [eeh]; exact q2⟩
    ·exact .inr ⟨a,by rw [eeh]; exact b⟩
 ·have back:∀ {c:Nat} {cs:List D},(st.set i (some (.lst ds')))[c]? = some (some (.lst cs)) -> ∃ es,st[c]? = some (some (.lst es)):=fun {c cs} h=>by
   by_cases hc:i = c
   ·subst hc
    obtain ⟨ds0,rfl⟩:=hd0
    exact ⟨ds0,hs⟩
   ·rw [List.getElem?_set_ne hc] at h; exact ⟨_,h⟩
  obtain ⟨ds1,s1⟩:=back s1
  obtain ⟨es1,s2⟩:=back s2
  exact r.apart a b n' m' p' ds1 es1 hab g1 g2 s1 s2 w1 w2
theorem RS.owned {K:PySem.W.Frag} {σ:L2.St} {H:Hp} {A:List Addr} {st:DSt} (r:RS K C G0 Γ σ H A st) {i:Nat} {n:Bool} {ds:List D} (hk:Γ[i]? = some (.own n)) (hs:st[i]? = some (some (.lst ds))) :
  ∃ p xs,σ[i]? = some (some (.ref p)) /\ p ∈ A /\ G0 p = none /\ H p = some (.lst xs) /\ Reps K C (eh n G0 A H) ds xs:=by
 refine x2_3 (r.slot i _ hs) fun k v h1 h2 h3=>?_
 rw [hk] at h1; cases h1
 rcases h3 with ⟨ds2,p2,xs2,a,b,c,f,g,q2⟩ | ⟨a,b⟩
 ·cases a; cases b
  exact ⟨p2,xs2,h2,c,f,g,q2⟩
 ·exact absurd rfl (a ds)
noncomputable def inK:Bool -> Kd | true=>.loc | false=>.old
theorem Val.inK {K:PySem.W.Frag} {σ:L2.St} {H H':Hp} {A:List Addr} {st:DSt} {n:Bool} {d:D} {v:V} (r:RS K C G0 Γ σ H A st) (e:Same H H') (l:κ.le (inK n) = true) (w:Val K C κ G0 A H H' d v):Rep K C (eh n G0 A H') d v:=by
 have:=w.le r e l
 cases n with
 | true=>exact this.1
 | false=>exact this
noncomputable def dApp (i:Nat) (f:DF):DS:=fun st=>match st[i]? with
 | some (some (.lst ds))=>match f st with
  | .ok d=>if ds.length <= 1000 then .nx (st.set i (some (.lst (ds ++ [d])))) else .bad
  | .ex c p=>.ex c p st
  | .bad=>.bad
 | _=>.bad
theorem qi2 {i:Nat} {n:Bool} {to:TE} (h:PE X e (tBM X.K "list" ko7 (tVar i) (kg6 (tD X.K C G0 Γ E f κ) tNil))) (na:kr8 Γ = true) (hk:Γ[i]? = some (.own n):=by rfl) (hl:κ.le (inK n) = true:=by rfl) (hs:swapsWith e none pos.line X.env = pure false:=by rfl):PS X (.Expr e pos) (tDS X.K C G0 Γ E κr (dApp i f)):=(jx8 h hs).imp fun D σ H zz=>by
 refine x2_2 zz fun A st r q=>?_
 clear zz
 unfold dApp at q
 split at q
 all_goals first
  | (rename_i z; split at z <;> (try split at z) <;> (try split at z) <;> cases z; done)
  | skip
 ·rename_i st' z
  split at z
  ·rename_i ds hs
   cases hf:f st with
   | bad=>rw [hf] at z; cases z
   | ex c p=>rw [hf] at z; cases z
   | ok d =>
    rw [hf] at z
    dsimp only at z
    split at z
    ·rename_i hlen
     cases z
     refine x2_5 (r.owned hk hs) fun p xs h1 h2 h3 h4 h5=>?_
     refine ⟨_,h1,.inl ⟨rfl,xs,.of h4⟩,A,st,r,?_⟩
     rw [hf]
     intro v H' e' w
     have r':=r.mono e'
     have q5:Reps X.K C (eh n G0 A H') ds xs:=h5.same (by
      unfold eh; cases n
      ·exact q0 e'
      ·exact y4 (q0 e')) _
     refine ⟨p,xs,v,rfl,rfl,e' _ _ h4,?_,?_⟩
     ·rw [h5.len]
      have:1001 <= sizeLine:=by rw [sizeLine_eq]; decide
      lia
     ·obtain ⟨r2,e2⟩:=r'.mut na hk hs h1 h2 h3 ⟨ds,rfl⟩ (q5.app (.cons (w.inK r e' hl) .nil))
      exact q _ _ A r2 ((q0 e').trans e2)
    ·cases z
  ·cases z
 ·rename_i c p st' z
  split at z
  ·rename_i ds hs
   cases hf:f st with
   | bad=>rw [hf] at z; cases z
   | ok d=>rw [hf] at z; dsimp only at z; split at z <;> cases z
   | ex c p =>
    rw [hf] at z
    cases z
    refine x2_5 (r.owned hk hs) fun p' xs h1 h2 h3 h4 h5=>?_
    refine ⟨_,h1,.inl ⟨rfl,xs,.of h4⟩,A,st,r,?_⟩
    rw [hf]
    exact fun H' e'=>q σ H' A (r.mono e') (q0 e')
  ·cases z
 ·exact q.elim
end
end Dm
end T_De5
section T_De6
namespace Dm
open PySem PySem.Spec PyProof.Rows L2
noncomputable def spD (K:PySem.W.Frag) (C:Cfg) (n:Nat) (F:List D -> R D) (κr:Bool):Sp:=fun vs H Q E=>∃ ds,ds.length = n /\ Reps K C H ds vs /\ match F ds with
 | .ok d=>∀ v H',Same H H' -> RetV K C κr H H' d v -> Q v H'
 | .ex c p=>∀ H',Same H H' -> exP E c p H'
 | .bad=>False
noncomputable def v8 (m:Nat) (Fb:DS):List D -> R D:=fun ds=>match Fb (ds.map some ++ List.replicate (m - ds.length) none) with
 | .rt d=>.ok d | .nx _=>.ok .non | .ex c p _=>.ex c p | _=>.bad
section
variable {K:PySem.W.Frag} {C:Cfg} {Γ:List SK} {H:Hp}
theorem jo9:er H [] = H:=by funext a; exact w6 (by simp)
theorem kc1 {n:Nat} {N:List Str} {ds:List D} {vs:List V} (hn:ds.length = n) (hΓ:∀ i,i < n -> Γ[i]? = some .par) (q:Reps K C H ds vs):RS K C H Γ (L2.start N vs) H [] (ds.map some ++ List.replicate (N.length - ds.length) none) where
 base:=by rw [jo9]; exact .refl _
 lists:=fun a m=>by cases m
 len:=by unfold L2.start; simp [q.len]
 slot:=fun i d h=>by
  have hi:i < ds.length:=by
   apply Decidable.byContradiction
   intro hlt
   rw [List.getElem?_append_right (by simp; lia)] at h
   simp at h
   rw [List.getElem?_replicate] at h
   split at h <;> cases h
  rw [List.getElem?_append_left (by simpa using hi),List.getElem?_map] at h
  cases hd:ds[i]? with
  | none=>rw [hd] at h; cases h
  | some d' =>
   rw [hd] at h; cases h
   refine x1_2 (q.get' hd) fun v h1 h2=>?_
   refine ⟨.par,v,hΓ i (by lia),?_,?_⟩
   ·unfold L2.start
    rw [List.getElem?_append_left (by rw [List.length_map,q.len]; exact hi),List.getElem?_map,h1]; rfl
   ·show Rep K C (er H []) d v
    rw [jo9]; exact h2
 apart:=fun i j a b p ds' es hij g1 g2 s1 s2 w1 w2=>by
  have hi:i < ds.length:=by
   apply Decidable.byContradiction
   intro hlt
   rw [List.getElem?_append_right (by simp; lia)] at s1
   simp at s1
   rw [List.getElem?_replicate] at s1
   split at s1 <;> cases s1
  rw [hΓ i (by lia)] at g1; cases g1
theorem qj2 {P:Program} {w:World} {mg:Str -> Option Value} {base:Heap} {x qual:Str} {st:Stmt} {f:Addr} {fd:FuncData} {N ps:List Str} {k n:Nat} {κr:Bool} {Fb:DS} (F:Fun K x qual st f fd) (S:FnScope N ps (j4 st)) (hn:ps.length = n) (hΓ:∀ i,i < n -> Γ[i]? = some .par)
  (body:∀ (cdv:Value) (A:Around) (outer:List Env) (s:Shared) (H:Hp) (E:XK),Room k (A.deeper (envOfC qual (j4 st) s.heap.objs.size f cdv)) ->
   PSs ((cxOf (CXr P w) P w K mg base N qual (j4 st) f cdv A outer s H E).wish (Fly (cxOf (CXr P w) P w K mg base N qual (j4 st) f cdv A outer s H E) fun _=>E)) (v3 st) (tDS K C H Γ (fun _=>E) κr Fb)) :
  FnOk P w K mg base (CXr P w) (k + 1) f fd ps (spD K C n (v8 N.length Fb) κr):=by
 refine jv3 F S (fun vs H Q E zz1=>by obtain ⟨ds,h1,h2,_⟩:=zz1; rw [h2.len,h1,hn]) fun cdv A outer s H vs Q E hr zz2=>?_
 refine x1_3 zz2 fun ds h1 h2 q=>?_
 clear zz2
 refine ⟨_,body cdv A outer s H E hr,[],_,kc1 h1 hΓ h2,?_⟩
 unfold v8 at q
 cases hf:Fb (ds.map some ++ List.replicate (N.length - ds.length) none) with
 | nx st' =>
  rw [hf] at q
  intro σ' H' A' r' e'
  refine q .non H' (r'.g0) ?_
  have R:∀ H:Hp,Rep K C H .non .non:=fun H=>by rw [Rep]
  cases κr with
  | true=>exact ⟨R (nw H H'),fun ds z=>by cases z⟩
  | false=>exact R H'
 | bk st'=>rw [hf] at q; exact q.elim
 | ct st'=>rw [hf] at q; exact q.elim
 | rt d=>rw [hf] at q; exact q
 | ex c p st'=>rw [hf] at q; exact fun σ' H' A' r' e'=>q H' r'.g0
 | bad=>rw [hf] at q; exact q.elim
end
section
variable {X:Cx} {C:Cfg} {G0:Hp} {Γ:List SK} {E:L2.St -> XK} {κr:Bool} {e a b c:Expr} {f fa fb fc:DF} {κ κ' κa κb:Kd} {es rest:List Expr} {fs:DA} {pos:Pos} {s:Stmt} {ss:List Stmt} {F G:DS}
noncomputable def qa2:Bool -> Kd | true=>.new | false=>.tmp
theorem kr5 {n:Nat} {Fd:List D -> R D} {κc:Bool} {K:PySem.W.Frag}:∀ σ H Q,tD K C G0 Γ E (dFn Fd fs) (qa2 κc) σ H Q -> (∀ st ds,fs st = .ok ds -> ds.length = n) -> kx9 (spD K C n Fd κc) E (tDA K C G0 Γ E fs κ) σ H Q:=fun σ H Q zz3 hlen=>by
 refine x2_2 zz3 fun A st r q=>?_
 clear zz3
 refine ⟨A,st,r,?_⟩
 unfold dFn R.bind at q
 cases hf:fs st with
 | bad=>rw [hf] at q; exact q
 | ex c p=>rw [hf] at q; exact q
 | ok ds =>
  rw [hf] at q
  dsimp only at q
  intro vs H1 e1 w1
  refine ⟨ds,hlen st ds hf,w1.same Kd.hp_all _,?_⟩
  cases hg:Fd ds with
  | bad=>rw [hg] at q; exact q
  | ex c p=>rw [hg] at q; exact fun H' e'=>q H' (e1.trans e')
  | ok d =>
   rw [hg] at q
   refine fun v H' e' w=>q v H' (e1.trans e') ?_
   cases κc with
   | true =>
    have w':Val K C .new G0 A H1 H' d v:=w
    exact w'.early e1
   | false=>exact w
theorem k8:∀ st ds,aNil st = .ok ds -> ds.length = 0:=fun st ds h=>by cases h; rfl
theorem j3 {n:Nat} (h:∀ st ds,fs st = .ok ds -> ds.length = n):∀ st ds,j2 f fs st = .ok ds -> ds.length = n + 1:=fun st ds q=>by
 unfold j2 R.bind at q
 cases hf:f st with
 | bad=>rw [hf] at q; cases q
 | ex c p=>rw [hf] at q; cases q
 | ok d =>
  rw [hf] at q
  dsimp only at q
  cases hg:fs st with
  | bad=>rw [hg] at q; cases q
  | ex c p=>rw [hg] at q; cases q
  | ok ds' =>
   rw [hg] at q; cases q
   rw [List.length_cons,h st _ hg]
theorem kz9 {X:Cx} {x:Str} {k n:Nat} {ff:Addr} {fd:FuncData} {ps:List Str} {Fd:List D -> R D} {κc:Bool} {p:Pos} (Fn:FnOk X.prog X.w X.K X.mg X.base (CXr X.prog X.w) k ff fd ps (spD X.K C n Fd κc)) (hr:Room k X.A) (hm:X.mg x = some (.ref ff)) (hk:PySem.W.keepIn X.K (.ref ff) = true) (hb:Binds X.K fd ps [])
  (ha:PA (X.wish (Fly X E)) (e :: es) (tDA X.K C G0 Γ E fs κ)) (hlen:∀ st ds,fs st = .ok ds -> ds.length = n) (hg:Gl X x:=by rfl) (hdb:(x == ("__debug__" : Str)) = false:=by decide) (he:starEach (e :: es) X.env = (false,eval e X.env) :: starEach es X.env:=by rfl) (hpl:(backTo pos (starEach es X.env)).any (·.1) = false:=by rfl) :
  PE (X.wish (Fly X E)) (.Call (.Name x p) (e :: es) [] pos) (tD X.K C G0 Γ E (dFn Fd fs) (qa2 κc)):=(ks6 Fn hr hg hm hk hb ha hdb he hpl).imp fun σ H Q q=>kr5 σ H Q q hlen
noncomputable abbrev DB:=D -> DSt -> Option DSt
noncomputable def ja0 (bind:DB) (F:DS):List D -> DSt -> Out
 | [],st=>.nx st
 | d :: ds,st=>match bind d st with
  | none=>.bad
  | some st1=>match F st1 with
   | .nx st'=>ja0 bind F ds st'
   | .ct st'=>ja0 bind F ds st'
   | .bk st'=>.nx st'
   | o=>o
noncomputable abbrev DI:=DSt -> R (List D)
noncomputable def dFor (g:DI) (bind:DB) (F:DS):DS:=fun st=>match g st with | .ok ds=>ja0 bind F ds st | .ex c p=>.ex c p st | .bad=>.bad
noncomputable def jr8 (K:PySem.W.Frag) (C:Cfg) (G0:Hp) (Γ:List SK) (t:TG) (bind:DB):Prop:=∀ (σ:L2.St) (H:Hp) (A:List Addr) (st st1:DSt) (d:D) (v:V) (Q:L2.St -> Hp -> Prop),RS K C G0 Γ σ H A st -> Rep K C (er H A) d v -> bind d st = some st1 ->
 (∀ σ' A',RS K C G0 Γ σ' H A' st1 -> Same (er H A) (er H A') -> (∀ a ∈ A,a ∈ A') -> Q σ' H) -> t v σ H Q
noncomputable def jf5 (i:Nat):DB:=fun d st=>some (st.set i (some d))
noncomputable def jy8 (i j:Nat):DB:=fun d st=>match d with | .tup [a,b]=>some ((st.set i (some a)).set j (some b)) | _=>none
theorem jm7 {K:PySem.W.Frag} {i:Nat} {k:SK} (hk:Γ[i]? = some k:=by rfl) (l:k.takes .old = true:=by rfl):jr8 K C G0 Γ (km0 i) (jf5 i):=fun σ H A st st1 d v Q r w hb q=>by
 cases hb
 refine x1_3 (r.set (.refl _) hk l (κ:=.old) w) fun A' r' e' sb=>?_
 exact q _ A' r' e' sb
theorem km6 {K:PySem.W.Frag} {i j:Nat} {k k':SK} (hk:Γ[i]? = some k:=by rfl) (hj:Γ[j]? = some k':=by rfl) (l:k.takes .old = true:=by rfl) (l':k'.takes .old = true:=by rfl):jr8 K C G0 Γ (gTup K 2 (qd1 (km0 i) (qd1 (km0 j) gNil))) (jy8 i j):=fun σ H A st st1 d v Q r w hb q=>by
 unfold jy8 at hb
 split at hb
 ·rename_i a b
  cases hb
  rw [Rep] at w
  refine x2_3 w fun p xs zo2 h2 h3=>?_
  clear w
  obtain rfl:=zo2
  have h2':=Same.tup (q8 _ _) h2
  rw [Reps] at h3
  obtain ⟨x,r1,rfl,wx,h3⟩:=h3
  rw [Reps] at h3
  obtain ⟨y,r2,rfl,wy,h3⟩:=h3
  rw [Reps] at h3
  subst h3
  refine ⟨p,_,rfl,h2',rfl,x,[y],rfl,y,[],rfl,rfl,?_⟩
  refine x1_3 (r.set (.refl _) hk l (κ:=.old) wx) fun A1 s1 e1 b1=>?_
  refine x1_3 (s1.set (.refl _) hj l' (κ:=.old) (wy.same e1 _)) fun A2 s2 e2 b2=>?_
  exact q _ A2 s2 (e1.trans e2) fun a m=>b2 a (b1 a m)
 ·cases hb
noncomputable def ItOk (K:PySem.W.Frag) (C:Cfg) (A:List Addr) (H1:Hp) (J:It) (ds:List D):Prop:=∀ (i:Nat) (H:Hp) (A':List Addr),Same (er H1 A) (er H A') -> (∀ a ∈ A',H a ≠ none) ->
 (∀ d,ds[i]? = some d -> J.go i H /\ ∀ x H',J.yld i H x H' -> Same H H' /\ Rep K C (er H' A') d x) /\ (ds[i]? = none -> J.stop i H)
theorem jx1 {K:PySem.W.Frag} {J:It} {ds:List D} {bind:DB} {g:TG} {A:List Addr} {H H1:Hp} {σ:L2.St} {st:DSt} {D:Ends} (hB:jr8 K C G0 Γ g bind) (hJ:ItOk K C A H1 J ds) (r:RS K C G0 Γ σ H A st) (e1:Same H H1) (q:match ja0 bind F ds st with
   | .nx st'=>∀ σ' H' A',RS K C G0 Γ σ' H' A' st' -> Same (er H A) (er H' A') -> D.nx σ' H'
   | .bk st'=>∀ σ' H' A',RS K C G0 Γ σ' H' A' st' -> Same (er H A) (er H' A') -> D.bk σ' H'
   | .ct st'=>∀ σ' H' A',RS K C G0 Γ σ' H' A' st' -> Same (er H A) (er H' A') -> D.ct σ' H'
   | .rt d=>∀ v H',Same G0 H' -> RetV K C κr G0 H' d v -> D.rt v H'
   | .ex c p st'=>∀ σ' H' A',RS K C G0 Γ σ' H' A' st' -> Same (er H A) (er H' A') -> exP (E σ') c p H'
   | .bad=>False) :
  ∃ W:Nat -> Nat -> L2.St -> Hp -> Prop,(∃ m,W 0 m σ H1) /\ ∀ i m σ H,W i m σ H ->
   (J.stop i H /\ D.nx σ H) \/ (J.go i H /\ ∃ N:L2.St -> Hp -> Prop,(∀ σ' H',N σ' H' -> ∃ m',m' < m /\ W (i + 1) m' σ' H') /\ ∀ x H',J.yld i H x H' -> g x σ H' fun σ2 H2=>tDS K C G0 Γ E κr F { D with nx:=N,ct:=N,bk:=D.nx } σ2 H2):=by
 refine ⟨fun i m σ' H'=>m = ds.length - i /\ i <= ds.length /\ ∃ A' st',RS K C G0 Γ σ' H' A' st' /\ Same (er H1 A) (er H' A') /\ ja0 bind F (ds.drop i) st' = ja0 bind F ds st,⟨ds.length,rfl,Nat.zero_le _,A,st,r.mono e1,.refl _,rfl⟩,?_⟩
 rintro i m σ3 H3 ⟨rfl,hi,A3,st3,r3,e3,g3⟩
 obtain ⟨hgo,hst⟩:=hJ i H3 A3 e3 (fun a m=>by obtain ⟨xs,q⟩:=r3.lists a m; rw [q]; simp)
 cases hd:ds[i]? with
 | none =>
  have:ds.drop i = []:=List.drop_eq_nil_iff.mpr (List.getElem?_eq_none_iff.mp hd)
  rw [this] at g3
  rw [<- g3] at q
  exact .inl ⟨hst hd,q σ3 H3 A3 r3 ((q0 e1).trans e3)⟩
 | some d =>
  obtain ⟨go,yl⟩:=hgo d hd
  have hlt:i < ds.length:=(List.getElem?_eq_some_iff.mp hd).1
  have hdr:ds.drop i = d :: ds.drop (i + 1):=by
   rw [List.drop_eq_getElem_cons hlt]
   congr 1
   exact (List.getElem?_eq_some_iff.mp hd).2
  refine .inr ⟨go,fun σ' H'=>∃ A' st',RS K C G0 Γ σ' H' A' st' /\ Same (er H1 A) (er H' A') /\ ja0 bind F (ds.drop (i + 1)) st' = ja0 bind F ds st,fun σ' H' zz4=>zz4.elim fun A' zz5=>zz5.elim fun st' zz6=>zz6.elim fun h1 zz7=>zz7.elim fun h2 h3=>⟨ds.length - (i + 1),by lia,rfl,hlt,A',st',h1,h2,h3⟩,fun x H' hy=>?_⟩
  obtain ⟨e4,wx⟩:=yl x H' hy
  rw [hdr,ja0] at g3
  cases hb:bind d st3 with
  | none=>rw [hb] at g3; rw [<- g3] at q; exact q.elim
  | some st4 =>
   rw [hb] at g3
   dsimp only at g3
   refine hB σ3 H' A3 st3 st4 d x _ (r3.mono e4) wx hb fun σ5 A5 r5 e5 _=>⟨A5,st4,r5,?_⟩
   have eall:Same (er H1 A) (er H' A5):=(e3.trans (q0 e4)).trans e5
   cases hf:F st4 with
   | nx st5=>rw [hf] at g3; exact fun σ6 H6 A6 r6 e6=>⟨A6,st5,r6,eall.trans e6,g3⟩
   | ct st5=>rw [hf] at g3; exact fun σ6 H6 A6 r6 e6=>⟨A6,st5,r6,eall.trans e6,g3⟩
   | bk st5=>rw [hf] at g3; rw [<- g3] at q; exact fun σ6 H6 A6 r6 e6=>q σ6 H6 A6 r6 (((q0 e1).trans eall).trans e6)
   | rt d=>rw [hf] at g3; rw [<- g3] at q; exact q
   | ex c p st5=>rw [hf] at g3; rw [<- g3] at q; exact fun σ6 H6 A6 r6 e6=>q σ6 H6 A6 r6 (((q0 e1).trans eall).trans e6)
   | bad=>rw [hf] at g3; rw [<- g3] at q; exact q.elim
noncomputable def iLst (f:DF):DI:=fun st=>match f st with | .ok (.lst ds)=>.ok ds | .ok _=>.bad | .ex c p=>.ex c p | .bad=>.bad
theorem jg1 {tg iter:Expr} {bind:DB} {g:TG} (hp:PassesOwn (model X.prog X.w) X.A X.env X.xe) (hc:X.calm = true) (he:PE X iter (tD X.K C G0 Γ E f κ)) (l:κ.le .old = true) (hg:PG X tg g) (hB:jr8 X.K C G0 Γ g bind) (hb:PSs X ss (tDS X.K C G0 Γ E κr F)) (hs:∀ x,foldedSetIterable iter X.env x = pure x:=by intro _; rfl) :
  PS X (.For tg iter ss [] pos) (tDS X.K C G0 Γ E κr (dFor (iLst f) bind F)):=(kw2 hp hc (qe8 he) hg hb hs).imp fun D σ H zz=>by
 refine x2_2 zz fun A st r q=>?_
 clear zz
 refine ⟨A,st,r,?_⟩
 unfold dFor iLst at q
 cases hf:f st with
 | bad=>rw [hf] at q; exact q.elim
 | ex c p=>rw [hf] at q; exact fun H' e'=>q σ H' A (r.mono e') (q0 e')
 | ok d =>
  rw [hf] at q
  cases d with
  | lst ds =>
   dsimp only at q
   intro v H1 e1 w
   have w':Rep X.K C (er H1 A) (.lst ds) v:=w.le r e1 (κ':=.old) l
   rw [Rep] at w'
   refine x2_3 w' fun a xs zo2 h2 h3=>?_
   clear w'
   obtain rfl:=zo2
   refine ⟨a,rfl,⟨xs,(q8 _ _).seq h2⟩,?_⟩
   refine jx1 hB (fun i H3 A3 e3 _=>⟨fun d hd=>?_,fun hd=>?_⟩) r e1 q
   ·refine x1_2 (h3.get' hd) fun v hv rv=>?_
    have s3:SqL X.K H3 a xs:=(e3.trans (q8 _ _)).seq h2
    refine ⟨⟨xs,v,s3,hv⟩,fun x H' zz8=>?_⟩
    obtain ⟨hH,hx⟩:=zz8
    subst hH
    have:=hx xs s3
    rw [hv] at this; cases this
    exact ⟨.refl _,rv.same ((q8 _ _).trans e3) _⟩
   ·exact ⟨xs,(e3.trans (q8 _ _)).seq h2,by rw [h3.len]; exact List.getElem?_eq_none_iff.mp hd⟩
  | _=>exact q.elim
noncomputable def iRng (fs:DA):DI:=fun st=>match fs st with | .ok [.int j]=>if (decide (-(2 ^ 62) <= j) && decide (j < 2 ^ 62)) = true then .ok ((List.range j.toNat).map fun i=>.int (i:Nat)) else .bad | .ok _=>.bad | .ex c p=>.ex c p | .bad=>.bad
theorem ji9 {tg:Expr} {bind:DB} {g:TG} {p:Pos} (hp:PassesOwn (model X.prog X.w) X.A X.env X.xe) (hc:X.calm = true) (hm:X.mg "range" = none) (ha:PA X [a] (tDA X.K C G0 Γ E fs κ)) (hg:PG X tg g) (hB:jr8 X.K C G0 Γ g bind) (hb:PSs X ss (tDS X.K C G0 Γ E κr F)) (hgl:Gl X "range":=by rfl)
  (hs1:starEach [a] X.env = [(false,eval a X.env)]:=by rfl) (hs:∀ x,foldedSetIterable (.Call (.Name "range" p) [a] [] pos) X.env x = pure x:=by intro _; rfl) {pos':Pos} :
  PS X (.For tg (.Call (.Name "range" p) [a] [] pos) ss [] pos') (tDS X.K C G0 Γ E κr (dFor (iRng fs) bind F)):=(kw2 hp hc (kp4 hgl hm ha hs1) hg hb hs).imp fun D σ H zz=>by
 refine x2_2 zz fun A st r q=>?_
 clear zz
 refine ⟨A,st,r,?_⟩
 unfold dFor at q
 cases hg:iRng fs st with
 | bad=>rw [hg] at q; exact q.elim
 | ex c p =>
  rw [hg] at q
  have hf:fs st = .ex c p:=by
   unfold iRng at hg
   split at hg
   ·split at hg <;> cases hg
   ·cases hg
   ·rename_i z; rw [z]; cases hg; rfl
   ·cases hg
  rw [hf]
  exact fun H' e'=>q σ H' A (r.mono e') (q0 e')
 | ok ds' =>
  rw [hg] at q
  unfold iRng at hg
  split at hg
  ·rename_i j hf
   rw [hf]
   split at hg
   ·rename_i hc
    cases hg
    simp only [Bool.and_eq_true,decide_eq_true_eq] at hc
    intro vs H1 e1 w1
    refine x1_2 (jw0 w1) fun v zo1 wv=>?_
    obtain rfl:=zo1
    obtain rfl:v = .int j:=by rw [Rep] at wv; exact wv
    refine ⟨j,rfl,hc.1,hc.2,?_⟩
    refine jx1 hB (fun i H3 A3 e3 _=>⟨fun d hd=>?_,fun hd=>?_⟩) r e1 q
    ·rw [List.getElem?_map] at hd
     have hi:i < j.toNat:=by
      apply Decidable.byContradiction
      intro hlt
      rw [List.getElem?_eq_none (by simpa using hlt)] at hd
      cases hd
     rw [List.getElem?_range hi] at hd
     cases hd
     refine ⟨hi,fun x H' zz9=>?_⟩
     obtain ⟨hH,hx⟩:=zz9
     subst hH; subst hx
     refine ⟨.refl _,?_⟩
     rw [Rep,Int.zero_add]
    ·show j.toNat <= i
     have:=List.getElem?_eq_none_iff.mp hd
     simpa using this
   ·cases hg
  ·cases hg
  ·cases hg
  ·cases hg
end
end Dm
end T_De6
section T_De7
namespace Dm
open PySem PySem.Spec PyProof.Rows L2
section
variable {X:Cx} {C:Cfg} {G0:Hp} {Γ:List SK} {E:L2.St -> XK} {κr:Bool} {e a b c:Expr} {f fa fb fc:DF} {κ κ' κa κb κc:Kd} {es rest:List Expr} {fs:DA} {pos:Pos} {s:Stmt} {ss:List Stmt} {F G:DS}
noncomputable def je3 (g g':D -> D -> R D) (fa fb fc:DF):DF:=fun st=>(fa st).bind fun a=>(fb st).bind fun b=>(g a b).bind fun z=>match z with
 | .bl true=>(fc st).bind fun c=>g' b c
 | .bl false=>.ok (.bl false)
 | _=>.bad
theorem jt5 {K:PySem.W.Frag} {r2 r2':R2} {g g':D -> D -> R D} (ho:OpD K C r2 g .new) (ho':OpD K C r2' g' .new):∀ σ H Q,tD K C G0 Γ E (je3 g g' fa fb fc) .new σ H Q -> kj4 r2 r2' (tD K C G0 Γ E fa κa) (tD K C G0 Γ E fb κb) (tD K C G0 Γ E fc κc) σ H Q:=fun σ H Q zz=>by
 refine x2_2 zz fun A st r q=>?_
 clear zz
 refine ⟨A,st,r,?_⟩
 unfold je3 R.bind at q
 cases ha:fa st with
 | bad=>rw [ha] at q; exact q
 | ex c p=>rw [ha] at q; exact q
 | ok a =>
  rw [ha] at q
  intro x H1 e1 w1
  refine ⟨A,st,r.mono e1,?_⟩
  dsimp only at q
  cases hb:fb st with
  | bad=>rw [hb] at q; exact q
  | ex c p=>rw [hb] at q; exact fun H' e'=>q H' (e1.trans e')
  | ok b =>
   rw [hb] at q
   intro y H2 e2 w2
   dsimp only at q
   have e12:=e1.trans e2
   refine ho G0 Γ (E σ) σ A st H2 a b x y _ (r.mono e12) (w1.rep.same e2 _) w2.rep ?_
   cases hg:g a b with
   | bad=>rw [hg] at q; exact q
   | ex c p=>rw [hg] at q; exact fun H' e'=>q H' (e12.trans e')
   | ok z =>
    rw [hg] at q
    cases z with
    | bl k =>
     intro v H3 e3 w3
     refine ⟨k,vbl w3,?_⟩
     have e13:=e12.trans e3
     cases k with
     | false=>rw [if_neg Bool.false_ne_true]; exact q _ H3 e13 (.flat r e13 (by rw [noL] <;> simp) repB _)
     | true =>
      rw [if_pos rfl]
      refine ⟨A,st,r.mono e13,?_⟩
      dsimp only at q
      cases hc:fc st with
      | bad=>rw [hc] at q; exact q
      | ex c p=>rw [hc] at q; exact fun H' e'=>q H' (e13.trans e')
      | ok c =>
       rw [hc] at q
       intro w' H4 e4 w4
       dsimp only at q
       refine ho' G0 Γ (E σ) σ A st H4 b c y w' Q (r.mono (e13.trans e4)) (w2.rep.same (e3.trans e4) _) w4.rep ?_
       cases hg':g' b c with
       | bad=>rw [hg'] at q; exact q
       | ex c p=>rw [hg'] at q; exact fun H' e'=>q H' ((e13.trans e4).trans e')
       | ok d=>rw [hg'] at q; exact fun v H' e' w=>q v H' ((e13.trans e4).trans e') (w.early (e13.trans e4))
    | _=>exact q.elim
theorem kd7 {op op':CmpOp} {r2 r2':R2} {g g':D -> D -> R D} (hr:OpR X (compareOp op) r2) (hr':OpR X (compareOp op') r2') (ho:OpD X.K C r2 g .new) (ho':OpD X.K C r2' g' .new) (ha:PE X a (tD X.K C G0 Γ E fa κa)) (hb:PE X b (tD X.K C G0 Γ E fb κb)) (hc:PE X c (tD X.K C G0 Γ E fc κc))
  (hm:lastMarks [op,op'] [b,c] = false:=by with_unfolding_all rfl):PE X (.Compare a [op,op'] [b,c] pos) (tD X.K C G0 Γ E (je3 g g' fa fb fc) .new):=(kq5 hr hr' ha hb hc hm).imp (jt5 ho ho')
theorem kb6 {op op':CmpOp} {r2 r2':R2} {g g':D -> D -> R D} (hr:OpR X (compareOp op) r2) (hr':OpR X (compareOp op') r2') (ho:OpD X.K C r2 g .new) (ho':OpD X.K C r2' g' .new) (ha:PE X a (tD X.K C G0 Γ E fa κa)) (hb:PE X b (tD X.K C G0 Γ E fb κb)) (hc:PE X c (tD X.K C G0 Γ E fc κc))
  (hm:lastMarks [op,op'] [b,c] = false:=by with_unfolding_all rfl):PT X (.Compare a [op,op'] [b,c] pos) (tDT X.K C G0 Γ E (je3 g g' fa fb fc)):=(kr0 hr hr' ha hb hc hm).imp fun σ H Q zz=>by
 refine x2_2 zz fun A st r q=>?_
 clear zz
 refine jt5 ho ho' σ H _ ⟨A,st,r,?_⟩
 cases hf:je3 g g' fa fb fc st with
 | bad=>rw [hf] at q; exact q
 | ex c p=>rw [hf] at q; exact q
 | ok d =>
  rw [hf] at q
  cases d with
  | bl b=>exact fun v H' e' w=>⟨b,vbl w,q H' e'⟩
  | _=>exact q.elim
noncomputable def gNeg:D -> R D:=fun a=>match a with | .int i=>.ok (.int (-i)) | _=>.bad
theorem qm6 (ha:PE X a (tD X.K C G0 Γ E fa κa)):PE X (.UnaryOp .USub a pos) (tD X.K C G0 Γ E (dUn gNeg fa) .new):=(qo9 ql0 ha).imp fun σ H Q zz=>by
 refine x2_2 zz fun A st r q=>?_
 clear zz
 refine ⟨A,st,r,?_⟩
 unfold dUn R.bind at q
 cases ha:fa st with
 | bad=>rw [ha] at q; exact q
 | ex c p=>rw [ha] at q; exact q
 | ok a =>
  rw [ha] at q
  intro x H1 e1 w1
  cases a with
  | int i =>
   have:=w1.rep
   rw [Rep] at this
   exact ⟨i,this,q _ H1 e1 (.flat r e1 (by rw [noL] <;> simp) repI _)⟩
  | _=>exact q.elim
noncomputable def cutD (ds:List D) (lo hi:Option Int):List D:=(ds.drop (HT.sIx ds.length 0 lo)).take (HT.sIx ds.length ds.length hi - HT.sIx ds.length 0 lo)
noncomputable def jo0 (o:Option DF):DSt -> R (Option Int):=fun st=>match o with
 | none=>.ok none
 | some f=>(f st).bind fun d=>match d with | .int i=>.ok (some i) | _=>.bad
noncomputable def dSl (fa:DF) (lo hi:Option DF):DF:=fun st=>(fa st).bind fun a=>(jo0 lo st).bind fun l=>(jo0 hi st).bind fun h=>match a with
 | .lst ds=>if noLs ds = true then .ok (.lst (cutD ds l h)) else .bad
 | _=>.bad
noncomputable def tDO (K:PySem.W.Frag) (C:Cfg) (G0:Hp) (Γ:List SK) (E:L2.St -> XK) (o:Option DF):TO:=fun σ H Q=>∃ A st,RS K C G0 Γ σ H A st /\ match jo0 o st with
 | .ok i=>∀ H',Same H H' -> Q i H'
 | .ex c p=>∀ H',Same H H' -> exP (E σ) c p H'
 | .bad=>False
theorem jg7:PO X none (tDO X.K C G0 Γ E none):=fun pins s σ H Q I zz1=>zz1.elim fun A zz2=>zz2.elim fun st zz3=>zz3.elim fun r q=>qg8 pins s σ H Q I (q H (.refl _))
theorem jg3 (h:PE X e (tD X.K C G0 Γ E f κ)):PO X (some e) (tDO X.K C G0 Γ E (some f)):=fun pins s σ H Q I zz4=>zz4.elim fun A zz5=>zz5.elim fun st zz6=>zz6.elim fun r q=>qa9 h pins s σ H Q I ⟨A,st,r,by
 unfold jo0 R.bind at q
 cases hf:f st with
 | bad=>simp only [hf] at q
 | ex c p=>simp only [hf] at q; exact q
 | ok d =>
  simp only [hf] at q
  cases d with
  | int i=>exact fun v H' e' w=>⟨i,by have:=w.rep; rw [Rep] at this; exact this,q H' e'⟩
  | _=>exact q.elim⟩
theorem kq9 {K:PySem.W.Frag} {H:Hp} {ds:List D} {xs:List V} {lo hi:Option Int} (q:Reps K C H ds xs):Reps K C H (cutD ds lo hi) (cutV xs lo hi):=by
 unfold cutD cutV
 rw [q.len]
 exact (q.drop _).take _
theorem kl2:∀ {ds:List D} (n:Nat),noLs ds = true -> noLs (ds.take n) = true:=fun n h=>Z0 fun d hd=>jb2 h (List.mem_of_mem_take hd)
theorem ko0:∀ {ds:List D} (n:Nat),noLs ds = true -> noLs (ds.drop n) = true:=fun n h=>Z0 fun d hd=>jb2 h (List.mem_of_mem_drop hd)
theorem kq0 {ds es:List D} (h:noLs ds = true) (h':noLs es = true):noLs (ds ++ es) = true:=Z0 fun d hd=>(List.mem_append.mp hd).elim (jb2 h) (jb2 h')
theorem jc9 {lo hi:Option Expr} {fl fh:Option DF} {p2:Pos} (he:PE X e (tD X.K C G0 Γ E fa κa)) (hl:PO X lo (tDO X.K C G0 Γ E fl)) (hu:PO X hi (tDO X.K C G0 Γ E fh)):PE X (.Subscript e (.Slice lo hi none p2) pos) (tD X.K C G0 Γ E (dSl fa fl fh) .new):=(kw0 kz1 he hl hu).imp fun σ H Q zz=>by
 refine x2_2 zz fun A st r q=>?_
 clear zz
 refine ⟨A,st,r,?_⟩
 unfold dSl R.bind at q
 cases ha:fa st with
 | bad=>rw [ha] at q; exact q
 | ex c p=>rw [ha] at q; exact q
 | ok a =>
  rw [ha] at q
  intro x H1 e1 w1
  refine ⟨A,st,r.mono e1,?_⟩
  dsimp only at q
  cases hb:jo0 fl st with
  | bad=>rw [hb] at q; exact q
  | ex c p=>rw [hb] at q; exact fun H' e'=>q H' (e1.trans e')
  | ok l =>
   rw [hb] at q
   intro H2 e2
   refine ⟨A,st,r.mono (e1.trans e2),?_⟩
   dsimp only at q
   cases hc:jo0 fh st with
   | bad=>rw [hc] at q; exact q
   | ex c p=>rw [hc] at q; exact fun H' e'=>q H' ((e1.trans e2).trans e')
   | ok h =>
    rw [hc] at q
    intro H3 e3
    dsimp only at q
    cases a with
    | lst ds =>
     dsimp only at q
     by_cases n:noLs ds = true
     ·rw [if_pos n] at q
      refine x2_3 ((w1.rep.same (e2.trans e3) _).items) fun p xs zo2 h2 h3=>?_
      obtain rfl:=zo2
      have e13:=(e1.trans e2).trans e3
      refine ⟨p,xs,rfl,h2,fun l' hl'=>q _ _ (e13.trans (U6 hl')) (.lst r e13 hl' ?_)⟩
      exact (kq9 h3).part (.nw e13) _ (kl2 _ (ko0 _ n))
     ·rw [if_neg n] at q; exact q.elim
    | _=>exact q.elim
noncomputable def qn0 (K:PySem.W.Frag):R2:=fun x y H Q=>∃ l b xs zs,x = .ref l /\ y = .ref b /\ SqL K H l xs /\ SqL K H b zs /\ xs.length + zs.length <= sizeLine /\ ∀ p,H p = none -> Q (.ref p) (upd H p (.lst (xs ++ zs)))
theorem jl3:OpR X (binaryOp .Add) (qn0 X.K):=by
 intro pins s σ H x y v u Q I rx ry h
 refine x4_6 h fun l b xs zs zo4 zo5 hH hB hz q=>?_
 clear h
 obtain rfl:=zo4
 obtain rfl:=zo5
 cases rx
 cases ry
 refine x1_3 (I.list hH) fun its r p1 _=>?_
 refine x1_3 (I.list hB) fun its2 r2 p2 _=>?_
 obtain ⟨⟨cls,dd,data,sl⟩,ho,hc,n,hd⟩:=id p1.isList
 obtain ⟨⟨cls2,dd2,data2,sl2⟩,ho2,hc2,n2,hd2⟩:=id p2.isList
 simp only at hc hd hc2 hd2
 subst hc hd hc2 hd2
 have l1:=r.length
 have l2:=r2.length
 refine concat_meets ⟨_,ho,rfl⟩ ⟨_,ho2,rfl⟩ noFill_list_add seq_list_add PySem.F.slot_list_add PySem.F.entry_list_add (PySem.F.args_list_add_2 _ _) (list_addW l b its.toArray its2.toArray n n2 dd dd2 sl sl2 (by simp; lia)) ⟨ho,ho2,?_⟩
 have ea:its.toArray ++ its2.toArray = (its ++ its2).toArray:=by simp
 rw [ea]
 exact ⟨.ref _,_,I.lnew (t':=s.toks) (r.append r2) (by rw [List.length_append]; lia),rfl,q _ I.fresh⟩
noncomputable def gCat:D -> D -> R D:=fun a b=>match a,b with
 | .lst ds,.lst es=>if (noLs ds && noLs es && decide (ds.length + es.length <= 1000)) = true then .ok (.lst (ds ++ es)) else .bad
 | _,_=>.bad
theorem jl5 {K:PySem.W.Frag}:OpD K C (qn0 K) gCat .new:=fun G0 Γ E σ A st H a b x y Q r qa qb q=>by
 cases hg:gCat a b with
 | bad=>rw [hg] at q; exact q.elim
 | ex c p=>unfold gCat at hg; split at hg <;> (try split at hg) <;> cases hg
 | ok d =>
  rw [hg] at q
  unfold gCat at hg
  split at hg
  ·rename_i ds es
   split at hg
   ·rename_i hc
    cases hg
    simp only [Bool.and_eq_true,decide_eq_true_eq] at hc
    refine x2_3 qa.items fun p xs zo2 h2 h3=>?_
    obtain rfl:=zo2
    refine x2_3 qb.items fun p' ys zo2 h2' h3'=>?_
    obtain rfl:=zo2
    refine ⟨p,p',xs,ys,rfl,rfl,h2,h2',?_,fun l hl=>q _ _ (U6 hl) (.lst r (.refl _) hl ?_)⟩
    ·rw [h3.len,h3'.len]
     have:1000 <= sizeLine:=by rw [sizeLine_eq]; decide
     lia
    ·exact (h3.app h3').part (.nw (.refl _)) _ (kq0 hc.1.1 hc.1.2)
   ·cases hg
  ·cases hg
noncomputable def rowI:D -> Option (List Int)
 | .tup ds=>ds.mapM fun d=>match d with | .int i=>some i | _=>none
 | _=>none
theorem qf5:∀ {d:D} {ns:List Int},rowI d = some ns -> d = .tup (ns.map D.int)
 | .tup ds,ns,h=>by
  rw [rowI] at h
  congr 1
  revert ns
  induction ds with
  | nil=>intro ns h; simp at h; subst h; rfl
  | cons d ds ih =>
   intro ns h
   rw [List.mapM_cons] at h
   cases d with
   | int i =>
    dsimp only at h
    cases hm:ds.mapM fun d=>match d with | .int i=>some i | _=>(none:Option Int) with
    | none=>rw [hm] at h; cases h
    | some ms =>
     rw [hm] at h
     have h':i :: ms = ns:=Option.some.inj h
     subst h'
     rw [List.map_cons,<- ih ms hm]
   | _=>cases h
noncomputable def kh1 (ds:List D):Option (List (List Int)):=ds.mapM rowI
theorem ka0:∀ {ds:List D} {nss:List (List Int)},kh1 ds = some nss -> ds = nss.map fun ns=>.tup (ns.map D.int)
 | [],nss,h=>by
  have h':some [] = some nss:=h
  cases h'; rfl
 | d :: ds,nss,h=>by
  unfold kh1 at h
  rw [List.mapM_cons] at h
  cases hd:rowI d with
  | none=>rw [hd] at h; cases h
  | some ns =>
   rw [hd] at h
   cases hm:ds.mapM rowI with
   | none=>rw [hm] at h; cases h
   | some ms =>
    rw [hm] at h
    have h':ns :: ms = nss:=Option.some.inj h
    subst h'
    rw [List.map_cons,<- ka0 (ds:=ds) hm,qf5 hd]
noncomputable def jh4 (nss:List (List Int)):Bool:=match nss with | []=>true | ns :: _=>decide (ns.length ≠ 0) && nss.all fun ms=>decide (ms.length = ns.length)
theorem jx5 {nss:List (List Int)} (h:jh4 nss = true):Rows nss:=by
 cases nss with
 | nil=>exact ⟨0,fun ns hm=>by cases hm⟩
 | cons ns nss =>
  unfold jh4 at h
  rw [Bool.and_eq_true] at h
  have h1:ns.length ≠ 0:=by simpa using h.1
  refine ⟨ns.length - 1,fun ms hm=>?_⟩
  have:=List.all_eq_true.mp h.2 ms hm
  have:ms.length = ns.length:=by simpa using this
  lia
noncomputable def dRow (ns:List Int):D:=.tup (ns.map D.int)
theorem qa8 (ns:List Int):noL (dRow ns) = true:=by
 unfold dRow
 rw [noL]
 exact Z0 fun d hd=>by
  refine x1_2 (List.mem_map.mp hd) fun n _ zo2=>?_
  obtain rfl:=zo2
  rw [noL] <;> simp
theorem kl3 (nss:List (List Int)):noLs (nss.map dRow) = true:=Z0 fun d hd=>by
 refine x1_2 (List.mem_map.mp hd) fun n _ zo2=>?_
 obtain rfl:=zo2
 exact qa8 n
noncomputable def dd {α:Type} [DecidableEq α]:List α -> List α
 | []=>[]
 | x :: xs=>if x ∈ xs then dd xs else x :: dd xs
theorem jp1 {α:Type} [DecidableEq α] {x:α}:∀ {xs:List α},x ∈ dd xs ↔ x ∈ xs
 | []=>Iff.rfl
 | y :: ys=>by
  rw [dd]
  split
  ·rename_i h
   rw [jp1,List.mem_cons]
   constructor
   ·exact .inr
   ·rintro (rfl | q)
    ·exact h
    ·exact q
  ·rw [List.mem_cons,List.mem_cons,jp1]
theorem jk3 {α:Type} [DecidableEq α]:∀ (xs:List α),(dd xs).Nodup
 | []=>.nil
 | y :: ys=>by
  rw [dd]
  split
  ·exact jk3 ys
  ·rename_i h
   exact List.nodup_cons.mpr ⟨fun q=>h (jp1.mp q),jk3 ys⟩
noncomputable def jc2:D -> R D:=fun a=>match a with
 | .lst es=>match kh1 es with
  | some nss=>if (jh4 nss && decide (nss.length <= 50)) = true then .ok (.lst (ja3 ((dd nss).map dRow))) else .bad
  | none=>.bad
 | _=>.bad
theorem jz3 {ds es:List D} (hs:∀ a ∈ ds,∀ b ∈ ds,shp a b = true) (hp:es.Perm ds):ja3 es = ja3 ds:=jd9 hs ((Q8 es).trans hp) (jj5 es)
end
end Dm
end T_De7
section T_De8
namespace Dm
open PySem PySem.Spec PyProof.Rows L2
section
variable {X:Cx} {C:Cfg} {G0:Hp} {Γ:List SK} {E:L2.St -> XK} {κr:Bool} {e a b c:Expr} {f fa fb fc:DF} {κ κ' κa κb κc:Kd} {es rest:List Expr} {fs:DA} {pos:Pos} {s:Stmt} {ss:List Stmt} {F G:DS}
theorem qh9:bootBuiltins "set" = some (.type "set"):=by decide +kernel
theorem jv2:bootBuiltins "sorted" = some (.builtin "sorted"):=by decide +kernel
theorem kv7 {nss:List (List Int)} (h:Rows nss):∀ a ∈ nss.map dRow,∀ b ∈ nss.map dRow,shp a b = true:=fun a ha b hb=>by
 obtain ⟨n,hn⟩:=h
 refine x1_2 (List.mem_map.mp ha) fun x hx zo2=>?_
 obtain rfl:=zo2
 refine x1_2 (List.mem_map.mp hb) fun y hy zo2=>?_
 obtain rfl:=zo2
 unfold dRow
 rw [shp]
 exact jk8 (by rw [hn x hx,hn y hy])
theorem qk1 (l:List (List Int)):(dd l).length <= l.length:=by
 induction l with
 | nil=>exact Nat.le_refl _
 | cons x l ih =>
  rw [dd]
  split
  ·exact Nat.le_succ_of_le ih
  ·rw [List.length_cons,List.length_cons]; lia
theorem kg1 {p1 p2 pos1:Pos} (hh:X.A.handled = none) (hu:X.A.units + 64 < cLine) (hm:X.mg "sorted" = none) (hm2:X.mg "set" = none) (he:PE X e (tD X.K C G0 Γ E f κ)) (hg:Gl X "sorted":=by rfl) (hg2:Gl X "set":=by rfl)
  (h1:starEach [Expr.Call (.Name "set" p2) [e] [] pos1] X.env = [(false,eval (.Call (.Name "set" p2) [e] [] pos1) X.env)]:=by rfl) (h2:starEach [e] X.env = [(false,eval e X.env)]:=by rfl) :
  PE X (.Call (.Name "sorted" p1) [.Call (.Name "set" p2) [e] [] pos1] [] pos) (tD X.K C G0 Γ E (dUn jc2 f) .new):=by
 have P1:PE X (.Call (.Name "set" p2) [e] [] pos1) (tCB (kt6 X C) (kg6 (tD X.K C G0 Γ E f κ) tNil)):=jd6 (kp5 hh hu) hg2 hm2 qh9 (jd4 he jm3 h2) (by decide) (by decide) h2
 have P2:PE X (.Call (.Name "sorted" p1) [.Call (.Name "set" p2) [e] [] pos1] [] pos) (tCB (ko9 X C) (kg6 (tCB (kt6 X C) (kg6 (tD X.K C G0 Γ E f κ) tNil)) tNil)):=Q3 (jw9 hh hu) hg hm jv2 (jd4 P1 jm3 h1) (by decide) (by decide) h1
 refine P2.imp fun σ H Q zz1=>zz1.elim fun A zz2=>zz2.elim fun st zz3=>zz3.elim fun r q=>⟨A,st,r,?_⟩
 unfold dUn R.bind at q
 cases hf:f st with
 | bad=>rw [hf] at q; exact q
 | ex c p=>rw [hf] at q; exact q
 | ok d =>
  rw [hf] at q
  dsimp only at q
  intro v H1 e1 w1
  show kt6 X C [v] H1 (fun x H2=>ko9 X C [x] H2 Q)
  cases hg:jc2 d with
  | bad=>rw [hg] at q; exact q.elim
  | ex c p=>unfold jc2 at hg; split at hg <;> (try split at hg) <;> (try split at hg) <;> cases hg
  | ok d' =>
   rw [hg] at q
   unfold jc2 at hg
   split at hg
   ·rename_i es
    split at hg
    ·rename_i nss hr
     split at hg
     ·rename_i hc
      cases hg
      simp only [Bool.and_eq_true,decide_eq_true_eq] at hc
      have he:=ka0 hr
      have hrow:=jx5 hc.1
      refine ⟨v,nss,rfl,by rw [<- he]; exact w1.rep,hc.2,fun p zs hp hmem nod mm=>?_⟩
      have pz:(zs.map (·.1)).Perm (dd nss):=(List.perm_ext_iff_of_nodup nod (jk3 nss)).mpr fun ns=>by rw [mm ns,jp1]
      have hl:zs.length <= 50:=by
       have h1:=pz.length_eq
       rw [List.length_map] at h1
       have:=qk1 nss
       lia
      have hR:Rows (zs.map (·.1)):=by
       obtain ⟨n,hn⟩:=hrow
       exact ⟨n,fun ns h=>hn ns ((mm ns).mp h)⟩
      have e2:Same H1 (upd H1 p (.ext (SObj X.prog X.w p zs))):=U6 hp
      refine ⟨p,zs,rfl,J2,fun z hz=>Same.tup e2 (hmem z hz),hl,hR,fun p' ws es' hp' pe' rw'=>?_⟩
      have e13:=e1.trans e2
      refine q _ _ (e13.trans (U6 hp')) (.lst r e13 hp' ?_)
      have hs:ja3 (es'.map dRow) = ja3 ((dd nss).map dRow):=jz3 (kv7 (by obtain ⟨n,hn⟩:=hrow; exact ⟨n,fun ns h=>hn ns (jp1.mp h)⟩)) ((pe'.trans pz).map _)
      have rw2:Reps X.K C (upd H1 p (.ext (SObj X.prog X.w p zs))) (ja3 ((dd nss).map dRow)) ws:=by rw [<- hs]; exact rw'
      exact rw2.part (.nw e13) _ (Z0 fun d hd=>jb2 (kl3 _) ((Q8 _).mem_iff.mp hd))
     ·cases hg
    ·cases hg
   ·cases hg
theorem Reps.set {K:PySem.W.Frag} {H:Hp} {d:D} {v:V} (w:Rep K C H d v):∀ {ds:List D} {xs:List V} (j:Nat),Reps K C H ds xs -> Reps K C H (ds.set j d) (xs.set j v)
 | [],_,j,q=>by rw [Reps] at q; subst q; simp [Reps]
 | d' :: ds,_,0,q=>by
  rw [Reps] at q
  refine x2_3 q fun v' r zo2 h1 h2=>?_
  clear q
  obtain rfl:=zo2
  exact .cons w h2
 | d' :: ds,_,j + 1,q=>by
  rw [Reps] at q
  refine x2_3 q fun v' r zo2 h1 h2=>?_
  clear q
  obtain rfl:=zo2
  exact .cons h1 (Reps.set w j h2)
noncomputable def dPar (i j:Nat) (fs:DA):DS:=fun st=>match fs st with | .ok [a,b]=>.nx ((st.set i (some a)).set j (some b)) | .ok _=>.bad | .ex c p=>.ex c p st | .bad=>.bad
theorem ky0 {i j:Nat} {x y:Str} {k k':SK} {px py pt:Pos} {kt k2 pt2} (hc:X.calm = true) (hN:X.N.Nodup) (ha:PA X [a,b] (tDA X.K C G0 Γ E fs .new)) (hij:i ≠ j) (hk:Γ[i]? = some k:=by rfl) (hk':Γ[j]? = some k':=by rfl)
  (hl:k.takes .old = true:=by rfl) (hl':k'.takes .old = true:=by rfl) (hi:X.N[i]? = some x:=by rfl) (hj:X.N[j]? = some y:=by rfl) (hx:X.env.scope.names.lookup x = some .local:=by rfl) (hy:X.env.scope.names.lookup y = some .local:=by rfl)
  (hw:swappedStores [.Tuple [.Name x px,.Name y py] kt pt] (.Tuple [a,b] k2 pt2) X.env = pure (some [x,y]):=by rfl)
  (hs:swapsWithSole [.Tuple [.Name x px,.Name y py] kt pt] (.Tuple [a,b] k2 pt2) pos.line X.env = pure false:=by rfl) :
  PS X (.Assign [.Tuple [.Name x px,.Name y py] kt pt] (.Tuple [a,b] k2 pt2) pos) (tDS X.K C G0 Γ E κr (dPar i j fs)):=(qi1 hc hN hi hj hij hx hy ha hw hs).imp fun D σ H zz=>by
 refine x2_2 zz fun A st r q=>?_
 clear zz
 refine ⟨A,st,r,?_⟩
 unfold dPar at q
 cases hf:fs st with
 | bad=>rw [hf] at q; exact q
 | ex c p=>rw [hf] at q; exact fun H' e'=>q σ H' A (r.mono e') (q0 e')
 | ok ds =>
  rw [hf] at q
  match ds,q with
  | [a,b],q =>
   intro vs H1 e1 w
   rw [Reps] at w
   obtain ⟨v,r1,rfl,wa,w⟩:=w
   obtain ⟨v',rfl,wb⟩:=jw0 w
   refine ⟨v,v',rfl,?_⟩
   have wa':Rep X.K C (er H1 A) a v:=wa.same (r.new_er e1) _
   have wb':Rep X.K C (er H1 A) b v':=wb.same (r.new_er e1) _
   refine x1_3 ((r.mono e1).set (.refl _) hk hl (κ:=.old) wa') fun A1 s1 ee1 _=>?_
   refine x1_3 (s1.set (.refl _) hk' hl' (κ:=.old) (wb'.same ee1 _)) fun A2 s2 ee2 _=>?_
   exact q _ _ A2 s2 (((q0 e1).trans ee1).trans ee2)
  | [],q=>exact q.elim
  | [_],q=>exact q.elim
  | _ :: _ :: _ :: _,q=>exact q.elim
noncomputable def kf1 (bind:DB) (f:DF):DS:=fun st=>match f st with | .ok d=>(match bind d st with | some st'=>.nx st' | none=>.bad) | .ex c p=>.ex c p st | .bad=>.bad
theorem qa3 {tg:Expr} {g:TG} {bind:DB} (he:PE X e (tD X.K C G0 Γ E f κ)) (l:κ.le .old = true) (hg:PG X tg g) (hB:jr8 X.K C G0 Γ g bind) (hs:swapsWithSole [tg] e pos.line X.env = pure false:=by rfl) (hw:swappedStores [tg] e X.env = pure none:=by rfl)
  (h1:(assignEach [tg] X.env).map (·.2) = [assign tg X.env]:=by rfl):PS X (.Assign [tg] e pos) (tDS X.K C G0 Γ E κr (kf1 bind f)):=(qo2 he hg hs hw h1).imp fun D σ H zz=>by
 refine x2_2 zz fun A st r q=>?_
 clear zz
 refine ⟨A,st,r,?_⟩
 unfold kf1 at q
 cases hf:f st with
 | bad=>rw [hf] at q; exact q
 | ex c p=>rw [hf] at q; exact fun H' e'=>q σ H' A (r.mono e') (q0 e')
 | ok d =>
  rw [hf] at q
  dsimp only at q
  intro v H1 e1 w
  cases hb:bind d st with
  | none=>rw [hb] at q; exact q.elim
  | some st' =>
   rw [hb] at q
   exact hB σ H1 A st st' d v _ (r.mono e1) (w.le r e1 (κ':=.old) l) hb fun σ' A' r' e' _=>q σ' H1 A' r' ((q0 e1).trans e')
noncomputable def PStr (X:Cx) (P:L2.St -> Prop) (n:Nat) (e:Expr):Prop:=∀ (pins:List (Addr × Obj)) (s:Shared) (σ:L2.St) (H:Hp) (Q:Value -> Shared -> Prop) (Ex:Value -> Shared -> Prop),L2.Inv X pins σ H s -> P σ -> (∀ x t s',L2.Inv X pins σ H s' -> x.length <= n -> Q (.str x t) s') -> wpAny (model X.prog X.w) X.A (eval e X.env) Q Ex s
theorem W5 {P:L2.St -> Prop} {x:Str} {j} {n:Nat} (h:x.length <= n:=by decide):PStr X P n (.Constant (.str x) j pos):=fun pins s σ H Q Ex I p q=>Calls.Constant_str (q _ _ _ (I.tok _) h)
theorem jj7 {P:L2.St -> Prop} {x:Str} {i:Int} {t:Tok} {n:Nat} {p:Pos} (hm:X.mg x = some (.int i t)) (hs:i.natAbs.log2 < 1920) (hl:(toString i:Str).length <= n) (hg:Gl X x:=by rfl) (hd:(x == ("__debug__" : Str)) = false:=by decide):PStr X P n (.FormattedValue (.Name x p) (-1) none pos):=fun pins s σ H Q Ex I pp q =>
 FormattedValue_plain (ji2 I hg hm (formatField_int_small hs (q _ _ _ (I.tok _) hl)) hd)
end
end Dm
end T_De8
section T_Tr
namespace Dm
open PySem PySem.Spec PyProof.Rows L2 PySem.W
noncomputable def PS0 (X:Cx) (st:Stmt) (t:TS):Prop:=∀ (s:Shared) (σ:L2.St) (H:Hp) (D:Ends),L2.Inv X [] σ H s -> t D σ H -> wpAny (model X.prog X.w) X.A (exec st X.env) (SP X [] D) X.xe s
noncomputable def PSs0 (X:Cx) (st:List Stmt) (t:TS):Prop:=∀ (s:Shared) (σ:L2.St) (H:Hp) (D:Ends),L2.Inv X [] σ H s -> t D σ H -> wpAny (model X.prog X.w) X.A (execs st X.env) (SP X [] D) X.xe s
theorem _root_.L2.PS.zero {X:Cx} {st:Stmt} {t:TS} (h:PS X st t):PS0 X st t:=fun s σ H D I q=>h [] s σ H D I q
theorem _root_.L2.PSs.zero {X:Cx} {st:List Stmt} {t:TS} (h:PSs X st t):PSs0 X st t:=fun s σ H D I q=>h [] s σ H D I q
noncomputable abbrev inH (X:Cx) (e:Value):Cx:={ X with A:=X.A.mark (some e),calm:=false,xe:=fun _ _=>False }
section
variable {X:Cx} {e:Value} {pins:List (Addr × Obj)} {σ:L2.St} {H:Hp} {s:Shared}
theorem qh3 (ok:X.Ok):(inH X e).Ok:=⟨ok.mod,ok.kind,ok.glob,ok.blt,ok.above,ok.inj,ok.has,ok.cab,fun z=>(nomatch z),ok.frames,ok.stk,ok.exf,ok.bs,ok.bsz,ok.noex,ok.exfs,ok.funs,ok.frf⟩
theorem ki4 (I:L2.Inv X pins σ H s):L2.Inv (inH X e) pins σ H s:=⟨qh3 I.ok,I.os,I.bare,I.base,I.loc,I.cell,I.free,I.freeC,I.pin,I.hok,I.len⟩
theorem kt0 (ok:X.Ok) (I:L2.Inv (inH X e) pins σ H s):L2.Inv X pins σ H s:=⟨ok,I.os,I.bare,I.base,I.loc,I.cell,I.free,I.freeC,I.pin,I.hok,I.len⟩
theorem kx7 {a:Addr} {cls a0:Value} {h B h2:Heap} {s':Shared} (I:L2.Inv X [] σ H { s' with heap:=h }) (cv:Cov X.stack B h) (up:h.UpToSlots h2) {φ:Heap -> Prop} (fl:Heap.FlyingW B X.stack a cls a0 h2) (hφ:φ h2) (hst:∀ h1 h2,φ h1 -> (∀ o,h1.get? a = some o -> h2.get? a = some o) -> φ h2) :
  H a = none /\ L2.Inv X [] σ (upd H a (.ext φ)) { s' with heap:=h2 }:=by
 refine x2_4 fl.first fun oe vs he hc hd _=>?_
 have fr:∀ b,b ∈ frs X.stack -> ∃ o,h.get? b = some o /\ ∀ vs,o.data ≠ .fields vs:=fun b hb=>(I.stack.mem hb).2
 have nh:h.get? a = none:=by
  cases hq:h.get? a with
  | none=>rfl
  | some o =>
   by_cases hf:a ∈ frs X.stack
   ·refine x1_2 (fr a hf) fun o' ho' hn=>?_
    obtain ⟨sl,e2⟩:=up a o' ho' hn
    rw [he] at e2; cases e2
    exact absurd hd (hn vs)
   ·have:=cv a o hq hf
    rw [fl.2.1] at this; cases this
 have nH:H a = none:=by
  cases hq:H a with
  | none=>rfl
  | some o =>
   have:=I.hok.lt hq
   have he':(∃ o,h.get? a = some o):=by
    have z:=(I.hok a o hq)
    cases o with
    | lst xs=>obtain ⟨_,_,_,_,e⟩:=z; exact ⟨_,e⟩
    | tup xs=>obtain ⟨_,_,_,o,e,_⟩:=z; exact ⟨_,e⟩
    | dK kvs=>obtain ⟨_,_,_,_,o,_,_,e,_⟩:=z; exact ⟨_,e⟩
    | dT kvs=>obtain ⟨_,_,_,_,o,_,_,e,_⟩:=z; exact ⟨_,e⟩
    | set S n=>obtain ⟨o,_,_,_,e,_⟩:=z; exact ⟨_,e⟩
    | ins C dx fs=>obtain ⟨_,_,_,e,_⟩:=z; exact ⟨_,e⟩
    | own y=>obtain ⟨_,e⟩:=z; exact ⟨_,e⟩
    | xd fs=>obtain ⟨_,⟨_,_,_,e,_⟩,_⟩:=z; exact ⟨_,e⟩
    | rng lo hi=>obtain ⟨_,_,_,e⟩:=z; exact ⟨_,e⟩
    | frz ob u=>obtain ⟨e,_⟩:=z; exact ⟨_,e⟩
    | tbl ps=>exact ⟨_,z⟩
    | met f y=>exact ⟨_,z⟩
    | ext φ=>obtain ⟨_,⟨_,e⟩,_⟩:=z; exact ⟨_,e⟩
   obtain ⟨o',ho'⟩:=he'
   rw [nh] at ho'; cases ho'
 have keep:∀ b o,h.get? b = some o -> b ∉ frs X.stack -> h2.get? b = some o:=fun b o e nf=>fl.1 b o (cv b o e nf)
 have nfr:∀ b o,H b = some o -> b ∉ frs X.stack:=fun b o e hb=>by rw [I.stkFree b hb] at e; cases e
 have hok:HOk X.prog X.w (upd H a (.ext φ)) h2:=fun b u e=>by
  by_cases hb:b = a
  ·subst hb
   rw [J2] at e; cases e
   exact ⟨hφ,⟨oe,he⟩,hst⟩
  ·rw [v5 hb] at e
   refine (I.hok b u e).stay (fun c v hc' q=>keep c v q ?_) (fun c q=>by rw [v5 (v9 q nH)]; exact q) fun c xs q=>by rw [v5 (v9 q nH)]; exact q
   rcases hc' with rfl | hc'
   ·exact nfr _ _ e
   ·exact nfr _ _ hc'
 refine ⟨nH,Inv.call' I (s':={ s' with heap:=h2 }) (ch:=[]) rfl ⟨fun b o e n nf nx=>keep b o e nf,fun b o e n hf nx=>?_,fun b o e n nx=>?_,fun b o e nx=>?_,fun b xs q=>by rw [v5 (v9 q nH)]; exact q,fun b o u q=>by rw [v5 (v9 q nH)]; exact q,fun b ps q=>⟨#[],by rw [v5 (v9 q nH),q]; simp⟩⟩ hok I.bare (fun b z=>absurd z (by simp))⟩
 ·refine x1_2 (fr b hf) fun o' ho' hn=>?_
  have e':h.get? b = some o:=e
  rw [ho'] at e'; cases e'
  exact up b _ ho' hn
 ·have:b ≠ a:=fun z=>by subst z; have e':h.get? b = some o:=e; rw [nh] at e'; cases e'
  rw [v5 this]; exact n
 ·by_cases hf:b ∈ frs X.stack
  ·refine x1_2 (fr b hf) fun o' ho' hn=>?_
   obtain ⟨sl,e2⟩:=up b o' ho' hn
   exact ⟨_,e2⟩
  ·exact ⟨o,keep b o e hf⟩
theorem gone {h':Heap} {m:Str -> Option Value} {t:Nat} (I:L2.Inv X [] σ H s) (hn:h'.Ns X.env.locals m) (hs:Heap.SameBut X.env.locals s.heap h'):L2.Inv X [] (List.replicate X.N.length none) H { s with heap:=h',toks:=t }:=by
 have cne:=I.cne
 have nl:∀ b o,H b = some o -> b ≠ X.env.locals:=fun b o e z=>by subst z; rw [I.free] at e; cases e
 refine ⟨I.ok,I.os,I.bare,⟨fun b o e n hb hx=>?_,fun b o e n hb hx=>?_,I.base.free,fun b o e hx=>?_,I.base.tups,I.base.frzs,I.base.tbls⟩,⟨m,hn,fun i x v e1 e2 e3=>?_⟩,fun y c e=>?_,I.free,I.freeC,fun p hp=>?_,fun b u e=>?_,by simp⟩
 ·exact (hs.2 b (Nat.ne_of_lt (Nat.lt_of_lt_of_le (Heap.lt_size e) I.ok.above))).trans (I.base.keep b o e n hb hx)
 ·obtain ⟨sl,e1⟩:=I.base.slot b o e n hb hx
  exact ⟨sl,(hs.2 b (Nat.ne_of_lt (Nat.lt_of_lt_of_le (Heap.lt_size e) I.ok.above))).trans e1⟩
 ·obtain ⟨o',e1⟩:=I.base.there b o e hx
  exact ⟨o',(hs.2 b (Nat.ne_of_lt (Nat.lt_of_lt_of_le (Heap.lt_size e) I.ok.above))).trans e1⟩
 ·rw [List.getElem?_replicate] at e2
  split at e2 <;> cases e2
 ·obtain ⟨w',z⟩:=I.cell y c e
  exact ⟨w',z.sameBut hs (cne y c e)⟩
 ·refine x0_5 (I.pin p hp) fun e n ne nf d=>?_
  exact ⟨(hs.2 p.1 ne).trans e,n,ne,nf,d⟩
 ·refine (I.hok b u e).stay (fun c v hc q=>(hs.2 c ?_).trans q) (fun _ q=>q) fun _ _ q=>q
  rcases hc with rfl | hc
  ·exact nl _ _ e
  ·exact nl _ _ hc
end
noncomputable def xTag (c:Addr):Nat:=c + 2
noncomputable def pay (p:Option Int):List D:=match p with | none=>[] | some n=>[.int n]
noncomputable def ObX (c:Addr) (p:Option Int) (H:Hp) (a:Addr):Prop:=match p with
 | none=>H a = some (.ext (ClsAt a (.ref c)))
 | some n=>∃ dx,H a = some (.ext (ClsX a c dx)) /\ H dx = some (.xd [("at",.int n)])
noncomputable def payV (p:Option Int):List V:=match p with | none=>[] | some n=>[.int n]
theorem ku9 {K:PySem.W.Frag} {C:Cfg} {H:Hp} (p:Option Int):Reps K C H (pay p) (payV p):=by
 cases p with
 | none=>exact .nil
 | some n=>exact .cons (by rw [Rep]) .nil
noncomputable def dTry (F:DS) (hit:Addr -> Bool) (j:Option Nat) (G:DS):DS:=fun st=>match F st with
 | .ex c p st'=>if hit c = true then (match G (match j with | some j=>st'.set j (some (.brd (xTag c) (pay p))) | none=>st') with | .rt d=>.rt d | _=>.bad) else .bad
 | o=>o
noncomputable def IsX (h:Heap) (Ch:Addr):Prop:=∃ nm q N bs bm hdct sn sub ab col dd k0 k1 k2 k3 k5 newId,h.get? Ch = some (excClassObj nm q Ch N bs bm hdct sn sub ab col dd k0 k1 k2 k3 k5 newId) /\ bm.contains (.type "BaseException") = true
theorem qn1 {K:PySem.W.Frag} {Ch:Addr} {Bs newId initId:String} {bm:List Value} (FB:ExcBaseFacts Bs newId initId bm) (hE:exB K Ch bm newId = true) (h:Heap) (Y:K.In h):IsX h Ch:=by
 obtain ⟨tl,N,nm,qn,bs,hdct,sn,sub,ab,col,dd,k0,k1,k2,k3,k5,mN,hC,hNn,hni,T⟩:=(kw8 (mg:=fun _=>some (.ref Ch)) (x:="") Y rfl hE).obj
 exact ⟨nm,qn,N,bs,tl,hdct,sn,sub,ab,col,dd,k0,k1,k2,k3,k5,newId,hC,T.hasType FB.hasBase⟩
theorem qa0 {M:Model} {A:Around} {E:Value -> Shared -> Prop} {s:Shared} {B:Heap} {l:List Env} {a L:Addr} {cls a0:Value} {dx:Option Addr} {Q:Unit -> Shared -> Prop} (hd:Heap.HeldW B l a cls a0 L s.heap) (xd:XD dx a s.heap)
  (hQ:∀ h',Heap.FlyingW B l a cls a0 h' -> s.heap.UpToSlots h' -> XD dx a h' -> Q () { s with heap:=h' }):wpAny M A (setFlight (.ref a) none) Q E s :=
 wpAny_mono (jk0 (Q:=fun u s1=>XD dx a s1.heap -> Q u s1) (E:=E) (jd8 _ _) (wpAny_landsW hd fun h' f u x=>hQ h' f u x) xd) (fun _ _ h=>h.1 h.2) fun _ _ h=>h.1
theorem kz4 {M:Model} {A:Around} {E:Value -> Shared -> Prop} {s:Shared} {B:Heap} {l:List Env} {a:Addr} {cls a0:Value} {dx:Option Addr} {Q:Unit -> Shared -> Prop} (hd:Heap.FlyingW B l a cls a0 s.heap) (xd:XD dx a s.heap)
  (hQ:∀ h',Heap.FlyingW B l a cls a0 h' -> s.heap.UpToSlots h' -> XD dx a h' -> Q () { s with heap:=h' }):wpAny M A (setFlight (.ref a) none) Q E s :=
 wpAny_mono (jk0 (Q:=fun u s1=>XD dx a s1.heap -> Q u s1) (E:=E) (jd8 _ _) (lands_againW hd fun h' f u x=>hQ h' f u x) xd) (fun _ _ h=>h.1 h.2) fun _ _ h=>h.1
section
variable {X:Cx} {C:Cfg} {G0:Hp} {Γ:List SK} {E E0:L2.St -> XK} {κr:Bool} {F G:DS} {pos np hpos:Pos}
theorem kj8 {s:Stmt} {ss:List Stmt} (h1:PS0 X s (tDS X.K C G0 Γ E κr F)) (h2:PSs0 X ss (tDS X.K C G0 Γ E κr G)):PSs0 X (s :: ss) (tDS X.K C G0 Γ E κr (dSeq F G)):=fun s0 σ H D I zz=>by
 refine x2_2 zz fun A st r q=>?_
 clear zz
 refine wpAny_execs_cons (thn (h1 s0 σ H { D with nx:=tDS X.K C G0 Γ E κr G D } I ⟨A,st,r,?_⟩) fun f s1 q1=>?_)
 ·unfold dSeq at q
  cases hf:F st with
  | nx st' =>
   rw [hf] at q
   intro σ' H' A' r' e'
   refine ⟨A',st',r',?_⟩
   dsimp only at q
   cases hg:G st' with
   | nx st2=>rw [hg] at q; exact fun σ2 H2 A2 r2 e2=>q σ2 H2 A2 r2 (e'.trans e2)
   | bk st2=>rw [hg] at q; exact fun σ2 H2 A2 r2 e2=>q σ2 H2 A2 r2 (e'.trans e2)
   | ct st2=>rw [hg] at q; exact fun σ2 H2 A2 r2 e2=>q σ2 H2 A2 r2 (e'.trans e2)
   | rt d=>rw [hg] at q; exact q
   | ex c p st2=>rw [hg] at q; exact fun σ2 H2 A2 r2 e2=>q σ2 H2 A2 r2 (e'.trans e2)
   | bad=>rw [hg] at q; exact q
  | bk st'=>rw [hf] at q; exact q
  | ct st'=>rw [hf] at q; exact q
  | rt d=>rw [hf] at q; exact q
  | ex c p st'=>rw [hf] at q; exact q
  | bad=>rw [hf] at q; exact q
 ·cases f with
  | next =>
   refine x2_2 q1 fun σ' H' I' q=>?_
   clear q1
   exact h2 s1 σ' H' D I' q
  | ret v=>exact q1
  | brk=>exact q1
  | cont=>exact q1
theorem ql1 {cn n:Str} {Ch:Addr} {j:Nat} {body suite:List Stmt} {b₀:Stmt} {hit:Addr -> Bool} (O:Own1 X) (hcalm:X.calm = true) (hN:X.N.Nodup) (hm:X.mg cn = some (.ref Ch)) (hE:∀ h,X.K.In h -> IsX h Ch)
  (hob:∀ (c:Addr) (p:Option Int) (K:Frag) (H:Hp) (a:Addr),ObX c p H a -> C.ob (xTag c) K H a (payV p)) (hhit:∀ c,hit c = true -> kitCls X.K (.ref c) (.ref Ch) = some true) (hk:Γ[j]? = some .par)
  (hb:∀ E,PSs (X.wish (Fly X E)) body (tDS X.K C G0 Γ E κr F)) (hG:∀ a,PSs (inH X (.ref a)) (b₀ :: suite) (tDS X.K C G0 Γ (fun _ _ _ _=>False) κr G))
  (hi:X.N[j]? = some n) (hl:X.env.scope.names.lookup n = some .local) (hg:Gl X cn) (hdb:(cn == ("__debug__" : Str)) = false:=by decide) :
  PS0 (X.wish (Fly X E0)) (.Try body [.ExceptHandler (some (.Name cn np)) (some n) (b₀ :: suite) hpos] [] [] pos) (tDS X.K C G0 Γ E0 κr (dTry F hit (some j) G)):=fun s σ H D I zz=>by
 refine x2_2 zz fun A st r q=>?_
 clear zz
 have ok:X.Ok:=I.ok.unwish
 let E1:L2.St -> XK:=fun σ' cls dx H'=>∃ c p st' A',F st = .ex c p st' /\ cls = .ref c /\ (∀ n,p = some n -> ∃ d,dx = some d /\ H' d = some (.xd [("at",.int n)])) /\ RS X.K C G0 Γ σ' H' A' st'
 have hbody:tDS X.K C G0 Γ E1 κr F { nx:=D.nx,rt:=D.rt,bk:=D.bk,ct:=D.ct } σ H:=by
  refine ⟨A,st,r,?_⟩
  unfold dTry at q
  cases hf:F st with
  | nx st'=>rw [hf] at q; exact q
  | bk st'=>rw [hf] at q; exact q
  | ct st'=>rw [hf] at q; exact q
  | rt d=>rw [hf] at q; exact q
  | bad=>rw [hf] at q; exact q
  | ex c p st' =>
   rw [hf] at q
   cases p with
   | some k=>exact fun σ' H' A' r' e' dx hdx=>⟨c,some k,st',A',hf,rfl,fun n z=>by cases z; exact ⟨dx,rfl,hdx⟩,r'⟩
   | none=>exact fun σ' H' A' r' e'=>⟨c,none,st',A',hf,rfl,fun n z=>(nomatch z),r'⟩
 refine wpAny_Try_except (wpAny_mono (hb E1 [] s σ H _ (I.unwish.wish _) hbody) (fun f s1 q1=>?_) fun ev s1 fly=>?_)
 ·have q1:SP (X.wish (Fly X E1)) [] D f s1:=q1
  have q2:SP (X.wish (Fly X E0)) [] D f s1:=by
   have:=SP.unwish q1
   cases f with
   | next=>obtain ⟨σ',H',I',z⟩:=this; exact ⟨σ',H',I'.wish _,z⟩
   | brk=>obtain ⟨σ',H',I',z⟩:=this; exact ⟨σ',H',I'.wish _,z⟩
   | cont=>obtain ⟨σ',H',I',z⟩:=this; exact ⟨σ',H',I'.wish _,z⟩
   | ret u=>obtain ⟨v,σ',H',I',r',z⟩:=this; exact ⟨v,σ',H',I'.wish _,r',z⟩
  cases f with
  | next=>exact wpAny_execs_nil q2
  | brk=>exact q2
  | cont=>exact q2
  | ret u=>exact q2
 ·refine jp9 (X:=X) O fly fun a cls dx a0 σ1 H1 h B h1 ea I1 e1 xd cv up hd=>?_
  subst ea
  refine qa0 hd xd fun h2 fl2 us2 xd2=>?_
  obtain ⟨c,p,st',A',hf,rfl,hp,r'⟩:=e1
  obtain ⟨φ,hst,hφ,hX⟩ : ∃ φ:Heap -> Prop,(∀ h1 h2,φ h1 -> (∀ o,h1.get? a = some o -> h2.get? a = some o) -> φ h2) /\ (∀ h',Heap.FlyingW B X.stack a (.ref c) a0 h' -> XD dx a h' -> φ h') /\ ∀ H':Hp,H' a = some (.ext φ) -> (∀ d fs,H1 d = some (.xd fs) -> H' d = some (.xd fs)) -> ObX c p H' a:=by
   cases p with
   | none =>
    refine ⟨ClsAt a (.ref c),fun h1 h2 ⟨o,h3,h4⟩ k=>⟨o,k o h3,h4⟩,fun h' f _=>f.there,fun H' z _=>z⟩
   | some n =>
    obtain ⟨d,rfl,hd⟩:=hp n rfl
    refine ⟨ClsX a c d,fun h1 h2 ⟨o,h3,h4⟩ k=>⟨o,k o h3,h4⟩,fun h' f x=>?_,fun H' z k=>⟨d,z,k d _ hd⟩⟩
    obtain ⟨oe,vs,g1,g2,g3,_⟩:=f.first
    obtain ⟨o,g4,g5⟩:=x d rfl
    rw [g1] at g4
    cases g4
    exact ⟨oe,g1,g2,g5,vs,g3⟩
  unfold dTry at q
  rw [hf] at q
  dsimp only at q
  by_cases hc:hit c = true
  ·rw [if_pos hc] at q
   have up2:=up.trans us2
   have In:L2.Inv X [] σ1 _ { s1 with heap:=h2 }:=(kx7 I1 cv up2 fl2 (hφ h2 fl2 xd2) hst).2
   obtain ⟨nm,qn,N,bs,tl,hdct,sn,sub,ab,col,dd,k0,k1,k2,k3,k5,newId,hC,hbE⟩:=hE X.base ok.mod.kin
   refine x1_2 fl2.there fun oe he hec=>?_
   have Ih:L2.Inv (inH X (.ref a)) [] σ1 _ { s1 with heap:=h2 }:=ki4 In
   refine wpAny_handleBy_cons (codeAny_handlers_test (ji2 Ih hg hm (jn5 Ih.kIn (In.bk _ _ hC) hbE he hec (hhit c hc) ?_) hdb)) (by intro z; cases z)
   dsimp only
   refine codeAny_handlers_suite_as ?_
   refine kz4 fl2 xd2 fun h3 fl3 us3 xd3=>?_
   obtain ⟨nH,In3⟩:=kx7 I1 cv (up2.trans us3) fl3 (hφ h3 fl3 xd3) hst
   have r3:RS X.K C G0 Γ σ1 (upd H1 a (.ext φ)) A' st':=r'.mono (U6 nH)
   have aA:a ∉ A':=fun m=>by obtain ⟨xs,z⟩:=r'.lists a m; rw [nH] at z; cases z
   have w:Val X.K C .old G0 A' (upd H1 a (.ext φ)) (upd H1 a (.ext φ)) (.brd (xTag c) (pay p)) (.ref a):=by
    show Rep X.K C (er _ A') _ _
    rw [Rep]
    refine ⟨a,payV p,rfl,hob c p _ _ a (hX _ (by rw [w6 aA]; exact J2) fun d fs z=>?_),ku9 p⟩
    have da:d ≠ a:=fun w=>by rw [w,nH] at z; cases z
    rw [w6 (fun m=>by obtain ⟨xs,y⟩:=r'.lists d m; rw [z] at y; cases y),v5 da]
    exact z
   refine x1_3 (r3.set (.refl _) hk rfl w) fun A4 r4 e4 _=>?_
   refine jg8 (v:=.ref a) In3 hN hi (.inl hl) rfl (fun s4 I4=>?_) (.inr hl)
   have hsuite:tDS X.K C G0 Γ (fun _ _ _ _=>False) κr G { nx:=fun _ _=>False,rt:=D.rt } (σ1.set j (some (.ref a))) (upd H1 a (.ext φ)):=by
    refine ⟨A4,_,r4,?_⟩
    cases hgG:G (st'.set j (some (.brd (xTag c) (pay p)))) with
    | rt d=>rw [hgG] at q; exact q
    | nx st5=>rw [hgG] at q; exact q.elim
    | bk st5=>rw [hgG] at q; exact q.elim
    | ct st5=>rw [hgG] at q; exact q.elim
    | ex c p st5=>rw [hgG] at q; exact q.elim
    | bad=>rw [hgG] at q; exact q.elim
   refine wpAny_mono (hG a [] s4 _ _ _ (ki4 I4) hsuite) (fun f s5 q5=>?_) fun x s5 z=>False.elim z
   cases f with
   | next=>obtain ⟨_,_,_,z⟩:=q5; exact z.elim
   | brk=>obtain ⟨_,_,_,z⟩:=q5; exact z.elim
   | cont=>obtain ⟨_,_,_,z⟩:=q5; exact z.elim
   | ret u =>
    refine x3_3 q5 fun v σ5 H5 I5 r5 z=>?_
    clear q5
    dsimp only
    have I5':=kt0 ok I5
    refine x1_2 I5'.loc fun m hn _=>?_
    refine wpAny_nameGoes hl hn (by rw [ok.kind]; rfl) fun h6 m6 hn6 hs6=>?_
    exact ⟨v,_,H5,(gone I5' hn6 hs6).wish _,r5,z⟩
  ·rw [if_neg hc] at q; exact q.elim
end
end Dm
end T_Tr
section T_Lc
namespace Dm
open PySem PySem.Spec PyProof.Rows L2
noncomputable abbrev cCx (X:Cx) (scope:Scope) (cl:List (Str × Addr)) (N':List Str) (fp:List Addr) (s:Shared) (H:Hp) (L:Addr):Cx :=
 { X with N:=N',s₀:=s,H₀:=H,env:=compEnvC scope cl L X.env,outer:=X.stack,ex:=fp,fn:=fun _=>false,pn:=[],xe:=fun _ _=>False }
noncomputable def Cap (X:Cx) (scope:Scope) (cl:List (Str × Addr)):List (Nat × Str) -> Prop
 | []=>True
 | (i,x) :: r=>(X.N[i]? = some x /\ X.env.kindOf x = some .cell /\ cl.lookup x = X.env.cells.lookup x /\ (relabel scope X.env).names.lookup x = some .cell) /\ Cap X scope cl r
theorem Cap.get {X:Cx} {scope:Scope} {cl:List (Str × Addr)}:∀ {l:List (Nat × Str)} {p:Nat × Str},Cap X scope cl l -> p ∈ l -> X.N[p.1]? = some p.2 /\ X.env.kindOf p.2 = some .cell /\ cl.lookup p.2 = X.env.cells.lookup p.2 /\ (relabel scope X.env).names.lookup p.2 = some .cell
 | _ :: _,_,h,.head _=>h.1
 | _ :: _,_,h,.tail _ m=>h.2.get m
section
variable {X:Cx} {pins:List (Addr × Obj)} {σ:L2.St} {H:Hp} {s:Shared} {scope:Scope} {cl:List (Str × Addr)} {N':List Str} {fp:List Addr} {L:Addr}
theorem ql3 (I:L2.Inv X pins σ H s) (hk:scope.kind = .function) (hL:s.heap.objs.size <= L) (hcl:∀ x c,cl.lookup x = some c -> X.env.cells.lookup x = some c) (hhas:∀ x,((relabel scope X.env).names.lookup x = some .cell \/ (relabel scope X.env).names.lookup x = some .free) -> ∃ c,cl.lookup x = some c)
  (hf:∀ b ∈ fp,FpOk X pins H b) (hfs:∀ b ∈ fp,b < s.heap.objs.size):(cCx X scope cl N' fp s H L).Ok where
 mod:=I.ok.mod
 kind:=hk
 glob:=I.ok.glob
 blt:=I.ok.blt
 above:=hL
 inj:=fun x y c h1 h2=>I.ok.inj x y c (hcl _ _ h1) (hcl _ _ h2)
 has:=hhas
 cab:=fun x c z=>(nomatch z)
 hd:=I.ok.hd
 frames:=I.ok.frames
 stk:=.inl rfl
 exf:=fun b hb=>⟨Nat.ne_of_lt (Nat.lt_of_lt_of_le (hfs b hb) hL),fun x c h=>(hf b hb).2.2.2.2.1 x c (hcl _ _ h)⟩
 bs:=I.bs
 bsz:=Nat.le_trans I.ok.bsz I.sz
 noex:=fun b o e hb=>by
  rcases (hf b hb).2.2.2.1 with z | z
  ·exact I.ok.noex b o e z
  ·exact absurd (Nat.lt_of_lt_of_le (Heap.lt_size e) (Nat.le_trans I.ok.bsz z)) (Nat.lt_irrefl _)
 exfs:=fun b hb z=>by
  rcases List.mem_cons.mp (I.stkSub b z) with e | e
  ·exact (hf b hb).2.1 e
  ·exact (hf b hb).2.2.1 e
 funs:=I.stack
 frf:=I.stkFree
noncomputable def inσ {α:Type} (k:Nat) (fr:List Nat) (σ:List (Option α)):List (Option α):=List.replicate k none ++ fr.map fun i=>(σ[i]?).join
theorem kg8 {α:Type} {k:Nat} {fr:List Nat} {σ:List (Option α)} {j:Nat} {v:α} (h:(inσ k fr σ)[j]? = some (some v)):∃ i,k <= j /\ fr[j - k]? = some i /\ σ[i]? = some (some v):=by
 unfold inσ at h
 by_cases hj:j < k
 ·rw [List.getElem?_append_left (by simpa using hj),List.getElem?_replicate,if_pos hj] at h; cases h
 ·rw [List.getElem?_append_right (by simpa using Nat.le_of_not_lt hj),List.length_replicate,List.getElem?_map] at h
  cases hi:fr[j - k]? with
  | none=>rw [hi] at h; cases h
  | some i =>
   rw [hi] at h
   have h':(σ[i]?).join = some v:=Option.some.inj h
   refine ⟨i,Nat.le_of_not_lt hj,rfl,?_⟩
   cases hs:σ[i]? with
   | none=>rw [hs] at h'; cases h'
   | some o=>rw [hs] at h'; rw [show o = some v from h']
theorem ky8 {α:Type} {k:Nat} {fr:List Nat} {σ:List (Option α)} {j i:Nat} {v:α} (hj:k <= j) (hi:fr[j - k]? = some i) (h:σ[i]? = some (some v)):(inσ k fr σ)[j]? = some (some v):=by
 unfold inσ
 rw [List.getElem?_append_right (by simpa using hj),List.length_replicate,List.getElem?_map,hi]
 show some ((σ[i]?).join) = _
 rw [h]; rfl
theorem ky9 {s1:Shared} {H1:Hp} {tgs:List Str} {caps:List (Nat × Str)} {m:Str -> Option Value} (I:L2.Inv X pins σ H s) (ok:(cCx X scope cl (tgs ++ caps.map (·.2)) fp s H L).Ok) (hcap:Cap X scope cl caps) (hcl:∀ x c,cl.lookup x = some c -> X.env.cells.lookup x = some c)
  (ho:s1.os = s.os) (hb:AllBare s1.gens) (un:Un (frs X.stack) fp H H1 s.heap s1.heap) (kc:∀ b o,s.heap.get? b = some o -> s1.heap.get? b = some o) (hn:s1.heap.Ns L m) (hL:H1 L = none) (hfree:∀ x c,cl.lookup x = some c -> H1 c = none) (hok:HOk X.prog X.w H1 s1.heap) :
  L2.Inv (cCx X scope cl (tgs ++ caps.map (·.2)) fp s H L) [] (inσ tgs.length (caps.map (·.1)) σ) H1 s1:=by
 refine ⟨ok,ho,hb,un,⟨m,hn,fun j x v h1 h2 h3=>?_⟩,fun x c h=>?_,hL,hfree,fun p hp=>(by cases hp),hok,(by unfold inσ; simp)⟩
 ·refine x1_3 (kg8 h2) fun i hj hi hs=>?_
  rw [List.getElem?_append_right hj,List.getElem?_map] at h1
  rw [List.getElem?_map] at hi
  cases hc:caps[j - tgs.length]? with
  | none=>rw [hc] at h1; cases h1
  | some p =>
   rw [hc] at h1 hi
   cases h1; cases hi
   refine x0_4 (hcap.get (List.mem_of_getElem? hc)) fun c1 c2 c3 c4=>?_
   refine x1_2 I.loc fun m0 hn0 hl0=>?_
   refine x1_2 (hl0 p.1 p.2 v c1 hs (.inr (.inl c2))) fun u ru lk=>?_
   refine ⟨u,ru,.inr ⟨.inl c4,?_⟩⟩
   rcases lk with ⟨z,_⟩ | ⟨_,c,e1,e2⟩
   ·rw [c2] at z; cases z
   ·refine x1_2 e2 fun o e3 e4=>?_
    clear e2
    exact ⟨c,c3.trans e1,o,kc _ _ e3,e4⟩
 ·obtain ⟨v,q⟩:=I.cell x c (hcl _ _ h)
  refine x1_2 q fun o e3 e4=>?_
  clear q
  exact ⟨v,o,kc _ _ e3,e4⟩
end
end Dm
end T_Lc
section T_Lc2
namespace Dm
open PySem PySem.Spec PyProof.Rows L2
noncomputable abbrev Eno:L2.St -> XK:=fun _ _ _ _=>False
theorem jp8 {X:Cx} {e:Value} {s:Shared} (h:Fly X Eno e s):False:=by
 obtain ⟨_,_,_,_,_,_,_,_,q,_⟩:=h
 exact q
noncomputable def jd0 (bind:DB) (test elt:DF):List D -> DSt -> R (List D)
 | [],_=>.ok []
 | d :: ds,st=>match bind d st with
  | none=>.bad
  | some st1=>match test st1 with
   | .ok (.bl true)=>(match elt st1 with
    | .ok e=>(match jd0 bind test elt ds st1 with | .ok r=>.ok (e :: r) | _=>.bad)
    | _=>.bad)
   | .ok (.bl false)=>jd0 bind test elt ds st1
   | _=>.bad
noncomputable def kc2 (Γ:List SK):Prop:=∀ (i:Nat) (k:SK),Γ[i]? = some k -> k = SK.par
section
variable {K:PySem.W.Frag} {C:Cfg} {G0:Hp} {Γ:List SK} {σ:L2.St} {H H':Hp} {A B:List Addr} {st:DSt}
theorem kk2 {A B:List Addr} (h:∀ a ∈ B,a ∈ A):Same (er H A) (er H B):=fun b o e=>by
 by_cases ha:b ∈ A
 ·rw [Z5 ha] at e; cases e
 ·rw [w6 ha] at e
  rw [w6 fun z=>ha (h b z)]; exact e
theorem RS.fewer (r:RS K C G0 Γ σ H A st) (hΓ:kc2 Γ) (sub:∀ a ∈ B,a ∈ A):RS K C G0 Γ σ H B st where
 base:=r.base.trans (kk2 sub)
 lists:=fun a m=>r.lists a (sub a m)
 len:=r.len
 slot:=fun i d h=>by
  refine x2_3 (r.slot i d h) fun k v h1 h2 h3=>?_
  obtain rfl:=hΓ i k h1
  exact ⟨.par,v,h1,h2,Rep.same (kk2 sub) _ h3⟩
 apart:=fun i j n m p ds es hij g1=>by have:=hΓ i _ g1; cases this
theorem RS.accUpd (r:RS K C G0 Γ σ H A st) (hΓ:kc2 Γ) {a:Addr} {ys:List V} (ha:a ∈ A):RS K C G0 Γ σ (upd H a (.lst ys)) A st:=by
 have ee:er (upd H a (.lst ys)) A = er H A:=by
  funext b
  by_cases mb:b ∈ A
  ·rw [Z5 mb,Z5 mb]
  ·rw [w6 mb,w6 mb,v5 (fun z:b = a=>mb (by rw [z]; exact ha))]
 refine ⟨by rw [ee]; exact r.base,fun b m=>?_,r.len,fun i d h=>?_,fun i j n m p ds es hij g1=>by have:=hΓ i _ g1; cases this⟩
 ·by_cases hb:b = a
  ·subst hb; exact ⟨ys,J2⟩
  ·rw [v5 hb]; exact r.lists b m
 ·refine x2_3 (r.slot i d h) fun k v h1 h2 h3=>?_
  obtain rfl:=hΓ i k h1
  exact ⟨.par,v,h1,h2,by show Rep K C (er _ A) d v; rw [ee]; exact h3⟩
end
noncomputable def part (n:Bool) (H2:Hp) (acc:Addr) (B:List Addr) (H:Hp):Hp:=if n = true then nw H2 (er H [acc]) else er H (acc :: B)
theorem jw1 {n:Bool} {H2 H H':Hp} {acc:Addr} {B:List Addr} (e:Same H H'):Same (part n H2 acc B H) (part n H2 acc B H'):=by
 unfold part; cases n
 ·exact q0 e
 ·exact y4 (q0 e)
theorem kv9 {n:Bool} {H2 H:Hp} {acc:Addr} {B:List Addr} {o:HO}:part n H2 acc B (upd H acc o) = part n H2 acc B H:=by
 have e:∀ A:List Addr,acc ∈ A -> er (upd H acc o) A = er H A:=fun A m=>by
  funext b
  by_cases mb:b ∈ A
  ·rw [Z5 mb,Z5 mb]
  ·rw [w6 mb,w6 mb,v5 (fun z:b = acc=>mb (by rw [z]; exact m))]
 unfold part
 rw [e [acc] (.head _),e (acc :: B) (.head _)]
theorem kg9 {X:Cx} {c:Expr} {ft:DF} {C:Cfg} {G0:Hp} {Γ:List SK} {E:L2.St -> XK} (h:PT X c (tDT X.K C G0 Γ E ft)):∀ (pins:List (Addr × Obj)) (s:Shared) (σ:L2.St) (H:Hp) (Q:Bool -> Hp -> Prop),L2.Inv X pins σ H s -> tDT X.K C G0 Γ E ft σ H Q ->
  wpAny (model X.prog X.w) X.A (forIn [c] true fun c r=>if r = true then do let ok <- isTrue c X.env (eval c X.env); pure (ForInStep.yield ok) else pure (ForInStep.yield r)) (TP X pins σ Q) X.xe s:=fun pins s σ H Q I q=>wpAny_tests_one (h pins s σ H Q I q)
section
variable {X:Cx} {C:Cfg} {G0:Hp} {Γ:List SK} {tg iter elt:Expr} {ifs:List Expr} {scope:Scope} {pos:Pos} {fp:List Addr} {it acc:Addr} {tn:Nat -> Heap -> Prop} {J:It} {g:TG} {bind:DB} {ft fe:DF} {κe:Kd} {n:Bool} {H2:Hp} {B:List Addr} {ds total:List D} {R:Result -> Shared -> Prop}
noncomputable def ju4 (X:Cx) (C:Cfg) (G0:Hp) (Γ:List SK) (acc:Addr) (bind:DB) (ft fe:DF) (n:Bool) (H2:Hp) (B:List Addr) (ds total:List D) (i:Nat) (s:Shared) (σ:L2.St) (H:Hp):Prop :=
 ∃ st ys es,L2.Inv X [] σ H s /\ H acc = some (.lst ys) /\ RS X.K C G0 Γ σ H (acc :: B) st /\ Same H2 (er H [acc]) /\ Reps X.K C (part n H2 acc B H) es ys /\ es.length <= i /\
  ∃ rest,jd0 bind ft fe (ds.drop i) st = .ok rest /\ es ++ rest = total
theorem kj0 (T:Turn X.prog X.w X.K tg J fp it tn) (hcalm:X.calm = true) (hfp:∀ b ∈ fp,b ∈ X.ex /\ b ≠ X.env.locals /\ b ∉ X.fs /\ (∀ x c,X.env.cells.lookup x = some c -> c ≠ b)) (hpn:X.pn = []) (hΓ:kc2 Γ) (hJ:ItOk X.K C B H2 J ds) (hB:jr8 X.K C G0 Γ g bind) (hG:PG (X.wish (Fly X Eno)) tg g)
  (hT:∀ (pins:List (Addr × Obj)) (s:Shared) (σ:L2.St) (H:Hp) (Q:Bool -> Hp -> Prop),L2.Inv (X.wish (Fly X Eno)) pins σ H s -> tDT X.K C G0 Γ Eno ft σ H Q ->
   wpAny (model X.prog X.w) X.A (forIn ifs true fun c r=>if r = true then do let ok <- isTrue c X.env (eval c X.env); pure (ForInStep.yield ok) else pure (ForInStep.yield r)) (TP (X.wish (Fly X Eno)) pins σ Q) (Fly X Eno) s)
  (hE:PE (X.wish (Fly X Eno)) elt (tD X.K C G0 Γ Eno fe κe)) (hn:n = true -> κe = .new) (hn':n = false -> κe.le .old = true) (hacc:H2 acc = none) (few:ds.length <= 1000)
  (fin:∀ s σ H,ju4 X C G0 Γ acc bind ft fe n H2 B ds total ds.length s σ H -> R (.ok .next) s) :
  ∀ s σ H,ju4 X C G0 Γ acc bind ft fe n H2 B ds total 0 s σ H -> tn 0 s.heap -> (∀ b ∈ fp,H b = none) -> codeAny (model X.prog X.w) X.A (.compLoop (.ListComp elt [⟨tg,iter,ifs,0⟩] scope pos) 0 (.ref it) (.ref acc) X.env) R s:=fun s0 σ0 H0 h0 t0 f0=>by
 refine codeAny_loop rfl (fun m s=>∃ i σ H,m = ds.length - i /\ i <= ds.length /\ ju4 X C G0 Γ acc bind ft fe n H2 B ds total i s σ H /\ tn i s.heap /\ ∀ b ∈ fp,H b = none) (fun m s zz4=>?_) ds.length ⟨0,σ0,H0,rfl,Nat.zero_le _,h0,t0,f0⟩
 refine x3_5 zz4 fun i σ H hm hi iv htn hfn=>?_
 clear zz4
 subst hm
 show wpAny _ X.A ((compTurn (.ListComp elt [⟨tg,iter,ifs,0⟩] scope pos) 0 (.ref it) (.ref acc) X.env).onRaise (fun x=>do noteFrame x X.env; theTreesLotGoes x)) _ _ s
 refine wpAny_noted ?_
 rw [compTurn_list]
 obtain ⟨st,ys,es,I,hH,r,e2,rp,hl,rest,hgo,htot⟩:=id iv
 have fpok:∀ {H':Hp},(∀ b ∈ fp,H' b = none) -> ∀ b ∈ fp,FpOk X [] H' b:=fun hn b hb=>⟨hn b hb,(hfp b hb).2.1,(hfp b hb).2.2.1,.inl (hfp b hb).1,(hfp b hb).2.2.2,fun p hp=>by rw [hpn] at hp; cases hp⟩
 have hJi:=hJ i H (acc :: B) (fun b o e=>by
  by_cases hb:b ∈ B
  ·rw [Z5 hb] at e; cases e
  ·rw [w6 hb] at e
   have z:=e2 b o e
   by_cases ha:b = acc
   ·subst ha; rw [hacc] at e; cases e
   ·rw [w6 (by simpa using ha)] at z
    rw [w6 (by simp [ha,hb])]; exact z) (fun a m=>by obtain ⟨xs,q⟩:=r.lists a m; rw [q]; simp)
 cases hd:ds[i]? with
 | none =>
  have hge:=List.getElem?_eq_none_iff.mp hd
  obtain rfl:i = ds.length:=Nat.le_antisymm hi hge
  refine wpAny_bind (wpAny_standAt (wpAny_bind (wpAny_mono (T.done X rfl rfl rfl hcalm _ [] s σ H _ I (fpok hfn) htn (hJi.2 hd)) (fun rr s1 zz5=>?_) fun _ _ h=>h)))
  obtain ⟨hr,I1⟩:=zz5
  subst hr
  exact wpAny_pure (fin s1 σ H ⟨st,ys,es,I1,hH,r,e2,rp,hl,rest,hgo,htot⟩)
 | some d =>
  have hlt:i < ds.length:=(List.getElem?_eq_some_iff.mp hd).1
  have hdr:ds.drop i = d :: ds.drop (i + 1):=by
   rw [List.drop_eq_getElem_cons hlt]
   congr 1
   exact (List.getElem?_eq_some_iff.mp hd).2
  rw [hdr,jd0] at hgo
  obtain ⟨go,yl⟩:=hJi.1 d hd
  refine wpAny_bind (wpAny_standAt (wpAny_bind (wpAny_mono (T.item X rfl rfl rfl hcalm i [] s σ H _ I (fpok hfn) htn go) (fun rr s1 zz6=>?_) fun _ _ h=>h)))
  refine x1_2 zz6 fun u hr h1=>?_
  clear zz6
  subst hr
  refine wpAny_bind (wpAny_mono h1 (fun _ s3 zz7=>?_) fun _ _ h=>h)
  refine x2_5 zz7 fun x H3 I3 rx hy tn3 fn3=>?_
  clear zz7
  obtain ⟨e3,wx⟩:=yl x H3 hy
  have I3p:=I3.pinned (fpok fn3) (T.obj _ _ tn3)
  cases hb:bind d st with
  | none=>rw [hb] at hgo; cases hgo
  | some st1 =>
   rw [hb] at hgo
   dsimp only at hgo
   have r3:=r.mono e3
   refine wpAny_bind (wpAny_mono (hG _ s3 σ H3 x u (fun σ4 H4=>H4 = H3 /\ ∃ A4,RS X.K C G0 Γ σ4 H3 A4 st1 /\ ∀ a ∈ acc :: B,a ∈ A4) (I3p.wish _) rx (hB σ H3 (acc :: B) st st1 d x _ r3 wx hb fun σ4 A4 r4 _ sb=>⟨rfl,A4,r4,sb⟩)) (fun _ s4 zz8=>?_) fun _ _ h=>(jp8 h).elim)
   obtain ⟨σ4,H4,I4,hH4,A4,r4,sb⟩:=zz8
   subst hH4
   have r4':=r4.fewer hΓ sb
   have hH3:H4 acc = some (.lst ys):=e3 _ _ hH
   have again:∀ {s9:Shared} {σ9:L2.St} {H9:Hp},L2.Inv X ([] ++ jv5 fp s3.heap) σ9 H9 s9 -> ju4 X C G0 Γ acc bind ft fe n H2 B ds total (i + 1) s9 σ9 H9 -> ∃ m,m < ds.length - i /\ ∃ i' σ' H',m = ds.length - i' /\ i' <= ds.length /\ ju4 X C G0 Γ acc bind ft fe n H2 B ds total i' s9 σ' H' /\ tn i' s9.heap /\ ∀ b ∈ fp,H' b = none:=fun {s9 σ9 H9} I9 c9=>by
    refine ⟨ds.length - (i + 1),by lia,i + 1,σ9,H9,rfl,hlt,c9,T.keep _ _ _ tn3 fun b hb o e=>(I9.pin (b,o) (List.mem_append_right _ (List.mem_append_right _ (je7 hb e)))).1,fun b hb=>?_⟩
    refine x1_2 (T.obj _ _ tn3 b hb) fun o e _=>?_
    exact (I9.pin (b,o) (List.mem_append_right _ (List.mem_append_right _ (je7 hb e)))).2.1
   have ep:Same H2 (er H4 [acc]):=e2.trans (q0 e3)
   refine wpAny_bind (wpAny_mono (hT _ s4 σ4 H4 (fun b H5=>Same H4 H5 /\ ft st1 = .ok (.bl b)) I4 ⟨acc :: B,st1,r4',?_⟩) (fun ok s5 zz9=>zz9.elim fun H5 zz10=>zz10.elim fun I5 zz11=>zz11.elim fun e5 hok=>?_) fun _ _ h=>(jp8 h).elim)
   ·cases hf:ft st1 with
    | bad=>rw [hf] at hgo; cases hgo
    | ex c p=>rw [hf] at hgo; cases hgo
    | ok t =>
     rw [hf] at hgo
     cases t with
     | bl b=>exact fun H' e'=>⟨e',rfl⟩
     | _=>cases hgo
   ·rw [hok] at hgo
    have ep5:=ep.trans (q0 e5)
    cases ok with
    | false =>
     dsimp only at hgo
     exact wpAny_pure ⟨rfl,again I5.unwish ⟨st1,ys,es,(I5.unwish).pins_of (fun p hp=>by cases hp),e5 _ _ hH3,r4'.mono e5,ep5,rp.same (jw1 (e3.trans e5)) _,by lia,rest,hgo,htot⟩⟩
    | true =>
     dsimp only at hgo
     cases hfe:fe st1 with
     | bad=>rw [hfe] at hgo; cases hgo
     | ex c p=>rw [hfe] at hgo; cases hgo
     | ok de =>
      rw [hfe] at hgo
      dsimp only at hgo
      refine wpAny_bind (wpAny_bind (wpAny_mono (hE _ s5 σ4 H5 (fun v H6=>Same H5 H6 /\ Val X.K C κe G0 (acc :: B) H5 H6 de v) I5 ⟨acc :: B,st1,r4'.mono e5,?_⟩) (fun ue s6 zz12=>zz12.elim fun v zz13=>zz13.elim fun H6 zz14=>zz14.elim fun I6 zz15=>zz15.elim fun rv zz16=>zz16.elim fun e6 wv=>?_) fun _ _ h=>(jp8 h).elim))
      ·rw [hfe]; exact fun v H' e' w=>⟨e',w⟩
      ·have e56:=e5.trans e6
       have hH6:H6 acc = some (.lst ys):=e56 _ _ hH3
       have wp:Rep X.K C (part n H2 acc B H6) de v:=by
        cases n with
        | true =>
         obtain rfl:=hn rfl
         refine wv.1.same (fun b o z=>?_) _
         unfold nw at z
         split at z
         ·rename_i kk
          have hb:b ≠ acc:=fun w=>by subst w; rw [e5 _ _ hH3] at kk; cases kk
          show nw H2 (er H6 [acc]) b = _
          unfold nw
          rw [if_pos (ji1 (ep5.trans (q8 _ _)) kk),w6 (by simpa using hb)]
          exact z
         ·cases z
        | false=>exact Val.le (r4'.mono e5) e6 (κ':=.old) (hn' rfl) wv
       refine wpAny_bind (wpAny_mono (jt2 (X:=X.wish (Fly X Eno)) _ s6 σ4 H6 (.ref acc) [v] (.ref acc) [ue] (fun z H7=>H7 = upd H6 acc (.lst (ys ++ [v]))) I6 rfl (.cons rv .nil) ⟨acc,ys,v,rfl,rfl,hH6,?_,rfl⟩) (fun _ s7 zz17=>zz17.elim fun z zz18=>zz18.elim fun H7 zz19=>zz19.elim fun I7w zz20=>zz20.elim fun _ hH7=>?_) fun _ _ h=>(jp8 h).elim)
       ·rw [rp.len]
        have:1001 <= sizeLine:=by rw [sizeLine_eq]; decide
        lia
       ·subst hH7
        have I7:=I7w.unwish
        refine wpAny_pure (wpAny_pure ⟨rfl,again I7 ?_⟩)
        cases hgr:jd0 bind ft fe (ds.drop (i + 1)) st1 with
        | bad=>rw [hgr] at hgo; cases hgo
        | ex c p=>rw [hgr] at hgo; cases hgo
        | ok rest2 =>
         rw [hgr] at hgo
         cases hgo
         refine ⟨st1,ys ++ [v],es ++ [de],I7.pins_of (fun p hp=>by cases hp),J2,((r4'.mono e56)).accUpd hΓ (.head _),?_,?_,by simp; lia,rest2,hgr,by simpa using htot⟩
         ·have:er (upd H6 acc (.lst (ys ++ [v]))) [acc] = er H6 [acc]:=by
           funext b
           by_cases mb:b ∈ [acc]
           ·rw [Z5 mb,Z5 mb]
           ·rw [w6 mb,w6 mb,v5 (by simpa using mb)]
          rw [this]
          exact ep.trans (q0 e56)
         ·rw [kv9]
          exact (rp.same (jw1 (e3.trans e56)) _).app (.cons wp .nil)
end
end Dm
end T_Lc2
section T_Lc3
namespace Dm
open PySem PySem.Spec PyProof.Rows L2
noncomputable def zB (z:Bool) (A:List Addr):List Addr:=if z = true then A else []
noncomputable def tDI (K:PySem.W.Frag) (C:Cfg) (G0:Hp) (Γ:List SK) (E:L2.St -> XK) (z:Bool) (gi:DI):TI:=fun σ H Rr=>∃ A st,RS K C G0 Γ σ H A st /\ match gi st with
 | .ok ds=>∀ J H',Same H H' -> ItOk K C (zB z A) H' J ds -> Rr J H'
 | .ex c p=>∀ H',Same H H' -> exP (E σ) c p H'
 | .bad=>False
theorem _root_.L2.PI.imp {X:Cx} {tg e:Expr} {t t':TI} (h:PI X tg e t) (i:∀ σ H Q,t' σ H Q -> t σ H Q):PI X tg e t':=fun pins s σ H Q I q=>h pins s σ H Q I (i σ H Q q)
section
variable {X:Cx} {C:Cfg} {G0:Hp} {Γ:List SK} {E:L2.St -> XK} {tg iter elt a:Expr} {f:DF} {fs:DA} {κ:Kd} {pos:Pos} {z:Bool}
theorem kw9 {A:List Addr}:∀ a ∈ zB z A,a ∈ A:=fun a h=>by unfold zB at h; cases z with | true=>exact h | false=>cases h
theorem kv8 {pins:List (Addr × Obj)} {σ:L2.St} {H:Hp} {s:Shared} {L:Addr} {h':Heap} (I:L2.Inv X pins σ H s) (hH:H L = none) (hL:L ≠ X.env.locals) (hS:X.s₀.heap.objs.size <= L) (hc:∀ x c,X.env.cells.lookup x = some c -> c ≠ L) (hp:∀ p ∈ X.pn ++ pins,p.1 ≠ L) (hs:Heap.SameBut L s.heap h'):L2.Inv X pins σ H { s with heap:=h' }:=by
 have kp:∀ b o,b ≠ L -> s.heap.get? b = some o -> h'.get? b = some o:=fun b o hb e=>(hs.2 b hb).trans e
 refine Inv.call' I (s':={ s with heap:=h' }) (ch:=[L]) rfl ⟨fun b o e n nf nx=>kp b o (by simpa using nx) e,fun b o e n nf nx=>⟨o.slots,kp b o (by simpa using nx) e⟩,fun b o e n nx=>n,fun b o e nx=>⟨o,kp b o (by simpa using nx) e⟩,fun b xs q=>q,fun b o u q=>q,fun b ps q=>⟨#[],by rw [q]; simp⟩⟩ (fun b u e=>?_) I.bare (fun b hb=>?_)
 ·refine (I.hok b u e).stay (fun c v hc' q=>kp c v ?_ q) (fun _ q=>q) fun _ _ q=>q
  rintro rfl
  rcases hc' with rfl | hc'
  ·rw [hH] at e; cases e
  ·rw [hH] at hc'; cases hc'
 ·obtain rfl:b = L:=by simpa using hb
  exact ⟨.inr hS,hL,hc,hp⟩
end
section
variable {X:Cx} {C:Cfg} {G0:Hp} {Γ:List SK} {E0:Value -> Shared -> Prop} {pins:List (Addr × Obj)} {σ:L2.St} {H2:Hp} {s2:Shared} {A:List Addr} {st:DSt} {tg iter elt:Expr} {ifs:List Expr} {scope:Scope} {cl:List (Str × Addr)} {pos:Pos} {fp:List Addr} {it:Addr} {tn:Nat -> Heap -> Prop} {J:It} {g:TG} {bind:DB} {ft fe:DF} {κe:Kd} {n z:Bool} {ds total:List D}
 {tgs:List Str} {caps:List (Nat × Str)} {RR:Value -> Addr -> Result -> Shared -> Prop}
noncomputable def parΓ (m:Nat):List SK:=List.replicate m .par
theorem kc4 (m:Nat):kc2 (parΓ m):=fun i k h=>by unfold parΓ at h; rw [List.getElem?_replicate] at h; split at h <;> cases h; rfl
structure BlockEnd (X:Cx) (C:Cfg) (pins:List (Addr × Obj)) (σ:L2.St) (n:Bool) (H2:Hp) (B:List Addr) (total:List D) (acc L:Addr) (s':Shared) (H':Hp) (ys:List V):Prop where
 inv:L2.Inv X pins σ H' s'
 ns:∃ m,s'.heap.Ns L m
 hL:H' L = none
 lL:L ≠ X.env.locals
 sL:X.s₀.heap.objs.size <= L
 cL:∀ x c,X.env.cells.lookup x = some c -> c ≠ L
 pL:∀ p ∈ X.pn ++ pins,p.1 ≠ L
 new:H2 acc = none
 at':H' acc = some (.lst ys)
 same:Same H2 (er H' [acc])
 reps:Reps X.K C (part n H2 acc B H') total ys
theorem ke2 (I2:L2.Inv X pins σ H2 s2) (hcalm:X.calm = true) (r2:RS X.K C G0 Γ σ H2 A st) (T:Turn X.prog X.w X.K tg J fp it tn) (htn:tn 0 s2.heap) (hf:∀ b ∈ fp,FpOk X pins H2 b) (hJ:ItOk X.K C (zB z A) H2 J ds) (hz:z = true -> ∀ p ∈ caps,Γ[p.1]? = some .par \/ Γ[p.1]? = some .loc)
  (hgo:jd0 bind ft fe ds (inσ tgs.length (caps.map (·.1)) st) = .ok total) (few:ds.length <= 1000) (hk:scope.kind = .function) (hcell:∀ y ∈ scope.names,y.2 ≠ .cell) (hcl:∀ x c,cl.lookup x = some c -> X.env.cells.lookup x = some c)
  (hhas:∀ x,((relabel scope X.env).names.lookup x = some .cell \/ (relabel scope X.env).names.lookup x = some .free) -> ∃ c,cl.lookup x = some c) (hcap:Cap X scope cl caps)
  (hB:jr8 X.K C G0 (parΓ (tgs.length + caps.length)) g bind)
  (hG:∀ s H L,PG ((cCx X scope cl (tgs ++ caps.map (·.2)) fp s H L).wish (Fly (cCx X scope cl (tgs ++ caps.map (·.2)) fp s H L) Eno)) tg g)
  (hT:∀ s0 H0 L (pins:List (Addr × Obj)) (s:Shared) (σ:L2.St) (H:Hp) (Q:Bool -> Hp -> Prop),L2.Inv ((cCx X scope cl (tgs ++ caps.map (·.2)) fp s0 H0 L).wish (Fly (cCx X scope cl (tgs ++ caps.map (·.2)) fp s0 H0 L) Eno)) pins σ H s -> tDT X.K C G0 (parΓ (tgs.length + caps.length)) Eno ft σ H Q ->
   wpAny (model X.prog X.w) X.A (forIn ifs true fun c r=>if r = true then do let ok <- isTrue c (compEnvC scope cl L X.env) (eval c (compEnvC scope cl L X.env)); pure (ForInStep.yield ok) else pure (ForInStep.yield r)) (TP ((cCx X scope cl (tgs ++ caps.map (·.2)) fp s0 H0 L).wish (Fly (cCx X scope cl (tgs ++ caps.map (·.2)) fp s0 H0 L) Eno)) pins σ Q) (Fly (cCx X scope cl (tgs ++ caps.map (·.2)) fp s0 H0 L) Eno) s)
  (hE:∀ s H L,PE ((cCx X scope cl (tgs ++ caps.map (·.2)) fp s H L).wish (Fly (cCx X scope cl (tgs ++ caps.map (·.2)) fp s H L) Eno)) elt (tD X.K C G0 (parΓ (tgs.length + caps.length)) Eno fe κe)) (hn:n = true -> κe = .new) (hn':n = false -> κe.le .old = true)
  (hRR:∀ acc L s' H' ys,BlockEnd X C pins σ n H2 (zB z A) total acc L s' H' ys -> RR (.ref acc) L (.ok .next) s') :
  wpAny (model X.prog X.w) X.A (newList []) (fun acc s₃=>wpAny (model X.prog X.w) X.A (newFunctionEnv scope X.env.globals cl [] X.env.qual none .none (some X.env)) (fun cenv s₄ =>
   codeAny (model X.prog X.w) X.A (.compStart (.ListComp elt [⟨tg,iter,ifs,0⟩] scope pos) 0 (.ref it) acc { cenv with scope:=relabel scope X.env }) (RR acc cenv.locals) s₄) E0 s₃) E0 s2:=by
 refine wpAny_newObj_type (wpAny_newFunctionEnv hcell (by intro y hy; simp at hy) (fun h₁ hns₁ hsb₁=>?_) hk)
 dsimp only at hns₁ hsb₁ ⊢
 generalize hH2:s2.heap.push { cls:=.type "list",dict:=none,data:=.seq ([]:List Value).toArray } = G2 at hns₁ hsb₁ ⊢
 have hC:G2.objs.size = s2.heap.objs.size + 1:=by rw [<- hH2,Heap.size_push]
 have hDC:s2.heap.objs.size ≠ G2.objs.size:=by rw [hC]; exact Nat.ne_of_lt (Nat.lt_succ_self _)
 have below:∀ b,b < s2.heap.objs.size -> b ≠ G2.objs.size /\ b ≠ s2.heap.objs.size:=fun b hb=>⟨by rw [hC]; exact Nat.ne_of_lt (Nat.lt_succ_of_lt hb),Nat.ne_of_lt hb⟩
 have old:∀ b o,s2.heap.get? b = some o -> h₁.get? b = some o:=fun b o e=>hsb₁.extBut b o (below b (Heap.lt_size e)).1 (Heap.get?_push_of_some _ (hH2 ▸ Heap.get?_push_of_some _ e))
 have hacc:h₁.get? s2.heap.objs.size = some { cls:=.type "list",data:=.seq ([]:List Value).toArray 0 }:=hsb₁.extBut _ _ hDC (Heap.get?_push_of_some _ (hH2 ▸ Heap.get?_push_size _ rfl))
 have nacc:H2 s2.heap.objs.size = none:=I2.hok.fresh (Nat.le_refl _)
 have hLle:s2.heap.objs.size <= G2.objs.size:=by rw [hC]; exact Nat.le_succ _
 have nL:H2 G2.objs.size = none:=I2.hok.fresh hLle
 have hfs:∀ b ∈ fp,b < s2.heap.objs.size:=fun b hb=>by obtain ⟨o,e,_⟩:=T.obj _ _ htn b hb; exact Heap.lt_size e
 have ok:=ql3 (N':=tgs ++ caps.map (·.2)) (L:=G2.objs.size) I2 hk hLle hcl hhas hf hfs
 have un:Un (frs X.stack) fp H2 (upd H2 s2.heap.objs.size (.lst [])) s2.heap h₁:=Un.laid old (Nat.le_refl _) nacc
 have hok:HOk X.prog X.w (upd H2 s2.heap.objs.size (.lst [])) h₁:=I2.hok.laid old (Nat.le_refl _) ⟨Nat.zero_le _,[],0,.nil,hacc⟩
 have inn:L2.Inv (cCx X scope cl (tgs ++ caps.map (·.2)) fp s2 H2 G2.objs.size) [] (inσ tgs.length (caps.map (·.1)) σ) (upd H2 s2.heap.objs.size (.lst [])) { s2 with heap:=h₁,toks:=s2.toks + ([]:List (Str × Value)).length }:=by
  refine ky9 I2 ok hcap hcl rfl I2.bare un old hns₁ (by rw [v5 (Ne.symm hDC)]; exact nL) (fun x c h=>?_) hok
  have hc:=I2.freeC x c (hcl _ _ h)
  have hc2:c ≠ s2.heap.objs.size:=fun w=>by
   obtain ⟨v,q⟩:=I2.cell x c (hcl _ _ h)
   exact absurd q.lt (by rw [w]; exact Nat.lt_irrefl _)
  rw [v5 hc2]; exact hc
 have e2:Same H2 (upd H2 s2.heap.objs.size (.lst [])):=U6 nacc
 have ee:Same H2 (er (upd H2 s2.heap.objs.size (.lst [])) [s2.heap.objs.size]):=fun b o e=>by
  have:b ≠ s2.heap.objs.size:=fun w=>by rw [w,nacc] at e; cases e
  rw [w6 (by simpa using this)]; exact e2 b o e
 have eB:Same (er H2 (zB z A)) (er (upd H2 s2.heap.objs.size (.lst [])) (s2.heap.objs.size :: zB z A)):=fun b o e=>by
  by_cases mb:b ∈ zB z A
  ·rw [Z5 mb] at e; cases e
  ·rw [w6 mb] at e
   have:b ≠ s2.heap.objs.size:=fun w=>by rw [w,nacc] at e; cases e
   rw [w6 (by simp [this,mb])]; exact e2 b o e
 have rin:RS X.K C G0 (parΓ (tgs.length + caps.length)) (inσ tgs.length (caps.map (·.1)) σ) (upd H2 s2.heap.objs.size (.lst [])) (s2.heap.objs.size :: zB z A) (inσ tgs.length (caps.map (·.1)) st):=by
  refine ⟨(r2.base.trans (kk2 kw9)).trans eB,fun a m=>?_,by unfold inσ; simp,fun j d h=>?_,fun i j n' m' p ds' es hij g1=>by have:=kc4 _ i _ g1; cases this⟩
  ·rcases List.mem_cons.mp m with rfl | m
   ·exact ⟨[],J2⟩
   ·obtain ⟨xs,q⟩:=r2.lists a (kw9 a m)
    exact ⟨xs,e2 _ _ q⟩
  ·refine x1_3 (kg8 h) fun i hj hi hs=>?_
   refine x2_3 (r2.slot i d hs) fun k v h1 h2 h3=>?_
   have hlt:j - tgs.length < caps.length:=by have:=(List.getElem?_eq_some_iff.mp hi).1; simpa using this
   refine ⟨.par,v,?_,ky8 hj hi h2,?_⟩
   ·unfold parΓ; rw [List.getElem?_replicate,if_pos (by lia)]
   ·refine Rep.same eB _ ?_
    refine x1_2 (r2.read h1 hs) fun v' w1 w2=>?_
    rw [h2] at w1; cases w1
    unfold zB
    cases z with
    | false=>rw [if_neg (by decide),jo9]; exact w2.rep
    | true =>
     rw [List.getElem?_map] at hi
     cases hc:caps[j - tgs.length]? with
     | none=>rw [hc] at hi; cases hi
     | some p =>
      rw [hc] at hi; cases hi
      rcases hz rfl p (List.mem_of_getElem? hc) with q | q
      ·rw [h1] at q; cases q; exact h3
      ·rw [h1] at q; cases q; exact h3.1.same (U1 _ _) _
 have loop:∀ s3:Shared,s3 = { s2 with heap:=h₁,toks:=s2.toks + ([]:List (Str × Value)).length } ->
   codeAny (model X.prog X.w) X.A (.compLoop (.ListComp elt [⟨tg,iter,ifs,0⟩] scope pos) 0 (.ref it) (.ref s2.heap.objs.size) (compEnvC scope cl G2.objs.size X.env)) (RR (.ref s2.heap.objs.size) G2.objs.size) s3:=by
  rintro s3 rfl
  refine kj0 (X:=cCx X scope cl (tgs ++ caps.map (·.2)) fp s2 H2 G2.objs.size) (C:=C) (G0:=G0) (B:=zB z A) (H2:=H2) (total:=total) T hcalm (fun b hb=>⟨hb,(ok.exf b hb).1,ok.exfs b hb,(ok.exf b hb).2⟩) rfl (kc4 _) hJ hB (hG _ _ _) (hT _ _ _) (hE _ _ _) hn hn' nacc few
   (fun s' σ' H' zz3=>zz3.elim fun st' zz4=>zz4.elim fun ys zz5=>zz5.elim fun es zz6=>zz6.elim fun I' zz7=>zz7.elim fun hy zz8=>zz8.elim fun r' zz9=>zz9.elim fun e' zz10=>zz10.elim fun rp zz11=>zz11.elim fun hl zz12=>zz12.elim fun rest zz13=>zz13.elim fun hg ht=>?_) _ _ _ ⟨_,[],[],inn,J2,rin,ee,.nil,Nat.zero_le _,total,by simpa using hgo,rfl⟩ (T.keep _ _ _ htn fun b hb o e=>old b o e) (fun b hb=>by rw [v5 (below b (hfs b hb)).2]; exact (hf b hb).1)
  have hr:rest = []:=by
   rw [List.drop_length] at hg
   exact (R.ok.inj hg).symm
  subst hr
  rw [List.append_nil] at ht
  subst ht
  have Iout:L2.Inv X pins σ H' s':=Inv.call' I2 I'.os I'.base I'.hok I'.bare fun b hb=>⟨(hf b hb).2.2.2.1,(hf b hb).2.1,(hf b hb).2.2.2.2.1,(hf b hb).2.2.2.2.2⟩
  refine hRR _ _ s' H' ys ⟨Iout,I'.loc.imp fun m h=>h.1,I'.free,?_,Nat.le_trans I2.sz hLle,fun x c h w=>?_,fun p hp w=>?_,nacc,hy,e',rp⟩
  ·exact Ne.symm (below _ I2.lt).1
  ·obtain ⟨v,q⟩:=I2.cell x c h
   exact (below _ q.lt).1 w
  ·exact (below _ (Heap.lt_size (I2.pin p hp).1)).1 w
 exact codeAny_compStart_list (loop _ rfl) (T.self X.A 0 _ _ _ (T.keep _ _ _ htn fun b hb o e=>old b o e) (loop _ rfl))
end
end Dm
end T_Lc3
section T_Lc4
namespace Dm
open PySem PySem.Spec PyProof.Rows L2
noncomputable def kn3 (z n:Bool):Kd:=if n = true then .new else if z = true then .nwo else .tmp
noncomputable def kd8 (gi:DI) (k:Nat) (fr:List Nat) (bind:DB) (ft fe:DF):DF:=fun st=>match gi st with
 | .ok ds=>if ds.length <= 1000 then (match jd0 bind ft fe ds (inσ k fr st) with | .ok es=>.ok (.lst es) | _=>.bad) else .bad
 | .ex c p=>.ex c p
 | .bad=>.bad
section
variable {X:Cx} {C:Cfg} {G0:Hp} {Γ:List SK} {E:L2.St -> XK} {κr:Bool} {tg iter elt:Expr} {ifs:List Expr} {scope:Scope} {cl:List (Str × Addr)} {pos:Pos} {g:TG} {bind:DB} {gi:DI} {ft fe:DF} {κe:Kd} {n z:Bool} {tgs:List Str} {caps:List (Nat × Str)}
theorem BlockEnd.val {pins:List (Addr × Obj)} {σ:L2.St} {H H2:Hp} {A:List Addr} {total:List D} {acc L:Addr} {s':Shared} {H':Hp} {ys:List V} {st:DSt} (b:BlockEnd X C pins σ n H2 (zB z A) total acc L s' H' ys) (r:RS X.K C G0 Γ σ H A st) (e:Same H H2):Same H H' /\ Val X.K C (kn3 z n) G0 A H H' (.lst total) (.ref acc):=by
 have e2:Same H2 H':=b.same.trans (q8 _ _)
 have eH:=e.trans e2
 refine ⟨eH,?_⟩
 have h0:H acc = none:=e.free b.new
 have rp:=b.reps
 unfold kn3
 cases n with
 | true =>
  rw [if_pos rfl]
  have R0:Reps X.K C (er (nw H H') [acc]) total ys:=rp.same (fun c o z=>by
   unfold part at z
   rw [if_pos rfl] at z
   by_cases hc:c = acc
   ·subst hc
    have:=U1 _ _ _ _ z
    rw [Z5 (.head _)] at this; cases this
   ·rw [w6 (by simpa using hc)]
    exact jq2 e _ _ (y4 (q8 _ _) _ _ z)) _
  have ha:nw H H' acc = some (.lst ys):=by rw [jj2 h0]; exact b.at'
  exact ⟨by rw [Rep]; exact ⟨acc,ys,rfl,.of ha,R0⟩,fun ds z=>by cases z; exact ⟨acc,ys,rfl,h0,ha,R0⟩⟩
 | false =>
  rw [if_neg (by decide)]
  cases z with
  | true =>
   rw [if_pos rfl]
   have hA:acc ∉ A:=fun m=>by obtain ⟨xs,q⟩:=r.lists acc m; rw [h0] at q; cases q
   have R0:Reps X.K C (er (er H' A) [acc]) total ys:=rp.same (fun c o z=>by
    unfold part zB at z
    rw [if_neg (by decide),if_pos rfl] at z
    by_cases hc:c ∈ acc :: A
    ·rw [Z5 hc] at z; cases z
    ·rw [w6 hc] at z
     have h1:c ≠ acc:=fun w=>hc (by rw [w]; exact .head _)
     have h2:c ∉ A:=fun w=>hc (.tail _ w)
     rw [w6 (by simpa using h1),w6 h2]; exact z) _
   have ha:er H' A acc = some (.lst ys):=by rw [w6 hA]; exact b.at'
   exact ⟨by rw [Rep]; exact ⟨acc,ys,rfl,.of ha,R0⟩,fun ds z=>by cases z; exact ⟨acc,ys,rfl,h0,ha,R0⟩⟩
  | false =>
   rw [if_neg (by decide)]
   show Rep X.K C H' _ _
   rw [Rep]
   refine ⟨acc,ys,rfl,.of b.at',rp.same (fun c o z=>?_) _⟩
   unfold part zB at z
   rw [if_neg (by decide),if_neg (by decide)] at z
   exact z
structure Blk (X:Cx) (C:Cfg) (G0:Hp) (Γ:List SK) (tg elt:Expr) (ifs:List Expr) (scope:Scope) (cl:List (Str × Addr)) (g:TG) (bind:DB) (ft fe:DF) (κe:Kd) (n z:Bool) (tgs:List Str) (caps:List (Nat × Str)):Prop where
 calm:X.calm = true
 hk:scope.kind = .function
 hcell:∀ y ∈ scope.names,y.2 ≠ .cell
 hcl:∀ x c,cl.lookup x = some c -> X.env.cells.lookup x = some c
 hhas:∀ x,((relabel scope X.env).names.lookup x = some .cell \/ (relabel scope X.env).names.lookup x = some .free) -> ∃ c,cl.lookup x = some c
 hclos:closureFor scope X.env = pure cl
 hnames:∀ y ∈ scope.names,y.2 = .local -> scope.names.lookup y.1 = some .local
 hcap:Cap X scope cl caps
 hz:z = true -> ∀ p ∈ caps,Γ[p.1]? = some .par \/ Γ[p.1]? = some .loc
 hB:jr8 X.K C G0 (parΓ (tgs.length + caps.length)) g bind
 hG:∀ fp s H L,PG ((cCx X scope cl (tgs ++ caps.map (·.2)) fp s H L).wish (Fly (cCx X scope cl (tgs ++ caps.map (·.2)) fp s H L) Eno)) tg g
 hT:∀ fp s0 H0 L (pins:List (Addr × Obj)) (s:Shared) (σ:L2.St) (H:Hp) (Q:Bool -> Hp -> Prop),L2.Inv ((cCx X scope cl (tgs ++ caps.map (·.2)) fp s0 H0 L).wish (Fly (cCx X scope cl (tgs ++ caps.map (·.2)) fp s0 H0 L) Eno)) pins σ H s -> tDT X.K C G0 (parΓ (tgs.length + caps.length)) Eno ft σ H Q ->
   wpAny (model X.prog X.w) X.A (forIn ifs true fun c r=>if r = true then do let ok <- isTrue c (compEnvC scope cl L X.env) (eval c (compEnvC scope cl L X.env)); pure (ForInStep.yield ok) else pure (ForInStep.yield r)) (TP ((cCx X scope cl (tgs ++ caps.map (·.2)) fp s0 H0 L).wish (Fly (cCx X scope cl (tgs ++ caps.map (·.2)) fp s0 H0 L) Eno)) pins σ Q) (Fly (cCx X scope cl (tgs ++ caps.map (·.2)) fp s0 H0 L) Eno) s
 hE:∀ fp s H L,PE ((cCx X scope cl (tgs ++ caps.map (·.2)) fp s H L).wish (Fly (cCx X scope cl (tgs ++ caps.map (·.2)) fp s H L) Eno)) elt (tD X.K C G0 (parΓ (tgs.length + caps.length)) Eno fe κe)
 hn:n = true -> κe = .new
 hn':n = false -> κe.le .old = true
theorem kz0 (hsrc:PI X tg iter (tDI X.K C G0 Γ E z gi)) (b:Blk X C G0 Γ tg elt ifs scope cl g bind ft fe κe n z tgs caps) (hs:∀ x,foldedSetIterable iter X.env x = pure x:=by intro _; rfl) :
  PE X (.ListComp elt [⟨tg,iter,ifs,0⟩] scope pos) (tD X.K C G0 Γ E (kd8 gi tgs.length (caps.map (·.1)) bind ft fe) (kn3 z n)):=fun pins s σ H Q I zz=>by
 refine x2_2 zz fun A st r q=>?_
 clear zz
 rw [eval_ListComp]
 unfold kd8 at q
 refine wpAny_comprehension_free (use:=none) rfl hs b.hclos b.hk b.hnames (wpAny_mono (hsrc pins s σ H (fun J H'=>∃ ds total,Same H H' /\ ItOk X.K C (zB z A) H' J ds /\ ds.length <= 1000 /\ jd0 bind ft fe ds (inσ tgs.length (caps.map (·.1)) st) = .ok total /\ ∀ v H',Same H H' -> Val X.K C (kn3 z n) G0 A H H' (.lst total) v -> Q v H') I ⟨A,st,r,?_⟩) (fun xv s1 h1=>wpAny_mono h1 (fun itv s2 h2=>?_) fun _ _ e=>e) fun _ _ e=>e)
 ·cases hg:gi st with
  | bad=>rw [hg] at q; exact q
  | ex c p=>rw [hg] at q; exact q
  | ok ds =>
   rw [hg] at q
   dsimp only at q
   by_cases hl:ds.length <= 1000
   ·rw [if_pos hl] at q
    cases hc:jd0 bind ft fe ds (inσ tgs.length (caps.map (·.1)) st) with
    | bad=>rw [hc] at q; exact q.elim
    | ex c p=>rw [hc] at q; exact q.elim
    | ok total=>rw [hc] at q; exact fun J H' e' hJ=>⟨ds,total,e',hJ,hl,hc,q⟩
   ·rw [if_neg hl] at q; exact q.elim
 ·obtain ⟨it,fp,tn,J,H2,rfl,I2,T,t0,f0,ds,total,e2,hJ,hl,hgo,hq⟩:=h2
  refine ke2 (RR:=fun acc L=>compPost (model X.prog X.w) X.A X.xe none (EP X pins σ Q) acc L) I2 b.calm (r.mono e2) T t0 f0 hJ b.hz hgo hl b.hk b.hcell b.hcl b.hhas b.hcap b.hB (b.hG fp) (b.hT fp) (b.hE fp) b.hn b.hn' fun acc L s' H' ys be=>?_
  obtain ⟨e',w⟩:=be.val r e2
  obtain ⟨m,hm⟩:=be.ns
  exact ⟨m,hm,fun h' hsb=>⟨.ref acc,H',kv8 be.inv be.hL be.lL be.sL be.cL be.pL hsb,rfl,hq _ _ e' w⟩⟩
end
end Dm
end T_Lc4
section T_Dz
namespace Dz
open PySem PyProof.Rows
noncomputable abbrev qj7 (h:Heap) (z TI TO T:Addr) (b:Bool):Prop :=
 h.get? z = some { cls:=.type "zip",dict:=none,data:=.fields #[rawInt T,.bool b,.bool false,.ref TI,.ref TO],slots:=#[] }
section
variable {prog:Program} {w:World} {A:Around} {E:Value -> Shared -> Prop} {s:Shared}
end
end Dz
end T_Dz
section T_Dz2
namespace Dz
open PySem PyProof.Rows
structure ZSt (z TI TO i1 i2 l1 l2:Addr) (xs ys:Array Value) (k:Nat) (h:Heap):Prop where
 ti:IsPair h TI (.ref i1) (.ref i2)
 it1:h.IsListIter i1 l1 k
 it2:h.IsListIter i2 l2 k
 ls1:h.IsList l1 xs
 ls2:h.IsList l2 ys
 zp:(IsZip h z TI TO .none /\ ∃ a b,IsPair h TO a b) \/ ∃ T b oT,qj7 h z TI TO T b /\ h.get? T = some oT
section
variable {prog:Program} {w:World} {A:Around} {E:Value -> Shared -> Prop} {s:Shared} {z TI TO i1 i2 l1 l2:Addr} {xs ys:Array Value} {k:Nat}
end
theorem ji7:entryFor table "dict.update.loop" = some Builtin.«dict.update.loop»:=entryFor_of_tree (by kernel_rfl)
theorem je8:plainId "dict.update.loop" = true:=by decide +kernel
section
variable {prog:Program} {w:World} {K:Type} [DecidableEq K] {kd:KeyKind prog w K} {A:Around} {s:Shared} {z TI TO i1 i2 l1 l2 d:Addr} {xs ys:Array Value}
theorem ZSt.same {k:Nat} {h h':Heap} (st:ZSt z TI TO i1 i2 l1 l2 xs ys k h) (hs:Heap.SameBut d h h') (hd:∃ o,h'.get? d = some o) (n1:z ≠ d) (n2:TI ≠ d) (n3:TO ≠ d) (n4:i1 ≠ d) (n5:i2 ≠ d) (n6:l1 ≠ d) (n7:l2 ≠ d):ZSt z TI TO i1 i2 l1 l2 xs ys k h':=by
 obtain ⟨ti,it1,it2,ls1,ls2,zp⟩:=st
 have kp:∀ b o,b ≠ d -> h.get? b = some o -> h'.get? b = some o:=fun b o nb e=>(hs.2 b nb).trans e
 refine ⟨kp _ _ n2 ti,it1.at fun o e=>kp _ _ n4 e,it2.at fun o e=>kp _ _ n5 e,ls1.at fun o e=>kp _ _ n6 e,ls2.at fun o e=>kp _ _ n7 e,?_⟩
 rcases zp with ⟨hz,a,b,hTO⟩ | ⟨T,b,oT,hz,hT⟩
 ·exact .inl ⟨kp _ _ n1 hz,a,b,kp _ _ n3 hTO⟩
 ·by_cases q:T = d
  ·obtain ⟨o,e⟩:=hd
   exact .inr ⟨T,b,o,kp _ _ n1 hz,by rw [q]; exact e⟩
  ·exact .inr ⟨T,b,oT,kp _ _ n1 hz,kp _ _ q hT⟩
end
end Dz
end T_Dz2
section T_Dw0
namespace Dm
open PySem PySem.Spec PyProof.Rows L2
noncomputable abbrev DP:=(Int × Int) × Addr × Int × Tok
noncomputable def dxs (ps:List DP):List (List Int × Addr × Value):=ps.map fun p=>([p.1.1,p.1.2],p.2.1,.int p.2.2.1 p.2.2.2)
noncomputable def DX (a:Addr) (ps:List DP) (h:Heap):Prop:=∃ o es ep,h.get? a = some o /\ o.ExactDict /\ o.data = .dict es ep /\ (∀ (P:Program) (w:World),es.toList = (dxs ps).map (entryOfKey (tupleKind (intKind P w)))) /\ ((dxs ps).map (·.1)).Nodup
noncomputable def dvs (ps:List DP):List V:=ps.flatMap fun p=>[.int p.1.1,.int p.1.2,.int p.2.2.1]
noncomputable def DAtD (K:PySem.W.Frag) (H:Hp) (a:Addr) (vs:List V):Prop:=∃ ps,vs = dvs ps /\ H a = some (.ext (DX a ps)) /\ ∀ p ∈ ps,SqT K H p.2.1 [.int p.1.1,.int p.1.2]
theorem DAtD.mono {K:PySem.W.Frag} {H H':Hp} {a:Addr} {vs:List V} (e:Same H H') (h:DAtD K H a vs):DAtD K H' a vs:=by
 refine x1_3 h fun ps h1 h2 h3=>?_
 clear h
 exact ⟨ps,h1,e _ _ h2,fun p hp=>Same.tup e (h3 p hp)⟩
theorem DX.of {P:Program} {w:World} {a:Addr} {ps:List DP} {h:Heap} (q:h.DictOfH (tupleKind (intKind P w)) a (dxs ps)):DX a ps h:=by
 refine x3_6 q fun o es ep h1 h2 h3 h4 _ h6=>?_
 clear q
 exact ⟨o,es,ep,h1,h2,h3,fun P' w'=>h4,h6⟩
theorem DX.dict {P:Program} {w:World} {a:Addr} {ps:List DP} {h:Heap} (q:DX a ps h) (k:∀ p ∈ ps,(tupleKind (intKind P w)).is h [p.1.1,p.1.2] p.2.1):h.DictOfH (tupleKind (intKind P w)) a (dxs ps):=by
 refine x3_5 q fun o es ep h1 h2 h3 h4 h6=>?_
 clear q
 refine ⟨o,es,ep,h1,h2,h3,h4 P w,fun x hx=>?_,h6⟩
 refine x1_2 (List.mem_map.mp hx) fun p hp zo2=>?_
 obtain rfl:=zo2
 exact k p hp
theorem DX.keep {a:Addr} {ps:List DP} {h h':Heap} (q:DX a ps h) (e:∀ o,h.get? a = some o -> h'.get? a = some o):DX a ps h':=by
 refine x3_2 q fun o es ep h1 h2=>?_
 clear q
 exact ⟨o,es,ep,e o h1,h2⟩
section
variable {X:Cx} {pins:List (Addr × Obj)} {σ:L2.St} {H:Hp} {s:Shared} {a:Addr}
end
section
variable {X:Cx} {a b:Expr} {ta:TA} {p1 p2 pos pos2:Pos}
end
end Dm
end T_Dw0
section T_Bd
namespace Dm
open PySem PySem.Spec PyProof.Rows L2 PySem.W
noncomputable def cfgB (Cb:Addr):Cfg where
 ob:=fun t K H a vs=>((t = 0 /\ ∃ dx fs l,H a = some (.ins Cb dx fs) /\ fs.lookup ("cells" : Str) = some (.ref l) /\ H l = some (.lst vs)) \/ (∃ c,t = xTag c /\ ((vs = [] /\ H a = some (.ext (ClsAt a (.ref c)))) \/ ∃ n dx,vs = [.int n] /\ H a = some (.ext (ClsX a c dx)) /\ H dx = some (.xd [("at",.int n)])))) \/ (t = 1 /\ DAtD K H a vs)
 mono:=fun {t K H H' a vs} e h=>by
  rcases h with (⟨h0,dx,fs,l,h1,h2,h3⟩ | ⟨c,h0,⟨h1,h2⟩ | ⟨n,dx,h1,h2,h3⟩⟩) | ⟨h0,h1⟩
  ·exact .inl (.inl ⟨h0,dx,fs,l,e _ _ h1,h2,e _ _ h3⟩)
  ·exact .inl (.inr ⟨c,h0,.inl ⟨h1,e _ _ h2⟩⟩)
  ·exact .inl (.inr ⟨c,h0,.inr ⟨n,dx,h1,e _ _ h2,e _ _ h3⟩⟩)
  ·exact .inr ⟨h0,h1.mono e⟩
section
variable {X:Cx} {Cb:Addr} {G0:Hp} {Γ:List SK} {E:L2.St -> XK} {κr:Bool} {e a b c:Expr} {f fa fb fc:DF} {κ κ' κa κb κc:Kd} {es rest:List Expr} {fs:DA} {pos:Pos} {s:Stmt} {ss:List Stmt} {F G:DS}
noncomputable def Y5:D -> R D:=fun a=>match a with | .brd 0 ds=>if noLs ds = true then .ok (.lst ds) else .bad | _=>.bad
theorem kg5 {a d:D} (h:Y5 a = .ok d):∃ ds,a = .brd 0 ds /\ noLs ds = true /\ d = .lst ds:=by
 unfold Y5 at h
 split at h
 ·split at h
  ·rename_i n; cases h; exact ⟨_,rfl,n,rfl⟩
  ·cases h
 ·cases h
theorem kl9 {a:D} {c:Addr} {p:Option Int}:Y5 a ≠ .ex c p:=by
 unfold Y5
 split
 ·split <;> exact fun h=>(by cases h)
 ·exact fun h=>(by cases h)
theorem kl4 {K:Frag} {H:Hp} {ds:List D} {x:V} (n:noLs ds = true) (q:Rep K (cfgB Cb) H (.brd 0 ds) x):∃ a dx fs l,x = .ref a /\ H a = some (.ins Cb dx fs) /\ fs.lookup ("cells" : Str) = some (.ref l) /\ Rep K (cfgB Cb) H (.lst ds) (.ref l):=by
 rw [Rep] at q
 refine x2_3 q fun a xs zo2 h2 h3=>?_
 clear q
 obtain rfl:=zo2
 rcases h2 with (⟨_,dx,fs,l,h4,h5,h6⟩ | ⟨c,z,_⟩) | ⟨z,_⟩
 ·refine ⟨a,dx,fs,l,rfl,h4,h5,?_⟩
  rw [Rep]
  exact ⟨l,xs,rfl,.of h6,h3.part (.er fun b m=>by rw [List.mem_singleton.mp m]; exact ⟨xs,h6⟩) _ n⟩
 ·unfold xTag at z; lia
 ·cases z
theorem kr4 (hC:Cls X.K Cb) (hA:NoAttr X.K Cb "cells") (ha:PE X a (tD X.K (cfgB Cb) G0 Γ E fa κa)) (hb:attributeBase a ("cells" : Str) X.env (eval a X.env) = eval a X.env:=by rfl):PE X (.Attribute a "cells" pos) (tD X.K (cfgB Cb) G0 Γ E (dUn Y5 fa) κa.item):=(qh4 ha hb).imp fun σ H Q zz=>by
 refine x2_2 zz fun A st r q=>?_
 clear zz
 refine ⟨A,st,r,?_⟩
 unfold dUn R.bind at q
 cases ha:fa st with
 | bad=>rw [ha] at q; exact q
 | ex c p=>rw [ha] at q; exact q
 | ok a =>
  rw [ha] at q
  dsimp only at q
  intro x H1 e1 w1
  cases hg:Y5 a with
  | bad=>rw [hg] at q; exact q.elim
  | ex c p=>exact absurd hg kl9
  | ok d =>
   rw [hg] at q
   refine x1_3 (kg5 hg) fun ds zo1 n zo3=>?_
   obtain rfl:=zo1
   obtain rfl:=zo3
   have fin:∀ G:Hp,Same G H1 -> Rep X.K (cfgB Cb) G (.brd 0 ds) x -> (∀ v,Rep X.K (cfgB Cb) G (.lst ds) v -> Val X.K (cfgB Cb) κa.item G0 A H H1 (.lst ds) v) -> ∃ a C dx fs v,x = .ref a /\ H1 a = some (.ins C dx fs) /\ Cls X.K C /\ NoAttr X.K C "cells" /\ fs.lookup ("cells" : Str) = some v /\ Q v H1:=fun G e qa k=>by
    refine x4_4 (kl4 n qa) fun a dx fs l zo4 h1 h2 h3=>?_
    obtain rfl:=zo4
    exact ⟨a,Cb,dx,fs,.ref l,rfl,e _ _ h1,hC,hA,h2,q _ _ e1 (k _ h3)⟩
   cases κa with
   | new=>exact fin _ (q8 _ _) (w1.le r e1 (κ':=.old) rfl) fun v z=>z
   | nwo=>exact fin _ (q8 _ _) (w1.le r e1 (κ':=.old) rfl) fun v z=>z
   | loc=>exact fin _ (q8 _ _) (w1.le r e1 (κ':=.old) rfl) fun v z=>z
   | old=>exact fin _ (q8 _ _) w1 fun v z=>z
   | tmn=>exact fin _ (.refl _) w1.rep fun v z=>z
   | tmp=>exact fin _ (.refl _) w1 fun v z=>z
noncomputable def ka2 (K:Frag) (Cb:Addr) (Fc:List D -> R D):Sp:=fun vs H Q E=>∃ x dx ds v,vs = [.ref x,v] /\ H x = some (.ins Cb dx []) /\ Rep K (cfgB Cb) H (.lst ds) v /\ match Fc [.lst ds] with
 | .ok _=>noLs ds = true /\ ∀ l H' ys,H l = none -> (∀ b o,b ≠ x -> H b = some o -> H' b = some o) -> H' x = some (.ins Cb dx [("cells",.ref l)]) -> H' l = some (.lst ys) -> Reps K (cfgB Cb) H' ds ys -> Q .non H'
 | .ex c p=>∀ H',Same H H' -> exP E c p H'
 | .bad=>False
theorem qe2 {P:Program} {w:World} {K:Frag} {mg:Str -> Option Value} {base:Heap} {x qual:Str} {st:Stmt} {f:Addr} {fd:FuncData} {k:Nat} {Fc:List D -> R D} (F:Fun K x qual st f fd) (S:FnScope ["self","cells"] ["self","cells"] (j4 st)) (hC:Cls K Cb) (hA:NoAttr K Cb "cells")
  (hbody:∀ (cdv:Value) (A:Around) (outer:List Env) (s:Shared) (H:Hp) (E:XK),Room k (A.deeper (envOfC qual (j4 st) s.heap.objs.size f cdv)) ->
   PSs ((cxOf (CXr P w) P w K mg base ["self","cells"] qual (j4 st) f cdv A outer s H E).wish (Fly (cxOf (CXr P w) P w K mg base ["self","cells"] qual (j4 st) f cdv A outer s H E) fun _=>E)) (v3 st)
    (tSeq (qh2 (tD K (cfgB Cb) H [.par,.par] (fun _=>E) (dFn Fc (j2 (dVar 1) aNil)) κ)) (sFld K (tVar 0) (tD K (cfgB Cb) H [.par,.par] (fun _=>E) (dFn jl1 (j2 (dVar 1) aNil)) .new) "cells"))) :
  FnOk P w K mg base (CXr P w) (k + 1) f fd ["self","cells"] (ka2 K Cb Fc):=by
 refine jv3 F S (fun vs H Q E zz1=>by obtain ⟨x,dx,ds,v,h,_⟩:=zz1; rw [h]; rfl) fun cdv A outer s H vs Q E hr zz2=>?_
 refine x4_4 zz2 fun x dx ds v hvs hx hd q=>?_
 clear zz2
 subst hvs
 have r0:RS K (cfgB Cb) H [.par,.par] [some (.ref x),some v] H [] [none,some (.lst ds)]:=⟨by rw [jo9]; exact .refl _,fun a m=>(by cases m),rfl,fun i d h=>(by
  match i,h with
  | 1,h =>
   cases h
   exact ⟨.par,v,rfl,rfl,by show Rep _ _ (er H []) _ _; rw [jo9]; exact hd⟩),fun i j n m p ds es hij g1=>(by
  match i,g1 with
  | 0,g1=>cases g1
  | 1,g1=>cases g1)⟩
 refine ⟨_,hbody cdv A outer s H E hr,[],[none,some (.lst ds)],r0,?_⟩
 have hf:dFn Fc (j2 (dVar 1) aNil) [none,some (.lst ds)] = Fc [.lst ds]:=rfl
 rw [hf]
 cases hF:Fc [.lst ds] with
 | bad=>rw [hF] at q; exact q
 | ex c p=>rw [hF] at q; exact q
 | ok d0 =>
  rw [hF] at q
  obtain ⟨n,q⟩:=q
  intro v1 H1 e1 w1
  refine ⟨[],[none,some (.lst ds)],r0.mono e1,?_⟩
  have hg:dFn jl1 (j2 (dVar 1) aNil) [none,some (.lst ds)] = .ok (.lst ds):=by
   show jl1 [.lst ds] = _
   unfold jl1
   dsimp only
   rw [if_pos n]
  rw [hg]
  intro y H2 e2 w2
  refine x2_4 (w2.2 ds rfl) fun l ys zo2 nl hl rl=>?_
  obtain rfl:=zo2
  have hl2:H2 l = some (.lst ys):=U1 _ _ _ _ hl
  have e12:=e1.trans e2
  have hx2:H2 x = some (.ins Cb dx []):=e12 _ _ hx
  have nlx:l ≠ x:=fun z=>by rw [z,e1 _ _ hx] at nl; cases nl
  refine ⟨.ref x,rfl,x,Cb,dx,[],rfl,hx2,hC,hA,by show 0 < 1000; decide,?_⟩
  have keep:Same (er H2 [x]) (upd H2 x (.ins Cb dx (putF "cells" (.ref l) []))):=fun b o z=>by
   by_cases hb:b = x
   ·rw [hb,Z5 (.head _)] at z; cases z
   ·rw [v5 hb]
    rw [w6 (by simpa using hb)] at z; exact z
  refine q l _ ys (e1.free nl) (fun b o hb z=>by rw [v5 hb]; exact e12 _ _ z) J2 (by rw [v5 nlx]; exact hl2) ?_
  have rl2:Reps K (cfgB Cb) H2 ds ys:=rl.same ((q8 _ _).trans (U1 _ _)) _
  refine Reps.same keep _ (rl2.part ⟨q8 _ _,fun b xs z=>?_⟩ _ n)
  unfold Rd
  have:b ≠ x:=fun w=>by
   subst w
   rcases z with z | ⟨o,z⟩
   ·rw [hx2] at z; cases z
   ·rw [hx2] at z; cases z
  rw [w6 (by simpa using this)]; exact z
noncomputable def jm1 (Fc:List D -> R D):List D -> R D:=fun ds=>match ds with
 | [.lst es]=>(match Fc [.lst es] with | .ok _=>if noLs es = true then .ok (.brd 0 es) else .bad | .ex c p=>.ex c p | .bad=>.bad)
 | _=>.bad
theorem ku2 {X:Cx} {x:Str} {k:Nat} {fi:Addr} {fd:FuncData} {Fc:List D -> R D} {p:Pos} (M:Mk X.K Cb fi) (Fn:FnOk X.prog X.w X.K X.mg X.base (CXr X.prog X.w) k fi fd ["self","cells"] (ka2 X.K Cb Fc)) (hr:Room (k + 1) X.A) (hm:X.mg x = some (.ref Cb)) (hb:Binds X.K fd ["self","cells"] [])
  (ha:PA (X.wish (Fly X E)) [e] (tDA X.K (cfgB Cb) G0 Γ E fs κ)) (hg:Gl X x:=by rfl) (hdb:(x == ("__debug__" : Str)) = false:=by decide) (he:starEach [e] X.env = [(false,eval e X.env)]:=by rfl) :
  PE (X.wish (Fly X E)) (.Call (.Name x p) [e] [] pos) (tD X.K (cfgB Cb) G0 Γ E (dFn (jm1 Fc) fs) .new):=(kt8 M Fn hr hg hm hb ha hdb he).imp fun σ H Q zz=>by
 refine x2_2 zz fun A st r q=>?_
 clear zz
 refine ⟨A,st,r,?_⟩
 unfold dFn R.bind at q
 cases hf:fs st with
 | bad=>rw [hf] at q; exact q
 | ex c p=>rw [hf] at q; exact q
 | ok ds =>
  rw [hf] at q
  dsimp only at q
  intro vs H1 e1 w1 y dx hy hdx hne
  have s0:Same H1 (upd (upd H1 dx (.own y)) y (.ins Cb dx [])):=fun b o z=>by
   rw [v5 (v9 z hy),v5 (v9 z hdx)]; exact z
  match ds,q,w1 with
  | [.lst es],q,w1 =>
   refine x1_2 (jw0 w1) fun v zo1 wv=>?_
   obtain rfl:=zo1
   refine ⟨y,dx,es,v,rfl,J2,(wv.same Kd.hp_all _).same s0 _,?_⟩
   unfold jm1 at q
   dsimp only at q
   cases hF:Fc [.lst es] with
   | bad=>rw [hF] at q; exact q
   | ex c p=>rw [hF] at q; exact fun H' e'=>q H' ((e1.trans s0).trans e')
   | ok d0 =>
    rw [hF] at q
    dsimp only at q
    by_cases n:noLs es = true
    ·rw [if_pos n] at q
     refine ⟨n,fun l H' ys nl kp hx' hl' rp=>⟨rfl,?_⟩⟩
     have e':Same H1 H':=fun b o z=>kp b o (v9 z hy) (s0 b o z)
     have eH:=e1.trans e'
     have hy0:H y = none:=e1.free hy
     have hl0:H l = none:=e1.free (s0.free nl)
     refine q _ _ eH ⟨?_,fun ds' z=>by cases z⟩
     rw [Rep]
     refine ⟨y,ys,rfl,.inl (.inl ⟨rfl,dx,_,l,by rw [jj2 hy0]; exact hx',rfl,by rw [jj2 hl0]; exact hl'⟩),rp.part (.nw eH) _ n⟩
    ·rw [if_neg n] at q; exact q.elim
  | [],q,_=>exact q.elim
  | [.non],q,_=>exact q.elim
  | [.bl _],q,_=>exact q.elim
  | [.int _],q,_=>exact q.elim
  | [.str _],q,_=>exact q.elim
  | [.tup _],q,_=>exact q.elim
  | [.brd _ _],q,_=>exact q.elim
  | d1 :: d2 :: dr,q,_ =>
   have:jm1 Fc (d1 :: d2 :: dr) = .bad:=by unfold jm1; cases d1 <;> rfl
   rw [this] at q; exact q.elim
end
end Dm
end T_Bd
section T_Bt
namespace Dm
open PySem PySem.Spec PyProof.Rows L2 PySem.W
section
variable {X:Cx} {C:Cfg} {Cb:Addr} {G0:Hp} {Γ:List SK} {E:L2.St -> XK} {κr:Bool} {e a b c:Expr} {f fa fb fc:DF} {κ κ' κa κb κc:Kd} {es rest:List Expr} {fs:DA} {pos:Pos} {s:Stmt} {ss:List Stmt} {F G:DS}
theorem jo7 {P:L2.St -> Prop} {n:Nat}:∀ (es:List Expr) (out:Str) (m:Nat),(∀ e ∈ es,PStr X P n e) -> out.length + es.length * n <= m -> m <= 100000 -> ∀ (pins:List (Addr × Obj)) (s:Shared) (σ:L2.St) (H:Hp) (Q:Value -> Shared -> Prop) (Ex:Value -> Shared -> Prop),L2.Inv X pins σ H s -> P σ -> (∀ x t s',L2.Inv X pins σ H s' -> x.length <= m -> Q (.str x t) s') -> wpAny (model X.prog X.w) X.A (joinParts out (evalEach es X.env)) Q Ex s
 | [],out,m,_,hl,hm,pins,s,σ,H,Q,Ex,I,p,q=>joinParts_nil (q _ _ _ (I.tok _) (by simp at hl; lia)) (by rw [sizeLine_eq]; simp at hl; lia)
 | e :: es,out,m,h,hl,hm,pins,s,σ,H,Q,Ex,I,p,q=>by
  show wpAny _ _ (joinParts out (eval e X.env :: evalEach es X.env)) Q Ex s
  refine joinParts_cons (h e (.head _) pins s σ H _ Ex I p fun x t s' I' hx=>?_)
  have hlen:(out ++ x).length = out.length + x.length:=strLen_append out x
  rw [List.length_cons,Nat.add_mul,Nat.one_mul] at hl
  refine ⟨by rw [hlen,sizeLine_eq]; lia,?_⟩
  exact jo7 es (out ++ x) m (fun e' m'=>h e' (.tail _ m')) (by rw [hlen]; lia) hm pins s' σ H Q Ex I' p q
theorem js1 {P:L2.St -> Prop} {n:Nat} {v1 v2:Expr} {rest:List Expr} (h:∀ e ∈ v1 :: v2 :: rest,PStr X P n e) (hm:(v1 :: v2 :: rest).length * n <= 100000):PStr X P ((v1 :: v2 :: rest).length * n) (.JoinedStr (v1 :: v2 :: rest) pos):=fun pins s σ H Q Ex I p q =>
 JoinedStr_many (jo7 (v1 :: v2 :: rest) Str.empty _ h (by show 0 + _ <= _; lia) hm pins s σ H Q Ex I p q)
theorem jy3 {P:L2.St -> Prop} {n:Nat}:∀ e ∈ ([]:List Expr),PStr X P n e:=fun e h=>by cases h
theorem all_cons {P:L2.St -> Prop} {n:Nat} {e:Expr} {es:List Expr} (h:PStr X P n e) (t:∀ e ∈ es,PStr X P n e):∀ e' ∈ e :: es,PStr X P n e':=fun e' m=>by
 rcases List.mem_cons.mp m with rfl | m
 ·exact h
 ·exact t e' m
noncomputable def U0 (c:Addr):DS:=fun st=>.ex c none st
theorem Z9 {x:Str} {K0:Addr} {B newId initId:String} {bm:List Value} {np cpos:Pos} {e₀:Expr} {X:Cx} {n:Nat} (FB:ExcBaseFacts B newId initId bm) (hh:X.A.handled = none) (hm:X.mg x = some (.ref K0)) (hc:exB X.K K0 bm newId = true) (ha:PStr (X.wish (Fly X E)) (fun _=>True) n e₀) (hg:Gl X x:=by rfl)
  (he:starEach [e₀] X.env = [(false,eval e₀ X.env)]:=by rfl) (hd:(x == ("__debug__" : Str)) = false:=by decide) :
  PS (X.wish (Fly X E)) (.Raise (some (.Call (.Name x np) [e₀] [] cpos)) none pos) (tDS X.K C G0 Γ E κr (U0 K0)):=by
 have P1:PE (X.wish (Fly X E)) e₀ (fun σ H Q=>∀ x:Str,Q (.str x) H):=fun pins s σ H Q I q=>ha pins s σ H _ _ I trivial fun x t s' I' _=>⟨.str x,H,I',⟨t,rfl⟩,q x⟩
 refine (ks3 FB hh hm hc hg (jd4 P1 jm3 he) he rfl hd).imp fun D σ H zz1=>?_
 refine x2_2 zz1 fun A st r q=>?_
 clear zz1
 intro x
 exact ⟨jq9 (by show 1 <= 100; decide),q σ H A r (.refl _)⟩
end
end Dm
end T_Bt
section T_Gx
namespace Dm
open PySem PySem.Spec PyProof.Rows L2 PySem.W
theorem j1 {X:Cx} {C:Cfg} {G0:Hp} {Γ:List SK} {E:L2.St -> XK} {e:Expr} (i:Nat) (h:PE X e (tVar i)) (hk:Γ[i]? = some .par:=by rfl):PE X e (tD X.K C G0 Γ E (dVar i) .old):=kw1 i h hk
theorem km8 {X:Cx} {C:Cfg} {G0:Hp} {Γ:List SK} {E:L2.St -> XK} {e:Expr} (i:Nat) (h:PE X e (tVar i)) (hk:Γ[i]? = some (.own true):=by rfl):PE X e (tD X.K C G0 Γ E (dVar i) .tmn):=kw1 i h hk
theorem jf9 {X:Cx} {C:Cfg} {G0:Hp} {Γ:List SK} {E:L2.St -> XK} {a b:Expr} {fa fb:DF} {κa κb:Kd} {pos:Pos} (ha:PE X a (tD X.K C G0 Γ E fa κa)) (hb:PE X b (tD X.K C G0 Γ E fb κb)) (hs:jz2 b) (hk:κa.item = .old:=by rfl):PE X (.Subscript a b pos) (tD X.K C G0 Γ E (dOp gIx fa fb) .old):=hk ▸ qj9 ha hb hs
theorem jj6 {X:Cx} {Cb:Addr} {G0:Hp} {Γ:List SK} {E:L2.St -> XK} {a:Expr} {fa:DF} {κa:Kd} {pos:Pos} (hC:Cls X.K Cb) (hA:NoAttr X.K Cb "cells") (ha:PE X a (tD X.K (cfgB Cb) G0 Γ E fa κa)) (hb:attributeBase a ("cells" : Str) X.env (eval a X.env) = eval a X.env:=by rfl) (hk:κa.item = .old:=by rfl):PE X (.Attribute a "cells" pos) (tD X.K (cfgB Cb) G0 Γ E (dUn Y5 fa) .old):=hk ▸ kr4 hC hA ha hb
noncomputable def Fn1 (K:Frag) (mg:Str -> Option Value) (x qual:Str) (st:Stmt) (ps:List Str):Prop:=∃ a fd,Fun K x qual st a fd /\ mg x = some (.ref a) /\ Binds K fd ps []
noncomputable def AllL (n:Nat) (P:List Value -> Prop):Prop:=match n with | 0=>P [] | n + 1=>∀ u,AllL n fun us=>P (u :: us)
theorem allL {n:Nat} {P:List Value -> Prop} (h:AllL n P) {us:List Value} (hl:us.length = n):P us:=by
 subst hl
 induction us generalizing P with
 | nil=>exact h
 | cons u us ih=>exact ih (h u)
theorem jv0 {K:Frag} {x qual:Str} {st:Stmt} {f:Addr} {fd:FuncData} {ps:List Str} (F:Fun K x qual st f fd) (h:∀ (kV doc pm:Value) (an:Option Addr) (cdv ct:Value),AllL ps.length fun us=>bindArgs (PySem.W.fnOf x qual (w8 st) (v3 st) (j4 st) .none kV doc pm an cdv ct) ⟨us,[]⟩ = pure (ps.zip us)):Binds K fd ps []:=F.binds fun kV doc pm an cdv ct us hl=>allL (h kV doc pm an cdv ct) hl
theorem Q2 {K:Frag} {h:Heap} {mg:Str -> Option Value} {x:Str} {st:Stmt} {ps:List Str} {f:Addr} {oc:Value} {od an:Option Addr} {osl:Array (Option Value)} {kV doc pm cdv ct:Value} (X:K.In h) (G:h.Ns mainGlobals mg) (a:nsIn K mainGlobals x = some (some (.ref f))) (l:K.lookup f = some ⟨oc,od,.func (PySem.W.fnOf x x (w8 st) (v3 st) (j4 st) .none kV doc pm an cdv ct),osl⟩)
  (c:PySem.W.codeIn K cdv x = true) (k:PySem.W.keepIn K (.ref f) = true) (hb:∀ (kV doc pm:Value) (an:Option Addr) (cdv ct:Value),AllL ps.length fun us=>bindArgs (PySem.W.fnOf x x (w8 st) (v3 st) (j4 st) .none kV doc pm an cdv ct) ⟨us,[]⟩ = pure (ps.zip us)):Fn1 K mg x x st ps :=
 ⟨_,_,kd0 (st:=st) l c k,mg_of X G a,jv0 (kd0 (st:=st) l c k) hb⟩
structure FD (P:Program) (w:World) (K:Frag) (mg:Str -> Option Value) (base:Heap) (C:Cfg) (k:Nat) (x:Str) (ps:List Str) (n:Nat) (F:List D -> R D) (κ:Bool):Prop where
 ex:∃ a fd,FnOk P w K mg base (CXr P w) k a fd ps (spD K C n F κ) /\ mg x = some (.ref a) /\ keepIn K (.ref a) = true /\ Binds K fd ps [] /\ ∃ o,K.lookup a = some o /\ o.data = .func fd
theorem jr4 {K:Frag} {x qual:Str} {st:Stmt} {a:Addr} {fd:FuncData} (F:Fun K x qual st a fd):∃ o,K.lookup a = some o /\ o.data = .func fd:=by
 refine x9_3 F.ex fun oc od kV doc pm an cdv ct osl e lk hcd=>?_
 exact ⟨_,lk,rfl⟩
theorem Z7 {P:Program} {w:World} {K:Frag} {mg:Str -> Option Value} {base:Heap} {C:Cfg} {x qual:Str} {st:Stmt} {N ps:List Str} {Γ:List SK} {k n:Nat} {κr:Bool} {Fb:DS} (T:Fn1 K mg x qual st ps) (S:FnScope N ps (j4 st)) (hn:ps.length = n) (hΓ:∀ i,i < n -> Γ[i]? = some .par)
  (body:∀ (f:Addr) (cdv:Value) (A:Around) (outer:List Env) (s:Shared) (H:Hp) (E:XK),Room k (A.deeper (envOfC qual (j4 st) s.heap.objs.size f cdv)) ->
   PSs ((cxOf (CXr P w) P w K mg base N qual (j4 st) f cdv A outer s H E).wish (Fly (cxOf (CXr P w) P w K mg base N qual (j4 st) f cdv A outer s H E) fun _=>E)) (v3 st) (tDS K C H Γ (fun _=>E) κr Fb)) :
  FD P w K mg base C (k + 1) x ps n (v8 N.length Fb) κr:=by
 refine x2_3 T fun a fd Fu hm hb=>?_
 clear T
 exact ⟨a,fd,qj2 Fu S hn hΓ (body a),hm,Fu.kp,hb,jr4 Fu⟩
theorem j8 {X:Cx} {C:Cfg} {G0:Hp} {Γ:List SK} {E:L2.St -> XK} {e:Expr} {es:List Expr} {fs:DA} {κ:Kd} {pos p:Pos} {x:Str} {k j n:Nat} {ps:List Str} {F:List D -> R D} {κc:Bool} {κc':Kd} (Fn:FD X.prog X.w X.K X.mg X.base C k x ps n F κc) (hr:Room j X.A) (hj:k <= j)
  (ha:PA (X.wish (Fly X E)) (e :: es) (tDA X.K C G0 Γ E fs κ)) (hlen:∀ st ds,fs st = .ok ds -> ds.length = n) (hkc:qa2 κc = κc':=by rfl) (hg:Gl X x:=by rfl) (hdb:(x == ("__debug__" : Str)) = false:=by decide) (he:starEach (e :: es) X.env = (false,eval e X.env) :: starEach es X.env:=by rfl) (hpl:(backTo pos (starEach es X.env)).any (·.1) = false:=by rfl) :
  PE (X.wish (Fly X E)) (.Call (.Name x p) (e :: es) [] pos) (tD X.K C G0 Γ E (dFn F fs) κc'):=by
 refine x2_5 Fn.ex fun a fd h1 h2 h3 h4 _=>?_
 subst hkc
 exact kz9 h1 (hr.mono hj) h2 h3 h4 ha hlen hg hdb he hpl
theorem kf2 {P:Program} {w:World} {K:Frag} {mg:Str -> Option Value} {base:Heap} {x qual:Str} {st:Stmt} {f:Addr} {fd:FuncData} {N ps:List Str} {k:Nat} {sp:Sp} (F:Fun K x qual st f fd) (S:FnScope N ps (j4 st)) (len:∀ vs H Q E,sp vs H Q E -> vs.length = ps.length)
  (hbody:∀ (cdv:Value) (A:Around) (outer:List Env) (s:Shared) (H:Hp) (vs:List V) (Q:VK) (E:XK),Room k (A.deeper (envOfC qual (j4 st) s.heap.objs.size f cdv)) -> sp vs H Q E ->
   ∃ t,PSs0 ((cxOf (CXr P w) P w K mg base N qual (j4 st) f cdv A outer s H E).wish (Fly (cxOf (CXr P w) P w K mg base N qual (j4 st) f cdv A outer s H E) fun _=>E)) (v3 st) t /\ t { nx:=fun _ H'=>Q .non H',rt:=Q } (L2.start N vs) H) :
  FnOk P w K mg base (CXr P w) (k + 1) f fd ps sp:=by
 refine x9_3 F.ex fun oc od kV doc pm an cdv ct osl zo9 lk hcd=>?_
 obtain rfl:=zo9
 refine ⟨len,fun A outer s H args us vs Q E hr e0 hb r hsp=>?_⟩
 have hl:=len _ _ _ _ hsp
 have KX:K.In s.heap:=e0.mod.kin.keeps fun b o e=>(e0.bs b o e).1
 have lim:s.heap.NoLimit:=e0.mod.nolimit.keeps fun b o e=>(e0.bs b o e).1
 have hkind:∀ y ∈ ps.zip us,(j4 st).names.lookup y.1 = some .local \/ ((j4 st).names.lookup y.1 = some .cell /\ ((cellsFrom (s.heap.objs.size + 1) (j4 st).names []).lookup y.1).isSome = true):=fun zz1 hy=>by
  obtain ⟨n,v⟩:=zz1
  rcases S.par n (List.of_mem_zip hy).1 with q | q
  ·exact .inl q
  ·exact .inr ⟨q,PySem.W.cellsFrom_some _ _ _ (.inl q)⟩
 refine codeAny_call_function hr.depth (KX _ _ lk) rfl S.co S.gen rfl (PySem.W.codeRec_of KX hcd) (hb _ _ _ _ ?_)
 refine wpAny_newFunctionEnv_cells S.kind hkind fun env he s1 x=>?_
 subst he
 refine ⟨lim.keeps x.toInCall.keep,codeAny_func ?_⟩
 refine x1_2 (hbody cdv A outer s H vs Q E (hr.deeper _) hsp) fun t ht hq=>?_
 have I:L2.Inv (cxOf (CXr P w) P w K mg base N qual (j4 st) f cdv A outer s H E) [] (L2.start N vs) H s1:=jw2 S hr.hd e0 hl r x
 refine wpAny_mono (ht s1 (L2.start N vs) H _ (I.wish _) hq) (fun fl s' hs=>?_) fun e s' hs=>jx3 hs
 have hs:=SP.unwish hs
 have fin:∀ {σ':L2.St} {H':Hp} {v:V} {u:Value},L2.Inv (cxOf (CXr P w) P w K mg base N qual (j4 st) f cdv A outer s H E) [] σ' H' s' -> RelV v u -> Q v H' -> CE outer P w H s Q u s' :=
  fun {σ' H' v u} J rv q=>⟨v,H',J.os,J.bare,J.base,J.hok,rv,q⟩
 cases fl with
 | ret u =>
  refine x3_3 hs fun v σ' H' J rv q=>?_
  clear hs
  exact fin J rv q
 | next =>
  refine x2_2 hs fun σ' H' J q=>?_
  clear hs
  exact fin (v:=V.non) (u:=Value.none) J rfl q
 | brk =>
  refine x2_2 hs fun _ _ _ q=>?_
  clear hs
  exact False.elim q
 | cont =>
  refine x2_2 hs fun _ _ _ q=>?_
  clear hs
  exact False.elim q
theorem qg6 {P:Program} {w:World} {K:Frag} {C:Cfg} {Γ:List SK} {mg:Str -> Option Value} {base:Heap} {x qual:Str} {st:Stmt} {f:Addr} {fd:FuncData} {N ps:List Str} {k n:Nat} {κr:Bool} {Fb:DS} (F:Fun K x qual st f fd) (S:FnScope N ps (j4 st)) (hn:ps.length = n) (hΓ:∀ i,i < n -> Γ[i]? = some .par)
  (body:∀ (cdv:Value) (A:Around) (outer:List Env) (s:Shared) (H:Hp) (E:XK),Room k (A.deeper (envOfC qual (j4 st) s.heap.objs.size f cdv)) ->
   PSs0 ((cxOf (CXr P w) P w K mg base N qual (j4 st) f cdv A outer s H E).wish (Fly (cxOf (CXr P w) P w K mg base N qual (j4 st) f cdv A outer s H E) fun _=>E)) (v3 st) (tDS K C H Γ (fun _=>E) κr Fb)) :
  FnOk P w K mg base (CXr P w) (k + 1) f fd ps (spD K C n (v8 N.length Fb) κr):=by
 refine kf2 F S (fun vs H Q E zz2=>by obtain ⟨ds,h1,h2,_⟩:=zz2; rw [h2.len,h1,hn]) fun cdv A outer s H vs Q E hr zz3=>?_
 refine x1_3 zz3 fun ds h1 h2 q=>?_
 clear zz3
 refine ⟨_,body cdv A outer s H E hr,[],_,kc1 h1 hΓ h2,?_⟩
 unfold v8 at q
 cases hf:Fb (ds.map some ++ List.replicate (N.length - ds.length) none) with
 | nx st' =>
  rw [hf] at q
  intro σ' H' A' r' e'
  refine q .non H' (r'.g0) ?_
  have R:∀ H:Hp,Rep K C H .non .non:=fun H=>by rw [Rep]
  cases κr with
  | true=>exact ⟨R (nw H H'),fun ds z=>by cases z⟩
  | false=>exact R H'
 | bk st'=>rw [hf] at q; exact q.elim
 | ct st'=>rw [hf] at q; exact q.elim
 | rt d=>rw [hf] at q; exact q
 | ex c p st'=>rw [hf] at q; exact fun σ' H' A' r' e'=>q H' r'.g0
 | bad=>rw [hf] at q; exact q.elim
theorem qk5 {P:Program} {w:World} {K:Frag} {mg:Str -> Option Value} {base:Heap} {C:Cfg} {x qual:Str} {st:Stmt} {N ps:List Str} {Γ:List SK} {k n:Nat} {κr:Bool} {Fb:DS} (T:Fn1 K mg x qual st ps) (S:FnScope N ps (j4 st)) (hn:ps.length = n) (hΓ:∀ i,i < n -> Γ[i]? = some .par)
  (body:∀ (f:Addr) (cdv:Value) (A:Around) (outer:List Env) (s:Shared) (H:Hp) (E:XK),Room k (A.deeper (envOfC qual (j4 st) s.heap.objs.size f cdv)) ->
   PSs0 ((cxOf (CXr P w) P w K mg base N qual (j4 st) f cdv A outer s H E).wish (Fly (cxOf (CXr P w) P w K mg base N qual (j4 st) f cdv A outer s H E) fun _=>E)) (v3 st) (tDS K C H Γ (fun _=>E) κr Fb)) :
  FD P w K mg base C (k + 1) x ps n (v8 N.length Fb) κr:=by
 refine x2_3 T fun a fd Fu hm hb=>?_
 clear T
 exact ⟨a,fd,qg6 Fu S hn hΓ (body a),hm,Fu.kp,hb,jr4 Fu⟩
theorem qj8 {cl cs:List (Str × Addr)} (h:∀ p ∈ cl,cs.lookup p.1 = some p.2):∀ x c,cl.lookup x = some c -> cs.lookup x = some c:=fun x c e=>by
 induction cl with
 | nil=>cases e
 | cons p cl ih =>
  obtain ⟨n,a⟩:=p
  rw [List.lookup_cons] at e
  by_cases hx:(x == n) = true
  ·rw [hx] at e
   cases e
   rw [beq_iff_eq.mp hx]
   exact h (n,c) (.head _)
  ·rw [Bool.not_eq_true] at hx
   rw [hx] at e
   exact ih (fun q m=>h q (.tail _ m)) e
theorem jo5 {β:Type} {x:Str} {k:β}:∀ {names:List (Str × β)},names.lookup x = some k -> (x,k) ∈ names
 | [],e=>by cases e
 | (n,k') :: ns,e=>by
  rw [List.lookup_cons] at e
  by_cases hx:(x == n) = true
  ·rw [hx] at e
   cases e
   rw [beq_iff_eq.mp hx]; exact .head _
  ·rw [Bool.not_eq_true] at hx
   rw [hx] at e
   exact .tail _ (jo5 e)
theorem qd7 {names:List (Str × NameKind)} {cl:List (Str × Addr)} (h:(names.all fun p=>(p.2 != .cell && p.2 != .free) || (cl.lookup p.1).isSome) = true):∀ x,(names.lookup x = some .cell \/ names.lookup x = some .free) -> ∃ c,cl.lookup x = some c:=fun x e=>by
 have go:∀ {k:NameKind},names.lookup x = some k -> (k != .cell && k != .free) = false -> ∃ c,cl.lookup x = some c:=fun {k} e hk=>by
  have:=List.all_eq_true.mp h _ (jo5 e)
  dsimp only at this
  rw [hk,Bool.false_or] at this
  exact Option.isSome_iff_exists.mp this
 rcases e with e | e
 ·exact go e rfl
 ·exact go e rfl
theorem kr7 {X:Cx} {C:Cfg} {G0:Hp} {Γ:List SK} {E:L2.St -> XK} {tg iter elt:Expr} {ifs:List Expr} {scope:Scope} {cl:List (Str × Addr)} {pos:Pos} {g:TG} {bind:DB} {gi:DI} {ft fe:DF} {κe κc:Kd} {n z:Bool} {tgs:List Str} {caps:List (Nat × Str)} {kk:Nat} {fr:List Nat}
  (hsrc:PI X tg iter (tDI X.K C G0 Γ E z gi)) (b:Blk X C G0 Γ tg elt ifs scope cl g bind ft fe κe n z tgs caps) (hs:∀ x,foldedSetIterable iter X.env x = pure x:=by intro _; rfl) (hk:kn3 z n = κc:=by rfl) (h1:tgs.length = kk:=by rfl) (h2:caps.map (·.1) = fr:=by rfl) :
  PE X (.ListComp elt [⟨tg,iter,ifs,0⟩] scope pos) (tD X.K C G0 Γ E (kd8 gi kk fr bind ft fe) κc):=by
 subst hk; subst h1; subst h2
 exact kz0 hsrc b hs
theorem hobB {Cb:Addr} (c:Addr) (p:Option Int) (K:Frag) (H:Hp) (a:Addr) (h:ObX c p H a):(cfgB Cb).ob (xTag c) K H a (payV p):=by
 cases p with
 | none=>exact .inl (.inr ⟨c,rfl,.inl ⟨rfl,h⟩⟩)
 | some n =>
  obtain ⟨dx,h1,h2⟩:=h
  exact .inl (.inr ⟨c,rfl,.inr ⟨n,dx,rfl,h1,h2⟩⟩)
end Dm
end T_Gx
section T_En
namespace Dm
open PySem PySem.Spec PyProof.Rows L2
noncomputable def Ite (K:PySem.W.Frag) (a:Addr):It :=
 ⟨fun i H=>∃ xs x,SqL K H a xs /\ xs[i]? = some x,fun i H x H'=>∃ T y,H T = none /\ H' = upd H T (.tup [.int i,y]) /\ x = .ref T /\ ∀ xs,SqL K H a xs -> xs[i]? = some y,fun i H=>∃ xs,SqL K H a xs /\ xs.length <= i⟩
theorem ki1 {P:Program} {w:World} {K:PySem.W.Frag} {elts:List Expr} {x1} {pos:Pos} (a e it:Addr) (hei:e ≠ it):Turn P w K (.Tuple elts x1 pos) (Ite K a) [e,it] e (fun i h=>(∃ old,IsEnum h e it i old) /\ h.IsListIter it a i) where
 mem:=by simp
 obj:=fun i h st b hb=>by
  obtain ⟨⟨old,he⟩,o,ho,c,d⟩:=st
  rcases List.mem_cons.mp hb with rfl | hb
  ·exact ⟨_,he,fun v z=>by cases z⟩
  ·obtain rfl:b = it:=by simpa using hb
   exact ⟨o,ho,fun v z=>by rw [d] at z; cases z⟩
 keep:=fun i h h' st k=>⟨st.1.imp fun old he=>k e (by simp) _ he,st.2.at fun o z=>k it (by simp) o z⟩
 item:=by
  intro X hP hw hK hc i pins s σ H E I hf st hg
  subst hP hw hK
  obtain ⟨⟨old,he⟩,hit⟩:=st
  refine x2_2 hg fun xs x hq hx=>?_
  clear hg
  refine x1_3 (I.list hq) fun its rv p hz=>?_
  refine x1_2 (rv.get hx) fun u hu ru=>?_
  have fe:=hf e (by simp)
  have fi:=hf it (by simp)
  have hn:H s.heap.objs.size = none:=I.hok.fresh (Nat.le_refl _)
  refine wpAny_pyNext_enum_item he hit p.isList (x:=u) (by simpa using hu) hei fun h' ho hit' hT hsz hk=>⟨_,rfl,?_⟩
  have kp:∀ b o,b ∉ [e,it] -> s.heap.get? b = some o -> h'.get? b = some o:=fun b o hb q=>hk b o (fun z=>hb (by simp [z])) (fun z=>hb (by simp [z])) q
  have lt:∀ b o,s.heap.get? b = some o -> b ≠ s.heap.objs.size:=fun b o q=>Nat.ne_of_lt (Heap.lt_size q)
  have I1:L2.Inv X pins σ (upd H s.heap.objs.size (.tup [.int i,x])) { s with heap:=h',toks:=s.toks + 1 }:=by
   refine Inv.call' I (s':={ s with heap:=h',toks:=s.toks + 1 }) (ch:=[e,it]) rfl ⟨fun b o q n nf nx=>kp b o nx q,fun b o q n nf nx=>⟨o.slots,kp b o nx q⟩,fun b o q n nx=>?_,fun b o q nx=>⟨o,kp b o nx q⟩,fun b ys q=>?_,fun b o u' q=>?_,fun b ps q=>⟨#[],?_⟩⟩ (fun b o q=>?_) I.bare (fun b hb=>?_)
   ·rw [v5 (lt b o q)]; exact n
   ·rw [v5 (v9 q hn)]; exact q
   ·rw [v5 (v9 q hn)]; exact q
   ·rw [v5 (v9 q hn),q]; simp
   ·by_cases hb:b = s.heap.objs.size
    ·subst hb
     rw [J2] at q; cases q
     exact ⟨by simp only [List.length_cons,List.length_nil]; rw [sizeLine_eq]; decide,[.int i s.toks,u],.cons ⟨_,rfl⟩ (.cons ru .nil),⟨_,hT,rfl,0,rfl⟩⟩
    ·rw [v5 hb] at q
     refine (I.hok b o q).stay (fun c v hc' z=>kp c v ?_ z) (fun c z=>by rw [v5 (v9 z hn)]; exact z) fun c ys z=>by rw [v5 (v9 z hn)]; exact z
     intro hm
     rcases List.mem_cons.mp hm with rfl | hm
     ·rcases hc' with rfl | hc'
      ·rw [fe.1] at q; cases q
      ·rw [fe.1] at hc'; cases hc'
     ·obtain rfl:c = it:=by simpa using hm
      rcases hc' with rfl | hc'
      ·rw [fi.1] at q; cases q
      ·rw [fi.1] at hc'; cases hc'
   ·refine x0_6 (hf b hb) fun f0 f1 f2 f3 f4 f5=>?_
    exact ⟨f3,f1,f4,f5⟩
  have ne:e ≠ s.heap.objs.size:=lt e _ he
  have ni:it ≠ s.heap.objs.size:=by obtain ⟨o,z,_⟩:=hit; exact lt it _ z
  refine x0_6 fe fun f0 f1 f2 f3 f4 f5=>?_
  clear fe
  refine wpAny_letOwnedTupleGo_enum ho fun h2 he2 hs2=>?_
  have I2:L2.Inv X pins σ (upd H s.heap.objs.size (.tup [.int i,x])) { s with heap:=h2,toks:=s.toks + 1 }:=I1.turned (t':=s.toks + 1) (fun b o hb q=>(hs2.2 b hb).trans q) (by rw [v5 ne]; exact f0) f1 f3 f4 f5
  refine ⟨.ref s.heap.objs.size,_,I2,rfl,⟨_,x,hn,rfl,rfl,fun ys hy=>by rw [I.list_inj hy hq]; exact hx⟩,⟨⟨u,by simpa using he2⟩,hit'.at fun o z=>(hs2.2 it (Ne.symm hei)).trans z⟩,fun b hb=>?_⟩
  rcases List.mem_cons.mp hb with rfl | hb
  ·rw [v5 ne]; exact f0
  ·obtain rfl:b = it:=by simpa using hb
   rw [v5 ni]; exact fi.1
 done:=by
  intro X hP hw hK hc i pins s σ H E I hf st hg
  subst hP hw hK
  obtain ⟨⟨old,he⟩,hit⟩:=st
  refine x1_2 hg fun xs hq hx=>?_
  clear hg
  refine x1_3 (I.list hq) fun its rv p hz=>?_
  refine x0_6 (hf it (by simp)) fun f0 f1 f2 f3 f4 f5=>?_
  have hl:=rv.length
  exact wpAny_pyNext_enum_end (I.ok.hd hc) he hit p.isList (Array.getElem?_eq_none (by simp; lia)) fun h' eb=>⟨rfl,I.turned (t':=s.toks) (fun b o hb e=>eb b o hb e) f0 f1 f3 f4 f5⟩
 self:=fun _ _ _ _ _ st h=>by
  obtain ⟨⟨old,he⟩,_⟩:=st
  exact wpAny_pyIter_enum he h
noncomputable def iEn (K:PySem.W.Frag) (ta:TA):TI:=fun σ H R=>ta σ H fun vs H1=>∃ a,vs = [.ref a] /\ (∃ xs,SqL K H1 a xs) /\ R (Ite K a) H1
theorem kj9:bootBuiltins "enumerate" = some (.type "enumerate"):=by decide +kernel
section
variable {X:Cx} {C:Cfg} {G0:Hp} {Γ:List SK} {E:L2.St -> XK} {iter elt a tg:Expr} {f:DF} {fs:DA} {κ:Kd} {pos:Pos} {z:Bool} {elts:List Expr} {x1:Nat} {F:DS} {κr:Bool} {ss:List Stmt}
theorem qg2 {p pos tp:Pos} {ta:TA} (hg:Gl X "enumerate") (hm:X.mg "enumerate" = none) (ha:PA X [a] ta) (hs:starEach [a] X.env = [(false,eval a X.env)]:=by rfl):PI X (.Tuple elts x1 tp) (.Call (.Name "enumerate" p) [a] [] pos) (iEn X.K ta):=by
 intro pins s σ H R I h
 refine Call_ (kc9 I hg hm kj9 (PyProof.Rows.callWith_type1 (thn (ha pos pins s σ H _ I h) fun us s1 zz1=>?_) hs rfl))
 refine x2_3 zz1 fun vs H1 I1 r1 q1=>?_
 clear zz1
 refine x1_3 q1 fun a e zo2 q=>?_
 clear q1
 obtain ⟨xs,hq⟩:=zo2
 subst e
 cases r1 with
 | cons r rr =>
  cases rr
  cases r
  refine x1_3 (I1.list hq) fun its rv p hz=>?_
  refine call_enumerate_list p.isList fun h' he hit hsz hk=>wpAny_pyIter_enum he ?_
  have I2:L2.Inv X pins σ H1 { s1 with heap:=h' }:=I1.kept (t':=s1.toks) hk
  refine ⟨s1.heap.objs.size + 1,[s1.heap.objs.size + 1,s1.heap.objs.size],_,_,H1,rfl,I2,ki1 a _ _ (Nat.succ_ne_self _),⟨⟨.none,he⟩,hit⟩,fun b hb=>?_,q⟩
  have hb':s1.heap.objs.size <= b:=by
   rcases List.mem_cons.mp hb with rfl | hb
   ·exact Nat.le_succ _
   ·obtain rfl:b = s1.heap.objs.size:=by simpa using hb
    exact Nat.le_refl _
  exact I1.fpOk hb' (I1.hok.fresh hb')
noncomputable def enD (ds:List D):List D:=ds.mapIdx fun i d=>.tup [.int i,d]
noncomputable def iEnu (f:DF):DI:=fun st=>match f st with | .ok (.lst ds)=>.ok (enD ds) | .ok _=>.bad | .ex c p=>.ex c p | .bad=>.bad
theorem qc6 {p tp:Pos} (hm:X.mg "enumerate" = none) (ha:PE X a (tD X.K C G0 Γ E f κ)) (l:z = true -> κ.le .old = true) (hgl:Gl X "enumerate":=by rfl) (hs1:starEach [a] X.env = [(false,eval a X.env)]:=by rfl):PI X (.Tuple elts x1 tp) (.Call (.Name "enumerate" p) [a] [] pos) (tDI X.K C G0 Γ E z (iEnu f)):=(qg2 hgl hm (jd4 ha jm3 hs1) hs1).imp fun σ H Q zz=>by
 refine x2_2 zz fun A st r q=>?_
 clear zz
 refine ⟨A,st,r,?_⟩
 unfold iEnu at q
 cases hf:f st with
 | bad=>rw [hf] at q; exact q
 | ex c p=>rw [hf] at q; exact q
 | ok d =>
  rw [hf] at q
  cases d with
  | lst ds =>
   dsimp only at q
   intro v H1 e1 w
   have w':Rep X.K C (er H1 (zB z A)) (.lst ds) v:=by
    unfold zB
    cases z with
    | true=>exact w.le r e1 (κ':=.old) (l rfl)
    | false=>rw [if_neg (by decide),jo9]; exact w.rep
   rw [Rep] at w'
   refine x2_3 w' fun a xs zo2 h2 h3=>?_
   clear w'
   obtain rfl:=zo2
   refine ⟨a,rfl,⟨xs,(q8 _ _).seq h2⟩,q _ _ e1 fun i H3 A3 e3 nA=>⟨fun d hd=>?_,fun hd=>?_⟩⟩
   ·unfold enD at hd
    rw [List.getElem?_mapIdx] at hd
    cases hd0:ds[i]? with
    | none=>rw [hd0] at hd; cases hd
    | some d0 =>
     rw [hd0] at hd; cases hd
     refine x1_2 (h3.get' hd0) fun v hv rv=>?_
     have s3:SqL X.K H3 a xs:=(e3.trans (q8 _ _)).seq h2
     refine ⟨⟨xs,v,s3,hv⟩,fun x H' zz2=>?_⟩
     refine x2_4 zz2 fun T y hT hH ex hx=>?_
     clear zz2
     subst hH ex
     have:=hx xs s3
     rw [hv] at this; cases this
     have nT:T ∉ A3:=fun m=>nA T m hT
     refine ⟨U6 hT,?_⟩
     have up:Same (er H3 A3) (er (upd H3 T (.tup [.int i,v])) A3):=q0 (U6 hT)
     rw [Rep]
     refine ⟨T,_,rfl,.inl (.inl (by rw [w6 nT,J2])),?_⟩
     rw [Reps]
     refine ⟨.int i,[v],rfl,repI,?_⟩
     rw [Reps]
     refine ⟨v,[],rfl,rv.same ((q8 _ _).trans (e3.trans up)) _,?_⟩
     rw [Reps]
   ·unfold enD at hd
    rw [List.getElem?_mapIdx] at hd
    refine ⟨xs,(e3.trans (q8 _ _)).seq h2,by rw [h3.len]; exact List.getElem?_eq_none_iff.mp (by cases hd0:ds[i]? with | none=>rfl | some d=>rw [hd0] at hd; cases hd)⟩
  | _=>exact q.elim
end
end Dm
end T_En
section T_Ru
namespace Dm
open PySem PySem.Spec PyProof.Rows L2 PySem.W
noncomputable def dBad:DS:=fun _=>.bad
section
variable {X:Cx} {C:Cfg} {G0:Hp} {Γ:List SK} {E:L2.St -> XK} {κr:Bool} {ss:List Stmt} {a b e:Expr} {fa fb:DF} {κa κb κ:Kd} {pos:Pos} {Cb:Addr}
theorem jc5:PSs X ss (tDS X.K C G0 Γ E κr dBad):=fun pins s σ H D I zz1=>zz1.elim fun A zz2=>zz2.elim fun st zz3=>zz3.elim fun r q=>q.elim
noncomputable def gIsy (ans:Addr -> Option Bool):D -> R D:=fun d=>match d with
 | .brd t _=>if 2 <= t then (match ans (t - 2) with | some b=>.ok (.bl b) | none=>.bad) else .bad
 | _=>.bad
theorem qc8 {ans:Addr -> Option Bool} {d z:D} (h:gIsy ans d = .ok z):∃ t ds b,d = .brd t ds /\ 2 <= t /\ ans (t - 2) = some b /\ z = .bl b:=by
 unfold gIsy at h
 split at h
 ·rename_i t ds
  split at h
  ·rename_i h2
   split at h
   ·rename_i b hb; cases h; exact ⟨t,_,b,rfl,h2,hb,rfl⟩
   ·cases h
  ·cases h
 ·cases h
theorem qc0 {ans:Addr -> Option Bool} {d:D} {c:Addr} {p:Option Int}:gIsy ans d ≠ .ex c p:=by
 unfold gIsy
 split
 ·split
  ·split <;> exact fun h=>by cases h
  ·exact fun h=>by cases h
 ·exact fun h=>by cases h
theorem kz8 {tv:V} {u cv:Value} {K:Frag} {c:Addr} {b:Bool} (h1:RelV tv u) (h2:RelV tv cv) (k:kitOne K (.ref c) cv = some b):u = cv:=by
 cases tv with
 | ty n=>exact (show u = Value.type n from h1).trans (show cv = Value.type n from h2).symm
 | ref n=>exact (show u = Value.ref n from h1).trans (show cv = Value.ref n from h2).symm
 | non=>exact (show u = Value.none from h1).trans (show cv = Value.none from h2).symm
 | bl n=>exact (show u = Value.bool n from h1).trans (show cv = Value.bool n from h2).symm
 | int n=>exact absurd k (by obtain ⟨t,ht⟩:=(show ∃ t,cv = Value.int n t from h2); rw [ht]; simp [kitOne,kitCls])
 | str n=>exact absurd k (by obtain ⟨t,ht⟩:=(show ∃ t,cv = Value.str n t from h2); rw [ht]; simp [kitOne,kitCls])
 | byt n=>exact absurd k (by obtain ⟨t,ht⟩:=(show ∃ t,cv = Value.bytes n t from h2); rw [ht]; simp [kitOne,kitCls])
 | flt n=>exact absurd k (by obtain ⟨t,ht⟩:=(show ∃ t,cv = Value.float n t from h2); rw [ht]; simp [kitOne,kitCls])
theorem kh5 {tv:V} {cv:Value} {pc:Expr} {p1:Pos} {ans:Addr -> Option Bool} (hans:∀ c b,ans c = some b -> kitOne X.K (.ref c) cv = some b /\ ExC X.K c) (hrel:RelV tv cv) (hP:PE X pc (tC tv)) (hm:X.mg "isinstance" = none) (ha:PE X a (tD X.K (cfgB Cb) G0 Γ E fa κa))
  (hg:Gl X "isinstance":=by rfl) (h1:starEach [a,pc] X.env = [(false,eval a X.env),(false,eval pc X.env)]:=by rfl) (h2:starEach [pc] X.env = [(false,eval pc X.env)]:=by rfl) :
  PE X (.Call (.Name "isinstance" p1) [a,pc] [] pos) (tD X.K (cfgB Cb) G0 Γ E (dUn (gIsy ans) fa) .new):=by
 have hcall:CallR X (.builtin "isinstance") (fun xs H Q=>∃ p c b,xs = [.ref p,tv] /\ (H p = some (.ext (ClsAt p (.ref c))) \/ ∃ dx,H p = some (.ext (ClsX p c dx))) /\ ans c = some b /\ Q (.bl b) H):=fun pins s σ H xs us Q I r zz4=>by
  refine x3_4 zz4 fun p c b hx hH hc q=>?_
  clear zz4
  subst hx
  refine x2_3 (qq2 r) fun u w' zo2 ru rw'=>?_
  obtain rfl:=zo2
  cases (show u = Value.ref p from ru)
  obtain ⟨hk,hx⟩:=hans c b hc
  have hw:w' = cv:=kz8 rw' hrel hk
  subst hw
  have ca:ClsAt p (.ref c) s.heap:=by
   rcases hH with hH | ⟨dx,hH⟩
   ·exact (I.hok p _ hH).1
   ·exact ClsX.at_ (I.hok p _ hH).1
  exact qa7 hx I.kIn ca hk fun tk=>⟨.bl b,H,I.tok _,rfl,q⟩
 refine (Q3 hcall hg hm (by decide +kernel) (jd4 ha (jd4 hP jm3 h2) (by rw [h1,h2])) (by decide) (by decide) (by rw [h1,h2]) (by rw [h2]; rfl)).imp fun σ H Q zz5=>zz5.elim fun A zz6=>zz6.elim fun st zz7=>zz7.elim fun r q=>⟨A,st,r,?_⟩
 unfold dUn R.bind at q
 cases hf:fa st with
 | bad=>rw [hf] at q; exact q
 | ex c p=>rw [hf] at q; exact q
 | ok d =>
  rw [hf] at q
  dsimp only at q
  intro x H1 e1 w1
  cases hz:gIsy ans d with
  | bad=>rw [hz] at q; exact q.elim
  | ex c p=>exact absurd hz qc0
  | ok z =>
   rw [hz] at q
   obtain ⟨t,ds,b,rfl,h0,hb,rfl⟩:=qc8 hz
   have w:=w1.rep
   rw [Rep] at w
   refine x2_3 w fun a xs zo2 h2 _=>?_
   clear w
   obtain rfl:=zo2
   rcases h2 with (⟨h0',_⟩ | ⟨c,h3,h4⟩) | ⟨h0',_⟩
   ·lia
   rotate_left
   ·lia
   ·have:t - 2 = c:=by rw [h3]; rfl
    exact ⟨a,c,b,rfl,h4.elim (fun z=>.inl z.2) fun ⟨_,dx,_,z,_⟩=>.inr ⟨dx,z⟩,by rw [<- this]; exact hb,q _ H1 e1 (.flat r e1 (by rw [noL] <;> simp) repB _)⟩
noncomputable def gRep:D -> D -> R D:=fun a b=>match a,b with
 | .lst ds,.int k=>if (noLs ds && decide (0 <= k) && decide (k < 1000) && decide (ds.length * k.toNat <= 1000)) = true then .ok (.lst (List.replicate k.toNat ds).flatten) else .bad
 | _,_=>.bad
theorem kb5 {K:Frag} {H:Hp}:∀ {ds es:List D} {xs ys:List V},Reps K C H ds xs -> Reps K C H es ys -> Reps K C H (ds ++ es) (xs ++ ys)
 | [],es,xs,ys,h,h'=>by rw [Reps] at h; subst h; exact h'
 | d :: ds,es,xs,ys,h,h'=>by
  rw [Reps] at h
  refine x2_3 h fun v r zo2 q t=>?_
  clear h
  obtain rfl:=zo2
  exact .cons q (kb5 t h')
theorem kb0 {K:Frag} {H:Hp} {ds:List D} {xs:List V} (h:Reps K C H ds xs):∀ n:Nat,Reps K C H (List.replicate n ds).flatten (List.replicate n xs).flatten
 | 0=>.nil
 | n + 1=>by
  rw [List.replicate_succ,List.replicate_succ,List.flatten_cons,List.flatten_cons]
  exact kb5 h (kb0 h n)
theorem kx8 (ha:PE X a (tD X.K C G0 Γ E fa .new)) (hb:PE X b (tD X.K C G0 Γ E fb κb)):PE X (.BinOp a .Mult b pos) (tD X.K C G0 Γ E (dOp gRep fa fb) .new):=(qo5 qk7 ha hb).imp fun σ H Q zz=>by
 refine x2_2 zz fun A st r q=>?_
 clear zz
 refine ⟨A,st,r,?_⟩
 unfold dOp R.bind at q
 cases ha:fa st with
 | bad=>rw [ha] at q; exact q
 | ex c p=>rw [ha] at q; exact q
 | ok a =>
  rw [ha] at q
  intro x H1 e1 w1
  refine ⟨A,st,r.mono e1,?_⟩
  dsimp only at q
  cases hb:fb st with
  | bad=>rw [hb] at q; exact q
  | ex c p=>rw [hb] at q; exact fun H' e'=>q H' (e1.trans e')
  | ok b =>
   rw [hb] at q
   intro y H2 e2 w2
   dsimp only at q
   match a,b,q,w1,w2 with
   | .lst ds,.int k,q,w1,w2 =>
    unfold gRep at q
    dsimp only at q
    split at q
    ·rename_i z hz
     split at hz
     ·rename_i hc
      cases hz
      simp only [Bool.and_eq_true,decide_eq_true_eq] at hc
      obtain ⟨⟨⟨c1,c2⟩,c3⟩,c4⟩:=hc
      obtain ⟨_,tp⟩:=w1
      refine x2_4 (tp ds rfl) fun p xs zo2 hn hp rp=>?_
      obtain rfl:=zo2
      have wy:=w2.rep
      rw [Rep] at wy
      subst wy
      have hp2:H2 p = some (.lst xs):=e2 p _ (U1 _ _ p _ hp)
      have rp2:Reps X.K C H2 ds xs:=rp.same (((q8 _ _).trans (U1 _ _)).trans e2) _
      refine ⟨p,k,xs,rfl,rfl,hp2,by lia,by lia,?_,fun l hl=>?_⟩
      ·have:xs.length = ds.length:=rp.len
       rw [this,sizeLine_eq]
       exact Nat.le_trans c4 (by decide)
      ·have nf:noLs (List.replicate k.toNat ds).flatten = true:=Z0 fun d hd=>by
        refine x1_2 (List.mem_flatten.mp hd) fun l' hl' hd'=>?_
        rw [List.eq_of_mem_replicate hl'] at hd'
        exact jb2 c1 hd'
       exact q _ _ ((e1.trans e2).trans (U6 hl)) (.lst r (e1.trans e2) hl ((kb0 rp2 k.toNat).part (.nw (e1.trans e2)) _ nf))
     ·cases hz
    ·rename_i z hz
     split at hz <;> cases hz
    ·exact q.elim
noncomputable def isI:D -> Bool | .int _=>true | _=>false
noncomputable def isTI:D -> Bool | .tup (.int _ :: _)=>true | _=>false
noncomputable def isTT:D -> Bool | .tup (.tup _ :: _)=>true | _=>false
noncomputable def ke9 (ds:List D):Bool:=decide (ds.length < 64) && noLs ds && ds.all (fun d=>nl d && decide (dep d <= 50)) && ds.all (fun a=>ds.all fun b=>shp a b) && (ds.all isI || ds.all isTI || ds.all isTT)
theorem kt9 {ds:List D} (h:ke9 ds = true):Sortable ds:=by
 unfold ke9 at h
 simp only [Bool.and_eq_true,Bool.or_eq_true,decide_eq_true_eq,List.all_eq_true] at h
 obtain ⟨⟨⟨⟨h1,h2⟩,h3⟩,h4⟩,h5⟩:=h
 refine ⟨?_,h1,fun a ha b hb=>h4 a ha b hb,fun a ha=>(h3 a ha).1,fun a ha=>(h3 a ha).2⟩
 rcases h5 with (h5 | h5) | h5
 ·exact ⟨_,.nums fun d hd=>by have:=h5 d hd; unfold isI at this; split at this; exact ⟨_,rfl⟩; cases this⟩
 ·exact ⟨_,.tups fun d hd=>by have:=h5 d hd; unfold isTI at this; split at this; exact ⟨_,_,rfl⟩; cases this⟩
 ·exact ⟨_,.tupt fun d hd=>by have:=h5 d hd; unfold isTT at this; split at this; exact ⟨_,_,rfl⟩; cases this⟩
noncomputable def jl8:List D -> R D:=fun ds=>match ds with
 | [.lst es]=>if ke9 es = true then .ok (.lst (ja3 es)) else .bad
 | _=>.bad
theorem ki5 {K:Frag}:FnD K C (ky3 K C) jl8 .new:=fun G0 Γ E σ A st H ds xs Q r w q=>by
 cases hg:jl8 ds with
 | bad=>rw [hg] at q; exact q.elim
 | ex c p=>unfold jl8 at hg; split at hg <;> (try split at hg) <;> cases hg
 | ok d =>
  rw [hg] at q
  unfold jl8 at hg
  split at hg
  ·rename_i es
   split at hg
   ·rename_i hc
    cases hg
    refine x1_2 (jw0 w) fun v zo1 w1=>?_
    obtain rfl:=zo1
    have n:noLs es = true:=by unfold ke9 at hc; simp only [Bool.and_eq_true] at hc; exact hc.1.1.1.2
    refine ⟨v,es,rfl,w1,kt9 hc,fun p ws hp rw'=>q _ _ (U6 hp) (.lst r (.refl _) hp (rw'.part (.nw (.refl _)) _ ?_))⟩
    exact Z0 fun d hd=>jb2 n ((Q8 es).mem_iff.mp hd)
   ·cases hg
  ·cases hg
end
end Dm
end T_Ru
section T_Rw
namespace Dm
open PySem PySem.Spec PyProof.Rows L2
inductive ValsN (K:PySem.W.Frag) (C:Cfg) (G0:Hp) (A:List Addr) (H H':Hp):List D -> List V -> Prop
 | nil:ValsN K C G0 A H H' [] []
 | cons {d:D} {v:V} {ds:List D} {vs:List V}:Val K C .new G0 A H H' d v -> ValsN K C G0 A H H' ds vs -> ValsN K C G0 A H H' (d :: ds) (v :: vs)
section
variable {K:PySem.W.Frag} {C:Cfg} {G0:Hp} {A:List Addr} {H H' H'' H1:Hp}
theorem ValsN.len:∀ {ds:List D} {vs:List V},ValsN K C G0 A H H' ds vs -> vs.length = ds.length
 | _,_,.nil=>rfl
 | _,_,.cons _ t=>by rw [List.length_cons,List.length_cons,t.len]
theorem ValsN.early (e:Same H H1):∀ {ds:List D} {vs:List V},ValsN K C G0 A H1 H' ds vs -> ValsN K C G0 A H H' ds vs
 | _,_,.nil=>.nil
 | _,_,.cons q t=>.cons (q.early e) (t.early e)
theorem ValsN.get:∀ {ds:List D} {vs:List V} {j:Nat} {d:D},ValsN K C G0 A H H' ds vs -> ds[j]? = some d -> ∃ v,vs[j]? = some v /\ Val K C .new G0 A H H' d v
 | _,_,_,_,.nil,h=>by simp at h
 | _,_,0,_,.cons q t,h=>by simp at h; subst h; exact ⟨_,rfl,q⟩
 | _,_,j + 1,_,.cons q t,h=>by
  rw [List.getElem?_cons_succ] at h ⊢
  exact t.get h
theorem ValsN.at {ds:List D} {vs:List V} {i:Int} {d:D} (q:ValsN K C G0 A H H' ds vs) (h:atI ds i = some d):∃ v,atI vs i = some v /\ Val K C .new G0 A H H' d v:=by
 unfold atI at h ⊢
 rw [q.len]
 cases hj:ixN ds.length i with
 | none=>rw [hj] at h; cases h
 | some j =>
  rw [hj] at h
  exact q.get h
end
section
variable {X:Cx} {C:Cfg} {G0:Hp} {Γ:List SK} {E:L2.St -> XK} {e a b c:Expr} {f fa fb fc:DF} {κ κ' κa κb:Kd} {es rest:List Expr} {fs:DA} {pos pos':Pos}
end
end Dm
end T_Rw
section T_K15
namespace Pk
open PySem PySem.Spec PyProof.Rows L2 PySem.W Dm
noncomputable def top (i:Nat):Stmt:=PySem.Challenge.pw_pegleap_k15_standings_refused.main.body.getD i (.Pass ⟨0,0,0,0⟩)
noncomputable abbrev Z8:Stmt:=top 9
noncomputable abbrev je2:Stmt:=top 10
noncomputable abbrev W1:Stmt:=top 11
noncomputable abbrev je1:Stmt:=qg1 (top 12) 0
noncomputable abbrev Y2:Stmt:=top 13
noncomputable abbrev jh1:Stmt:=top 17
noncomputable abbrev Y0:Stmt:=top 22
noncomputable abbrev jh7:Stmt:=top 23
noncomputable abbrev jm4:Stmt:=top 24
noncomputable abbrev jb6:Stmt:=top 26
noncomputable abbrev Q4:Stmt:=top 30
noncomputable abbrev jh5:Stmt:=top 32
noncomputable abbrev jd3:Stmt:=top 39
noncomputable abbrev jh8:Stmt:=top 40
noncomputable abbrev jk4:Stmt:=top 41
noncomputable abbrev Z4:Stmt:=top 46
noncomputable abbrev U2:Stmt:=top 48
noncomputable abbrev jb7:Stmt:=top 49
noncomputable abbrev Q6:Stmt:=top 50
noncomputable abbrev U3:Stmt:=top 51
noncomputable abbrev Z6:Stmt:=top 52
noncomputable abbrev Y1:Stmt:=top 53
noncomputable abbrev W4:Stmt:=top 54
noncomputable abbrev jb9:Stmt:=top 55
noncomputable abbrev ki0:Stmt:=top 56
structure Adr where
 c_PegError:Addr
 c_BadBoard:Addr
 c_BadPegs:Addr
 c_NoLeap:Addr
 c_BadWeights:Addr
 c_Board:Addr
 k_LAST:Tok
 k_MOST_CELLS:Tok
 k_LEAST:Tok
 k_MOST:Tok
 k_COLOURS:Tok
 n_BadPegs_BadWeights:c_BadPegs ≠ c_BadWeights
noncomputable def ja8 (t:Adr):Addr -> Bool:=fun c=>c == t.c_BadPegs || c == t.c_BadWeights
noncomputable abbrev J6 (t:Adr):Addr -> Bool:=ja8 t
noncomputable def Z1 (t:Adr):Addr -> Option Bool:=fun c=>if c = t.c_BadPegs then some true else if c = t.c_BadWeights then some false else none
noncomputable def jb5 (t:Adr):Addr -> Option Bool:=fun c=>if c = t.c_BadPegs then some false else if c = t.c_BadWeights then some false else none
noncomputable def U4 (t:Adr):Addr -> Option Bool:=fun c=>if c = t.c_BadPegs then some false else if c = t.c_BadWeights then some true else none
structure Txt (K:Frag) (mg:Str -> Option Value) (t:Adr):Prop where
 f_is_rising:Fn1 K mg "is_rising" "is_rising" Z8 ["cells"]
 f_is_cell:Fn1 K mg "is_cell" "is_cell" je2 ["cell"]
 f_check_cells:Fn1 K mg "check_cells" "check_cells" W1 ["cells"]
 f_check_pegs:Fn1 K mg "check_pegs" "check_pegs" Y2 ["board","pegs"]
 f_turned:Fn1 K mg "turned" "turned" jh1 ["board","pegs"]
 f_open_leaps:Fn1 K mg "open_leaps" "open_leaps" Y0 ["board","pegs"]
 f_walked:Fn1 K mg "walked" "walked" jh7 ["board","pegs","row"]
 f_leapt:Fn1 K mg "leapt" "leapt" jm4 ["board","pegs","leap"]
 f_class_of:Fn1 K mg "class_of" "class_of" jb6 ["board","pegs"]
 f_check_weights:Fn1 K mg "check_weights" "check_weights" Q4 ["board","weights"]
 f_weight:Fn1 K mg "weight" "weight" jh5 ["board","weights","pegs"]
 f_reached:Fn1 K mg "reached" "reached" jd3 ["board","pegs"]
 f_answer:Fn1 K mg "answer" "answer" jh8 ["board","pegs","others"]
 f_holds:Fn1 K mg "holds" "holds" jk4 ["board","pegs","others","paper"]
 f_row_count:Fn1 K mg "row_count" "row_count" Z4 ["board","pegs","others"]
 f__law_cell_at:Fn1 K mg "_law_cell_at" "_law_cell_at" U2 ["script","k"]
 f__law_mix:Fn1 K mg "_law_mix" "_law_mix" jb7 ["cell","k","many"]
 f__law_cells_by:Fn1 K mg "_law_cells_by" "_law_cells_by" Q6 ["script","most"]
 f__law_pegs_by:Fn1 K mg "_law_pegs_by" "_law_pegs_by" U3 ["cell","cells"]
 f__law_hurt:Fn1 K mg "_law_hurt" "_law_hurt" Z6 ["cells","pegs","cell"]
 f__law_first:Fn1 K mg "_law_first" "_law_first" Y1 ["board","way","bad","good"]
 f__law_second:Fn1 K mg "_law_second" "_law_second" W4 ["board","way","bad","good"]
 f__law_met:Fn1 K mg "_law_met" "_law_met" jb9 ["board","way","bad","good"]
 f_law:Fn1 K mg "law" "law" ki0 ["script"]
 n_enumerate:mg "enumerate" = none
 n_isinstance:mg "isinstance" = none
 n_len:mg "len" = none
 n_list:mg "list" = none
 n_range:mg "range" = none
 n_set:mg "set" = none
 n_sorted:mg "sorted" = none
 g_LAST:mg "LAST" = some (.int (7) t.k_LAST)
 g_LEAST:mg "LEAST" = some (.int (-1000) t.k_LEAST)
 g_MOST:mg "MOST" = some (.int (1000) t.k_MOST)
 g_MOST_CELLS:mg "MOST_CELLS" = some (.int (24) t.k_MOST_CELLS)
 m_PegError:mg "PegError" = some (.ref t.c_PegError)
 m_BadBoard:mg "BadBoard" = some (.ref t.c_BadBoard)
 m_BadPegs:mg "BadPegs" = some (.ref t.c_BadPegs)
 m_NoLeap:mg "NoLeap" = some (.ref t.c_NoLeap)
 m_BadWeights:mg "BadWeights" = some (.ref t.c_BadWeights)
 m_Board:mg "Board" = some (.ref t.c_Board)
 e_PegError:exB K t.c_PegError [.type "ValueError",.type "Exception",.type "BaseException",.type "object"] "ValueError.__new__" = true
 e_BadBoard:exB K t.c_BadBoard [.type "ValueError",.type "Exception",.type "BaseException",.type "object"] "ValueError.__new__" = true
 e_BadPegs:exB K t.c_BadPegs [.type "ValueError",.type "Exception",.type "BaseException",.type "object"] "ValueError.__new__" = true
 e_BadWeights:exB K t.c_BadWeights [.type "ValueError",.type "Exception",.type "BaseException",.type "object"] "ValueError.__new__" = true
 k_PegError:∀ c,J6 t c = true -> kitCls K (.ref c) (.ref t.c_PegError) = some true
 y_BadPegs:∀ c b,Z1 t c = some b -> kitOne K (.ref c) (.ref t.c_BadPegs) = some b /\ ExC K c
 y_BadWeights:∀ c b,U4 t c = some b -> kitOne K (.ref c) (.ref t.c_BadWeights) = some b /\ ExC K c
 y_NoLeap:∀ c b,jb5 t c = some b -> kitOne K (.ref c) (.ref t.c_NoLeap) = some b /\ ExC K c
 clB:Cls K t.c_Board
 naB:NoAttr K t.c_Board "cells"
 iB:∃ a fd,Fun K "__init__" "Board.__init__" je1 a fd /\ Mk K t.c_Board a /\ Binds K fd ["self","cells"] []
theorem ju3:ExcBaseFacts "ValueError" "ValueError.__new__" "ValueError.__init__" [.type "ValueError",.type "Exception",.type "BaseException",.type "object"]  :=PySem.F.excBase_ValueError
theorem je4:bootBuiltins "len" = some (.builtin "len"):=by decide +kernel
theorem jr9:bootBuiltins "list" = some (.type "list"):=by decide +kernel
noncomputable def y9 (t:Adr):List D -> R D:=v8 1 (dRet (dOp (gEq false) (dVar 0) (dUn jc2 (dVar 0))))
noncomputable def jb8 (t:Adr):List D -> R D:=v8 1 (dRet (dAnd (je3 gLe gLe (dC (.int 0)) (dOp gIx (dVar 0) (dC (.int 0))) (dC (.int (7)))) (je3 gLe gLe (dC (.int 0)) (dOp gIx (dVar 0) (dC (.int 1))) (dC (.int (7))))))
noncomputable def w5 (t:Adr):List D -> R D:=v8 2 (dSeq (dIfS (dNot (je3 gLe gLe (dC (.int 1)) (dFn gLen (j2 (dVar 0) aNil)) (dC (.int (24)))))
 (U0 t.c_BadBoard)
 y6)
 (dSeq (dIfS (dNot (dFn (y9 t) (j2 (dVar 0) aNil)))
 (U0 t.c_BadBoard)
 y6)
 (dFor (iLst (dVar 0)) (jf5 1)
 (dIfS (dNot (dFn (jb8 t) (j2 (dVar 1) aNil)))
 (U0 t.c_BadBoard)
 y6))))
noncomputable def j9 (t:Adr):List D -> R D:=v8 3 (dSeq (dIfS (dNot (dFn (y9 t) (j2 (dVar 1) aNil)))
 (U0 t.c_BadPegs)
 y6)
 (dFor (iLst (dVar 1)) (jf5 2)
 (dIfS (dOp (gIn true) (dVar 2) (dUn Y5 (dVar 0)))
 (U0 t.c_BadPegs)
 y6)))
noncomputable def jk1 (t:Adr):List D -> R D:=v8 2 (dSeq (J5 (dFn (j9 t) (j2 (dVar 0) (j2 (dVar 1) aNil))))
 dBad)
noncomputable def jb1 (t:Adr):List D -> R D:=v8 2 (dSeq (J5 (dFn (j9 t) (j2 (dVar 0) (j2 (dVar 1) aNil))))
 dBad)
noncomputable def jf3 (t:Adr):List D -> R D:=v8 7 (dSeq (J5 (dFn (j9 t) (j2 (dVar 0) (j2 (dVar 1) aNil))))
 dBad)
noncomputable def jn2 (t:Adr):List D -> R D:=v8 3 (dRet (dFn (jf3 t) (j2 (dVar 0) (j2 (dVar 1) (j2 (U9 100 (j2 (jb3 (dVar 2)) aNil)) aNil)))))
noncomputable def je9 (t:Adr):List D -> R D:=v8 4 (dSeq (J5 (dFn (j9 t) (j2 (dVar 0) (j2 (dVar 1) aNil))))
 dBad)
noncomputable def y8 (t:Adr):List D -> R D:=v8 3 (dSeq (dIfS (dOp (gEq true) (dFn gLen (j2 (dVar 1) aNil)) (dFn gLen (j2 (dUn Y5 (dVar 0)) aNil)))
 (U0 t.c_BadWeights)
 y6)
 (dFor (iLst (dVar 1)) (jf5 2)
 (dIfS (dNot (je3 gLe gLe (dC (.int (-1000))) (dVar 2) (dC (.int (1000)))))
 (U0 t.c_BadWeights)
 y6)))
noncomputable def Y9 (t:Adr):List D -> R D:=v8 4 (dSeq (J5 (dFn (y8 t) (j2 (dVar 0) (j2 (dVar 1) aNil))))
 (dSeq (J5 (dFn (j9 t) (j2 (dVar 0) (j2 (dVar 2) aNil))))
 dBad))
noncomputable def jg9 (t:Adr):List D -> R D:=v8 2 (dSeq (J5 (dFn (j9 t) (j2 (dVar 0) (j2 (dVar 1) aNil))))
 dBad)
noncomputable def jf2 (t:Adr):List D -> R D:=v8 4 (dSeq (J5 (dFn (j9 t) (j2 (dVar 0) (j2 (dVar 1) aNil))))
 (dSeq (J5 (dFn (j9 t) (j2 (dVar 0) (j2 (dVar 2) aNil))))
 dBad))
noncomputable def ji3 (t:Adr):List D -> R D:=v8 4 (dSeq (J5 (dFn (j9 t) (j2 (dVar 0) (j2 (dVar 1) aNil))))
 (dSeq (J5 (dFn (j9 t) (j2 (dVar 0) (j2 (dVar 2) aNil))))
 dBad))
noncomputable def W9 (t:Adr):List D -> R D:=v8 6 (dSeq (J5 (dFn (j9 t) (j2 (dVar 0) (j2 (dVar 1) aNil))))
 (dSeq (J5 (dFn (j9 t) (j2 (dVar 0) (j2 (dVar 2) aNil))))
 dBad))
noncomputable def k9 (t:Adr):List D -> R D:=v8 2 (dSeq (dIfS (dOp gLt (dVar 1) (dFn gLen (j2 (dVar 0) aNil)))
 (dRet (jb3 (dOp gIx (dVar 0) (dVar 1))))
 y6)
 (dRet (dC (.int 0))))
noncomputable def q9 (t:Adr):List D -> R D:=v8 5 (dSeq (dAsg 3 (U9 100 (j2 (dC (.int 48271)) (j2 (dC (.int 69621)) (j2 (dC (.int 16807)) (j2 (dC (.int 39373)) (j2 (dC (.int 30269)) (j2 (dC (.int 40014)) (j2 (dC (.int 40692)) (j2 (dC (.int 50021)) (j2 (dC (.int 61687)) (j2 (dC (.int 71993)) (j2 (dC (.int 83869)) (j2 (dC (.int 95561)) (j2 (dC (.int 30307)) aNil)))))))))))))))
 (dSeq (dAsg 4 (dOp gMul (dOp gAdd (dOp gMod (dVar 0) (dC (.int 2147483647))) (dC (.int 12345))) (dOp gIx (dVar 3) (dOp gMod (dVar 1) (dC (.int 13))))))
 (dSeq (dAsg 4 (dOp gAdd (dOp gMul (dVar 4) (dOp gAdd (dOp gMul (dC (.int 2)) (dOp gDiv (dVar 1) (dC (.int 13)))) (dC (.int 1)))) (dOp gMul (dC (.int 977)) (dVar 1))))
 (dRet (dOp gMod (dOp gDiv (dOp gMod (dVar 4) (dC (.int 1000000007))) (dC (.int 7))) (dVar 2))))))
noncomputable def y2 (t:Adr):List D -> R D:=v8 9 (dSeq (dAsg 2 (dFn (k9 t) (j2 (dVar 0) (j2 (dC (.int 0)) aNil))))
 (dSeq (dPar 3 4 (j2 (dOp gAdd (dC (.int 1)) (dFn (q9 t) (j2 (dVar 2) (j2 (dC (.int 1)) (j2 (dC (.int 4)) aNil))))) (j2 (dOp gAdd (dC (.int 1)) (dFn (q9 t) (j2 (dVar 2) (j2 (dC (.int 2)) (j2 (dC (.int 6)) aNil))))) aNil)))
 (dSeq (dIfS (dOp (gEq false) (dOp gMod (dVar 2) (dC (.int 4))) (dC (.int 1)))
 (kf1 (jy8 3 4) (jb3 (dOp gIx (U9 100 (j2 (W6 100 (j2 (dOp gAdd (dC (.int 1)) (dOp gMod (dVar 3) (dC (.int 3)))) (j2 (dC (.int 8)) aNil))) (j2 (W6 100 (j2 (dC (.int 8)) (j2 (dOp gAdd (dC (.int 1)) (dOp gMod (dVar 4) (dC (.int 3)))) aNil))) aNil))) (dOp gMod (dOp gDiv (dVar 2) (dC (.int 4))) (dC (.int 2))))))
 y6)
 (dSeq (dPar 5 6 (j2 (dFn (q9 t) (j2 (dVar 2) (j2 (dC (.int 3)) (j2 (dOp gSub (dC (.int 9)) (dVar 3)) aNil)))) (j2 (dFn (q9 t) (j2 (dVar 2) (j2 (dC (.int 4)) (j2 (dOp gSub (dC (.int 9)) (dVar 4)) aNil)))) aNil)))
 (dSeq (dAsg 7 (U9 100 aNil))
 (dSeq (dFor (iRng (j2 (dOp gMul (dVar 3) (dVar 4)) aNil)) (jf5 8)
 (dIfS (dOp gGt (dFn (q9 t) (j2 (dFn (k9 t) (j2 (dVar 0) (j2 (dC (.int 1)) aNil))) (j2 (dVar 8) (j2 (dC (.int 7)) aNil)))) (dC (.int 0)))
 (dApp 7 (W6 100 (j2 (dOp gAdd (dVar 5) (dOp gDiv (dVar 8) (dVar 4))) (j2 (dOp gAdd (dVar 6) (dOp gMod (dVar 8) (dVar 4))) aNil))))
 y6))
 (dSeq (dIfS (dOp (gEq false) (dFn gLen (j2 (dVar 7) aNil)) (dC (.int 0)))
 (dAsg 7 (U9 100 (j2 (W6 100 (j2 (jb3 (dVar 5)) (j2 (jb3 (dVar 6)) aNil))) aNil)))
 y6)
 (dRet (dSl (dVar 7) none (some (dVar 1)))))))))))
noncomputable def Q1 (t:Adr):List D -> R D:=v8 4 (dSeq (dAsg 2 (dFn (q9 t) (j2 (dVar 0) (j2 (dC (.int 40)) (j2 (dC (.int 4)) aNil)))))
 (dSeq (dIfS (dOp (gEq false) (dVar 2) (dC (.int 0)))
 (dSeq (dAsg 3 (dFn (q9 t) (j2 (dVar 0) (j2 (dC (.int 41)) (j2 (dFn gLen (j2 (dVar 1) aNil)) aNil)))))
 (dRet (dOp gCat (dSl (dVar 1) none (some (dVar 3))) (dSl (dVar 1) (some (dOp gAdd (dVar 3) (dC (.int 1)))) none))))
 y6)
 (dRet (kd8 (iEnu (dVar 1)) 2 [0,2] (jy8 0 1) (dOp gGt (dFn (q9 t) (j2 (dVar 2) (j2 (dVar 0) (j2 (dOp gIx (U9 100 (j2 (dC (.int 0)) (j2 (dC (.int 2)) (j2 (dC (.int 3)) (j2 (dC (.int 4)) aNil))))) (dVar 3)) aNil)))) (dC (.int 0))) (jb3 (dVar 1))))))
noncomputable def U5 (t:Adr):List D -> R D:=v8 5 (dSeq (dAsg 3 (dOp gMod (dOp gDiv (dVar 2) (dC (.int 3))) (dOp gAdd (dFn gLen (j2 (dVar 1) aNil)) (dC (.int 1)))))
 (dSeq (dIfS (dAnd (dOp (gEq false) (dOp gMod (dVar 2) (dC (.int 3))) (dC (.int 0))) (dOp gGt (dFn gLen (j2 (dVar 1) aNil)) (dC (.int 0))))
 (dRet (dOp gCat (dOp gCat (dSl (dVar 1) none (some (dVar 3))) (U9 100 (j2 (jb3 (dOp gIx (dVar 1) (dOp gMod (dOp gDiv (dVar 2) (dC (.int 60))) (dFn gLen (j2 (dVar 1) aNil))))) aNil))) (dSl (dVar 1) (some (dVar 3)) none)))
 y6)
 (dSeq (dIfS (dAnd (dOp (gEq false) (dOp gMod (dVar 2) (dC (.int 3))) (dC (.int 1))) (dOp gGt (dFn gLen (j2 (dVar 1) aNil)) (dC (.int 1))))
 (dRet (dOp gCat (dSl (dVar 1) (some (dC (.int 1))) none) (dSl (dVar 1) none (some (dC (.int 1))))))
 y6)
 (dSeq (dAsg 4 (jb3 (dOp gIx (U9 100 (j2 (W6 100 (j2 (dC (.int 7)) (j2 (dC (.int 7)) aNil))) (j2 (W6 100 (j2 (dC (.int 0)) (j2 (dC (.int 8)) aNil))) (j2 (W6 100 (j2 (dUn gNeg (dC (.int 1))) (j2 (dC (.int 0)) aNil))) (j2 (W6 100 (j2 (dOp gPow (dC (.int 10)) (dC (.int 9))) (j2 (dC (.int 0)) aNil))) aNil))))) (dOp gMod (dOp gDiv (dVar 2) (dC (.int 60))) (dC (.int 4))))))
 (dSeq (dIfS (dOp (gIn false) (dVar 4) (dVar 0))
 (dAsg 4 (W6 100 (j2 (dC (.int 0)) (j2 (dC (.int 9)) aNil))))
 y6)
 (dRet (dFn jl8 (j2 (dOp gCat (dVar 1) (U9 100 (j2 (jb3 (dVar 4)) aNil))) aNil))))))))
noncomputable def k7 (t:Adr):List D -> R D:=v8 4 (dSeq (dIfS (dOp (gEq false) (dVar 1) (dC (.int 0)))
 (J5 (dFn (jk1 t) (j2 (dVar 0) (j2 (dVar 2) aNil))))
 y6)
 (dSeq (dIfS (dOp (gEq false) (dVar 1) (dC (.int 1)))
 (J5 (dFn (jb1 t) (j2 (dVar 0) (j2 (dVar 2) aNil))))
 y6)
 (dSeq (dIfS (dOp (gEq false) (dVar 1) (dC (.int 2)))
 (J5 (dFn (jn2 t) (j2 (dVar 0) (j2 (dVar 2) (j2 (W6 100 (j2 (W6 100 (j2 (dC (.int 0)) (j2 (dC (.int 0)) aNil))) (j2 (W6 100 (j2 (dC (.int 5)) (j2 (dC (.int 5)) aNil))) aNil))) aNil)))))
 y6)
 (dSeq (dIfS (dOp (gEq false) (dVar 1) (dC (.int 3)))
 (J5 (dFn (jf3 t) (j2 (dVar 0) (j2 (dVar 2) (j2 (U9 100 aNil) aNil)))))
 y6)
 (dSeq (dIfS (dOp (gEq false) (dVar 1) (dC (.int 4)))
 (J5 (dFn (je9 t) (j2 (dVar 0) (j2 (dVar 2) aNil))))
 y6)
 (dSeq (dIfS (dOp (gEq false) (dVar 1) (dC (.int 5)))
 (J5 (dFn (Y9 t) (j2 (dVar 0) (j2 (dOp gRep (U9 100 (j2 (dC (.int 0)) aNil)) (dFn gLen (j2 (dUn Y5 (dVar 0)) aNil))) (j2 (dVar 2) aNil)))))
 y6)
 (dIfS (dOp (gEq false) (dVar 1) (dC (.int 6)))
 (J5 (dFn (jg9 t) (j2 (dVar 0) (j2 (dVar 2) aNil))))
 y6)))))))
noncomputable def v7 (t:Adr):List D -> R D:=v8 4 (dSeq (dIfS (dOp (gEq false) (dVar 1) (dC (.int 7)))
 (J5 (dFn (jf2 t) (j2 (dVar 0) (j2 (dVar 2) (j2 (dVar 3) aNil)))))
 y6)
 (dSeq (dIfS (dOp (gEq false) (dVar 1) (dC (.int 8)))
 (J5 (dFn (jf2 t) (j2 (dVar 0) (j2 (dVar 3) (j2 (dVar 2) aNil)))))
 y6)
 (dSeq (dIfS (dOp (gEq false) (dVar 1) (dC (.int 9)))
 (J5 (dFn (ji3 t) (j2 (dVar 0) (j2 (dVar 2) (j2 (dVar 3) (j2 (W6 100 (j2 (dC (.str "class")) aNil)) aNil))))))
 y6)
 (dSeq (dIfS (dOp (gEq false) (dVar 1) (dC (.int 10)))
 (J5 (dFn (ji3 t) (j2 (dVar 0) (j2 (dVar 3) (j2 (dVar 2) (j2 (W6 100 (j2 (dC (.str "weights")) (j2 (U9 100 aNil) aNil))) aNil))))))
 y6)
 (dSeq (dIfS (dOp (gEq false) (dVar 1) (dC (.int 11)))
 (J5 (dFn (W9 t) (j2 (dVar 0) (j2 (dVar 2) (j2 (dVar 3) aNil)))))
 y6)
 (dSeq (dIfS (dOp (gEq false) (dVar 1) (dC (.int 12)))
 (J5 (dFn (W9 t) (j2 (dVar 0) (j2 (dVar 3) (j2 (dVar 2) aNil)))))
 y6)
 (dIfS (dOp (gEq false) (dVar 1) (dC (.int 13)))
 (J5 (dFn (Y9 t) (j2 (dVar 0) (j2 (dOp gRep (U9 100 (j2 (dC (.int 0)) aNil)) (dC (.int 25))) (j2 (dVar 2) aNil)))))
 y6)))))))
noncomputable def W8 (t:Adr):List D -> R D:=v8 5 (dSeq (dTry (dSeq (J5 (dFn (k7 t) (j2 (dVar 0) (j2 (dVar 1) (j2 (dVar 2) (j2 (dVar 3) aNil))))))
 (J5 (dFn (v7 t) (j2 (dVar 0) (j2 (dVar 1) (j2 (dVar 2) (j2 (dVar 3) aNil))))))) (J6 t) (some 4)
 (dRet (U9 100 (j2 (dUn (gIsy (Z1 t)) (dVar 4)) (j2 (dUn (gIsy (U4 t)) (dVar 4)) (j2 (dUn (gIsy (jb5 t)) (dVar 4)) aNil))))))
 (dRet (U9 100 aNil)))
noncomputable def kf5 (t:Adr):List D -> R D:=v8 7 (dSeq (dAsg 1 (dFn (y2 t) (j2 (dVar 0) (j2 (dC (.int 10)) aNil))))
 (dSeq (dAsg 2 (dFn (jm1 (w5 t)) (j2 (dFn jl1 (j2 (dVar 1) aNil)) aNil)))
 (dSeq (dAsg 3 (dFn (Q1 t) (j2 (dFn (k9 t) (j2 (dVar 0) (j2 (dC (.int 2)) aNil))) (j2 (dVar 1) aNil))))
 (dSeq (dAsg 4 (dFn (U5 t) (j2 (dVar 1) (j2 (dVar 3) (j2 (dFn (k9 t) (j2 (dVar 0) (j2 (dC (.int 3)) aNil))) aNil)))))
 (dSeq (dAsg 5 (U9 100 (j2 (dFn jl1 (j2 (dVar 4) aNil)) (j2 (dFn jl1 (j2 (dVar 3) aNil)) aNil))))
 (dSeq (dFor (iRng (j2 (dC (.int 14)) aNil)) (jf5 6)
 (dIfS (dOp (gEq true) (dFn (W8 t) (j2 (dVar 2) (j2 (dVar 6) (j2 (dOp gIx (dVar 5) (dC (.int 0))) (j2 (dOp gIx (dVar 5) (dC (.int 1))) aNil))))) (U9 100 (j2 (dOp gLt (dVar 6) (dC (.int 13))) (j2 (dOp (gEq false) (dVar 6) (dC (.int 13))) (j2 (dC (.bl false)) aNil)))))
 (dRet (dC (.bl false)))
 y6))
 (dRet (dAnd (dOp (gEq false) (dVar 5) (U9 100 (j2 (dVar 4) (j2 (dVar 3) aNil)))) (dOp (gEq false) (dUn Y5 (dVar 2)) (dVar 1))))))))))
section
variable {P:Program} {w:World} {K:Frag} {mg:Str -> Option Value} {base:Heap} {t:Adr}
theorem jw4:FnScope ["cells"] ["cells"] (j4 Z8):=⟨rfl,rfl,rfl,by decide +kernel,rfl,by decide +kernel,by decide +kernel⟩
theorem ju7 (T:Txt K mg t):FD P w K mg base (cfgB t.c_Board) 1 "is_rising" ["cells"] 1 (y9 t) true :=
 Z7 (Γ:=[.par]) T.f_is_rising jw4 rfl (fun i h=>by match i,h with | 0,_=>rfl) fun f cdv A outer s H E hr =>
 by
 refine v4 ?_
 refine Y6 (κ:=.new) ?_
 refine jv9 (κa:=.old) (κb:=.new) (Q5 hr.units) J8 ?_ ?_ (y7 _)
 exact j1 0 (pv 0)
 refine kg1 (κ:=.old) hr.hd hr.units T.n_sorted T.n_set ?_
 exact j1 0 (pv 0)
theorem kf6:FnScope ["cell"] ["cell"] (j4 je2):=⟨rfl,rfl,rfl,by decide +kernel,rfl,by decide +kernel,by decide +kernel⟩
theorem ke1 (T:Txt K mg t):FD P w K mg base (cfgB t.c_Board) 1 "is_cell" ["cell"] 1 (jb8 t) true :=
 Z7 (Γ:=[.par]) T.f_is_cell kf6 rfl (fun i h=>by match i,h with | 0,_=>rfl) fun f cdv A outer s H E hr =>
 by
 refine v4 ?_
 refine Y6 (κ:=.new) ?_
 refine ky7 (κa:=.new) ?_ ?_
 refine kd7 (κa:=.new) (κb:=.old) (κc:=.new) jv8 jv8 jj1 jj1 ?_ ?_ ?_
 exact j5
 refine jf9 (κa:=.old) (κb:=.new) ?_ ?_ (fun _ _=>rfl)
 exact j1 0 (pv 0)
 exact j5
 exact jl7 rfl T.g_LAST
 refine ky6 ?_
 refine kd7 (κa:=.new) (κb:=.old) (κc:=.new) jv8 jv8 jj1 jj1 ?_ ?_ ?_
 exact j5
 refine jf9 (κa:=.old) (κb:=.new) ?_ ?_ (fun _ _=>rfl)
 exact j1 0 (pv 0)
 exact j5
 exact jl7 rfl T.g_LAST
theorem jf7:FnScope ["cells","cell"] ["cells"] (j4 W1):=⟨rfl,rfl,rfl,by decide +kernel,rfl,by decide +kernel,by decide +kernel⟩
theorem jn6 (T:Txt K mg t) (G_is_rising:FD P w K mg base (cfgB t.c_Board) 1 "is_rising" ["cells"] 1 (y9 t) true) (G_is_cell:FD P w K mg base (cfgB t.c_Board) 1 "is_cell" ["cell"] 1 (jb8 t) true):FD P w K mg base (cfgB t.c_Board) 2 "check_cells" ["cells"] 1 (w5 t) true :=
 Z7 (Γ:=[.par,.par]) T.f_check_cells jf7 rfl (fun i h=>by match i,h with | 0,_=>rfl) fun f cdv A outer s H E hr =>
 by
 refine k6 ?_ ?_
 refine U8 ?_   ?_   z8
 refine jt0 ?_
 refine kb6 (κa:=.new) (κb:=.new) (κc:=.new) jv8 jv8 jj1 jj1 ?_ ?_ ?_
 exact j5
 refine jf4 (κa:=.tmp) ja1 ?_
 refine Q3 y3 rfl T.n_len je4 ?_
 refine j0 (κ:=.tmp) (κa:=.old) ?_ ?_
 exact j1 0 (pv 0)
 exact j6 (κ:=.tmp)
 exact jl7 rfl T.g_MOST_CELLS
 refine v4 ?_
 exact Z9 ju3 hr.hd T.m_BadBoard T.e_BadBoard (js1 (all_cons (W5 (n:=500) (by decide +kernel)) (all_cons (jj7 (n:=500) T.g_MOST_CELLS (by decide) (by decide +kernel)) (all_cons (W5 (n:=500) (by decide +kernel)) jy3))) (by decide))
 refine k6 ?_ ?_
 refine U8 ?_   ?_   z8
 refine jt0 ?_
 refine qb7 (κ:=.new) ?_
 refine j8 (κ:=.tmp) G_is_rising hr (by decide) ?_ (j3 k8)
 refine j0 (κ:=.tmp) (κa:=.old) ?_ ?_
 exact j1 0 (pv 0)
 exact j6 (κ:=.tmp)
 refine v4 ?_
 exact Z9 ju3 hr.hd T.m_BadBoard T.e_BadBoard (W5 (n:=500) (by decide +kernel))
 refine v4 ?_
 refine jg1 (κ:=.old) (W0 ⟨rfl,rfl⟩) rfl ?_ rfl (jc8 (i:=1) (by exact jf7.nd) rfl (Or.inl rfl)) (jm7 (i:=1) (k:=.par))   ?_
 exact j1 0 (pv 0)
 refine v4 ?_
 refine U8 ?_   ?_   z8
 refine jt0 ?_
 refine qb7 (κ:=.new) ?_
 refine j8 (κ:=.tmp) G_is_cell hr (by decide) ?_ (j3 k8)
 refine j0 (κ:=.tmp) (κa:=.old) ?_ ?_
 exact j1 1 (pv 1)
 exact j6 (κ:=.tmp)
 refine v4 ?_
 exact Z9 ju3 hr.hd T.m_BadBoard T.e_BadBoard (js1 (all_cons (W5 (n:=500) (by decide +kernel)) (all_cons (jj7 (n:=500) T.g_LAST (by decide) (by decide +kernel)) jy3)) (by decide))
theorem jh9:FnScope ["board","pegs","cell"] ["board","pegs"] (j4 Y2):=⟨rfl,rfl,rfl,by decide +kernel,rfl,by decide +kernel,by decide +kernel⟩
theorem js5 (T:Txt K mg t) (G_is_rising:FD P w K mg base (cfgB t.c_Board) 1 "is_rising" ["cells"] 1 (y9 t) true):FD P w K mg base (cfgB t.c_Board) 2 "check_pegs" ["board","pegs"] 2 (j9 t) true :=
 Z7 (Γ:=[.par,.par,.par]) T.f_check_pegs jh9 rfl (fun i h=>by match i,h with | 0,_=>rfl | 1,_=>rfl) fun f cdv A outer s H E hr =>
 by
 refine k6 ?_ ?_
 refine U8 ?_   ?_   z8
 refine jt0 ?_
 refine qb7 (κ:=.new) ?_
 refine j8 (κ:=.tmp) G_is_rising hr (by decide) ?_ (j3 k8)
 refine j0 (κ:=.tmp) (κa:=.old) ?_ ?_
 exact j1 1 (pv 1)
 exact j6 (κ:=.tmp)
 refine v4 ?_
 exact Z9 ju3 hr.hd T.m_BadPegs T.e_BadPegs (W5 (n:=500) (by decide +kernel))
 refine v4 ?_
 refine jg1 (κ:=.old) (W0 ⟨rfl,rfl⟩) rfl ?_ rfl (jc8 (i:=2) (by exact jh9.nd) rfl (Or.inl rfl)) (jm7 (i:=2) (k:=.par))   ?_
 exact j1 1 (pv 1)
 refine v4 ?_
 refine U8 ?_   ?_   z8
 refine J4 (κa:=.old) (κb:=.old) (kh4 hr.units) kx6 ?_ ?_ (by with_unfolding_all rfl)
 exact j1 2 (pv 2)
 refine jj6 (κa:=.old) T.clB T.naB ?_
 exact j1 0 (pv 0)
 refine v4 ?_
 exact Z9 ju3 hr.hd T.m_BadPegs T.e_BadPegs (W5 (n:=500) (by decide +kernel))
theorem kg4:FnScope ["board","pegs"] ["board","pegs"] (j4 jh1):=⟨rfl,rfl,rfl,by decide +kernel,rfl,by decide +kernel,by decide +kernel⟩
theorem kg2 (T:Txt K mg t) (G_check_pegs:FD P w K mg base (cfgB t.c_Board) 2 "check_pegs" ["board","pegs"] 2 (j9 t) true):FD P w K mg base (cfgB t.c_Board) 3 "turned" ["board","pegs"] 2 (jk1 t) true :=
 Z7 (Γ:=[.par,.par]) T.f_turned kg4 rfl (fun i h=>by match i,h with | 0,_=>rfl | 1,_=>rfl) fun f cdv A outer s H E hr =>
 by
 refine k6 ?_ ?_
 refine y1 (κ:=.new) ?_
 refine j8 (κ:=.tmp) G_check_pegs hr (by decide) ?_ (j3 (j3 k8))
 refine j0 (κ:=.tmp) (κa:=.old) ?_ ?_
 exact j1 0 (pv 0)
 refine j0 (κ:=.tmp) (κa:=.old) ?_ ?_
 exact j1 1 (pv 1)
 exact j6 (κ:=.tmp)
 exact jc5
theorem jr1:FnScope ["board","pegs"] ["board","pegs"] (j4 Y0):=⟨rfl,rfl,rfl,by decide +kernel,rfl,by decide +kernel,by decide +kernel⟩
theorem jr6 (T:Txt K mg t) (G_check_pegs:FD P w K mg base (cfgB t.c_Board) 2 "check_pegs" ["board","pegs"] 2 (j9 t) true):FD P w K mg base (cfgB t.c_Board) 3 "open_leaps" ["board","pegs"] 2 (jb1 t) true :=
 Z7 (Γ:=[.par,.par]) T.f_open_leaps jr1 rfl (fun i h=>by match i,h with | 0,_=>rfl | 1,_=>rfl) fun f cdv A outer s H E hr =>
 by
 refine k6 ?_ ?_
 refine y1 (κ:=.new) ?_
 refine j8 (κ:=.tmp) G_check_pegs hr (by decide) ?_ (j3 (j3 k8))
 refine j0 (κ:=.tmp) (κa:=.old) ?_ ?_
 exact j1 0 (pv 0)
 refine j0 (κ:=.tmp) (κa:=.old) ?_ ?_
 exact j1 1 (pv 1)
 exact j6 (κ:=.tmp)
 exact jc5
theorem kn1:FnScope ["board","pegs","row","standing","all_leaps","at","leap"] ["board","pegs","row"] (j4 jh7):=⟨rfl,rfl,rfl,by decide +kernel,rfl,by decide +kernel,by decide +kernel⟩
theorem kl5 (T:Txt K mg t) (G_check_pegs:FD P w K mg base (cfgB t.c_Board) 2 "check_pegs" ["board","pegs"] 2 (j9 t) true):FD P w K mg base (cfgB t.c_Board) 3 "walked" ["board","pegs","row"] 3 (jf3 t) true :=
 Z7 (Γ:=[.par,.par,.par,.loc,.par,.par,.par]) T.f_walked kn1 rfl (fun i h=>by match i,h with | 0,_=>rfl | 1,_=>rfl | 2,_=>rfl) fun f cdv A outer s H E hr =>
 by
 refine k6 ?_ ?_
 refine y1 (κ:=.new) ?_
 refine j8 (κ:=.tmp) G_check_pegs hr (by decide) ?_ (j3 (j3 k8))
 refine j0 (κ:=.tmp) (κa:=.old) ?_ ?_
 exact j1 0 (pv 0)
 refine j0 (κ:=.tmp) (κa:=.old) ?_ ?_
 exact j1 1 (pv 1)
 exact j6 (κ:=.tmp)
 exact jc5
theorem kv0:FnScope ["board","pegs","leap"] ["board","pegs","leap"] (j4 jm4):=⟨rfl,rfl,rfl,by decide +kernel,rfl,by decide +kernel,by decide +kernel⟩
theorem kv5 (T:Txt K mg t) (G_walked:FD P w K mg base (cfgB t.c_Board) 3 "walked" ["board","pegs","row"] 3 (jf3 t) true):FD P w K mg base (cfgB t.c_Board) 4 "leapt" ["board","pegs","leap"] 3 (jn2 t) true :=
 Z7 (Γ:=[.par,.par,.par]) T.f_leapt kv0 rfl (fun i h=>by match i,h with | 0,_=>rfl | 1,_=>rfl | 2,_=>rfl) fun f cdv A outer s H E hr =>
 by
 refine v4 ?_
 refine Y6 (κ:=.new) ?_
 refine j8 (κ:=.tmp) G_walked hr (by decide) ?_ (j3 (j3 (j3 k8)))
 refine j0 (κ:=.tmp) (κa:=.old) ?_ ?_
 exact j1 0 (pv 0)
 refine j0 (κ:=.tmp) (κa:=.old) ?_ ?_
 exact j1 1 (pv 1)
 refine j0 (κ:=.tmp) (κa:=.new) ?_ ?_
 refine W7 ?_
 refine j0 (κ:=.new) (κa:=.new) ?_ ?_
 refine jc1 (κ:=.old) ?_
 exact j1 2 (pv 2)
 exact j6 (κ:=.new)
 exact j6 (κ:=.tmp)
theorem jy7:FnScope ["board","pegs","by_sum","by_difference"] ["board","pegs"] (j4 jb6):=⟨rfl,rfl,rfl,by decide +kernel,rfl,by decide +kernel,by decide +kernel⟩
theorem jz4 (T:Txt K mg t) (G_check_pegs:FD P w K mg base (cfgB t.c_Board) 2 "check_pegs" ["board","pegs"] 2 (j9 t) true):FD P w K mg base (cfgB t.c_Board) 3 "class_of" ["board","pegs"] 2 (je9 t) true :=
 Z7 (Γ:=[.par,.par,.par,.par]) T.f_class_of jy7 rfl (fun i h=>by match i,h with | 0,_=>rfl | 1,_=>rfl) fun f cdv A outer s H E hr =>
 by
 refine k6 ?_ ?_
 refine y1 (κ:=.new) ?_
 refine j8 (κ:=.tmp) G_check_pegs hr (by decide) ?_ (j3 (j3 k8))
 refine j0 (κ:=.tmp) (κa:=.old) ?_ ?_
 exact j1 0 (pv 0)
 refine j0 (κ:=.tmp) (κa:=.old) ?_ ?_
 exact j1 1 (pv 1)
 exact j6 (κ:=.tmp)
 exact jc5
theorem jd1:FnScope ["board","weights","number"] ["board","weights"] (j4 Q4):=⟨rfl,rfl,rfl,by decide +kernel,rfl,by decide +kernel,by decide +kernel⟩
theorem jj4 (T:Txt K mg t):FD P w K mg base (cfgB t.c_Board) 1 "check_weights" ["board","weights"] 2 (y8 t) true :=
 Z7 (Γ:=[.par,.par,.par]) T.f_check_weights jd1 rfl (fun i h=>by match i,h with | 0,_=>rfl | 1,_=>rfl) fun f cdv A outer s H E hr =>
 by
 refine k6 ?_ ?_
 refine U8 ?_   ?_   z8
 refine J4 (κa:=.new) (κb:=.new) (ky1 hr.units) J8 ?_ ?_ (y7 _)
 refine jf4 (κa:=.tmp) ja1 ?_
 refine Q3 y3 rfl T.n_len je4 ?_
 refine j0 (κ:=.tmp) (κa:=.old) ?_ ?_
 exact j1 1 (pv 1)
 exact j6 (κ:=.tmp)
 refine jf4 (κa:=.tmp) ja1 ?_
 refine Q3 y3 rfl T.n_len je4 ?_
 refine j0 (κ:=.tmp) (κa:=.old) ?_ ?_
 refine jj6 (κa:=.old) T.clB T.naB ?_
 exact j1 0 (pv 0)
 exact j6 (κ:=.tmp)
 refine v4 ?_
 exact Z9 ju3 hr.hd T.m_BadWeights T.e_BadWeights (W5 (n:=500) (by decide +kernel))
 refine v4 ?_
 refine jg1 (κ:=.old) (W0 ⟨rfl,rfl⟩) rfl ?_ rfl (jc8 (i:=2) (by exact jd1.nd) rfl (Or.inl rfl)) (jm7 (i:=2) (k:=.par))   ?_
 exact j1 1 (pv 1)
 refine v4 ?_
 refine U8 ?_   ?_   z8
 refine jt0 ?_
 refine kb6 (κa:=.new) (κb:=.old) (κc:=.new) jv8 jv8 jj1 jj1 ?_ ?_ ?_
 exact jl7 rfl T.g_LEAST
 exact j1 2 (pv 2)
 exact jl7 rfl T.g_MOST
 refine v4 ?_
 exact Z9 ju3 hr.hd T.m_BadWeights T.e_BadWeights (js1 (all_cons (W5 (n:=500) (by decide +kernel)) (all_cons (jj7 (n:=500) T.g_LEAST (by decide) (by decide +kernel)) (all_cons (W5 (n:=500) (by decide +kernel)) (all_cons (jj7 (n:=500) T.g_MOST (by decide) (by decide +kernel)) jy3)))) (by decide))
theorem kj3:FnScope ["board","weights","pegs","by_cell"] ["board","weights","pegs"] (j4 jh5):=⟨rfl,rfl,rfl,by decide +kernel,rfl,by decide +kernel,by decide +kernel⟩
theorem kj6 (T:Txt K mg t) (G_check_weights:FD P w K mg base (cfgB t.c_Board) 1 "check_weights" ["board","weights"] 2 (y8 t) true) (G_check_pegs:FD P w K mg base (cfgB t.c_Board) 2 "check_pegs" ["board","pegs"] 2 (j9 t) true):FD P w K mg base (cfgB t.c_Board) 3 "weight" ["board","weights","pegs"] 3 (Y9 t) true :=
 Z7 (Γ:=[.par,.par,.par,.par]) T.f_weight kj3 rfl (fun i h=>by match i,h with | 0,_=>rfl | 1,_=>rfl | 2,_=>rfl) fun f cdv A outer s H E hr =>
 by
 refine k6 ?_ ?_
 refine y1 (κ:=.new) ?_
 refine j8 (κ:=.tmp) G_check_weights hr (by decide) ?_ (j3 (j3 k8))
 refine j0 (κ:=.tmp) (κa:=.old) ?_ ?_
 exact j1 0 (pv 0)
 refine j0 (κ:=.tmp) (κa:=.old) ?_ ?_
 exact j1 1 (pv 1)
 exact j6 (κ:=.tmp)
 refine k6 ?_ ?_
 refine y1 (κ:=.new) ?_
 refine j8 (κ:=.tmp) G_check_pegs hr (by decide) ?_ (j3 (j3 k8))
 refine j0 (κ:=.tmp) (κa:=.old) ?_ ?_
 exact j1 0 (pv 0)
 refine j0 (κ:=.tmp) (κa:=.old) ?_ ?_
 exact j1 2 (pv 2)
 exact j6 (κ:=.tmp)
 exact jc5
theorem kf4:FnScope ["board","pegs"] ["board","pegs"] (j4 jd3):=⟨rfl,rfl,rfl,by decide +kernel,rfl,by decide +kernel,by decide +kernel⟩
theorem ke5 (T:Txt K mg t) (G_check_pegs:FD P w K mg base (cfgB t.c_Board) 2 "check_pegs" ["board","pegs"] 2 (j9 t) true):FD P w K mg base (cfgB t.c_Board) 3 "reached" ["board","pegs"] 2 (jg9 t) true :=
 Z7 (Γ:=[.par,.par]) T.f_reached kf4 rfl (fun i h=>by match i,h with | 0,_=>rfl | 1,_=>rfl) fun f cdv A outer s H E hr =>
 by
 refine k6 ?_ ?_
 refine y1 (κ:=.new) ?_
 refine j8 (κ:=.tmp) G_check_pegs hr (by decide) ?_ (j3 (j3 k8))
 refine j0 (κ:=.tmp) (κa:=.old) ?_ ?_
 exact j1 0 (pv 0)
 refine j0 (κ:=.tmp) (κa:=.old) ?_ ?_
 exact j1 1 (pv 1)
 exact j6 (κ:=.tmp)
 exact jc5
theorem ki8:FnScope ["board","pegs","others","rows"] ["board","pegs","others"] (j4 jh8):=⟨rfl,rfl,rfl,by decide +kernel,rfl,by decide +kernel,by decide +kernel⟩
theorem kp8 (T:Txt K mg t) (G_check_pegs:FD P w K mg base (cfgB t.c_Board) 2 "check_pegs" ["board","pegs"] 2 (j9 t) true):FD P w K mg base (cfgB t.c_Board) 3 "answer" ["board","pegs","others"] 3 (jf2 t) true :=
 Z7 (Γ:=[.par,.par,.par,.par]) T.f_answer ki8 rfl (fun i h=>by match i,h with | 0,_=>rfl | 1,_=>rfl | 2,_=>rfl) fun f cdv A outer s H E hr =>
 by
 refine k6 ?_ ?_
 refine y1 (κ:=.new) ?_
 refine j8 (κ:=.tmp) G_check_pegs hr (by decide) ?_ (j3 (j3 k8))
 refine j0 (κ:=.tmp) (κa:=.old) ?_ ?_
 exact j1 0 (pv 0)
 refine j0 (κ:=.tmp) (κa:=.old) ?_ ?_
 exact j1 1 (pv 1)
 exact j6 (κ:=.tmp)
 refine k6 ?_ ?_
 refine y1 (κ:=.new) ?_
 refine j8 (κ:=.tmp) G_check_pegs hr (by decide) ?_ (j3 (j3 k8))
 refine j0 (κ:=.tmp) (κa:=.old) ?_ ?_
 exact j1 0 (pv 0)
 refine j0 (κ:=.tmp) (κa:=.old) ?_ ?_
 exact j1 2 (pv 2)
 exact j6 (κ:=.tmp)
 exact jc5
theorem kt1:FnScope ["board","pegs","others","paper"] ["board","pegs","others","paper"] (j4 jk4):=⟨rfl,rfl,rfl,by decide +kernel,rfl,by decide +kernel,by decide +kernel⟩
theorem ku0 (T:Txt K mg t) (G_check_pegs:FD P w K mg base (cfgB t.c_Board) 2 "check_pegs" ["board","pegs"] 2 (j9 t) true):FD P w K mg base (cfgB t.c_Board) 3 "holds" ["board","pegs","others","paper"] 4 (ji3 t) true :=
 Z7 (Γ:=[.par,.par,.par,.par]) T.f_holds kt1 rfl (fun i h=>by match i,h with | 0,_=>rfl | 1,_=>rfl | 2,_=>rfl | 3,_=>rfl) fun f cdv A outer s H E hr =>
 by
 refine k6 ?_ ?_
 refine y1 (κ:=.new) ?_
 refine j8 (κ:=.tmp) G_check_pegs hr (by decide) ?_ (j3 (j3 k8))
 refine j0 (κ:=.tmp) (κa:=.old) ?_ ?_
 exact j1 0 (pv 0)
 refine j0 (κ:=.tmp) (κa:=.old) ?_ ?_
 exact j1 1 (pv 1)
 exact j6 (κ:=.tmp)
 refine k6 ?_ ?_
 refine y1 (κ:=.new) ?_
 refine j8 (κ:=.tmp) G_check_pegs hr (by decide) ?_ (j3 (j3 k8))
 refine j0 (κ:=.tmp) (κa:=.old) ?_ ?_
 exact j1 0 (pv 0)
 refine j0 (κ:=.tmp) (κa:=.old) ?_ ?_
 exact j1 2 (pv 2)
 exact j6 (κ:=.tmp)
 exact jc5
theorem jt6:FnScope ["board","pegs","others","all_leaps","layer","leaps_done"] ["board","pegs","others"] (j4 Z4):=⟨rfl,rfl,rfl,by decide +kernel,rfl,by decide +kernel,by decide +kernel⟩
theorem jx0 (T:Txt K mg t) (G_check_pegs:FD P w K mg base (cfgB t.c_Board) 2 "check_pegs" ["board","pegs"] 2 (j9 t) true):FD P w K mg base (cfgB t.c_Board) 3 "row_count" ["board","pegs","others"] 3 (W9 t) true :=
 Z7 (Γ:=[.par,.par,.par,.par,.par,.par]) T.f_row_count jt6 rfl (fun i h=>by match i,h with | 0,_=>rfl | 1,_=>rfl | 2,_=>rfl) fun f cdv A outer s H E hr =>
 by
 refine k6 ?_ ?_
 refine y1 (κ:=.new) ?_
 refine j8 (κ:=.tmp) G_check_pegs hr (by decide) ?_ (j3 (j3 k8))
 refine j0 (κ:=.tmp) (κa:=.old) ?_ ?_
 exact j1 0 (pv 0)
 refine j0 (κ:=.tmp) (κa:=.old) ?_ ?_
 exact j1 1 (pv 1)
 exact j6 (κ:=.tmp)
 refine k6 ?_ ?_
 refine y1 (κ:=.new) ?_
 refine j8 (κ:=.tmp) G_check_pegs hr (by decide) ?_ (j3 (j3 k8))
 refine j0 (κ:=.tmp) (κa:=.old) ?_ ?_
 exact j1 0 (pv 0)
 refine j0 (κ:=.tmp) (κa:=.old) ?_ ?_
 exact j1 2 (pv 2)
 exact j6 (κ:=.tmp)
 exact jc5
theorem jl0:FnScope ["script","k"] ["script","k"] (j4 U2):=⟨rfl,rfl,rfl,by decide +kernel,rfl,by decide +kernel,by decide +kernel⟩
theorem jl9 (T:Txt K mg t):FD P w K mg base (cfgB t.c_Board) 1 "_law_cell_at" ["script","k"] 2 (k9 t) true :=
 Z7 (Γ:=[.par,.par]) T.f__law_cell_at jl0 rfl (fun i h=>by match i,h with | 0,_=>rfl | 1,_=>rfl) fun f cdv A outer s H E hr =>
 by
 refine k6 ?_ ?_
 refine U8 ?_   ?_   z8
 refine J4 (κa:=.old) (κb:=.new) qj1 kx5 ?_ ?_ (y7 _)
 exact j1 1 (pv 1)
 refine jf4 (κa:=.tmp) ja1 ?_
 refine Q3 y3 rfl T.n_len je4 ?_
 refine j0 (κ:=.tmp) (κa:=.old) ?_ ?_
 exact j1 0 (pv 0)
 exact j6 (κ:=.tmp)
 refine v4 ?_
 refine Y6 (κ:=.new) ?_
 refine jc1 (κ:=.old) ?_
 refine jf9 (κa:=.old) (κb:=.old) ?_ ?_ (fun _ _=>rfl)
 exact j1 0 (pv 0)
 exact j1 1 (pv 1)
 refine v4 ?_
 refine Y6 (κ:=.new) ?_
 exact j5
theorem jc3:FnScope ["cell","k","many","some","number"] ["cell","k","many"] (j4 jb7):=⟨rfl,rfl,rfl,by decide +kernel,rfl,by decide +kernel,by decide +kernel⟩
theorem jz0 (T:Txt K mg t):FD P w K mg base (cfgB t.c_Board) 1 "_law_mix" ["cell","k","many"] 3 (q9 t) true :=
 Z7 (Γ:=[.par,.par,.par,.par,.par]) T.f__law_mix jc3 rfl (fun i h=>by match i,h with | 0,_=>rfl | 1,_=>rfl | 2,_=>rfl) fun f cdv A outer s H E hr =>
 by
 refine k6 ?_ ?_
 refine Y4 (i:=3) (k:=.par) (κ:=.new) ?_ ?_
 exact jc3.nd
 refine W7 ?_
 refine j0 (κ:=.new) (κa:=.new) ?_ ?_
 exact j5
 refine j0 (κ:=.new) (κa:=.new) ?_ ?_
 exact j5
 refine j0 (κ:=.new) (κa:=.new) ?_ ?_
 exact j5
 refine j0 (κ:=.new) (κa:=.new) ?_ ?_
 exact j5
 refine j0 (κ:=.new) (κa:=.new) ?_ ?_
 exact j5
 refine j0 (κ:=.new) (κa:=.new) ?_ ?_
 exact j5
 refine j0 (κ:=.new) (κa:=.new) ?_ ?_
 exact j5
 refine j0 (κ:=.new) (κa:=.new) ?_ ?_
 exact j5
 refine j0 (κ:=.new) (κa:=.new) ?_ ?_
 exact j5
 refine j0 (κ:=.new) (κa:=.new) ?_ ?_
 exact j5
 refine j0 (κ:=.new) (κa:=.new) ?_ ?_
 exact j5
 refine j0 (κ:=.new) (κa:=.new) ?_ ?_
 exact j5
 refine j0 (κ:=.new) (κa:=.new) ?_ ?_
 exact j5
 exact j6 (κ:=.new)
 refine k6 ?_ ?_
 refine Y4 (i:=4) (k:=.par) (κ:=.new) ?_ ?_
 exact jc3.nd
 refine z9 (κa:=.new) (κb:=.old) ju9 jk5 ?_ ?_
 refine z9 (κa:=.new) (κb:=.new) jd7 Z3 ?_ ?_
 refine z9 (κa:=.old) (κb:=.new) ja5 W2 ?_ ?_
 exact j1 0 (pv 0)
 exact j5
 exact j5
 refine jf9 (κa:=.old) (κb:=.new) ?_ ?_ (fun _ _=>rfl)
 exact j1 3 (pv 3)
 refine z9 (κa:=.old) (κb:=.new) ja5 W2 ?_ ?_
 exact j1 1 (pv 1)
 exact j5
 refine k6 ?_ ?_
 refine Y4 (i:=4) (k:=.par) (κ:=.new) ?_ ?_
 exact jc3.nd
 refine z9 (κa:=.new) (κb:=.new) jd7 Z3 ?_ ?_
 refine z9 (κa:=.old) (κb:=.new) ju9 jk5 ?_ ?_
 exact j1 4 (pv 4)
 refine z9 (κa:=.new) (κb:=.new) jd7 Z3 ?_ ?_
 refine z9 (κa:=.new) (κb:=.new) ju9 jk5 ?_ ?_
 exact j5
 refine z9 (κa:=.old) (κb:=.new) jg2 jg0 ?_ ?_
 exact j1 1 (pv 1)
 exact j5
 exact j5
 refine z9 (κa:=.new) (κb:=.old) ju9 jk5 ?_ ?_
 exact j5
 exact j1 1 (pv 1)
 refine v4 ?_
 refine Y6 (κ:=.new) ?_
 refine z9 (κa:=.new) (κb:=.old) ja5 W2 ?_ ?_
 refine z9 (κa:=.new) (κb:=.new) jg2 jg0 ?_ ?_
 refine z9 (κa:=.old) (κb:=.new) ja5 W2 ?_ ?_
 exact j1 4 (pv 4)
 exact j5
 exact j5
 exact j1 2 (pv 2)
theorem w9:FnScope ["script","most","cell","height","width","down","across","some","k"] ["script","most"] (j4 Q6):=⟨rfl,rfl,rfl,by decide +kernel,rfl,by decide +kernel,by decide +kernel⟩
theorem jj3 (T:Txt K mg t) (G__law_cell_at:FD P w K mg base (cfgB t.c_Board) 1 "_law_cell_at" ["script","k"] 2 (k9 t) true) (G__law_mix:FD P w K mg base (cfgB t.c_Board) 1 "_law_mix" ["cell","k","many"] 3 (q9 t) true):FD P w K mg base (cfgB t.c_Board) 2 "_law_cells_by" ["script","most"] 2 (y2 t) true :=
 Z7 (Γ:=[.par,.par,.par,.par,.par,.par,.par,.own true,.par]) T.f__law_cells_by w9 rfl (fun i h=>by match i,h with | 0,_=>rfl | 1,_=>rfl) fun f cdv A outer s H E hr =>
 by
 refine k6 ?_ ?_
 refine Y4 (i:=2) (k:=.par) (κ:=.new) ?_ ?_
 exact w9.nd
 refine j8 (κ:=.tmp) G__law_cell_at hr (by decide) ?_ (j3 (j3 k8))
 refine j0 (κ:=.tmp) (κa:=.old) ?_ ?_
 exact j1 0 (pv 0)
 refine j0 (κ:=.tmp) (κa:=.new) ?_ ?_
 exact j5
 exact j6 (κ:=.tmp)
 refine k6 ?_ ?_
 refine ky0 (i:=3) (j:=4) (k:=.par) (k':=.par) rfl ?_ ?_ (by decide)
 exact w9.nd
 refine j0 (κ:=.new) (κa:=.new) ?_ ?_
 refine z9 (κa:=.new) (κb:=.new) jd7 Z3 ?_ ?_
 exact j5
 refine j8 (κ:=.tmp) G__law_mix hr (by decide) ?_ (j3 (j3 (j3 k8)))
 refine j0 (κ:=.tmp) (κa:=.old) ?_ ?_
 exact j1 2 (pv 2)
 refine j0 (κ:=.tmp) (κa:=.new) ?_ ?_
 exact j5
 refine j0 (κ:=.tmp) (κa:=.new) ?_ ?_
 exact j5
 exact j6 (κ:=.tmp)
 refine j0 (κ:=.new) (κa:=.new) ?_ ?_
 refine z9 (κa:=.new) (κb:=.new) jd7 Z3 ?_ ?_
 exact j5
 refine j8 (κ:=.tmp) G__law_mix hr (by decide) ?_ (j3 (j3 (j3 k8)))
 refine j0 (κ:=.tmp) (κa:=.old) ?_ ?_
 exact j1 2 (pv 2)
 refine j0 (κ:=.tmp) (κa:=.new) ?_ ?_
 exact j5
 refine j0 (κ:=.tmp) (κa:=.new) ?_ ?_
 exact j5
 exact j6 (κ:=.tmp)
 exact j6 (κ:=.new)
 refine k6 ?_ ?_
 refine U8 ?_   ?_   z8
 refine J4 (κa:=.new) (κb:=.new) (Q5 hr.units) J8 ?_ ?_ (y7 _)
 refine z9 (κa:=.old) (κb:=.new) ja5 W2 ?_ ?_
 exact j1 2 (pv 2)
 exact j5
 exact j5
 refine v4 ?_
 refine qa3 (κ:=.new) ?_ rfl (kx3 rfl (jk2 (jc8 (i:=3) (by exact w9.nd) rfl (Or.inl rfl)) (jk2 (jc8 (i:=4) (by exact w9.nd) rfl (Or.inl rfl)) ki3))) (km6 (i:=3) (j:=4) (k:=.par) (k':=.par))
 refine jc1 (κ:=.old) ?_
 refine jf9 (κa:=.new) (κb:=.new) ?_ ?_ (fun _ _=>rfl)
 refine W7 ?_
 refine j0 (κ:=.new) (κa:=.new) ?_ ?_
 refine ja7 ?_
 refine j0 (κ:=.new) (κa:=.new) ?_ ?_
 refine z9 (κa:=.new) (κb:=.new) jd7 Z3 ?_ ?_
 exact j5
 refine z9 (κa:=.old) (κb:=.new) ja5 W2 ?_ ?_
 exact j1 3 (pv 3)
 exact j5
 refine j0 (κ:=.new) (κa:=.new) ?_ ?_
 exact j5
 exact j6 (κ:=.new)
 refine j0 (κ:=.new) (κa:=.new) ?_ ?_
 refine ja7 ?_
 refine j0 (κ:=.new) (κa:=.new) ?_ ?_
 exact j5
 refine j0 (κ:=.new) (κa:=.new) ?_ ?_
 refine z9 (κa:=.new) (κb:=.new) jd7 Z3 ?_ ?_
 exact j5
 refine z9 (κa:=.old) (κb:=.new) ja5 W2 ?_ ?_
 exact j1 4 (pv 4)
 exact j5
 exact j6 (κ:=.new)
 exact j6 (κ:=.new)
 refine z9 (κa:=.new) (κb:=.new) ja5 W2 ?_ ?_
 refine z9 (κa:=.old) (κb:=.new) jg2 jg0 ?_ ?_
 exact j1 2 (pv 2)
 exact j5
 exact j5
 refine k6 ?_ ?_
 refine ky0 (i:=5) (j:=6) (k:=.par) (k':=.par) rfl ?_ ?_ (by decide)
 exact w9.nd
 refine j0 (κ:=.new) (κa:=.new) ?_ ?_
 refine j8 (κ:=.tmp) G__law_mix hr (by decide) ?_ (j3 (j3 (j3 k8)))
 refine j0 (κ:=.tmp) (κa:=.old) ?_ ?_
 exact j1 2 (pv 2)
 refine j0 (κ:=.tmp) (κa:=.new) ?_ ?_
 exact j5
 refine j0 (κ:=.tmp) (κa:=.new) ?_ ?_
 refine z9 (κa:=.new) (κb:=.old) kx1 km3 ?_ ?_
 exact j5
 exact j1 3 (pv 3)
 exact j6 (κ:=.tmp)
 refine j0 (κ:=.new) (κa:=.new) ?_ ?_
 refine j8 (κ:=.tmp) G__law_mix hr (by decide) ?_ (j3 (j3 (j3 k8)))
 refine j0 (κ:=.tmp) (κa:=.old) ?_ ?_
 exact j1 2 (pv 2)
 refine j0 (κ:=.tmp) (κa:=.new) ?_ ?_
 exact j5
 refine j0 (κ:=.tmp) (κa:=.new) ?_ ?_
 refine z9 (κa:=.new) (κb:=.old) kx1 km3 ?_ ?_
 exact j5
 exact j1 4 (pv 4)
 exact j6 (κ:=.tmp)
 exact j6 (κ:=.new)
 refine k6 ?_ ?_
 refine Y4 (i:=7) (k:=(.own true)) (κ:=.new) ?_ ?_
 exact w9.nd
 refine W7 ?_
 exact j6 (κ:=.new)
 refine k6 ?_ ?_
 refine ji9 (κ:=.tmp) (W0 ⟨rfl,rfl⟩) rfl T.n_range ?_ (jc8 (i:=8) (by exact w9.nd) rfl (Or.inl rfl)) (jm7 (i:=8) (k:=.par))   ?_
 refine j0 (κ:=.tmp) (κa:=.new) ?_ ?_
 refine z9 (κa:=.old) (κb:=.old) ju9 jk5 ?_ ?_
 exact j1 3 (pv 3)
 exact j1 4 (pv 4)
 exact j6 (κ:=.tmp)
 refine v4 ?_
 refine U8 ?_   ?_   z8
 refine J4 (κa:=.new) (κb:=.new) kr2 kc8 ?_ ?_ (y7 _)
 refine j8 (κ:=.tmp) G__law_mix hr (by decide) ?_ (j3 (j3 (j3 k8)))
 refine j0 (κ:=.tmp) (κa:=.new) ?_ ?_
 refine j8 (κ:=.tmp) G__law_cell_at hr (by decide) ?_ (j3 (j3 k8))
 refine j0 (κ:=.tmp) (κa:=.old) ?_ ?_
 exact j1 0 (pv 0)
 refine j0 (κ:=.tmp) (κa:=.new) ?_ ?_
 exact j5
 exact j6 (κ:=.tmp)
 refine j0 (κ:=.tmp) (κa:=.old) ?_ ?_
 exact j1 8 (pv 8)
 refine j0 (κ:=.tmp) (κa:=.new) ?_ ?_
 exact j5
 exact j6 (κ:=.tmp)
 exact j5
 refine v4 ?_
 refine qi2 (i:=7) (κ:=.new) (to:=tVar 7) ?_ rfl
 refine qq4 PySem.F.plainAttrs_list PySem.F.slot_list_append PySem.F.type_list_append jt2 (pv 7) ?_
 refine jd4 ?_ jm3
 refine ja7 ?_
 refine j0 (κ:=.new) (κa:=.new) ?_ ?_
 refine z9 (κa:=.old) (κb:=.new) jd7 Z3 ?_ ?_
 exact j1 5 (pv 5)
 refine z9 (κa:=.old) (κb:=.old) jg2 jg0 ?_ ?_
 exact j1 8 (pv 8)
 exact j1 4 (pv 4)
 refine j0 (κ:=.new) (κa:=.new) ?_ ?_
 refine z9 (κa:=.old) (κb:=.new) jd7 Z3 ?_ ?_
 exact j1 6 (pv 6)
 refine z9 (κa:=.old) (κb:=.old) ja5 W2 ?_ ?_
 exact j1 8 (pv 8)
 exact j1 4 (pv 4)
 exact j6 (κ:=.new)
 refine k6 ?_ ?_
 refine U8 ?_   ?_   z8
 refine J4 (κa:=.new) (κb:=.new) (Q5 hr.units) J8 ?_ ?_ (y7 _)
 refine jf4 (κa:=.tmp) ja1 ?_
 refine Q3 y3 rfl T.n_len je4 ?_
 refine j0 (κ:=.tmp) (κa:=.tmn) ?_ ?_
 exact km8 7 (pv 7)
 exact j6 (κ:=.tmp)
 exact j5
 refine v4 ?_
 refine Y4 (i:=7) (k:=(.own true)) (κ:=.new) ?_ ?_
 exact w9.nd
 refine W7 ?_
 refine j0 (κ:=.new) (κa:=.new) ?_ ?_
 refine ja7 ?_
 refine j0 (κ:=.new) (κa:=.new) ?_ ?_
 refine jc1 (κ:=.old) ?_
 exact j1 5 (pv 5)
 refine j0 (κ:=.new) (κa:=.new) ?_ ?_
 refine jc1 (κ:=.old) ?_
 exact j1 6 (pv 6)
 exact j6 (κ:=.new)
 exact j6 (κ:=.new)
 refine v4 ?_
 refine Y6 (κ:=.new) ?_
 refine jc9 (κa:=.tmn) ?_ jg7 ?_
 exact km8 7 (pv 7)
 refine jg3 (κ:=.old) ?_
 exact j1 1 (pv 1)
theorem Z2:FnScope ["cell","cells","way","gone"] ["cell","cells"] (j4 U3):=⟨rfl,rfl,rfl,by decide +kernel,rfl,by decide +kernel,by decide +kernel⟩
theorem jm0 (T:Txt K mg t) (G__law_mix:FD P w K mg base (cfgB t.c_Board) 1 "_law_mix" ["cell","k","many"] 3 (q9 t) true):FD P w K mg base (cfgB t.c_Board) 2 "_law_pegs_by" ["cell","cells"] 2 (Q1 t) true :=
 Z7 (Γ:=[.par,.par,.par,.par]) T.f__law_pegs_by Z2 rfl (fun i h=>by match i,h with | 0,_=>rfl | 1,_=>rfl) fun f cdv A outer s H E hr =>
 by
 refine k6 ?_ ?_
 refine Y4 (i:=2) (k:=.par) (κ:=.new) ?_ ?_
 exact Z2.nd
 refine j8 (κ:=.tmp) G__law_mix hr (by decide) ?_ (j3 (j3 (j3 k8)))
 refine j0 (κ:=.tmp) (κa:=.old) ?_ ?_
 exact j1 0 (pv 0)
 refine j0 (κ:=.tmp) (κa:=.new) ?_ ?_
 exact j5
 refine j0 (κ:=.tmp) (κa:=.new) ?_ ?_
 exact j5
 exact j6 (κ:=.tmp)
 refine k6 ?_ ?_
 refine U8 ?_   ?_   z8
 refine J4 (κa:=.old) (κb:=.new) (Q5 hr.units) J8 ?_ ?_ (y7 _)
 exact j1 2 (pv 2)
 exact j5
 refine k6 ?_ ?_
 refine Y4 (i:=3) (k:=.par) (κ:=.new) ?_ ?_
 exact Z2.nd
 refine j8 (κ:=.tmp) G__law_mix hr (by decide) ?_ (j3 (j3 (j3 k8)))
 refine j0 (κ:=.tmp) (κa:=.old) ?_ ?_
 exact j1 0 (pv 0)
 refine j0 (κ:=.tmp) (κa:=.new) ?_ ?_
 exact j5
 refine j0 (κ:=.tmp) (κa:=.new) ?_ ?_
 refine jf4 (κa:=.tmp) ja1 ?_
 refine Q3 y3 rfl T.n_len je4 ?_
 refine j0 (κ:=.tmp) (κa:=.old) ?_ ?_
 exact j1 1 (pv 1)
 exact j6 (κ:=.tmp)
 exact j6 (κ:=.tmp)
 refine v4 ?_
 refine Y6 (κ:=.new) ?_
 refine z9 (κa:=.new) (κb:=.new) jl3 jl5 ?_ ?_
 refine jc9 (κa:=.old) ?_ jg7 ?_
 exact j1 1 (pv 1)
 refine jg3 (κ:=.old) ?_
 exact j1 3 (pv 3)
 refine jc9 (κa:=.old) ?_ ?_ jg7
 exact j1 1 (pv 1)
 refine jg3 (κ:=.new) ?_
 refine z9 (κa:=.old) (κb:=.new) jd7 Z3 ?_ ?_
 exact j1 3 (pv 3)
 exact j5
 refine v4 ?_
 refine Y6 (κ:=.new) ?_
 refine kr7 (n:=true) (z:=true) (tgs:=["k","one"]) (caps:=[(0,"cell"),(2,"way")]) ?_ (Blk.mk (κe:=.new) (n:=true) (z:=true) (tgs:=["k","one"]) (caps:=[(0,"cell"),(2,"way")]) rfl rfl (by decide +kernel) ?_ ?_ (by with_unfolding_all rfl) (by decide +kernel) ?_ (fun _ p hp=>by simp only [List.mem_cons,List.not_mem_nil,or_false] at hp; rcases hp with rfl | rfl <;> first | exact Or.inl rfl | exact Or.inr rfl) (km6 (i:=0) (j:=1) (k:=.par) (k':=.par)) (fun fp s0 H0 L=>kx3 rfl (jk2 (jc8 (i:=0) (by exact (show List.Nodup (["k","one","cell","way"]:List Str) from by decide +kernel)) rfl (Or.inl rfl) (Or.inr rfl)) (jk2 (jc8 (i:=1) (by exact (show List.Nodup (["k","one","cell","way"]:List Str) from by decide +kernel)) rfl (Or.inl rfl) (Or.inr rfl)) ki3))) (fun fp s0 H0 L=>kg9 ?_) (fun fp s0 H0 L=>?_) (fun _=>rfl) (fun h=>nomatch h))
 refine qc6 (κ:=.old) T.n_enumerate ?_ (fun _=>rfl)
 exact j1 1 (pv 1)
 exact qj8 (by intro p hp; simp only [List.mem_cons,List.not_mem_nil,or_false] at hp; rcases hp with rfl | rfl <;> rfl)
 exact qd7 (by rfl)
 exact ⟨⟨rfl,rfl,rfl,rfl⟩,⟨⟨rfl,rfl,rfl,rfl⟩,trivial⟩⟩
 refine J4 (κa:=.new) (κb:=.new) kr2 kc8 ?_ ?_ (y7 _)
 refine j8 (κ:=.tmp) G__law_mix hr (by decide) ?_ (j3 (j3 (j3 k8)))
 refine j0 (κ:=.tmp) (κa:=.old) ?_ ?_
 exact j1 2 (pv 2)
 refine j0 (κ:=.tmp) (κa:=.old) ?_ ?_
 exact j1 0 (pv 0)
 refine j0 (κ:=.tmp) (κa:=.old) ?_ ?_
 refine jf9 (κa:=.new) (κb:=.old) ?_ ?_ (fun _ _=>rfl)
 refine W7 ?_
 refine j0 (κ:=.new) (κa:=.new) ?_ ?_
 exact j5
 refine j0 (κ:=.new) (κa:=.new) ?_ ?_
 exact j5
 refine j0 (κ:=.new) (κa:=.new) ?_ ?_
 exact j5
 refine j0 (κ:=.new) (κa:=.new) ?_ ?_
 exact j5
 exact j6 (κ:=.new)
 exact j1 3 (pv 3)
 exact j6 (κ:=.tmp)
 exact j5
 refine jc1 (κ:=.old) ?_
 exact j1 1 (pv 1)
theorem ja4:FnScope ["cells","pegs","cell","at","off"] ["cells","pegs","cell"] (j4 Z6):=⟨rfl,rfl,rfl,by decide +kernel,rfl,by decide +kernel,by decide +kernel⟩
theorem ju8 (T:Txt K mg t):FD P w K mg base (cfgB t.c_Board) 1 "_law_hurt" ["cells","pegs","cell"] 3 (U5 t) true :=
 Z7 (Γ:=[.par,.par,.par,.par,.par]) T.f__law_hurt ja4 rfl (fun i h=>by match i,h with | 0,_=>rfl | 1,_=>rfl | 2,_=>rfl) fun f cdv A outer s H E hr =>
 by
 refine k6 ?_ ?_
 refine Y4 (i:=3) (k:=.par) (κ:=.new) ?_ ?_
 exact ja4.nd
 refine z9 (κa:=.new) (κb:=.new) ja5 W2 ?_ ?_
 refine z9 (κa:=.old) (κb:=.new) jg2 jg0 ?_ ?_
 exact j1 2 (pv 2)
 exact j5
 refine z9 (κa:=.new) (κb:=.new) jd7 Z3 ?_ ?_
 refine jf4 (κa:=.tmp) ja1 ?_
 refine Q3 y3 rfl T.n_len je4 ?_
 refine j0 (κ:=.tmp) (κa:=.old) ?_ ?_
 exact j1 1 (pv 1)
 exact j6 (κ:=.tmp)
 exact j5
 refine k6 ?_ ?_
 refine U8 ?_   ?_   z8
 refine PW.pt ?_
 refine ky2 ?_ ?_
 refine J4 (κa:=.new) (κb:=.new) (Q5 hr.units) J8 ?_ ?_ (y7 _)
 refine z9 (κa:=.old) (κb:=.new) ja5 W2 ?_ ?_
 exact j1 2 (pv 2)
 exact j5
 exact j5
 refine kg3 ?_
 refine J4 (κa:=.new) (κb:=.new) kr2 kc8 ?_ ?_ (y7 _)
 refine jf4 (κa:=.tmp) ja1 ?_
 refine Q3 y3 rfl T.n_len je4 ?_
 refine j0 (κ:=.tmp) (κa:=.old) ?_ ?_
 exact j1 1 (pv 1)
 exact j6 (κ:=.tmp)
 exact j5
 refine v4 ?_
 refine Y6 (κ:=.new) ?_
 refine z9 (κa:=.new) (κb:=.new) jl3 jl5 ?_ ?_
 refine z9 (κa:=.new) (κb:=.new) jl3 jl5 ?_ ?_
 refine jc9 (κa:=.old) ?_ jg7 ?_
 exact j1 1 (pv 1)
 refine jg3 (κ:=.old) ?_
 exact j1 3 (pv 3)
 refine W7 ?_
 refine j0 (κ:=.new) (κa:=.new) ?_ ?_
 refine jc1 (κ:=.old) ?_
 refine jf9 (κa:=.old) (κb:=.new) ?_ ?_ (fun _ _=>rfl)
 exact j1 1 (pv 1)
 refine z9 (κa:=.new) (κb:=.new) ja5 W2 ?_ ?_
 refine z9 (κa:=.old) (κb:=.new) jg2 jg0 ?_ ?_
 exact j1 2 (pv 2)
 exact j5
 refine jf4 (κa:=.tmp) ja1 ?_
 refine Q3 y3 rfl T.n_len je4 ?_
 refine j0 (κ:=.tmp) (κa:=.old) ?_ ?_
 exact j1 1 (pv 1)
 exact j6 (κ:=.tmp)
 exact j6 (κ:=.new)
 refine jc9 (κa:=.old) ?_ ?_ jg7
 exact j1 1 (pv 1)
 refine jg3 (κ:=.old) ?_
 exact j1 3 (pv 3)
 refine k6 ?_ ?_
 refine U8 ?_   ?_   z8
 refine PW.pt ?_
 refine ky2 ?_ ?_
 refine J4 (κa:=.new) (κb:=.new) (Q5 hr.units) J8 ?_ ?_ (y7 _)
 refine z9 (κa:=.old) (κb:=.new) ja5 W2 ?_ ?_
 exact j1 2 (pv 2)
 exact j5
 exact j5
 refine kg3 ?_
 refine J4 (κa:=.new) (κb:=.new) kr2 kc8 ?_ ?_ (y7 _)
 refine jf4 (κa:=.tmp) ja1 ?_
 refine Q3 y3 rfl T.n_len je4 ?_
 refine j0 (κ:=.tmp) (κa:=.old) ?_ ?_
 exact j1 1 (pv 1)
 exact j6 (κ:=.tmp)
 exact j5
 refine v4 ?_
 refine Y6 (κ:=.new) ?_
 refine z9 (κa:=.new) (κb:=.new) jl3 jl5 ?_ ?_
 refine jc9 (κa:=.old) ?_ ?_ jg7
 exact j1 1 (pv 1)
 refine jg3 (κ:=.new) ?_
 exact j5
 refine jc9 (κa:=.old) ?_ jg7 ?_
 exact j1 1 (pv 1)
 refine jg3 (κ:=.new) ?_
 exact j5
 refine k6 ?_ ?_
 refine Y4 (i:=4) (k:=.par) (κ:=.new) ?_ ?_
 exact ja4.nd
 refine jc1 (κ:=.old) ?_
 refine jf9 (κa:=.new) (κb:=.new) ?_ ?_ (fun _ _=>rfl)
 refine W7 ?_
 refine j0 (κ:=.new) (κa:=.new) ?_ ?_
 refine ja7 ?_
 refine j0 (κ:=.new) (κa:=.new) ?_ ?_
 exact j5
 refine j0 (κ:=.new) (κa:=.new) ?_ ?_
 exact j5
 exact j6 (κ:=.new)
 refine j0 (κ:=.new) (κa:=.new) ?_ ?_
 refine ja7 ?_
 refine j0 (κ:=.new) (κa:=.new) ?_ ?_
 exact j5
 refine j0 (κ:=.new) (κa:=.new) ?_ ?_
 exact j5
 exact j6 (κ:=.new)
 refine j0 (κ:=.new) (κa:=.new) ?_ ?_
 refine ja7 ?_
 refine j0 (κ:=.new) (κa:=.new) ?_ ?_
 refine qm6 (κa:=.new) ?_
 exact j5
 refine j0 (κ:=.new) (κa:=.new) ?_ ?_
 exact j5
 exact j6 (κ:=.new)
 refine j0 (κ:=.new) (κa:=.new) ?_ ?_
 refine ja7 ?_
 refine j0 (κ:=.new) (κa:=.new) ?_ ?_
 refine z9 (κa:=.new) (κb:=.new) ql4 qa6 ?_ ?_
 exact j5
 exact j5
 refine j0 (κ:=.new) (κa:=.new) ?_ ?_
 exact j5
 exact j6 (κ:=.new)
 exact j6 (κ:=.new)
 refine z9 (κa:=.new) (κb:=.new) ja5 W2 ?_ ?_
 refine z9 (κa:=.old) (κb:=.new) jg2 jg0 ?_ ?_
 exact j1 2 (pv 2)
 exact j5
 exact j5
 refine k6 ?_ ?_
 refine U8 ?_   ?_   z8
 refine J4 (κa:=.old) (κb:=.old) (qn3 hr.units) kx6 ?_ ?_ (by with_unfolding_all rfl)
 exact j1 4 (pv 4)
 exact j1 0 (pv 0)
 refine v4 ?_
 refine Y4 (i:=4) (k:=.par) (κ:=.new) ?_ ?_
 exact ja4.nd
 refine ja7 ?_
 refine j0 (κ:=.new) (κa:=.new) ?_ ?_
 exact j5
 refine j0 (κ:=.new) (κa:=.new) ?_ ?_
 exact j5
 exact j6 (κ:=.new)
 refine v4 ?_
 refine Y6 (κ:=.new) ?_
 refine jf4 (κa:=.tmp) ki5 ?_
 refine Q3 (ju2 hr.units) rfl T.n_sorted jv2 ?_
 refine j0 (κ:=.tmp) (κa:=.new) ?_ ?_
 refine z9 (κa:=.old) (κb:=.new) jl3 jl5 ?_ ?_
 exact j1 1 (pv 1)
 refine W7 ?_
 refine j0 (κ:=.new) (κa:=.new) ?_ ?_
 refine jc1 (κ:=.old) ?_
 exact j1 4 (pv 4)
 exact j6 (κ:=.new)
 exact j6 (κ:=.tmp)
theorem js4:FnScope ["board","way","bad","good"] ["board","way","bad","good"] (j4 Y1):=⟨rfl,rfl,rfl,by decide +kernel,rfl,by decide +kernel,by decide +kernel⟩
theorem jq7 (T:Txt K mg t) (G_turned:FD P w K mg base (cfgB t.c_Board) 3 "turned" ["board","pegs"] 2 (jk1 t) true) (G_open_leaps:FD P w K mg base (cfgB t.c_Board) 3 "open_leaps" ["board","pegs"] 2 (jb1 t) true) (G_leapt:FD P w K mg base (cfgB t.c_Board) 4 "leapt" ["board","pegs","leap"] 3 (jn2 t) true) (G_walked:FD P w K mg base (cfgB t.c_Board) 3 "walked" ["board","pegs","row"] 3 (jf3 t) true) (G_class_of:FD P w K mg base (cfgB t.c_Board) 3 "class_of" ["board","pegs"] 2 (je9 t) true) (G_weight:FD P w K mg base (cfgB t.c_Board) 3 "weight" ["board","weights","pegs"] 3 (Y9 t) true) (G_reached:FD P w K mg base (cfgB t.c_Board) 3 "reached" ["board","pegs"] 2 (jg9 t) true):FD P w K mg base (cfgB t.c_Board) 5 "_law_first" ["board","way","bad","good"] 4 (k7 t) true :=
 Z7 (Γ:=[.par,.par,.par,.par]) T.f__law_first js4 rfl (fun i h=>by match i,h with | 0,_=>rfl | 1,_=>rfl | 2,_=>rfl | 3,_=>rfl) fun f cdv A outer s H E hr =>
 by
 refine k6 ?_ ?_
 refine U8 ?_   ?_   z8
 refine J4 (κa:=.old) (κb:=.new) (Q5 hr.units) J8 ?_ ?_ (y7 _)
 exact j1 1 (pv 1)
 exact j5
 refine v4 ?_
 refine y1 (κ:=.new) ?_
 refine j8 (κ:=.tmp) G_turned hr (by decide) ?_ (j3 (j3 k8))
 refine j0 (κ:=.tmp) (κa:=.old) ?_ ?_
 exact j1 0 (pv 0)
 refine j0 (κ:=.tmp) (κa:=.old) ?_ ?_
 exact j1 2 (pv 2)
 exact j6 (κ:=.tmp)
 refine k6 ?_ ?_
 refine U8 ?_   ?_   z8
 refine J4 (κa:=.old) (κb:=.new) (Q5 hr.units) J8 ?_ ?_ (y7 _)
 exact j1 1 (pv 1)
 exact j5
 refine v4 ?_
 refine y1 (κ:=.new) ?_
 refine j8 (κ:=.tmp) G_open_leaps hr (by decide) ?_ (j3 (j3 k8))
 refine j0 (κ:=.tmp) (κa:=.old) ?_ ?_
 exact j1 0 (pv 0)
 refine j0 (κ:=.tmp) (κa:=.old) ?_ ?_
 exact j1 2 (pv 2)
 exact j6 (κ:=.tmp)
 refine k6 ?_ ?_
 refine U8 ?_   ?_   z8
 refine J4 (κa:=.old) (κb:=.new) (Q5 hr.units) J8 ?_ ?_ (y7 _)
 exact j1 1 (pv 1)
 exact j5
 refine v4 ?_
 refine y1 (κ:=.new) ?_
 refine j8 (κ:=.tmp) G_leapt hr (by decide) ?_ (j3 (j3 (j3 k8)))
 refine j0 (κ:=.tmp) (κa:=.old) ?_ ?_
 exact j1 0 (pv 0)
 refine j0 (κ:=.tmp) (κa:=.old) ?_ ?_
 exact j1 2 (pv 2)
 refine j0 (κ:=.tmp) (κa:=.new) ?_ ?_
 refine ja7 ?_
 refine j0 (κ:=.new) (κa:=.new) ?_ ?_
 refine ja7 ?_
 refine j0 (κ:=.new) (κa:=.new) ?_ ?_
 exact j5
 refine j0 (κ:=.new) (κa:=.new) ?_ ?_
 exact j5
 exact j6 (κ:=.new)
 refine j0 (κ:=.new) (κa:=.new) ?_ ?_
 refine ja7 ?_
 refine j0 (κ:=.new) (κa:=.new) ?_ ?_
 exact j5
 refine j0 (κ:=.new) (κa:=.new) ?_ ?_
 exact j5
 exact j6 (κ:=.new)
 exact j6 (κ:=.new)
 exact j6 (κ:=.tmp)
 refine k6 ?_ ?_
 refine U8 ?_   ?_   z8
 refine J4 (κa:=.old) (κb:=.new) (Q5 hr.units) J8 ?_ ?_ (y7 _)
 exact j1 1 (pv 1)
 exact j5
 refine v4 ?_
 refine y1 (κ:=.new) ?_
 refine j8 (κ:=.tmp) G_walked hr (by decide) ?_ (j3 (j3 (j3 k8)))
 refine j0 (κ:=.tmp) (κa:=.old) ?_ ?_
 exact j1 0 (pv 0)
 refine j0 (κ:=.tmp) (κa:=.old) ?_ ?_
 exact j1 2 (pv 2)
 refine j0 (κ:=.tmp) (κa:=.new) ?_ ?_
 refine W7 ?_
 exact j6 (κ:=.new)
 exact j6 (κ:=.tmp)
 refine k6 ?_ ?_
 refine U8 ?_   ?_   z8
 refine J4 (κa:=.old) (κb:=.new) (Q5 hr.units) J8 ?_ ?_ (y7 _)
 exact j1 1 (pv 1)
 exact j5
 refine v4 ?_
 refine y1 (κ:=.new) ?_
 refine j8 (κ:=.tmp) G_class_of hr (by decide) ?_ (j3 (j3 k8))
 refine j0 (κ:=.tmp) (κa:=.old) ?_ ?_
 exact j1 0 (pv 0)
 refine j0 (κ:=.tmp) (κa:=.old) ?_ ?_
 exact j1 2 (pv 2)
 exact j6 (κ:=.tmp)
 refine k6 ?_ ?_
 refine U8 ?_   ?_   z8
 refine J4 (κa:=.old) (κb:=.new) (Q5 hr.units) J8 ?_ ?_ (y7 _)
 exact j1 1 (pv 1)
 exact j5
 refine v4 ?_
 refine y1 (κ:=.new) ?_
 refine j8 (κ:=.tmp) G_weight hr (by decide) ?_ (j3 (j3 (j3 k8)))
 refine j0 (κ:=.tmp) (κa:=.old) ?_ ?_
 exact j1 0 (pv 0)
 refine j0 (κ:=.tmp) (κa:=.new) ?_ ?_
 refine kx8 (κb:=.new) ?_ ?_
 refine W7 ?_
 refine j0 (κ:=.new) (κa:=.new) ?_ ?_
 exact j5
 exact j6 (κ:=.new)
 refine jf4 (κa:=.tmp) ja1 ?_
 refine Q3 y3 rfl T.n_len je4 ?_
 refine j0 (κ:=.tmp) (κa:=.old) ?_ ?_
 refine jj6 (κa:=.old) T.clB T.naB ?_
 exact j1 0 (pv 0)
 exact j6 (κ:=.tmp)
 refine j0 (κ:=.tmp) (κa:=.old) ?_ ?_
 exact j1 2 (pv 2)
 exact j6 (κ:=.tmp)
 refine v4 ?_
 refine U8 ?_   ?_   z8
 refine J4 (κa:=.old) (κb:=.new) (Q5 hr.units) J8 ?_ ?_ (y7 _)
 exact j1 1 (pv 1)
 exact j5
 refine v4 ?_
 refine y1 (κ:=.new) ?_
 refine j8 (κ:=.tmp) G_reached hr (by decide) ?_ (j3 (j3 k8))
 refine j0 (κ:=.tmp) (κa:=.old) ?_ ?_
 exact j1 0 (pv 0)
 refine j0 (κ:=.tmp) (κa:=.old) ?_ ?_
 exact j1 2 (pv 2)
 exact j6 (κ:=.tmp)
theorem jo1:FnScope ["board","way","bad","good"] ["board","way","bad","good"] (j4 W4):=⟨rfl,rfl,rfl,by decide +kernel,rfl,by decide +kernel,by decide +kernel⟩
theorem jn7 (T:Txt K mg t) (G_answer:FD P w K mg base (cfgB t.c_Board) 3 "answer" ["board","pegs","others"] 3 (jf2 t) true) (G_holds:FD P w K mg base (cfgB t.c_Board) 3 "holds" ["board","pegs","others","paper"] 4 (ji3 t) true) (G_row_count:FD P w K mg base (cfgB t.c_Board) 3 "row_count" ["board","pegs","others"] 3 (W9 t) true) (G_weight:FD P w K mg base (cfgB t.c_Board) 3 "weight" ["board","weights","pegs"] 3 (Y9 t) true):FD P w K mg base (cfgB t.c_Board) 4 "_law_second" ["board","way","bad","good"] 4 (v7 t) true :=
 Z7 (Γ:=[.par,.par,.par,.par]) T.f__law_second jo1 rfl (fun i h=>by match i,h with | 0,_=>rfl | 1,_=>rfl | 2,_=>rfl | 3,_=>rfl) fun f cdv A outer s H E hr =>
 by
 refine k6 ?_ ?_
 refine U8 ?_   ?_   z8
 refine J4 (κa:=.old) (κb:=.new) (Q5 hr.units) J8 ?_ ?_ (y7 _)
 exact j1 1 (pv 1)
 exact j5
 refine v4 ?_
 refine y1 (κ:=.new) ?_
 refine j8 (κ:=.tmp) G_answer hr (by decide) ?_ (j3 (j3 (j3 k8)))
 refine j0 (κ:=.tmp) (κa:=.old) ?_ ?_
 exact j1 0 (pv 0)
 refine j0 (κ:=.tmp) (κa:=.old) ?_ ?_
 exact j1 2 (pv 2)
 refine j0 (κ:=.tmp) (κa:=.old) ?_ ?_
 exact j1 3 (pv 3)
 exact j6 (κ:=.tmp)
 refine k6 ?_ ?_
 refine U8 ?_   ?_   z8
 refine J4 (κa:=.old) (κb:=.new) (Q5 hr.units) J8 ?_ ?_ (y7 _)
 exact j1 1 (pv 1)
 exact j5
 refine v4 ?_
 refine y1 (κ:=.new) ?_
 refine j8 (κ:=.tmp) G_answer hr (by decide) ?_ (j3 (j3 (j3 k8)))
 refine j0 (κ:=.tmp) (κa:=.old) ?_ ?_
 exact j1 0 (pv 0)
 refine j0 (κ:=.tmp) (κa:=.old) ?_ ?_
 exact j1 3 (pv 3)
 refine j0 (κ:=.tmp) (κa:=.old) ?_ ?_
 exact j1 2 (pv 2)
 exact j6 (κ:=.tmp)
 refine k6 ?_ ?_
 refine U8 ?_   ?_   z8
 refine J4 (κa:=.old) (κb:=.new) (Q5 hr.units) J8 ?_ ?_ (y7 _)
 exact j1 1 (pv 1)
 exact j5
 refine v4 ?_
 refine y1 (κ:=.new) ?_
 refine j8 (κ:=.tmp) G_holds hr (by decide) ?_ (j3 (j3 (j3 (j3 k8))))
 refine j0 (κ:=.tmp) (κa:=.old) ?_ ?_
 exact j1 0 (pv 0)
 refine j0 (κ:=.tmp) (κa:=.old) ?_ ?_
 exact j1 2 (pv 2)
 refine j0 (κ:=.tmp) (κa:=.old) ?_ ?_
 exact j1 3 (pv 3)
 refine j0 (κ:=.tmp) (κa:=.new) ?_ ?_
 refine ja7 ?_
 refine j0 (κ:=.new) (κa:=.new) ?_ ?_
 exact kw7
 exact j6 (κ:=.new)
 exact j6 (κ:=.tmp)
 refine k6 ?_ ?_
 refine U8 ?_   ?_   z8
 refine J4 (κa:=.old) (κb:=.new) (Q5 hr.units) J8 ?_ ?_ (y7 _)
 exact j1 1 (pv 1)
 exact j5
 refine v4 ?_
 refine y1 (κ:=.new) ?_
 refine j8 (κ:=.tmp) G_holds hr (by decide) ?_ (j3 (j3 (j3 (j3 k8))))
 refine j0 (κ:=.tmp) (κa:=.old) ?_ ?_
 exact j1 0 (pv 0)
 refine j0 (κ:=.tmp) (κa:=.old) ?_ ?_
 exact j1 3 (pv 3)
 refine j0 (κ:=.tmp) (κa:=.old) ?_ ?_
 exact j1 2 (pv 2)
 refine j0 (κ:=.tmp) (κa:=.new) ?_ ?_
 refine ja7 ?_
 refine j0 (κ:=.new) (κa:=.new) ?_ ?_
 exact kw7
 refine j0 (κ:=.new) (κa:=.new) ?_ ?_
 refine W7 ?_
 exact j6 (κ:=.new)
 exact j6 (κ:=.new)
 exact j6 (κ:=.tmp)
 refine k6 ?_ ?_
 refine U8 ?_   ?_   z8
 refine J4 (κa:=.old) (κb:=.new) (Q5 hr.units) J8 ?_ ?_ (y7 _)
 exact j1 1 (pv 1)
 exact j5
 refine v4 ?_
 refine y1 (κ:=.new) ?_
 refine j8 (κ:=.tmp) G_row_count hr (by decide) ?_ (j3 (j3 (j3 k8)))
 refine j0 (κ:=.tmp) (κa:=.old) ?_ ?_
 exact j1 0 (pv 0)
 refine j0 (κ:=.tmp) (κa:=.old) ?_ ?_
 exact j1 2 (pv 2)
 refine j0 (κ:=.tmp) (κa:=.old) ?_ ?_
 exact j1 3 (pv 3)
 exact j6 (κ:=.tmp)
 refine k6 ?_ ?_
 refine U8 ?_   ?_   z8
 refine J4 (κa:=.old) (κb:=.new) (Q5 hr.units) J8 ?_ ?_ (y7 _)
 exact j1 1 (pv 1)
 exact j5
 refine v4 ?_
 refine y1 (κ:=.new) ?_
 refine j8 (κ:=.tmp) G_row_count hr (by decide) ?_ (j3 (j3 (j3 k8)))
 refine j0 (κ:=.tmp) (κa:=.old) ?_ ?_
 exact j1 0 (pv 0)
 refine j0 (κ:=.tmp) (κa:=.old) ?_ ?_
 exact j1 3 (pv 3)
 refine j0 (κ:=.tmp) (κa:=.old) ?_ ?_
 exact j1 2 (pv 2)
 exact j6 (κ:=.tmp)
 refine v4 ?_
 refine U8 ?_   ?_   z8
 refine J4 (κa:=.old) (κb:=.new) (Q5 hr.units) J8 ?_ ?_ (y7 _)
 exact j1 1 (pv 1)
 exact j5
 refine v4 ?_
 refine y1 (κ:=.new) ?_
 refine j8 (κ:=.tmp) G_weight hr (by decide) ?_ (j3 (j3 (j3 k8)))
 refine j0 (κ:=.tmp) (κa:=.old) ?_ ?_
 exact j1 0 (pv 0)
 refine j0 (κ:=.tmp) (κa:=.new) ?_ ?_
 refine kx8 (κb:=.new) ?_ ?_
 refine W7 ?_
 refine j0 (κ:=.new) (κa:=.new) ?_ ?_
 exact j5
 exact j6 (κ:=.new)
 exact j5
 refine j0 (κ:=.tmp) (κa:=.old) ?_ ?_
 exact j1 2 (pv 2)
 exact j6 (κ:=.tmp)
theorem jm9:FnScope ["board","way","bad","good","e"] ["board","way","bad","good"] (j4 jb9):=⟨rfl,rfl,rfl,by decide +kernel,rfl,by decide +kernel,by decide +kernel⟩
theorem jx7 (T:Txt K mg t) (G__law_first:FD P w K mg base (cfgB t.c_Board) 5 "_law_first" ["board","way","bad","good"] 4 (k7 t) true) (G__law_second:FD P w K mg base (cfgB t.c_Board) 4 "_law_second" ["board","way","bad","good"] 4 (v7 t) true):FD P w K mg base (cfgB t.c_Board) 6 "_law_met" ["board","way","bad","good"] 4 (W8 t) true :=
 qk5 (Γ:=[.par,.par,.par,.par,.par]) T.f__law_met jm9 rfl (fun i h=>by match i,h with | 0,_=>rfl | 1,_=>rfl | 2,_=>rfl | 3,_=>rfl) fun f cdv A outer s H E hr =>
 by
 refine kj8 ?_ ?_
 refine ql1 (j:=4) (n:="e") ⟨rfl,rfl⟩ rfl ?_ T.m_PegError (qn1 ju3 T.e_PegError) hobB T.k_PegError rfl (fun E=>?_)   (fun a=>?_) rfl rfl rfl
 exact jm9.nd
 refine k6 ?_ ?_
 refine y1 (κ:=.new) ?_
 refine j8 (κ:=.tmp) G__law_first hr (by decide) ?_ (j3 (j3 (j3 (j3 k8))))
 refine j0 (κ:=.tmp) (κa:=.old) ?_ ?_
 exact j1 0 (pv 0)
 refine j0 (κ:=.tmp) (κa:=.old) ?_ ?_
 exact j1 1 (pv 1)
 refine j0 (κ:=.tmp) (κa:=.old) ?_ ?_
 exact j1 2 (pv 2)
 refine j0 (κ:=.tmp) (κa:=.old) ?_ ?_
 exact j1 3 (pv 3)
 exact j6 (κ:=.tmp)
 refine v4 ?_
 refine y1 (κ:=.new) ?_
 refine j8 (κ:=.tmp) G__law_second hr (by decide) ?_ (j3 (j3 (j3 (j3 k8))))
 refine j0 (κ:=.tmp) (κa:=.old) ?_ ?_
 exact j1 0 (pv 0)
 refine j0 (κ:=.tmp) (κa:=.old) ?_ ?_
 exact j1 1 (pv 1)
 refine j0 (κ:=.tmp) (κa:=.old) ?_ ?_
 exact j1 2 (pv 2)
 refine j0 (κ:=.tmp) (κa:=.old) ?_ ?_
 exact j1 3 (pv 3)
 exact j6 (κ:=.tmp)
 refine v4 ?_
 refine Y6 (κ:=.new) ?_
 refine W7 ?_
 refine j0 (κ:=.new) (κa:=.new) ?_ ?_
 refine kh5 (κa:=.old) (tv:=.ref t.c_BadPegs) T.y_BadPegs rfl (jq1 rfl T.m_BadPegs rfl) T.n_isinstance ?_
 exact j1 4 (pv 4)
 refine j0 (κ:=.new) (κa:=.new) ?_ ?_
 refine kh5 (κa:=.old) (tv:=.ref t.c_BadWeights) T.y_BadWeights rfl (jq1 rfl T.m_BadWeights rfl) T.n_isinstance ?_
 exact j1 4 (pv 4)
 refine j0 (κ:=.new) (κa:=.new) ?_ ?_
 refine kh5 (κa:=.old) (tv:=.ref t.c_NoLeap) T.y_NoLeap rfl (jq1 rfl T.m_NoLeap rfl) T.n_isinstance ?_
 exact j1 4 (pv 4)
 exact j6 (κ:=.new)
 refine PSs.zero ?_
 refine v4 ?_
 refine Y6 (κ:=.new) ?_
 refine W7 ?_
 exact j6 (κ:=.new)
theorem jk6:FnScope ["script","cells","board","good","bad","handed","way"] ["script"] (j4 ki0):=⟨rfl,rfl,rfl,by decide +kernel,rfl,by decide +kernel,by decide +kernel⟩
theorem qg9 (T:Txt K mg t) (G__law_cells_by:FD P w K mg base (cfgB t.c_Board) 2 "_law_cells_by" ["script","most"] 2 (y2 t) true) {fiB:Addr} {fdB:FuncData} (mkB:Mk K t.c_Board fiB) (bB:Binds K fdB ["self","cells"] []) (G_Board:FnOk P w K mg base (CXr P w) 3 fiB fdB ["self","cells"] (ka2 K t.c_Board (w5 t))) (G__law_cell_at:FD P w K mg base (cfgB t.c_Board) 1 "_law_cell_at" ["script","k"] 2 (k9 t) true) (G__law_pegs_by:FD P w K mg base (cfgB t.c_Board) 2 "_law_pegs_by" ["cell","cells"] 2 (Q1 t) true) (G__law_hurt:FD P w K mg base (cfgB t.c_Board) 1 "_law_hurt" ["cells","pegs","cell"] 3 (U5 t) true) (G__law_met:FD P w K mg base (cfgB t.c_Board) 6 "_law_met" ["board","way","bad","good"] 4 (W8 t) true):FD P w K mg base (cfgB t.c_Board) 7 "law" ["script"] 1 (kf5 t) true :=
 Z7 (Γ:=[.par,.par,.par,.par,.par,.par,.par]) T.f_law jk6 rfl (fun i h=>by match i,h with | 0,_=>rfl) fun f cdv A outer s H E hr =>
 by
 refine k6 ?_ ?_
 refine Y4 (i:=1) (k:=.par) (κ:=.new) ?_ ?_
 exact jk6.nd
 refine j8 (κ:=.tmp) G__law_cells_by hr (by decide) ?_ (j3 (j3 k8))
 refine j0 (κ:=.tmp) (κa:=.old) ?_ ?_
 exact j1 0 (pv 0)
 refine j0 (κ:=.tmp) (κa:=.new) ?_ ?_
 exact j5
 exact j6 (κ:=.tmp)
 refine k6 ?_ ?_
 refine Y4 (i:=2) (k:=.par) (κ:=.new) ?_ ?_
 exact jk6.nd
 refine ku2 (κ:=.tmp) mkB G_Board (hr.mono (by decide)) T.m_Board bB ?_
 refine j0 (κ:=.tmp) (κa:=.new) ?_ ?_
 refine jf4 (κa:=.tmp) jj8 ?_
 refine jd6 jb0 rfl T.n_list jr9 ?_
 refine j0 (κ:=.tmp) (κa:=.old) ?_ ?_
 exact j1 1 (pv 1)
 exact j6 (κ:=.tmp)
 exact j6 (κ:=.tmp)
 refine k6 ?_ ?_
 refine Y4 (i:=3) (k:=.par) (κ:=.new) ?_ ?_
 exact jk6.nd
 refine j8 (κ:=.tmp) G__law_pegs_by hr (by decide) ?_ (j3 (j3 k8))
 refine j0 (κ:=.tmp) (κa:=.new) ?_ ?_
 refine j8 (κ:=.tmp) G__law_cell_at hr (by decide) ?_ (j3 (j3 k8))
 refine j0 (κ:=.tmp) (κa:=.old) ?_ ?_
 exact j1 0 (pv 0)
 refine j0 (κ:=.tmp) (κa:=.new) ?_ ?_
 exact j5
 exact j6 (κ:=.tmp)
 refine j0 (κ:=.tmp) (κa:=.old) ?_ ?_
 exact j1 1 (pv 1)
 exact j6 (κ:=.tmp)
 refine k6 ?_ ?_
 refine Y4 (i:=4) (k:=.par) (κ:=.new) ?_ ?_
 exact jk6.nd
 refine j8 (κ:=.tmp) G__law_hurt hr (by decide) ?_ (j3 (j3 (j3 k8)))
 refine j0 (κ:=.tmp) (κa:=.old) ?_ ?_
 exact j1 1 (pv 1)
 refine j0 (κ:=.tmp) (κa:=.old) ?_ ?_
 exact j1 3 (pv 3)
 refine j0 (κ:=.tmp) (κa:=.new) ?_ ?_
 refine j8 (κ:=.tmp) G__law_cell_at hr (by decide) ?_ (j3 (j3 k8))
 refine j0 (κ:=.tmp) (κa:=.old) ?_ ?_
 exact j1 0 (pv 0)
 refine j0 (κ:=.tmp) (κa:=.new) ?_ ?_
 exact j5
 exact j6 (κ:=.tmp)
 exact j6 (κ:=.tmp)
 refine k6 ?_ ?_
 refine Y4 (i:=5) (k:=.par) (κ:=.new) ?_ ?_
 exact jk6.nd
 refine W7 ?_
 refine j0 (κ:=.new) (κa:=.new) ?_ ?_
 refine jf4 (κa:=.tmp) jj8 ?_
 refine jd6 jb0 rfl T.n_list jr9 ?_
 refine j0 (κ:=.tmp) (κa:=.old) ?_ ?_
 exact j1 4 (pv 4)
 exact j6 (κ:=.tmp)
 refine j0 (κ:=.new) (κa:=.new) ?_ ?_
 refine jf4 (κa:=.tmp) jj8 ?_
 refine jd6 jb0 rfl T.n_list jr9 ?_
 refine j0 (κ:=.tmp) (κa:=.old) ?_ ?_
 exact j1 3 (pv 3)
 exact j6 (κ:=.tmp)
 exact j6 (κ:=.new)
 refine k6 ?_ ?_
 refine ji9 (κ:=.tmp) (W0 ⟨rfl,rfl⟩) rfl T.n_range ?_ (jc8 (i:=6) (by exact jk6.nd) rfl (Or.inl rfl)) (jm7 (i:=6) (k:=.par))   ?_
 refine j0 (κ:=.tmp) (κa:=.new) ?_ ?_
 exact j5
 exact j6 (κ:=.tmp)
 refine v4 ?_
 refine U8 ?_   ?_   z8
 refine J4 (κa:=.new) (κb:=.new) (ky1 hr.units) J8 ?_ ?_ (y7 _)
 refine j8 (κ:=.tmp) G__law_met hr (by decide) ?_ (j3 (j3 (j3 (j3 k8))))
 refine j0 (κ:=.tmp) (κa:=.old) ?_ ?_
 exact j1 2 (pv 2)
 refine j0 (κ:=.tmp) (κa:=.old) ?_ ?_
 exact j1 6 (pv 6)
 refine j0 (κ:=.tmp) (κa:=.old) ?_ ?_
 refine jf9 (κa:=.old) (κb:=.new) ?_ ?_ (fun _ _=>rfl)
 exact j1 5 (pv 5)
 exact j5
 refine j0 (κ:=.tmp) (κa:=.old) ?_ ?_
 refine jf9 (κa:=.old) (κb:=.new) ?_ ?_ (fun _ _=>rfl)
 exact j1 5 (pv 5)
 exact j5
 exact j6 (κ:=.tmp)
 refine W7 ?_
 refine j0 (κ:=.new) (κa:=.new) ?_ ?_
 refine jv9 (κa:=.old) (κb:=.new) qj1 kx5 ?_ ?_ (y7 _)
 exact j1 6 (pv 6)
 exact j5
 refine j0 (κ:=.new) (κa:=.new) ?_ ?_
 refine jv9 (κa:=.old) (κb:=.new) (Q5 hr.units) J8 ?_ ?_ (y7 _)
 exact j1 6 (pv 6)
 exact j5
 refine j0 (κ:=.new) (κa:=.new) ?_ ?_
 exact qm9
 exact j6 (κ:=.new)
 refine v4 ?_
 refine Y6 (κ:=.new) ?_
 exact qm9
 refine v4 ?_
 refine Y6 (κ:=.new) ?_
 refine ky7 (κa:=.new) ?_ ?_
 refine jv9 (κa:=.old) (κb:=.old) (Q5 hr.units) J8 ?_ ?_ (y7 _)
 exact j1 5 (pv 5)
 refine W7 ?_
 refine j0 (κ:=.old) (κa:=.old) ?_ ?_
 exact j1 4 (pv 4)
 refine j0 (κ:=.old) (κa:=.old) ?_ ?_
 exact j1 3 (pv 3)
 exact j6 (κ:=.old)
 refine ky6 ?_
 refine jv9 (κa:=.old) (κb:=.old) (Q5 hr.units) J8 ?_ ?_ (y7 _)
 refine jj6 (κa:=.old) T.clB T.naB ?_
 exact j1 2 (pv 2)
 exact j1 1 (pv 1)
theorem ks7:FnScope ["self","cells"] ["self","cells"] (j4 je1):=⟨rfl,rfl,rfl,by decide +kernel,rfl,by decide +kernel,by decide +kernel⟩
theorem ks4 (T:Txt K mg t) {fi:Addr} {fd:FuncData} (F:Fun K "__init__" "Board.__init__" je1 fi fd) (G_check_cells:FD P w K mg base (cfgB t.c_Board) 2 "check_cells" ["cells"] 1 (w5 t) true):FnOk P w K mg base (CXr P w) 3 fi fd ["self","cells"] (ka2 K t.c_Board (w5 t)) :=
 qe2 (κ:=.new) F ks7 T.clB T.naB fun cdv A outer s H E hr=>by
 refine kc0 ?_ ?_
 ·refine jx8 ?_
  refine j8 (κ:=.tmp) G_check_cells hr (by decide) ?_ (j3 k8)
  refine j0 (κ:=.tmp) (κa:=.old) ?_ ?_
  ·exact j1 1 (pv 1)
  ·exact j6 (κ:=.tmp)
 ·refine ko1 ?_
  refine qn8 (pv 0) ?_ rfl
  refine jf4 (κa:=.tmp) jj8 ?_
  refine jd6 jb0 rfl T.n_list jr9 ?_
  refine j0 (κ:=.tmp) (κa:=.old) ?_ ?_
  ·exact j1 1 (pv 1)
  ·exact j6 (κ:=.tmp)
theorem qo1 (T:Txt K mg t):FD P w K mg base (cfgB t.c_Board) 7 "law" ["script"] 1 (kf5 t) true:=by
 obtain ⟨fiB,fdB,FuB,mkB,bB⟩:=T.iB
 have G_is_rising:=ju7 (P:=P) (w:=w) (base:=base) T
 have G_is_cell:=ke1 (P:=P) (w:=w) (base:=base) T
 have G_check_cells:=jn6 (P:=P) (w:=w) (base:=base) T G_is_rising G_is_cell
 have G_Board:=ks4 (P:=P) (w:=w) (base:=base) T FuB G_check_cells
 have G_check_pegs:=js5 (P:=P) (w:=w) (base:=base) T G_is_rising
 have G_turned:=kg2 (P:=P) (w:=w) (base:=base) T G_check_pegs
 have G_open_leaps:=jr6 (P:=P) (w:=w) (base:=base) T G_check_pegs
 have G_walked:=kl5 (P:=P) (w:=w) (base:=base) T G_check_pegs
 have G_leapt:=kv5 (P:=P) (w:=w) (base:=base) T G_walked
 have G_class_of:=jz4 (P:=P) (w:=w) (base:=base) T G_check_pegs
 have G_check_weights:=jj4 (P:=P) (w:=w) (base:=base) T
 have G_weight:=kj6 (P:=P) (w:=w) (base:=base) T G_check_weights G_check_pegs
 have G_reached:=ke5 (P:=P) (w:=w) (base:=base) T G_check_pegs
 have G_answer:=kp8 (P:=P) (w:=w) (base:=base) T G_check_pegs
 have G_holds:=ku0 (P:=P) (w:=w) (base:=base) T G_check_pegs
 have G_row_count:=jx0 (P:=P) (w:=w) (base:=base) T G_check_pegs
 have G__law_cell_at:=jl9 (P:=P) (w:=w) (base:=base) T
 have G__law_mix:=jz0 (P:=P) (w:=w) (base:=base) T
 have G__law_cells_by:=jj3 (P:=P) (w:=w) (base:=base) T G__law_cell_at G__law_mix
 have G__law_pegs_by:=jm0 (P:=P) (w:=w) (base:=base) T G__law_mix
 have G__law_hurt:=ju8 (P:=P) (w:=w) (base:=base) T
 have G__law_first:=jq7 (P:=P) (w:=w) (base:=base) T G_turned G_open_leaps G_leapt G_walked G_class_of G_weight G_reached
 have G__law_second:=jn7 (P:=P) (w:=w) (base:=base) T G_answer G_holds G_row_count G_weight
 have G__law_met:=jx7 (P:=P) (w:=w) (base:=base) T G__law_first G__law_second
 have G_law:=qg9 (P:=P) (w:=w) (base:=base) T G__law_cells_by mkB bB G_Board G__law_cell_at G__law_pegs_by G__law_hurt G__law_met
 exact G_law
noncomputable def kp0 (K:Frag):Sp:=fun vs H Q _=>∃ (a:Addr) (ns:List Int),vs = [.ref a] /\ SqL K H a (ns.map V.int) /\ ns.length <= 63 /\ ∀ H',Q (.bl true) H'
theorem qi6 (T:Txt K mg t) (hmath:∀ ns:List Int,ns.length <= 63 -> kf5 t [.lst (ns.map D.int)] = .ok (.bl true)):∃ a fd,FnOk P w K mg base (CXr P w) 40 a fd ["script"] (kp0 K) /\ mg "law" = some (.ref a) /\ ∃ o,K.lookup a = some o /\ o.data = .func fd:=by
 obtain ⟨a,fd,h1,h2,_,_,h4⟩:=(qo1 (P:=P) (w:=w) (base:=base) T).ex
 refine ⟨a,fd,(h1.mono (by decide)).imp fun vs H Q E zz1=>?_,h2,h4⟩
 obtain ⟨p,ns,e,hs,hl,q⟩:=zz1
 subst e
 refine ⟨[.lst (ns.map D.int)],rfl,.cons (by rw [Rep]; exact ⟨p,_,rfl,hs,Reps.ints ns⟩) .nil,?_⟩
 rw [hmath ns hl]
 intro v H' _ r
 have r':=r.1
 rw [Rep] at r'
 subst r'
 exact q H'
end
theorem kitC {K:Frag} {t:Value} {C:Addr} {x:_} {b:Bool} (h1:clsIn K C = some x) (h2:typeIn K (.ref C) = some (.type "type")) (h3:subIn K t (.ref C) = some b):kitCls K t (.ref C) = some b:=by
 unfold kitCls
 dsimp only
 rw [h1,h2,if_pos (show ((some x).isSome && (some (Value.type "type") == some (Value.type "type"))) = true from by simp)]
 exact h3
theorem kitO {K:Frag} {t c:Value} (h:kitCls K t c = some true):kitOne K t c = some true:=by
 unfold kitOne
 split
 ·rfl
 ·exact h
theorem kitN {K:Frag} {t c:Value} (h:kitCls K t c = some false) (n:t ≠ c):kitOne K t c = some false:=by
 unfold kitOne
 rw [if_neg (fun z=>n (beq_iff_eq.mp z))]
 exact h
theorem txt_mk {K:Frag} {h:Heap} {mg:Str -> Option Value} (X:K.In h) (G:h.Ns mainGlobals mg)
  {a0:Addr} {od0 an0:Option Addr} {sl0:Array (Option Value)} {oc0 kV0 dc0 pm0 cd0 ct0:Value} {a1:Addr} {od1 an1:Option Addr} {sl1:Array (Option Value)} {oc1 kV1 dc1 pm1 cd1 ct1:Value} {a2:Addr} {od2 an2:Option Addr} {sl2:Array (Option Value)} {oc2 kV2 dc2 pm2 cd2 ct2:Value} {a3:Addr} {od3 an3:Option Addr} {sl3:Array (Option Value)} {oc3 kV3 dc3 pm3 cd3 ct3:Value} {a4:Addr} {od4 an4:Option Addr} {sl4:Array (Option Value)} {oc4 kV4 dc4 pm4 cd4 ct4:Value} {a5:Addr} {od5 an5:Option Addr} {sl5:Array (Option Value)} {oc5 kV5 dc5 pm5 cd5 ct5:Value} {a6:Addr} {od6 an6:Option Addr} {sl6:Array (Option Value)} {oc6 kV6 dc6 pm6 cd6 ct6:Value} {a7:Addr} {od7 an7:Option Addr} {sl7:Array (Option Value)} {oc7 kV7 dc7 pm7 cd7 ct7:Value} {a8:Addr} {od8 an8:Option Addr} {sl8:Array (Option Value)} {oc8 kV8 dc8 pm8 cd8 ct8:Value} {a9:Addr} {od9 an9:Option Addr} {sl9:Array (Option Value)} {oc9 kV9 dc9 pm9 cd9 ct9:Value} {a10:Addr} {od10 an10:Option Addr} {sl10:Array (Option Value)} {oc10 kV10 dc10 pm10 cd10 ct10:Value} {a11:Addr} {od11 an11:Option Addr} {sl11:Array (Option Value)} {oc11 kV11 dc11 pm11 cd11 ct11:Value} {a12:Addr} {od12 an12:Option Addr} {sl12:Array (Option Value)} {oc12 kV12 dc12 pm12 cd12 ct12:Value} {a13:Addr} {od13 an13:Option Addr} {sl13:Array (Option Value)} {oc13 kV13 dc13 pm13 cd13 ct13:Value} {a14:Addr} {od14 an14:Option Addr} {sl14:Array (Option Value)} {oc14 kV14 dc14 pm14 cd14 ct14:Value} {a15:Addr} {od15 an15:Option Addr} {sl15:Array (Option Value)} {oc15 kV15 dc15 pm15 cd15 ct15:Value} {a16:Addr} {od16 an16:Option Addr} {sl16:Array (Option Value)} {oc16 kV16 dc16 pm16 cd16 ct16:Value} {a17:Addr} {od17 an17:Option Addr} {sl17:Array (Option Value)} {oc17 kV17 dc17 pm17 cd17 ct17:Value} {a18:Addr} {od18 an18:Option Addr} {sl18:Array (Option Value)} {oc18 kV18 dc18 pm18 cd18 ct18:Value} {a19:Addr} {od19 an19:Option Addr} {sl19:Array (Option Value)} {oc19 kV19 dc19 pm19 cd19 ct19:Value} {a20:Addr} {od20 an20:Option Addr} {sl20:Array (Option Value)} {oc20 kV20 dc20 pm20 cd20 ct20:Value} {a21:Addr} {od21 an21:Option Addr} {sl21:Array (Option Value)} {oc21 kV21 dc21 pm21 cd21 ct21:Value} {a22:Addr} {od22 an22:Option Addr} {sl22:Array (Option Value)} {oc22 kV22 dc22 pm22 cd22 ct22:Value} {a23:Addr} {od23 an23:Option Addr} {sl23:Array (Option Value)} {oc23 kV23 dc23 pm23 cd23 ct23:Value} {C_PegError C_BadBoard C_BadPegs C_NoLeap C_BadWeights C_Board:Addr} {x_PegError:_} {x_BadPegs:_} {x_NoLeap:_} {x_BadWeights:_} {t_LAST:Tok} {t_LEAST:Tok} {t_MOST:Tok} {t_MOST_CELLS:Tok} {aI:Addr} {odI anI:Option Addr} {slI:Array (Option Value)} {ocI kVI dcI pmI cdI ctI:Value}
  (a_is_rising:nsIn K mainGlobals "is_rising" = some (some (.ref a0)))
  (l_is_rising:K.lookup a0 = some ⟨oc0,od0,.func (fnOf "is_rising" "is_rising" (w8 Z8) (v3 Z8) (j4 Z8) .none kV0 dc0 pm0 an0 cd0 ct0),sl0⟩)
  (c_is_rising:codeIn K cd0 "is_rising" = true)
  (k_is_rising:keepIn K (.ref a0) = true)
  (a_is_cell:nsIn K mainGlobals "is_cell" = some (some (.ref a1)))
  (l_is_cell:K.lookup a1 = some ⟨oc1,od1,.func (fnOf "is_cell" "is_cell" (w8 je2) (v3 je2) (j4 je2) .none kV1 dc1 pm1 an1 cd1 ct1),sl1⟩)
  (c_is_cell:codeIn K cd1 "is_cell" = true)
  (k_is_cell:keepIn K (.ref a1) = true)
  (a_check_cells:nsIn K mainGlobals "check_cells" = some (some (.ref a2)))
  (l_check_cells:K.lookup a2 = some ⟨oc2,od2,.func (fnOf "check_cells" "check_cells" (w8 W1) (v3 W1) (j4 W1) .none kV2 dc2 pm2 an2 cd2 ct2),sl2⟩)
  (c_check_cells:codeIn K cd2 "check_cells" = true)
  (k_check_cells:keepIn K (.ref a2) = true)
  (a_check_pegs:nsIn K mainGlobals "check_pegs" = some (some (.ref a3)))
  (l_check_pegs:K.lookup a3 = some ⟨oc3,od3,.func (fnOf "check_pegs" "check_pegs" (w8 Y2) (v3 Y2) (j4 Y2) .none kV3 dc3 pm3 an3 cd3 ct3),sl3⟩)
  (c_check_pegs:codeIn K cd3 "check_pegs" = true)
  (k_check_pegs:keepIn K (.ref a3) = true)
  (a_turned:nsIn K mainGlobals "turned" = some (some (.ref a4)))
  (l_turned:K.lookup a4 = some ⟨oc4,od4,.func (fnOf "turned" "turned" (w8 jh1) (v3 jh1) (j4 jh1) .none kV4 dc4 pm4 an4 cd4 ct4),sl4⟩)
  (c_turned:codeIn K cd4 "turned" = true)
  (k_turned:keepIn K (.ref a4) = true)
  (a_open_leaps:nsIn K mainGlobals "open_leaps" = some (some (.ref a5)))
  (l_open_leaps:K.lookup a5 = some ⟨oc5,od5,.func (fnOf "open_leaps" "open_leaps" (w8 Y0) (v3 Y0) (j4 Y0) .none kV5 dc5 pm5 an5 cd5 ct5),sl5⟩)
  (c_open_leaps:codeIn K cd5 "open_leaps" = true)
  (k_open_leaps:keepIn K (.ref a5) = true)
  (a_walked:nsIn K mainGlobals "walked" = some (some (.ref a6)))
  (l_walked:K.lookup a6 = some ⟨oc6,od6,.func (fnOf "walked" "walked" (w8 jh7) (v3 jh7) (j4 jh7) .none kV6 dc6 pm6 an6 cd6 ct6),sl6⟩)
  (c_walked:codeIn K cd6 "walked" = true)
  (k_walked:keepIn K (.ref a6) = true)
  (a_leapt:nsIn K mainGlobals "leapt" = some (some (.ref a7)))
  (l_leapt:K.lookup a7 = some ⟨oc7,od7,.func (fnOf "leapt" "leapt" (w8 jm4) (v3 jm4) (j4 jm4) .none kV7 dc7 pm7 an7 cd7 ct7),sl7⟩)
  (c_leapt:codeIn K cd7 "leapt" = true)
  (k_leapt:keepIn K (.ref a7) = true)
  (a_class_of:nsIn K mainGlobals "class_of" = some (some (.ref a8)))
  (l_class_of:K.lookup a8 = some ⟨oc8,od8,.func (fnOf "class_of" "class_of" (w8 jb6) (v3 jb6) (j4 jb6) .none kV8 dc8 pm8 an8 cd8 ct8),sl8⟩)
  (c_class_of:codeIn K cd8 "class_of" = true)
  (k_class_of:keepIn K (.ref a8) = true)
  (a_check_weights:nsIn K mainGlobals "check_weights" = some (some (.ref a9)))
  (l_check_weights:K.lookup a9 = some ⟨oc9,od9,.func (fnOf "check_weights" "check_weights" (w8 Q4) (v3 Q4) (j4 Q4) .none kV9 dc9 pm9 an9 cd9 ct9),sl9⟩)
  (c_check_weights:codeIn K cd9 "check_weights" = true)
  (k_check_weights:keepIn K (.ref a9) = true)
  (a_weight:nsIn K mainGlobals "weight" = some (some (.ref a10)))
  (l_weight:K.lookup a10 = some ⟨oc10,od10,.func (fnOf "weight" "weight" (w8 jh5) (v3 jh5) (j4 jh5) .none kV10 dc10 pm10 an10 cd10 ct10),sl10⟩)
  (c_weight:codeIn K cd10 "weight" = true)
  (k_weight:keepIn K (.ref a10) = true)
  (a_reached:nsIn K mainGlobals "reached" = some (some (.ref a11)))
  (l_reached:K.lookup a11 = some ⟨oc11,od11,.func (fnOf "reached" "reached" (w8 jd3) (v3 jd3) (j4 jd3) .none kV11 dc11 pm11 an11 cd11 ct11),sl11⟩)
  (c_reached:codeIn K cd11 "reached" = true)
  (k_reached:keepIn K (.ref a11) = true)
  (a_answer:nsIn K mainGlobals "answer" = some (some (.ref a12)))
  (l_answer:K.lookup a12 = some ⟨oc12,od12,.func (fnOf "answer" "answer" (w8 jh8) (v3 jh8) (j4 jh8) .none kV12 dc12 pm12 an12 cd12 ct12),sl12⟩)
  (c_answer:codeIn K cd12 "answer" = true)
  (k_answer:keepIn K (.ref a12) = true)
  (a_holds:nsIn K mainGlobals "holds" = some (some (.ref a13)))
  (l_holds:K.lookup a13 = some ⟨oc13,od13,.func (fnOf "holds" "holds" (w8 jk4) (v3 jk4) (j4 jk4) .none kV13 dc13 pm13 an13 cd13 ct13),sl13⟩)
  (c_holds:codeIn K cd13 "holds" = true)
  (k_holds:keepIn K (.ref a13) = true)
  (a_row_count:nsIn K mainGlobals "row_count" = some (some (.ref a14)))
  (l_row_count:K.lookup a14 = some ⟨oc14,od14,.func (fnOf "row_count" "row_count" (w8 Z4) (v3 Z4) (j4 Z4) .none kV14 dc14 pm14 an14 cd14 ct14),sl14⟩)
  (c_row_count:codeIn K cd14 "row_count" = true)
  (k_row_count:keepIn K (.ref a14) = true)
  (a__law_cell_at:nsIn K mainGlobals "_law_cell_at" = some (some (.ref a15)))
  (l__law_cell_at:K.lookup a15 = some ⟨oc15,od15,.func (fnOf "_law_cell_at" "_law_cell_at" (w8 U2) (v3 U2) (j4 U2) .none kV15 dc15 pm15 an15 cd15 ct15),sl15⟩)
  (c__law_cell_at:codeIn K cd15 "_law_cell_at" = true)
  (k__law_cell_at:keepIn K (.ref a15) = true)
  (a__law_mix:nsIn K mainGlobals "_law_mix" = some (some (.ref a16)))
  (l__law_mix:K.lookup a16 = some ⟨oc16,od16,.func (fnOf "_law_mix" "_law_mix" (w8 jb7) (v3 jb7) (j4 jb7) .none kV16 dc16 pm16 an16 cd16 ct16),sl16⟩)
  (c__law_mix:codeIn K cd16 "_law_mix" = true)
  (k__law_mix:keepIn K (.ref a16) = true)
  (a__law_cells_by:nsIn K mainGlobals "_law_cells_by" = some (some (.ref a17)))
  (l__law_cells_by:K.lookup a17 = some ⟨oc17,od17,.func (fnOf "_law_cells_by" "_law_cells_by" (w8 Q6) (v3 Q6) (j4 Q6) .none kV17 dc17 pm17 an17 cd17 ct17),sl17⟩)
  (c__law_cells_by:codeIn K cd17 "_law_cells_by" = true)
  (k__law_cells_by:keepIn K (.ref a17) = true)
  (a__law_pegs_by:nsIn K mainGlobals "_law_pegs_by" = some (some (.ref a18)))
  (l__law_pegs_by:K.lookup a18 = some ⟨oc18,od18,.func (fnOf "_law_pegs_by" "_law_pegs_by" (w8 U3) (v3 U3) (j4 U3) .none kV18 dc18 pm18 an18 cd18 ct18),sl18⟩)
  (c__law_pegs_by:codeIn K cd18 "_law_pegs_by" = true)
  (k__law_pegs_by:keepIn K (.ref a18) = true)
  (a__law_hurt:nsIn K mainGlobals "_law_hurt" = some (some (.ref a19)))
  (l__law_hurt:K.lookup a19 = some ⟨oc19,od19,.func (fnOf "_law_hurt" "_law_hurt" (w8 Z6) (v3 Z6) (j4 Z6) .none kV19 dc19 pm19 an19 cd19 ct19),sl19⟩)
  (c__law_hurt:codeIn K cd19 "_law_hurt" = true)
  (k__law_hurt:keepIn K (.ref a19) = true)
  (a__law_first:nsIn K mainGlobals "_law_first" = some (some (.ref a20)))
  (l__law_first:K.lookup a20 = some ⟨oc20,od20,.func (fnOf "_law_first" "_law_first" (w8 Y1) (v3 Y1) (j4 Y1) .none kV20 dc20 pm20 an20 cd20 ct20),sl20⟩)
  (c__law_first:codeIn K cd20 "_law_first" = true)
  (k__law_first:keepIn K (.ref a20) = true)
  (a__law_second:nsIn K mainGlobals "_law_second" = some (some (.ref a21)))
  (l__law_second:K.lookup a21 = some ⟨oc21,od21,.func (fnOf "_law_second" "_law_second" (w8 W4) (v3 W4) (j4 W4) .none kV21 dc21 pm21 an21 cd21 ct21),sl21⟩)
  (c__law_second:codeIn K cd21 "_law_second" = true)
  (k__law_second:keepIn K (.ref a21) = true)
  (a__law_met:nsIn K mainGlobals "_law_met" = some (some (.ref a22)))
  (l__law_met:K.lookup a22 = some ⟨oc22,od22,.func (fnOf "_law_met" "_law_met" (w8 jb9) (v3 jb9) (j4 jb9) .none kV22 dc22 pm22 an22 cd22 ct22),sl22⟩)
  (c__law_met:codeIn K cd22 "_law_met" = true)
  (k__law_met:keepIn K (.ref a22) = true)
  (a_law:nsIn K mainGlobals "law" = some (some (.ref a23)))
  (l_law:K.lookup a23 = some ⟨oc23,od23,.func (fnOf "law" "law" (w8 ki0) (v3 ki0) (j4 ki0) .none kV23 dc23 pm23 an23 cd23 ct23),sl23⟩)
  (c_law:codeIn K cd23 "law" = true)
  (k_law:keepIn K (.ref a23) = true)
  (m_PegError:nsIn K mainGlobals "PegError" = some (some (.ref C_PegError)))
  (m_BadBoard:nsIn K mainGlobals "BadBoard" = some (some (.ref C_BadBoard)))
  (m_BadPegs:nsIn K mainGlobals "BadPegs" = some (some (.ref C_BadPegs)))
  (m_NoLeap:nsIn K mainGlobals "NoLeap" = some (some (.ref C_NoLeap)))
  (m_BadWeights:nsIn K mainGlobals "BadWeights" = some (some (.ref C_BadWeights)))
  (m_Board:nsIn K mainGlobals "Board" = some (some (.ref C_Board)))
  (e_PegError:exB K C_PegError [.type "ValueError",.type "Exception",.type "BaseException",.type "object"] "ValueError.__new__" = true)
  (e_BadBoard:exB K C_BadBoard [.type "ValueError",.type "Exception",.type "BaseException",.type "object"] "ValueError.__new__" = true)
  (e_BadPegs:exB K C_BadPegs [.type "ValueError",.type "Exception",.type "BaseException",.type "object"] "ValueError.__new__" = true)
  (q1_BadPegs:findIn K (.ref C_BadPegs) "__getattribute__" = some (some (.builtin "BaseException.__getattribute__")))
  (q5_BadPegs:findIn K (.ref C_BadPegs) "__getattr__" = some none)
  (q6_BadPegs:mroIn K C_BadPegs (.type "BaseException") = some true)
  (q2_BadPegs:hasDictIn K C_BadPegs = true)
  (q3_BadPegs:findIn K (.ref C_BadPegs) "__class__" = some (some (.builtin "object.__class__")))
  (q4_BadPegs:mroIn K C_BadPegs (.type "object") = some true)
  (e_BadWeights:exB K C_BadWeights [.type "ValueError",.type "Exception",.type "BaseException",.type "object"] "ValueError.__new__" = true)
  (q1_BadWeights:findIn K (.ref C_BadWeights) "__getattribute__" = some (some (.builtin "BaseException.__getattribute__")))
  (q5_BadWeights:findIn K (.ref C_BadWeights) "__getattr__" = some none)
  (q6_BadWeights:mroIn K C_BadWeights (.type "BaseException") = some true)
  (q2_BadWeights:hasDictIn K C_BadWeights = true)
  (q3_BadWeights:findIn K (.ref C_BadWeights) "__class__" = some (some (.builtin "object.__class__")))
  (q4_BadWeights:mroIn K C_BadWeights (.type "object") = some true)
  (s_PegError_BadPegs:subIn K (.ref C_BadPegs) (.ref C_PegError) = some true)
  (s_PegError_BadWeights:subIn K (.ref C_BadWeights) (.ref C_PegError) = some true)
  (cl_PegError:clsIn K C_PegError = some x_PegError)
  (ty_PegError:typeIn K (.ref C_PegError) = some (.type "type"))
  (s_BadPegs_BadPegs:subIn K (.ref C_BadPegs) (.ref C_BadPegs) = some true)
  (s_BadPegs_BadWeights:subIn K (.ref C_BadWeights) (.ref C_BadPegs) = some false)
  (cl_BadPegs:clsIn K C_BadPegs = some x_BadPegs)
  (ty_BadPegs:typeIn K (.ref C_BadPegs) = some (.type "type"))
  (s_NoLeap_BadPegs:subIn K (.ref C_BadPegs) (.ref C_NoLeap) = some false)
  (s_NoLeap_BadWeights:subIn K (.ref C_BadWeights) (.ref C_NoLeap) = some false)
  (cl_NoLeap:clsIn K C_NoLeap = some x_NoLeap)
  (ty_NoLeap:typeIn K (.ref C_NoLeap) = some (.type "type"))
  (s_BadWeights_BadPegs:subIn K (.ref C_BadPegs) (.ref C_BadWeights) = some false)
  (s_BadWeights_BadWeights:subIn K (.ref C_BadWeights) (.ref C_BadWeights) = some true)
  (cl_BadWeights:clsIn K C_BadWeights = some x_BadWeights)
  (ty_BadWeights:typeIn K (.ref C_BadWeights) = some (.type "type"))
  (ss_NoLeap:subIn K (.ref C_NoLeap) (.ref C_NoLeap) = some true)
  (sp0:specialIn K (.builtin "object.__class__") "__get__" = some (some (.builtin "getset_descriptor.__get__")))
  (tk0:takesIn K (.builtin "object.__class__") = some true)
  (z_enumerate:nsIn K mainGlobals "enumerate" = some none)
  (z_isinstance:nsIn K mainGlobals "isinstance" = some none)
  (z_len:nsIn K mainGlobals "len" = some none)
  (z_list:nsIn K mainGlobals "list" = some none)
  (z_range:nsIn K mainGlobals "range" = some none)
  (z_set:nsIn K mainGlobals "set" = some none)
  (z_sorted:nsIn K mainGlobals "sorted" = some none)
  (g_LAST:nsIn K mainGlobals "LAST" = some (some (.int (7) t_LAST)))
  (g_LEAST:nsIn K mainGlobals "LEAST" = some (some (.int (-1000) t_LEAST)))
  (g_MOST:nsIn K mainGlobals "MOST" = some (some (.int (1000) t_MOST)))
  (g_MOST_CELLS:nsIn K mainGlobals "MOST_CELLS" = some (some (.int (24) t_MOST_CELLS)))
  (aI_:findIn K (.ref C_Board) "__init__" = some (some (.ref aI)))
  (iI_:isFn K (.ref aI) = true)
  (lI_:K.lookup aI = some ⟨ocI,odI,.func (fnOf "__init__" "Board.__init__" (w8 je1) (v3 je1) (j4 je1) .none kVI dcI pmI anI cdI ctI),slI⟩)
  (cI_:codeIn K cdI "Board.__init__" = true)
  (kI_:keepIn K (.ref aI) = true)
  (pgB:plainGet K C_Board Str.empty = true)
  (hdB:hasDictIn K C_Board = true)
  (poB:plainOver K C_Board = true)
  (saB:findIn K (.ref C_Board) "__setattr__" = some (some (.builtin "object.__setattr__")))
  (mkB:makesIn K C_Board = true)
  (kcB:keepIn K (.ref C_Board) = true)
  (naB:findIn K (.ref C_Board) "cells" = some none) :
  ∃ t,Txt K mg t:=by
 let t:Adr:=⟨C_PegError,C_BadBoard,C_BadPegs,C_NoLeap,C_BadWeights,C_Board,t_LAST,t_MOST_CELLS,t_LEAST,t_MOST,0,(fun h=>by (have z:=s_BadWeights_BadPegs; rw [h,s_BadWeights_BadWeights] at z; cases z))⟩
 have q_PegError_BadPegs:kitCls K (.ref C_BadPegs) (.ref C_PegError) = some true:=kitC cl_PegError ty_PegError s_PegError_BadPegs
 have q_PegError_BadWeights:kitCls K (.ref C_BadWeights) (.ref C_PegError) = some true:=kitC cl_PegError ty_PegError s_PegError_BadWeights
 have q_BadPegs_BadPegs:kitCls K (.ref C_BadPegs) (.ref C_BadPegs) = some true:=kitC cl_BadPegs ty_BadPegs s_BadPegs_BadPegs
 have o_BadPegs_BadPegs:kitOne K (.ref C_BadPegs) (.ref C_BadPegs) = some true:=kitO q_BadPegs_BadPegs
 have q_BadPegs_BadWeights:kitCls K (.ref C_BadWeights) (.ref C_BadPegs) = some false:=kitC cl_BadPegs ty_BadPegs s_BadPegs_BadWeights
 have o_BadPegs_BadWeights:kitOne K (.ref C_BadWeights) (.ref C_BadPegs) = some false:=kitN q_BadPegs_BadWeights (fun z=>by have z:=Value.ref.inj z; have y:=s_BadPegs_BadWeights; rw [z,s_BadPegs_BadPegs] at y; cases y)
 have q_NoLeap_BadPegs:kitCls K (.ref C_BadPegs) (.ref C_NoLeap) = some false:=kitC cl_NoLeap ty_NoLeap s_NoLeap_BadPegs
 have o_NoLeap_BadPegs:kitOne K (.ref C_BadPegs) (.ref C_NoLeap) = some false:=kitN q_NoLeap_BadPegs (fun z=>by have z:=Value.ref.inj z; have y:=s_NoLeap_BadPegs; rw [z,ss_NoLeap] at y; cases y)
 have q_NoLeap_BadWeights:kitCls K (.ref C_BadWeights) (.ref C_NoLeap) = some false:=kitC cl_NoLeap ty_NoLeap s_NoLeap_BadWeights
 have o_NoLeap_BadWeights:kitOne K (.ref C_BadWeights) (.ref C_NoLeap) = some false:=kitN q_NoLeap_BadWeights (fun z=>by have z:=Value.ref.inj z; have y:=s_NoLeap_BadWeights; rw [z,ss_NoLeap] at y; cases y)
 have q_BadWeights_BadPegs:kitCls K (.ref C_BadPegs) (.ref C_BadWeights) = some false:=kitC cl_BadWeights ty_BadWeights s_BadWeights_BadPegs
 have o_BadWeights_BadPegs:kitOne K (.ref C_BadPegs) (.ref C_BadWeights) = some false:=kitN q_BadWeights_BadPegs (fun z=>by have z:=Value.ref.inj z; have y:=s_BadWeights_BadPegs; rw [z,s_BadWeights_BadWeights] at y; cases y)
 have q_BadWeights_BadWeights:kitCls K (.ref C_BadWeights) (.ref C_BadWeights) = some true:=kitC cl_BadWeights ty_BadWeights s_BadWeights_BadWeights
 have o_BadWeights_BadWeights:kitOne K (.ref C_BadWeights) (.ref C_BadWeights) = some true:=kitO q_BadWeights_BadWeights
 have z_BadPegs:ExC K C_BadPegs:=⟨q1_BadPegs,q5_BadPegs,q6_BadPegs,q2_BadPegs,q3_BadPegs,sp0,tk0,q4_BadPegs⟩
 have z_BadWeights:ExC K C_BadWeights:=⟨q1_BadWeights,q5_BadWeights,q6_BadWeights,q2_BadWeights,q3_BadWeights,sp0,tk0,q4_BadWeights⟩
 refine ⟨t,?_⟩
 exact {
  f_is_rising:=Q2 X G a_is_rising l_is_rising c_is_rising k_is_rising fun _ _ _ _ _ _ _=>rfl
  f_is_cell:=Q2 X G a_is_cell l_is_cell c_is_cell k_is_cell fun _ _ _ _ _ _ _=>rfl
  f_check_cells:=Q2 X G a_check_cells l_check_cells c_check_cells k_check_cells fun _ _ _ _ _ _ _=>rfl
  f_check_pegs:=Q2 X G a_check_pegs l_check_pegs c_check_pegs k_check_pegs fun _ _ _ _ _ _ _ _=>rfl
  f_turned:=Q2 X G a_turned l_turned c_turned k_turned fun _ _ _ _ _ _ _ _=>rfl
  f_open_leaps:=Q2 X G a_open_leaps l_open_leaps c_open_leaps k_open_leaps fun _ _ _ _ _ _ _ _=>rfl
  f_walked:=Q2 X G a_walked l_walked c_walked k_walked fun _ _ _ _ _ _ _ _ _=>rfl
  f_leapt:=Q2 X G a_leapt l_leapt c_leapt k_leapt fun _ _ _ _ _ _ _ _ _=>rfl
  f_class_of:=Q2 X G a_class_of l_class_of c_class_of k_class_of fun _ _ _ _ _ _ _ _=>rfl
  f_check_weights:=Q2 X G a_check_weights l_check_weights c_check_weights k_check_weights fun _ _ _ _ _ _ _ _=>rfl
  f_weight:=Q2 X G a_weight l_weight c_weight k_weight fun _ _ _ _ _ _ _ _ _=>rfl
  f_reached:=Q2 X G a_reached l_reached c_reached k_reached fun _ _ _ _ _ _ _ _=>rfl
  f_answer:=Q2 X G a_answer l_answer c_answer k_answer fun _ _ _ _ _ _ _ _ _=>rfl
  f_holds:=Q2 X G a_holds l_holds c_holds k_holds fun _ _ _ _ _ _ _ _ _ _=>rfl
  f_row_count:=Q2 X G a_row_count l_row_count c_row_count k_row_count fun _ _ _ _ _ _ _ _ _=>rfl
  f__law_cell_at:=Q2 X G a__law_cell_at l__law_cell_at c__law_cell_at k__law_cell_at fun _ _ _ _ _ _ _ _=>rfl
  f__law_mix:=Q2 X G a__law_mix l__law_mix c__law_mix k__law_mix fun _ _ _ _ _ _ _ _ _=>rfl
  f__law_cells_by:=Q2 X G a__law_cells_by l__law_cells_by c__law_cells_by k__law_cells_by fun _ _ _ _ _ _ _ _=>rfl
  f__law_pegs_by:=Q2 X G a__law_pegs_by l__law_pegs_by c__law_pegs_by k__law_pegs_by fun _ _ _ _ _ _ _ _=>rfl
  f__law_hurt:=Q2 X G a__law_hurt l__law_hurt c__law_hurt k__law_hurt fun _ _ _ _ _ _ _ _ _=>rfl
  f__law_first:=Q2 X G a__law_first l__law_first c__law_first k__law_first fun _ _ _ _ _ _ _ _ _ _=>rfl
  f__law_second:=Q2 X G a__law_second l__law_second c__law_second k__law_second fun _ _ _ _ _ _ _ _ _ _=>rfl
  f__law_met:=Q2 X G a__law_met l__law_met c__law_met k__law_met fun _ _ _ _ _ _ _ _ _ _=>rfl
  f_law:=Q2 X G a_law l_law c_law k_law fun _ _ _ _ _ _ _=>rfl
  n_enumerate:=mg_none_of X G z_enumerate
  n_isinstance:=mg_none_of X G z_isinstance
  n_len:=mg_none_of X G z_len
  n_list:=mg_none_of X G z_list
  n_range:=mg_none_of X G z_range
  n_set:=mg_none_of X G z_set
  n_sorted:=mg_none_of X G z_sorted
  g_LAST:=mg_of X G g_LAST
  g_LEAST:=mg_of X G g_LEAST
  g_MOST:=mg_of X G g_MOST
  g_MOST_CELLS:=mg_of X G g_MOST_CELLS
  m_PegError:=mg_of X G m_PegError
  m_BadBoard:=mg_of X G m_BadBoard
  m_BadPegs:=mg_of X G m_BadPegs
  m_NoLeap:=mg_of X G m_NoLeap
  m_BadWeights:=mg_of X G m_BadWeights
  m_Board:=mg_of X G m_Board
  e_PegError:=e_PegError
  e_BadBoard:=e_BadBoard
  e_BadPegs:=e_BadPegs
  e_BadWeights:=e_BadWeights
  k_PegError:=fun c h=>by (unfold J6 ja8 at h; simp only [Bool.or_eq_true,beq_iff_eq] at h; rcases h with (h) | h <;> subst h <;> first | exact q_PegError_BadPegs | exact q_PegError_BadWeights)
  y_BadPegs:=fun c b h=>by (unfold Z1 at h; (by_cases e:c = t.c_BadPegs; (rw [if_pos e] at h; injection h with h; subst h; subst e; exact ⟨o_BadPegs_BadPegs,z_BadPegs⟩); (rw [if_neg e] at h; (by_cases e:c = t.c_BadWeights; (rw [if_pos e] at h; injection h with h; subst h; subst e; exact ⟨o_BadPegs_BadWeights,z_BadWeights⟩); (rw [if_neg e] at h; cases h)))))
  y_BadWeights:=fun c b h=>by (unfold U4 at h; (by_cases e:c = t.c_BadPegs; (rw [if_pos e] at h; injection h with h; subst h; subst e; exact ⟨o_BadWeights_BadPegs,z_BadPegs⟩); (rw [if_neg e] at h; (by_cases e:c = t.c_BadWeights; (rw [if_pos e] at h; injection h with h; subst h; subst e; exact ⟨o_BadWeights_BadWeights,z_BadWeights⟩); (rw [if_neg e] at h; cases h)))))
  y_NoLeap:=fun c b h=>by (unfold jb5 at h; (by_cases e:c = t.c_BadPegs; (rw [if_pos e] at h; injection h with h; subst h; subst e; exact ⟨o_NoLeap_BadPegs,z_BadPegs⟩); (rw [if_neg e] at h; (by_cases e:c = t.c_BadWeights; (rw [if_pos e] at h; injection h with h; subst h; subst e; exact ⟨o_NoLeap_BadWeights,z_BadWeights⟩); (rw [if_neg e] at h; cases h)))))
  clB:=⟨pgB,hdB,poB,saB⟩
  naB:=naB
  iB:=⟨_,_,kd0 (st:=je1) lI_ cI_ kI_,⟨mkB,aI_,iI_,kcB⟩,jv0 (kd0 (st:=je1) lI_ cI_ kI_) fun _ _ _ _ _ _ _ _=>rfl⟩ }
theorem fn_mk {l:OpenLaw} {w:World} {K:Frag} {h:Heap} {mg:Str -> Option Value} {fa:Addr} (hfa:mg "law" = some (.ref fa)) (T:∃ t,Txt K mg t) (hmath:∀ (t:Adr) (ns:List Int),ns.length <= 63 -> kf5 t [.lst (ns.map D.int)] = .ok (.bl true)) :
  ∃ fd:FuncData,(∀ (s:Shared) (v:Value),BindsTo s fd ⟨[v],[]⟩ [("script",v)]) /\ ∀ base:Heap,K.In base -> base.Ns mainGlobals mg -> FnOk l.prog w K mg base (CXr l.prog w) 40 fa fd ["script"] (kp0 K):=by
 obtain ⟨t,T⟩:=T
 obtain ⟨a,fd,Fu,hm,hb⟩:=T.f_law
 obtain rfl:a = fa:=by rw [hm] at hfa; cases hfa; rfl
 refine ⟨fd,fun s v=>?_,fun base hk hn=>?_⟩
 ·obtain ⟨oc,od,kV,doc,pm,an,cdv,ct,osl,rfl,lk,hcd⟩:=Fu.ex
  exact .of_eq rfl
 ·obtain ⟨a',fd',h1,h2,h3⟩:=qi6 (P:=l.prog) (w:=w) (base:=base) T (hmath t)
  rw [hm] at h2
  cases h2
  obtain ⟨o,l1,d1⟩:=h3
  obtain ⟨o',l2,d2⟩:=jr4 Fu
  rw [l1] at l2
  cases l2
  rw [d1] at d2
  cases d2
  exact h1
theorem walk {l:OpenLaw} {q:Program} {loose:List Str} {XP:(Str -> Option Value) -> Heap -> Prop} {YP:World -> Heap -> Prop} {d:DefRec} {K:Params -> Frag} (hn:l.most = some 63) (hdf:d.params.defaults = [])
  (hY:∀ (w:World) (h:Heap),YP w h -> (K w.params).In h)
  (F:∀ (w:World) (mg:Str -> Option Value) (fa:Addr) (h:Heap),(K w.params).In h -> h.Ns mainGlobals mg -> mg d.name = some (.ref fa) ->
   ∃ fd:FuncData,(∀ (s:Shared) (u:Value),BindsTo s fd ⟨[u],[]⟩ [("script",u)]) /\ ∀ base:Heap,(K w.params).In base -> base.Ns mainGlobals mg -> FnOk l.prog w (K w.params) mg base (CXr l.prog w) 40 fa fd ["script"] (kp0 (K w.params))) :
  WalkO q loose XP YP l.row.toRowW d [] (fun f vs=>PySem.call f vs) :=
 L2.walk_of (n:=63) (k:=40) (x:="script") (CX:=fun w=>CXr l.prog w) (sp:=fun w=>kp0 (K w.params)) hn (by decide) hdf ⟨rfl,by decide,by decide⟩ hY F (fun _ _ a ns hl _ hS=>⟨a,ns,rfl,hS,hl,fun _=>rfl⟩) fun w H s e s' zz2=>zz2.elim fun _ zz3=>zz3.elim fun _ zz4=>zz4.elim fun _ zz5=>zz5.elim fun _ zz6=>zz6.elim fun _ zz7=>zz7.elim fun _ zz8=>zz8.elim fun _ zz9=>zz9.elim fun _ zz10=>zz10.elim fun _ zz11=>zz11.elim fun _ zz12=>zz12.elim fun _ zz13=>zz13.elim fun _ zz14=>zz14.elim fun z _=>z
theorem walkY {l:OpenLaw} {q:Program} {loose:List Str} {XP:(Str -> Option Value) -> Heap -> Prop} {d:DefRec} {K:Params -> Frag} {as:List Addr} (hn:l.most = some 63) (hdf:d.params.defaults = []) (e:∀ P,as = (K P).map (·.1))
  (F:∀ (w:World) (mg:Str -> Option Value) (fa:Addr) (h:Heap),(K w.params).In h -> h.Ns mainGlobals mg -> mg d.name = some (.ref fa) ->
   ∃ fd:FuncData,(∀ (s:Shared) (u:Value),BindsTo s fd ⟨[u],[]⟩ [("script",u)]) /\ ∀ base:Heap,(K w.params).In base -> base.Ns mainGlobals mg -> FnOk l.prog w (K w.params) mg base (CXr l.prog w) 40 fa fd ["script"] (kp0 (K w.params))) :
  WalkX q loose XP (fun s:Shared=>as.map s.heap.get?) (fun w=>(K w.params).map fun p=>some p.2) l.row.toRowW d [] (fun f vs=>PySem.call f vs) :=
 fun w s₀ s₁ mg mb G y a o pm cd doc dV kV h1 h2 h3 h4 h5 h6 args vals as' L h7 h8 h9 h10 h11=>walk (YP:=fun w h=>(K w.params).In h) hn hdf (fun _ _ h=>h) F w s₀ s₁ mg mb G (InK.keeps w s₀.heap s₁.heap (InK.of e w s₀ y) L.keeps) a o pm cd doc dV kV h1 h2 h3 h4 h5 h6 args vals as' h7 h8 h9 h10 h11
end Pk
end T_K15
section T_Sim
namespace Dm
open L2 HT
section
variable {f fa fb fc g:DF} {fs:DA} {F G:DS} {st st':DSt} {d a b:D} {ds:List D} {i j:Nat}
@[simp] theorem bind_ok {α β:Type} (a:α) (f:α -> R β):R.bind (.ok a) f = f a:=rfl
@[simp] theorem bind_bad {α β:Type} (f:α -> R β):R.bind (.bad:R α) f = .bad:=rfl
@[simp] theorem bind_ex {α β:Type} (c:PySem.Addr) (p:Option Int) (f:α -> R β):R.bind (.ex c p:R α) f = .ex c p:=rfl
@[simp] theorem dSeq_ (st:DSt):dSeq F G st = match F st with | .nx st'=>G st' | o=>o:=rfl
@[simp] theorem dNext_ (st:DSt):y6 st = .nx st:=rfl
@[simp] theorem dAsg_ (st:DSt):dAsg i f st = match f st with | .ok d=>.nx (st.set i (some d)) | .ex c p=>.ex c p st | .bad=>.bad:=rfl
@[simp] theorem dDrop_ (st:DSt):J5 f st = match f st with | .ok _=>.nx st | .ex c p=>.ex c p st | .bad=>.bad:=rfl
@[simp] theorem dRet_ (st:DSt):dRet f st = match f st with | .ok d=>.rt d | .ex c p=>.ex c p st | .bad=>.bad:=rfl
@[simp] theorem dIfS_ (st:DSt):Dm.dIfS fc F G st = match fc st with | .ok (.bl true)=>F st | .ok (.bl false)=>G st | .ok _=>.bad | .ex c p=>.ex c p st | .bad=>.bad:=rfl
@[simp] theorem dRaise0_ {c:PySem.Addr} (st:DSt):U0 c st = .ex c none st:=rfl
@[simp] theorem dVar_ (st:DSt):dVar i st = match st[i]? with | some (some d)=>.ok d | _=>.bad:=rfl
@[simp] theorem dC_ (st:DSt):dC d st = .ok d:=rfl
@[simp] theorem dFlat_ (st:DSt):jb3 f st = (f st).bind fun d=>if noL d = true then .ok d else .bad:=rfl
@[simp] theorem dOp_ {g:D -> D -> R D} (st:DSt):dOp g fa fb st = (fa st).bind fun a=>(fb st).bind fun b=>g a b:=rfl
@[simp] theorem dUn_ {g:D -> R D} (st:DSt):dUn g fa st = (fa st).bind g:=rfl
@[simp] theorem aNil_ (st:DSt):aNil st = .ok []:=rfl
@[simp] theorem aCons_ (st:DSt):j2 f fs st = (f st).bind fun d=>(fs st).bind fun ds=>.ok (d :: ds):=rfl
@[simp] theorem dTup_ {n:Nat} (st:DSt):W6 n fs st = (fs st).bind fun ds=>if ds.length <= n then .ok (.tup ds) else .bad:=rfl
@[simp] theorem dLst_ {n:Nat} (st:DSt):U9 n fs st = (fs st).bind fun ds=>if ds.length <= n then .ok (.lst ds) else .bad:=rfl
@[simp] theorem dFn_ {g:List D -> R D} (st:DSt):dFn g fs st = (fs st).bind g:=rfl
@[simp] theorem dAnd_ (st:DSt):dAnd fa fb st = (fa st).bind fun a=>match a with | .bl true=>fb st | .bl false=>.ok (.bl false) | _=>.bad:=rfl
@[simp] theorem dNot_ (st:DSt):dNot fa st = (fa st).bind fun a=>match a with | .bl b=>.ok (.bl (!b)) | _=>.bad:=rfl
@[simp] theorem dChain_ {g g':D -> D -> R D} (st:DSt):je3 g g' fa fb fc st = (fa st).bind fun a=>(fb st).bind fun b=>(g a b).bind fun z=>match z with
 | .bl true=>(fc st).bind fun c=>g' b c
 | .bl false=>.ok (.bl false)
 | _=>.bad:=rfl
@[simp] theorem gAdd_ (i j:Int):gAdd (.int i) (.int j) = .ok (.int (i + j)):=rfl
@[simp] theorem gSub_ (i j:Int):gSub (.int i) (.int j) = .ok (.int (i - j)):=rfl
@[simp] theorem gLt_ (i j:Int):gLt (.int i) (.int j) = .ok (.bl (decide (i < j))):=rfl
@[simp] theorem gLe_ (i j:Int):gLe (.int i) (.int j) = .ok (.bl (decide (i <= j))):=rfl
@[simp] theorem gGt_ (i j:Int):gGt (.int i) (.int j) = .ok (.bl (decide (j < i))):=rfl
@[simp] theorem gNeg_ (i:Int):gNeg (.int i) = .ok (.int (-i)):=rfl
@[simp] theorem gLenL_ (ds:List D):gLen [.lst ds] = .ok (.int ds.length):=rfl
@[simp] theorem gLenT_ (ds:List D):gLen [.tup ds] = .ok (.int ds.length):=rfl
@[simp] theorem noL_int (i:Int):noL (.int i) = true:=by rw [noL] <;> simp
@[simp] theorem noL_bl (i:Bool):noL (.bl i) = true:=by rw [noL] <;> simp
@[simp] theorem dFor_ {gi:DI} {bind:DB} (st:DSt):dFor gi bind F st = match gi st with | .ok ds=>ja0 bind F ds st | .ex c p=>.ex c p st | .bad=>.bad:=rfl
@[simp] theorem iLst_ (st:DSt):iLst f st = match f st with | .ok (.lst ds)=>.ok ds | .ok _=>.bad | .ex c p=>.ex c p | .bad=>.bad:=rfl
theorem ji4 {i j:Int} (h:0 < j):gMod (.int i) (.int j) = .ok (.int (i % j)):=by
 show (if decide (0 < j) = true then _ else _) = _
 rw [if_pos (decide_eq_true h)]
theorem kf8 {i j:Int} (h:0 < j) (h2:j < 1073741824):gDiv (.int i) (.int j) = .ok (.int (i / j)):=by
 show (if (decide (0 < j) && decide (j < 1073741824)) = true then _ else _) = _
 rw [if_pos (by rw [decide_eq_true h,decide_eq_true h2]; rfl)]
theorem jv4 {i j:Int} (h : -(2 ^ 64) < i /\ i < 2 ^ 64):gMul (.int i) (.int j) = .ok (.int (i * j)):=by
 show (if (sm i || sm j) = true then _ else _) = _
 rw [if_pos]
 unfold sm
 rw [decide_eq_true h.1,decide_eq_true h.2]; rfl
end
noncomputable abbrev Cell:=Int × Int
noncomputable def cD (c:Cell):D:=.tup [.int c.1,.int c.2]
noncomputable abbrev cs2 (l:List Cell):D:=.lst (l.map cD)
noncomputable def row (c:Cell):List Int:=[c.1,c.2]
theorem qe5 {a b:Cell} (h:row a = row b):a = b:=by
 obtain ⟨a1,a2⟩:=a; obtain ⟨b1,b2⟩:=b
 simp [row] at h; simp [h]
@[simp] theorem noL_cD (c:Cell):noL (cD c) = true:=by unfold cD; simp [noL,noLs]
@[simp] theorem noLs_cs (l:List Cell):noLs (l.map cD) = true:=Z0 fun d hd=>by obtain ⟨c,_,rfl⟩:=List.mem_map.mp hd; exact noL_cD c
@[simp] theorem flat_cD (c:Cell):flat (cD c) = true:=by unfold cD; simp [flat,J3]
@[simp] theorem flats_cs (l:List Cell):J3 (l.map cD) = true:=je6 fun d hd=>by obtain ⟨c,_,rfl⟩:=List.mem_map.mp hd; exact flat_cD c
@[simp] theorem dep_cD (c:Cell):dep (cD c) = 1:=by unfold cD; simp [dep,deps]
theorem jn1 (l:List Cell):deps (l.map cD) <= 1:=jz9 fun d hd=>by obtain ⟨c,_,rfl⟩:=List.mem_map.mp hd; rw [dep_cD]; exact Nat.le_refl _
@[simp] theorem eqD_cD (a b:Cell):eqD (cD a) (cD b) = decide (a = b):=by
 obtain ⟨a1,a2⟩:=a; obtain ⟨b1,b2⟩:=b
 unfold cD
 simp only [eqD,eqDs,Bool.and_true]
 by_cases h:a1 = b1 <;> by_cases h':a2 = b2 <;> simp [h,h']
@[simp] theorem eqDs_cs:∀ (a b:List Cell),eqDs (a.map cD) (b.map cD) = decide (a = b)
 | [],[]=>by simp [eqDs]
 | [],_ :: _=>by simp [eqDs]
 | _ :: _,[]=>by simp [eqDs]
 | x :: a,y :: b=>by
  rw [List.map_cons,List.map_cons,eqDs,eqD_cD,eqDs_cs a b]
  by_cases h:x = y <;> by_cases h':a = b <;> simp [h,h']
theorem km2 (neg:Bool) (a b:List Cell):gEq neg (cs2 a) (cs2 b) = .ok (.bl (if neg then !decide (a = b) else decide (a = b))):=by
 unfold gEq
 have h:=jn1 a
 rw [if_pos]
 ·simp [eqD]
 ·simp [flat,dep]; lia
theorem v6 (neg:Bool) (i j:Int):gEq neg (.int i) (.int j) = .ok (.bl (if neg then !decide (i = j) else decide (i = j))):=by
 unfold gEq
 rw [if_pos (by simp [flat,dep])]
 have e:eqD (.int i) (.int j) = decide (i = j):=by
  rw [eqD]
  by_cases h:i = j
  ·simp [h]
  ·rw [decide_eq_false h]; exact beq_eq_false_iff_ne.mpr h
 rw [e]
theorem ka7 (neg:Bool) (c:Cell) (l:List Cell):gIn neg (cD c) (cs2 l) = .ok (.bl (if neg then !decide (c ∈ l) else decide (c ∈ l))):=by
 unfold gIn
 have h:=jn1 l
 dsimp only
 rw [if_pos (by simp; lia)]
 have e:(l.map cD).any (fun e=>eqD e (cD c)) = decide (c ∈ l):=by
  induction l with
  | nil=>rfl
  | cons x l ih =>
   rw [List.map_cons,List.any_cons,eqD_cD,ih (jn1 l)]
   by_cases hx:x = c
   ·simp [hx]
   ·have:¬ c = x:=fun z=>hx z.symm
    simp [hx,this]
 rw [e]
theorem qf3 (c:Cell):rowI (cD c) = some (row c):=rfl
theorem kd5:∀ l:List Cell,kh1 (l.map cD) = some (l.map row)
 | []=>rfl
 | c :: l=>by
  have ih:=kd5 l
  unfold kh1 at ih ⊢
  rw [List.map_cons,List.mapM_cons,qf3,ih]
  rfl
theorem qb8:∀ l:List Cell,jh4 (l.map row) = true
 | []=>rfl
 | c :: l=>by
  unfold jh4
  rw [List.map_cons]
  simp [row]
noncomputable def cLt (a b:Cell):Prop:=a.1 < b.1 \/ (a.1 = b.1 /\ a.2 < b.2)
noncomputable instance (a b:Cell):Decidable (cLt a b):=inferInstanceAs (Decidable (_ \/ _))
noncomputable def Rising (l:List Cell):Prop:=l.Pairwise cLt
theorem lex2 (a b:Cell):J9 (row a) (row b) = decide (cLt a b):=by
 obtain ⟨a1,a2⟩:=a; obtain ⟨b1,b2⟩:=b
 unfold row cLt
 rw [Q9]
 by_cases h2:a1 = b1
 ·subst h2
  rw [if_pos rfl,Q9]
  by_cases h3:a2 = b2
  ·subst h3; rw [if_pos rfl]; simp [jr0]
  ·rw [if_neg h3]; simp
 ·rw [if_neg h2]; simp [h2]
theorem ql7 (c:Cell):fl (cD c) = row c:=by unfold cD row; simp [fl,fls]
theorem qf8 (a b:Cell):leL (fl (cD a)) (fl (cD b)) = !decide (cLt b a):=by rw [ql7,ql7]; unfold leL; rw [lex2]
theorem qf4 (a b:Cell):cLt a b \/ a = b \/ cLt b a:=by
 obtain ⟨a1,a2⟩:=a; obtain ⟨b1,b2⟩:=b
 unfold cLt
 by_cases h1:a1 < b1
 ·exact .inl (.inl h1)
 ·by_cases h2:b1 < a1
  ·exact .inr (.inr (.inl h2))
  ·have:a1 = b1:=by lia
   subst this
   by_cases h3:a2 < b2
   ·exact .inl (.inr ⟨rfl,h3⟩)
   ·by_cases h4:b2 < a2
    ·exact .inr (.inr (.inr ⟨rfl,h4⟩))
    ·have:a2 = b2:=by lia
     subst this; exact .inr (.inl rfl)
theorem kh0 (a:Cell):¬ cLt a a:=by unfold cLt; lia
theorem kg7 {a b c:Cell} (h:cLt a b) (h':cLt b c):cLt a c:=by unfold cLt at *; lia
theorem kb3 {a b:Cell} (h:cLt a b):¬ cLt b a:=fun h'=>kh0 a (kg7 h h')
theorem Rising.nodup {l:List Cell} (h:Rising l):l.Nodup:=h.imp fun {a b} hab e=>by subst e; exact kh0 _ hab
noncomputable def toC:D -> Cell
 | .tup [.int a,.int b]=>(a,b)
 | _=>(0,0)
theorem kw4 (c:Cell):toC (cD c) = c:=rfl
theorem qm1 {α:Type} [DecidableEq α]:∀ {l:List α},l.Nodup -> dd l = l
 | [],_=>rfl
 | x :: l,h=>by
  rw [List.nodup_cons] at h
  rw [dd,if_neg h.1,qm1 h.2]
theorem kj2 {l:List Cell} (h:l.Nodup):(l.map row).Nodup:=by
 rw [List.nodup_iff_pairwise_ne] at h ⊢
 exact List.Pairwise.map row (fun a b hab e=>hab (qe5 e)) h
theorem qb9 {l:List Cell} (h:Rising l):ja3 (l.map cD) = l.map cD:=by
 symm
 refine jd9 (fun a ha b hb=>?_) (.refl _) ?_
 ·refine x1_2 (List.mem_map.mp ha) fun x _ zo2=>?_
  obtain rfl:=zo2
  refine x1_2 (List.mem_map.mp hb) fun y _ zo2=>?_
  obtain rfl:=zo2
  unfold cD; simp [shp,shps]
 ·refine List.Pairwise.map cD (fun a b hab=>?_) h
  rw [qf8,decide_eq_false (kb3 hab)]; rfl
theorem qc5 (l:List Cell):(l.map row).map dRow = l.map cD:=by rw [List.map_map]; rfl
theorem ke6 (l:List Cell) (hl:l.length <= 50):∃ m:List Cell,jc2 (cs2 l) = .ok (cs2 m) /\ (l = m ↔ Rising l):=by
 let ys:=ja3 ((dd (l.map row)).map dRow)
 have hp:ys.Perm ((dd (l.map row)).map dRow):=Q8 _
 have hy:∀ y ∈ ys,∃ c ∈ l,y = cD c:=fun y h=>by
  refine x1_2 (List.mem_map.mp (hp.mem_iff.mp h)) fun r hr zo2=>?_
  obtain rfl:=zo2
  refine x1_2 (List.mem_map.mp (jp1.mp hr)) fun c hc zo2=>?_
  obtain rfl:=zo2
  exact ⟨c,hc,rfl⟩
 have hm:ys = (ys.map toC).map cD:=by
  rw [List.map_map]
  conv=>lhs; rw [<- List.map_id ys]
  refine List.map_congr_left fun y h=>?_
  refine x1_2 (hy y h) fun c _ zo2=>?_
  obtain rfl:=zo2
  rfl
 refine ⟨ys.map toC,?_,?_⟩
 ·unfold jc2
  dsimp only
  rw [kd5]
  dsimp only
  rw [if_pos (by rw [qb8,Bool.true_and,List.length_map]; exact decide_eq_true hl)]
  show R.ok (D.lst ys) = _
  exact congrArg (fun z=>R.ok (D.lst z)) hm
 ·constructor
  ·intro e
   have hys:ys = l.map cD:=by rw [hm,<- e]
   have hnd:ys.Nodup:=by
    refine hp.nodup_iff.mpr ?_
    have:=jk3 (l.map row)
    rw [List.nodup_iff_pairwise_ne] at this ⊢
    refine List.Pairwise.map dRow (fun a b hab e=>hab ?_) this
    unfold dRow at e
    have e':a.map D.int = b.map D.int:=by injection e
    exact List.map_inj_right (fun x y h=>by injection h) |>.mp e'
   have hpw:=jj5 ((dd (l.map row)).map dRow)
   change List.Pairwise _ ys at hpw
   rw [hys] at hnd hpw
   rw [List.nodup_iff_pairwise_ne] at hnd
   rw [List.pairwise_map] at hnd hpw
   refine (hnd.and hpw).imp fun {a b} zz1=>?_
   obtain ⟨h1,h2⟩:=zz1
   rw [qf8] at h2
   rcases qf4 a b with h | h | h
   ·exact h
   ·subst h; exact absurd rfl h1
   ·rw [decide_eq_true h] at h2; cases h2
  ·intro h
   have e1:dd (l.map row) = l.map row:=qm1 (kj2 h.nodup)
   have e2:ys = l.map cD:=by
    show ja3 _ = _
    rw [e1,qc5,qb9 h]
   rw [e2,List.map_map]
   conv=>lhs; rw [<- List.map_id l]
   exact List.map_congr_left fun c _=>(kw4 c).symm
end Dm
end T_Sim
section T_Sim2
namespace Dm
open L2 HT
theorem J1 {F G:DS} {st st':DSt} (h:F st = .nx st'):dSeq F G st = G st':=by simp [h]
theorem ka8 {F G:DS} {st:DSt} {d:D} (h:F st = .rt d):dSeq F G st = .rt d:=by simp [h]
theorem ka5 {F G:DS} {st s:DSt} {c:PySem.Addr} {p:Option Int} (h:F st = .ex c p s):dSeq F G st = .ex c p s:=by simp [h]
theorem jp0 {f:DF} {st:DSt} {d:D} (h:f st = .ok d):dRet f st = .rt d:=by simp [h]
theorem qc4 {f:DF} {st:DSt} {d:D} (h:f st = .ok d):J5 f st = .nx st:=by simp [h]
theorem ko6 {f:DF} {st:DSt} {c:PySem.Addr} {p:Option Int} (h:f st = .ex c p):J5 f st = .ex c p st:=by simp [h]
theorem if_t {fc:DF} {F G:DS} {st:DSt} (h:fc st = .ok (.bl true)):Dm.dIfS fc F G st = F st:=by simp [h]
theorem if_f {fc:DF} {F G:DS} {st:DSt} (h:fc st = .ok (.bl false)):Dm.dIfS fc F G st = G st:=by simp [h]
theorem jg6 {n:Nat} {F:DS} {ds:List D} {d:D} (st:DSt) (h:F st = .rt d) (e:ds.map some ++ List.replicate (n - ds.length) none = st:=by rfl):v8 n F ds = .ok d:=by
 subst e; unfold v8; rw [h]
theorem ja2 {n:Nat} {F:DS} {ds:List D} {c:PySem.Addr} {p:Option Int} {s:DSt} (st:DSt) (h:F st = .ex c p s) (e:ds.map some ++ List.replicate (n - ds.length) none = st:=by rfl):v8 n F ds = .ex c p:=by
 subst e; unfold v8; rw [h]
theorem qd3 {n:Nat} {F:DS} {ds:List D} {s:DSt} (st:DSt) (h:F st = .nx s) (e:ds.map some ++ List.replicate (n - ds.length) none = st:=by rfl):v8 n F ds = .ok .non:=by
 subst e; unfold v8; rw [h]
theorem fn1 {g:List D -> R D} {f1:DF} {st:DSt} {a:D} {r:R D} (h1:f1 st = .ok a) (h:g [a] = r):dFn g (j2 f1 aNil) st = r:=by simp [h1,h]
theorem fn3 {g:List D -> R D} {f1 f2 f3:DF} {st:DSt} {a b c:D} {r:R D} (h1:f1 st = .ok a) (h2:f2 st = .ok b) (h3:f3 st = .ok c) (h:g [a,b,c] = r):dFn g (j2 f1 (j2 f2 (j2 f3 aNil))) st = r:=by simp [h1,h2,h3,h]
theorem op2 {g:D -> D -> R D} {f1 f2:DF} {st:DSt} {a b:D} {r:R D} (h1:f1 st = .ok a) (h2:f2 st = .ok b) (h:g a b = r):dOp g f1 f2 st = r:=by simp [h1,h2,h]
theorem jw7 {f g:DF} {st:DSt} {r:R D} (h:f st = .ok (.bl true)) (h2:g st = r):dAnd f g st = r:=by simp [h,h2]
theorem kx0 {f g:DF} {st:DSt} (h:f st = .ok (.bl false)):dAnd f g st = .ok (.bl false):=by simp [h]
theorem ka9 {α:Type} {bind:DB} {ft fe:DF} {f:α -> D} {p:α -> Bool} {g:α -> D} {S:α -> DSt} {P:DSt -> Prop}:∀ (xs:List α) (hS:∀ x ∈ xs,P (S x)) (hb:∀ x ∈ xs,∀ st,P st -> bind (f x) st = some (S x)) (ht:∀ x ∈ xs,ft (S x) = .ok (.bl (p x))) (he:∀ x ∈ xs,p x = true -> fe (S x) = .ok (g x)) (st:DSt),P st -> jd0 bind ft fe (xs.map f) st = .ok ((xs.filter p).map g)
 | [],_,_,_,_,_,_=>rfl
 | x :: xs,hS,hb,ht,he,st,h=>by
  have ih:=ka9 xs (fun y hy=>hS y (.tail _ hy)) (fun y hy=>hb y (.tail _ hy)) (fun y hy=>ht y (.tail _ hy)) (fun y hy=>he y (.tail _ hy)) (S x) (hS x (.head _))
  rw [List.map_cons,jd0,hb x (.head _) st h]
  dsimp only
  rw [ht x (.head _)]
  cases hp:p x with
  | true =>
   dsimp only
   rw [he x (.head _) hp,List.filter_cons_of_pos hp,List.map_cons,ih]
  | false =>
   dsimp only
   rw [List.filter_cons_of_neg (by rw [hp]; exact Bool.false_ne_true),ih]
theorem qd2 {gi:DI} {k:Nat} {fr:List Nat} {bind:DB} {ft fe:DF} {st:DSt} {ds es:List D} (h1:gi st = .ok ds) (hl:ds.length <= 1000) (h2:jd0 bind ft fe ds (inσ k fr st) = .ok es):kd8 gi k fr bind ft fe st = .ok (.lst es):=by
 unfold kd8
 rw [h1]
 dsimp only
 rw [if_pos hl,h2]
theorem ky4 {α:Type} {bind:DB} {F:DS} {f:α -> D} {Q:List α -> DSt -> Prop}:∀ (xs pre:List α) (st:DSt),(∀ p x r,pre ++ xs = p ++ x :: r -> ∀ st,Q p st -> ∃ st1 st2,bind (f x) st = some st1 /\ F st1 = .nx st2 /\ Q (p ++ [x]) st2) -> Q pre st -> ∃ st',ja0 bind F (xs.map f) st = .nx st' /\ Q (pre ++ xs) st'
 | [],pre,st,_,q=>⟨st,rfl,by simpa using q⟩
 | x :: xs,pre,st,h,q=>by
  refine x2_3 (h pre x xs rfl st q) fun st1 st2 h1 h2 q2=>?_
  refine x1_2 (ky4 xs (pre ++ [x]) st2 (fun p y r e=>h p y r (by simpa using e)) q2) fun st' h3 q3=>?_
  refine ⟨st',?_,by simpa using q3⟩
  rw [List.map_cons,ja0,h1]
  dsimp only
  rw [h2]
  exact h3
noncomputable def Stop (o:Out):Prop:=match o with | .rt _=>True | .ex _ _ _=>True | _=>False
theorem jy4 {α:Type} {bind:DB} {F:DS} {f:α -> D} {Q:DSt -> Prop} {p:α -> Prop} {S:Out -> Prop} (hS:∀ o,S o -> Stop o):∀ (xs:List α) (st:DSt),(∀ x ∈ xs,∀ st,Q st -> ∃ st1,bind (f x) st = some st1 /\ (p x -> ∃ st2,F st1 = .nx st2 /\ Q st2) /\ (¬ p x -> S (F st1))) -> Q st ->
  ((∀ x ∈ xs,p x) -> ∃ st',ja0 bind F (xs.map f) st = .nx st' /\ Q st') /\ (¬ (∀ x ∈ xs,p x) -> S (ja0 bind F (xs.map f) st))
 | [],st,_,q=>⟨fun _=>⟨st,rfl,q⟩,fun h=>absurd (fun x hx=>by cases hx) h⟩
 | x :: xs,st,h,q=>by
  refine x1_3 (h x (.head _) st q) fun st1 h1 h2 h3=>?_
  rw [List.map_cons,ja0,h1]
  dsimp only
  by_cases hp:p x
  ·refine x1_2 (h2 hp) fun st2 e2 q2=>?_
   obtain ⟨i1,i2⟩:=jy4 hS xs st2 (fun y hy=>h y (.tail _ hy)) q2
   rw [e2]
   dsimp only
   refine ⟨fun z=>i1 fun y hy=>z y (.tail _ hy),fun z=>i2 fun z'=>z fun y hy=>?_⟩
   rcases List.mem_cons.mp hy with rfl | hy
   ·exact hp
   ·exact z' y hy
  ·have s:=h3 hp
   refine ⟨fun z=>absurd (z x (.head _)) hp,fun _=>?_⟩
   cases hf:F st1 with
   | rt d=>rw [hf] at s; exact s
   | ex c p st=>rw [hf] at s; exact s
   | _=>rw [hf] at s; exact absurd (hS _ s) (by simp [Stop])
theorem kz3 {α:Type} (f:α -> D) (l:List α):enD (l.map f) = l.zipIdx.map fun p=>.tup [.int (p.2:Nat),f p.1]:=by
 unfold enD
 refine List.ext_getElem? fun i=>?_
 rw [List.getElem?_mapIdx,List.getElem?_map,List.getElem?_map,List.getElem?_zipIdx]
 cases l[i]? <;> simp
theorem jx6 {ds:List D} {n:Nat} {d:D} (h:ds[n]? = some d):gIx (.lst ds) (.int n) = .ok d:=by
 have hl:=(List.getElem?_eq_some_iff.mp h).1
 have e:atI ds (n:Int) = some d:=by
  unfold atI ixN
  rw [if_pos (Int.natCast_nonneg n),if_pos (by lia)]
  simpa using h
 unfold gIx
 dsimp only
 rw [e]
theorem qk8 {l:List Cell} {a:Nat} (h:a < l.length):gIx (cs2 l) (.int (a:Int)) = .ok (cD l[a]):=jx6 (by rw [List.getElem?_map,List.getElem?_eq_getElem h]; rfl)
theorem jp7 (ds:List D) (m:Nat):cutD ds none (some (m:Int)) = ds.take m:=by
 unfold cutD HT.sIx
 simp only [List.drop_zero,Nat.sub_zero]
 rw [if_neg (by lia)]
 simp only [Int.toNat_natCast]
 by_cases h:m <= ds.length
 ·rw [Nat.min_eq_left h]
 ·rw [Nat.min_eq_right (by lia),List.take_length,List.take_of_length_le (by lia)]
theorem kq2 (ds:List D) (m:Nat):cutD ds (some (m:Int)) none = ds.drop m:=by
 unfold cutD HT.sIx
 dsimp only
 rw [if_neg (by lia)]
 simp only [Int.toNat_natCast]
 by_cases h:m <= ds.length
 ·rw [Nat.min_eq_left h,List.take_of_length_le (by simp)]
 ·rw [Nat.min_eq_right (by lia),List.drop_length,List.drop_of_length_le (by lia)]; simp
theorem qg3 {f g:DF} {st:DSt} {l:List Cell} {a:Nat} (h1:f st = .ok (cs2 l)) (h2:g st = .ok (.int (a:Int))):dSl f none (some g) st = .ok (cs2 (l.take a)):=by
 simp [dSl,jo0,h1,h2,jp7]
theorem jz7 {f g:DF} {st:DSt} {l:List Cell} {a:Nat} (h1:f st = .ok (cs2 l)) (h2:g st = .ok (.int (a:Int))):dSl f (some g) none st = .ok (cs2 (l.drop a)):=by
 simp [dSl,jo0,h1,h2,kq2]
theorem jt1 {l m:List Cell} (h:l.length + m.length <= 1000):gCat (cs2 l) (cs2 m) = .ok (cs2 (l ++ m)):=by
 unfold gCat
 dsimp only
 rw [if_pos (by simp; lia)]
 simp
theorem qn5 (a b:Cell):shp (cD a) (cD b) = true:=by unfold cD; simp [shp,shps]
theorem qp8 (a:Cell):nl (cD a) = true:=by unfold cD; simp [nl,nls]
theorem ks8 {l:List Cell} (h:l.length < 64):ke9 (l.map cD) = true:=by
 unfold ke9
 simp only [Bool.and_eq_true,Bool.or_eq_true,decide_eq_true_eq,List.all_eq_true,List.length_map]
 refine ⟨⟨⟨⟨h,noLs_cs l⟩,fun d hd=>?_⟩,fun a ha b hb=>?_⟩,.inl (.inr fun d hd=>?_)⟩
 ·refine x1_2 (List.mem_map.mp hd) fun c _ zo2=>?_
  obtain rfl:=zo2
  exact ⟨qp8 c,by rw [dep_cD]; decide⟩
 ·refine x1_2 (List.mem_map.mp ha) fun c _ zo2=>?_
  obtain rfl:=zo2
  refine x1_2 (List.mem_map.mp hb) fun c' _ zo2=>?_
  obtain rfl:=zo2
  exact qn5 c c'
 ·refine x1_2 (List.mem_map.mp hd) fun c _ zo2=>?_
  obtain rfl:=zo2
  rfl
theorem kt7 (l:List Cell) (h:l.length < 64):∃ m:List Cell,m.Perm l /\ m.Pairwise (fun a b=>¬ cLt b a) /\ jl8 [cs2 l] = .ok (cs2 m):=by
 have hp:=Q8 (l.map cD)
 have hm:ja3 (l.map cD) = ((ja3 (l.map cD)).map toC).map cD:=by
  rw [List.map_map]
  conv=>lhs; rw [<- List.map_id (ja3 (l.map cD))]
  refine List.map_congr_left fun y hy=>?_
  refine x1_2 (List.mem_map.mp (hp.mem_iff.mp hy)) fun c _ zo2=>?_
  obtain rfl:=zo2
  rfl
 refine ⟨(ja3 (l.map cD)).map toC,?_,?_,?_⟩
 ·have:=hp.map toC
  rw [List.map_map] at this
  have e:l.map (toC ∘ cD) = l:=by
   conv=>rhs; rw [<- List.map_id l]
   exact List.map_congr_left fun c _=>kw4 c
  rw [e] at this
  exact this
 ·have pw:=jj5 (l.map cD)
  rw [hm,List.pairwise_map] at pw
  refine pw.imp fun {a b} h=>?_
  rw [qf8] at h
  simpa using h
 ·unfold jl8
  dsimp only
  rw [if_pos (ks8 h)]
  exact congrArg (fun z=>R.ok (D.lst z)) hm
@[simp] theorem gCells_ (l:List Cell):Y5 (.brd 0 (l.map cD)) = .ok (cs2 l):=by simp [Y5]
@[simp] theorem gList_cs (l:List Cell):jl1 [cs2 l] = .ok (cs2 l):=by simp [jl1]
end Dm
end T_Sim2
section T_Sim3
namespace Dm
open L2 HT
noncomputable abbrev Leap:=Cell × Cell
noncomputable def lD (p:Leap):D:=.tup [cD p.1,cD p.2]
noncomputable abbrev ls2 (l:List Leap):D:=.lst (l.map lD)
noncomputable def mid (a b:Cell):Cell:=((a.1 + b.1) / 2,(a.2 + b.2) / 2)
@[simp] theorem noL_lD (p:Leap):noL (lD p) = true:=by unfold lD; simp [noL,noLs]
@[simp] theorem noLs_ls (l:List Leap):noLs (l.map lD) = true:=Z0 fun d hd=>by obtain ⟨c,_,rfl⟩:=List.mem_map.mp hd; exact noL_lD c
@[simp] theorem flat_lD (p:Leap):flat (lD p) = true:=by unfold lD; simp [flat,J3]
@[simp] theorem flats_ls (l:List Leap):J3 (l.map lD) = true:=je6 fun d hd=>by obtain ⟨c,_,rfl⟩:=List.mem_map.mp hd; exact flat_lD c
@[simp] theorem dep_lD (p:Leap):dep (lD p) = 2:=by unfold lD; simp [dep,deps]
@[simp] theorem eqD_lD (a b:Leap):eqD (lD a) (lD b) = decide (a = b):=by
 obtain ⟨a1,a2⟩:=a; obtain ⟨b1,b2⟩:=b
 unfold lD
 simp only [eqD,eqDs,Bool.and_true,eqD_cD]
 by_cases h:a1 = b1 <;> by_cases h':a2 = b2 <;> simp [h,h']
@[simp] theorem eqDs_ls:∀ (a b:List Leap),eqDs (a.map lD) (b.map lD) = decide (a = b)
 | [],[]=>by simp [eqDs]
 | [],_ :: _=>by simp [eqDs]
 | _ :: _,[]=>by simp [eqDs]
 | x :: a,y :: b=>by
  rw [List.map_cons,List.map_cons,eqDs,eqD_lD,eqDs_ls a b]
  by_cases h:x = y <;> by_cases h':a = b <;> simp [h,h']
@[simp] theorem lx0 (p:Leap):gIx (lD p) (.int 0) = .ok (cD p.1):=rfl
@[simp] theorem lx1 (p:Leap):gIx (lD p) (.int 1) = .ok (cD p.2):=rfl
noncomputable def Box (l:List Cell) (h w:Nat):Prop:=∃ dn ac:Int,∀ c ∈ l,dn <= c.1 /\ c.1 < dn + h /\ ac <= c.2 /\ c.2 < ac + w
noncomputable def qb4 (h w:Nat):Prop:=(h <= 4 /\ w <= 6) \/ (h <= 3 /\ w = 8) \/ (h = 8 /\ w <= 3)
end Dm
end T_Sim3
section T_Sim4
namespace Dm
open L2 HT
noncomputable def left (pegs:List Cell) (p:Leap):List Cell:=pegs.filter fun c=>!decide (c = p.1) && !decide (c = mid p.1 p.2)
noncomputable def kS (c:Cell):Int:=(c.1 + c.2) % 3
noncomputable def kD (c:Cell):Int:=(c.1 - c.2) % 3
noncomputable def par (f:Cell -> Bool) (l:List Cell):Int:=((l.filter f).length:Int) % 2
noncomputable def f1 (c:Cell):Bool:=decide (kS c < 2)
noncomputable def f2 (c:Cell):Bool:=decide (0 < kS c)
noncomputable def f3 (c:Cell):Bool:=decide (kD c < 2)
noncomputable def f4 (c:Cell):Bool:=decide (0 < kD c)
noncomputable def bi (b:Bool):Nat:=if b then 1 else 0
end Dm
end T_Sim4
section T_Sim5
namespace Dm
open L2 HT
noncomputable def sq (k:Nat):Cell:=(((k / 8:Nat):Int),((k % 8:Nat):Int))
end Dm
end T_Sim5
section T_MA15
namespace Pk
open L2 Dm
variable (t:Adr)
theorem kb1 {l:List Cell} (hl:l.length <= 50):(Rising l -> y9 t [cs2 l] = .ok (.bl true)) /\ (¬ Rising l -> y9 t [cs2 l] = .ok (.bl false)):=by
 obtain ⟨m,h1,h2⟩:=ke6 l hl
 constructor
 ·intro h
  have e:=h2.mpr h
  subst e
  simp [y9,v8,h1,km2]
 ·intro h
  have:¬ l = m:=fun z=>h (h2.mp z)
  simp [y9,v8,h1,km2,this]
noncomputable def inR (c:Cell):Prop:=0 <= c.1 /\ c.1 <= 7 /\ 0 <= c.2 /\ c.2 <= 7
noncomputable instance (c:Cell):Decidable (inR c):=inferInstanceAs (Decidable (_ /\ _))
@[simp] theorem ix0 (c:Cell):gIx (cD c) (.int 0) = .ok (.int c.1):=rfl
@[simp] theorem ix1 (c:Cell):gIx (cD c) (.int 1) = .ok (.int c.2):=rfl
theorem qh1 (c:Cell):jb8 t [cD c] = .ok (.bl (decide (inR c))):=by
 unfold inR
 by_cases h1:0 <= c.1 <;> by_cases h2:c.1 <= 7 <;> by_cases h3:0 <= c.2 <;> by_cases h4:c.2 <= 7 <;> simp [jb8,v8,h1,h2,h3,h4]
noncomputable def qn7 (l:List Cell):Prop:=(1 <= l.length /\ l.length <= 24) /\ Rising l /\ ∀ c ∈ l,inR c
theorem jp4 {F:DS} (hF:∀ (x:D) (c:Cell),F [some x,some (cD c)] = if inR c then .nx [some x,some (cD c)] else .ex t.c_BadBoard none [some x,some (cD c)]) (x:D):∀ (l:List Cell) (y:Option D),((∀ c ∈ l,inR c) -> ∃ y',ja0 (jf5 1) F (l.map cD) [some x,y] = .nx [some x,y']) /\ (¬ (∀ c ∈ l,inR c) -> ∃ s,ja0 (jf5 1) F (l.map cD) [some x,y] = .ex t.c_BadBoard none s)
 | [],y=>⟨fun _=>⟨y,rfl⟩,fun h=>absurd (fun c hc=>by cases hc) h⟩
 | c :: l,y=>by
  obtain ⟨i1,i2⟩:=jp4 hF x l (some (cD c))
  have e:jf5 1 (cD c) [some x,y] = some [some x,some (cD c)]:=rfl
  by_cases hc:inR c
  ·constructor
   ·intro h
    obtain ⟨y',h'⟩:=i1 fun d hd=>h d (.tail _ hd)
    refine ⟨y',?_⟩
    rw [List.map_cons,ja0,e]
    dsimp only
    rw [hF,if_pos hc]
    exact h'
   ·intro h
    obtain ⟨s,h'⟩:=i2 fun z=>h fun d hd=>by
     rcases List.mem_cons.mp hd with rfl | hd
     ·exact hc
     ·exact z d hd
    refine ⟨s,?_⟩
    rw [List.map_cons,ja0,e]
    dsimp only
    rw [hF,if_pos hc]
    exact h'
  ·constructor
   ·intro h; exact absurd (h c (.head _)) hc
   ·intro h
    refine ⟨[some x,some (cD c)],?_⟩
    rw [List.map_cons,ja0,e]
    dsimp only
    rw [hF,if_neg hc]
theorem qc2 {l:List Cell} (hl:l.length <= 50):(qn7 l -> w5 t [cs2 l] = .ok .non) /\ (¬ qn7 l -> w5 t [cs2 l] = .ex t.c_BadBoard none):=by
 have hF:∀ (x:D) (c:Cell),Dm.dIfS (dNot (dFn (jb8 t) (j2 (dVar 1) aNil))) (U0 t.c_BadBoard) y6 [some x,some (cD c)] = if inR c then .nx [some x,some (cD c)] else .ex t.c_BadBoard none [some x,some (cD c)]:=fun x c=>by
  by_cases h:inR c <;> simp [qh1,h]
 obtain ⟨i1,i2⟩:=jp4 t hF (cs2 l) l none
 obtain ⟨r1,r2⟩:=kb1 t hl
 have c1:((l.map cD).length:Int) = l.length:=by simp
 by_cases h0:1 <= l.length
 ·by_cases h1:l.length <= 24
  ·by_cases h2:Rising l
   ·by_cases h3:∀ c ∈ l,inR c
    ·obtain ⟨y,h4⟩:=i1 h3
     refine ⟨fun _=>?_,fun h=>absurd ⟨⟨h0,h1⟩,h2,h3⟩ h⟩
     have a1:(1:Int) <= l.length:=by lia
     have a2:(l.length:Int) <= 24:=by lia
     simp [w5,v8,a1,a2,r1 h2,h4]
    ·obtain ⟨y,h4⟩:=i2 h3
     refine ⟨fun h=>absurd h.2.2 h3,fun _=>?_⟩
     have a1:(1:Int) <= l.length:=by lia
     have a2:(l.length:Int) <= 24:=by lia
     simp [w5,v8,a1,a2,r1 h2,h4]
   ·refine ⟨fun h=>absurd h.2.1 h2,fun _=>?_⟩
    have a1:(1:Int) <= l.length:=by lia
    have a2:(l.length:Int) <= 24:=by lia
    simp [w5,v8,a1,a2,r2 h2]
  ·refine ⟨fun h=>absurd h.1.2 h1,fun _=>?_⟩
   have a1:(1:Int) <= l.length:=by lia
   have a2:¬ (l.length:Int) <= 24:=by lia
   simp [w5,v8,a1,a2]
 ·refine ⟨fun h=>absurd h.1.1 h0,fun _=>?_⟩
  have a1:¬ (1:Int) <= l.length:=by lia
  simp [w5,v8,a1]
noncomputable def ats (ns:List Int) (n:Nat):Int:=(ns[n]?).getD 0
noncomputable abbrev iL (ns:List Int):D:=.lst (ns.map D.int)
theorem m_at (ns:List Int) (n:Nat):k9 t [iL ns,.int n] = .ok (.int (ats ns n)):=by
 unfold ats
 by_cases h:n < ns.length
 ·have e:gIx (iL ns) (.int n) = .ok (.int ((ns[n]?).getD 0)):=jx6 (by rw [List.getElem?_map,List.getElem?_eq_getElem h]; simp)
  have h':(n:Int) < ns.length:=by lia
  simp [k9,v8,h',e]
 ·have h':¬ (n:Int) < ns.length:=by lia
  rw [List.getElem?_eq_none (Nat.le_of_not_lt h)]
  simp [k9,v8,h']
noncomputable abbrev mixL:List Int:=[48271,69621,16807,39373,30269,40014,40692,50021,61687,71993,83869,95561,30307]
theorem qm5 (k:Int):∃ v:Int,0 <= v /\ v <= 95561 /\ gIx (.lst [.int 48271,.int 69621,.int 16807,.int 39373,.int 30269,.int 40014,.int 40692,.int 50021,.int 61687,.int 71993,.int 83869,.int 95561,.int 30307]) (.int (k % 13)) = .ok (.int v):=by
 obtain ⟨n,hn,e⟩ : ∃ n:Nat,n < mixL.length /\ k % 13 = n:=⟨(k % 13).toNat,by show _ < 13; lia,by lia⟩
 rw [e]
 have hL:∀ x ∈ mixL,0 <= x /\ x <= 95561:=by decide
 exact ⟨mixL[n],(hL _ (List.getElem_mem hn)).1,(hL _ (List.getElem_mem hn)).2,jx6 (ds:=mixL.map D.int) (by rw [List.getElem?_map,List.getElem?_eq_getElem hn]; rfl)⟩
theorem jt7 (c k m:Int) (hm:0 < m):∃ r:Int,0 <= r /\ r < m /\ q9 t [.int c,.int k,.int m] = .ok (.int r):=by
 obtain ⟨v,v0,v1,hv⟩:=qm5 k
 have e1:gMod (.int c) (.int 2147483647) = .ok (.int (c % 2147483647)):=ji4 (by decide)
 have e2:gMod (.int k) (.int 13) = .ok (.int (k % 13)):=ji4 (by decide)
 have e3:gDiv (.int k) (.int 13) = .ok (.int (k / 13)):=kf8 (by decide) (by decide)
 have b0:0 <= c % 2147483647 + 12345:=by lia
 have b1:c % 2147483647 + 12345 <= 2147495991:=by lia
 have b2:0 <= (c % 2147483647 + 12345) * v:=Int.mul_nonneg b0 v0
 have b3:(c % 2147483647 + 12345) * v <= 2147495991 * 95561:=Int.mul_le_mul b1 v1 v0 (by decide)
 have e4:gMul (.int (c % 2147483647 + 12345)) (.int v) = .ok (.int ((c % 2147483647 + 12345) * v)):=jv4 (by constructor <;> lia)
 have e5:gMul (.int 2) (.int (k / 13)) = .ok (.int (2 * (k / 13))):=jv4 (by decide)
 have e6:gMul (.int ((c % 2147483647 + 12345) * v)) (.int (2 * (k / 13) + 1)) = .ok (.int ((c % 2147483647 + 12345) * v * (2 * (k / 13) + 1))):=jv4 (by constructor <;> lia)
 have e7:gMul (.int 977) (.int k) = .ok (.int (977 * k)):=jv4 (by decide)
 have e8:∀ x:Int,gMod (.int x) (.int 1000000007) = .ok (.int (x % 1000000007)):=fun x=>ji4 (by decide)
 have e9:∀ x:Int,gDiv (.int x) (.int 7) = .ok (.int (x / 7)):=fun x=>kf8 (by decide) (by decide)
 have e10:∀ x:Int,gMod (.int x) (.int m) = .ok (.int (x % m)):=fun x=>ji4 hm
 refine ⟨(((c % 2147483647 + 12345) * v * (2 * (k / 13) + 1) + 977 * k) % 1000000007 / 7) % m,Int.emod_nonneg _ (by lia),Int.emod_lt_of_pos _ hm,?_⟩
 simp [q9,v8,e1,e2,e3,hv,e4,e5,e6,e7,e8,e9,e10]
noncomputable def pk (c:Int) (k:Nat):Bool:=match q9 t [.int c,.int k,.int 7] with | .ok (.int r)=>decide (0 < r) | _=>false
noncomputable def posn (dn ac w:Int) (k:Nat):Cell:=(dn + k / w,ac + k % w)
noncomputable abbrev kq6:DS:=Dm.dIfS (dOp gGt (dFn (q9 t) (j2 (dFn (k9 t) (j2 (dVar 0) (j2 (dC (.int 1)) aNil))) (j2 (dVar 8) (j2 (dC (.int 7)) aNil)))) (dC (.int 0)))
 (dApp 7 (W6 100 (j2 (dOp gAdd (dVar 5) (dOp gDiv (dVar 8) (dVar 4))) (j2 (dOp gAdd (dVar 6) (dOp gMod (dVar 8) (dVar 4))) aNil))))
 y6
theorem ji0 (ns:List Int) (most c h w dn ac:Int) (hw:0 < w) (hw2:w < 100):∀ (ks:List Nat) (acc:List Cell) (y:Option D),acc.length + ks.length <= 1000 ->
  ∃ y',ja0 (jf5 8) (kq6 t) (ks.map fun i=>.int (i:Nat)) [some (iL ns),some (.int most),some (.int c),some (.int h),some (.int w),some (.int dn),some (.int ac),some (cs2 acc),y] =
   .nx [some (iL ns),some (.int most),some (.int c),some (.int h),some (.int w),some (.int dn),some (.int ac),some (cs2 (acc ++ (ks.filter (pk t (ats ns 1))).map (posn dn ac w))),y']
 | [],acc,y,_=>⟨y,by simp [ja0]⟩
 | k :: ks,acc,y,hl=>by
  obtain ⟨r,r0,r1,hr⟩:=jt7 t (ats ns 1) k 7 (by decide)
  have hat:=m_at t ns 1
  have hp:pk t (ats ns 1) k = decide (0 < r):=by unfold pk; rw [hr]
  have e1:gDiv (.int (k:Int)) (.int w) = .ok (.int ((k:Int) / w)):=kf8 hw (by lia)
  have e2:gMod (.int (k:Int)) (.int w) = .ok (.int ((k:Int) % w)):=ji4 hw
  have hb:jf5 8 (.int (k:Int)) [some (iL ns),some (.int most),some (.int c),some (.int h),some (.int w),some (.int dn),some (.int ac),some (cs2 acc),y] = some [some (iL ns),some (.int most),some (.int c),some (.int h),some (.int w),some (.int dn),some (.int ac),some (cs2 acc),some (.int (k:Int))]:=rfl
  rw [List.length_cons] at hl
  rw [List.map_cons,ja0,hb]
  dsimp only
  by_cases hc:0 < r
  ·have hF:kq6 t [some (iL ns),some (.int most),some (.int c),some (.int h),some (.int w),some (.int dn),some (.int ac),some (cs2 acc),some (.int (k:Int))] = .nx [some (iL ns),some (.int most),some (.int c),some (.int h),some (.int w),some (.int dn),some (.int ac),some (cs2 (acc ++ [posn dn ac w k])),some (.int (k:Int))]:=by
    have hacc:acc.length <= 1000:=by lia
    have hat':k9 t [iL ns,.int 1] = .ok (.int (ats ns 1)):=hat
    have hr':q9 t [.int (ats ns 1),.int (k:Int),.int 7] = .ok (.int r):=hr
    simp [hat',hr',hc,dApp,e1,e2,posn,cD,hacc]
   rw [hF]
   dsimp only
   obtain ⟨y',ih⟩:=ji0 ns most c h w dn ac hw hw2 ks (acc ++ [posn dn ac w k]) (some (.int (k:Int))) (by simp; lia)
   refine ⟨y',ih.trans ?_⟩
   rw [List.filter_cons_of_pos (by rw [hp]; exact decide_eq_true hc),List.map_cons,List.append_assoc]
   rfl
  ·have hF:kq6 t [some (iL ns),some (.int most),some (.int c),some (.int h),some (.int w),some (.int dn),some (.int ac),some (cs2 acc),some (.int (k:Int))] = .nx [some (iL ns),some (.int most),some (.int c),some (.int h),some (.int w),some (.int dn),some (.int ac),some (cs2 acc),some (.int (k:Int))]:=by
    have hat':k9 t [iL ns,.int 1] = .ok (.int (ats ns 1)):=hat
    have hr':q9 t [.int (ats ns 1),.int (k:Int),.int 7] = .ok (.int r):=hr
    simp [hat',hr',hc]
   rw [hF]
   dsimp only
   obtain ⟨y',ih⟩:=ji0 ns most c h w dn ac hw hw2 ks acc (some (.int (k:Int))) (by lia)
   refine ⟨y',ih.trans ?_⟩
   rw [List.filter_cons_of_neg (by rw [hp,decide_eq_false hc]; decide)]
theorem qd0 {dn ac w:Int} (hw:0 < w) {j k:Nat} (h:j < k):cLt (posn dn ac w j) (posn dn ac w k):=by
 unfold cLt posn
 dsimp only
 have h1:(j:Int) / w <= (k:Int) / w:=Int.ediv_le_ediv hw (by lia)
 rcases Int.lt_or_eq_of_le h1 with h2 | h2
 ·exact .inl (by lia)
 ·refine .inr ⟨by lia,?_⟩
  have e1:=Int.mul_ediv_add_emod (j:Int) w
  have e2:=Int.mul_ediv_add_emod (k:Int) w
  rw [h2] at e1
  lia
theorem kz2 {dn ac w h:Int} (hw:0 < w) (hh:0 < h) (d0:0 <= dn) (d1:dn <= 8 - h) (a0:0 <= ac) (a1:ac <= 8 - w) {k:Nat} (hk:(k:Int) < h * w):inR (posn dn ac w k):=by
 unfold inR posn
 dsimp only
 have h1:0 <= (k:Int) / w:=Int.ediv_nonneg (by lia) (by lia)
 have h2:(k:Int) / w < h:=Int.ediv_lt_of_lt_mul hw hk
 have h3:0 <= (k:Int) % w:=Int.emod_nonneg _ (by lia)
 have h4:(k:Int) % w < w:=Int.emod_lt_of_pos _ hw
 lia
theorem jt4 {dn ac w:Int} (hw:0 < w) (p:Nat -> Bool) (n:Nat):Rising (((List.range n).filter p).map (posn dn ac w)):=by
 unfold Rising
 refine List.Pairwise.map (R:=fun a b=>a < b) (posn dn ac w) (fun a b h=>qd0 hw h) ?_
 exact List.Pairwise.sublist List.filter_sublist List.pairwise_lt_range
structure Drawn (l:List Cell) (most:Nat):Prop where
 pos:1 <= l.length
 le:l.length <= most
 up:Rising l
 inr:∀ c ∈ l,inR c
 box:∃ h w,Box l h w /\ qb4 h w
theorem qa4 (ns:List Int) (most:Nat) (hm:1 <= most):∃ l,y2 t [iL ns,.int most] = .ok (cs2 l) /\ Drawn l most:=by
 obtain ⟨c,hat⟩ : ∃ c:Int,k9 t [iL ns,.int 0] = .ok (.int c):=⟨_,m_at t ns 0⟩
 obtain ⟨r1,p1,q1,h1⟩:=jt7 t c 1 4 (by decide)
 obtain ⟨r2,p2,q2,h2⟩:=jt7 t c 2 6 (by decide)
 have e4:gMod (.int c) (.int 4) = .ok (.int (c % 4)):=ji4 (by decide)
 obtain ⟨h,w,a1,a2,b1,b2,hw,sm,e3⟩ : ∃ h w:Int,1 <= h /\ h <= 8 /\ 1 <= w /\ w <= 8 /\ h * w <= 64 /\ ((h <= 4 /\ w <= 6) \/ (h <= 3 /\ w = 8) \/ (h = 8 /\ w <= 3)) /\ Dm.dIfS (dOp (gEq false) (dOp gMod (dVar 2) (dC (.int 4))) (dC (.int 1)))
   (kf1 (jy8 3 4) (jb3 (dOp gIx (U9 100 (j2 (W6 100 (j2 (dOp gAdd (dC (.int 1)) (dOp gMod (dVar 3) (dC (.int 3)))) (j2 (dC (.int 8)) aNil))) (j2 (W6 100 (j2 (dC (.int 8)) (j2 (dOp gAdd (dC (.int 1)) (dOp gMod (dVar 4) (dC (.int 3)))) aNil))) aNil))) (dOp gMod (dOp gDiv (dVar 2) (dC (.int 4))) (dC (.int 2))))))
   y6 [some (iL ns),some (.int most),some (.int c),some (.int (1 + r1)),some (.int (1 + r2)),none,none,none,none] = .nx [some (iL ns),some (.int most),some (.int c),some (.int h),some (.int w),none,none,none,none]:=by
  by_cases hc:c % 4 = 1
  ·have m1:gMod (.int (1 + r1)) (.int 3) = .ok (.int ((1 + r1) % 3)):=ji4 (by decide)
   have m2:gMod (.int (1 + r2)) (.int 3) = .ok (.int ((1 + r2) % 3)):=ji4 (by decide)
   have m3:gDiv (.int c) (.int 4) = .ok (.int (c / 4)):=kf8 (by decide) (by decide)
   have m4:gMod (.int (c / 4)) (.int 2) = .ok (.int (c / 4 % 2)):=ji4 (by decide)
   have hz:c / 4 % 2 = 0 \/ c / 4 % 2 = 1:=by lia
   rcases hz with hz | hz
   ·refine ⟨1 + (1 + r1) % 3,8,by lia,by lia,by lia,by lia,by lia,by lia,?_⟩
    have ix:gIx (.lst [.tup [.int (1 + (1 + r1) % 3),.int 8],.tup [.int 8,.int (1 + (1 + r2) % 3)]]) (.int 0) = .ok (.tup [.int (1 + (1 + r1) % 3),.int 8]):=rfl
    simp [e4,v6,hc,m1,m2,m3,m4,hz,ix,kf1,noL,noLs,jy8]
   ·refine ⟨8,1 + (1 + r2) % 3,by lia,by lia,by lia,by lia,by lia,by lia,?_⟩
    have ix:gIx (.lst [.tup [.int (1 + (1 + r1) % 3),.int 8],.tup [.int 8,.int (1 + (1 + r2) % 3)]]) (.int 1) = .ok (.tup [.int 8,.int (1 + (1 + r2) % 3)]):=rfl
    simp [e4,v6,hc,m1,m2,m3,m4,hz,ix,kf1,noL,noLs,jy8]
  ·have hb:(1 + r1) * (1 + r2) <= 4 * 6:=Int.mul_le_mul (by lia) (by lia) (by lia) (by lia)
   refine ⟨1 + r1,1 + r2,by lia,by lia,by lia,by lia,by lia,by lia,?_⟩
   simp [e4,v6,hc]
 obtain ⟨dn,d0,d1,hd⟩:=jt7 t c 3 (9 - h) (by lia)
 obtain ⟨ac,s0,s1,hs⟩:=jt7 t c 4 (9 - w) (by lia)
 have em:gMul (.int h) (.int w) = .ok (.int (h * w)):=jv4 (by constructor <;> lia)
 have hn0:0 <= h * w:=Int.mul_nonneg (by lia) (by lia)
 obtain ⟨y',hl⟩:=ji0 t ns most c h w dn ac (by lia) (by lia) (List.range (h * w).toNat) [] none (by simp; lia)
 rw [List.nil_append] at hl
 have up:=jt4 (dn:=dn) (ac:=ac) (w:=w) (by lia) (pk t (ats ns 1)) (h * w).toNat
 have rng:iRng (j2 (dOp gMul (dVar 3) (dVar 4)) aNil) [some (iL ns),some (.int most),some (.int c),some (.int h),some (.int w),some (.int dn),some (.int ac),some (.lst []),none] = .ok ((List.range (h * w).toNat).map fun i=>.int (i:Nat)):=by
  unfold iRng
  simp [em]
  lia
 obtain ⟨L,hLd⟩ : ∃ L,L = ((List.range (h * w).toNat).filter (pk t (ats ns 1))).map (posn dn ac w):=⟨_,rfl⟩
 rw [<- hLd] at hl up
 have hin:∀ x ∈ L,inR x:=fun x hx=>by
  rw [hLd] at hx
  obtain ⟨k,hk,rfl⟩:=List.mem_map.mp hx
  have:=List.mem_range.mp (List.mem_filter.mp hk).1
  exact kz2 (h:=h) (by lia) (by lia) d0 (by lia) s0 (by lia) (by lia)
 have hbx:∀ x ∈ L,dn <= x.1 /\ x.1 < dn + (h.toNat:Int) /\ ac <= x.2 /\ x.2 < ac + (w.toNat:Int):=fun x hx=>by
  rw [hLd] at hx
  obtain ⟨k,hk,rfl⟩:=List.mem_map.mp hx
  have hk':=List.mem_range.mp (List.mem_filter.mp hk).1
  have q1:0 <= (k:Int) / w:=Int.ediv_nonneg (by lia) (by lia)
  have q2:(k:Int) / w < h:=Int.ediv_lt_of_lt_mul (by lia) (by lia)
  have q3:0 <= (k:Int) % w:=Int.emod_nonneg _ (by lia)
  have q4:(k:Int) % w < w:=Int.emod_lt_of_pos _ (by lia)
  unfold posn
  dsimp only
  lia
 have sm':qb4 h.toNat w.toNat:=by unfold qb4; lia
 have f1:dAsg 2 (dFn (k9 t) (j2 (dVar 0) (j2 (dC (.int 0)) aNil))) [some (iL ns),some (.int most),none,none,none,none,none,none,none] = .nx [some (iL ns),some (.int most),some (.int c),none,none,none,none,none,none]:=by simp [hat]
 have f2:dPar 3 4 (j2 (dOp gAdd (dC (.int 1)) (dFn (q9 t) (j2 (dVar 2) (j2 (dC (.int 1)) (j2 (dC (.int 4)) aNil))))) (j2 (dOp gAdd (dC (.int 1)) (dFn (q9 t) (j2 (dVar 2) (j2 (dC (.int 2)) (j2 (dC (.int 6)) aNil))))) aNil)) [some (iL ns),some (.int most),some (.int c),none,none,none,none,none,none] = .nx [some (iL ns),some (.int most),some (.int c),some (.int (1 + r1)),some (.int (1 + r2)),none,none,none,none]:=by simp [dPar,h1,h2]
 have f4:dPar 5 6 (j2 (dFn (q9 t) (j2 (dVar 2) (j2 (dC (.int 3)) (j2 (dOp gSub (dC (.int 9)) (dVar 3)) aNil)))) (j2 (dFn (q9 t) (j2 (dVar 2) (j2 (dC (.int 4)) (j2 (dOp gSub (dC (.int 9)) (dVar 4)) aNil)))) aNil)) [some (iL ns),some (.int most),some (.int c),some (.int h),some (.int w),none,none,none,none] = .nx [some (iL ns),some (.int most),some (.int c),some (.int h),some (.int w),some (.int dn),some (.int ac),none,none]:=by simp [dPar,hd,hs]
 have f5:dAsg 7 (U9 100 aNil) [some (iL ns),some (.int most),some (.int c),some (.int h),some (.int w),some (.int dn),some (.int ac),none,none] = .nx [some (iL ns),some (.int most),some (.int c),some (.int h),some (.int w),some (.int dn),some (.int ac),some (.lst []),none]:=by simp
 have f6:dFor (iRng (j2 (dOp gMul (dVar 3) (dVar 4)) aNil)) (jf5 8) (kq6 t) [some (iL ns),some (.int most),some (.int c),some (.int h),some (.int w),some (.int dn),some (.int ac),some (.lst []),none] = .nx [some (iL ns),some (.int most),some (.int c),some (.int h),some (.int w),some (.int dn),some (.int ac),some (cs2 L),y']:=by
  rw [dFor_,rng]
  exact hl
 have fin:∀ l:List Cell,Drawn l most -> (dSeq (Dm.dIfS (dOp (gEq false) (dFn gLen (j2 (dVar 7) aNil)) (dC (.int 0)))
   (dAsg 7 (U9 100 (j2 (W6 100 (j2 (jb3 (dVar 5)) (j2 (jb3 (dVar 6)) aNil))) aNil)))
   y6)
   (dRet (dSl (dVar 7) none (some (dVar 1))))) [some (iL ns),some (.int most),some (.int c),some (.int h),some (.int w),some (.int dn),some (.int ac),some (cs2 L),y'] = .rt (cs2 l) -> ∃ l,y2 t [iL ns,.int most] = .ok (cs2 l) /\ Drawn l most:=fun l dl e=>by
  refine ⟨l,?_,dl⟩
  have e0:y2 t [iL ns,.int most] = match (.rt (cs2 l):Out) with | .rt d=>.ok d | .nx _=>.ok .non | .ex c p _=>.ex c p | _=>.bad:=by
   unfold y2 v8
   show (match (dSeq _ _ [some (iL ns),some (.int most),none,none,none,none,none,none,none]) with | .rt d=>R.ok d | .nx _=>.ok .non | .ex c p _=>.ex c p | _=>.bad) = _
   rw [J1 f1,J1 f2,J1 e3,J1 f4,J1 f5,J1 f6,e]
  rw [e0]
 by_cases hL:L = []
 ·refine fin [(dn,ac)] ⟨by simp,by simpa using hm,by simp [Rising],fun x hx=>?_,?_⟩ ?_
  ·obtain rfl:x = (dn,ac):=by simpa using hx
   unfold inR; dsimp only; lia
  ·refine ⟨h.toNat,w.toNat,⟨dn,ac,fun x hx=>?_⟩,sm'⟩
   obtain rfl:x = (dn,ac):=by simpa using hx
   dsimp only
   lia
  ·subst hL
   have g1:Dm.dIfS (dOp (gEq false) (dFn gLen (j2 (dVar 7) aNil)) (dC (.int 0)))
    (dAsg 7 (U9 100 (j2 (W6 100 (j2 (jb3 (dVar 5)) (j2 (jb3 (dVar 6)) aNil))) aNil)))
    y6 [some (iL ns),some (.int most),some (.int c),some (.int h),some (.int w),some (.int dn),some (.int ac),some (cs2 []),y'] = .nx [some (iL ns),some (.int most),some (.int c),some (.int h),some (.int w),some (.int dn),some (.int ac),some (cs2 [(dn,ac)]),y']:=by simp [v6,cD]
   rw [J1 g1]
   have:(([(dn,ac)]:List Cell).map cD).take most = ([(dn,ac)]:List Cell).map cD:=List.take_of_length_le (by simpa using hm)
   simp [dSl,jo0,jp7,this]
   simp [cD,noL,noLs]
   exact this
 ·refine fin (L.take most) ⟨?_,by simp; lia,up.sublist (List.take_sublist _ _),fun x hx=>hin x (List.mem_of_mem_take hx),⟨h.toNat,w.toNat,⟨dn,ac,fun x hx=>hbx x (List.mem_of_mem_take hx)⟩,sm'⟩⟩ ?_
  ·cases hc:L with
   | nil=>exact absurd hc hL
   | cons x r=>simp; lia
  ·have hL0:¬ (L.length:Int) = 0:=by
    intro z
    exact hL (List.length_eq_zero_iff.mp (by lia))
   have g1:Dm.dIfS (dOp (gEq false) (dFn gLen (j2 (dVar 7) aNil)) (dC (.int 0)))
    (dAsg 7 (U9 100 (j2 (W6 100 (j2 (jb3 (dVar 5)) (j2 (jb3 (dVar 6)) aNil))) aNil)))
    y6 [some (iL ns),some (.int most),some (.int c),some (.int h),some (.int w),some (.int dn),some (.int ac),some (cs2 L),y'] = .nx [some (iL ns),some (.int most),some (.int c),some (.int h),some (.int w),some (.int dn),some (.int ac),some (cs2 L),y']:=by simp [v6,hL]
   rw [J1 g1]
   simp [dSl,jo0,jp7]
end Pk
end T_MA15
section T_MP15
namespace Pk
open L2 Dm
variable (t:Adr)
noncomputable def mixP (c m:Int) (k:Nat):Bool:=match q9 t [.int c,.int k,.int m] with | .ok (.int r)=>decide (0 < r) | _=>false
theorem qo7 (c:Int) {l:List Cell} (h1:1 <= l.length) (h2:l.length <= 500):∃ p,Q1 t [.int c,cs2 l] = .ok (cs2 p) /\ p.Sublist l:=by
 obtain ⟨r,r0,r1,hr⟩:=jt7 t c 40 4 (by decide)
 have f1:dAsg 2 (dFn (q9 t) (j2 (dVar 0) (j2 (dC (.int 40)) (j2 (dC (.int 4)) aNil)))) [some (.int c),some (cs2 l),none,none] = .nx [some (.int c),some (cs2 l),some (.int r),none]:=by simp [hr]
 by_cases hz:r = 0
 ·subst hz
  obtain ⟨g,g0,g1,hg⟩:=jt7 t c 41 l.length (by lia)
  obtain ⟨n,rfl⟩:=Int.eq_ofNat_of_zero_le g0
  have hn:n < l.length:=by lia
  refine ⟨l.take n ++ l.drop (n + 1),?_,by rw [<- List.eraseIdx_eq_take_drop_succ]; exact List.eraseIdx_sublist l n⟩
  unfold Q1
  refine jg6 [some (.int c),some (cs2 l),none,none] ?_
  rw [J1 f1]
  refine ka8 ?_
  rw [if_t (by simp [v6])]
  have f2:dAsg 3 (dFn (q9 t) (j2 (dVar 0) (j2 (dC (.int 41)) (j2 (dFn gLen (j2 (dVar 1) aNil)) aNil)))) [some (.int c),some (cs2 l),some (.int 0),none] = .nx [some (.int c),some (cs2 l),some (.int 0),some (.int (n:Int))]:=by simp [hg]
  rw [J1 f2]
  refine jp0 (op2 (a:=cs2 (l.take n)) (b:=cs2 (l.drop (n + 1))) (qg3 rfl rfl) (jz7 rfl rfl) (jt1 ?_))
  simp; lia
 ·obtain ⟨m,hm,hix⟩ : ∃ m:Int,0 < m /\ gIx (.lst [.int 0,.int 2,.int 3,.int 4]) (.int r) = .ok (.int m):=by
   have:r = 1 \/ r = 2 \/ r = 3:=by lia
   rcases this with rfl | rfl | rfl
   ·exact ⟨2,by decide,rfl⟩
   ·exact ⟨3,by decide,rfl⟩
   ·exact ⟨4,by decide,rfl⟩
  refine ⟨(l.zipIdx.filter fun x=>mixP t c m x.2).map (·.1),?_,?_⟩
  ·unfold Q1
   refine jg6 [some (.int c),some (cs2 l),none,none] ?_
   rw [J1 f1,J1 (st':=[some (.int c),some (cs2 l),some (.int r),none]) (by rw [if_f (by simp [v6,hz])]; rfl)]
   refine jp0 ?_
   show _ = R.ok (D.lst (List.map cD (List.map _ _)))
   rw [List.map_map]
   refine qd2 (ds:=l.zipIdx.map fun p=>.tup [.int (p.2:Nat),cD p.1]) ?_ (by simp; lia) ?_
   ·simp [iEnu,kz3]
   ·refine ka9 (S:=fun x=>[some (.int (x.2:Nat)),some (cD x.1),some (.int c),some (.int r)]) (P:=fun st=>∃ y z,st = [y,z,some (.int c),some (.int r)]) l.zipIdx (fun x _=>⟨_,_,rfl⟩) (fun x _ st zz1=>by obtain ⟨y,z,e⟩:=zz1; subst e; rfl) (fun x _=>?_) (fun x _ _=>by simp) _ ⟨none,none,rfl⟩
    obtain ⟨v,v0,v1,hv⟩:=jt7 t c x.2 m hm
    have e:mixP t c m x.2 = decide (0 < v):=by unfold mixP; rw [hv]
    simp [hix,hv,e]
  ·have:=(List.filter_sublist (p:=fun x:Cell × Nat=>mixP t c m x.2) (l:=l.zipIdx)).map Prod.fst
   rwa [List.zipIdx_map_fst] at this
noncomputable def Stand (cells pegs:List Cell):Prop:=Rising pegs /\ ∀ c ∈ pegs,c ∈ cells
theorem kb4 {cells pegs:List Cell} (hl:pegs.length <= 50):(Stand cells pegs -> j9 t [.brd 0 (cells.map cD),cs2 pegs] = .ok .non) /\ (¬ Stand cells pegs -> j9 t [.brd 0 (cells.map cD),cs2 pegs] = .ex t.c_BadPegs none):=by
 obtain ⟨r1,r2⟩:=kb1 t hl
 have loop:=jy4 (bind:=jf5 2) (F:=Dm.dIfS (dOp (gIn true) (dVar 2) (dUn Y5 (dVar 0))) (U0 t.c_BadPegs) y6) (f:=cD) (Q:=fun st=>∃ y,st = [some (.brd 0 (cells.map cD)),some (cs2 pegs),y]) (p:=fun c=>c ∈ cells) (S:=fun o=>∃ s,o = .ex t.c_BadPegs none s) (fun o zz2=>by obtain ⟨s,e⟩:=zz2; subst e; trivial) pegs [some (.brd 0 (cells.map cD)),some (cs2 pegs),none] (fun c _ st zz3=>by
  obtain ⟨y,e⟩:=zz3
  subst e
  refine ⟨[some (.brd 0 (cells.map cD)),some (cs2 pegs),some (cD c)],rfl,fun h=>⟨_,?_,some (cD c),rfl⟩,fun h=>⟨[some (.brd 0 (cells.map cD)),some (cs2 pegs),some (cD c)],?_⟩⟩
  ·rw [if_f (by simp [ka7,h])]; rfl
  ·rw [if_t (by simp [ka7,h])]; rfl) ⟨none,rfl⟩
 have key:∀ o:Out,(dSeq (Dm.dIfS (dNot (dFn (y9 t) (j2 (dVar 1) aNil))) (U0 t.c_BadPegs) y6) (dFor (iLst (dVar 1)) (jf5 2) (Dm.dIfS (dOp (gIn true) (dVar 2) (dUn Y5 (dVar 0))) (U0 t.c_BadPegs) y6))) [some (.brd 0 (cells.map cD)),some (cs2 pegs),none] = o -> j9 t [.brd 0 (cells.map cD),cs2 pegs] = match o with | .rt d=>.ok d | .nx _=>.ok .non | .ex c p _=>.ex c p | _=>.bad:=fun o h=>by
  unfold j9 v8
  subst h; rfl
 by_cases hr:Rising pegs
 ·have s1:Dm.dIfS (dNot (dFn (y9 t) (j2 (dVar 1) aNil))) (U0 t.c_BadPegs) y6 [some (.brd 0 (cells.map cD)),some (cs2 pegs),none] = .nx [some (.brd 0 (cells.map cD)),some (cs2 pegs),none]:=by simp [r1 hr]
  rw [J1 s1] at key
  refine ⟨fun h=>?_,fun h=>?_⟩
  ·obtain ⟨st',h1,_⟩:=loop.1 h.2
   exact key (.nx st') (by simp [h1])
  ·obtain ⟨s,h1⟩:=loop.2 fun z=>h ⟨hr,z⟩
   exact key (.ex t.c_BadPegs none s) (by simp [h1])
 ·refine ⟨fun h=>absurd h.1 hr,fun _=>key (.ex t.c_BadPegs none [some (.brd 0 (cells.map cD)),some (cs2 pegs),none]) (ka5 ?_)⟩
  simp [r2 hr]
theorem Stand.sub {cells pegs:List Cell} (h:Rising cells) (hs:pegs.Sublist cells):Stand cells pegs:=⟨h.sublist hs,fun c hc=>hs.subset hc⟩
theorem qb6 {l:List Cell} (d:Drawn l 24):jm1 (w5 t) [cs2 l] = .ok (.brd 0 (l.map cD)):=by
 have h:=(qc2 t (l:=l) (by have:=d.le; lia)).1 ⟨⟨d.pos,d.le⟩,d.up,d.inr⟩
 simp [jm1,h]
theorem Drawn.mono {l:List Cell} {m n:Nat} (d:Drawn l m) (h:m <= n):Drawn l n:=⟨d.pos,Nat.le_trans d.le h,d.up,d.inr,d.box⟩
end Pk
end T_MP15
section T_M15
namespace Pk
open L2 Dm
variable (t:Adr)
theorem kh9 (x:Int) {n:Nat} (h:0 < n):∃ a:Nat,a < n /\ x % (n:Int) = a:=⟨(x % (n:Int)).toNat,by have:=Int.emod_lt_of_pos x (b:=(n:Int)) (by lia); have:=Int.emod_nonneg x (b:=(n:Int)) (by lia); lia,by have:=Int.emod_nonneg x (b:=(n:Int)) (by lia); lia⟩
theorem qb3 {l:List Cell} {a b:Nat} (hb:b < l.length):¬ Rising (l.take a ++ [l[b]] ++ l.drop a):=fun h=>by
 have hn:=h.nodup
 have hp:(l.take a ++ [l[b]] ++ l.drop a).Perm (l[b] :: l):=by
  rw [List.append_assoc,List.singleton_append]
  refine List.perm_middle.trans ?_
  rw [List.take_append_drop]
 have:=hp.nodup_iff.mp hn
 rw [List.nodup_cons] at this
 exact this.1 (List.getElem_mem hb)
theorem qb2 {l:List Cell} (up:Rising l) (h1:1 < l.length):¬ Rising (l.drop 1 ++ l.take 1):=fun h=>by
 match l,up,h1,h with
 | x :: y :: r,up,_,h =>
  unfold Rising at h up
  rw [List.pairwise_append] at h
  rw [List.pairwise_cons] at up
  exact kb3 (up.1 y (.head _)) (h.2.2 y (by simp) x (by simp))
 | [x],_,h1,_=>simp at h1
 | [],_,h1,_=>simp at h1
theorem qi7 {cells pegs:List Cell} (c:Int) (S:Stand cells pegs) (hin:∀ c ∈ cells,inR c) (hl:pegs.length <= 40) (hlc:cells.length <= 40):∃ bad,U5 t [cs2 cells,cs2 pegs,.int c] = .ok (cs2 bad) /\ ¬ Stand cells bad /\ bad.length <= 50:=by
 obtain ⟨a,ha,ea⟩:=kh9 (c / 3) (n:=pegs.length + 1) (by lia)
 have d3:gDiv (.int c) (.int 3) = .ok (.int (c / 3)):=kf8 (by decide) (by decide)
 have d60:gDiv (.int c) (.int 60) = .ok (.int (c / 60)):=kf8 (by decide) (by decide)
 have m3:gMod (.int c) (.int 3) = .ok (.int (c % 3)):=ji4 (by decide)
 have ma:gMod (.int (c / 3)) (.int ((pegs.length:Int) + 1)) = .ok (.int (a:Int)):=by rw [ji4 (by lia)]; congr 2
 have f1:dAsg 3 (dOp gMod (dOp gDiv (dVar 2) (dC (.int 3))) (dOp gAdd (dFn gLen (j2 (dVar 1) aNil)) (dC (.int 1)))) [some (cs2 cells),some (cs2 pegs),some (.int c),none,none] = .nx [some (cs2 cells),some (cs2 pegs),some (.int c),some (.int (a:Int)),none]:=by simp [d3,ma]
 have len1:(dFn gLen (j2 (dVar 1) aNil)) [some (cs2 cells),some (cs2 pegs),some (.int c),some (.int (a:Int)),none] = .ok (.int pegs.length):=by simp
 have cm:(dOp gMod (dVar 2) (dC (.int 3))) [some (cs2 cells),some (cs2 pegs),some (.int c),some (.int (a:Int)),none] = .ok (.int (c % 3)):=by simp [m3]
 by_cases w0:c % 3 = 0 /\ 0 < pegs.length
 ·obtain ⟨b,hb,eb⟩:=kh9 (c / 60) w0.2
  have mb:gMod (.int (c / 60)) (.int (pegs.length:Int)) = .ok (.int (b:Int)):=by rw [ji4 (by lia),eb]
  refine ⟨pegs.take a ++ [pegs[b]] ++ pegs.drop a,?_,fun h=>qb3 hb h.1,by simp; lia⟩
  unfold U5
  refine jg6 [some (cs2 cells),some (cs2 pegs),some (.int c),none,none] ?_
  rw [J1 f1]
  refine ka8 ?_
  rw [if_t (jw7 (op2 cm rfl (by rw [v6]; simp [w0.1])) (op2 len1 rfl (by have:=w0.2; simp; lia)))]
  refine jp0 (op2 (a:=cs2 (pegs.take a ++ [pegs[b]])) (b:=cs2 (pegs.drop a)) (op2 (a:=cs2 (pegs.take a)) (b:=cs2 [pegs[b]]) (qg3 rfl rfl) ?_ (jt1 (by simp; lia))) (jz7 rfl rfl) (jt1 (by simp; lia)))
  have x1:=qk8 hb
  simp [d60,mb,x1]
 ·have s1:Dm.dIfS (dAnd (dOp (gEq false) (dOp gMod (dVar 2) (dC (.int 3))) (dC (.int 0))) (dOp gGt (dFn gLen (j2 (dVar 1) aNil)) (dC (.int 0))))
    (dRet (dOp gCat (dOp gCat (dSl (dVar 1) none (some (dVar 3))) (U9 100 (j2 (jb3 (dOp gIx (dVar 1) (dOp gMod (dOp gDiv (dVar 2) (dC (.int 60))) (dFn gLen (j2 (dVar 1) aNil))))) aNil))) (dSl (dVar 1) (some (dVar 3)) none)))
    y6 [some (cs2 cells),some (cs2 pegs),some (.int c),some (.int (a:Int)),none] = .nx [some (cs2 cells),some (cs2 pegs),some (.int c),some (.int (a:Int)),none]:=by
   rw [if_f]
   ·rfl
   ·by_cases h:c % 3 = 0
    ·exact jw7 (op2 cm rfl (by rw [v6]; simp [h])) (op2 len1 rfl (by rw [gGt_,decide_eq_false (by have:¬ 0 < pegs.length:=fun z=>w0 ⟨h,z⟩; lia)]))
    ·exact kx0 (op2 cm rfl (by rw [v6]; simp [h]))
  by_cases w1:c % 3 = 1 /\ 1 < pegs.length
  ·refine ⟨pegs.drop 1 ++ pegs.take 1,?_,fun h=>qb2 S.1 w1.2 h.1,by simp; lia⟩
   unfold U5
   refine jg6 [some (cs2 cells),some (cs2 pegs),some (.int c),none,none] ?_
   rw [J1 f1,J1 s1]
   refine ka8 ?_
   rw [if_t (jw7 (op2 cm rfl (by rw [v6]; simp [w1.1])) (op2 len1 rfl (by simp; lia)))]
   exact jp0 (op2 (a:=cs2 (pegs.drop 1)) (b:=cs2 (pegs.take 1)) (jz7 (a:=1) rfl rfl) (qg3 (a:=1) rfl rfl) (jt1 (by simp; lia)))
  ·have s2:Dm.dIfS (dAnd (dOp (gEq false) (dOp gMod (dVar 2) (dC (.int 3))) (dC (.int 1))) (dOp gGt (dFn gLen (j2 (dVar 1) aNil)) (dC (.int 1))))
     (dRet (dOp gCat (dSl (dVar 1) (some (dC (.int 1))) none) (dSl (dVar 1) none (some (dC (.int 1))))))
     y6 [some (cs2 cells),some (cs2 pegs),some (.int c),some (.int (a:Int)),none] = .nx [some (cs2 cells),some (cs2 pegs),some (.int c),some (.int (a:Int)),none]:=by
    rw [if_f]
    ·rfl
    ·by_cases h:c % 3 = 1
     ·exact jw7 (op2 cm rfl (by rw [v6]; simp [h])) (op2 len1 rfl (by have:¬ 1 < pegs.length:=fun z=>w1 ⟨h,z⟩; simp; lia))
     ·exact kx0 (op2 cm rfl (by rw [v6]; simp [h]))
   have m4:gMod (.int (c / 60)) (.int 4) = .ok (.int (c / 60 % 4)):=ji4 (by decide)
   have k3:gPow (.int 10) (.int 9) = .ok (.int 1000000000):=rfl
   obtain ⟨z,hz⟩ : ∃ z:Cell,gIx (.lst [.tup [.int 7,.int 7],.tup [.int 0,.int 8],.tup [.int (-1),.int 0],.tup [.int 1000000000,.int 0]]) (.int (c / 60 % 4)) = .ok (cD z):=by
    have hq:c / 60 % 4 = 0 \/ c / 60 % 4 = 1 \/ c / 60 % 4 = 2 \/ c / 60 % 4 = 3:=by lia
    rcases hq with h | h | h | h <;> rw [h]
    ·exact ⟨(7,7),rfl⟩
    ·exact ⟨(0,8),rfl⟩
    ·exact ⟨(-1,0),rfl⟩
    ·exact ⟨(1000000000,0),rfl⟩
   have f3:dAsg 4 (jb3 (dOp gIx (U9 100 (j2 (W6 100 (j2 (dC (.int 7)) (j2 (dC (.int 7)) aNil))) (j2 (W6 100 (j2 (dC (.int 0)) (j2 (dC (.int 8)) aNil))) (j2 (W6 100 (j2 (dUn gNeg (dC (.int 1))) (j2 (dC (.int 0)) aNil))) (j2 (W6 100 (j2 (dOp gPow (dC (.int 10)) (dC (.int 9))) (j2 (dC (.int 0)) aNil))) aNil))))) (dOp gMod (dOp gDiv (dVar 2) (dC (.int 60))) (dC (.int 4))))) [some (cs2 cells),some (cs2 pegs),some (.int c),some (.int (a:Int)),none] = .nx [some (cs2 cells),some (cs2 pegs),some (.int c),some (.int (a:Int)),some (cD z)]:=by
    simp [d60,m4,k3,hz]
   obtain ⟨o,ho,f4⟩ : ∃ o:Cell,o ∉ cells /\ Dm.dIfS (dOp (gIn false) (dVar 4) (dVar 0)) (dAsg 4 (W6 100 (j2 (dC (.int 0)) (j2 (dC (.int 9)) aNil)))) y6 [some (cs2 cells),some (cs2 pegs),some (.int c),some (.int (a:Int)),some (cD z)] = .nx [some (cs2 cells),some (cs2 pegs),some (.int c),some (.int (a:Int)),some (cD o)]:=by
    by_cases h:z ∈ cells
    ·refine ⟨(0,9),fun q=>absurd (hin _ q) (by decide),?_⟩
     rw [if_t (by simp [ka7,h])]
     simp [cD]
    ·refine ⟨z,h,?_⟩
     rw [if_f (by simp [ka7,h])]
     rfl
   obtain ⟨m,hp,_,hm⟩:=kt7 (pegs ++ [o]) (by simp; lia)
   refine ⟨m,?_,fun h=>ho (h.2 o (hp.mem_iff.mpr (by simp))),by rw [hp.length_eq]; simp; lia⟩
   unfold U5
   refine jg6 [some (cs2 cells),some (cs2 pegs),some (.int c),none,none] ?_
   rw [J1 f1,J1 s1,J1 s2,J1 f3,J1 f4]
   exact jp0 (fn1 (a:=cs2 (pegs ++ [o])) (op2 (a:=cs2 pegs) (b:=cs2 [o]) rfl (by simp) (jt1 (by simp; lia))) hm)
section
variable {cells good bad:List Cell} (Sg:Stand cells good) (Sb:¬ Stand cells bad) (lg:good.length <= 50) (lb:bad.length <= 50) (lc:cells.length <= 10)
noncomputable abbrev bB (cells:List Cell):D:=.brd 0 (cells.map cD)
theorem kl7 {n:Nat} (hn:n <= 100) (h:n = cells.length):y8 t [bB cells,.lst (List.replicate n (.int 0))] = .ok .non:=by
 have loop:=jy4 (bind:=jf5 2) (F:=Dm.dIfS (dNot (je3 gLe gLe (dC (.int (-1000))) (dVar 2) (dC (.int (1000))))) (U0 t.c_BadWeights) y6) (f:=D.int) (Q:=fun st=>∃ y,st = [some (bB cells),some (.lst (List.replicate n (.int 0))),y]) (p:=fun c=>c = 0) (S:=fun o=>∃ s,o = .ex t.c_BadWeights none s) (fun o ⟨s,e⟩=>by subst e; trivial) (List.replicate n 0) [some (bB cells),some (.lst (List.replicate n (.int 0))),none] (fun c hc st ⟨y,e⟩=>by
  obtain rfl:=List.eq_of_mem_replicate hc
  subst e
  exact ⟨_,rfl,fun _=>⟨_,rfl,_,rfl⟩,fun h=>absurd rfl h⟩) ⟨none,rfl⟩
 obtain ⟨st',h1,_⟩:=loop.1 fun x hx=>List.eq_of_mem_replicate hx
 rw [List.map_replicate] at h1
 unfold y8
 refine qd3 (s:=st') [some (bB cells),some (.lst (List.replicate n (.int 0))),none] ?_
 have s1:Dm.dIfS (dOp (gEq true) (dFn gLen (j2 (dVar 1) aNil)) (dFn gLen (j2 (dUn Y5 (dVar 0)) aNil))) (U0 t.c_BadWeights) y6 [some (bB cells),some (.lst (List.replicate n (.int 0))),none] = .nx [some (bB cells),some (.lst (List.replicate n (.int 0))),none]:=by
  rw [if_f]
  ·rfl
  ·simp [v6,h]
 rw [J1 s1]
 simp [h1]
theorem kn7 {n:Nat} (h:n ≠ cells.length):y8 t [bB cells,.lst (List.replicate n (.int 0))] = .ex t.c_BadWeights none:=by
 unfold y8
 refine ja2 (s:=[some (bB cells),some (.lst (List.replicate n (.int 0))),none]) [some (bB cells),some (.lst (List.replicate n (.int 0))),none] (ka5 ?_)
 have h':¬ (n:Int) = cells.length:=by lia
 rw [if_t (by simp [v6]; lia)]
 rfl
theorem jh0 {n:Nat} {as:List D} {F:DS} {st:DSt} (h:F st = .ex t.c_BadPegs none st) (e:as.map some ++ List.replicate (n - as.length) none = st:=by rfl):v8 n (dSeq F dBad) as = .ex t.c_BadPegs none:=ja2 (s:=st) st (ka5 h) e
include Sg Sb lg lb lc
theorem qp6 (way:Nat) (hw:way < 14):W8 t [bB cells,.int way,cs2 bad,cs2 good] = .ok (.lst [.bl (decide (way < 13)),.bl (decide (way = 13)),.bl false]):=by
 have cg:=(kb4 t (cells:=cells) lg).1 Sg
 have cb:=(kb4 t (cells:=cells) lb).2 Sb
 have w0:=kl7 t (cells:=cells) (n:=cells.length) (by lia) rfl
 have w1:=kn7 t (cells:=cells) (n:=25) (by lia)
 have e1:jk1 t [bB cells,cs2 bad] = .ex t.c_BadPegs none:=jh0 t (st:=[some (bB cells),some (cs2 bad)]) (by simp [cb])
 have e2:jb1 t [bB cells,cs2 bad] = .ex t.c_BadPegs none:=jh0 t (st:=[some (bB cells),some (cs2 bad)]) (by simp [cb])
 have e3:∀ d,jf3 t [bB cells,cs2 bad,d] = .ex t.c_BadPegs none:=fun d=>jh0 t (st:=[some (bB cells),some (cs2 bad),some d,none,none,none,none]) (by simp [cb])
 have e4:jn2 t [bB cells,cs2 bad,.tup [.tup [.int 0,.int 0],.tup [.int 5,.int 5]]] = .ex t.c_BadPegs none:=by
  unfold jn2
  refine ja2 (s:=[some (bB cells),some (cs2 bad),some (.tup [.tup [.int 0,.int 0],.tup [.int 5,.int 5]])]) [some (bB cells),some (cs2 bad),some (.tup [.tup [.int 0,.int 0],.tup [.int 5,.int 5]])] ?_
  have:=e3 (.lst [.tup [.tup [.int 0,.int 0],.tup [.int 5,.int 5]]])
  simp [noL,noLs,this]
 have e5:je9 t [bB cells,cs2 bad] = .ex t.c_BadPegs none:=jh0 t (st:=[some (bB cells),some (cs2 bad),none,none]) (by simp [cb])
 have e6:Y9 t [bB cells,.lst (List.replicate cells.length (.int 0)),cs2 bad] = .ex t.c_BadPegs none:=by
  unfold Y9
  refine ja2 (s:=[some (bB cells),some (.lst (List.replicate cells.length (.int 0))),some (cs2 bad),none]) [some (bB cells),some (.lst (List.replicate cells.length (.int 0))),some (cs2 bad),none] ?_
  simp [w0,cb]
 have e7:jg9 t [bB cells,cs2 bad] = .ex t.c_BadPegs none:=jh0 t (st:=[some (bB cells),some (cs2 bad)]) (by simp [cb])
 have e8:jf2 t [bB cells,cs2 bad,cs2 good] = .ex t.c_BadPegs none:=ja2 (s:=[some (bB cells),some (cs2 bad),some (cs2 good),none]) [some (bB cells),some (cs2 bad),some (cs2 good),none] (by simp [cb])
 have e9:jf2 t [bB cells,cs2 good,cs2 bad] = .ex t.c_BadPegs none:=ja2 (s:=[some (bB cells),some (cs2 good),some (cs2 bad),none]) [some (bB cells),some (cs2 good),some (cs2 bad),none] (by simp [cb,cg])
 have e10:∀ d,ji3 t [bB cells,cs2 bad,cs2 good,d] = .ex t.c_BadPegs none:=fun d=>ja2 (s:=[some (bB cells),some (cs2 bad),some (cs2 good),some d]) [some (bB cells),some (cs2 bad),some (cs2 good),some d] (by simp [cb])
 have e11:∀ d,ji3 t [bB cells,cs2 good,cs2 bad,d] = .ex t.c_BadPegs none:=fun d=>ja2 (s:=[some (bB cells),some (cs2 good),some (cs2 bad),some d]) [some (bB cells),some (cs2 good),some (cs2 bad),some d] (by simp [cb,cg])
 have e12:W9 t [bB cells,cs2 bad,cs2 good] = .ex t.c_BadPegs none:=ja2 (s:=[some (bB cells),some (cs2 bad),some (cs2 good),none,none,none]) [some (bB cells),some (cs2 bad),some (cs2 good),none,none,none] (by simp [cb])
 have e13:W9 t [bB cells,cs2 good,cs2 bad] = .ex t.c_BadPegs none:=ja2 (s:=[some (bB cells),some (cs2 good),some (cs2 bad),none,none,none]) [some (bB cells),some (cs2 good),some (cs2 bad),none,none,none] (by simp [cb,cg])
 have e14:Y9 t [bB cells,.lst (List.replicate 25 (.int 0)),cs2 bad] = .ex t.c_BadWeights none:=by
  unfold Y9
  refine ja2 (s:=[some (bB cells),some (.lst (List.replicate 25 (.int 0))),some (cs2 bad),none]) [some (bB cells),some (.lst (List.replicate 25 (.int 0))),some (cs2 bad),none] ?_
  rw [dSeq_,dDrop_,dFn_,aCons_,aCons_,aNil_,dVar_,dVar_]
  simp only [List.getElem?_cons_zero,List.getElem?_cons_succ,bind_ok,w1]
 have r1:gRep (.lst [.int 0]) (.int cells.length) = .ok (.lst (List.replicate cells.length (.int 0))):=by
  unfold gRep
  dsimp only
  rw [if_pos (by simp [noLs]; lia)]
  simp
 have r2:gRep (.lst [.int 0]) (.int 25) = .ok (.lst (List.replicate 25 (.int 0))):=by
  unfold gRep
  dsimp only
  rw [if_pos (by simp [noLs])]
  rfl
 obtain ⟨w25,hw25⟩ : ∃ w,w = List.replicate 25 (D.int 0):=⟨_,rfl⟩
 rw [<- hw25] at e14 r2
 have fin:∀ c,(c = t.c_BadPegs /\ way < 13 \/ c = t.c_BadWeights /\ way = 13) -> (dSeq (J5 (dFn (k7 t) (j2 (dVar 0) (j2 (dVar 1) (j2 (dVar 2) (j2 (dVar 3) aNil)))))) (J5 (dFn (v7 t) (j2 (dVar 0) (j2 (dVar 1) (j2 (dVar 2) (j2 (dVar 3) aNil)))))) [some (bB cells),some (.int way),some (cs2 bad),some (cs2 good),none] = .ex c none [some (bB cells),some (.int way),some (cs2 bad),some (cs2 good),none]) -> W8 t [bB cells,.int way,cs2 bad,cs2 good] = .ok (.lst [.bl (decide (way < 13)),.bl (decide (way = 13)),.bl false]):=fun c hc h=>by
  unfold W8
  refine jg6 [some (bB cells),some (.int way),some (cs2 bad),some (cs2 good),none] (ka8 ?_)
  unfold dTry
  rw [h]
  dsimp only
  have n3:=t.n_BadPegs_BadWeights
  rcases hc with ⟨rfl,hw⟩ | ⟨rfl,hw⟩
  ·have hh:J6 t t.c_BadPegs = true:=by simp [J6,ja8]
   rw [if_pos hh]
   have hw':¬ way = 13:=by lia
   simp [gIsy,xTag,Z1,U4,jb5,n3,n3.symm,hw,hw']
  ·have hh:J6 t t.c_BadWeights = true:=by simp [J6,ja8]
   rw [if_pos hh]
   simp [gIsy,xTag,Z1,U4,jb5,n3,n3.symm,hw]
 have hc:way = 0 \/ way = 1 \/ way = 2 \/ way = 3 \/ way = 4 \/ way = 5 \/ way = 6 \/ way = 7 \/ way = 8 \/ way = 9 \/ way = 10 \/ way = 11 \/ way = 12 \/ way = 13:=by lia
 have A:∀ c,k7 t [bB cells,.int way,cs2 bad,cs2 good] = .ex c none -> (dSeq (J5 (dFn (k7 t) (j2 (dVar 0) (j2 (dVar 1) (j2 (dVar 2) (j2 (dVar 3) aNil)))))) (J5 (dFn (v7 t) (j2 (dVar 0) (j2 (dVar 1) (j2 (dVar 2) (j2 (dVar 3) aNil)))))) [some (bB cells),some (.int way),some (cs2 bad),some (cs2 good),none] = .ex c none [some (bB cells),some (.int way),some (cs2 bad),some (cs2 good),none]):=fun c h=>by
  refine ka5 (ko6 ?_)
  simp [h]
 have B:∀ c,k7 t [bB cells,.int way,cs2 bad,cs2 good] = .ok .non -> v7 t [bB cells,.int way,cs2 bad,cs2 good] = .ex c none -> (dSeq (J5 (dFn (k7 t) (j2 (dVar 0) (j2 (dVar 1) (j2 (dVar 2) (j2 (dVar 3) aNil)))))) (J5 (dFn (v7 t) (j2 (dVar 0) (j2 (dVar 1) (j2 (dVar 2) (j2 (dVar 3) aNil)))))) [some (bB cells),some (.int way),some (cs2 bad),some (cs2 good),none] = .ex c none [some (bB cells),some (.int way),some (cs2 bad),some (cs2 good),none]):=fun c h h'=>by
  rw [J1 (qc4 (d:=.non) (by simp [h]))]
  refine ko6 ?_
  simp [h']
 rcases hc with h | h | h | h | h | h | h | h | h | h | h | h | h | h <;> subst h
 ·exact fin _ (.inl ⟨rfl,by decide⟩) (A _ (by simp [k7,v8,v6,e1]))
 ·exact fin _ (.inl ⟨rfl,by decide⟩) (A _ (by simp [k7,v8,v6,e2]))
 ·exact fin _ (.inl ⟨rfl,by decide⟩) (A _ (by simp [k7,v8,v6,e4]))
 ·exact fin _ (.inl ⟨rfl,by decide⟩) (A _ (by simp [k7,v8,v6,e3]))
 ·exact fin _ (.inl ⟨rfl,by decide⟩) (A _ (by simp [k7,v8,v6,e5]))
 ·exact fin _ (.inl ⟨rfl,by decide⟩) (A _ (by simp [k7,v8,v6,r1,e6]))
 ·exact fin _ (.inl ⟨rfl,by decide⟩) (A _ (by simp [k7,v8,v6,e7]))
 ·exact fin _ (.inl ⟨rfl,by decide⟩) (B _ (by simp [k7,v8,v6]) (by simp [v7,v8,v6,e8]))
 ·exact fin _ (.inl ⟨rfl,by decide⟩) (B _ (by simp [k7,v8,v6]) (by simp [v7,v8,v6,e9]))
 ·exact fin _ (.inl ⟨rfl,by decide⟩) (B _ (by simp [k7,v8,v6]) (by simp [v7,v8,v6,e10]))
 ·exact fin _ (.inl ⟨rfl,by decide⟩) (B _ (by simp [k7,v8,v6]) (by simp [v7,v8,v6,e11]))
 ·exact fin _ (.inl ⟨rfl,by decide⟩) (B _ (by simp [k7,v8,v6]) (by simp [v7,v8,v6,e12]))
 ·exact fin _ (.inl ⟨rfl,by decide⟩) (B _ (by simp [k7,v8,v6]) (by simp [v7,v8,v6,e13]))
 ·exact fin _ (.inr ⟨rfl,rfl⟩) (B _ (by simp [k7,v8,v6]) (by simp [v7,v8,v6,r2,e14]))
end
theorem qg5 (a b:List Cell):gEq false (.lst [cs2 a,cs2 b]) (.lst [cs2 a,cs2 b]) = .ok (.bl true):=by
 unfold gEq
 have h1:=jn1 a
 have h2:=jn1 b
 rw [if_pos (by simp [flat,J3,dep,deps]; lia)]
 simp [eqD,eqDs]
theorem qn9 (a:List Bool):gEq true (.lst (a.map D.bl)) (.lst (a.map D.bl)) = .ok (.bl false):=by
 unfold gEq
 have e:∀ a:List Bool,eqDs (a.map D.bl) (a.map D.bl) = true /\ J3 (a.map D.bl) = true /\ deps (a.map D.bl) = 0:=fun a=>by
  induction a with
  | nil=>simp [eqDs,J3,deps]
  | cons x a ih=>simp [eqDs,J3,deps,eqD,flat,dep,ih]
 obtain ⟨e1,e2,e3⟩:=e a
 rw [if_pos (by simp [flat,dep,e2,e3])]
 simp [eqD,e1]
theorem m_law (ns:List Int):kf5 t [iL ns] = .ok (.bl true):=by
 obtain ⟨l,hl,dl⟩:=qa4 t ns 10 (by decide)
 have hl:y2 t [iL ns,.int 10] = .ok (cs2 l):=hl
 obtain ⟨c,hat⟩ : ∃ c:Int,k9 t [iL ns,.int 2] = .ok (.int c):=⟨_,m_at t ns 2⟩
 obtain ⟨c3,hat3⟩ : ∃ c:Int,k9 t [iL ns,.int 3] = .ok (.int c):=⟨_,m_at t ns 3⟩
 have ll:=dl.le
 obtain ⟨g,hg,sub⟩:=qo7 t c (l:=l) dl.pos (by lia)
 have Sg:Stand l g:=.sub dl.up sub
 have lg:g.length <= 10:=Nat.le_trans sub.length_le ll
 obtain ⟨b,hb,Sb,lb⟩:=qi7 t c3 Sg dl.inr (by lia) (by lia)
 have hB:=qb6 t (dl.mono (by decide))
 unfold kf5
 refine jg6 [some (iL ns),none,none,none,none,none,none] ?_
 rw [J1 (st':=[some (iL ns),some (cs2 l),none,none,none,none,none]) (by simp [hl]),
  J1 (st':=[some (iL ns),some (cs2 l),some (bB l),none,none,none,none]) (by simp [hB]),
  J1 (st':=[some (iL ns),some (cs2 l),some (bB l),some (cs2 g),none,none,none]) (by simp [hat,hg]),
  J1 (st':=[some (iL ns),some (cs2 l),some (bB l),some (cs2 g),some (cs2 b),none,none]) (by simp [hat3,hb]),
  J1 (st':=[some (iL ns),some (cs2 l),some (bB l),some (cs2 g),some (cs2 b),some (.lst [cs2 b,cs2 g]),none]) (by simp)]
 have rng:iRng (j2 (dC (.int 14)) aNil) [some (iL ns),some (cs2 l),some (bB l),some (cs2 g),some (cs2 b),some (.lst [cs2 b,cs2 g]),none] = .ok ((List.range 14).map fun i=>.int (i:Nat)):=by
  unfold iRng
  rfl
 obtain ⟨st',h1,y,rfl⟩:=ky4 (bind:=jf5 6) (F:=Dm.dIfS (dOp (gEq true) (dFn (W8 t) (j2 (dVar 2) (j2 (dVar 6) (j2 (dOp gIx (dVar 5) (dC (.int 0))) (j2 (dOp gIx (dVar 5) (dC (.int 1))) aNil))))) (U9 100 (j2 (dOp gLt (dVar 6) (dC (.int 13))) (j2 (dOp (gEq false) (dVar 6) (dC (.int 13))) (j2 (dC (.bl false)) aNil))))) (dRet (dC (.bl false))) y6)
  (f:=fun i:Nat=>D.int (i:Nat)) (Q:=fun _ st=>∃ y,st = [some (iL ns),some (cs2 l),some (bB l),some (cs2 g),some (cs2 b),some (.lst [cs2 b,cs2 g]),y]) (List.range 14) [] [some (iL ns),some (cs2 l),some (bB l),some (cs2 g),some (cs2 b),some (.lst [cs2 b,cs2 g]),none] (fun p x r e st ⟨y,hy⟩=>by
   subst hy
   have hx:x < 14:=List.mem_range.mp (by rw [List.nil_append] at e; rw [e]; simp)
   have hm:=qp6 t Sg Sb (by lia) lb ll x hx
   have ix0:gIx (.lst [cs2 b,cs2 g]) (.int 0) = .ok (cs2 b):=rfl
   have ix1:gIx (.lst [cs2 b,cs2 g]) (.int 1) = .ok (cs2 g):=rfl
   refine ⟨[some (iL ns),some (cs2 l),some (bB l),some (cs2 g),some (cs2 b),some (.lst [cs2 b,cs2 g]),some (.int (x:Nat))],[some (iL ns),some (cs2 l),some (bB l),some (cs2 g),some (cs2 b),some (.lst [cs2 b,cs2 g]),some (.int (x:Nat))],rfl,?_,_,rfl⟩
   have e1:((x:Int) < 13) ↔ x < 13:=by lia
   have e2:((x:Int) = 13) ↔ x = 13:=by lia
   have q:=qn9 [decide (x < 13),decide (x = 13),false]
   rw [if_f]
   ·rfl
   ·refine op2 (a:=.lst [.bl (decide (x < 13)),.bl (decide (x = 13)),.bl false]) (b:=.lst [.bl (decide (x < 13)),.bl (decide (x = 13)),.bl false]) ?_ ?_ q
    ·simp [ix0,ix1,hm]
    ·simp [v6,e1,e2]) ⟨none,rfl⟩
 rw [J1 (st':=[some (iL ns),some (cs2 l),some (bB l),some (cs2 g),some (cs2 b),some (.lst [cs2 b,cs2 g]),y]) (by rw [dFor_,rng]; exact h1)]
 refine jp0 (jw7 (op2 (a:=.lst [cs2 b,cs2 g]) (b:=.lst [cs2 b,cs2 g]) rfl rfl (qg5 b g)) (op2 (a:=cs2 l) (b:=cs2 l) (by simp) rfl ?_))
 rw [km2]; simp
end Pk
end T_M15
section T_K15z
noncomputable section
namespace Hd
open PySem PySem.W PySem.Calls PyProof.Rows
noncomputable abbrev pq : Program := PySem.Challenge.pw_pegleap_k15_standings_refused
noncomputable def nth : List Stmt → Nat → Stmt
  | [], _ => .Pass ⟨0, 0, 0, 0⟩
  | s :: _, 0 => s
  | _ :: r, n + 1 => nth r n
noncomputable def tk : Nat → List Stmt → List Stmt
  | 0, _ => []
  | _, [] => []
  | n + 1, s :: r => s :: tk n r
noncomputable def dr : Nat → List Stmt → List Stmt
  | 0, l => l
  | _, [] => []
  | n + 1, _ :: r => dr n r
noncomputable def st (i : Nat) : Stmt := nth pq.main.body i
noncomputable def sc (i j : Nat) : Stmt := match st i with | .ClassDef _ _ _ b _ _ _ _ _ _ _ => nth b j | s => s
noncomputable def fN : Stmt → Str | .FunctionDef n _ _ _ _ _ _ _ _ _ => n | _ => default
noncomputable def fX (s : Stmt) (q : Str) (g : Addr) (cl : List (Str × Addr)) (dv kv doc pm : Value) (an : Option Addr) (cd ct : Value) (bi : Addr) : PySem.Data := match s with | .FunctionDef n a b _ _ _ sc _ _ _ => .func ⟨n, q, a, .stmts b, sc, g, cl, dv, kv, doc, pm, an, cd, ct, bi⟩ | _ => .plain
noncomputable def en (P : Params) (x : Str) (t : Tok) (v : Value) : DictEntry := ⟨PyData.keyHash P x, .str x t, v⟩
theorem rest_of {tb : String → Option Builtin} {p : Program} {w : World} {n : Nat} {a : Option Value} {N : Nat} {s r : Shared} {env : Env} {c : Code} {pos : Pos} {B : List Frame} {b b' : List Stmt} (e : b = b') (k : topRun tb p w n a N s (restOf b' env c pos B) = some r) : topRun tb p w n a N s (restOf b env c pos B) = some r := e ▸ k
noncomputable def o0 (P : Params) : Obj := ⟨(.type "tuple"), none, (.seq #[] 0), #[]⟩
noncomputable def o1 (P : Params) : Obj := ⟨.none, none, (.fields #[]), #[]⟩
noncomputable def o2 (P : Params) : Obj := ⟨(.type "code"), none, (.fields #[(.str "<module>" 182), (.str "<module>" 183), (.str "/claim/cut.py" 184), (.int 1 0), (.int 0 0), (.int 0 0), (.int 0 0), (.int 0 0), (.ref 11), (.bool false), (.int 181 0), (.ref 12), .none, .none, .none, .none, (.int 185 0), (.int 1 0), (.str "/claim/cut.py" 186)]), #[]⟩
noncomputable def o3 (P : Params) : Obj := ⟨(.type "frame"), none, .plain, #[(some (.ref 13)), (some (.ref 3)), (some (.ref 3)), none, (some (.str "__main__" 164)), none, (some (.ref 0))]⟩
noncomputable def lf0 : Life := { }
noncomputable def Ha (P : Params) : Heap := ⟨⟨[PySem.W.boot_o_0 P, PySem.W.boot_o_1 P, PySem.W.boot_o_2 P, PySem.W.boot_o_3 P, PySem.W.boot_o_4 P, PySem.W.boot_o_5 P, PySem.W.boot_o_6 P, PySem.W.boot_o_7 P, PySem.W.boot_o_8 P, PySem.W.boot_o_9 P, PySem.W.boot_o_10 P, o0 P, o1 P, o2 P, o3 P]⟩, lf0⟩
noncomputable def T0 (P : Params) : BT := (.node (PySem.W.boot_o_0 P) (.node (PySem.W.boot_o_1 P) (.node (PySem.W.boot_o_3 P) (.node (PySem.W.boot_o_7 P) .nil .nil) (.node (o0 P) .nil .nil)) (.node (PySem.W.boot_o_5 P) (.node (PySem.W.boot_o_9 P) .nil .nil) (.node (o2 P) .nil .nil))) (.node (PySem.W.boot_o_2 P) (.node (PySem.W.boot_o_4 P) (.node (PySem.W.boot_o_8 P) .nil .nil) (.node (o1 P) .nil .nil)) (.node (PySem.W.boot_o_6 P) (.node (PySem.W.boot_o_10 P) .nil .nil) (.node (o3 P) .nil .nil))))
noncomputable def S0 (w : World) (os : OsState) : SharedT := ⟨T0 w.params, 15, lf0, #[], ⟨0, 0, 0, 0⟩, 187, os⟩
noncomputable def o4 (P : Params) : Obj := ⟨(.type "dict"), none, (.dict #[en P "__name__" 165 (.str "pegleap.errors" 187), en P "__doc__" 166 .none, en P "__package__" 167 .none, en P "__loader__" 168 (.builtin "__main__.__loader__#opaque"), en P "__spec__" 169 .none, en P "__annotations__" 170 (.ref 6), en P "__builtins__" 171 (.ref 4), en P "__file__" 173 (.str "/claim/cut.py" 172), en P "__cached__" 174 .none, en P "PegError" 206 (.ref 24), en P "BadBoard" 222 (.ref 37), en P "BadPegs" 238 (.ref 49), en P "NoLeap" 263 (.ref 68)] 13), #[]⟩
noncomputable def o5 (P : Params) : Obj := ⟨.none, none, (.fields #[(.int 2 0), (.int 0 0), (.ref 20), (.int 4 0), (.int 0 0), (.ref 33), (.int 6 0), (.int 0 0), (.ref 45), (.int 8 0), (.int 0 0), (.ref 57)]), #[]⟩
noncomputable def o6 (P : Params) : Obj := ⟨(.type "tuple"), none, (.seq #[(.type "ValueError")] 0), #[]⟩
noncomputable def o7 (P : Params) : Obj := ⟨(.type "builtin_function_or_method"), none, (.fields #[(.builtin "type.__prepare__"), (.type "type")]), #[]⟩
noncomputable def o8 (P : Params) : Obj := ⟨(.type "dict"), none, (.dict #[en P "__module__" 196 (.str "pegleap.errors" 187), en P "__qualname__" 198 (.str "PegError" 197), en P "__firstlineno__" 200 (.int 2 199), en P "__static_attributes__" 201 (.ref 22)] 4), #[]⟩
noncomputable def o9 (P : Params) : Obj := ⟨(.type "code"), none, (.fields #[(.str "PegError" 191), (.str "PegError" 192), (.str "/claim/cut.py" 193), (.int 2 0), (.int 0 0), (.int 0 0), (.int 0 0), (.int 0 0), (.ref 18), (.bool false), (.int 181 0), (.ref 19), .none, .none, .none, .none, (.int 194 0), (.int 2 0), (.str "/claim/cut.py" 195)]), #[]⟩
noncomputable def o10 (P : Params) : Obj := ⟨(.type "frame"), none, .plain, #[(some (.ref 20)), (some (.ref 3)), (some (.ref 17)), none, (some (.str "pegleap.errors" 187)), none, (some (.ref 0))]⟩
noncomputable def o11 (P : Params) : Obj := ⟨(.type "dict"), none, (.dict #[en P "__module__" 196 (.str "pegleap.errors" 187), en P "__firstlineno__" 200 (.int 2 199), en P "__static_attributes__" 201 (.ref 22), en P "__weakref__" 203 (.ref 25), en P "__doc__" 204 .none] 3), #[]⟩
noncomputable def o12 (P : Params) : Obj := ⟨(.type "type"), none, (.cls ⟨"PegError", [(.type "ValueError")], [(.ref 24), (.type "ValueError"), (.type "Exception"), (.type "BaseException"), (.type "object")], 23, "PegError", true, [], [(.ref 37), (.ref 49), (.ref 68)], false, none, false⟩), #[(some (.ref 15)), none, (some (.str "PegError" 189)), (some (.str "PegError" 197)), (some (.builtin "ValueError.__new__")), (some (.bool true))]⟩
noncomputable def o13 (P : Params) : Obj := ⟨(.type "getset_descriptor"), none, (.fields #[(.str "__weakref__" 202), (.ref 24), (.builtin "ExceptionGroup.__weakref__"), .none]), #[]⟩
noncomputable def o14 (P : Params) : Obj := ⟨(.type "super"), none, (.fields #[(.ref 24), (.ref 24), (.ref 24)]), #[]⟩
noncomputable def o15 (P : Params) : Obj := ⟨(.type "builtin_function_or_method"), none, (.fields #[(.builtin "object.__init_subclass__"), (.ref 24)]), #[]⟩
noncomputable def o16 (P : Params) : Obj := ⟨(.type "tuple"), none, (.seq #[(.ref 24)] 0), #[]⟩
noncomputable def o17 (P : Params) : Obj := ⟨(.type "dict"), none, (.dict #[en P "__module__" 214 (.str "pegleap.errors" 187), en P "__qualname__" 216 (.str "BadBoard" 215), en P "__firstlineno__" 218 (.int 4 217), en P "__static_attributes__" 219 (.ref 35)] 4), #[]⟩
noncomputable def o18 (P : Params) : Obj := ⟨(.type "code"), none, (.fields #[(.str "BadBoard" 209), (.str "BadBoard" 210), (.str "/claim/cut.py" 211), (.int 4 0), (.int 0 0), (.int 0 0), (.int 0 0), (.int 0 0), (.ref 31), (.bool false), (.int 181 0), (.ref 32), .none, .none, .none, .none, (.int 212 0), (.int 4 0), (.str "/claim/cut.py" 213)]), #[]⟩
noncomputable def o19 (P : Params) : Obj := ⟨(.type "frame"), none, .plain, #[(some (.ref 33)), (some (.ref 3)), (some (.ref 30)), none, (some (.str "pegleap.errors" 187)), none, (some (.ref 0))]⟩
noncomputable def o20 (P : Params) : Obj := ⟨(.type "dict"), none, (.dict #[en P "__module__" 214 (.str "pegleap.errors" 187), en P "__firstlineno__" 218 (.int 4 217), en P "__static_attributes__" 219 (.ref 35), en P "__doc__" 220 .none] 2), #[]⟩
noncomputable def o21 (P : Params) : Obj := ⟨(.type "type"), none, (.cls ⟨"BadBoard", [(.ref 24)], [(.ref 37), (.ref 24), (.type "ValueError"), (.type "Exception"), (.type "BaseException"), (.type "object")], 36, "BadBoard", true, [], [], false, none, false⟩), #[(some (.ref 28)), none, (some (.str "BadBoard" 207)), (some (.str "BadBoard" 215)), (some (.builtin "ValueError.__new__")), (some (.bool true))]⟩
noncomputable def o22 (P : Params) : Obj := ⟨(.type "super"), none, (.fields #[(.ref 37), (.ref 37), (.ref 37)]), #[]⟩
noncomputable def o23 (P : Params) : Obj := ⟨(.type "builtin_function_or_method"), none, (.fields #[(.builtin "object.__init_subclass__"), (.ref 37)]), #[]⟩
noncomputable def o24 (P : Params) : Obj := ⟨(.type "dict"), none, (.dict #[en P "__module__" 230 (.str "pegleap.errors" 187), en P "__qualname__" 232 (.str "BadPegs" 231), en P "__firstlineno__" 234 (.int 6 233), en P "__static_attributes__" 235 (.ref 47)] 4), #[]⟩
noncomputable def o25 (P : Params) : Obj := ⟨(.type "code"), none, (.fields #[(.str "BadPegs" 225), (.str "BadPegs" 226), (.str "/claim/cut.py" 227), (.int 6 0), (.int 0 0), (.int 0 0), (.int 0 0), (.int 0 0), (.ref 43), (.bool false), (.int 181 0), (.ref 44), .none, .none, .none, .none, (.int 228 0), (.int 6 0), (.str "/claim/cut.py" 229)]), #[]⟩
noncomputable def o26 (P : Params) : Obj := ⟨(.type "frame"), none, .plain, #[(some (.ref 45)), (some (.ref 3)), (some (.ref 42)), none, (some (.str "pegleap.errors" 187)), none, (some (.ref 0))]⟩
noncomputable def o27 (P : Params) : Obj := ⟨(.type "dict"), none, (.dict #[en P "__module__" 230 (.str "pegleap.errors" 187), en P "__firstlineno__" 234 (.int 6 233), en P "__static_attributes__" 235 (.ref 47), en P "__doc__" 236 .none] 2), #[]⟩
noncomputable def o28 (P : Params) : Obj := ⟨(.type "type"), none, (.cls ⟨"BadPegs", [(.ref 24)], [(.ref 49), (.ref 24), (.type "ValueError"), (.type "Exception"), (.type "BaseException"), (.type "object")], 48, "BadPegs", true, [], [], false, none, false⟩), #[(some (.ref 40)), none, (some (.str "BadPegs" 223)), (some (.str "BadPegs" 231)), (some (.builtin "ValueError.__new__")), (some (.bool true))]⟩
noncomputable def o29 (P : Params) : Obj := ⟨(.type "super"), none, (.fields #[(.ref 49), (.ref 49), (.ref 49)]), #[]⟩
noncomputable def o30 (P : Params) : Obj := ⟨(.type "builtin_function_or_method"), none, (.fields #[(.builtin "object.__init_subclass__"), (.ref 49)]), #[]⟩
noncomputable def o31 (P : Params) : Obj := ⟨(.type "dict"), none, (.dict #[en P "__module__" 246 (.str "pegleap.errors" 187), en P "__qualname__" 248 (.str "NoLeap" 247), en P "__firstlineno__" 250 (.int 8 249), en P "__init__" 258 (.ref 65), en P "__static_attributes__" 260 (.ref 66)] 5), #[]⟩
noncomputable def o32 (P : Params) : Obj := ⟨.none, none, (.fields #[(.int 10 0), (.int 4 0), (.ref 64)]), #[]⟩
noncomputable def o33 (P : Params) : Obj := ⟨(.type "code"), none, (.fields #[(.str "NoLeap" 241), (.str "NoLeap" 242), (.str "/claim/cut.py" 243), (.int 8 0), (.int 0 0), (.int 0 0), (.int 0 0), (.int 0 0), (.ref 55), (.bool false), (.int 181 0), (.ref 56), .none, .none, .none, .none, (.int 244 0), (.int 8 0), (.str "/claim/cut.py" 245)]), #[]⟩
noncomputable def o34 (P : Params) : Obj := ⟨(.type "frame"), none, .plain, #[(some (.ref 57)), (some (.ref 3)), (some (.ref 54)), none, (some (.str "pegleap.errors" 187)), none, (some (.ref 0))]⟩
noncomputable def o35 (P : Params) : Obj := ⟨(.type "tuple"), none, (.seq #[(.str "self" 254), (.str "at" 255)] 0), #[]⟩
noncomputable def o36 (P : Params) : Obj := ⟨.none, none, (fX (sc 4 0) "NoLeap.__init__" 0 [] .none .none .none .none none .none .none 0), #[]⟩
noncomputable def o37 (P : Params) : Obj := ⟨(.type "code"), none, (.fields #[(.str "__init__" 251), (.str "NoLeap.__init__" 252), (.str "/claim/cut.py" 253), (.int 10 0), (.int 2 0), (.int 0 0), (.int 0 0), (.int 3 0), (.ref 59), (.bool true), (.int 181 0), (.ref 60), .none, (.ref 61), (.ref 62), (.ref 63), (.int 256 0), (.int 10 0), (.str "/claim/cut.py" 257)]), #[]⟩
noncomputable def o38 (P : Params) : Obj := ⟨(.type "function"), none, (fX (sc 4 0) "NoLeap.__init__" 3 [] .none .none .none (.str "pegleap.errors" 187) none (.ref 64) .none 0), #[]⟩
noncomputable def o39 (P : Params) : Obj := ⟨(.type "tuple"), none, (.seq #[(.str "at" 259)] 0), #[]⟩
noncomputable def o40 (P : Params) : Obj := ⟨(.type "dict"), none, (.dict #[en P "__module__" 246 (.str "pegleap.errors" 187), en P "__firstlineno__" 250 (.int 8 249), en P "__init__" 258 (.ref 65), en P "__static_attributes__" 260 (.ref 66), en P "__doc__" 261 .none] 2), #[]⟩
noncomputable def o41 (P : Params) : Obj := ⟨(.type "type"), none, (.cls ⟨"NoLeap", [(.ref 24)], [(.ref 68), (.ref 24), (.type "ValueError"), (.type "Exception"), (.type "BaseException"), (.type "object")], 67, "NoLeap", true, [], [], false, none, false⟩), #[(some (.ref 52)), none, (some (.str "NoLeap" 239)), (some (.str "NoLeap" 247)), (some (.builtin "ValueError.__new__")), (some (.bool true))]⟩
noncomputable def o42 (P : Params) : Obj := ⟨(.type "super"), none, (.fields #[(.ref 68), (.ref 68), (.ref 68)]), #[]⟩
noncomputable def o43 (P : Params) : Obj := ⟨(.type "builtin_function_or_method"), none, (.fields #[(.builtin "object.__init_subclass__"), (.ref 68)]), #[]⟩
noncomputable def T1 (P : Params) : BT := (.node (PySem.W.boot_o_0 P) (.node (PySem.W.boot_o_1 P) (.node (o4 P) (.node (PySem.W.boot_o_7 P) (.node (o6 P) (.node (o0 P) (.node (o36 P) .nil .nil) .nil) (.node (o0 P) .nil .nil)) (.node (o11 P) (.node (o23 P) .nil .nil) (.node (o0 P) .nil .nil))) (.node (o0 P) (.node (o1 P) (.node (o0 P) (.node (o40 P) .nil .nil) .nil) (.node (o30 P) .nil .nil)) (.node (o15 P) (.node (o0 P) .nil .nil) (.node (o0 P) .nil .nil)))) (.node (PySem.W.boot_o_5 P) (.node (PySem.W.boot_o_9 P) (.node (o8 P) (.node (o18 P) (.node (o38 P) .nil .nil) .nil) (.node (o28 P) .nil .nil)) (.node (o13 P) (.node (o7 P) .nil .nil) (.node (o33 P) .nil .nil))) (.node (o2 P) (.node (o10 P) (.node (o21 P) (.node (o42 P) .nil .nil) .nil) (.node (o7 P) .nil .nil)) (.node (o7 P) (.node (o25 P) .nil .nil) (.node (o35 P) .nil .nil))))) (.node (PySem.W.boot_o_2 P) (.node (PySem.W.boot_o_4 P) (.node (PySem.W.boot_o_8 P) (.node (o7 P) (.node (o1 P) (.node (o37 P) .nil .nil) .nil) (.node (o27 P) .nil .nil)) (.node (o12 P) (.node (o16 P) .nil .nil) (.node (o32 P) .nil .nil))) (.node (o5 P) (.node (o9 P) (.node (o20 P) (.node (o41 P) .nil .nil) .nil) (.node (o16 P) .nil .nil)) (.node (o16 P) (.node (o1 P) .nil .nil) (.node (o1 P) .nil .nil)))) (.node (PySem.W.boot_o_6 P) (.node (PySem.W.boot_o_10 P) (.node (o0 P) (.node (o19 P) (.node (o39 P) .nil .nil) .nil) (.node (o29 P) .nil .nil)) (.node (o14 P) (.node (o24 P) .nil .nil) (.node (o34 P) .nil .nil))) (.node (o3 P) (.node (o0 P) (.node (o22 P) (.node (o43 P) .nil .nil) .nil) (.node (o31 P) .nil .nil)) (.node (o17 P) (.node (o26 P) .nil .nil) (.node (o0 P) .nil .nil))))))
noncomputable def S1 (w : World) (os : OsState) : SharedT := ⟨T1 w.params, 71, lf0, #[], ⟨0, 0, 0, 0⟩, 264, os⟩
noncomputable def o44 (P : Params) : Obj := ⟨(.type "dict"), none, (.dict #[en P "__name__" 165 (.str "pegleap.standings" 379), en P "__doc__" 166 .none, en P "__package__" 167 .none, en P "__loader__" 168 (.builtin "__main__.__loader__#opaque"), en P "__spec__" 169 .none, en P "__annotations__" 170 (.ref 6), en P "__builtins__" 171 (.ref 4), en P "__file__" 173 (.str "/claim/cut.py" 172), en P "__cached__" 174 .none, en P "PegError" 206 (.ref 24), en P "BadBoard" 222 (.ref 37), en P "BadPegs" 238 (.ref 49), en P "NoLeap" 263 (.ref 68), en P "BadWeights" 279 (.ref 80), en P "LAST" 283 (.int 7 282), en P "MOST_CELLS" 285 (.int 24 284), en P "is_rising" 292 (.ref 89), en P "is_cell" 299 (.ref 96), en P "check_cells" 307 (.ref 103), en P "Board" 336 (.ref 120), en P "check_pegs" 345 (.ref 131), en P "two_apart" 354 (.ref 138), en P "between" 362 (.ref 145), en P "leaps" 372 (.ref 152), en P "turned" 378 (.ref 157), en P "COLOURS" 382 (.int 3 381), en P "can_be_done" 390 (.ref 164), en P "pegs_behind" 396 (.ref 169), en P "open_leaps" 402 (.ref 174), en P "walked" 415 (.ref 181), en P "leapt" 424 (.ref 188), en P "odd_on" 430 (.ref 193)] 32), #[]⟩
noncomputable def o45 (P : Params) : Obj := ⟨.none, none, (.fields #[(.int 2 0), (.int 0 0), (.ref 20), (.int 4 0), (.int 0 0), (.ref 33), (.int 6 0), (.int 0 0), (.ref 45), (.int 8 0), (.int 0 0), (.ref 57), (.int 13 0), (.int 0 0), (.ref 76), (.int 18 0), (.int 0 0), (.ref 88), (.int 20 0), (.int 0 0), (.ref 95), (.int 22 0), (.int 0 0), (.ref 102), (.int 30 0), (.int 0 0), (.ref 109), (.int 35 0), (.int 0 0), (.ref 130), (.int 41 0), (.int 0 0), (.ref 137), (.int 45 0), (.int 0 0), (.ref 144), (.int 47 0), (.int 0 0), (.ref 151), (.int 54 0), (.int 0 0), (.ref 156), (.int 59 0), (.int 0 0), (.ref 163), (.int 61 0), (.int 0 0), (.ref 168), (.int 64 0), (.int 0 0), (.ref 173), (.int 67 0), (.int 0 0), (.ref 180), (.int 76 0), (.int 0 0), (.ref 187), (.int 78 0), (.int 0 0), (.ref 192)]), #[]⟩
noncomputable def o46 (P : Params) : Obj := ⟨(.type "type"), none, (.cls ⟨"PegError", [(.type "ValueError")], [(.ref 24), (.type "ValueError"), (.type "Exception"), (.type "BaseException"), (.type "object")], 23, "PegError", true, [], [(.ref 37), (.ref 49), (.ref 68), (.ref 80)], false, none, false⟩), #[(some (.ref 15)), none, (some (.str "PegError" 189)), (some (.str "PegError" 197)), (some (.builtin "ValueError.__new__")), (some (.bool true))]⟩
noncomputable def o47 (P : Params) : Obj := ⟨(.type "dict"), none, (.dict #[en P "__module__" 271 (.str "pegleap.errors" 187), en P "__qualname__" 273 (.str "BadWeights" 272), en P "__firstlineno__" 275 (.int 13 274), en P "__static_attributes__" 276 (.ref 78)] 4), #[]⟩
noncomputable def o48 (P : Params) : Obj := ⟨(.type "code"), none, (.fields #[(.str "BadWeights" 266), (.str "BadWeights" 267), (.str "/claim/cut.py" 268), (.int 13 0), (.int 0 0), (.int 0 0), (.int 0 0), (.int 0 0), (.ref 74), (.bool false), (.int 181 0), (.ref 75), .none, .none, .none, .none, (.int 269 0), (.int 13 0), (.str "/claim/cut.py" 270)]), #[]⟩
noncomputable def o49 (P : Params) : Obj := ⟨(.type "frame"), none, .plain, #[(some (.ref 76)), (some (.ref 3)), (some (.ref 73)), none, (some (.str "pegleap.errors" 187)), none, (some (.ref 0))]⟩
noncomputable def o50 (P : Params) : Obj := ⟨(.type "dict"), none, (.dict #[en P "__module__" 271 (.str "pegleap.errors" 187), en P "__firstlineno__" 275 (.int 13 274), en P "__static_attributes__" 276 (.ref 78), en P "__doc__" 277 .none] 2), #[]⟩
noncomputable def o51 (P : Params) : Obj := ⟨(.type "type"), none, (.cls ⟨"BadWeights", [(.ref 24)], [(.ref 80), (.ref 24), (.type "ValueError"), (.type "Exception"), (.type "BaseException"), (.type "object")], 79, "BadWeights", true, [], [], false, none, false⟩), #[(some (.ref 71)), none, (some (.str "BadWeights" 264)), (some (.str "BadWeights" 272)), (some (.builtin "ValueError.__new__")), (some (.bool true))]⟩
noncomputable def o52 (P : Params) : Obj := ⟨(.type "super"), none, (.fields #[(.ref 80), (.ref 80), (.ref 80)]), #[]⟩
noncomputable def o53 (P : Params) : Obj := ⟨(.type "builtin_function_or_method"), none, (.fields #[(.builtin "object.__init_subclass__"), (.ref 80)]), #[]⟩
noncomputable def o54 (P : Params) : Obj := ⟨(.type "tuple"), none, (.seq #[(.str "cells" 289)] 0), #[]⟩
noncomputable def o55 (P : Params) : Obj := ⟨.none, none, (fX (st 9) (fN (st 9)) 0 [] .none .none .none .none none .none .none 0), #[]⟩
noncomputable def o56 (P : Params) : Obj := ⟨(.type "code"), none, (.fields #[(.str "is_rising" 286), (.str "is_rising" 287), (.str "/claim/cut.py" 288), (.int 18 0), (.int 1 0), (.int 0 0), (.int 0 0), (.int 3 0), (.ref 83), (.bool true), (.int 181 0), (.ref 84), .none, (.ref 85), (.ref 86), (.ref 87), (.int 290 0), (.int 18 0), (.str "/claim/cut.py" 291)]), #[]⟩
noncomputable def o57 (P : Params) : Obj := ⟨(.type "function"), none, (fX (st 9) (fN (st 9)) 3 [] .none .none .none (.str "pegleap.boards" 280) none (.ref 88) .none 0), #[]⟩
noncomputable def o58 (P : Params) : Obj := ⟨(.type "tuple"), none, (.seq #[(.str "cell" 296)] 0), #[]⟩
noncomputable def o59 (P : Params) : Obj := ⟨.none, none, (fX (st 10) (fN (st 10)) 0 [] .none .none .none .none none .none .none 0), #[]⟩
noncomputable def o60 (P : Params) : Obj := ⟨(.type "code"), none, (.fields #[(.str "is_cell" 293), (.str "is_cell" 294), (.str "/claim/cut.py" 295), (.int 20 0), (.int 1 0), (.int 0 0), (.int 0 0), (.int 3 0), (.ref 90), (.bool true), (.int 181 0), (.ref 91), .none, (.ref 92), (.ref 93), (.ref 94), (.int 297 0), (.int 20 0), (.str "/claim/cut.py" 298)]), #[]⟩
noncomputable def o61 (P : Params) : Obj := ⟨(.type "function"), none, (fX (st 10) (fN (st 10)) 3 [] .none .none .none (.str "pegleap.boards" 280) none (.ref 95) .none 0), #[]⟩
noncomputable def o62 (P : Params) : Obj := ⟨(.type "tuple"), none, (.seq #[(.str "cells" 303), (.str "cell" 304)] 0), #[]⟩
noncomputable def o63 (P : Params) : Obj := ⟨.none, none, (fX (st 11) (fN (st 11)) 0 [] .none .none .none .none none .none .none 0), #[]⟩
noncomputable def o64 (P : Params) : Obj := ⟨(.type "code"), none, (.fields #[(.str "check_cells" 300), (.str "check_cells" 301), (.str "/claim/cut.py" 302), (.int 22 0), (.int 1 0), (.int 0 0), (.int 0 0), (.int 3 0), (.ref 97), (.bool true), (.int 181 0), (.ref 98), .none, (.ref 99), (.ref 100), (.ref 101), (.int 305 0), (.int 22 0), (.str "/claim/cut.py" 306)]), #[]⟩
noncomputable def o65 (P : Params) : Obj := ⟨(.type "function"), none, (fX (st 11) (fN (st 11)) 3 [] .none .none .none (.str "pegleap.boards" 280) none (.ref 102) .none 0), #[]⟩
noncomputable def o66 (P : Params) : Obj := ⟨(.type "dict"), none, (.dict #[en P "__module__" 315 (.str "pegleap.boards" 280), en P "__qualname__" 317 (.str "Board" 316), en P "__firstlineno__" 319 (.int 30 318), en P "__init__" 327 (.ref 117), en P "__static_attributes__" 329 (.ref 118)] 5), #[]⟩
noncomputable def o67 (P : Params) : Obj := ⟨.none, none, (.fields #[(.int 32 0), (.int 4 0), (.ref 116)]), #[]⟩
noncomputable def o68 (P : Params) : Obj := ⟨(.type "code"), none, (.fields #[(.str "Board" 310), (.str "Board" 311), (.str "/claim/cut.py" 312), (.int 30 0), (.int 0 0), (.int 0 0), (.int 0 0), (.int 0 0), (.ref 107), (.bool false), (.int 181 0), (.ref 108), .none, .none, .none, .none, (.int 313 0), (.int 30 0), (.str "/claim/cut.py" 314)]), #[]⟩
noncomputable def o69 (P : Params) : Obj := ⟨(.type "frame"), none, .plain, #[(some (.ref 109)), (some (.ref 3)), (some (.ref 106)), none, (some (.str "pegleap.boards" 280)), none, (some (.ref 0))]⟩
noncomputable def o70 (P : Params) : Obj := ⟨(.type "tuple"), none, (.seq #[(.str "self" 323), (.str "cells" 324)] 0), #[]⟩
noncomputable def o71 (P : Params) : Obj := ⟨.none, none, (fX (sc 12 0) "Board.__init__" 0 [] .none .none .none .none none .none .none 0), #[]⟩
noncomputable def o72 (P : Params) : Obj := ⟨(.type "code"), none, (.fields #[(.str "__init__" 320), (.str "Board.__init__" 321), (.str "/claim/cut.py" 322), (.int 32 0), (.int 2 0), (.int 0 0), (.int 0 0), (.int 3 0), (.ref 111), (.bool true), (.int 181 0), (.ref 112), .none, (.ref 113), (.ref 114), (.ref 115), (.int 325 0), (.int 32 0), (.str "/claim/cut.py" 326)]), #[]⟩
noncomputable def o73 (P : Params) : Obj := ⟨(.type "function"), none, (fX (sc 12 0) "Board.__init__" 3 [] .none .none .none (.str "pegleap.boards" 280) none (.ref 116) .none 0), #[]⟩
noncomputable def o74 (P : Params) : Obj := ⟨(.type "tuple"), none, (.seq #[(.str "cells" 328)] 0), #[]⟩
noncomputable def o75 (P : Params) : Obj := ⟨(.type "dict"), none, (.dict #[en P "__module__" 315 (.str "pegleap.boards" 280), en P "__firstlineno__" 319 (.int 30 318), en P "__init__" 327 (.ref 117), en P "__static_attributes__" 329 (.ref 118), en P "__dict__" 331 (.ref 121), en P "__weakref__" 333 (.ref 122), en P "__doc__" 334 .none] 4), #[]⟩
noncomputable def o76 (P : Params) : Obj := ⟨(.type "type"), none, (.cls ⟨"Board", [(.type "object")], [(.ref 120), (.type "object")], 119, "Board", true, [], [], false, none, false⟩), #[none, none, (some (.str "Board" 308)), (some (.str "Board" 316)), (some (.builtin "object.__new__")), (some (.bool true))]⟩
noncomputable def o77 (P : Params) : Obj := ⟨(.type "getset_descriptor"), none, (.fields #[(.str "__dict__" 330), (.ref 120), (.builtin "function.__dict__"), (.builtin "function.__dict__#set")]), #[]⟩
noncomputable def o78 (P : Params) : Obj := ⟨(.type "getset_descriptor"), none, (.fields #[(.str "__weakref__" 332), (.ref 120), (.builtin "ExceptionGroup.__weakref__"), .none]), #[]⟩
noncomputable def o79 (P : Params) : Obj := ⟨(.type "super"), none, (.fields #[(.ref 120), (.ref 120), (.ref 120)]), #[]⟩
noncomputable def o80 (P : Params) : Obj := ⟨(.type "builtin_function_or_method"), none, (.fields #[(.builtin "object.__init_subclass__"), (.ref 120)]), #[]⟩
noncomputable def o81 (P : Params) : Obj := ⟨(.type "tuple"), none, (.seq #[(.str "board" 340), (.str "pegs" 341), (.str "cell" 342)] 0), #[]⟩
noncomputable def o82 (P : Params) : Obj := ⟨.none, none, (fX (st 13) (fN (st 13)) 0 [] .none .none .none .none none .none .none 0), #[]⟩
noncomputable def o83 (P : Params) : Obj := ⟨(.type "code"), none, (.fields #[(.str "check_pegs" 337), (.str "check_pegs" 338), (.str "/claim/cut.py" 339), (.int 35 0), (.int 2 0), (.int 0 0), (.int 0 0), (.int 3 0), (.ref 125), (.bool true), (.int 181 0), (.ref 126), .none, (.ref 127), (.ref 128), (.ref 129), (.int 343 0), (.int 35 0), (.str "/claim/cut.py" 344)]), #[]⟩
noncomputable def o84 (P : Params) : Obj := ⟨(.type "function"), none, (fX (st 13) (fN (st 13)) 3 [] .none .none .none (.str "pegleap.boards" 280) none (.ref 130) .none 0), #[]⟩
noncomputable def o85 (P : Params) : Obj := ⟨(.type "tuple"), none, (.seq #[(.str "cell" 349), (.str "row" 350), (.str "column" 351)] 0), #[]⟩
noncomputable def o86 (P : Params) : Obj := ⟨.none, none, (fX (st 14) (fN (st 14)) 0 [] .none .none .none .none none .none .none 0), #[]⟩
noncomputable def o87 (P : Params) : Obj := ⟨(.type "code"), none, (.fields #[(.str "two_apart" 346), (.str "two_apart" 347), (.str "/claim/cut.py" 348), (.int 41 0), (.int 1 0), (.int 0 0), (.int 0 0), (.int 3 0), (.ref 132), (.bool true), (.int 181 0), (.ref 133), .none, (.ref 134), (.ref 135), (.ref 136), (.int 352 0), (.int 41 0), (.str "/claim/cut.py" 353)]), #[]⟩
noncomputable def o88 (P : Params) : Obj := ⟨(.type "function"), none, (fX (st 14) (fN (st 14)) 3 [] .none .none .none (.str "pegleap.boards" 280) none (.ref 137) .none 0), #[]⟩
noncomputable def o89 (P : Params) : Obj := ⟨(.type "tuple"), none, (.seq #[(.str "cell" 358), (.str "other" 359)] 0), #[]⟩
noncomputable def o90 (P : Params) : Obj := ⟨.none, none, (fX (st 15) (fN (st 15)) 0 [] .none .none .none .none none .none .none 0), #[]⟩
noncomputable def o91 (P : Params) : Obj := ⟨(.type "code"), none, (.fields #[(.str "between" 355), (.str "between" 356), (.str "/claim/cut.py" 357), (.int 45 0), (.int 2 0), (.int 0 0), (.int 0 0), (.int 3 0), (.ref 139), (.bool true), (.int 181 0), (.ref 140), .none, (.ref 141), (.ref 142), (.ref 143), (.int 360 0), (.int 45 0), (.str "/claim/cut.py" 361)]), #[]⟩
noncomputable def o92 (P : Params) : Obj := ⟨(.type "function"), none, (fX (st 15) (fN (st 15)) 3 [] .none .none .none (.str "pegleap.boards" 280) none (.ref 144) .none 0), #[]⟩
noncomputable def o93 (P : Params) : Obj := ⟨(.type "tuple"), none, (.seq #[(.str "board" 366), (.str "found" 367), (.str "first" 368), (.str "second" 369)] 0), #[]⟩
noncomputable def o94 (P : Params) : Obj := ⟨.none, none, (fX (st 16) (fN (st 16)) 0 [] .none .none .none .none none .none .none 0), #[]⟩
noncomputable def o95 (P : Params) : Obj := ⟨(.type "code"), none, (.fields #[(.str "leaps" 363), (.str "leaps" 364), (.str "/claim/cut.py" 365), (.int 47 0), (.int 1 0), (.int 0 0), (.int 0 0), (.int 3 0), (.ref 146), (.bool true), (.int 181 0), (.ref 147), .none, (.ref 148), (.ref 149), (.ref 150), (.int 370 0), (.int 47 0), (.str "/claim/cut.py" 371)]), #[]⟩
noncomputable def o96 (P : Params) : Obj := ⟨(.type "function"), none, (fX (st 16) (fN (st 16)) 3 [] .none .none .none (.str "pegleap.boards" 280) none (.ref 151) .none 0), #[]⟩
noncomputable def o97 (P : Params) : Obj := ⟨.none, none, (fX (st 17) (fN (st 17)) 0 [] .none .none .none .none none .none .none 0), #[]⟩
noncomputable def o98 (P : Params) : Obj := ⟨(.type "code"), none, (.fields #[(.str "turned" 373), (.str "turned" 374), (.str "/claim/cut.py" 375), (.int 54 0), (.int 2 0), (.int 0 0), (.int 0 0), (.int 3 0), (.ref 153), (.bool true), (.int 181 0), (.ref 154), .none, .none, .none, (.ref 155), (.int 376 0), (.int 54 0), (.str "/claim/cut.py" 377)]), #[]⟩
noncomputable def o99 (P : Params) : Obj := ⟨(.type "function"), none, (fX (st 17) (fN (st 17)) 3 [] .none .none .none (.str "pegleap.boards" 280) none (.ref 156) .none 0), #[]⟩
noncomputable def o100 (P : Params) : Obj := ⟨(.type "tuple"), none, (.seq #[(.str "pegs" 386), (.str "leap" 387)] 0), #[]⟩
noncomputable def o101 (P : Params) : Obj := ⟨.none, none, (fX (st 20) (fN (st 20)) 0 [] .none .none .none .none none .none .none 0), #[]⟩
noncomputable def o102 (P : Params) : Obj := ⟨(.type "code"), none, (.fields #[(.str "can_be_done" 383), (.str "can_be_done" 384), (.str "/claim/cut.py" 385), (.int 59 0), (.int 2 0), (.int 0 0), (.int 0 0), (.int 3 0), (.ref 158), (.bool true), (.int 181 0), (.ref 159), .none, (.ref 160), (.ref 161), (.ref 162), (.int 388 0), (.int 59 0), (.str "/claim/cut.py" 389)]), #[]⟩
noncomputable def o103 (P : Params) : Obj := ⟨(.type "function"), none, (fX (st 20) (fN (st 20)) 3 [] .none .none .none (.str "pegleap.standings" 379) none (.ref 163) .none 0), #[]⟩
noncomputable def o104 (P : Params) : Obj := ⟨.none, none, (fX (st 21) (fN (st 21)) 0 [] .none .none .none .none none .none .none 0), #[]⟩
noncomputable def o105 (P : Params) : Obj := ⟨(.type "code"), none, (.fields #[(.str "pegs_behind" 391), (.str "pegs_behind" 392), (.str "/claim/cut.py" 393), (.int 61 0), (.int 2 0), (.int 0 0), (.int 0 0), (.int 3 0), (.ref 165), (.bool true), (.int 181 0), (.ref 166), .none, .none, .none, (.ref 167), (.int 394 0), (.int 61 0), (.str "/claim/cut.py" 395)]), #[]⟩
noncomputable def o106 (P : Params) : Obj := ⟨(.type "function"), none, (fX (st 21) (fN (st 21)) 3 [] .none .none .none (.str "pegleap.standings" 379) none (.ref 168) .none 0), #[]⟩
noncomputable def o107 (P : Params) : Obj := ⟨.none, none, (fX (st 22) (fN (st 22)) 0 [] .none .none .none .none none .none .none 0), #[]⟩
noncomputable def o108 (P : Params) : Obj := ⟨(.type "code"), none, (.fields #[(.str "open_leaps" 397), (.str "open_leaps" 398), (.str "/claim/cut.py" 399), (.int 64 0), (.int 2 0), (.int 0 0), (.int 0 0), (.int 3 0), (.ref 170), (.bool true), (.int 181 0), (.ref 171), .none, .none, .none, (.ref 172), (.int 400 0), (.int 64 0), (.str "/claim/cut.py" 401)]), #[]⟩
noncomputable def o109 (P : Params) : Obj := ⟨(.type "function"), none, (fX (st 22) (fN (st 22)) 3 [] .none .none .none (.str "pegleap.standings" 379) none (.ref 173) .none 0), #[]⟩
noncomputable def o110 (P : Params) : Obj := ⟨(.type "tuple"), none, (.seq #[(.str "board" 406), (.str "pegs" 407), (.str "row" 408), (.str "standing" 409), (.str "all_leaps" 410), (.str "at" 411), (.str "leap" 412)] 0), #[]⟩
noncomputable def o111 (P : Params) : Obj := ⟨.none, none, (fX (st 23) (fN (st 23)) 0 [] .none .none .none .none none .none .none 0), #[]⟩
noncomputable def o112 (P : Params) : Obj := ⟨(.type "code"), none, (.fields #[(.str "walked" 403), (.str "walked" 404), (.str "/claim/cut.py" 405), (.int 67 0), (.int 3 0), (.int 0 0), (.int 0 0), (.int 3 0), (.ref 175), (.bool true), (.int 181 0), (.ref 176), .none, (.ref 177), (.ref 178), (.ref 179), (.int 413 0), (.int 67 0), (.str "/claim/cut.py" 414)]), #[]⟩
noncomputable def o113 (P : Params) : Obj := ⟨(.type "function"), none, (fX (st 23) (fN (st 23)) 3 [] .none .none .none (.str "pegleap.standings" 379) none (.ref 180) .none 0), #[]⟩
noncomputable def o114 (P : Params) : Obj := ⟨(.type "tuple"), none, (.seq #[(.str "board" 419), (.str "pegs" 420), (.str "leap" 421)] 0), #[]⟩
noncomputable def o115 (P : Params) : Obj := ⟨.none, none, (fX (st 24) (fN (st 24)) 0 [] .none .none .none .none none .none .none 0), #[]⟩
noncomputable def o116 (P : Params) : Obj := ⟨(.type "code"), none, (.fields #[(.str "leapt" 416), (.str "leapt" 417), (.str "/claim/cut.py" 418), (.int 76 0), (.int 3 0), (.int 0 0), (.int 0 0), (.int 3 0), (.ref 182), (.bool true), (.int 181 0), (.ref 183), .none, (.ref 184), (.ref 185), (.ref 186), (.int 422 0), (.int 76 0), (.str "/claim/cut.py" 423)]), #[]⟩
noncomputable def o117 (P : Params) : Obj := ⟨(.type "function"), none, (fX (st 24) (fN (st 24)) 3 [] .none .none .none (.str "pegleap.standings" 379) none (.ref 187) .none 0), #[]⟩
noncomputable def o118 (P : Params) : Obj := ⟨.none, none, (fX (st 25) (fN (st 25)) 0 [] .none .none .none .none none .none .none 0), #[]⟩
noncomputable def o119 (P : Params) : Obj := ⟨(.type "code"), none, (.fields #[(.str "odd_on" 425), (.str "odd_on" 426), (.str "/claim/cut.py" 427), (.int 78 0), (.int 2 0), (.int 0 0), (.int 0 0), (.int 3 0), (.ref 189), (.bool true), (.int 181 0), (.ref 190), .none, .none, .none, (.ref 191), (.int 428 0), (.int 78 0), (.str "/claim/cut.py" 429)]), #[]⟩
noncomputable def o120 (P : Params) : Obj := ⟨(.type "function"), none, (fX (st 25) (fN (st 25)) 3 [] .none .none .none (.str "pegleap.standings" 379) none (.ref 192) .none 0), #[]⟩
noncomputable def T2 (P : Params) : BT := (.node (PySem.W.boot_o_0 P) (.node (PySem.W.boot_o_1 P) (.node (o44 P) (.node (PySem.W.boot_o_7 P) (.node (o6 P) (.node (o0 P) (.node (o36 P) (.node (o81 P) .nil .nil) (.node (o118 P) .nil .nil)) (.node (o60 P) (.node (o1 P) .nil .nil) .nil)) (.node (o0 P) (.node (o50 P) (.node (o90 P) .nil .nil) .nil) (.node (o0 P) (.node (o0 P) .nil .nil) .nil))) (.node (o11 P) (.node (o23 P) (.node (o16 P) (.node (o0 P) .nil .nil) .nil) (.node (o65 P) (.node (o104 P) .nil .nil) .nil)) (.node (o0 P) (.node (o55 P) (.node (o95 P) .nil .nil) .nil) (.node (o75 P) (.node (o1 P) .nil .nil) .nil)))) (.node (o0 P) (.node (o1 P) (.node (o0 P) (.node (o40 P) (.node (o84 P) .nil .nil) .nil) (.node (o62 P) (.node (o102 P) .nil .nil) .nil)) (.node (o30 P) (.node (o0 P) (.node (o1 P) .nil .nil) .nil) (.node (o71 P) (.node (o111 P) .nil .nil) .nil))) (.node (o15 P) (.node (o0 P) (.node (o1 P) (.node (o0 P) .nil .nil) .nil) (.node (o0 P) (.node (o1 P) .nil .nil) .nil)) (.node (o0 P) (.node (o1 P) (.node (o97 P) .nil .nil) .nil) (.node (o79 P) (.node (o116 P) .nil .nil) .nil))))) (.node (PySem.W.boot_o_5 P) (.node (PySem.W.boot_o_9 P) (.node (o8 P) (.node (o18 P) (.node (o38 P) (.node (o82 P) .nil .nil) (.node (o120 P) .nil .nil)) (.node (o0 P) (.node (o0 P) .nil .nil) .nil)) (.node (o28 P) (.node (o52 P) (.node (o92 P) .nil .nil) .nil) (.node (o70 P) (.node (o110 P) .nil .nil) .nil))) (.node (o13 P) (.node (o7 P) (.node (o47 P) (.node (o87 P) .nil .nil) .nil) (.node (o7 P) (.node (o106 P) .nil .nil) .nil)) (.node (o33 P) (.node (o57 P) (.node (o0 P) .nil .nil) .nil) (.node (o77 P) (.node (o0 P) .nil .nil) .nil)))) (.node (o2 P) (.node (o10 P) (.node (o21 P) (.node (o42 P) (.node (o1 P) .nil .nil) .nil) (.node (o63 P) (.node (o0 P) .nil .nil) .nil)) (.node (o7 P) (.node (o54 P) (.node (o0 P) .nil .nil) .nil) (.node (o73 P) (.node (o113 P) .nil .nil) .nil))) (.node (o7 P) (.node (o25 P) (.node (o49 P) (.node (o89 P) .nil .nil) .nil) (.node (o68 P) (.node (o108 P) .nil .nil) .nil)) (.node (o35 P) (.node (o0 P) (.node (o99 P) .nil .nil) .nil) (.node (o0 P) (.node (o0 P) .nil .nil) .nil)))))) (.node (PySem.W.boot_o_2 P) (.node (PySem.W.boot_o_4 P) (.node (PySem.W.boot_o_8 P) (.node (o7 P) (.node (o1 P) (.node (o37 P) (.node (o0 P) .nil .nil) (.node (o119 P) .nil .nil)) (.node (o61 P) (.node (o100 P) .nil .nil) .nil)) (.node (o27 P) (.node (o51 P) (.node (o91 P) .nil .nil) .nil) (.node (o1 P) (.node (o1 P) .nil .nil) .nil))) (.node (o46 P) (.node (o16 P) (.node (o7 P) (.node (o86 P) .nil .nil) .nil) (.node (o0 P) (.node (o105 P) .nil .nil) .nil)) (.node (o32 P) (.node (o56 P) (.node (o96 P) .nil .nil) .nil) (.node (o76 P) (.node (o114 P) .nil .nil) .nil)))) (.node (o45 P) (.node (o9 P) (.node (o20 P) (.node (o41 P) (.node (o0 P) .nil .nil) .nil) (.node (o0 P) (.node (o103 P) .nil .nil) .nil)) (.node (o16 P) (.node (o1 P) (.node (o93 P) .nil .nil) .nil) (.node (o72 P) (.node (o112 P) .nil .nil) .nil))) (.node (o16 P) (.node (o1 P) (.node (o48 P) (.node (o1 P) .nil .nil) .nil) (.node (o67 P) (.node (o107 P) .nil .nil) .nil)) (.node (o1 P) (.node (o58 P) (.node (o98 P) .nil .nil) .nil) (.node (o80 P) (.node (o117 P) .nil .nil) .nil))))) (.node (PySem.W.boot_o_6 P) (.node (PySem.W.boot_o_10 P) (.node (o0 P) (.node (o19 P) (.node (o39 P) (.node (o83 P) .nil .nil) .nil) (.node (o1 P) (.node (o101 P) .nil .nil) .nil)) (.node (o29 P) (.node (o53 P) (.node (o0 P) .nil .nil) .nil) (.node (o0 P) (.node (o0 P) .nil .nil) .nil))) (.node (o14 P) (.node (o24 P) (.node (o0 P) (.node (o88 P) .nil .nil) .nil) (.node (o66 P) (.node (o0 P) .nil .nil) .nil)) (.node (o34 P) (.node (o0 P) (.node (o1 P) .nil .nil) .nil) (.node (o78 P) (.node (o115 P) .nil .nil) .nil)))) (.node (o3 P) (.node (o0 P) (.node (o22 P) (.node (o43 P) (.node (o85 P) .nil .nil) .nil) (.node (o64 P) (.node (o1 P) .nil .nil) .nil)) (.node (o31 P) (.node (o0 P) (.node (o94 P) .nil .nil) .nil) (.node (o74 P) (.node (o0 P) .nil .nil) .nil))) (.node (o17 P) (.node (o26 P) (.node (o0 P) (.node (o0 P) .nil .nil) .nil) (.node (o69 P) (.node (o109 P) .nil .nil) .nil)) (.node (o0 P) (.node (o59 P) (.node (o0 P) .nil .nil) .nil) (.node (o1 P) (.node (o1 P) .nil .nil) .nil)))))))
noncomputable def S2 (w : World) (os : OsState) : SharedT := ⟨T2 w.params, 194, lf0, #[], ⟨0, 0, 0, 0⟩, 431, os⟩
noncomputable def o121 (P : Params) : Obj := ⟨(.type "dict"), none, (.dict #[en P "__name__" 165 (.str "law_pegleap_k15_standings_refused" 604), en P "__doc__" 166 .none, en P "__package__" 167 .none, en P "__loader__" 168 (.builtin "__main__.__loader__#opaque"), en P "__spec__" 169 .none, en P "__annotations__" 170 (.ref 6), en P "__builtins__" 171 (.ref 4), en P "__file__" 173 (.str "/claim/cut.py" 172), en P "__cached__" 174 .none, en P "PegError" 206 (.ref 24), en P "BadBoard" 222 (.ref 37), en P "BadPegs" 238 (.ref 49), en P "NoLeap" 263 (.ref 68), en P "BadWeights" 279 (.ref 80), en P "LAST" 283 (.int 7 282), en P "MOST_CELLS" 285 (.int 24 284), en P "is_rising" 292 (.ref 89), en P "is_cell" 299 (.ref 96), en P "check_cells" 307 (.ref 103), en P "Board" 336 (.ref 120), en P "check_pegs" 345 (.ref 131), en P "two_apart" 354 (.ref 138), en P "between" 362 (.ref 145), en P "leaps" 372 (.ref 152), en P "turned" 378 (.ref 157), en P "COLOURS" 382 (.int 3 381), en P "can_be_done" 390 (.ref 164), en P "pegs_behind" 396 (.ref 169), en P "open_leaps" 402 (.ref 174), en P "walked" 415 (.ref 181), en P "leapt" 424 (.ref 188), en P "odd_on" 430 (.ref 193), en P "class_of" 436 (.ref 198), en P "LEAST" 441 (.int (-1000) 440), en P "MOST" 443 (.int 1000 442), en P "check_weights" 452 (.ref 205), en P "fair" 462 (.ref 212), en P "weight" 468 (.ref 217), en P "steps_from" 476 (.ref 222), en P "next_rows" 489 (.ref 229), en P "next_counts" 502 (.ref 236), en P "first_rows" 513 (.ref 243), en P "in_order" 519 (.ref 248), en P "reached" 527 (.ref 255), en P "answer" 537 (.ref 262), en P "holds" 547 (.ref 269), en P "weights_hold" 558 (.ref 276), en P "closed_holds" 568 (.ref 283), en P "all_standings" 577 (.ref 290), en P "is_closed" 591 (.ref 297), en P "row_count" 603 (.ref 304), en P "_law_cell_at" 613 (.ref 311), en P "_law_mix" 624 (.ref 318), en P "_law_cells_by" 639 (.ref 325), en P "_law_pegs_by" 645 (.ref 330), en P "_law_hurt" 656 (.ref 337), en P "_law_first" 666 (.ref 344), en P "_law_second" 676 (.ref 351), en P "_law_met" 687 (.ref 358), en P "law" 700 (.ref 365)] 60), #[]⟩
noncomputable def o122 (P : Params) : Obj := ⟨.none, none, (.fields #[(.int 2 0), (.int 0 0), (.ref 20), (.int 4 0), (.int 0 0), (.ref 33), (.int 6 0), (.int 0 0), (.ref 45), (.int 8 0), (.int 0 0), (.ref 57), (.int 13 0), (.int 0 0), (.ref 76), (.int 18 0), (.int 0 0), (.ref 88), (.int 20 0), (.int 0 0), (.ref 95), (.int 22 0), (.int 0 0), (.ref 102), (.int 30 0), (.int 0 0), (.ref 109), (.int 35 0), (.int 0 0), (.ref 130), (.int 41 0), (.int 0 0), (.ref 137), (.int 45 0), (.int 0 0), (.ref 144), (.int 47 0), (.int 0 0), (.ref 151), (.int 54 0), (.int 0 0), (.ref 156), (.int 59 0), (.int 0 0), (.ref 163), (.int 61 0), (.int 0 0), (.ref 168), (.int 64 0), (.int 0 0), (.ref 173), (.int 67 0), (.int 0 0), (.ref 180), (.int 76 0), (.int 0 0), (.ref 187), (.int 78 0), (.int 0 0), (.ref 192), (.int 80 0), (.int 0 0), (.ref 197), (.int 88 0), (.int 0 0), (.ref 204), (.int 94 0), (.int 0 0), (.ref 211), (.int 101 0), (.int 0 0), (.ref 216), (.int 107 0), (.int 0 0), (.ref 221), (.int 109 0), (.int 0 0), (.ref 228), (.int 116 0), (.int 0 0), (.ref 235), (.int 122 0), (.int 0 0), (.ref 242), (.int 130 0), (.int 0 0), (.ref 247), (.int 132 0), (.int 0 0), (.ref 254), (.int 135 0), (.int 0 0), (.ref 261), (.int 144 0), (.int 0 0), (.ref 268), (.int 152 0), (.int 0 0), (.ref 275), (.int 158 0), (.int 0 0), (.ref 282), (.int 162 0), (.int 0 0), (.ref 289), (.int 169 0), (.int 0 0), (.ref 296), (.int 179 0), (.int 0 0), (.ref 303), (.int 188 0), (.int 0 0), (.ref 310), (.int 192 0), (.int 0 0), (.ref 317), (.int 197 0), (.int 0 0), (.ref 324), (.int 210 0), (.int 0 0), (.ref 329), (.int 216 0), (.int 0 0), (.ref 336), (.int 226 0), (.int 0 0), (.ref 343), (.int 241 0), (.int 0 0), (.ref 350), (.int 256 0), (.int 0 0), (.ref 357), (.int 263 0), (.int 0 0), (.ref 364)]), #[]⟩
noncomputable def o123 (P : Params) : Obj := ⟨.none, none, (fX (st 26) (fN (st 26)) 0 [] .none .none .none .none none .none .none 0), #[]⟩
noncomputable def o124 (P : Params) : Obj := ⟨(.type "code"), none, (.fields #[(.str "class_of" 431), (.str "class_of" 432), (.str "/claim/cut.py" 433), (.int 80 0), (.int 2 0), (.int 0 0), (.int 0 0), (.int 3 0), (.ref 194), (.bool true), (.int 181 0), (.ref 195), .none, .none, .none, (.ref 196), (.int 434 0), (.int 80 0), (.str "/claim/cut.py" 435)]), #[]⟩
noncomputable def o125 (P : Params) : Obj := ⟨(.type "function"), none, (fX (st 26) (fN (st 26)) 3 [] .none .none .none (.str "pegleap.standings" 379) none (.ref 197) .none 0), #[]⟩
noncomputable def o126 (P : Params) : Obj := ⟨(.type "tuple"), none, (.seq #[(.str "board" 447), (.str "weights" 448), (.str "number" 449)] 0), #[]⟩
noncomputable def o127 (P : Params) : Obj := ⟨.none, none, (fX (st 30) (fN (st 30)) 0 [] .none .none .none .none none .none .none 0), #[]⟩
noncomputable def o128 (P : Params) : Obj := ⟨(.type "code"), none, (.fields #[(.str "check_weights" 444), (.str "check_weights" 445), (.str "/claim/cut.py" 446), (.int 88 0), (.int 2 0), (.int 0 0), (.int 0 0), (.int 3 0), (.ref 199), (.bool true), (.int 181 0), (.ref 200), .none, (.ref 201), (.ref 202), (.ref 203), (.int 450 0), (.int 88 0), (.str "/claim/cut.py" 451)]), #[]⟩
noncomputable def o129 (P : Params) : Obj := ⟨(.type "function"), none, (fX (st 30) (fN (st 30)) 3 [] .none .none .none (.str "pegleap.weights" 437) none (.ref 204) .none 0), #[]⟩
noncomputable def o130 (P : Params) : Obj := ⟨(.type "tuple"), none, (.seq #[(.str "board" 456), (.str "weights" 457), (.str "by_cell" 458), (.str "leap" 459)] 0), #[]⟩
noncomputable def o131 (P : Params) : Obj := ⟨.none, none, (fX (st 31) (fN (st 31)) 0 [] .none .none .none .none none .none .none 0), #[]⟩
noncomputable def o132 (P : Params) : Obj := ⟨(.type "code"), none, (.fields #[(.str "fair" 453), (.str "fair" 454), (.str "/claim/cut.py" 455), (.int 94 0), (.int 2 0), (.int 0 0), (.int 0 0), (.int 3 0), (.ref 206), (.bool true), (.int 181 0), (.ref 207), .none, (.ref 208), (.ref 209), (.ref 210), (.int 460 0), (.int 94 0), (.str "/claim/cut.py" 461)]), #[]⟩
noncomputable def o133 (P : Params) : Obj := ⟨(.type "function"), none, (fX (st 31) (fN (st 31)) 3 [] .none .none .none (.str "pegleap.weights" 437) none (.ref 211) .none 0), #[]⟩
noncomputable def o134 (P : Params) : Obj := ⟨.none, none, (fX (st 32) (fN (st 32)) 0 [] .none .none .none .none none .none .none 0), #[]⟩
noncomputable def o135 (P : Params) : Obj := ⟨(.type "code"), none, (.fields #[(.str "weight" 463), (.str "weight" 464), (.str "/claim/cut.py" 465), (.int 101 0), (.int 3 0), (.int 0 0), (.int 0 0), (.int 3 0), (.ref 213), (.bool true), (.int 181 0), (.ref 214), .none, .none, .none, (.ref 215), (.int 466 0), (.int 101 0), (.str "/claim/cut.py" 467)]), #[]⟩
noncomputable def o136 (P : Params) : Obj := ⟨(.type "function"), none, (fX (st 32) (fN (st 32)) 3 [] .none .none .none (.str "pegleap.weights" 437) none (.ref 216) .none 0), #[]⟩
noncomputable def o137 (P : Params) : Obj := ⟨.none, none, (fX (st 34) (fN (st 34)) 0 [] .none .none .none .none none .none .none 0), #[]⟩
noncomputable def o138 (P : Params) : Obj := ⟨(.type "code"), none, (.fields #[(.str "steps_from" 471), (.str "steps_from" 472), (.str "/claim/cut.py" 473), (.int 107 0), (.int 2 0), (.int 0 0), (.int 0 0), (.int 3 0), (.ref 218), (.bool true), (.int 181 0), (.ref 219), .none, .none, .none, (.ref 220), (.int 474 0), (.int 107 0), (.str "/claim/cut.py" 475)]), #[]⟩
noncomputable def o139 (P : Params) : Obj := ⟨(.type "function"), none, (fX (st 34) (fN (st 34)) 3 [] .none .none .none (.str "pegleap.search" 469) none (.ref 221) .none 0), #[]⟩
noncomputable def o140 (P : Params) : Obj := ⟨(.type "tuple"), none, (.seq #[(.str "all_leaps" 480), (.str "layer" 481), (.str "found" 482), (.str "standing" 483), (.str "row" 484), (.str "leap" 485), (.str "behind" 486)] 0), #[]⟩
noncomputable def o141 (P : Params) : Obj := ⟨.none, none, (fX (st 35) (fN (st 35)) 0 [] .none .none .none .none none .none .none 0), #[]⟩
noncomputable def o142 (P : Params) : Obj := ⟨(.type "code"), none, (.fields #[(.str "next_rows" 477), (.str "next_rows" 478), (.str "/claim/cut.py" 479), (.int 109 0), (.int 2 0), (.int 0 0), (.int 0 0), (.int 3 0), (.ref 223), (.bool true), (.int 181 0), (.ref 224), .none, (.ref 225), (.ref 226), (.ref 227), (.int 487 0), (.int 109 0), (.str "/claim/cut.py" 488)]), #[]⟩
noncomputable def o143 (P : Params) : Obj := ⟨(.type "function"), none, (fX (st 35) (fN (st 35)) 3 [] .none .none .none (.str "pegleap.search" 469) none (.ref 228) .none 0), #[]⟩
noncomputable def o144 (P : Params) : Obj := ⟨(.type "tuple"), none, (.seq #[(.str "all_leaps" 493), (.str "layer" 494), (.str "found" 495), (.str "standing" 496), (.str "count" 497), (.str "leap" 498), (.str "behind" 499)] 0), #[]⟩
noncomputable def o145 (P : Params) : Obj := ⟨.none, none, (fX (st 36) (fN (st 36)) 0 [] .none .none .none .none none .none .none 0), #[]⟩
noncomputable def o146 (P : Params) : Obj := ⟨(.type "code"), none, (.fields #[(.str "next_counts" 490), (.str "next_counts" 491), (.str "/claim/cut.py" 492), (.int 116 0), (.int 2 0), (.int 0 0), (.int 0 0), (.int 3 0), (.ref 230), (.bool true), (.int 181 0), (.ref 231), .none, (.ref 232), (.ref 233), (.ref 234), (.int 500 0), (.int 116 0), (.str "/claim/cut.py" 501)]), #[]⟩
noncomputable def o147 (P : Params) : Obj := ⟨(.type "function"), none, (fX (st 36) (fN (st 36)) 3 [] .none .none .none (.str "pegleap.search" 469) none (.ref 235) .none 0), #[]⟩
noncomputable def o148 (P : Params) : Obj := ⟨(.type "tuple"), none, (.seq #[(.str "board" 506), (.str "pegs" 507), (.str "all_leaps" 508), (.str "found" 509), (.str "layer" 510)] 0), #[]⟩
noncomputable def o149 (P : Params) : Obj := ⟨.none, none, (fX (st 37) (fN (st 37)) 0 [] .none .none .none .none none .none .none 0), #[]⟩
noncomputable def o150 (P : Params) : Obj := ⟨(.type "code"), none, (.fields #[(.str "first_rows" 503), (.str "first_rows" 504), (.str "/claim/cut.py" 505), (.int 122 0), (.int 2 0), (.int 0 0), (.int 0 0), (.int 3 0), (.ref 237), (.bool true), (.int 181 0), (.ref 238), .none, (.ref 239), (.ref 240), (.ref 241), (.int 511 0), (.int 122 0), (.str "/claim/cut.py" 512)]), #[]⟩
noncomputable def o151 (P : Params) : Obj := ⟨(.type "function"), none, (fX (st 37) (fN (st 37)) 3 [] .none .none .none (.str "pegleap.search" 469) none (.ref 242) .none 0), #[]⟩
noncomputable def o152 (P : Params) : Obj := ⟨.none, none, (fX (st 38) (fN (st 38)) 0 [] .none .none .none .none none .none .none 0), #[]⟩
noncomputable def o153 (P : Params) : Obj := ⟨(.type "code"), none, (.fields #[(.str "in_order" 514), (.str "in_order" 515), (.str "/claim/cut.py" 516), (.int 130 0), (.int 1 0), (.int 0 0), (.int 0 0), (.int 3 0), (.ref 244), (.bool true), (.int 181 0), (.ref 245), .none, .none, .none, (.ref 246), (.int 517 0), (.int 130 0), (.str "/claim/cut.py" 518)]), #[]⟩
noncomputable def o154 (P : Params) : Obj := ⟨(.type "function"), none, (fX (st 38) (fN (st 38)) 3 [] .none .none .none (.str "pegleap.search" 469) none (.ref 247) .none 0), #[]⟩
noncomputable def o155 (P : Params) : Obj := ⟨(.type "tuple"), none, (.seq #[(.str "board" 523), (.str "pegs" 524)] 0), #[]⟩
noncomputable def o156 (P : Params) : Obj := ⟨.none, none, (fX (st 39) (fN (st 39)) 0 [] .none .none .none .none none .none .none 0), #[]⟩
noncomputable def o157 (P : Params) : Obj := ⟨(.type "code"), none, (.fields #[(.str "reached" 520), (.str "reached" 521), (.str "/claim/cut.py" 522), (.int 132 0), (.int 2 0), (.int 0 0), (.int 0 0), (.int 3 0), (.ref 249), (.bool true), (.int 181 0), (.ref 250), .none, (.ref 251), (.ref 252), (.ref 253), (.int 525 0), (.int 132 0), (.str "/claim/cut.py" 526)]), #[]⟩
noncomputable def o158 (P : Params) : Obj := ⟨(.type "function"), none, (fX (st 39) (fN (st 39)) 3 [] .none .none .none (.str "pegleap.search" 469) none (.ref 254) .none 0), #[]⟩
noncomputable def o159 (P : Params) : Obj := ⟨(.type "tuple"), none, (.seq #[(.str "board" 531), (.str "pegs" 532), (.str "others" 533), (.str "rows" 534)] 0), #[]⟩
noncomputable def o160 (P : Params) : Obj := ⟨.none, none, (fX (st 40) (fN (st 40)) 0 [] .none .none .none .none none .none .none 0), #[]⟩
noncomputable def o161 (P : Params) : Obj := ⟨(.type "code"), none, (.fields #[(.str "answer" 528), (.str "answer" 529), (.str "/claim/cut.py" 530), (.int 135 0), (.int 3 0), (.int 0 0), (.int 0 0), (.int 3 0), (.ref 256), (.bool true), (.int 181 0), (.ref 257), .none, (.ref 258), (.ref 259), (.ref 260), (.int 535 0), (.int 135 0), (.str "/claim/cut.py" 536)]), #[]⟩
noncomputable def o162 (P : Params) : Obj := ⟨(.type "function"), none, (fX (st 40) (fN (st 40)) 3 [] .none .none .none (.str "pegleap.search" 469) none (.ref 261) .none 0), #[]⟩
noncomputable def o163 (P : Params) : Obj := ⟨(.type "tuple"), none, (.seq #[(.str "board" 541), (.str "pegs" 542), (.str "others" 543), (.str "paper" 544)] 0), #[]⟩
noncomputable def o164 (P : Params) : Obj := ⟨.none, none, (fX (st 41) (fN (st 41)) 0 [] .none .none .none .none none .none .none 0), #[]⟩
noncomputable def o165 (P : Params) : Obj := ⟨(.type "code"), none, (.fields #[(.str "holds" 538), (.str "holds" 539), (.str "/claim/cut.py" 540), (.int 144 0), (.int 4 0), (.int 0 0), (.int 0 0), (.int 3 0), (.ref 263), (.bool true), (.int 181 0), (.ref 264), .none, (.ref 265), (.ref 266), (.ref 267), (.int 545 0), (.int 144 0), (.str "/claim/cut.py" 546)]), #[]⟩
noncomputable def o166 (P : Params) : Obj := ⟨(.type "function"), none, (fX (st 41) (fN (st 41)) 3 [] .none .none .none (.str "pegleap.search" 469) none (.ref 268) .none 0), #[]⟩
noncomputable def o167 (P : Params) : Obj := ⟨(.type "tuple"), none, (.seq #[(.str "board" 551), (.str "pegs" 552), (.str "others" 553), (.str "weights" 554), (.str "is_fair" 555)] 0), #[]⟩
noncomputable def o168 (P : Params) : Obj := ⟨.none, none, (fX (st 42) (fN (st 42)) 0 [] .none .none .none .none none .none .none 0), #[]⟩
noncomputable def o169 (P : Params) : Obj := ⟨(.type "code"), none, (.fields #[(.str "weights_hold" 548), (.str "weights_hold" 549), (.str "/claim/cut.py" 550), (.int 152 0), (.int 4 0), (.int 0 0), (.int 0 0), (.int 3 0), (.ref 270), (.bool true), (.int 181 0), (.ref 271), .none, (.ref 272), (.ref 273), (.ref 274), (.int 556 0), (.int 152 0), (.str "/claim/cut.py" 557)]), #[]⟩
noncomputable def o170 (P : Params) : Obj := ⟨(.type "function"), none, (fX (st 42) (fN (st 42)) 3 [] .none .none .none (.str "pegleap.search" 469) none (.ref 275) .none 0), #[]⟩
noncomputable def o171 (P : Params) : Obj := ⟨(.type "tuple"), none, (.seq #[(.str "board" 562), (.str "pegs" 563), (.str "others" 564), (.str "standings" 565)] 0), #[]⟩
noncomputable def o172 (P : Params) : Obj := ⟨.none, none, (fX (st 43) (fN (st 43)) 0 [] .none .none .none .none none .none .none 0), #[]⟩
noncomputable def o173 (P : Params) : Obj := ⟨(.type "code"), none, (.fields #[(.str "closed_holds" 559), (.str "closed_holds" 560), (.str "/claim/cut.py" 561), (.int 158 0), (.int 4 0), (.int 0 0), (.int 0 0), (.int 3 0), (.ref 277), (.bool true), (.int 181 0), (.ref 278), .none, (.ref 279), (.ref 280), (.ref 281), (.int 566 0), (.int 158 0), (.str "/claim/cut.py" 567)]), #[]⟩
noncomputable def o174 (P : Params) : Obj := ⟨(.type "function"), none, (fX (st 43) (fN (st 43)) 3 [] .none .none .none (.str "pegleap.search" 469) none (.ref 282) .none 0), #[]⟩
noncomputable def o175 (P : Params) : Obj := ⟨(.type "tuple"), none, (.seq #[(.str "board" 572), (.str "standings" 573), (.str "pegs" 574)] 0), #[]⟩
noncomputable def o176 (P : Params) : Obj := ⟨.none, none, (fX (st 44) (fN (st 44)) 0 [] .none .none .none .none none .none .none 0), #[]⟩
noncomputable def o177 (P : Params) : Obj := ⟨(.type "code"), none, (.fields #[(.str "all_standings" 569), (.str "all_standings" 570), (.str "/claim/cut.py" 571), (.int 162 0), (.int 2 0), (.int 0 0), (.int 0 0), (.int 3 0), (.ref 284), (.bool true), (.int 181 0), (.ref 285), .none, (.ref 286), (.ref 287), (.ref 288), (.int 575 0), (.int 162 0), (.str "/claim/cut.py" 576)]), #[]⟩
noncomputable def o178 (P : Params) : Obj := ⟨(.type "function"), none, (fX (st 44) (fN (st 44)) 3 [] .none .none .none (.str "pegleap.search" 469) none (.ref 289) .none 0), #[]⟩
noncomputable def o179 (P : Params) : Obj := ⟨(.type "tuple"), none, (.seq #[(.str "board" 581), (.str "standings" 582), (.str "all_leaps" 583), (.str "among" 584), (.str "pegs" 585), (.str "standing" 586), (.str "leap" 587), (.str "behind" 588)] 0), #[]⟩
noncomputable def o180 (P : Params) : Obj := ⟨.none, none, (fX (st 45) (fN (st 45)) 0 [] .none .none .none .none none .none .none 0), #[]⟩
noncomputable def o181 (P : Params) : Obj := ⟨(.type "code"), none, (.fields #[(.str "is_closed" 578), (.str "is_closed" 579), (.str "/claim/cut.py" 580), (.int 169 0), (.int 2 0), (.int 0 0), (.int 0 0), (.int 3 0), (.ref 291), (.bool true), (.int 181 0), (.ref 292), .none, (.ref 293), (.ref 294), (.ref 295), (.int 589 0), (.int 169 0), (.str "/claim/cut.py" 590)]), #[]⟩
noncomputable def o182 (P : Params) : Obj := ⟨(.type "function"), none, (fX (st 45) (fN (st 45)) 3 [] .none .none .none (.str "pegleap.search" 469) none (.ref 296) .none 0), #[]⟩
noncomputable def o183 (P : Params) : Obj := ⟨(.type "tuple"), none, (.seq #[(.str "board" 595), (.str "pegs" 596), (.str "others" 597), (.str "all_leaps" 598), (.str "layer" 599), (.str "leaps_done" 600)] 0), #[]⟩
noncomputable def o184 (P : Params) : Obj := ⟨.none, none, (fX (st 46) (fN (st 46)) 0 [] .none .none .none .none none .none .none 0), #[]⟩
noncomputable def o185 (P : Params) : Obj := ⟨(.type "code"), none, (.fields #[(.str "row_count" 592), (.str "row_count" 593), (.str "/claim/cut.py" 594), (.int 179 0), (.int 3 0), (.int 0 0), (.int 0 0), (.int 3 0), (.ref 298), (.bool true), (.int 181 0), (.ref 299), .none, (.ref 300), (.ref 301), (.ref 302), (.int 601 0), (.int 179 0), (.str "/claim/cut.py" 602)]), #[]⟩
noncomputable def o186 (P : Params) : Obj := ⟨(.type "function"), none, (fX (st 46) (fN (st 46)) 3 [] .none .none .none (.str "pegleap.search" 469) none (.ref 303) .none 0), #[]⟩
noncomputable def o187 (P : Params) : Obj := ⟨(.type "tuple"), none, (.seq #[(.str "script" 609), (.str "k" 610)] 0), #[]⟩
noncomputable def o188 (P : Params) : Obj := ⟨.none, none, (fX (st 48) (fN (st 48)) 0 [] .none .none .none .none none .none .none 0), #[]⟩
noncomputable def o189 (P : Params) : Obj := ⟨(.type "code"), none, (.fields #[(.str "_law_cell_at" 606), (.str "_law_cell_at" 607), (.str "/claim/cut.py" 608), (.int 188 0), (.int 2 0), (.int 0 0), (.int 0 0), (.int 3 0), (.ref 305), (.bool true), (.int 181 0), (.ref 306), .none, (.ref 307), (.ref 308), (.ref 309), (.int 611 0), (.int 188 0), (.str "/claim/cut.py" 612)]), #[]⟩
noncomputable def o190 (P : Params) : Obj := ⟨(.type "function"), none, (fX (st 48) (fN (st 48)) 3 [] .none .none .none (.str "law_pegleap_k15_standings_refused" 604) none (.ref 310) .none 0), #[]⟩
noncomputable def o191 (P : Params) : Obj := ⟨(.type "tuple"), none, (.seq #[(.str "cell" 617), (.str "k" 618), (.str "many" 619), (.str "some" 620), (.str "number" 621)] 0), #[]⟩
noncomputable def o192 (P : Params) : Obj := ⟨.none, none, (fX (st 49) (fN (st 49)) 0 [] .none .none .none .none none .none .none 0), #[]⟩
noncomputable def o193 (P : Params) : Obj := ⟨(.type "code"), none, (.fields #[(.str "_law_mix" 614), (.str "_law_mix" 615), (.str "/claim/cut.py" 616), (.int 192 0), (.int 3 0), (.int 0 0), (.int 0 0), (.int 3 0), (.ref 312), (.bool true), (.int 181 0), (.ref 313), .none, (.ref 314), (.ref 315), (.ref 316), (.int 622 0), (.int 192 0), (.str "/claim/cut.py" 623)]), #[]⟩
noncomputable def o194 (P : Params) : Obj := ⟨(.type "function"), none, (fX (st 49) (fN (st 49)) 3 [] .none .none .none (.str "law_pegleap_k15_standings_refused" 604) none (.ref 317) .none 0), #[]⟩
noncomputable def o195 (P : Params) : Obj := ⟨(.type "tuple"), none, (.seq #[(.str "script" 628), (.str "most" 629), (.str "cell" 630), (.str "height" 631), (.str "width" 632), (.str "down" 633), (.str "across" 634), (.str "some" 635), (.str "k" 636)] 0), #[]⟩
noncomputable def o196 (P : Params) : Obj := ⟨.none, none, (fX (st 50) (fN (st 50)) 0 [] .none .none .none .none none .none .none 0), #[]⟩
noncomputable def o197 (P : Params) : Obj := ⟨(.type "code"), none, (.fields #[(.str "_law_cells_by" 625), (.str "_law_cells_by" 626), (.str "/claim/cut.py" 627), (.int 197 0), (.int 2 0), (.int 0 0), (.int 0 0), (.int 3 0), (.ref 319), (.bool true), (.int 181 0), (.ref 320), .none, (.ref 321), (.ref 322), (.ref 323), (.int 637 0), (.int 197 0), (.str "/claim/cut.py" 638)]), #[]⟩
noncomputable def o198 (P : Params) : Obj := ⟨(.type "function"), none, (fX (st 50) (fN (st 50)) 3 [] .none .none .none (.str "law_pegleap_k15_standings_refused" 604) none (.ref 324) .none 0), #[]⟩
noncomputable def o199 (P : Params) : Obj := ⟨.none, none, (fX (st 51) (fN (st 51)) 0 [] .none .none .none .none none .none .none 0), #[]⟩
noncomputable def o200 (P : Params) : Obj := ⟨(.type "code"), none, (.fields #[(.str "_law_pegs_by" 640), (.str "_law_pegs_by" 641), (.str "/claim/cut.py" 642), (.int 210 0), (.int 2 0), (.int 0 0), (.int 0 0), (.int 3 0), (.ref 326), (.bool true), (.int 181 0), (.ref 327), .none, .none, .none, (.ref 328), (.int 643 0), (.int 210 0), (.str "/claim/cut.py" 644)]), #[]⟩
noncomputable def o201 (P : Params) : Obj := ⟨(.type "function"), none, (fX (st 51) (fN (st 51)) 3 [] .none .none .none (.str "law_pegleap_k15_standings_refused" 604) none (.ref 329) .none 0), #[]⟩
noncomputable def o202 (P : Params) : Obj := ⟨(.type "tuple"), none, (.seq #[(.str "cells" 649), (.str "pegs" 650), (.str "cell" 651), (.str "at" 652), (.str "off" 653)] 0), #[]⟩
noncomputable def o203 (P : Params) : Obj := ⟨.none, none, (fX (st 52) (fN (st 52)) 0 [] .none .none .none .none none .none .none 0), #[]⟩
noncomputable def o204 (P : Params) : Obj := ⟨(.type "code"), none, (.fields #[(.str "_law_hurt" 646), (.str "_law_hurt" 647), (.str "/claim/cut.py" 648), (.int 216 0), (.int 3 0), (.int 0 0), (.int 0 0), (.int 3 0), (.ref 331), (.bool true), (.int 181 0), (.ref 332), .none, (.ref 333), (.ref 334), (.ref 335), (.int 654 0), (.int 216 0), (.str "/claim/cut.py" 655)]), #[]⟩
noncomputable def o205 (P : Params) : Obj := ⟨(.type "function"), none, (fX (st 52) (fN (st 52)) 3 [] .none .none .none (.str "law_pegleap_k15_standings_refused" 604) none (.ref 336) .none 0), #[]⟩
noncomputable def o206 (P : Params) : Obj := ⟨(.type "tuple"), none, (.seq #[(.str "board" 660), (.str "way" 661), (.str "bad" 662), (.str "good" 663)] 0), #[]⟩
noncomputable def o207 (P : Params) : Obj := ⟨.none, none, (fX (st 53) (fN (st 53)) 0 [] .none .none .none .none none .none .none 0), #[]⟩
noncomputable def o208 (P : Params) : Obj := ⟨(.type "code"), none, (.fields #[(.str "_law_first" 657), (.str "_law_first" 658), (.str "/claim/cut.py" 659), (.int 226 0), (.int 4 0), (.int 0 0), (.int 0 0), (.int 3 0), (.ref 338), (.bool true), (.int 181 0), (.ref 339), .none, (.ref 340), (.ref 341), (.ref 342), (.int 664 0), (.int 226 0), (.str "/claim/cut.py" 665)]), #[]⟩
noncomputable def o209 (P : Params) : Obj := ⟨(.type "function"), none, (fX (st 53) (fN (st 53)) 3 [] .none .none .none (.str "law_pegleap_k15_standings_refused" 604) none (.ref 343) .none 0), #[]⟩
noncomputable def o210 (P : Params) : Obj := ⟨(.type "tuple"), none, (.seq #[(.str "board" 670), (.str "way" 671), (.str "bad" 672), (.str "good" 673)] 0), #[]⟩
noncomputable def o211 (P : Params) : Obj := ⟨.none, none, (fX (st 54) (fN (st 54)) 0 [] .none .none .none .none none .none .none 0), #[]⟩
noncomputable def o212 (P : Params) : Obj := ⟨(.type "code"), none, (.fields #[(.str "_law_second" 667), (.str "_law_second" 668), (.str "/claim/cut.py" 669), (.int 241 0), (.int 4 0), (.int 0 0), (.int 0 0), (.int 3 0), (.ref 345), (.bool true), (.int 181 0), (.ref 346), .none, (.ref 347), (.ref 348), (.ref 349), (.int 674 0), (.int 241 0), (.str "/claim/cut.py" 675)]), #[]⟩
noncomputable def o213 (P : Params) : Obj := ⟨(.type "function"), none, (fX (st 54) (fN (st 54)) 3 [] .none .none .none (.str "law_pegleap_k15_standings_refused" 604) none (.ref 350) .none 0), #[]⟩
noncomputable def o214 (P : Params) : Obj := ⟨(.type "tuple"), none, (.seq #[(.str "board" 680), (.str "way" 681), (.str "bad" 682), (.str "good" 683), (.str "e" 684)] 0), #[]⟩
noncomputable def o215 (P : Params) : Obj := ⟨.none, none, (fX (st 55) (fN (st 55)) 0 [] .none .none .none .none none .none .none 0), #[]⟩
noncomputable def o216 (P : Params) : Obj := ⟨(.type "code"), none, (.fields #[(.str "_law_met" 677), (.str "_law_met" 678), (.str "/claim/cut.py" 679), (.int 256 0), (.int 4 0), (.int 0 0), (.int 0 0), (.int 3 0), (.ref 352), (.bool true), (.int 181 0), (.ref 353), .none, (.ref 354), (.ref 355), (.ref 356), (.int 685 0), (.int 256 0), (.str "/claim/cut.py" 686)]), #[]⟩
noncomputable def o217 (P : Params) : Obj := ⟨(.type "function"), none, (fX (st 55) (fN (st 55)) 3 [] .none .none .none (.str "law_pegleap_k15_standings_refused" 604) none (.ref 357) .none 0), #[]⟩
noncomputable def o218 (P : Params) : Obj := ⟨(.type "tuple"), none, (.seq #[(.str "script" 691), (.str "cells" 692), (.str "board" 693), (.str "good" 694), (.str "bad" 695), (.str "handed" 696), (.str "way" 697)] 0), #[]⟩
noncomputable def o219 (P : Params) : Obj := ⟨.none, none, (fX (st 56) (fN (st 56)) 0 [] .none .none .none .none none .none .none 0), #[]⟩
noncomputable def o220 (P : Params) : Obj := ⟨(.type "code"), none, (.fields #[(.str "law" 688), (.str "law" 689), (.str "/claim/cut.py" 690), (.int 263 0), (.int 1 0), (.int 0 0), (.int 0 0), (.int 3 0), (.ref 359), (.bool true), (.int 181 0), (.ref 360), .none, (.ref 361), (.ref 362), (.ref 363), (.int 698 0), (.int 263 0), (.str "/claim/cut.py" 699)]), #[]⟩
noncomputable def o221 (P : Params) : Obj := ⟨(.type "function"), none, (fX (st 56) (fN (st 56)) 3 [] .none .none .none (.str "law_pegleap_k15_standings_refused" 604) none (.ref 364) .none 0), #[]⟩
noncomputable def T3 (P : Params) : BT := (.node (PySem.W.boot_o_0 P) (.node (PySem.W.boot_o_1 P) (.node (o121 P) (.node (PySem.W.boot_o_7 P) (.node (o6 P) (.node (o0 P) (.node (o36 P) (.node (o81 P) (.node (o158 P) .nil .nil) .nil) (.node (o118 P) (.node (o0 P) .nil .nil) .nil)) (.node (o60 P) (.node (o1 P) (.node (o0 P) .nil .nil) .nil) (.node (o0 P) (.node (o213 P) .nil .nil) .nil))) (.node (o0 P) (.node (o50 P) (.node (o90 P) (.node (o1 P) .nil .nil) .nil) (.node (o1 P) (.node (o203 P) .nil .nil) .nil)) (.node (o0 P) (.node (o0 P) (.node (o185 P) .nil .nil) .nil) (.node (o148 P) .nil .nil)))) (.node (o11 P) (.node (o23 P) (.node (o16 P) (.node (o0 P) (.node (o0 P) .nil .nil) .nil) (.node (o0 P) (.node (o1 P) .nil .nil) .nil)) (.node (o65 P) (.node (o104 P) (.node (o180 P) .nil .nil) .nil) (.node (o1 P) (.node (o0 P) .nil .nil) .nil))) (.node (o0 P) (.node (o55 P) (.node (o95 P) (.node (o171 P) .nil .nil) .nil) (.node (o134 P) (.node (o208 P) .nil .nil) .nil)) (.node (o75 P) (.node (o1 P) (.node (o190 P) .nil .nil) .nil) (.node (o153 P) .nil .nil))))) (.node (o0 P) (.node (o1 P) (.node (o0 P) (.node (o40 P) (.node (o84 P) (.node (o0 P) .nil .nil) .nil) (.node (o1 P) (.node (o196 P) .nil .nil) .nil)) (.node (o62 P) (.node (o102 P) (.node (o0 P) .nil .nil) .nil) (.node (o141 P) (.node (o0 P) .nil .nil) .nil))) (.node (o30 P) (.node (o0 P) (.node (o1 P) (.node (o169 P) .nil .nil) .nil) (.node (o132 P) (.node (o1 P) .nil .nil) .nil)) (.node (o71 P) (.node (o111 P) (.node (o187 P) .nil .nil) .nil) (.node (o151 P) .nil .nil)))) (.node (o15 P) (.node (o0 P) (.node (o1 P) (.node (o0 P) (.node (o164 P) .nil .nil) .nil) (.node (o127 P) (.node (o0 P) .nil .nil) .nil)) (.node (o0 P) (.node (o1 P) (.node (o1 P) .nil .nil) .nil) (.node (o146 P) (.node (o219 P) .nil .nil) .nil))) (.node (o0 P) (.node (o1 P) (.node (o97 P) (.node (o174 P) .nil .nil) .nil) (.node (o1 P) (.node (o210 P) .nil .nil) .nil)) (.node (o79 P) (.node (o116 P) (.node (o0 P) .nil .nil) .nil) (.node (o155 P) .nil .nil)))))) (.node (PySem.W.boot_o_5 P) (.node (PySem.W.boot_o_9 P) (.node (o8 P) (.node (o18 P) (.node (o38 P) (.node (o82 P) (.node (o1 P) .nil .nil) .nil) (.node (o120 P) (.node (o195 P) .nil .nil) .nil)) (.node (o0 P) (.node (o0 P) (.node (o177 P) .nil .nil) .nil) (.node (o140 P) (.node (o1 P) .nil .nil) .nil))) (.node (o28 P) (.node (o52 P) (.node (o92 P) (.node (o0 P) .nil .nil) .nil) (.node (o0 P) (.node (o205 P) .nil .nil) .nil)) (.node (o70 P) (.node (o110 P) (.node (o0 P) .nil .nil) .nil) (.node (o149 P) .nil .nil)))) (.node (o13 P) (.node (o7 P) (.node (o47 P) (.node (o87 P) (.node (o163 P) .nil .nil) .nil) (.node (o126 P) (.node (o200 P) .nil .nil) .nil)) (.node (o7 P) (.node (o106 P) (.node (o182 P) .nil .nil) .nil) (.node (o0 P) (.node (o218 P) .nil .nil) .nil))) (.node (o33 P) (.node (o57 P) (.node (o0 P) (.node (o172 P) .nil .nil) .nil) (.node (o136 P) (.node (o0 P) .nil .nil) .nil)) (.node (o77 P) (.node (o0 P) (.node (o1 P) .nil .nil) .nil) (.node (o0 P) .nil .nil))))) (.node (o2 P) (.node (o10 P) (.node (o21 P) (.node (o42 P) (.node (o1 P) (.node (o161 P) .nil .nil) .nil) (.node (o124 P) (.node (o198 P) .nil .nil) .nil)) (.node (o63 P) (.node (o0 P) (.node (o179 P) .nil .nil) .nil) (.node (o143 P) (.node (o216 P) .nil .nil) .nil))) (.node (o7 P) (.node (o54 P) (.node (o0 P) (.node (o0 P) .nil .nil) .nil) (.node (o0 P) (.node (o0 P) .nil .nil) .nil)) (.node (o73 P) (.node (o113 P) (.node (o188 P) .nil .nil) .nil) (.node (o1 P) .nil .nil)))) (.node (o7 P) (.node (o25 P) (.node (o49 P) (.node (o89 P) (.node (o166 P) .nil .nil) .nil) (.node (o129 P) (.node (o202 P) .nil .nil) .nil)) (.node (o68 P) (.node (o108 P) (.node (o0 P) .nil .nil) .nil) (.node (o0 P) (.node (o221 P) .nil .nil) .nil))) (.node (o35 P) (.node (o0 P) (.node (o99 P) (.node (o1 P) .nil .nil) .nil) (.node (o138 P) (.node (o211 P) .nil .nil) .nil)) (.node (o0 P) (.node (o0 P) (.node (o193 P) .nil .nil) .nil) (.node (o156 P) .nil .nil))))))) (.node (PySem.W.boot_o_2 P) (.node (PySem.W.boot_o_4 P) (.node (PySem.W.boot_o_8 P) (.node (o7 P) (.node (o1 P) (.node (o37 P) (.node (o0 P) (.node (o0 P) .nil .nil) .nil) (.node (o119 P) (.node (o1 P) .nil .nil) .nil)) (.node (o61 P) (.node (o100 P) (.node (o176 P) .nil .nil) .nil) (.node (o1 P) (.node (o0 P) .nil .nil) .nil))) (.node (o27 P) (.node (o51 P) (.node (o91 P) (.node (o167 P) .nil .nil) .nil) (.node (o130 P) (.node (o204 P) .nil .nil) .nil)) (.node (o1 P) (.node (o1 P) (.node (o186 P) .nil .nil) .nil) (.node (o0 P) .nil .nil)))) (.node (o46 P) (.node (o16 P) (.node (o7 P) (.node (o86 P) (.node (o1 P) .nil .nil) .nil) (.node (o1 P) (.node (o199 P) .nil .nil) .nil)) (.node (o0 P) (.node (o105 P) (.node (o181 P) .nil .nil) .nil) (.node (o144 P) (.node (o1 P) .nil .nil) .nil))) (.node (o32 P) (.node (o56 P) (.node (o96 P) (.node (o0 P) .nil .nil) .nil) (.node (o135 P) (.node (o209 P) .nil .nil) .nil)) (.node (o76 P) (.node (o114 P) (.node (o0 P) .nil .nil) .nil) (.node (o154 P) .nil .nil))))) (.node (o122 P) (.node (o9 P) (.node (o20 P) (.node (o41 P) (.node (o0 P) (.node (o160 P) .nil .nil) .nil) (.node (o123 P) (.node (o197 P) .nil .nil) .nil)) (.node (o0 P) (.node (o103 P) (.node (o1 P) .nil .nil) .nil) (.node (o142 P) (.node (o215 P) .nil .nil) .nil))) (.node (o16 P) (.node (o1 P) (.node (o93 P) (.node (o170 P) .nil .nil) .nil) (.node (o133 P) (.node (o206 P) .nil .nil) .nil)) (.node (o72 P) (.node (o112 P) (.node (o0 P) .nil .nil) .nil) (.node (o0 P) .nil .nil)))) (.node (o16 P) (.node (o1 P) (.node (o48 P) (.node (o1 P) (.node (o165 P) .nil .nil) .nil) (.node (o128 P) (.node (o1 P) .nil .nil) .nil)) (.node (o67 P) (.node (o107 P) (.node (o183 P) .nil .nil) .nil) (.node (o147 P) (.node (o220 P) .nil .nil) .nil))) (.node (o1 P) (.node (o58 P) (.node (o98 P) (.node (o0 P) .nil .nil) .nil) (.node (o137 P) (.node (o0 P) .nil .nil) .nil)) (.node (o80 P) (.node (o117 P) (.node (o192 P) .nil .nil) .nil) (.node (o0 P) .nil .nil)))))) (.node (PySem.W.boot_o_6 P) (.node (PySem.W.boot_o_10 P) (.node (o0 P) (.node (o19 P) (.node (o39 P) (.node (o83 P) (.node (o159 P) .nil .nil) .nil) (.node (o0 P) (.node (o0 P) .nil .nil) .nil)) (.node (o1 P) (.node (o101 P) (.node (o178 P) .nil .nil) .nil) (.node (o0 P) (.node (o214 P) .nil .nil) .nil))) (.node (o29 P) (.node (o53 P) (.node (o0 P) (.node (o168 P) .nil .nil) .nil) (.node (o131 P) (.node (o0 P) .nil .nil) .nil)) (.node (o0 P) (.node (o0 P) (.node (o1 P) .nil .nil) .nil) (.node (o150 P) .nil .nil)))) (.node (o14 P) (.node (o24 P) (.node (o0 P) (.node (o88 P) (.node (o0 P) .nil .nil) .nil) (.node (o0 P) (.node (o201 P) .nil .nil) .nil)) (.node (o66 P) (.node (o0 P) (.node (o0 P) .nil .nil) .nil) (.node (o145 P) (.node (o0 P) .nil .nil) .nil))) (.node (o34 P) (.node (o0 P) (.node (o1 P) (.node (o173 P) .nil .nil) .nil) (.node (o0 P) (.node (o1 P) .nil .nil) .nil)) (.node (o78 P) (.node (o115 P) (.node (o191 P) .nil .nil) .nil) (.node (o1 P) .nil .nil))))) (.node (o3 P) (.node (o0 P) (.node (o22 P) (.node (o43 P) (.node (o85 P) (.node (o162 P) .nil .nil) .nil) (.node (o125 P) (.node (o0 P) .nil .nil) .nil)) (.node (o64 P) (.node (o1 P) (.node (o0 P) .nil .nil) .nil) (.node (o0 P) (.node (o217 P) .nil .nil) .nil))) (.node (o31 P) (.node (o0 P) (.node (o94 P) (.node (o1 P) .nil .nil) .nil) (.node (o1 P) (.node (o207 P) .nil .nil) .nil)) (.node (o74 P) (.node (o0 P) (.node (o189 P) .nil .nil) .nil) (.node (o152 P) .nil .nil)))) (.node (o17 P) (.node (o26 P) (.node (o0 P) (.node (o0 P) (.node (o0 P) .nil .nil) .nil) (.node (o0 P) (.node (o0 P) .nil .nil) .nil)) (.node (o69 P) (.node (o109 P) (.node (o184 P) .nil .nil) .nil) (.node (o1 P) .nil .nil))) (.node (o0 P) (.node (o59 P) (.node (o0 P) (.node (o175 P) .nil .nil) .nil) (.node (o139 P) (.node (o212 P) .nil .nil) .nil)) (.node (o1 P) (.node (o1 P) (.node (o194 P) .nil .nil) .nil) (.node (o157 P) .nil .nil))))))))
noncomputable def S3 (w : World) (os : OsState) : SharedT := ⟨T3 w.params, 366, lf0, #[], ⟨0, 0, 0, 0⟩, 701, os⟩
noncomputable def H1 (P : Params) : Heap := ⟨⟨[PySem.W.boot_o_0 P, PySem.W.boot_o_1 P, PySem.W.boot_o_2 P, o121 P, PySem.W.boot_o_4 P, PySem.W.boot_o_5 P, PySem.W.boot_o_6 P, PySem.W.boot_o_7 P, PySem.W.boot_o_8 P, PySem.W.boot_o_9 P, PySem.W.boot_o_10 P, o0 P, o122 P, o2 P, o3 P, o6 P, o7 P, o8 P, o0 P, o1 P, o9 P, o10 P, o0 P, o11 P, o46 P, o13 P, o14 P, o15 P, o16 P, o7 P, o17 P, o0 P, o1 P, o18 P, o19 P, o0 P, o20 P, o21 P, o22 P, o23 P, o16 P, o7 P, o24 P, o0 P, o1 P, o25 P, o26 P, o0 P, o27 P, o28 P, o29 P, o30 P, o16 P, o7 P, o31 P, o0 P, o32 P, o33 P, o34 P, o0 P, o1 P, o35 P, o0 P, o36 P, o37 P, o38 P, o39 P, o40 P, o41 P, o42 P, o43 P, o16 P, o7 P, o47 P, o0 P, o1 P, o48 P, o49 P, o0 P, o50 P, o51 P, o52 P, o53 P, o0 P, o1 P, o54 P, o0 P, o55 P, o56 P, o57 P, o0 P, o1 P, o58 P, o0 P, o59 P, o60 P, o61 P, o0 P, o1 P, o62 P, o0 P, o63 P, o64 P, o65 P, o0 P, o7 P, o66 P, o0 P, o67 P, o68 P, o69 P, o0 P, o1 P, o70 P, o0 P, o71 P, o72 P, o73 P, o74 P, o75 P, o76 P, o77 P, o78 P, o79 P, o80 P, o0 P, o1 P, o81 P, o0 P, o82 P, o83 P, o84 P, o0 P, o1 P, o85 P, o0 P, o86 P, o87 P, o88 P, o0 P, o1 P, o89 P, o0 P, o90 P, o91 P, o92 P, o0 P, o1 P, o93 P, o0 P, o94 P, o95 P, o96 P, o0 P, o1 P, o97 P, o98 P, o99 P, o0 P, o1 P, o100 P, o0 P, o101 P, o102 P, o103 P, o0 P, o1 P, o104 P, o105 P, o106 P, o0 P, o1 P, o107 P, o108 P, o109 P, o0 P, o1 P, o110 P, o0 P, o111 P, o112 P, o113 P, o0 P, o1 P, o114 P, o0 P, o115 P, o116 P, o117 P, o0 P, o1 P, o118 P, o119 P, o120 P, o0 P, o1 P, o123 P, o124 P, o125 P, o0 P, o1 P, o126 P, o0 P, o127 P, o128 P, o129 P, o0 P, o1 P, o130 P, o0 P, o131 P, o132 P, o133 P, o0 P, o1 P, o134 P, o135 P, o136 P, o0 P, o1 P, o137 P, o138 P, o139 P, o0 P, o1 P, o140 P, o0 P, o141 P, o142 P, o143 P, o0 P, o1 P, o144 P, o0 P, o145 P, o146 P, o147 P, o0 P, o1 P, o148 P, o0 P, o149 P, o150 P, o151 P, o0 P, o1 P, o152 P, o153 P, o154 P, o0 P, o1 P, o155 P, o0 P, o156 P, o157 P, o158 P, o0 P, o1 P, o159 P, o0 P, o160 P, o161 P, o162 P, o0 P, o1 P, o163 P, o0 P, o164 P, o165 P, o166 P, o0 P, o1 P, o167 P, o0 P, o168 P, o169 P, o170 P, o0 P, o1 P, o171 P, o0 P, o172 P, o173 P, o174 P, o0 P, o1 P, o175 P, o0 P, o176 P, o177 P, o178 P, o0 P, o1 P, o179 P, o0 P, o180 P, o181 P, o182 P, o0 P, o1 P, o183 P, o0 P, o184 P, o185 P, o186 P, o0 P, o1 P, o187 P, o0 P, o188 P, o189 P, o190 P, o0 P, o1 P, o191 P, o0 P, o192 P, o193 P, o194 P, o0 P, o1 P, o195 P, o0 P, o196 P, o197 P, o198 P, o0 P, o1 P, o199 P, o200 P, o201 P, o0 P, o1 P, o202 P, o0 P, o203 P, o204 P, o205 P, o0 P, o1 P, o206 P, o0 P, o207 P, o208 P, o209 P, o0 P, o1 P, o210 P, o0 P, o211 P, o212 P, o213 P, o0 P, o1 P, o214 P, o0 P, o215 P, o216 P, o217 P, o0 P, o1 P, o218 P, o0 P, o219 P, o220 P, o221 P]⟩, lf0⟩
noncomputable def env : Env := { scope := pq.main.scope, locals := mainNs, globals := mainNs, cells := [], code := (.ref 13), frame := some 14 }
noncomputable abbrev bE : List Stmt := behindTheImports pq
noncomputable def cE : Code := .body bE env
noncomputable abbrev fp : Pos := ⟨0, 0, 0, 0⟩
noncomputable abbrev B : List Frame := [topFrame fp]
theorem pre (w : World) (os : OsState) : topGo treeTable pq w 11 (some (.ref 6)) 12 ⟨boot_heap w.params, #[], boot_drawn, boot_toks, os⟩ (topStub pq) = some (⟨Ha w.params, #[], ⟨0, 0, 0, 0⟩, 187, os⟩, ⟨denote treeTable cE, cE, ⟨0, 0, 0, 0⟩, B⟩) := by kernel_rfl
theorem block (w : World) (os : OsState) : segRun treeTable pq w 11 (some (.ref 6)) 1 1 ⟨Ha w.params, #[], ⟨0, 0, 0, 0⟩, 187, os⟩ (blockOf bE env cE ⟨0, 0, 0, 0⟩ B) = some (.next, (S0 w os).abs, cE, ⟨0, 0, 0, 0⟩) := by kernel_rfl
noncomputable def g0 : List Stmt := tk 5 (dr 0 bE)
theorem r0 (w : World) (os : OsState) : segRunT treeTable pq w 11 (some (.ref 6)) 1 867 (S0 w os) (piecesOf g0 env cE ⟨0, 0, 0, 0⟩ B) = some (.next, S1 w os, cE, ⟨8, 0, 12, 20⟩) := by kernel_rfl
noncomputable def g1 : List Stmt := tk 21 (dr 5 bE)
theorem r1 (w : World) (os : OsState) : segRunT treeTable pq w 11 (some (.ref 6)) 1 893 (S1 w os) (piecesOf g1 env cE ⟨8, 0, 12, 20⟩ B) = some (.next, S2 w os, cE, ⟨78, 0, 79, 67⟩) := by kernel_rfl
noncomputable def g2 : List Stmt := tk 31 (dr 26 bE)
theorem r2 (w : World) (os : OsState) : segRunT treeTable pq w 11 (some (.ref 6)) 1 872 (S2 w os) (piecesOf g2 env cE ⟨78, 0, 79, 67⟩ B) = some (.next, S3 w os, cE, ⟨263, 0, 272, 57⟩) := by kernel_rfl
theorem fin (w : World) (os : OsState) : topRun treeTable pq w 11 (some (.ref 6)) 2 (S3 w os).abs ⟨doneF .next, cE, ⟨263, 0, 272, 57⟩, B⟩ = some ⟨H1 w.params, #[], ⟨0, 0, 0, 0⟩, 701, os⟩ := by kernel_rfl
theorem hb : bE = (g0 ++ (g1 ++ (g2 ++ []))) := by kernel_rfl
theorem run (w : World) (os : OsState) : topRun treeTable pq w 11 (some (.ref 6)) (12 + (1 + (867 + (893 + (872 + 2))))) ⟨boot_heap w.params, #[], boot_drawn, boot_toks, os⟩ (topStub pq) = some ⟨H1 w.params, #[], ⟨0, 0, 0, 0⟩, 701, os⟩ :=
  go_top (pre w os) (piece_block (block w os) (rest_of hb (piece_app (segRun_of (r0 w os)) (piece_app (segRun_of (r1 w os)) (piece_app (segRun_of (r2 w os)) (piece_nil (fin w os)))))))
noncomputable def K (P : Params) : Frag := (nat_lit 0, PySem.W.boot_o_0 P) :: (nat_lit 1, PySem.W.boot_o_1 P) :: (nat_lit 2, PySem.W.boot_o_2 P) :: (nat_lit 3, o121 P) :: (nat_lit 4, PySem.W.boot_o_4 P) :: (nat_lit 5, PySem.W.boot_o_5 P) :: (nat_lit 6, PySem.W.boot_o_6 P) :: (nat_lit 7, PySem.W.boot_o_7 P) :: (nat_lit 8, PySem.W.boot_o_8 P) :: (nat_lit 9, PySem.W.boot_o_9 P) :: (nat_lit 10, PySem.W.boot_o_10 P) :: (nat_lit 11, o0 P) :: (nat_lit 12, o122 P) :: (nat_lit 13, o2 P) :: (nat_lit 14, o3 P) :: (nat_lit 15, o6 P) :: (nat_lit 22, o0 P) :: (nat_lit 23, o11 P) :: (nat_lit 24, o46 P) :: (nat_lit 25, o13 P) :: (nat_lit 28, o16 P) :: (nat_lit 35, o0 P) :: (nat_lit 36, o20 P) :: (nat_lit 37, o21 P) :: (nat_lit 40, o16 P) :: (nat_lit 47, o0 P) :: (nat_lit 48, o27 P) :: (nat_lit 49, o28 P) :: (nat_lit 52, o16 P) :: (nat_lit 59, o0 P) :: (nat_lit 60, o1 P) :: (nat_lit 61, o35 P) :: (nat_lit 62, o0 P) :: (nat_lit 63, o36 P) :: (nat_lit 64, o37 P) :: (nat_lit 65, o38 P) :: (nat_lit 66, o39 P) :: (nat_lit 67, o40 P) :: (nat_lit 68, o41 P) :: (nat_lit 71, o16 P) :: (nat_lit 78, o0 P) :: (nat_lit 79, o50 P) :: (nat_lit 80, o51 P) :: (nat_lit 83, o0 P) :: (nat_lit 84, o1 P) :: (nat_lit 85, o54 P) :: (nat_lit 86, o0 P) :: (nat_lit 87, o55 P) :: (nat_lit 88, o56 P) :: (nat_lit 89, o57 P) :: (nat_lit 90, o0 P) :: (nat_lit 91, o1 P) :: (nat_lit 92, o58 P) :: (nat_lit 93, o0 P) :: (nat_lit 94, o59 P) :: (nat_lit 95, o60 P) :: (nat_lit 96, o61 P) :: (nat_lit 97, o0 P) :: (nat_lit 98, o1 P) :: (nat_lit 99, o62 P) :: (nat_lit 100, o0 P) :: (nat_lit 101, o63 P) :: (nat_lit 102, o64 P) :: (nat_lit 103, o65 P) :: (nat_lit 111, o0 P) :: (nat_lit 112, o1 P) :: (nat_lit 113, o70 P) :: (nat_lit 114, o0 P) :: (nat_lit 115, o71 P) :: (nat_lit 116, o72 P) :: (nat_lit 117, o73 P) :: (nat_lit 118, o74 P) :: (nat_lit 119, o75 P) :: (nat_lit 120, o76 P) :: (nat_lit 121, o77 P) :: (nat_lit 122, o78 P) :: (nat_lit 125, o0 P) :: (nat_lit 126, o1 P) :: (nat_lit 127, o81 P) :: (nat_lit 128, o0 P) :: (nat_lit 129, o82 P) :: (nat_lit 130, o83 P) :: (nat_lit 131, o84 P) :: (nat_lit 132, o0 P) :: (nat_lit 133, o1 P) :: (nat_lit 134, o85 P) :: (nat_lit 135, o0 P) :: (nat_lit 136, o86 P) :: (nat_lit 137, o87 P) :: (nat_lit 138, o88 P) :: (nat_lit 139, o0 P) :: (nat_lit 140, o1 P) :: (nat_lit 141, o89 P) :: (nat_lit 142, o0 P) :: (nat_lit 143, o90 P) :: (nat_lit 144, o91 P) :: (nat_lit 145, o92 P) :: (nat_lit 146, o0 P) :: (nat_lit 147, o1 P) :: (nat_lit 148, o93 P) :: (nat_lit 149, o0 P) :: (nat_lit 150, o94 P) :: (nat_lit 151, o95 P) :: (nat_lit 152, o96 P) :: (nat_lit 153, o0 P) :: (nat_lit 154, o1 P) :: (nat_lit 155, o97 P) :: (nat_lit 156, o98 P) :: (nat_lit 157, o99 P) :: (nat_lit 158, o0 P) :: (nat_lit 159, o1 P) :: (nat_lit 160, o100 P) :: (nat_lit 161, o0 P) :: (nat_lit 162, o101 P) :: (nat_lit 163, o102 P) :: (nat_lit 164, o103 P) :: (nat_lit 165, o0 P) :: (nat_lit 166, o1 P) :: (nat_lit 167, o104 P) :: (nat_lit 168, o105 P) :: (nat_lit 169, o106 P) :: (nat_lit 170, o0 P) :: (nat_lit 171, o1 P) :: (nat_lit 172, o107 P) :: (nat_lit 173, o108 P) :: (nat_lit 174, o109 P) :: (nat_lit 175, o0 P) :: (nat_lit 176, o1 P) :: (nat_lit 177, o110 P) :: (nat_lit 178, o0 P) :: (nat_lit 179, o111 P) :: (nat_lit 180, o112 P) :: (nat_lit 181, o113 P) :: (nat_lit 182, o0 P) :: (nat_lit 183, o1 P) :: (nat_lit 184, o114 P) :: (nat_lit 185, o0 P) :: (nat_lit 186, o115 P) :: (nat_lit 187, o116 P) :: (nat_lit 188, o117 P) :: (nat_lit 189, o0 P) :: (nat_lit 190, o1 P) :: (nat_lit 191, o118 P) :: (nat_lit 192, o119 P) :: (nat_lit 193, o120 P) :: (nat_lit 194, o0 P) :: (nat_lit 195, o1 P) :: (nat_lit 196, o123 P) :: (nat_lit 197, o124 P) :: (nat_lit 198, o125 P) :: (nat_lit 199, o0 P) :: (nat_lit 200, o1 P) :: (nat_lit 201, o126 P) :: (nat_lit 202, o0 P) :: (nat_lit 203, o127 P) :: (nat_lit 204, o128 P) :: (nat_lit 205, o129 P) :: (nat_lit 206, o0 P) :: (nat_lit 207, o1 P) :: (nat_lit 208, o130 P) :: (nat_lit 209, o0 P) :: (nat_lit 210, o131 P) :: (nat_lit 211, o132 P) :: (nat_lit 212, o133 P) :: (nat_lit 213, o0 P) :: (nat_lit 214, o1 P) :: (nat_lit 215, o134 P) :: (nat_lit 216, o135 P) :: (nat_lit 217, o136 P) :: (nat_lit 218, o0 P) :: (nat_lit 219, o1 P) :: (nat_lit 220, o137 P) :: (nat_lit 221, o138 P) :: (nat_lit 222, o139 P) :: (nat_lit 223, o0 P) :: (nat_lit 224, o1 P) :: (nat_lit 225, o140 P) :: (nat_lit 226, o0 P) :: (nat_lit 227, o141 P) :: (nat_lit 228, o142 P) :: (nat_lit 229, o143 P) :: (nat_lit 230, o0 P) :: (nat_lit 231, o1 P) :: (nat_lit 232, o144 P) :: (nat_lit 233, o0 P) :: (nat_lit 234, o145 P) :: (nat_lit 235, o146 P) :: (nat_lit 236, o147 P) :: (nat_lit 237, o0 P) :: (nat_lit 238, o1 P) :: (nat_lit 239, o148 P) :: (nat_lit 240, o0 P) :: (nat_lit 241, o149 P) :: (nat_lit 242, o150 P) :: (nat_lit 243, o151 P) :: (nat_lit 244, o0 P) :: (nat_lit 245, o1 P) :: (nat_lit 246, o152 P) :: (nat_lit 247, o153 P) :: (nat_lit 248, o154 P) :: (nat_lit 249, o0 P) :: (nat_lit 250, o1 P) :: (nat_lit 251, o155 P) :: (nat_lit 252, o0 P) :: (nat_lit 253, o156 P) :: (nat_lit 254, o157 P) :: (nat_lit 255, o158 P) :: (nat_lit 256, o0 P) :: (nat_lit 257, o1 P) :: (nat_lit 258, o159 P) :: (nat_lit 259, o0 P) :: (nat_lit 260, o160 P) :: (nat_lit 261, o161 P) :: (nat_lit 262, o162 P) :: (nat_lit 263, o0 P) :: (nat_lit 264, o1 P) :: (nat_lit 265, o163 P) :: (nat_lit 266, o0 P) :: (nat_lit 267, o164 P) :: (nat_lit 268, o165 P) :: (nat_lit 269, o166 P) :: (nat_lit 270, o0 P) :: (nat_lit 271, o1 P) :: (nat_lit 272, o167 P) :: (nat_lit 273, o0 P) :: (nat_lit 274, o168 P) :: (nat_lit 275, o169 P) :: (nat_lit 276, o170 P) :: (nat_lit 277, o0 P) :: (nat_lit 278, o1 P) :: (nat_lit 279, o171 P) :: (nat_lit 280, o0 P) :: (nat_lit 281, o172 P) :: (nat_lit 282, o173 P) :: (nat_lit 283, o174 P) :: (nat_lit 284, o0 P) :: (nat_lit 285, o1 P) :: (nat_lit 286, o175 P) :: (nat_lit 287, o0 P) :: (nat_lit 288, o176 P) :: (nat_lit 289, o177 P) :: (nat_lit 290, o178 P) :: (nat_lit 291, o0 P) :: (nat_lit 292, o1 P) :: (nat_lit 293, o179 P) :: (nat_lit 294, o0 P) :: (nat_lit 295, o180 P) :: (nat_lit 296, o181 P) :: (nat_lit 297, o182 P) :: (nat_lit 298, o0 P) :: (nat_lit 299, o1 P) :: (nat_lit 300, o183 P) :: (nat_lit 301, o0 P) :: (nat_lit 302, o184 P) :: (nat_lit 303, o185 P) :: (nat_lit 304, o186 P) :: (nat_lit 305, o0 P) :: (nat_lit 306, o1 P) :: (nat_lit 307, o187 P) :: (nat_lit 308, o0 P) :: (nat_lit 309, o188 P) :: (nat_lit 310, o189 P) :: (nat_lit 311, o190 P) :: (nat_lit 312, o0 P) :: (nat_lit 313, o1 P) :: (nat_lit 314, o191 P) :: (nat_lit 315, o0 P) :: (nat_lit 316, o192 P) :: (nat_lit 317, o193 P) :: (nat_lit 318, o194 P) :: (nat_lit 319, o0 P) :: (nat_lit 320, o1 P) :: (nat_lit 321, o195 P) :: (nat_lit 322, o0 P) :: (nat_lit 323, o196 P) :: (nat_lit 324, o197 P) :: (nat_lit 325, o198 P) :: (nat_lit 326, o0 P) :: (nat_lit 327, o1 P) :: (nat_lit 328, o199 P) :: (nat_lit 329, o200 P) :: (nat_lit 330, o201 P) :: (nat_lit 331, o0 P) :: (nat_lit 332, o1 P) :: (nat_lit 333, o202 P) :: (nat_lit 334, o0 P) :: (nat_lit 335, o203 P) :: (nat_lit 336, o204 P) :: (nat_lit 337, o205 P) :: (nat_lit 338, o0 P) :: (nat_lit 339, o1 P) :: (nat_lit 340, o206 P) :: (nat_lit 341, o0 P) :: (nat_lit 342, o207 P) :: (nat_lit 343, o208 P) :: (nat_lit 344, o209 P) :: (nat_lit 345, o0 P) :: (nat_lit 346, o1 P) :: (nat_lit 347, o210 P) :: (nat_lit 348, o0 P) :: (nat_lit 349, o211 P) :: (nat_lit 350, o212 P) :: (nat_lit 351, o213 P) :: (nat_lit 352, o0 P) :: (nat_lit 353, o1 P) :: (nat_lit 354, o214 P) :: (nat_lit 355, o0 P) :: (nat_lit 356, o215 P) :: (nat_lit 357, o216 P) :: (nat_lit 358, o217 P) :: (nat_lit 359, o0 P) :: (nat_lit 360, o1 P) :: (nat_lit 361, o218 P) :: (nat_lit 362, o0 P) :: (nat_lit 363, o219 P) :: (nat_lit 364, o220 P) :: (nat_lit 365, o221 P) :: []
noncomputable abbrev as : List Addr := [0, 1, 2, 3, 4, 5, 6, 7, 8, 9, 10, 11, 12, 13, 14, 15, 22, 23, 24, 25, 28, 35, 36, 37, 40, 47, 48, 49, 52, 59, 60, 61, 62, 63, 64, 65, 66, 67, 68, 71, 78, 79, 80, 83, 84, 85, 86, 87, 88, 89, 90, 91, 92, 93, 94, 95, 96, 97, 98, 99, 100, 101, 102, 103, 111, 112, 113, 114, 115, 116, 117, 118, 119, 120, 121, 122, 125, 126, 127, 128, 129, 130, 131, 132, 133, 134, 135, 136, 137, 138, 139, 140, 141, 142, 143, 144, 145, 146, 147, 148, 149, 150, 151, 152, 153, 154, 155, 156, 157, 158, 159, 160, 161, 162, 163, 164, 165, 166, 167, 168, 169, 170, 171, 172, 173, 174, 175, 176, 177, 178, 179, 180, 181, 182, 183, 184, 185, 186, 187, 188, 189, 190, 191, 192, 193, 194, 195, 196, 197, 198, 199, 200, 201, 202, 203, 204, 205, 206, 207, 208, 209, 210, 211, 212, 213, 214, 215, 216, 217, 218, 219, 220, 221, 222, 223, 224, 225, 226, 227, 228, 229, 230, 231, 232, 233, 234, 235, 236, 237, 238, 239, 240, 241, 242, 243, 244, 245, 246, 247, 248, 249, 250, 251, 252, 253, 254, 255, 256, 257, 258, 259, 260, 261, 262, 263, 264, 265, 266, 267, 268, 269, 270, 271, 272, 273, 274, 275, 276, 277, 278, 279, 280, 281, 282, 283, 284, 285, 286, 287, 288, 289, 290, 291, 292, 293, 294, 295, 296, 297, 298, 299, 300, 301, 302, 303, 304, 305, 306, 307, 308, 309, 310, 311, 312, 313, 314, 315, 316, 317, 318, 319, 320, 321, 322, 323, 324, 325, 326, 327, 328, 329, 330, 331, 332, 333, 334, 335, 336, 337, 338, 339, 340, 341, 342, 343, 344, 345, 346, 347, 348, 349, 350, 351, 352, 353, 354, 355, 356, 357, 358, 359, 360, 361, 362, 363, 364, 365]
noncomputable abbrev q : Program := view PySem.Challenge.pw_pegleap_k15_standings_refused [1, 2, 3, 4, 5, 7, 8, 9, 10, 11, 12, 13, 14, 15, 16, 17, 19, 20, 21, 22, 23, 24, 25, 26, 28, 29, 30, 31, 32, 34, 35, 36, 37, 38, 39, 40, 41, 42, 43, 44, 45, 46, 48, 49, 50, 51, 52, 53, 54, 55, 56]
noncomputable abbrev loose : List Str := []
noncomputable abbrev lv : List (Str × WData) := []
noncomputable def dL : DefRec := match st 56 with | .FunctionDef n a b _ _ _ sc _ _ ps => ⟨n, a, b, sc, ps⟩ | _ => ⟨default, default, [], default, ⟨0, 0, 0, 0⟩⟩
theorem ws : PySem.Challenge.rw_pegleap_k15_standings_refused.wellSaid = true := by kernel_rfl
theorem size (w : World) : ((boot_heap w.params).isNs mainGlobals && (#[] : Array GenState).size == 0, (boot_heap w.params).objs.size, (boot_heap w.params).nsMap mainGlobals "__annotations__") = (true, 11, (some (.ref 6))) := by kernel_rfl
theorem looks (w : World) : (fun os => ((staticsOk (importedModules pq.main.body) (boot_heap w.params) (H1 w.params) && namesBound pq (H1 w.params) && gensDone ⟨H1 w.params, #[], ⟨0, 0, 0, 0⟩, 701, os⟩ && laidKept (boot_heap w.params) (H1 w.params)), openSeen q loose (importedModules pq.main.body) (fun s => xlAt q lv s && recOk (RowW.records (OpenRow.toRowW (OpenLaw.row PySem.Challenge.rw_pegleap_k15_standings_refused))) s) true ⟨H1 w.params, #[], ⟨0, 0, 0, 0⟩, 701, os⟩, (fun s : Shared => as.map s.heap.get?) ⟨H1 w.params, #[], ⟨0, 0, 0, 0⟩, 701, os⟩)) = fun _ => (true, openGood q loose, (fun w : World => (K w.params).map fun p => some p.2) w) := by kernel_rfl
theorem hl : LeftO pq q loose (fun s => xlAt q lv s && recOk (RowW.records (OpenRow.toRowW (OpenLaw.row PySem.Challenge.rw_pegleap_k15_standings_refused))) s) (fun s : Shared => as.map s.heap.get?) (fun w : World => (K w.params).map fun p => some p.2) 5384 :=
  LeftO.of_pieces (boot_open (by kernel_rfl) (by kernel_rfl) (fun s => by kernel_rfl)) size run (by kernel_rfl) looks
end Hd
end
open PySem PySem.W PyProof.Rows
set_option maxRecDepth 100000 in
set_option maxHeartbeats 0 in
theorem PySem.Challenge.cw_pegleap_k15_standings_refused_holds : PySem.Challenge.rw_pegleap_k15_standings_refused.Holds := by
  refine holds_law Hd.ws fun said => ?_
  refine holds_openX (r := OpenLaw.row PySem.Challenge.rw_pegleap_k15_standings_refused) (d := Hd.dL) (kwd := []) Hd.hl (fun s e => xl_of s (Bool.and_eq_true_iff.mp e).1) XL.keeps (by kernel_rfl) (by kernel_rfl) (by kernel_rfl) (fun s e => recFacts_of (Bool.and_eq_true_iff.mp e).2) (by kernel_rfl) said (by kernel_rfl) ⟨rfl, rfl, rfl, rfl, rfl, by kernel_rfl⟩ ?hw ?hc
  (case hw => w_on; w_witness2)
  k_fill
  refine Pk.walkY (l := PySem.Challenge.rw_pegleap_k15_standings_refused) (by kernel_rfl) (by kernel_rfl) (fun _ => by kernel_rfl) ?F
  case F =>
    intro w mg fa h KX G hmg
    refine Pk.fn_mk (h := h) hmg ?T (fun t ns hl => Pk.m_law t ns)
    refine' Pk.txt_mk KX G ?a_is_rising ?l_is_rising ?c_is_rising ?k_is_rising ?a_is_cell ?l_is_cell ?c_is_cell ?k_is_cell ?a_check_cells ?l_check_cells ?c_check_cells ?k_check_cells ?a_check_pegs ?l_check_pegs ?c_check_pegs ?k_check_pegs ?a_turned ?l_turned ?c_turned ?k_turned ?a_open_leaps ?l_open_leaps ?c_open_leaps ?k_open_leaps ?a_walked ?l_walked ?c_walked ?k_walked ?a_leapt ?l_leapt ?c_leapt ?k_leapt ?a_class_of ?l_class_of ?c_class_of ?k_class_of ?a_check_weights ?l_check_weights ?c_check_weights ?k_check_weights ?a_weight ?l_weight ?c_weight ?k_weight ?a_reached ?l_reached ?c_reached ?k_reached ?a_answer ?l_answer ?c_answer ?k_answer ?a_holds ?l_holds ?c_holds ?k_holds ?a_row_count ?l_row_count ?c_row_count ?k_row_count ?a__law_cell_at ?l__law_cell_at ?c__law_cell_at ?k__law_cell_at ?a__law_mix ?l__law_mix ?c__law_mix ?k__law_mix ?a__law_cells_by ?l__law_cells_by ?c__law_cells_by ?k__law_cells_by ?a__law_pegs_by ?l__law_pegs_by ?c__law_pegs_by ?k__law_pegs_by ?a__law_hurt ?l__law_hurt ?c__law_hurt ?k__law_hurt ?a__law_first ?l__law_first ?c__law_first ?k__law_first ?a__law_second ?l__law_second ?c__law_second ?k__law_second ?a__law_met ?l__law_met ?c__law_met ?k__law_met ?a_law ?l_law ?c_law ?k_law ?m_PegError ?m_BadBoard ?m_BadPegs ?m_NoLeap ?m_BadWeights ?m_Board ?e_PegError ?e_BadBoard ?e_BadPegs ?q1_BadPegs ?q5_BadPegs ?q6_BadPegs ?q2_BadPegs ?q3_BadPegs ?q4_BadPegs ?e_BadWeights ?q1_BadWeights ?q5_BadWeights ?q6_BadWeights ?q2_BadWeights ?q3_BadWeights ?q4_BadWeights ?s_PegError_BadPegs ?s_PegError_BadWeights ?cl_PegError ?ty_PegError ?s_BadPegs_BadPegs ?s_BadPegs_BadWeights ?cl_BadPegs ?ty_BadPegs ?s_NoLeap_BadPegs ?s_NoLeap_BadWeights ?cl_NoLeap ?ty_NoLeap ?s_BadWeights_BadPegs ?s_BadWeights_BadWeights ?cl_BadWeights ?ty_BadWeights ?ss_NoLeap ?sp0 ?tk0 ?z_enumerate ?z_isinstance ?z_len ?z_list ?z_range ?z_set ?z_sorted ?g_LAST ?g_LEAST ?g_MOST ?g_MOST_CELLS ?aI_ ?iI_ ?lI_ ?cI_ ?kI_ ?pgB ?hdB ?poB ?saB ?mkB ?kcB ?naB
    (case a_is_rising => k_is)
    (case l_is_rising => k_is)
    (case c_is_rising => k_is)
    (case k_is_rising => k_is)
    (case a_is_cell => k_is)
    (case l_is_cell => k_is)
    (case c_is_cell => k_is)
    (case k_is_cell => k_is)
    (case a_check_cells => k_is)
    (case l_check_cells => k_is)
    (case c_check_cells => k_is)
    (case k_check_cells => k_is)
    (case a_check_pegs => k_is)
    (case l_check_pegs => k_is)
    (case c_check_pegs => k_is)
    (case k_check_pegs => k_is)
    (case a_turned => k_is)
    (case l_turned => k_is)
    (case c_turned => k_is)
    (case k_turned => k_is)
    (case a_open_leaps => k_is)
    (case l_open_leaps => k_is)
    (case c_open_leaps => k_is)
    (case k_open_leaps => k_is)
    (case a_walked => k_is)
    (case l_walked => k_is)
    (case c_walked => k_is)
    (case k_walked => k_is)
    (case a_leapt => k_is)
    (case l_leapt => k_is)
    (case c_leapt => k_is)
    (case k_leapt => k_is)
    (case a_class_of => k_is)
    (case l_class_of => k_is)
    (case c_class_of => k_is)
    (case k_class_of => k_is)
    (case a_check_weights => k_is)
    (case l_check_weights => k_is)
    (case c_check_weights => k_is)
    (case k_check_weights => k_is)
    (case a_weight => k_is)
    (case l_weight => k_is)
    (case c_weight => k_is)
    (case k_weight => k_is)
    (case a_reached => k_is)
    (case l_reached => k_is)
    (case c_reached => k_is)
    (case k_reached => k_is)
    (case a_answer => k_is)
    (case l_answer => k_is)
    (case c_answer => k_is)
    (case k_answer => k_is)
    (case a_holds => k_is)
    (case l_holds => k_is)
    (case c_holds => k_is)
    (case k_holds => k_is)
    (case a_row_count => k_is)
    (case l_row_count => k_is)
    (case c_row_count => k_is)
    (case k_row_count => k_is)
    (case a__law_cell_at => k_is)
    (case l__law_cell_at => k_is)
    (case c__law_cell_at => k_is)
    (case k__law_cell_at => k_is)
    (case a__law_mix => k_is)
    (case l__law_mix => k_is)
    (case c__law_mix => k_is)
    (case k__law_mix => k_is)
    (case a__law_cells_by => k_is)
    (case l__law_cells_by => k_is)
    (case c__law_cells_by => k_is)
    (case k__law_cells_by => k_is)
    (case a__law_pegs_by => k_is)
    (case l__law_pegs_by => k_is)
    (case c__law_pegs_by => k_is)
    (case k__law_pegs_by => k_is)
    (case a__law_hurt => k_is)
    (case l__law_hurt => k_is)
    (case c__law_hurt => k_is)
    (case k__law_hurt => k_is)
    (case a__law_first => k_is)
    (case l__law_first => k_is)
    (case c__law_first => k_is)
    (case k__law_first => k_is)
    (case a__law_second => k_is)
    (case l__law_second => k_is)
    (case c__law_second => k_is)
    (case k__law_second => k_is)
    (case a__law_met => k_is)
    (case l__law_met => k_is)
    (case c__law_met => k_is)
    (case k__law_met => k_is)
    (case a_law => k_is)
    (case l_law => k_is)
    (case c_law => k_is)
    (case k_law => k_is)
    (case m_PegError => k_is)
    (case m_BadBoard => k_is)
    (case m_BadPegs => k_is)
    (case m_NoLeap => k_is)
    (case m_BadWeights => k_is)
    (case m_Board => k_is)
    (case e_PegError => kernel_rfl)
    (case e_BadBoard => kernel_rfl)
    (case e_BadPegs => kernel_rfl)
    (case q1_BadPegs => k_is)
    (case q5_BadPegs => k_is)
    (case q6_BadPegs => k_is)
    (case q2_BadPegs => k_is)
    (case q3_BadPegs => k_is)
    (case q4_BadPegs => k_is)
    (case e_BadWeights => kernel_rfl)
    (case q1_BadWeights => k_is)
    (case q5_BadWeights => k_is)
    (case q6_BadWeights => k_is)
    (case q2_BadWeights => k_is)
    (case q3_BadWeights => k_is)
    (case q4_BadWeights => k_is)
    (case s_PegError_BadPegs => k_is)
    (case s_PegError_BadWeights => k_is)
    (case cl_PegError => k_is)
    (case ty_PegError => k_is)
    (case s_BadPegs_BadPegs => k_is)
    (case s_BadPegs_BadWeights => k_is)
    (case cl_BadPegs => k_is)
    (case ty_BadPegs => k_is)
    (case s_NoLeap_BadPegs => k_is)
    (case s_NoLeap_BadWeights => k_is)
    (case cl_NoLeap => k_is)
    (case ty_NoLeap => k_is)
    (case s_BadWeights_BadPegs => k_is)
    (case s_BadWeights_BadWeights => k_is)
    (case cl_BadWeights => k_is)
    (case ty_BadWeights => k_is)
    (case ss_NoLeap => k_is)
    (case sp0 => k_is)
    (case tk0 => k_is)
    (case z_enumerate => k_is)
    (case z_isinstance => k_is)
    (case z_len => k_is)
    (case z_list => k_is)
    (case z_range => k_is)
    (case z_set => k_is)
    (case z_sorted => k_is)
    (case g_LAST => k_is)
    (case g_LEAST => k_is)
    (case g_MOST => k_is)
    (case g_MOST_CELLS => k_is)
    (case aI_ => k_is)
    (case iI_ => k_is)
    (case lI_ => k_is)
    (case cI_ => k_is)
    (case kI_ => k_is)
    (case pgB => k_is)
    (case hdB => k_is)
    (case poB => k_is)
    (case saB => k_is)
    (case mkB => k_is)
    (case kcB => k_is)
    (case naB => k_is)
end T_K15z
