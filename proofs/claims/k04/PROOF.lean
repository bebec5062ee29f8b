import PyProof.Rows.All
import Wide.All
import OpenK.AllK
import Wide.FinOn
import PySem.Challenge.RW_pegleap_k04_rows_walked
import PySem.SetOps
import Lean
import PyProof.EqAt
import PyProof.EqKinds
import PyProof.TupleCall
import PyProof.NeKinds
import KE.KIsAll
import PyProof.ExcAttrAll.ValueError
import OpenK.KDescr
import PyProof.ZipIter
import KE.KDictOf
import PyProof.AttrMissHeap
import PyProof.FactsAll.zip_1
import PyProof.DictRoadsH
import PyProof.EnumMake
import PyProof.ConsumeWalk
import PyProof.FactsAll.list_3
import PyProof.SumWalkG
import PyProof.WalkInts
import PyProof.SeqI3
import PyProof.ExcInit
import PyProof.ExcClass3
import PyProof.ExcBaseAll.ValueError
import OpenK.KCls
import PyProof.NsCount
import PyProof.Conv_int_bool
set_option Elab.async false
set_option linter.all false
set_option maxRecDepth 100000
set_option maxHeartbeats 4000000
section T_XB
theorem x0_3 {p0 p1 p2:Prop} {G:Prop} (h:p0 /\ p1 /\ p2) (f:p0 -> p1 -> p2 -> G):G:=f h.1 h.2.1 h.2.2
theorem x1_2 {α0:Sort _} {p0 p1:α0 -> Prop} {G:Prop} (h:∃ a0,p0 a0 /\ p1 a0) (f:∀ a0,p0 a0 -> p1 a0 -> G):G:=h.elim fun a0 h=>f a0 h.1 h.2
theorem x2_1 {α0 α1:Sort _} {p0:α0 -> α1 -> Prop} {G:Prop} (h:∃ a0 a1,p0 a0 a1) (f:∀ a0 a1,p0 a0 a1 -> G):G:=h.elim fun a0 h=>h.elim fun a1 h=>f a0 a1 h
theorem x0_4 {p0 p1 p2 p3:Prop} {G:Prop} (h:p0 /\ p1 /\ p2 /\ p3) (f:p0 -> p1 -> p2 -> p3 -> G):G:=f h.1 h.2.1 h.2.2.1 h.2.2.2
theorem x1_3 {α0:Sort _} {p0 p1 p2:α0 -> Prop} {G:Prop} (h:∃ a0,p0 a0 /\ p1 a0 /\ p2 a0) (f:∀ a0,p0 a0 -> p1 a0 -> p2 a0 -> G):G:=h.elim fun a0 h=>f a0 h.1 h.2.1 h.2.2
theorem x2_2 {α0 α1:Sort _} {p0 p1:α0 -> α1 -> Prop} {G:Prop} (h:∃ a0 a1,p0 a0 a1 /\ p1 a0 a1) (f:∀ a0 a1,p0 a0 a1 -> p1 a0 a1 -> G):G:=h.elim fun a0 h=>h.elim fun a1 h=>f a0 a1 h.1 h.2
theorem x0_5 {p0 p1 p2 p3 p4:Prop} {G:Prop} (h:p0 /\ p1 /\ p2 /\ p3 /\ p4) (f:p0 -> p1 -> p2 -> p3 -> p4 -> G):G:=f h.1 h.2.1 h.2.2.1 h.2.2.2.1 h.2.2.2.2
theorem x2_3 {α0 α1:Sort _} {p0 p1 p2:α0 -> α1 -> Prop} {G:Prop} (h:∃ a0 a1,p0 a0 a1 /\ p1 a0 a1 /\ p2 a0 a1) (f:∀ a0 a1,p0 a0 a1 -> p1 a0 a1 -> p2 a0 a1 -> G):G:=h.elim fun a0 h=>h.elim fun a1 h=>f a0 a1 h.1 h.2.1 h.2.2
theorem x3_2 {α0 α1 α2:Sort _} {p0 p1:α0 -> α1 -> α2 -> Prop} {G:Prop} (h:∃ a0 a1 a2,p0 a0 a1 a2 /\ p1 a0 a1 a2) (f:∀ a0 a1 a2,p0 a0 a1 a2 -> p1 a0 a1 a2 -> G):G:=h.elim fun a0 h=>h.elim fun a1 h=>h.elim fun a2 h=>f a0 a1 a2 h.1 h.2
theorem x0_6 {p0 p1 p2 p3 p4 p5:Prop} {G:Prop} (h:p0 /\ p1 /\ p2 /\ p3 /\ p4 /\ p5) (f:p0 -> p1 -> p2 -> p3 -> p4 -> p5 -> G):G:=f h.1 h.2.1 h.2.2.1 h.2.2.2.1 h.2.2.2.2.1 h.2.2.2.2.2
theorem x1_5 {α0:Sort _} {p0 p1 p2 p3 p4:α0 -> Prop} {G:Prop} (h:∃ a0,p0 a0 /\ p1 a0 /\ p2 a0 /\ p3 a0 /\ p4 a0) (f:∀ a0,p0 a0 -> p1 a0 -> p2 a0 -> p3 a0 -> p4 a0 -> G):G:=h.elim fun a0 h=>f a0 h.1 h.2.1 h.2.2.1 h.2.2.2.1 h.2.2.2.2
theorem x2_4 {α0 α1:Sort _} {p0 p1 p2 p3:α0 -> α1 -> Prop} {G:Prop} (h:∃ a0 a1,p0 a0 a1 /\ p1 a0 a1 /\ p2 a0 a1 /\ p3 a0 a1) (f:∀ a0 a1,p0 a0 a1 -> p1 a0 a1 -> p2 a0 a1 -> p3 a0 a1 -> G):G:=h.elim fun a0 h=>h.elim fun a1 h=>f a0 a1 h.1 h.2.1 h.2.2.1 h.2.2.2
theorem x3_3 {α0 α1 α2:Sort _} {p0 p1 p2:α0 -> α1 -> α2 -> Prop} {G:Prop} (h:∃ a0 a1 a2,p0 a0 a1 a2 /\ p1 a0 a1 a2 /\ p2 a0 a1 a2) (f:∀ a0 a1 a2,p0 a0 a1 a2 -> p1 a0 a1 a2 -> p2 a0 a1 a2 -> G):G:=h.elim fun a0 h=>h.elim fun a1 h=>h.elim fun a2 h=>f a0 a1 a2 h.1 h.2.1 h.2.2
theorem x4_2 {α0 α1 α2 α3:Sort _} {p0 p1:α0 -> α1 -> α2 -> α3 -> Prop} {G:Prop} (h:∃ a0 a1 a2 a3,p0 a0 a1 a2 a3 /\ p1 a0 a1 a2 a3) (f:∀ a0 a1 a2 a3,p0 a0 a1 a2 a3 -> p1 a0 a1 a2 a3 -> G):G:=h.elim fun a0 h=>h.elim fun a1 h=>h.elim fun a2 h=>h.elim fun a3 h=>f a0 a1 a2 a3 h.1 h.2
theorem x5_1 {α0 α1 α2 α3 α4:Sort _} {p0:α0 -> α1 -> α2 -> α3 -> α4 -> Prop} {G:Prop} (h:∃ a0 a1 a2 a3 a4,p0 a0 a1 a2 a3 a4) (f:∀ a0 a1 a2 a3 a4,p0 a0 a1 a2 a3 a4 -> G):G:=h.elim fun a0 h=>h.elim fun a1 h=>h.elim fun a2 h=>h.elim fun a3 h=>h.elim fun a4 h=>f a0 a1 a2 a3 a4 h
theorem x0_7 {p0 p1 p2 p3 p4 p5 p6:Prop} {G:Prop} (h:p0 /\ p1 /\ p2 /\ p3 /\ p4 /\ p5 /\ p6) (f:p0 -> p1 -> p2 -> p3 -> p4 -> p5 -> p6 -> G):G:=f h.1 h.2.1 h.2.2.1 h.2.2.2.1 h.2.2.2.2.1 h.2.2.2.2.2.1 h.2.2.2.2.2.2
theorem x2_5 {α0 α1:Sort _} {p0 p1 p2 p3 p4:α0 -> α1 -> Prop} {G:Prop} (h:∃ a0 a1,p0 a0 a1 /\ p1 a0 a1 /\ p2 a0 a1 /\ p3 a0 a1 /\ p4 a0 a1) (f:∀ a0 a1,p0 a0 a1 -> p1 a0 a1 -> p2 a0 a1 -> p3 a0 a1 -> p4 a0 a1 -> G):G:=h.elim fun a0 h=>h.elim fun a1 h=>f a0 a1 h.1 h.2.1 h.2.2.1 h.2.2.2.1 h.2.2.2.2
theorem x3_4 {α0 α1 α2:Sort _} {p0 p1 p2 p3:α0 -> α1 -> α2 -> Prop} {G:Prop} (h:∃ a0 a1 a2,p0 a0 a1 a2 /\ p1 a0 a1 a2 /\ p2 a0 a1 a2 /\ p3 a0 a1 a2) (f:∀ a0 a1 a2,p0 a0 a1 a2 -> p1 a0 a1 a2 -> p2 a0 a1 a2 -> p3 a0 a1 a2 -> G):G:=h.elim fun a0 h=>h.elim fun a1 h=>h.elim fun a2 h=>f a0 a1 a2 h.1 h.2.1 h.2.2.1 h.2.2.2
theorem x4_3 {α0 α1 α2 α3:Sort _} {p0 p1 p2:α0 -> α1 -> α2 -> α3 -> Prop} {G:Prop} (h:∃ a0 a1 a2 a3,p0 a0 a1 a2 a3 /\ p1 a0 a1 a2 a3 /\ p2 a0 a1 a2 a3) (f:∀ a0 a1 a2 a3,p0 a0 a1 a2 a3 -> p1 a0 a1 a2 a3 -> p2 a0 a1 a2 a3 -> G):G:=h.elim fun a0 h=>h.elim fun a1 h=>h.elim fun a2 h=>h.elim fun a3 h=>f a0 a1 a2 a3 h.1 h.2.1 h.2.2
theorem x2_6 {α0 α1:Sort _} {p0 p1 p2 p3 p4 p5:α0 -> α1 -> Prop} {G:Prop} (h:∃ a0 a1,p0 a0 a1 /\ p1 a0 a1 /\ p2 a0 a1 /\ p3 a0 a1 /\ p4 a0 a1 /\ p5 a0 a1) (f:∀ a0 a1,p0 a0 a1 -> p1 a0 a1 -> p2 a0 a1 -> p3 a0 a1 -> p4 a0 a1 -> p5 a0 a1 -> G):G:=h.elim fun a0 h=>h.elim fun a1 h=>f a0 a1 h.1 h.2.1 h.2.2.1 h.2.2.2.1 h.2.2.2.2.1 h.2.2.2.2.2
theorem x3_5 {α0 α1 α2:Sort _} {p0 p1 p2 p3 p4:α0 -> α1 -> α2 -> Prop} {G:Prop} (h:∃ a0 a1 a2,p0 a0 a1 a2 /\ p1 a0 a1 a2 /\ p2 a0 a1 a2 /\ p3 a0 a1 a2 /\ p4 a0 a1 a2) (f:∀ a0 a1 a2,p0 a0 a1 a2 -> p1 a0 a1 a2 -> p2 a0 a1 a2 -> p3 a0 a1 a2 -> p4 a0 a1 a2 -> G):G:=h.elim fun a0 h=>h.elim fun a1 h=>h.elim fun a2 h=>f a0 a1 a2 h.1 h.2.1 h.2.2.1 h.2.2.2.1 h.2.2.2.2
theorem x4_4 {α0 α1 α2 α3:Sort _} {p0 p1 p2 p3:α0 -> α1 -> α2 -> α3 -> Prop} {G:Prop} (h:∃ a0 a1 a2 a3,p0 a0 a1 a2 a3 /\ p1 a0 a1 a2 a3 /\ p2 a0 a1 a2 a3 /\ p3 a0 a1 a2 a3) (f:∀ a0 a1 a2 a3,p0 a0 a1 a2 a3 -> p1 a0 a1 a2 a3 -> p2 a0 a1 a2 a3 -> p3 a0 a1 a2 a3 -> G):G:=h.elim fun a0 h=>h.elim fun a1 h=>h.elim fun a2 h=>h.elim fun a3 h=>f a0 a1 a2 a3 h.1 h.2.1 h.2.2.1 h.2.2.2
theorem x3_6 {α0 α1 α2:Sort _} {p0 p1 p2 p3 p4 p5:α0 -> α1 -> α2 -> Prop} {G:Prop} (h:∃ a0 a1 a2,p0 a0 a1 a2 /\ p1 a0 a1 a2 /\ p2 a0 a1 a2 /\ p3 a0 a1 a2 /\ p4 a0 a1 a2 /\ p5 a0 a1 a2) (f:∀ a0 a1 a2,p0 a0 a1 a2 -> p1 a0 a1 a2 -> p2 a0 a1 a2 -> p3 a0 a1 a2 -> p4 a0 a1 a2 -> p5 a0 a1 a2 -> G):G:=h.elim fun a0 h=>h.elim fun a1 h=>h.elim fun a2 h=>f a0 a1 a2 h.1 h.2.1 h.2.2.1 h.2.2.2.1 h.2.2.2.2.1 h.2.2.2.2.2
theorem x4_5 {α0 α1 α2 α3:Sort _} {p0 p1 p2 p3 p4:α0 -> α1 -> α2 -> α3 -> Prop} {G:Prop} (h:∃ a0 a1 a2 a3,p0 a0 a1 a2 a3 /\ p1 a0 a1 a2 a3 /\ p2 a0 a1 a2 a3 /\ p3 a0 a1 a2 a3 /\ p4 a0 a1 a2 a3) (f:∀ a0 a1 a2 a3,p0 a0 a1 a2 a3 -> p1 a0 a1 a2 a3 -> p2 a0 a1 a2 a3 -> p3 a0 a1 a2 a3 -> p4 a0 a1 a2 a3 -> G):G:=h.elim fun a0 h=>h.elim fun a1 h=>h.elim fun a2 h=>h.elim fun a3 h=>f a0 a1 a2 a3 h.1 h.2.1 h.2.2.1 h.2.2.2.1 h.2.2.2.2
theorem x4_6 {α0 α1 α2 α3:Sort _} {p0 p1 p2 p3 p4 p5:α0 -> α1 -> α2 -> α3 -> Prop} {G:Prop} (h:∃ a0 a1 a2 a3,p0 a0 a1 a2 a3 /\ p1 a0 a1 a2 a3 /\ p2 a0 a1 a2 a3 /\ p3 a0 a1 a2 a3 /\ p4 a0 a1 a2 a3 /\ p5 a0 a1 a2 a3) (f:∀ a0 a1 a2 a3,p0 a0 a1 a2 a3 -> p1 a0 a1 a2 a3 -> p2 a0 a1 a2 a3 -> p3 a0 a1 a2 a3 -> p4 a0 a1 a2 a3 -> p5 a0 a1 a2 a3 -> G):G:=h.elim fun a0 h=>h.elim fun a1 h=>h.elim fun a2 h=>h.elim fun a3 h=>f a0 a1 a2 a3 h.1 h.2.1 h.2.2.1 h.2.2.2.1 h.2.2.2.2.1 h.2.2.2.2.2
theorem x9_3 {α0 α1 α2 α3 α4 α5 α6 α7 α8:Sort _} {p0 p1 p2:α0 -> α1 -> α2 -> α3 -> α4 -> α5 -> α6 -> α7 -> α8 -> Prop} {G:Prop} (h:∃ a0 a1 a2 a3 a4 a5 a6 a7 a8,p0 a0 a1 a2 a3 a4 a5 a6 a7 a8 /\ p1 a0 a1 a2 a3 a4 a5 a6 a7 a8 /\ p2 a0 a1 a2 a3 a4 a5 a6 a7 a8) (f:∀ a0 a1 a2 a3 a4 a5 a6 a7 a8,p0 a0 a1 a2 a3 a4 a5 a6 a7 a8 -> p1 a0 a1 a2 a3 a4 a5 a6 a7 a8 -> p2 a0 a1 a2 a3 a4 a5 a6 a7 a8 -> G):G:=h.elim fun a0 h=>h.elim fun a1 h=>h.elim fun a2 h=>h.elim fun a3 h=>h.elim fun a4 h=>h.elim fun a5 h=>h.elim fun a6 h=>h.elim fun a7 h=>h.elim fun a8 h=>f a0 a1 a2 a3 a4 a5 a6 a7 a8 h.1 h.2.1 h.2.2
end T_XB
section T_Tb
namespace Tb
open PySem PySem.SetTable
noncomputable def jl0 (mask:Nat) (p:Probe):Probe :=
 if p.more > 0 then { p with j:=p.j + 1,more:=p.more - 1 } else
  { p with j:=(leap mask p.i p.perturb).1,more:=runEnd mask (leap mask p.i p.perturb).1 - (leap mask p.i p.perturb).1,i:=(leap mask p.i p.perturb).1,perturb:=(leap mask p.i p.perturb).2 }
theorem jx1 (t:SetTable) (p:Probe):t.advance p = jl0 t.mask p:=by
 unfold SetTable.advance jl0; rfl
noncomputable def grp (mask i per:Nat):Probe:={ j:=i,more:=runEnd mask i - i,i:=i,perturb:=per,dummy:=none }
theorem ka9 (t:SetTable) (h:Int):t.probeStart h = grp t.mask (bits h % (t.mask + 1)) (bits h):=rfl
noncomputable def W (mask:Nat):Probe -> Nat -> Probe
 | p,0=>p
 | p,k + 1=>W mask (jl0 mask p) k
theorem jr4 (mask:Nat):∀ (a b:Nat) (p:Probe),W mask p (a + b) = W mask (W mask p a) b
 | 0,b,p=>by rw [Nat.zero_add]; rfl
 | a + 1,b,p=>by
  rw [show a + 1 + b = (a + b) + 1 by lia]
  show W mask (jl0 mask p) (a + b) = _
  rw [jr4 mask a b]; rfl
theorem qw2 (mask:Nat) (p:Probe) (k:Nat):W mask p (k + 1) = jl0 mask (W mask p k):=by
 rw [jr4 mask k 1 p]; rfl
theorem jw7 (mask:Nat) (p:Probe) (h:p.dummy = none):(jl0 mask p).dummy = none:=by
 unfold jl0; split <;> exact h
theorem kv0 (mask:Nat):∀ (k:Nat) (p:Probe),p.dummy = none -> (W mask p k).dummy = none
 | 0,_,h=>h
 | k + 1,p,h=>kv0 mask k _ (jw7 mask p h)
theorem qn8 (mask:Nat):∀ (k:Nat) (p:Probe),k <= p.more -> W mask p k = { p with j:=p.j + k,more:=p.more - k }
 | 0,p,_=>rfl
 | k + 1,p,h=>by
  show W mask (jl0 mask p) k = _
  have e:jl0 mask p = { p with j:=p.j + 1,more:=p.more - 1 }:=by unfold jl0; rw [if_pos (by lia)]
  rw [e,qn8 mask k _ (by show k <= p.more - 1; lia)]
  simp only [Probe.mk.injEq,and_true,true_and]
  lia
theorem ks7 (mask i per:Nat):W mask (grp mask i per) (runEnd mask i - i + 1) = grp mask (leap mask i per).1 (leap mask i per).2:=by
 rw [qw2,qn8 mask (runEnd mask i - i) (grp mask i per) (Nat.le_refl _)]
 unfold jl0
 rw [if_neg (by show ¬ (runEnd mask i - i - (runEnd mask i - i) > 0); lia)]
 rfl
theorem qv4 (mask i:Nat):runEnd mask i - i <= 9:=by unfold runEnd; split <;> lia
noncomputable def G (mask:Nat):Nat -> Nat -> Nat -> Nat × Nat
 | 0,i,per=>(i,per)
 | n + 1,i,per=>G mask n (leap mask i per).1 (leap mask i per).2
theorem kk9 (mask:Nat):∀ (n i per:Nat),∃ k,k <= 10 * n /\ W mask (grp mask i per) k = grp mask (G mask n i per).1 (G mask n i per).2
 | 0,i,per=>⟨0,by lia,rfl⟩
 | n + 1,i,per=>by
  refine x1_2 (kk9 mask n (leap mask i per).1 (leap mask i per).2) fun k hk e=>?_
  refine ⟨runEnd mask i - i + 1 + k,by have:=qv4 mask i; lia,?_⟩
  rw [jr4,ks7,e]; rfl
theorem vc4 (mask:Nat):∀ (n i per:Nat),(G mask n i per).2 = per / 32 ^ n
 | 0,i,per=>by simp [G]
 | n + 1,i,per=>by
  show (G mask n (leap mask i per).1 (leap mask i per).2).2 = _
  rw [vc4 mask n,show (leap mask i per).2 = per / 32 from rfl,Nat.div_div_eq_div_mul,Nat.pow_succ,Nat.mul_comm]
theorem vc8 (mask:Nat):∀ (a b i per:Nat),G mask (a + b) i per = G mask b (G mask a i per).1 (G mask a i per).2
 | 0,b,i,per=>by rw [Nat.zero_add]; rfl
 | a + 1,b,i,per=>by
  rw [show a + 1 + b = (a + b) + 1 by lia]
  show G mask (a + b) _ _ = _
  rw [vc8 mask a b]; rfl
theorem G_lt (mask:Nat):∀ (n i per:Nat),i < mask + 1 -> (G mask n i per).1 < mask + 1
 | 0,_,_,h=>h
 | n + 1,i,per,_=>G_lt mask n _ _ (Nat.mod_lt _ (Nat.succ_pos _))
noncomputable def seen (mask:Nat):Nat -> Nat -> Nat -> Nat
 | 0,_,acc=>acc
 | n + 1,i,acc=>seen mask n ((i * 5 + 1) % (mask + 1)) (acc ||| (1 <<< i))
theorem kn0 (mask e:Nat):∀ (n i acc:Nat),(seen mask n i acc).testBit e = true -> acc.testBit e = true \/ ∃ m,m < n /\ (G mask m i 0).1 = e
 | 0,i,acc,h=>.inl h
 | n + 1,i,acc,h=>by
  rcases kn0 mask e n _ _ h with h | ⟨m,hm,e'⟩
  ·rw [Nat.testBit_or,Bool.or_eq_true] at h
   rcases h with h | h
   ·exact .inl h
   ·refine .inr ⟨0,by lia,?_⟩
    rw [Nat.one_shiftLeft,Nat.testBit_two_pow] at h
    exact of_decide_eq_true h
  ·exact .inr ⟨m + 1,by lia,e'⟩
noncomputable def jn1 (mask:Nat):Bool:=(List.range (mask + 1)).all fun i=>seen mask (mask + 1) i 0 == 2 ^ (mask + 1) - 1
theorem vh7:jn1 7 = true:=by decide +kernel
theorem vd6:jn1 31 = true:=by decide +kernel
theorem qs1:jn1 127 = true:=by decide +kernel
noncomputable def Msk (mask:Nat):Prop:=mask = 7 \/ mask = 31 \/ mask = 127
theorem Msk.full {mask:Nat} (h:Msk mask):jn1 mask = true:=by
 rcases h with rfl | rfl | rfl
 ·exact vh7
 ·exact vd6
 ·exact qs1
theorem vf5 {mask:Nat} (hm:Msk mask) {i e:Nat} (hi:i < mask + 1) (he:e < mask + 1):∃ m,m < mask + 1 /\ (G mask m i 0).1 = e:=by
 have h:=hm.full
 unfold jn1 at h
 rw [List.all_eq_true] at h
 have q:=beq_iff_eq.mp (h i (List.mem_range.mpr hi))
 have b:(seen mask (mask + 1) i 0).testBit e = true:=by
  rw [q,Nat.testBit_two_pow_sub_one]; exact decide_eq_true he
 rcases kn0 mask e _ _ _ b with h0 | h0
 ·rw [Nat.zero_testBit] at h0; cases h0
 ·exact h0
theorem qs9 (h:Int):bits h < 2 ^ 64:=by
 unfold bits; lia
theorem kv1 {mask:Nat} (hm:Msk mask) (h:Int) {e:Nat} (he:e < mask + 1):∃ n,n <= mask + 13 /\ (G mask n (bits h % (mask + 1)) (bits h)).1 = e:=by
 have p0:(G mask 13 (bits h % (mask + 1)) (bits h)).2 = 0:=by
  rw [vc4]; exact Nat.div_eq_of_lt (Nat.lt_of_lt_of_le (qs9 h) (by decide))
 obtain ⟨m,hm',e'⟩:=vf5 hm (G_lt mask 13 _ (bits h) (Nat.mod_lt _ (Nat.succ_pos _))) he
 refine ⟨13 + m,by lia,?_⟩
 rw [vc8,p0]; exact e'
theorem vf3 {mask:Nat} (hm:Msk mask) (h:Int) {e:Nat} (he:e < mask + 1):∃ k,k <= 10 * (mask + 13) /\ (W mask (grp mask (bits h % (mask + 1)) (bits h)) k).j = e:=by
 refine x1_2 (kv1 hm h he) fun n hn e'=>?_
 refine x1_2 (kk9 mask n (bits h % (mask + 1)) (bits h)) fun k hk ek=>?_
 refine ⟨k,by lia,?_⟩
 rw [ek]; exact e'
noncomputable def Rises (xs:Array Nat):Prop:=∀ i j,i < j -> j < xs.size -> xs.getD i 0 < xs.getD j 0
theorem Rises.le {xs:Array Nat} (h:Rises xs) {i j:Nat} (hij:i <= j) (hj:j < xs.size):xs.getD i 0 <= xs.getD j 0:=by
 rcases Nat.lt_or_eq_of_le hij with h' | rfl
 ·exact Nat.le_of_lt (h i j h' hj)
 ·exact Nat.le_refl _
theorem qg2 (xs:Array Nat) {i a b:Nat} (h:i < xs.size):xs.getD i a = xs.getD i b:=by simp [Array.getD,h]
theorem jx9 {xs:Array Nat} (hr:Rises xs) (j:Nat):∀ (fuel lo hi:Nat),hi <= xs.size -> lo <= hi -> hi - lo <= fuel -> (∀ i,i < lo -> xs.getD i 0 < j) -> (∀ i,hi <= i -> i < xs.size -> j <= xs.getD i 0) ->
  lo <= below.go xs j fuel lo hi /\ below.go xs j fuel lo hi <= xs.size /\ (∀ i,i < below.go xs j fuel lo hi -> xs.getD i 0 < j) /\ ∀ i,below.go xs j fuel lo hi <= i -> i < xs.size -> j <= xs.getD i 0
 | 0,lo,hi,h1,h2,h3,a,b=>by
  have:hi = lo:=by lia
  subst this
  exact ⟨Nat.le_refl _,h1,a,b⟩
 | fuel + 1,lo,hi,h1,h2,h3,a,b=>by
  unfold below.go
  by_cases hlt:lo < hi
  ·rw [if_pos hlt]
   dsimp only
   have hm:(lo + hi) / 2 < xs.size:=by lia
   rw [qg2 xs (b:=0) hm]
   by_cases hc:xs.getD ((lo + hi) / 2) 0 < j
   ·rw [if_pos hc]
    have q:=jx9 hr j fuel ((lo + hi) / 2 + 1) hi h1 (by lia) (by lia) (fun i hi'=>Nat.lt_of_le_of_lt (hr.le (by lia) hm) hc) b
    exact ⟨by lia,q.2⟩
   ·rw [if_neg hc]
    have q:=jx9 hr j fuel lo ((lo + hi) / 2) (by lia) (by lia) (by lia) a (fun i hi' hs=>Nat.le_trans (Nat.le_of_not_lt hc) (hr.le hi' hs))
    exact ⟨by lia,q.2⟩
  ·rw [if_neg hlt]
   have:hi = lo:=by lia
   subst this
   exact ⟨Nat.le_refl _,h1,a,b⟩
theorem jk0 {xs:Array Nat} (hr:Rises xs) (j:Nat):below xs j <= xs.size /\ (∀ i,i < below xs j -> xs.getD i 0 < j) /\ ∀ i,below xs j <= i -> i < xs.size -> j <= xs.getD i 0 :=
 (jx9 hr j xs.size 0 xs.size (Nat.le_refl _) (Nat.zero_le _) (Nat.le_refl _) (fun i h=>absurd h (Nat.not_lt_zero _)) (fun i h h'=>absurd h' (Nat.not_lt.mpr h))).2
theorem qe2 {xs:Array Nat} (hr:Rises xs) {i:Nat} (hi:i < xs.size):below xs (xs.getD i 0) = i:=by
 refine x0_3 (jk0 hr (xs.getD i 0)) fun a b c=>?_
 rcases Nat.lt_trichotomy (below xs (xs.getD i 0)) i with h | h | h
 ·have:=c _ (Nat.le_refl _) (by lia)
  have:=hr _ _ h hi
  lia
 ·exact h
 ·have:=b i h
  lia
structure Good (t:SetTable) (n:Nat):Prop where
 size:t.place.size = n
 rise:Rises t.place
 le:∀ i,i < n -> t.place.getD i 0 <= t.mask
 dum:t.dummies = #[]
 msk:Msk t.mask
 few:n < t.mask
theorem ks9 (j:Nat):has #[] j = false:=by simp [has]
theorem kb7 {t:SetTable} {n i:Nat} (g:Good t n) (hi:i < n):t.slot (t.place.getD i 0) = .live i:=by
 have hs:i < t.place.size:=by rw [g.size]; exact hi
 unfold SetTable.slot
 dsimp only
 rw [qe2 g.rise hs,if_pos (by simp [Array.getD,hs])]
theorem jw6 {t:SetTable} {n:Nat} (g:Good t n) (j:Nat):(∃ i,i < n /\ t.place.getD i 0 = j /\ t.slot j = .live i) \/ ((∀ i,i < n -> t.place.getD i 0 ≠ j) /\ t.slot j = .empty):=by
 by_cases h:∃ i,i < n /\ t.place.getD i 0 = j
 ·refine x1_2 h fun i hi e=>?_
  clear h
  exact .inl ⟨i,hi,e,by rw [<- e]; exact kb7 g hi⟩
 ·refine .inr ⟨fun i hi e=>h ⟨i,hi,e⟩,?_⟩
  unfold SetTable.slot
  dsimp only
  rw [if_neg,g.dum,ks9]
  ·rfl
  ·intro q
   have q:=beq_iff_eq.mp q
   obtain ⟨hs,e⟩:=Array.getElem?_eq_some_iff.mp q
   exact h ⟨below t.place j,by rw [<- g.size]; exact hs,by simp [Array.getD,hs,e]⟩
theorem W6 {t:SetTable} {n:Nat} (g:Good t n) (j:Nat):t.slot j = .empty ↔ ∀ i,i < n -> t.place.getD i 0 ≠ j:=by
 rcases jw6 g j with ⟨i,hi,e,q⟩ | ⟨a,q⟩
 ·rw [q]; exact ⟨fun h=>(nomatch h),fun h=>absurd e (h i hi)⟩
 ·exact ⟨fun _=>a,fun _=>q⟩
theorem kv6 {xs:Array Nat} (h:Rises xs):∀ i,i < xs.size -> i <= xs.getD i 0
 | 0,_=>Nat.zero_le _
 | i + 1,hi=>by
  have a:=kv6 h i (by lia)
  have b:=h i (i + 1) (by lia) hi
  lia
theorem ko3 {t:SetTable} {n:Nat} (g:Good t n):∃ e,e < t.mask + 1 /\ t.slot e = .empty:=by
 by_cases h:∀ i,i < n -> t.place.getD i 0 = i
 ·refine ⟨n,by have:=g.few; lia,(W6 g n).mpr fun i hi e=>?_⟩
  rw [h i hi] at e; lia
 ·have:∃ i,i < n /\ t.place.getD i 0 ≠ i /\ ∀ k,k < i -> t.place.getD k 0 = k:=by
   have aux:∀ m,m <= n -> (∀ k,k < m -> t.place.getD k 0 = k) \/ ∃ i,i < n /\ t.place.getD i 0 ≠ i /\ ∀ k,k < i -> t.place.getD k 0 = k:=by
    intro m
    induction m with
    | zero=>intro _; exact .inl fun k hk=>absurd hk (Nat.not_lt_zero _)
    | succ m ih =>
     intro hm
     rcases ih (by lia) with a | a
     ·by_cases e:t.place.getD m 0 = m
      ·refine .inl fun k hk=>?_
       rcases Nat.lt_or_eq_of_le (Nat.le_of_lt_succ hk) with h' | rfl
       ·exact a k h'
       ·exact e
      ·exact .inr ⟨m,by lia,e,a⟩
     ·exact .inr a
   rcases aux n (Nat.le_refl _) with a | a
   ·exact absurd a h
   ·exact a
  refine x1_3 this fun i hi ne before=>?_
  clear this
  have hs:i < t.place.size:=by rw [g.size]; exact hi
  have ge:=kv6 g.rise i hs
  refine ⟨i,by have:=g.le i hi; lia,(W6 g i).mpr fun k hk e=>?_⟩
  rcases Nat.lt_trichotomy k i with h' | rfl | h'
  ·rw [before k h'] at e; lia
  ·exact ne e
  ·have:=g.rise i k h' (by rw [g.size]; exact hk)
   lia
theorem jn5 {α:Type} (xs:Array α) (p:Nat) (x:α):(SetTable.insertAt xs p x).toList = xs.toList.take p ++ x :: xs.toList.drop p:=by
 simp [SetTable.insertAt,List.extract_eq_take_drop,List.take_of_length_le]
theorem qh3 {α:Type} (xs:Array α) (p:Nat) (x:α) (hp:p <= xs.size):(SetTable.insertAt xs p x).size = xs.size + 1:=by
 rw [<- Array.length_toList,jn5,List.length_append,List.length_cons,List.length_take,List.length_drop,Array.length_toList]; lia
theorem jt6 {α:Type} (xs:Array α) (p:Nat) (x:α) (hp:p <= xs.size) (i:Nat):(SetTable.insertAt xs p x)[i]? = if i < p then xs[i]? else if i = p then some x else xs[i - 1]?:=by
 rw [<- Array.getElem?_toList,jn5]
 by_cases h1:i < p
 ·rw [if_pos h1,List.getElem?_append_left (by rw [List.length_take,Array.length_toList]; lia),List.getElem?_take_of_lt h1,Array.getElem?_toList]
 ·rw [if_neg h1,List.getElem?_append_right (by rw [List.length_take,Array.length_toList]; lia),List.length_take,Array.length_toList,Nat.min_eq_left hp]
  by_cases h2:i = p
  ·subst h2; simp
  ·rw [if_neg h2]
   obtain ⟨m,hm⟩ : ∃ m,i - p = m + 1:=⟨i - p - 1,by lia⟩
   rw [hm,List.getElem?_cons_succ,List.getElem?_drop,Array.getElem?_toList]
   congr 1; lia
theorem kl8 (xs:Array Nat) (p x:Nat) (hp:p <= xs.size) (i:Nat):(SetTable.insertAt xs p x).getD i 0 = if i < p then xs.getD i 0 else if i = p then x else xs.getD (i - 1) 0:=by
 have e:∀ ys:Array Nat,∀ k,ys.getD k 0 = (ys[k]?).getD 0:=fun ys k=>by simp [Array.getD_eq_getD_getElem?]
 rw [e,jt6 xs p x hp i]
 split
 ·rw [e]
 ·split
  ·rfl
  ·rw [e]
theorem ky8 {t:SetTable} {n j:Nat} (g:Good t n):t.put j = ({ t with place:=SetTable.insertAt t.place (below t.place j) j },below t.place j):=by
 unfold SetTable.put
 dsimp only
 rw [g.dum,ks9]
 simp only [Bool.false_eq_true,if_false]
theorem kj4 {t:SetTable} {n j:Nat} (g:Good t n) (hj:j <= t.mask) (he:t.slot j = .empty) (hf:n + 1 < t.mask):Good (t.put j).1 (n + 1) /\ (t.put j).2 = below t.place j /\ below t.place j <= n /\ (t.put j).1.mask = t.mask /\
  (∀ k,(t.put j).1.slot k = .empty ↔ (t.slot k = .empty /\ k ≠ j)) /\ (t.put j).1.place = SetTable.insertAt t.place (below t.place j) j:=by
 refine x0_3 (jk0 g.rise j) fun b1 b2 b3=>?_
 rw [g.size] at b1 b3
 have hb1:below t.place j <= t.place.size:=by rw [g.size]; exact b1
 have hne:=(W6 g j).mp he
 have gt:∀ i,below t.place j <= i -> i < n -> j < t.place.getD i 0:=fun i h1 h2=>by
  have:=b3 i h1 h2
  have:=hne i h2
  lia
 rw [ky8 g]
 have gd:=kl8 t.place (below t.place j) j hb1
 have sz:(SetTable.insertAt t.place (below t.place j) j).size = n + 1:=by rw [qh3 _ _ _ hb1,g.size]
 have gg:Good { t with place:=SetTable.insertAt t.place (below t.place j) j } (n + 1):=by
  refine ⟨sz,fun i k hik hk=>?_,fun i hi=>?_,g.dum,g.msk,hf⟩
  ·have hk:k < n + 1:=by rw [<- sz]; exact hk
   show (SetTable.insertAt t.place (below t.place j) j).getD i 0 < (SetTable.insertAt t.place (below t.place j) j).getD k 0
   rw [gd i,gd k]
   by_cases h1:k < below t.place j
   ·rw [if_pos h1,if_pos (by lia)]
    exact g.rise i k hik (by rw [g.size]; lia)
   ·rw [if_neg h1]
    by_cases h2:k = below t.place j
    ·rw [if_pos h2,if_pos (by lia)]
     exact b2 i (by lia)
    ·rw [if_neg h2]
     by_cases h3:i < below t.place j
     ·rw [if_pos h3]
      exact g.rise i (k - 1) (by lia) (by rw [g.size]; lia)
     ·rw [if_neg h3]
      by_cases h4:i = below t.place j
      ·rw [if_pos h4]
       exact gt (k - 1) (by lia) (by lia)
      ·rw [if_neg h4]
       exact g.rise (i - 1) (k - 1) (by lia) (by rw [g.size]; lia)
  ·show (SetTable.insertAt t.place (below t.place j) j).getD i 0 <= t.mask
   rw [gd i]
   by_cases h1:i < below t.place j
   ·rw [if_pos h1]; exact g.le i (by lia)
   ·rw [if_neg h1]
    by_cases h2:i = below t.place j
    ·rw [if_pos h2]; exact hj
    ·rw [if_neg h2]; exact g.le (i - 1) (by lia)
 refine ⟨gg,rfl,b1,rfl,fun k=>?_,rfl⟩
 rw [W6 gg,W6 g]
 show (∀ i,i < n + 1 -> (SetTable.insertAt t.place (below t.place j) j).getD i 0 ≠ k) ↔ _
 constructor
 ·intro h
  refine ⟨fun i hi e=>?_,fun e=>?_⟩
  ·by_cases h1:i < below t.place j
   ·exact h i (by lia) (by rw [gd i,if_pos h1]; exact e)
   ·exact h (i + 1) (by lia) (by rw [gd (i + 1),if_neg (by lia),if_neg (by lia)]; exact e)
  ·exact h (below t.place j) (by lia) (by rw [gd,if_neg (by lia),if_pos rfl]; exact e.symm)
 ·rintro ⟨h,hne'⟩ i hi e
  rw [gd i] at e
  by_cases h1:i < below t.place j
  ·rw [if_pos h1] at e; exact h i (by lia) e
  ·rw [if_neg h1] at e
   by_cases h2:i = below t.place j
   ·rw [if_pos h2] at e; exact hne' e.symm
   ·rw [if_neg h2] at e; exact h (i - 1) (by lia) e
end Tb
end T_Tb
section T_Tb2
namespace Tb
open PySem PySem.SetTable
noncomputable def jx0 (t:SetTable) (h:Int) (j:Nat):Prop:=∃ k,(W t.mask (t.probeStart h) k).j = j /\ ∀ m,m < k -> t.slot (W t.mask (t.probeStart h) m).j ≠ .empty
noncomputable def ke2 (t:SetTable) (hs:Nat -> Int) (n:Nat):Prop:=∀ i,i < n -> jx0 t (hs i) (t.place.getD i 0)
theorem ve6 {p:Nat -> Prop} [DecidablePred p] {k:Nat} (h:p k):∃ d,d <= k /\ p d /\ ∀ m,m < d -> ¬ p m:=by
 induction k using Nat.strongRecOn with
 | _ k ih =>
  by_cases q:∃ m,m < k /\ p m
  ·refine x1_2 q fun m hm pm=>?_
   clear q
   refine x1_3 (ih m hm pm) fun d hd a b=>?_
   exact ⟨d,by lia,a,b⟩
  ·exact ⟨k,Nat.le_refl _,h,fun m hm pm=>q ⟨m,hm,pm⟩⟩
theorem dist {t:SetTable} {n:Nat} (g:Good t n) (h:Int):∃ d,d <= 10 * (t.mask + 13) /\ t.slot (W t.mask (t.probeStart h) d).j = .empty /\ ∀ m,m < d -> t.slot (W t.mask (t.probeStart h) m).j ≠ .empty:=by
 refine x1_2 (ko3 g) fun e he se=>?_
 refine x1_2 (vf3 g.msk h he) fun k hk ek=>?_
 obtain ⟨d,hd,a,b⟩:=ve6 (p:=fun m=>t.slot (W t.mask (t.probeStart h) m).j = .empty) (k:=k) (by rw [ka9,ek]; exact se)
 exact ⟨d,by lia,a,b⟩
theorem kt3 {t:SetTable} {n:Nat} (g:Good t n) (hashAt:Nat -> Int) (h:Int):∀ (d:Nat) (p:Probe) (fuel:Nat),p.dummy = none -> d < fuel -> t.slot (W t.mask p d).j = .empty -> (∀ m,m < d -> t.slot (W t.mask p m).j ≠ .empty) ->
  (∃ m i,m < d /\ i < n /\ t.slot (W t.mask p m).j = .live i /\ hashAt i = h /\ (∀ m',m' < m -> ∀ i',t.slot (W t.mask p m').j = .live i' -> hashAt i' ≠ h) /\ probe.go t hashAt h fuel p = some (.candidate (W t.mask p m).j i (W t.mask p (m + 1)))) \/
  ((∀ m,m < d -> ∀ i,t.slot (W t.mask p m).j = .live i -> hashAt i ≠ h) /\ probe.go t hashAt h fuel p = some (.empty (W t.mask p d).j none))
 | 0,p,fuel + 1,hd,_,he,_=>by
  refine .inr ⟨fun m hm=>absurd hm (Nat.not_lt_zero _),?_⟩
  unfold probe.go
  have he':t.slot p.j = .empty:=he
  rw [he',hd]; rfl
 | d + 1,p,fuel + 1,hd,hf,he,hb=>by
  have h0:t.slot p.j ≠ .empty:=hb 0 (by lia)
  rcases jw6 g p.j with ⟨i,hi,_,q⟩ | ⟨_,q⟩
  ·by_cases hh:hashAt i = h
   ·refine .inl ⟨0,i,by lia,hi,q,hh,fun m hm=>absurd hm (Nat.not_lt_zero _),?_⟩
    unfold probe.go
    rw [q]
    dsimp only
    rw [if_pos (beq_iff_eq.mpr hh),jx1]; rfl
   ·have e:probe.go t hashAt h (fuel + 1) p = probe.go t hashAt h fuel (jl0 t.mask p):=by
     conv=>lhs; unfold probe.go
     rw [q]
     dsimp only
     rw [if_neg (fun z=>hh (beq_iff_eq.mp z)),jx1]
    rw [e]
    rcases kt3 g hashAt h d (jl0 t.mask p) fuel (jw7 _ _ hd) (by lia) he (fun m hm=>hb (m + 1) (by lia)) with ⟨m,i',a1,a2,a3,a4,a5,a6⟩ | ⟨a1,a2⟩
    ·refine .inl ⟨m + 1,i',by lia,a2,a3,a4,fun m' hm' i'' q'=>?_,a6⟩
     cases m' with
     | zero =>
      have q2:t.slot p.j = .live i'':=q'
      rw [q] at q2; cases q2; exact hh
     | succ m'=>exact a5 m' (by lia) i'' q'
    ·refine .inr ⟨fun m hm i'' q'=>?_,a2⟩
     cases m with
     | zero =>
      have q2:t.slot p.j = .live i'':=q'
      rw [q] at q2; cases q2; exact hh
     | succ m=>exact a1 m (by lia) i'' q'
  ·exact absurd q h0
theorem kq9 {t:SetTable} {n j:Nat} (g:Good t n) (hj:j <= t.mask) (he:t.slot j = .empty) (hf:n + 1 < t.mask) {hs hs':Nat -> Int} (P:ke2 t hs n) {h:Int}
  (hh:∀ i,i < n + 1 -> hs' i = if i < below t.place j then hs i else if i = below t.place j then h else hs (i - 1)) (hp:jx0 t h j):ke2 (t.put j).1 hs' (n + 1):=by
 refine x0_6 (kj4 g hj he hf) fun gg _ hb hm hsl hpl=>?_
 have keep:∀ {h':Int} {k:Nat},jx0 t h' k -> jx0 (t.put j).1 h' k:=by
  rintro h' k ⟨s,e,b⟩
  have es:(t.put j).1.probeStart h' = t.probeStart h':=by rw [ka9,ka9,hm]
  refine ⟨s,by rw [hm,es]; exact e,fun m hm' z=>?_⟩
  rw [hm,es] at z
  exact b m hm' ((hsl _).mp z).1
 intro i hi
 rw [hpl,kl8 _ _ _ (by rw [g.size]; exact hb),hh i hi]
 by_cases h1:i < below t.place j
 ·rw [if_pos h1,if_pos h1]; exact keep (P i (by lia))
 ·rw [if_neg h1,if_neg h1]
  by_cases h2:i = below t.place j
  ·rw [if_pos h2,if_pos h2]; exact keep hp
  ·rw [if_neg h2,if_neg h2]; exact keep (P (i - 1) (by lia))
noncomputable def occ (owner:Array (Option Nat)) (j:Nat):Bool:=(owner.getD j (some 0)).isSome
noncomputable def st (mask:Nat) (h:Int):Probe:=grp mask (bits h % (mask + 1)) (bits h)
theorem kf6 {mask:Nat} (owner:Array (Option Nat)) (hz:owner.size = mask + 1):∀ (fuel i per n:Nat),i < mask + 1 -> n < fuel -> occ owner (G mask n i per).1 = false ->
  ∃ k j,layClean.free mask owner fuel i per = some j /\ (W mask (grp mask i per) k).j = j /\ j < mask + 1 /\ occ owner j = false /\ ∀ m,m < k -> occ owner (W mask (grp mask i per) m).j = true
 | fuel + 1,i,per,n,hi,hn,he=>by
  have hrun:runEnd mask i <= mask:=by unfold runEnd; split <;> lia
  have hge:i <= runEnd mask i:=by unfold runEnd; split <;> lia
  have hW:∀ m,m <= runEnd mask i - i -> (W mask (grp mask i per) m).j = i + m:=fun m hm=>by rw [qn8 mask m (grp mask i per) hm]; rfl
  unfold layClean.free
  cases hf:(List.range (runEnd mask i + 1 - i)).find? (fun k=>(owner.getD (i + k) (some 0)).isNone) with
  | some k =>
   dsimp only
   rw [List.find?_range_eq_some] at hf
   refine x0_3 hf fun a b c=>?_
   clear hf
   have hk:k < runEnd mask i + 1 - i:=List.mem_range.mp b
   refine ⟨k,i + k,rfl,hW k (by lia),by lia,?_,fun m hm=>?_⟩
   ·unfold occ
    cases q:owner.getD (i + k) (some 0) with
    | none=>rfl
    | some z=>rw [q] at a; cases a
   ·rw [hW m (by lia)]
    have q:=c m hm
    unfold occ
    cases q2:owner.getD (i + m) (some 0) with
    | none=>rw [q2] at q; cases q
    | some z=>rfl
  | none =>
   dsimp only
   rw [List.find?_range_eq_none] at hf
   have hall:∀ m,m < runEnd mask i + 1 - i -> occ owner (i + m) = true:=fun m hm=>by
    have q:=hf m hm
    unfold occ
    cases q2:owner.getD (i + m) (some 0) with
    | none=>rw [q2] at q; cases q
    | some z=>rfl
   cases n with
   | zero =>
    have:occ owner i = true:=by have:=hall 0 (by lia); rwa [Nat.add_zero] at this
    have he':occ owner i = false:=he
    rw [this] at he'; cases he'
   | succ n =>
    refine x2_5 (kf6 owner hz fuel (leap mask i per).1 (leap mask i per).2 n (Nat.mod_lt _ (Nat.succ_pos _)) (by lia) he) fun k j e1 e2 e3 e4 e5=>?_
    refine ⟨runEnd mask i - i + 1 + k,j,e1,by rw [jr4,ks7]; exact e2,e3,e4,fun m hm=>?_⟩
    by_cases hm1:m < runEnd mask i - i + 1
    ·rw [hW m (by lia)]; exact hall m (by lia)
    ·obtain ⟨r,rfl⟩ : ∃ r,m = runEnd mask i - i + 1 + r:=⟨m - (runEnd mask i - i + 1),by lia⟩
     rw [jr4,ks7]
     exact e5 r (by lia)
end Tb
end T_Tb2
section T_Tb3
namespace Tb
open PySem PySem.SetTable
theorem W_in {mask:Nat}:∀ (k:Nat) (p:Probe),p.j + p.more <= mask -> (W mask p k).j <= mask
 | 0,p,h=>by show p.j <= mask; lia
 | k + 1,p,h=>by
  refine W_in k (jl0 mask p) ?_
  unfold jl0
  split
  ·show p.j + 1 + (p.more - 1) <= mask; lia
  ·show (leap mask p.i p.perturb).1 + (runEnd mask (leap mask p.i p.perturb).1 - (leap mask p.i p.perturb).1) <= mask
   have:(leap mask p.i p.perturb).1 < mask + 1:=Nat.mod_lt _ (Nat.succ_pos _)
   unfold runEnd; split <;> lia
theorem qz6 (mask:Nat) (h:Int) (k:Nat):(W mask (st mask h) k).j <= mask:=by
 refine W_in k _ ?_
 show bits h % (mask + 1) + (runEnd mask (bits h % (mask + 1)) - bits h % (mask + 1)) <= mask
 have:bits h % (mask + 1) < mask + 1:=Nat.mod_lt _ (Nat.succ_pos _)
 unfold runEnd; split <;> lia
structure Own (mask:Nat) (hs:Nat -> Int) (owner:Array (Option Nat)) (q:Nat):Prop where
 size:owner.size = mask + 1
 lt:∀ (j a:Nat),owner[j]? = some (some a) -> a < q
 at':∀ (a:Nat),a < q -> ∃ j,owner[j]? = some (some a) /\ ∃ k,(W mask (st mask (hs a)) k).j = j /\ ∀ m,m < k -> occ owner (W mask (st mask (hs a)) m).j = true
 uniq:∀ (a j j':Nat),owner[j]? = some (some a) -> owner[j']? = some (some a) -> j = j'
 cnt:owner.toList.countP Option.isNone = mask + 1 - q
theorem ku4 (mask:Nat) (hs:Nat -> Int):Own mask hs (Array.replicate (mask + 1) none) 0:=by
 have no:∀ (j a:Nat),(Array.replicate (mask + 1) (none:Option Nat))[j]? ≠ some (some a):=fun j a h=>by
  rw [Array.getElem?_replicate] at h
  split at h <;> cases h
 refine ⟨by simp,fun j a h=>absurd h (no j a),fun a h=>absurd h (Nat.not_lt_zero _),fun a j _ h=>absurd h (no j a),?_⟩
 rw [Array.toList_replicate,List.countP_replicate]; rfl
theorem qi0 {owner:Array (Option Nat)} {j:Nat} (h:occ owner j = false):owner[j]? = some none:=by
 unfold occ at h
 rw [Array.getD_eq_getD_getElem?] at h
 cases q:owner[j]? with
 | none=>rw [q] at h; cases h
 | some z=>cases z with
  | none=>rfl
  | some _=>rw [q] at h; cases h
theorem kj3 {owner:Array (Option Nat)} {j:Nat} (h:owner[j]? = some none):occ owner j = false:=by
 unfold occ
 rw [Array.getD_eq_getD_getElem?,h]; rfl
theorem qu9 {owner:Array (Option Nat)} {j q:Nat} (hj:j < owner.size) (i:Nat):(owner.setIfInBounds j (some q))[i]? = if i = j then some (some q) else owner[i]?:=by
 rw [Array.getElem?_setIfInBounds]
 by_cases e:i = j
 ·subst e; simp [hj]
 ·rw [if_neg (fun z=>e z.symm),if_neg e]
theorem qc6 {mask:Nat} (hm:Msk mask) {hs:Nat -> Int} {owner:Array (Option Nat)} {q:Nat} (o:Own mask hs owner q) (hq:q < mask + 1) :
  ∃ j,layClean.free mask owner (turns mask) (bits (hs q) % (mask + 1)) (bits (hs q)) = some j /\ Own mask hs (owner.setIfInBounds j (some q)) (q + 1):=by
 have hc:0 < owner.toList.countP Option.isNone:=by rw [o.cnt]; lia
 refine x1_2 (List.countP_pos_iff.mp hc) fun x hx hn=>?_
 obtain ⟨e,he,ex⟩:=List.mem_iff_getElem.mp hx
 have hes:e < owner.size:=by rw [<- Array.length_toList]; exact he
 have e0:owner[e]? = some none:=by
  rw [<- Array.getElem?_toList,List.getElem?_eq_getElem he,ex]
  cases x with
  | none=>rfl
  | some _=>cases hn
 obtain ⟨n,hn',en⟩:=kv1 hm (hs q) (e:=e) (by rw [<- o.size]; exact hes)
 obtain ⟨k,j,f1,f2,f3,f4,f5⟩:=kf6 owner o.size (turns mask) (bits (hs q) % (mask + 1)) (bits (hs q)) n (Nat.mod_lt _ (Nat.succ_pos _)) (by unfold turns; lia) (by rw [en]; exact kj3 e0)
 refine ⟨j,f1,?_⟩
 have hj:j < owner.size:=by rw [o.size]; exact f3
 have g:=qu9 (q:=q) hj
 have jn:owner[j]? = some none:=qi0 f4
 have up:∀ i,occ owner i = true -> occ (owner.setIfInBounds j (some q)) i = true:=fun i h=>by
  unfold occ at h ⊢
  rw [Array.getD_eq_getD_getElem?] at h ⊢
  rw [g i]
  by_cases z:i = j
  ·rw [if_pos z]; rfl
  ·rw [if_neg z]; exact h
 refine ⟨by rw [Array.size_setIfInBounds]; exact o.size,fun i a h=>?_,fun a ha=>?_,fun a i i' h h'=>?_,?_⟩
 ·rw [g i] at h
  by_cases z:i = j
  ·rw [if_pos z] at h; cases h; lia
  ·rw [if_neg z] at h; have:=o.lt i a h; lia
 ·by_cases z:a = q
  ·subst z
   exact ⟨j,by rw [g,if_pos rfl],k,f2,fun m hm'=>up _ (f5 m hm')⟩
  ·obtain ⟨i,b1,k',b2,b3⟩:=o.at' a (by lia)
   refine ⟨i,?_,k',b2,fun m hm'=>up _ (b3 m hm')⟩
   rw [g,if_neg,b1]
   rintro rfl
   rw [jn] at b1; cases b1
 ·rw [g i] at h; rw [g i'] at h'
  by_cases z:i = j
  ·by_cases z':i' = j
   ·rw [z,z']
   ·rw [if_pos z] at h; rw [if_neg z'] at h'; cases h
    exact absurd (o.lt _ _ h') (Nat.lt_irrefl _)
  ·by_cases z':i' = j
   ·rw [if_neg z] at h; rw [if_pos z'] at h'; cases h'
    exact absurd (o.lt _ _ h) (Nat.lt_irrefl _)
   ·rw [if_neg z] at h; rw [if_neg z'] at h'; exact o.uniq a i i' h h'
 ·rw [Array.toList_setIfInBounds]
  have hj':j < owner.toList.length:=by rw [Array.length_toList]; exact hj
  rw [List.countP_set hj',o.cnt]
  have ej:owner.toList[j] = none:=by
   have q1:owner.toList[j]? = some none:=by rw [Array.getElem?_toList]; exact jn
   rw [List.getElem?_eq_getElem hj'] at q1
   exact Option.some.inj q1
  rw [ej]
  simp
  lia
theorem kj8 {mask:Nat} (hm:Msk mask) {hs:Nat -> Int}:∀ (l:List Int) (owner:Array (Option Nat)) (q:Nat),Own mask hs owner q -> q + l.length <= mask -> (∀ i,i < l.length -> l[i]? = some (hs (q + i))) ->
  ∃ owner',l.foldl (init:=some (owner,q)) (fun acc h=>do
   let (owner,k) <- acc
   let j <- layClean.free mask owner (turns mask) (bits h % (mask + 1)) (bits h)
   pure (owner.setIfInBounds j (some k),k + 1)) = some (owner',q + l.length) /\ Own mask hs owner' (q + l.length)
 | [],owner,q,o,_,_=>⟨owner,rfl,o⟩
 | h :: r,owner,q,o,hl,hh=>by
  have e0:h = hs q:=by have:=hh 0 (by simp); simpa using this
  obtain ⟨j,f1,o1⟩:=qc6 hm o (by simp only [List.length_cons] at hl; lia)
  obtain ⟨owner',e,o2⟩:=kj8 hm r (owner.setIfInBounds j (some q)) (q + 1) o1 (by simp only [List.length_cons] at hl; lia) (fun i hi=>by
   have:=hh (i + 1) (by simp; lia)
   simp only [List.getElem?_cons_succ] at this
   rw [this,show q + (i + 1) = q + 1 + i by lia])
  refine ⟨owner',?_,by rw [List.length_cons,show q + (r.length + 1) = q + 1 + r.length by lia]; exact o2⟩
  rw [List.foldl_cons]
  have e1:(do
   let (owner,k) <- (some (owner,q):Option (Array (Option Nat) × Nat))
   let j <- layClean.free mask owner (turns mask) (bits h % (mask + 1)) (bits h)
   pure (owner.setIfInBounds j (some k),k + 1)) = some (owner.setIfInBounds j (some q),q + 1):=by
   show (do
    let j <- layClean.free mask owner (turns mask) (bits h % (mask + 1)) (bits h)
    pure (owner.setIfInBounds j (some q),q + 1)) = _
   rw [e0,f1]; rfl
  rw [e1,e,List.length_cons,show q + (r.length + 1) = q + 1 + r.length by lia]
theorem kp6 {mask:Nat} (hm:Msk mask) (hashes:Array Int) (hn:hashes.size <= mask):∃ owner,layClean mask hashes = some owner /\ Own mask (fun i=>hashes.getD i 0) owner hashes.size:=by
 obtain ⟨owner,e,o⟩:=kj8 hm (hs:=fun i=>hashes.getD i 0) hashes.toList (Array.replicate (mask + 1) none) 0 (ku4 mask _) (by rw [Array.length_toList]; lia) (fun i hi=>by
  rw [Array.length_toList] at hi
  rw [Array.getElem?_toList,Nat.zero_add]
  simp [Array.getD,hi])
 rw [Array.length_toList,Nat.zero_add] at e o
 refine ⟨owner,?_,o⟩
 unfold layClean
 rw [<- Array.foldl_toList,e]; rfl
noncomputable def live (mask:Nat) (owner:Array (Option Nat)):List (Nat × Nat):=(List.range (mask + 1)).filterMap fun j=>(owner.getD j none).map (j,·)
theorem ka7 {mask:Nat} {owner:Array (Option Nat)} (hz:owner.size = mask + 1) {j a:Nat}:(j,a) ∈ live mask owner ↔ owner[j]? = some (some a):=by
 unfold live
 rw [List.mem_filterMap]
 constructor
 ·rintro ⟨x,hx,e⟩
  cases q:owner.getD x none with
  | none=>rw [q] at e; cases e
  | some b =>
   rw [q] at e
   cases e
   rw [Array.getD_eq_getD_getElem?] at q
   cases q2:owner[j]? with
   | none=>rw [q2] at q; cases q
   | some z=>rw [q2] at q; have q:z = some a:=q; rw [q]
 ·intro h
  have hj:j < owner.size:=(Array.getElem?_eq_some_iff.mp h).1
  exact ⟨j,List.mem_range.mpr (by lia),by rw [Array.getD_eq_getD_getElem?,h]; rfl⟩
theorem kw6 (mask:Nat) (owner:Array (Option Nat)):(live mask owner).Pairwise fun x y=>x.1 < y.1:=by
 unfold live
 refine List.Pairwise.filterMap _ ?_ List.pairwise_lt_range
 intro a a' haa b hb b' hb'
 cases q:owner.getD a none with
 | none=>rw [q] at hb; cases hb
 | some z =>
  cases q':owner.getD a' none with
  | none=>rw [q'] at hb'; cases hb'
  | some z' =>
   rw [q] at hb; rw [q'] at hb'
   cases hb; cases hb'
   exact haa
theorem ke3 {owner:Array (Option Nat)} {n:Nat} (hz:owner.size = n):owner.toList = (List.range n).map fun j=>owner.getD j none:=by
 refine List.ext_getElem? fun i=>?_
 rw [Array.getElem?_toList,List.getElem?_map]
 by_cases h:i < n
 ·rw [List.getElem?_range h]
  have h':i < owner.size:=by lia
  simp [Array.getD,h']
 ·rw [Array.getElem?_eq_none (by lia),List.getElem?_eq_none (by simp; lia)]; rfl
theorem qe1 {mask:Nat} {hs:Nat -> Int} {owner:Array (Option Nat)} {n:Nat} (o:Own mask hs owner n) (hn:n <= mask + 1):(live mask owner).length = n:=by
 unfold live
 rw [List.length_filterMap_eq_countP]
 have e1:List.countP (fun j=>((owner.getD j none).map fun x=>(j,x)).isSome) (List.range (mask + 1)) = owner.toList.countP Option.isSome:=by
  rw [ke3 o.size,List.countP_map]
  congr 1
  funext j
  simp
 rw [e1]
 have e2:=List.length_eq_countP_add_countP (p:=Option.isNone) (l:=owner.toList)
 rw [o.cnt,Array.length_toList,o.size] at e2
 have e3:owner.toList.countP Option.isSome = List.countP (fun a=>decide ¬ (Option.isNone a = true)) owner.toList:=by
  congr 1
  funext a
  cases a <;> rfl
 lia
theorem kz6 {mask n:Nat} (hm:Msk mask) (hashes:Array Int) (hz:hashes.size = n) (hn:n < mask) (finger moves:Nat) (led plain:Bool) :
  ∃ t' order,laid mask finger moves led plain hashes = some (t',order) /\ Good t' n /\ t'.mask = mask /\ t'.led = led /\ t'.plain = plain /\ order.size = n /\ (∀ m,m < n -> order.getD m 0 < n) /\
   (∀ m m',m < n -> m' < n -> order.getD m 0 = order.getD m' 0 -> m = m') /\ (∀ a,a < n -> ∃ m,m < n /\ order.getD m 0 = a) /\ ke2 t' (fun m=>hashes.getD (order.getD m 0) 0) n:=by
 refine x1_2 (kp6 hm hashes (by lia)) fun owner e o=>?_
 rw [hz] at o
 have ll:=qe1 o (by lia)
 refine ⟨{ mask,place:=((live mask owner).map (·.1)).toArray,dummies:=#[],finger,led,moves,plain },((live mask owner).map (·.2)).toArray,?_,?_⟩
 ·unfold laid
  rw [e]; rfl
 have gp:∀ m,m < n -> ∃ j a,(live mask owner)[m]? = some (j,a) /\ (((live mask owner).map (·.1)).toArray).getD m 0 = j /\ (((live mask owner).map (·.2)).toArray).getD m 0 = a /\ owner[j]? = some (some a):=fun m h=>by
  have h':m < (live mask owner).length:=by lia
  refine ⟨((live mask owner)[m]).1,((live mask owner)[m]).2,List.getElem?_eq_getElem h',?_,?_,(ka7 o.size).mp (List.getElem_mem h')⟩
  ·simp [Array.getD,h']
  ·simp [Array.getD,h']
 have pw:=List.pairwise_iff_getElem.mp (kw6 mask owner)
 have rise:Rises (((live mask owner).map (·.1)).toArray):=fun i j hij hj=>by
  have hj:j < (live mask owner).length:=by simpa using hj
  have hi:i < (live mask owner).length:=by lia
  have:=pw i j hi hj hij
  simpa [Array.getD,hi,hj] using this
 have good:Good { mask,place:=((live mask owner).map (·.1)).toArray,dummies:=#[],finger,led,moves,plain } n:=by
  refine ⟨by simp [ll],rise,fun i hi=>?_,rfl,hm,hn⟩
  refine x2_4 (gp i hi) fun j a _ e2 _ e4=>?_
  show (((live mask owner).map (·.1)).toArray).getD i 0 <= mask
  rw [e2]
  have:=(Array.getElem?_eq_some_iff.mp e4).1
  have:=o.size
  lia
 refine ⟨good,rfl,rfl,rfl,by simp [ll],fun m h=>?_,fun m m' h h' q=>?_,fun a h=>?_,fun m h=>?_⟩
 ·refine x2_4 (gp m h) fun j a _ _ e3 e4=>?_
  rw [e3]; exact o.lt j a e4
 ·refine x2_4 (gp m h) fun j a _ e2 e3 e4=>?_
  refine x2_4 (gp m' h') fun j' a' _ e2' e3' e4'=>?_
  rw [e3,e3'] at q
  subst q
  have ej:=o.uniq a j j' e4 e4'
  rcases Nat.lt_trichotomy m m' with z | z | z
  ·have:=rise m m' z (by simp [ll]; exact h'); lia
  ·exact z
  ·have:=rise m' m z (by simp [ll]; exact h); lia
 ·refine x1_2 (o.at' a h) fun j b _=>?_
  obtain ⟨m,hm',em⟩:=List.mem_iff_getElem.mp ((ka7 (mask:=mask) o.size).mpr b)
  refine ⟨m,by lia,?_⟩
  simp [Array.getD,hm',em]
 ·refine x2_4 (gp m h) fun j a _ e2 e3 e4=>?_
  obtain ⟨j',b1,k,b2,b3⟩:=o.at' a (o.lt j a e4)
  have ej:=o.uniq a j j' e4 b1
  subst ej
  dsimp only
  rw [e2,e3]
  refine ⟨k,b2,fun m' hm' z=>?_⟩
  have z:=(W6 good _).mp z
  have oc:=b3 m' hm'
  have inr:(W mask (st mask (hashes.getD a 0)) m').j <= mask:=qz6 mask _ m'
  unfold occ at oc
  rw [Array.getD_eq_getD_getElem?] at oc
  cases q:owner[(W mask (st mask (hashes.getD a 0)) m').j]? with
  | none =>
   have:=Array.getElem?_eq_none_iff.mp q
   have:=o.size
   lia
  | some x =>
   cases x with
   | none=>rw [q] at oc; cases oc
   | some b =>
    obtain ⟨r,hr,er⟩:=List.mem_iff_getElem.mp ((ka7 (mask:=mask) o.size).mpr q)
    refine z r (by lia) ?_
    dsimp only
    simp [Array.getD,hr,er]
    rfl
end Tb
end T_Tb3
section T_So
namespace So
open PySem PySem.W PyProof.Rows
noncomputable def Rn (r:Nat -> Nat) (n:Nat) {α:Type}:KasT α -> (α -> Prop) -> Prop
 | .ret a,P=>P a
 | .ask i j k,P=>i < n /\ j < n /\ Rn r n (k (decide (r i < r j))) P
theorem Rn.mono {r:Nat -> Nat} {n:Nat} {α:Type} {P P':α -> Prop} (h:∀ a,P a -> P' a):∀ (t:KasT α),Rn r n t P -> Rn r n t P'
 | .ret a,q=>h a q
 | .ask i j k,q=>⟨q.1,q.2.1,Rn.mono h _ q.2.2⟩
theorem Rn.bind {r:Nat -> Nat} {n:Nat} {α β:Type} {f:α -> KasT β} {P:β -> Prop}:∀ (t:KasT α),Rn r n t (fun a=>Rn r n (f a) P) -> Rn r n (t.bind f) P
 | .ret a,q=>q
 | .ask i j k,q=>⟨q.1,q.2.1,Rn.bind (k _) q.2.2⟩
section
variable {r:Nat -> Nat} {n:Nat}
noncomputable def vl (r:Nat -> Nat) (p:Array Nat) (k:Nat):Nat:=r (p.getD k 0)
noncomputable def Up (r:Nat -> Nat) (p:Array Nat) (a:Nat):Prop:=∀ i j,i <= j -> j < a -> vl r p i <= vl r p j
noncomputable def Dn (r:Nat -> Nat) (p:Array Nat) (a:Nat):Prop:=∀ i j,i <= j -> j < a -> vl r p j <= vl r p i
noncomputable def Lt (n:Nat) (p:Array Nat):Prop:=∀ k,p.getD k 0 < n
theorem vc2 {p:Array Nat} (hn:0 < n) (h:∀ x ∈ p,x < n):Lt n p:=fun k=>by
 rw [Array.getD_eq_getD_getElem?]
 cases q:p[k]? with
 | none=>exact hn
 | some x=>exact h x (Array.mem_of_getElem? q)
theorem Lt.perm {p p':Array Nat} (hn:0 < n) (h:Lt n p) (e:p'.Perm p):Lt n p':=vc2 hn fun x hx=>by
 have hx:=e.mem_iff.mp hx
 obtain ⟨i,hi,ei⟩:=Array.mem_iff_getElem.mp hx
 have:=h i
 simp [Array.getD,hi,ei] at this
 exact this
theorem qc8 {p:Array Nat} {i j:Nat} (hj:j <= p.size) (k:Nat):(kas_rev p i j).getD k 0 = if i <= k /\ k < j then p.getD (i + j - 1 - k) 0 else p.getD k 0:=by
 rw [Array.getD_eq_getD_getElem?]
 unfold kas_rev
 rw [getElem?_mirror_all hj]
 split <;> rw [Array.getD_eq_getD_getElem?]
theorem jx5 {p:Array Nat} {i j:Nat} (hj:j <= p.size) (k:Nat):vl r (kas_rev p i j) k = if i <= k /\ k < j then vl r p (i + j - 1 - k) else vl r p k:=by
 unfold vl
 rw [qc8 hj]
 split <;> rfl
theorem je7 (p:Array Nat) (i j:Nat):(kas_rev p i j).Perm p:=mirror_perm _ _ _ _
theorem jg4 (p:Array Nat) (i j:Nat):(kas_rev p i j).size = p.size:=mirror_size _ _ _ _
theorem kz4 {p:Array Nat} (hp:Lt n p):∀ (f a:Nat),1 <= a -> Up r p a -> Rn r n (kas_asc p f a) fun m=>a <= m /\ m <= a + f /\ Up r p m /\ (m = a + f \/ vl r p m < vl r p (m - 1))
 | 0,a,_,hu=>⟨Nat.le_refl _,by lia,hu,.inl rfl⟩
 | f + 1,a,ha,hu=>by
  refine ⟨hp _,hp _,?_⟩
  dsimp only
  by_cases c:r (p.getD a 0) < r (p.getD (a - 1) 0)
  ·rw [decide_eq_true c,if_pos rfl]
   exact ⟨Nat.le_refl _,by lia,hu,.inr c⟩
  ·rw [decide_eq_false c,if_neg (by simp)]
   refine Rn.mono (fun m h=>⟨by lia,by lia,h.2.2.1,?_⟩) _ (kz4 hp f (a + 1) (by lia) fun i j hij hj=>?_)
   ·rcases h.2.2.2 with h | h
    ·left; lia
    ·exact .inr h
   ·by_cases hj':j < a
    ·exact hu i j hij hj'
    ·have e:j = a:=by lia
     subst e
     by_cases hi:i = j
     ·subst hi; exact Nat.le_refl _
     ·have q:=hu i (j - 1) (by lia) (by lia)
      unfold vl at q ⊢
      lia
theorem jz1 (hn:0 < n):∀ (f:Nat) (p:Array Nat) (a q:Nat),Lt n p -> 1 <= a -> a + f <= p.size -> Dn r p a -> q + 1 <= a -> (∀ i,a - (q + 1) <= i -> i < a -> vl r p i = vl r p (a - 1)) ->
  Rn r n (kas_desc f p a q) fun z=>z.1.Perm p /\ z.1.size = p.size /\ a <= z.2.1 /\ z.2.1 <= a + f /\ Dn r z.1 z.2.1 /\ z.2.2 + 1 <= z.2.1 /\ (∀ i,z.2.1 - (z.2.2 + 1) <= i -> i < z.2.1 -> vl r z.1 i = vl r z.1 (z.2.1 - 1))
 | 0,p,a,q,_,_,_,hd,hq,he=>⟨.refl _,rfl,Nat.le_refl _,Nat.le_add_right _ _,hd,hq,he⟩
 | f + 1,p,a,q,hp,ha,hz,hd,hq,he=>by
  refine ⟨hp _,hp _,?_⟩
  dsimp only
  by_cases c:r (p.getD a 0) < r (p.getD (a - 1) 0)
  ·rw [decide_eq_true c,if_pos rfl]
   have step:∀ p':Array Nat,(∀ k,vl r p' k = vl r p k) -> Dn r p' (a + 1):=fun p' hv i j hij hj=>by
    rw [hv,hv]
    by_cases hj':j < a
    ·exact hd i j hij hj'
    ·have e:j = a:=by lia
     subst e
     by_cases hi:i = j
     ·subst hi; exact Nat.le_refl _
     ·have:=hd i (j - 1) (by lia) (by lia)
      unfold vl at this ⊢
      lia
   by_cases hq0:q > 0
   ·rw [if_pos hq0]
    have hv:∀ k,vl r (kas_rev p (a - (q + 1)) a) k = vl r p k:=fun k=>by
     rw [jx5 (by lia)]
     split
     ·rename_i hk
      rw [he _ (by lia) (by lia),he k hk.1 hk.2]
     ·rfl
    refine Rn.mono (fun z h=>⟨h.1.trans (je7 _ _ _),h.2.1.trans (jg4 _ _ _),by lia,by lia,h.2.2.2.2⟩) _
     (jz1 hn f (kas_rev p (a - (q + 1)) a) (a + 1) 0 (hp.perm hn (je7 _ _ _)) (by lia) (by rw [jg4]; lia) (step _ hv) (by lia) fun i h1 h2=>?_)
    have:i = a:=by lia
    subst this; rfl
   ·rw [if_neg hq0]
    refine Rn.mono (fun z h=>⟨h.1,h.2.1,by lia,by lia,h.2.2.2.2⟩) _ (jz1 hn f p (a + 1) 0 hp (by lia) (by lia) (step p fun _=>rfl) (by lia) fun i h1 h2=>?_)
    have:i = a:=by lia
    subst this; rfl
  ·rw [decide_eq_false c,if_neg (by simp)]
   refine ⟨hp _,hp _,?_⟩
   dsimp only
   by_cases d:r (p.getD (a - 1) 0) < r (p.getD a 0)
   ·rw [decide_eq_true d,if_pos rfl]
    exact ⟨.refl _,rfl,Nat.le_refl _,Nat.le_add_right _ _,hd,hq,he⟩
   ·rw [decide_eq_false d,if_neg (by simp)]
    have eq:vl r p a = vl r p (a - 1):=by unfold vl; lia
    refine Rn.mono (fun z h=>⟨h.1,h.2.1,by lia,by lia,h.2.2.2.2⟩) _ (jz1 hn f p (a + 1) (q + 1) hp (by lia) (by lia) (fun i j hij hj=>?_) (by lia) fun i h1 h2=>?_)
    ·by_cases hj':j < a
     ·exact hd i j hij hj'
     ·have e:j = a:=by lia
      subst e
      by_cases hi:i = j
      ·subst hi; exact Nat.le_refl _
      ·rw [eq]; exact hd i (j - 1) (by lia) (by lia)
    ·show vl r p i = vl r p a
     by_cases hi:i = a
     ·subst hi; rfl
     ·rw [eq]; exact he i (by lia) (by lia)
noncomputable def Out (r:Nat -> Nat) (p₀:Array Nat) (nrem:Nat) (z:Nat × Array Nat):Prop:=z.2.Perm p₀ /\ z.2.size = p₀.size /\ 1 <= z.1 /\ z.1 <= nrem /\ Up r z.2 z.1
theorem kk0 (hn:0 < n) {p:Array Nat} {a nrem:Nat} (hp:Lt n p) (h1:1 <= a) (h2:a <= nrem) (hz:nrem <= p.size) (hd:Dn r p a):Rn r n (kas_tail3 a nrem p) (Out r p nrem):=by
 unfold kas_tail3
 refine Rn.bind _ (Rn.mono (fun m h=>?_) _ (kz4 (r:=r) (hp.perm hn (je7 p 0 a)) (nrem - a) a h1 fun i j hij hj=>?_))
 ·exact ⟨je7 _ _ _,jg4 _ _ _,by show 1 <= m; lia,by show m <= nrem; lia,h.2.2.1⟩
 ·rw [jx5 (by lia),jx5 (by lia),if_pos (by lia),if_pos (by lia)]
  exact hd _ _ (by lia) (by lia)
theorem js0 (hn:0 < n) {p:Array Nat} {a nrem:Nat} (hp:Lt n p) (h2:a + 1 <= nrem) (hz:nrem <= p.size) (hd:Dn r p (a + 1)):Rn r n (kas_descPart a nrem p) (Out r p nrem):=by
 unfold kas_descPart
 refine Rn.bind _ (Rn.mono (fun z h=>?_) _ (jz1 (r:=r) hn (nrem - (a + 1)) p (a + 1) 0 hp (by lia) (by lia) hd (by lia) fun i h1 h2=>by
  have:i = a:=by lia
  subst this; rfl))
 refine x0_7 h fun z1 z2 z3 z4 z5 z6 z7=>?_
 clear h
 split
 ·have hv:∀ k,vl r (kas_rev z.1 (z.2.1 - (z.2.2 + 1)) z.2.1) k = vl r z.1 k:=fun k=>by
   rw [jx5 (by lia)]
   split
   ·rename_i hk
    rw [z7 _ (by lia) (by lia),z7 k hk.1 hk.2]
   ·rfl
  refine Rn.mono (fun y h=>?_) _ (kk0 hn ((hp.perm hn z1).perm hn (je7 _ _ _)) (by lia) (by lia) (by rw [jg4]; lia) fun i j hij hj=>by rw [hv,hv]; exact z5 i j hij hj)
  exact ⟨h.1.trans ((je7 _ _ _).trans z1),h.2.1.trans ((jg4 _ _ _).trans z2),h.2.2⟩
 ·refine Rn.mono (fun y h=>?_) _ (kk0 hn (hp.perm hn z1) (by lia) (by lia) (by lia) z5)
  exact ⟨h.1.trans z1,h.2.1.trans z2,h.2.2⟩
theorem qc4 (hn:0 < n) {p:Array Nat} {nrem:Nat} (hp:Lt n p) (h1:1 <= nrem) (hz:nrem <= p.size):Rn r n (kas_count nrem p) (Out r p nrem):=by
 unfold kas_count
 refine Rn.bind _ (Rn.mono (fun m h=>?_) _ (kz4 (r:=r) hp (nrem - 1) 1 (Nat.le_refl _) fun i j hij hj=>by
  have:i = j:=by lia
  subst this; exact Nat.le_refl _))
 refine x0_4 h fun a1 a2 a3 a4=>?_
 clear h
 by_cases e:m = nrem
 ·rw [if_pos (beq_iff_eq.mpr e)]
  exact ⟨.refl _,rfl,a1,by show m <= nrem; lia,a3⟩
 ·rw [if_neg (fun z=>e (beq_iff_eq.mp z))]
  have hlt:vl r p m < vl r p (m - 1):=by
   rcases a4 with a4 | a4
   ·lia
   ·exact a4
  by_cases g:m > 1
  ·rw [if_pos g]
   refine ⟨hp _,hp _,?_⟩
   dsimp only
   by_cases c:r (p.getD 0 0) < r (p.getD (m - 1) 0)
   ·rw [decide_eq_true c,if_pos rfl]
    exact ⟨.refl _,rfl,a1,by show m <= nrem; lia,a3⟩
   ·rw [decide_eq_false c,if_neg (by simp)]
    have all:∀ k,k < m -> vl r p k = vl r p (m - 1):=fun k hk=>by
     have b1:=a3 0 k (by lia) hk
     have b2:=a3 k (m - 1) (by lia) (by lia)
     unfold vl at b1 b2 ⊢
     lia
    refine Rn.mono (fun y h=>⟨h.1.trans (je7 _ _ _),h.2.1.trans (jg4 _ _ _),h.2.2⟩) _ (js0 hn (hp.perm hn (je7 p 0 m)) (by lia) (by rw [jg4]; lia) fun i j hij hj=>?_)
    rw [jx5 (by lia),jx5 (by lia)]
    by_cases hj':j < m
    ·rw [if_pos (by lia),if_pos (by lia),all _ (by lia),all (0 + m - 1 - i) (by lia)]
     exact Nat.le_refl _
    ·have ej:j = m:=by lia
     subst ej
     rw [if_neg (show ¬ (0 <= j /\ j < j) by lia)]
     by_cases hi:i < j
     ·rw [if_pos (show 0 <= i /\ i < j by lia),all (0 + j - 1 - i) (by lia)]; exact Nat.le_of_lt hlt
     ·have:i = j:=by lia
      subst this
      rw [if_neg (show ¬ (0 <= i /\ i < i) by lia)]
      exact Nat.le_refl _
  ·rw [if_neg g]
   have em:m = 1:=by lia
   subst em
   refine js0 hn hp (by lia) hz fun i j hij hj=>?_
   by_cases hi:i = j
   ·subst hi; exact Nat.le_refl _
   ·have e1:i = 0:=by lia
    have e2:j = 1:=by lia
    subst e1; subst e2
    exact Nat.le_of_lt hlt
theorem ka2 {p:Array Nat} {k:Nat} (hp:Lt n p) (hu:Up r p k):∀ (f l q:Nat),q <= k -> q - l <= f -> l <= q -> (∀ i,i < l -> vl r p i <= vl r p k) -> (∀ i,q <= i -> i < k -> vl r p k < vl r p i) ->
  Rn r n (kas_place p k f l q) fun m=>m <= k /\ (∀ i,i < m -> vl r p i <= vl r p k) /\ (∀ i,m <= i -> i < k -> vl r p k < vl r p i)
 | 0,l,q,h1,h2,h3,a,b=>by
  have:q = l:=by lia
  subst this
  exact ⟨h1,a,b⟩
 | f + 1,l,q,h1,h2,h3,a,b=>by
  unfold kas_place
  by_cases hc:l ≥ q
  ·rw [if_pos hc]
   have:q = l:=by lia
   subst this
   exact ⟨h1,a,b⟩
  ·rw [if_neg hc]
   refine ⟨hp _,hp _,?_⟩
   dsimp only
   by_cases c:r (p.getD k 0) < r (p.getD ((l + q) / 2) 0)
   ·rw [decide_eq_true c,if_pos rfl]
    refine ka2 hp hu f l ((l + q) / 2) (by lia) (by lia) (by lia) a fun i hi hk=>?_
    have:=hu ((l + q) / 2) i hi hk
    unfold vl at this ⊢
    lia
   ·rw [decide_eq_false c,if_neg (by simp)]
    refine ka2 hp hu f ((l + q) / 2 + 1) q h1 (by lia) (by lia) (fun i hi=>?_) b
    have:=hu i ((l + q) / 2) (by lia) (by lia)
    unfold vl at this ⊢
    lia
theorem vb1 {p:Array Nat} {k l:Nat} (hk:k < p.size) (hl:l <= k) (j:Nat):vl r (bubble p k (k - l)) j = if j = l then vl r p k else if l < j /\ j <= k then vl r p (j - 1) else vl r p j:=by
 unfold vl
 have e:(bubble p k (k - l)).getD j 0 = if j = l then p.getD k 0 else if l < j /\ j <= k then p.getD (j - 1) 0 else p.getD j 0:=by
  rw [Array.getD_eq_getD_getElem?,getElem?_bubble hk (k - l) (by lia),show k - (k - l) = l by lia]
  by_cases c1:j = l
  ·rw [if_pos c1,if_pos c1,Array.getD_eq_getD_getElem?]
  ·rw [if_neg c1,if_neg c1]
   by_cases c2:l < j /\ j <= k
   ·rw [if_pos c2,if_pos c2,Array.getD_eq_getD_getElem?]
   ·rw [if_neg c2,if_neg c2,Array.getD_eq_getD_getElem?]
 rw [e]
 by_cases c1:j = l
 ·rw [if_pos c1,if_pos c1]
 ·rw [if_neg c1,if_neg c1]
  by_cases c2:l < j /\ j <= k
  ·rw [if_pos c2,if_pos c2]
  ·rw [if_neg c2,if_neg c2]
theorem ql8 (hn:0 < n):∀ (f:Nat) (p:Array Nat) (k:Nat),Lt n p -> k + f <= p.size -> Up r p k -> Rn r n (kas_bin f p k) fun z=>z.Perm p /\ z.size = p.size /\ Up r z (k + f)
 | 0,p,k,_,_,hu=>⟨.refl _,rfl,hu⟩
 | f + 1,p,k,hp,hz,hu=>by
  unfold kas_bin
  refine Rn.bind _ (Rn.mono (fun l h=>?_) _ (ka2 hp hu k 0 k (Nat.le_refl _) (by lia) (by lia) (fun i hi=>absurd hi (Nat.not_lt_zero _)) (fun i h1 h2=>by lia)))
  refine x0_3 h fun h1 h2 h3=>?_
  clear h
  have bv:=vb1 (r:=r) (p:=p) (k:=k) (l:=l) (by lia) h1
  have up:Up r (bubble p k (k - l)) (k + 1):=fun i j hij hj=>by
   have eq1:∀ x,x = l -> vl r (bubble p k (k - l)) x = vl r p k:=fun x hx=>by rw [bv x,if_pos hx]
   have eq2:∀ x,l < x -> x <= k -> vl r (bubble p k (k - l)) x = vl r p (x - 1):=fun x hx hx'=>by rw [bv x,if_neg (show ¬ x = l by lia),if_pos ⟨hx,hx'⟩]
   have eq3:∀ x,x < l -> vl r (bubble p k (k - l)) x = vl r p x:=fun x hx=>by rw [bv x,if_neg (show ¬ x = l by lia),if_neg (show ¬ (l < x /\ x <= k) by lia)]
   by_cases c1:j = l
   ·rw [eq1 j c1]
    by_cases c2:i = l
    ·rw [eq1 i c2]; exact Nat.le_refl _
    ·rw [eq3 i (by lia)]; exact h2 i (by lia)
   ·by_cases c2:l < j
    ·rw [eq2 j c2 (by lia)]
     by_cases c3:i = l
     ·rw [eq1 i c3]; exact Nat.le_of_lt (h3 (j - 1) (by lia) (by lia))
     ·by_cases c4:l < i
      ·rw [eq2 i c4 (by lia)]; exact hu (i - 1) (j - 1) (by lia) (by lia)
      ·rw [eq3 i (by lia)]; exact hu i (j - 1) (by lia) (by lia)
    ·rw [eq3 j (by lia),eq3 i (by lia)]; exact hu i j hij (by lia)
  refine Rn.mono (fun z h=>⟨h.1.trans (bubble_perm _ _ _),h.2.1.trans (bubble_size _ _ _),by rw [show k + (f + 1) = k + 1 + f by lia]; exact h.2.2⟩) _
   (ql8 hn f (bubble p k (k - l)) (k + 1) (hp.perm hn (bubble_perm _ _ _)) (by rw [bubble_size]; lia) up)
theorem qr0 {n:Nat} (r:Nat -> Nat) (h:0 < n):Rn r n (kas_sort n) fun z=>z.Perm (List.range n).toArray /\ z.size = n /\ Up r z n:=by
 unfold kas_sort
 have hl:Lt n (List.range n).toArray:=vc2 h fun x hx=>by simpa using hx
 refine Rn.bind _ (Rn.mono (fun z q=>?_) _ (qc4 (r:=r) h hl (by lia) (by simp)))
 refine x0_5 q fun q1 q2 q3 q4 q5=>?_
 clear q
 have sz:z.2.size = n:=by rw [q2]; simp
 split
 ·rw [Nat.max_eq_left q3]
  refine Rn.mono (fun y u=>⟨u.1.trans q1,u.2.1.trans sz,?_⟩) _ (ql8 (r:=r) h (n - z.1) z.2 z.1 (hl.perm h q1) (by lia) q5)
  have:=u.2.2
  rw [show z.1 + (n - z.1) = n by lia] at this
  exact this
 ·refine ⟨q1,sz,?_⟩
  have:z.1 = n:=by lia
  rw [this] at q5; exact q5
end
end So
end T_So
section T_So2
namespace So
open PySem PySem.W PyProof.Rows
noncomputable def ky9 (a:Addr) (h h':Heap):Prop:=∀ b o,b ≠ a -> h.get? b = some o -> h'.get? b = some o
section
variable {prog:Program} {w:World} {A:Around} {E:Value -> Shared -> Prop} {s:Shared} {a:Addr} {vs:List Value} {kd:SortKind} {r:Nat -> Nat}
theorem va0 {n:Nat} {α:Type} {cmp:Nat -> Nat -> (Bool -> Shared -> Prop) -> Shared -> Prop} {Q:α -> Shared -> Prop} {P:α -> Prop} (hc:∀ i j C,i < n -> j < n -> C (decide (r i < r j)) s -> cmp i j C s) (hq:∀ x,P x -> Q x s) :
  ∀ t:KasT α,Rn r n t P -> t.kasWp cmp Q s
 | .ret x,h=>hq x h
 | .ask i j k,h=>hc i j _ h.1 h.2.1 (va0 hc hq _ h.2.2)
theorem kc7 {n:Nat} {P:PySem.Fin -> Shared -> Prop} (ho:s.heap.get? a = some (seqObj "list" vs.toArray n)) (h64:vs.length < 64)
  (hkind:2 <= vs.length -> ∀ h' Q,ky9 a s.heap h' -> Q kd { s with heap:=h' } -> wpAny (model prog w) A (keyKind' vs.toArray) Q E { s with heap:=h' })
  (hlt:2 <= vs.length -> ∀ h' i j C,ky9 a s.heap h' -> i < vs.length -> j < vs.length -> C (decide (r i < r j)) { s with heap:=h' } -> wpAny (model prog w) A (keyLt' kd (vs.getD i Value.none) (vs.getD j Value.none)) C (fun _ _=>False) { s with heap:=h' })
  (h:∀ h' n' (p:Array Nat),ky9 a s.heap h' -> p.Perm (List.range vs.length).toArray -> Up r p vs.length -> h'.get? a = some (seqObj "list" (p.toList.map fun i=>vs.getD i Value.none).toArray n') -> P (.done (.ret .none)) { s with heap:=h' }) :
  wpAny (model prog w) A (Builtin.«list.sort» ⟨[.ref a],[]⟩) P E s:=by
 have ha:a < s.heap.objs.size:=Heap.lt_size ho
 have line:sizeLine = 16777216 \/ 64 <= sizeLine:=.inr (by rw [sizeLine_eq]; decide)
 have big:64 <= sizeLine:=by rw [sizeLine_eq]; decide
 have sb1:=Heap.SameBut.update s.heap a (Obj.mapSeq fun _=>(#[]:Array Value))
 obtain ⟨e1,ho1⟩ : ∃ e1,(s.heap.update a (Obj.mapSeq fun _=>(#[]:Array Value))).get? a = some (seqObj "list" #[] e1):=⟨_,get?_update_seq ho fun _=>#[]⟩
 rw [list_sort_plain]
 refine wpAny_bind (listItems_at ho rfl (wpAny_bind (listUpdate_at ho rfl ?_ (by rw [List.size_toArray]; lia) (Nat.zero_le _))))
 refine wpAny_bind (seqEpoch_at ho1 rfl (wpAny_bind (wpAny_newTuple ?_ (by show vs.length <= _; lia))))
 refine wpAny_bind (wpAny_newList ?_ (Nat.zero_le _))
 refine wpAny_holding ?_
 generalize hG:((s.heap.update a (Obj.mapSeq fun _=>(#[]:Array Value))).push (seqObj "tuple" vs.toArray 0)).push (seqObj "list" #[] 0) = g
 have kg:ky9 a s.heap g:=fun b o hb e=>by
  rw [<- hG]
  exact Heap.get?_push_of_some _ (Heap.get?_push_of_some _ (by rw [sb1.2 b hb]; exact e))
 have ag:g.get? a = some (seqObj "list" #[] e1):=by rw [<- hG]; exact Heap.get?_push_of_some _ (Heap.get?_push_of_some _ ho1)
 show wpAny (model prog w) A _ P E { s with heap:=g }
 dsimp only
 have fin:∀ (p:Array Nat),p.size = vs.length -> p.Perm (List.range vs.length).toArray -> Up r p vs.length -> P (.done (.ret .none)) { s with heap:=g.update a (Obj.mapSeq fun _=>(p.toList.map fun i=>vs.getD i Value.none).toArray) }:=fun p hp h1 h2=>by
  have sb2:=Heap.SameBut.update g a (Obj.mapSeq fun _=>(p.toList.map fun i=>vs.getD i Value.none).toArray)
  exact h _ _ p (fun b o hb e=>by rw [sb2.2 b hb]; exact kg b o hb e) h1 h2 (get?_update_seq ag fun _=>_)
 have psz:∀ (p:Array Nat),p.size = vs.length -> (p.toList.map fun i=>vs.getD i Value.none).toArray.size <= sizeLine + 1:=fun p hp=>by
  rw [List.size_toArray,List.length_map,Array.length_toList,hp]; lia
 by_cases h2:vs.toArray.size < 2
 ·rw [if_pos h2,if_pos h2]
  refine wpAny_bind (wpAny_pure ?_)
  rw [StateT.run_pure]
  refine wpAny_bind (wpAny_pure ?_)
  dsimp only
  have h2':vs.length < 2:=by rw [<- List.size_toArray]; exact h2
  have ids:(List.range vs.length).toArray.toList.map (fun i=>vs.getD i Value.none) = vs:=by
   show (List.range vs.length).map (fun i=>vs.getD i Value.none) = vs
   refine List.ext_getElem (by simp) fun i h1 h2=>?_
   simp at h1
   simp [h1]
  have out:(arrOf (SortSt.mk' general' (vs.toArray.zip vs.toArray) #[] 7 none)).map (·.2) = ((List.range vs.length).toArray.toList.map fun i=>vs.getD i Value.none).toArray:=by
   rw [ids]
   show (vs.toArray.zip vs.toArray).map (·.2) = _
   apply Array.toList_inj.mp
   rw [Array.toList_map,Array.toList_zip]
   exact List.map_snd_zip (Nat.le_refl _)
  rw [out]
  have rs:(List.range vs.length).toArray.size = vs.length:=by rw [List.size_toArray,List.length_range]
  refine wpAny_bind (seqEpoch_at ag rfl ?_)
  refine wpAny_bind (listUpdate_at ag rfl ?_ (Nat.zero_le _) (psz _ rs))
  simp only [bne_self_eq_false,Bool.false_eq_true,if_false]
  refine wpAny_pure (fin _ rs (.refl _) fun i j hij hj=>?_)
  have:i = j:=by lia
  subst this; exact Nat.le_refl _
 ·rw [if_neg h2,if_neg h2]
  have h2':2 <= vs.length:=by rw [<- List.size_toArray]; lia
  refine wpAny_bind (hkind h2' g _ kg ?_)
  have est:SortSt.mk' kd (vs.toArray.zip vs.toArray) #[] 7 none = kas_st kd (pairsOf vs) (List.toArray (List.range vs.length)):=by
   have e:=kas_range (pairsOf vs)
   rw [pairsOf_size] at e
   show SortSt.mk' kd (pairsOf vs) #[] 7 none = SortSt.mk' kd _ #[] 7 none
   rw [e]
  have ask:=va0 (s:={ s with heap:=g }) (cmp:=kas_ask prog w A kd vs) (Q:=fun (p:Array Nat) s'=>s' = { s with heap:=g } /\ p.Perm (List.range vs.length).toArray /\ p.size = vs.length /\ Up r p vs.length)
   (fun i j C hi hj hc=>hlt h2' g i j C kg hi hj hc) (fun x hx=>⟨rfl,hx⟩) (kas_sort vs.length) (qr0 r (by lia))
  rw [kas_ask_eq] at ask
  have run:=kas_runs (E:=E) (Q:=fun _ st' s'=>s' = { s with heap:=g } /\ failedOf st' = none /\ ∃ p:Array Nat,arrOf st' = p.map (kas_item (pairsOf vs)) /\ p.Perm (List.range vs.length).toArray /\ p.size = vs.length /\ Up r p vs.length)
   h2' h64 (fun p' st' s' a1 a2 a3 a4=>⟨a4.1,a3,p',a2,a4.2⟩) ask
  rw [<- est] at run
  refine wpAny_bind (wpAny_mono run ?_ fun _ _ e=>e)
  rintro ⟨⟨⟩,st'⟩ s' ⟨rfl,hf,p,har,p1,p2,p3⟩
  dsimp only
  have out:(arrOf st').map (·.2) = (p.toList.map fun i=>vs.getD i Value.none).toArray:=by
   apply Array.toList_inj.mp
   rw [har,Array.map_map,Array.toList_map]
   refine List.map_congr_left fun i _=>?_
   show (kas_item (pairsOf vs) i).2 = _
   rw [kas_item_eq]
  rw [out]
  refine wpAny_bind (seqEpoch_at ag rfl ?_)
  refine wpAny_bind (listUpdate_at ag rfl ?_ (Nat.zero_le _) (psz _ p2))
  rw [hf]
  simp only [bne_self_eq_false,Bool.false_eq_true,if_false]
  exact wpAny_pure (fin p p2 p1 p3)
end
end So
end T_So2
section T_Ts
namespace Ts
open PySem PySem.SetTable Tb
structure SKind (prog:Program) (w:World) (K:Type) [DecidableEq K] extends HeapKind prog w K where
 noCls:∀ {A:Around} {E:Value -> Shared -> Prop} {s:Shared} {k:K} {a:Addr} {Q:Bool -> Shared -> Prop},is s.heap k a -> Q false s -> wpAny (model prog w) A (ofAClassStatement 8 (.ref a)) Q E s
 byVal:∀ {A:Around} {E:Value -> Shared -> Prop} {s:Shared} {k:K} {a:Addr} {Q:Bool -> Shared -> Prop},is s.heap k a -> Q true s -> wpAny (model prog w) A (hashByValue 8 (.ref a)) Q E s
 mono:∀ {h h':Heap} {k:K} {a:Addr},is h k a -> (∀ b o,h.get? b = some o -> o.cls = .type "tuple" -> h'.get? b = some o) -> is h' k a
section
variable {prog:Program} {w:World} {K:Type} [DecidableEq K] {κ:SKind prog w K}
theorem vb0 (κ:SKind prog w K) {h h':Heap} {k:K} {a d:Addr} {o:Obj} (x:κ.is h k a) (ho:h.get? d = some o) (hc:o.cls = .type "set") (sb:Heap.SameBut d h h'):κ.is h' k a :=
 κ.mono x fun b ob e hb=>by
  rw [sb.2 b ?_]
  ·exact e
  ·rintro rfl
   obtain rfl:=Option.some.inj (e.symm.trans ho)
   rw [hc] at hb
   exact absurd hb (by decide)
noncomputable def entry (κ:SKind prog w K) (x:K × Addr):Int × Value:=(κ.hash x.1,.ref x.2)
structure SetO (κ:SKind prog w K) (h:Heap) (a:Addr) (led:Bool) (xs:List (K × Addr)) (o:Obj) (ep:Nat) (t:SetTable):Prop where
 obj:h.get? a = some o
 exact':o.ExactSet
 data:o.data = .set (xs.map (entry κ)).toArray ep t
 good:Good t xs.length
 paths:ke2 t (fun i=>((xs.map (entry κ)).toArray[i]?.map (·.1)).getD 0) xs.length
 led':t.led = led
 plain:t.plain = true
 few:xs.length * 5 < t.mask * 3
 keys:(xs.map (·.1)).Nodup
 each:∀ x ∈ xs,κ.is h x.1 x.2
theorem qb1 {t:SetTable} {n:Nat} (g:Good t n):t.fits n = true:=by
 unfold SetTable.fits SetTable.fill
 rw [g.dum,g.size]
 have:=g.few
 simp
 lia
variable {A:Around} {E:Value -> Shared -> Prop} {s:Shared} {a b:Addr} {led:Bool} {xs:List (K × Addr)} {o:Obj} {ep:Nat} {t:SetTable} {k:K}
theorem jc9 {Q:(Array (Int × Value) × Nat × SetTable) -> Shared -> Prop} (S:SetO κ s.heap a led xs o ep t) (h:Q ((xs.map (entry κ)).toArray,ep,t) s):wpAny (model prog w) A (setState a) Q E s :=
 wpAny_setState_of S.obj S.data (by simpa using qb1 S.good) h
theorem qt0 {Q:Bool -> Shared -> Prop} {l:List (K × Addr)} (hx:κ.is s.heap k b) (hl:∀ x ∈ l,κ.is s.heap x.1 x.2) (h:Q false s) :
  wpAny (model prog w) A (searchCouldBeSeen (.ref b) (l.map fun x=>Value.ref x.2)) Q E s:=by
 unfold searchCouldBeSeen
 refine wpAny_bind (wpAny_forIn_list _ (fun rest r s'=>r.1 = none /\ s' = s /\ ∃ (l':List (K × Addr)),rest = l'.map (fun x:K × Addr=>Value.ref x.2) /\ ∀ x ∈ l',κ.is s.heap x.1 x.2) _ ?_ ?_ _ _ ⟨rfl,rfl,l,rfl,hl⟩)
 ·rintro v rest r s' ⟨hr,rfl,l',hl',hk⟩
  cases l' with
  | nil=>cases hl'
  | cons x l' =>
   rw [List.map_cons] at hl'
   injection hl' with e1 e2
   subst e1
   have nx:r.1 = none /\ s' = s' /\ ∃ (l'':List (K × Addr)),rest = l''.map (fun x:K × Addr=>Value.ref x.2) /\ ∀ x ∈ l'',κ.is s'.heap x.1 x.2:=⟨hr,rfl,l',e2,fun y hy=>hk y (List.mem_cons_of_mem _ hy)⟩
   have hx2:=hk x List.mem_cons_self
   dsimp only
   split
   ·exact wpAny_pure ⟨rfl,rfl,nx.2.2⟩
   ·refine wpAny_bind (κ.quiet hx ?_)
    simp only [Bool.not_true,Bool.false_eq_true,if_false]
    refine wpAny_bind (κ.quiet hx2 ?_)
    simp only [Bool.not_true,Bool.false_eq_true,if_false]
    refine wpAny_bind (κ.noCls hx ?_)
    simp only [Bool.false_eq_true,if_false]
    refine wpAny_bind (κ.noCls hx2 ?_)
    simp only [Bool.false_eq_true,if_false]
    exact wpAny_pure ⟨rfl,rfl,nx.2.2⟩
 ·rintro ⟨r1,r2⟩ s' ⟨hr,rfl,_⟩
  simp only at hr
  subst hr
  exact wpAny_pure h
theorem jg7 (xs:List (K × Addr)) (i:Nat):(xs.map (entry κ)).toArray[i]? = xs[i]?.map (entry κ):=by simp
theorem kv7 {Q:SetFound -> Shared -> Prop} (S:SetO κ s.heap a led xs o ep t) (hr:κ.room A) (hx:κ.is s.heap k b)
  (hT:k ∈ xs.map (·.1) -> Q (.there none) s)
  (hF:k ∉ xs.map (·.1) -> ∀ j,j <= t.mask -> t.slot j = .empty -> jx0 t (κ.hash k) j -> Q (.free j false) s)
  {D:Nat} (hD:D <= 10 * (t.mask + 13)) (hE:t.slot (W t.mask (t.probeStart (κ.hash k)) D).j = .empty) (hB:∀ m,m < D -> t.slot (W t.mask (t.probeStart (κ.hash k)) m).j ≠ .empty) :
  ∀ (r m0 fuel:Nat),m0 + r = D -> r < fuel -> (∀ m i,m < m0 -> t.slot (W t.mask (t.probeStart (κ.hash k)) m).j = .live i -> ∀ x,xs[i]? = some x -> x.1 ≠ k) ->
   ∀ stand:Option Probe,stand.getD (t.probeStart (κ.hash k)) = W t.mask (t.probeStart (κ.hash k)) m0 ->
   wpAny (model prog w) A (setSearchFrom a (.ref b) (κ.hash k) true fuel stand) Q E s:=by
 intro r
 induction r using Nat.strongRecOn with
 | _ r ih =>
  intro m0 fuel hm hf hv stand hst
  obtain ⟨fuel,rfl⟩ : ∃ f,fuel = f + 1:=⟨fuel - 1,by lia⟩
  unfold setSearchFrom
  refine wpAny_bind (jc9 S ?_)
  dsimp only
  have hgw:t.gaveWay = false:=by
   unfold SetTable.gaveWay
   rcases S.good.msk with e | e | e <;> rw [e] <;> rfl
  rw [hgw]
  simp only [Bool.false_eq_true,if_false]
  have sp:=kt3 S.good (fun i=>((xs.map (entry κ)).toArray[i]?.map (·.1)).getD 0) (κ.hash k) r (W t.mask (t.probeStart (κ.hash k)) m0) (10 * turns t.mask) (kv0 _ _ _ rfl) (by unfold turns; lia)
   (by rw [<- jr4,hm]; exact hE) (fun m hm'=>by rw [<- jr4]; exact hB _ (by lia))
  have hpr:t.probe (fun i=>((xs.map (entry κ)).toArray[i]?.map (·.1)).getD 0) (κ.hash k) (stand.getD (t.probeStart (κ.hash k))) = probe.go t (fun i=>((xs.map (entry κ)).toArray[i]?.map (·.1)).getD 0) (κ.hash k) (10 * turns t.mask) (W t.mask (t.probeStart (κ.hash k)) m0):=by
   rw [hst]; rfl
  rcases sp with ⟨m,i,h1,h2,h3,h4,h5,h6⟩ | ⟨h1,h2⟩
  ·have hp2:=hpr.trans h6
   generalize hpq:t.probe _ (κ.hash k) (stand.getD (t.probeStart (κ.hash k))) = pr
   obtain rfl:=hpq.symm.trans hp2
   dsimp only
   obtain ⟨x,hxi⟩ : ∃ x,xs[i]? = some x:=⟨xs[i],List.getElem?_eq_getElem h2⟩
   have hxm:x ∈ xs:=List.mem_of_getElem? hxi
   have rest:wpAny (model prog w) A (do
     let some (_,y):=(xs.map (entry κ)).toArray[i]? | unsupported "internal:set-entry"
     let equal <- holding [y] (eqBool y (.ref b))
     let (es',_,t') <- setState a
     if true && equal then return .there none
     let some same:=t'.sameMemory t.moves t.mask | unsupported "set.changed-during-lookup:is-the-new-block-at-the-old-address"
     let still <- match (if same then t'.slot (W t.mask (W t.mask (t.probeStart (κ.hash k)) m0) m).j else .empty) with
      | .live i'=>match es'[i']? with
       | some (_,y')=>do pure (if <- isSame y' y then some i' else none)
       | none=>pure none
      | _=>pure none
     match still with
     | none=>rule "set.search.anew"; setSearchFrom a (.ref b) (κ.hash k) true fuel none
     | some i'=>if equal then return .there (some i') else setSearchFrom a (.ref b) (κ.hash k) true fuel (some (W t.mask (W t.mask (t.probeStart (κ.hash k)) m0) (m + 1)))) Q E s:=by
    rw [jg7,hxi]
    dsimp only [Option.map,entry]
    refine wpAny_bind (wpAny_holding (κ.eqBool hr (S.each x hxm) hx ?_))
    refine wpAny_bind (jc9 S ?_)
    dsimp only
    by_cases hk:x.1 = k
    ·rw [decide_eq_true hk]
     simp only [Bool.and_self,if_true]
     exact wpAny_pure (hT (List.mem_map.mpr ⟨x,hxm,hk⟩))
    ·rw [decide_eq_false hk]
     simp only [Bool.and_false,Bool.false_eq_true,if_false]
     have hsm:t.sameMemory t.moves t.mask = some true:=by unfold SetTable.sameMemory; rw [if_pos (by simp)]
     rw [hsm]
     dsimp only
     rw [if_pos rfl,h3]
     dsimp only
     rw [jg7,hxi]
     dsimp only [Option.map,entry]
     refine wpAny_bind (wpAny_isSame_ref_self (wpAny_bind (wpAny_pure ?_)))
     simp only [if_true]
     refine ih (r - (m + 1)) (by lia) (m0 + (m + 1)) fuel (by lia) (by lia) (fun m' i' hm' hl y hy=>?_) _ (by rw [<- jr4]; rfl)
     by_cases c1:m' < m0
     ·exact hv m' i' c1 hl y hy
     ·obtain ⟨q,rfl⟩ : ∃ q,m' = m0 + q:=⟨m' - m0,by lia⟩
      rw [jr4] at hl
      by_cases c2:q < m
      ·intro e
       refine h5 q c2 i' hl ?_
       show ((xs.map (entry κ)).toArray[i']?.map (·.1)).getD 0 = κ.hash k
       rw [jg7,hy]
       show κ.hash y.1 = κ.hash k
       rw [e]
      ·have:q = m:=by lia
       subst this
       rw [h3] at hl
       cases hl
       rw [hxi] at hy
       cases hy
       exact hk
   by_cases hl:led = true
   ·have hl':t.led = true:=S.led'.trans hl
    rw [hl']
    simp only [Bool.not_true,Bool.false_eq_true,if_false]
    exact rest
   ·have hl':t.led = false:=S.led'.trans (Bool.eq_false_iff.mpr hl)
    rw [hl']
    simp only [Bool.not_false,if_true]
    have el:((((xs.map (entry κ)).toArray.filter (·.1 == κ.hash k))).toList.map (·.2)) = (xs.filter fun y=>κ.hash y.1 == κ.hash k).map fun y=>Value.ref y.2:=by
     rw [Array.toList_filter,List.filter_map,List.map_map]
     rfl
    rw [el]
    refine wpAny_bind (qt0 hx (fun y hy=>S.each y (List.mem_filter.mp hy).1) ?_)
    simp only [Bool.false_eq_true,if_false]
    exact rest
  ·have hp2:=hpr.trans h2
   generalize hpq:t.probe _ (κ.hash k) (stand.getD (t.probeStart (κ.hash k))) = pr
   obtain rfl:=hpq.symm.trans hp2
   dsimp only
   have ej:(W t.mask (W t.mask (t.probeStart (κ.hash k)) m0) r).j = (W t.mask (t.probeStart (κ.hash k)) D).j:=by rw [<- jr4,hm]
   rw [ej]
   refine wpAny_pure (hF (fun hmem=>?_) _ (qz6 t.mask _ D) hE ⟨D,rfl,hB⟩)
   refine x1_2 (List.mem_map.mp hmem) fun x hxm ek=>?_
   obtain ⟨i,hi,ei⟩:=List.mem_iff_getElem.mp hxm
   have hxi:xs[i]? = some x:=by rw [List.getElem?_eq_getElem hi,ei]
   refine x1_2 (S.paths i hi) fun ki p1 p2=>?_
   have hh:(fun i=>((xs.map (entry κ)).toArray[i]?.map (·.1)).getD 0) i = κ.hash k:=by
    show ((xs.map (entry κ)).toArray[i]?.map (·.1)).getD 0 = κ.hash k
    rw [jg7,hxi]
    show κ.hash x.1 = κ.hash k
    rw [ek]
   rw [hh] at p1 p2
   have sl:t.slot (W t.mask (t.probeStart (κ.hash k)) ki).j = .live i:=by rw [p1]; exact kb7 S.good hi
   have c1:ki < D:=by
    rcases Nat.lt_trichotomy ki D with c | c | c
    ·exact c
    ·subst c; rw [sl] at hE; cases hE
    ·exact absurd hE (p2 D c)
   by_cases c2:ki < m0
   ·exact hv ki i c2 sl x hxi ek
   ·obtain ⟨q,rfl⟩ : ∃ q,ki = m0 + q:=⟨ki - m0,by lia⟩
    rw [jr4] at sl
    exact h1 q (by lia) i sl hh
end
end Ts
end T_Ts
section T_Ts2
namespace Ts
open PySem PySem.SetTable Tb
section
variable {prog:Program} {w:World} {K:Type} [DecidableEq K] {κ:SKind prog w K}
variable {A:Around} {E:Value -> Shared -> Prop} {s:Shared} {a b:Addr} {led:Bool} {xs:List (K × Addr)} {o:Obj} {ep:Nat} {t:SetTable} {k:K}
theorem SetO.store (S:SetO κ s.heap a led xs o ep t) {ys:List (K × Addr)} {t':SetTable} (hg:Good t' ys.length) (hp:ke2 t' (fun i=>((ys.map (entry κ)).toArray[i]?.map (·.1)).getD 0) ys.length) (hl:t'.led = led) (hpl:t'.plain = true)
  (hk:(ys.map (·.1)).Nodup) (he:∀ x ∈ ys,κ.is s.heap x.1 x.2) :
  let h':=s.heap.update a (Obj.putSet (ys.map (entry κ)).toArray t')
  Heap.SameBut a s.heap h' /\ h'.get? a = some { o with data:=.set (ys.map (entry κ)).toArray (ep + 1) t' } /\ (∀ x ∈ ys,κ.is h' x.1 x.2) /\
   (ys.length * 5 < t'.mask * 3 -> SetO κ h' a led ys { o with data:=.set (ys.map (entry κ)).toArray (ep + 1) t' } (ep + 1) t'):=by
 intro h'
 have sb:Heap.SameBut a s.heap h':=Heap.SameBut.update ..
 have hg':h'.get? a = some { o with data:=.set (ys.map (entry κ)).toArray (ep + 1) t' }:=by
  have:=Heap.get?_update_self (Obj.putSet (ys.map (entry κ)).toArray t') S.obj (by rw [putSet_of _ t' S.data]; rfl)
  rw [putSet_of _ t' S.data] at this; exact this
 have hi:∀ x ∈ ys,κ.is h' x.1 x.2:=fun x hx=>vb0 κ (he x hx) S.obj S.exact'.1 sb
 exact ⟨sb,hg',hi,fun hf=>⟨hg',S.exact',rfl,hg,hp,hl,hpl,hf,hk,hi⟩⟩
theorem jp1 {n M:Nat} (h:(M = 32 /\ 16 <= n /\ n < 32) \/ (M = 128 /\ 64 <= n /\ n < 128)):sizeAbove n = M:=by
 unfold sizeAbove
 rcases h with ⟨rfl,h1,h2⟩ | ⟨rfl,h1,h2⟩
 ·unfold sizeAbove.go; rw [if_pos (by lia)]
  unfold sizeAbove.go; rw [if_pos (by lia)]
  unfold sizeAbove.go; rw [if_neg (by lia)]
 ·unfold sizeAbove.go; rw [if_pos (by lia)]
  unfold sizeAbove.go; rw [if_pos (by lia)]
  unfold sizeAbove.go; rw [if_pos (by lia)]
  unfold sizeAbove.go; rw [if_pos (by lia)]
  unfold sizeAbove.go; rw [if_neg (by lia)]
theorem jy9 {α:Type} (l:List α) (p:Nat) (x y:α):y ∈ l.take p ++ x :: l.drop p ↔ y = x \/ y ∈ l:=by
 rw [List.mem_append,List.mem_cons]
 have:y ∈ l ↔ y ∈ l.take p \/ y ∈ l.drop p:=by rw [<- List.mem_append,List.take_append_drop]
 rw [this]
 constructor
 ·rintro (h | h | h)
  ·exact .inr (.inl h)
  ·exact .inl h
  ·exact .inr (.inr h)
 ·rintro (h | h | h)
  ·exact .inr (.inl h)
  ·exact .inl h
  ·exact .inr (.inr h)
theorem ku1 {α:Type} {l:List α} {x:α} (p:Nat) (h:l.Nodup) (hx:x ∉ l):(l.take p ++ x :: l.drop p).Nodup:=by
 have e:(l.take p ++ x :: l.drop p).Perm (x :: l):=by
  refine List.perm_middle.trans ?_
  rw [List.take_append_drop]
 exact e.nodup_iff.mpr (List.nodup_cons.mpr ⟨hx,h⟩)
theorem qm8 {α:Type} (l:List α) (order:Array Nat) {n:Nat} (hl:l.length = n) (ho:order.size = n) (hlt:∀ m,m < n -> order.getD m 0 < n) :
  (order.toList.filterMap (fun i=>l[i]?)).length = n /\ ∀ m,m < n -> (order.toList.filterMap (fun i=>l[i]?))[m]? = l[order.getD m 0]?:=by
 have key:∀ (q:List Nat),(∀ i ∈ q,i < l.length) -> (q.filterMap (fun i=>l[i]?)).length = q.length /\ ∀ m,m < q.length -> (q.filterMap (fun i=>l[i]?))[m]? = l[q.getD m 0]?:=by
  intro q
  induction q with
  | nil=>intro _; exact ⟨rfl,fun m h=>absurd h (Nat.not_lt_zero _)⟩
  | cons i q ih =>
   intro h
   have hi:=h i List.mem_cons_self
   obtain ⟨a1,a2⟩:=ih fun j hj=>h j (List.mem_cons_of_mem _ hj)
   rw [List.filterMap_cons_some (b:=l[i]) (List.getElem?_eq_getElem hi)]
   refine ⟨by rw [List.length_cons,List.length_cons,a1],fun m hm=>?_⟩
   cases m with
   | zero=>simp [List.getElem?_eq_getElem hi]
   | succ m=>simpa using a2 m (by simpa using hm)
 have hm:∀ i ∈ order.toList,i < l.length:=fun i hi=>by
  obtain ⟨m,h1,h2⟩:=List.mem_iff_getElem.mp hi
  have hz:m < order.size:=by rw [<- Array.length_toList]; exact h1
  have:=hlt m (by lia)
  have e:order.getD m 0 = i:=by simp [Array.getD,hz]; rw [<- h2]; simp
  lia
 obtain ⟨b1,b2⟩:=key order.toList hm
 refine ⟨by rw [b1,Array.length_toList,ho],fun m h=>?_⟩
 rw [b2 m (by rw [Array.length_toList]; lia)]
 congr 1
 have hz:m < order.size:=by lia
 simp [Array.getD,List.getD,hz]
theorem qc9 {Q:Unit -> Shared -> Prop} {wanted M:Nat} (ho:s.heap.get? a = some o) (hx:o.ExactSet) (hd:o.data = .set (xs.map (entry κ)).toArray ep t) (hg:Good t xs.length) (hl:t.led = led) (hpl:t.plain = true) (hk:(xs.map (·.1)).Nodup) (he:∀ x ∈ xs,κ.is s.heap x.1 x.2)
  (hM:Msk M) (hw:sizeAbove wanted = M + 1) (hn:xs.length * 5 < M * 3)
  (h:∀ h' o' ep' t' ys,Heap.SameBut a s.heap h' -> SetO κ h' a led ys o' ep' t' -> (∀ x,x ∈ ys ↔ x ∈ xs) -> ys.length = xs.length -> Q () { s with heap:=h' }):wpAny (model prog w) A (setRelay a wanted) Q E s:=by
 unfold setRelay
 refine wpAny_bind (wpAny_setState_of ho hd (by simpa using qb1 hg) ?_)
 dsimp only
 have hM':M < 200:=by rcases hM with e | e | e <;> lia
 rw [if_neg (by rw [hw,sizeLine_eq]; lia)]
 obtain ⟨t',order,e1,g1,e2,e3,e4,e5,e6,e7,e8,e9⟩:=kz6 (n:=xs.length) hM (((xs.map (entry κ)).toArray).map (·.1)) (by simp) (by lia) t.finger (t.movedTo M) t.led t.plain
 have hrl:t.relaid (((xs.map (entry κ)).toArray).map (·.1)) wanted = some (t',order):=by
  unfold SetTable.relaid
  rw [hw,Nat.add_sub_cancel]
  exact e1
 rw [hrl]
 obtain ⟨r1,r2⟩:=qm8 xs order rfl e5 e6
 have ent:order.filterMap (fun i=>((xs.map (entry κ)).toArray)[i]?) = ((order.toList.filterMap (fun i=>xs[i]?)).map (entry κ)).toArray:=by
  apply Array.toList_inj.mp
  rw [Array.toList_filterMap,List.map_filterMap]
  congr 1
  funext i
  rw [jg7]
 refine wpAny_bind (wpAny_of_eq (a:=(((order.toList.filterMap (fun i=>xs[i]?)).map (entry κ)).toArray,t')) ?_ ?_)
 ·show (do
   if (order.filterMap (fun i=>((xs.map (entry κ)).toArray)[i]?)).size != ((xs.map (entry κ)).toArray).size then unsupported "internal:set-table-lost-an-element"
   pure (order.filterMap (fun i=>((xs.map (entry κ)).toArray)[i]?),t'):Sem (Array (Int × Value) × SetTable)) = _
  rw [ent,if_neg (by simp [r1])]
  first | done | rfl
 dsimp only
 have len:(order.toList.filterMap (fun i=>xs[i]?)).length = xs.length:=r1
 have mem:∀ x,x ∈ order.toList.filterMap (fun i=>xs[i]?) ↔ x ∈ xs:=fun x=>by
  rw [List.mem_filterMap]
  constructor
  ·rintro ⟨i,_,e⟩; exact List.mem_of_getElem? e
  ·intro hx'
   obtain ⟨i,hi,ei⟩:=List.mem_iff_getElem.mp hx'
   refine x1_2 (e8 i hi) fun m hm em=>?_
   have hz:m < order.size:=by lia
   refine ⟨i,?_,by rw [List.getElem?_eq_getElem hi,ei]⟩
   have:order[m] = i:=by rw [<- em]; simp [Array.getD,hz]
   rw [<- this]
   exact Array.mem_toList_iff.mpr (Array.getElem_mem hz)
 have nd:((order.toList.filterMap (fun i=>xs[i]?)).map (·.1)).Nodup:=by
  rw [List.nodup_iff_pairwise_ne,List.pairwise_iff_getElem]
  intro i j hi hj hij e
  rw [List.length_map,len] at hi hj
  have gi:=r2 i hi
  have gj:=r2 j hj
  rw [List.getElem?_eq_getElem (by lia),List.getElem?_eq_getElem (e6 i hi)] at gi
  rw [List.getElem?_eq_getElem (by lia),List.getElem?_eq_getElem (e6 j hj)] at gj
  rw [List.getElem_map,List.getElem_map,Option.some.inj gi,Option.some.inj gj] at e
  have pw:=List.pairwise_iff_getElem.mp (List.nodup_iff_pairwise_ne.mp hk)
  have a1:order.getD i 0 < (xs.map (·.1)).length:=by rw [List.length_map]; exact e6 i hi
  have a2:order.getD j 0 < (xs.map (·.1)).length:=by rw [List.length_map]; exact e6 j hj
  rcases Nat.lt_trichotomy (order.getD i 0) (order.getD j 0) with c | c | c
  ·exact pw _ _ a1 a2 c (by rw [List.getElem_map,List.getElem_map]; exact e)
  ·have:=e7 i j hi hj c; lia
  ·exact pw _ _ a2 a1 c (by rw [List.getElem_map,List.getElem_map]; exact e.symm)
 have pth:ke2 t' (fun i=>(((order.toList.filterMap (fun i=>xs[i]?)).map (entry κ)).toArray[i]?.map (·.1)).getD 0) (order.toList.filterMap (fun i=>xs[i]?)).length:=by
  rw [len]
  intro i hi
  have q:=e9 i hi
  have ee:(((order.toList.filterMap (fun i=>xs[i]?)).map (entry κ)).toArray[i]?.map (·.1)).getD 0 = (((xs.map (entry κ)).toArray).map (·.1)).getD (order.getD i 0) 0:=by
   rw [jg7,r2 i hi]
   generalize order.getD i 0 = z
   rw [Array.getD_eq_getD_getElem?,Array.getElem?_map,jg7]
  show jx0 t' ((((order.toList.filterMap (fun i=>xs[i]?)).map (entry κ)).toArray[i]?.map (·.1)).getD 0) (t'.place.getD i 0)
  rw [ee]
  exact q
 have sb:Heap.SameBut a s.heap (s.heap.update a (Obj.putSet ((order.toList.filterMap (fun i=>xs[i]?)).map (entry κ)).toArray t')):=Heap.SameBut.update ..
 have hg':=Heap.get?_update_self (Obj.putSet ((order.toList.filterMap (fun i=>xs[i]?)).map (entry κ)).toArray t') ho (by rw [putSet_of _ t' hd]; rfl)
 rw [putSet_of _ t' hd] at hg'
 refine wpAny_storeSet_of ho hd (h _ _ (ep + 1) t' (order.toList.filterMap (fun i=>xs[i]?)) sb ⟨hg',hx,rfl,by rw [len]; exact g1,pth,e3.trans hl,e4.trans hpl,by rw [len,e2]; exact hn,nd,fun x hx'=>vb0 κ (he x ((mem x).mp hx')) ho hx.1 sb⟩ mem len) ?_
 rw [List.size_toArray,List.length_map,len,sizeLine_eq]
 lia
theorem qx4 {Q:Bool -> Shared -> Prop} (S:SetO κ s.heap a led xs o ep t) (hr:κ.room A) (hx:κ.is s.heap k b) (hn:xs.length < 60)
  (h:∀ c h' o' ep' t' ys,Heap.SameBut a s.heap h' -> SetO κ h' a led ys o' ep' t' -> (∀ x ∈ ys,x ∈ xs \/ x = (k,b)) -> (∀ x ∈ xs,x ∈ ys) -> k ∈ ys.map (·.1) -> ys.length <= xs.length + 1 -> Q c { s with heap:=h',toks:=s.toks + κ.draws k }) :
  wpAny (model prog w) A (setAdd a (.ref b)) Q E s:=by
 unfold setAdd
 refine wpAny_holding (wpAny_bind (κ.pyHash hr hx ?_))
 have S':SetO κ ({ s with toks:=s.toks + κ.draws k }:Shared).heap a led xs o ep t:=S
 have hx':κ.is ({ s with toks:=s.toks + κ.draws k }:Shared).heap k b:=hx
 refine x1_3 (dist S.good (κ.hash k)) fun D d1 d2 d3=>?_
 have hm:t.mask <= 127:=by rcases S.good.msk with e | e | e <;> lia
 unfold setAddHashed setAddHashedIn
 refine wpAny_holding (wpAny_bind (jc9 S' ?_))
 dsimp only
 have hsc:byScan (.ref b) (xs.map (entry κ)).toArray = false:=by simp [byScan,Value.scannable]
 rw [hsc]
 simp only [Bool.false_eq_true,if_false]
 unfold setSearch
 refine wpAny_bind (kv7 S' hr hx' (fun hmem=>?_) (fun hmem j hj he hp=>?_) d1 d2 d3 D 0 100000 (by lia) (by lia) (fun m i h0=>absurd h0 (Nat.not_lt_zero _)) none rfl)
 ·dsimp only
  refine wpAny_pure (h false s.heap o ep t xs (.refl ..) S (fun x hx=>.inl hx) (fun x hx=>hx) hmem (by lia))
 dsimp only
 refine wpAny_bind (jc9 S' ?_)
 dsimp only
 have hf1:xs.length + 1 < t.mask:=by
  have:=S.few
  rcases S.good.msk with e | e | e <;> rw [e] at this ⊢ <;> lia
 refine x0_6 (kj4 S.good hj he hf1) fun g1 p1 p2 p3 p4 p5=>?_
 have hpl:(t.put j).1.plain = true:=by rw [ky8 S.good]; exact S.plain
 have hld:(t.put j).1.led = led:=by rw [ky8 S.good]; exact S.led'
 rw [hpl]
 simp only [if_true]
 refine wpAny_bind (κ.byVal hx' ?_)
 simp only [if_true]
 have ent:SetTable.insertAt (xs.map (entry κ)).toArray (t.put j).2 (κ.hash k,Value.ref b) = ((xs.take (below t.place j) ++ (k,b) :: xs.drop (below t.place j)).map (entry κ)).toArray:=by
  apply Array.toList_inj.mp
  rw [jn5,p1,List.map_append,List.map_cons,List.map_take,List.map_drop]
  rfl
 rw [ent]
 have len:(xs.take (below t.place j) ++ (k,b) :: xs.drop (below t.place j)).length = xs.length + 1:=by
  rw [List.length_append,List.length_cons,List.length_take,List.length_drop]; lia
 have nd:((xs.take (below t.place j) ++ (k,b) :: xs.drop (below t.place j)).map (·.1)).Nodup:=by
  rw [List.map_append,List.map_cons,List.map_take,List.map_drop]
  exact ku1 _ S.keys hmem
 have mem:∀ x,x ∈ (xs.take (below t.place j) ++ (k,b) :: xs.drop (below t.place j)) ↔ x = (k,b) \/ x ∈ xs:=fun x=>jy9 _ _ _ _
 have is':∀ x ∈ (xs.take (below t.place j) ++ (k,b) :: xs.drop (below t.place j)),κ.is s.heap x.1 x.2:=fun x hx2=>by
  rcases (mem x).mp hx2 with e | e
  ·rw [e]; exact hx
  ·exact S.each x e
 have pth:ke2 (t.put j).1 (fun i=>(((xs.take (below t.place j) ++ (k,b) :: xs.drop (below t.place j)).map (entry κ)).toArray[i]?.map (·.1)).getD 0) (xs.length + 1):=by
  refine kq9 S.good hj he hf1 S.paths (h:=κ.hash k) (fun i hi=>?_) hp
  rw [<- ent,p1,jt6 _ _ _ (by simp; exact p2)]
  by_cases c1:i < below t.place j
  ·rw [if_pos c1,if_pos c1]
  ·rw [if_neg c1,if_neg c1]
   by_cases c2:i = below t.place j
   ·rw [if_pos c2,if_pos c2]; rfl
   ·rw [if_neg c2,if_neg c2]
 obtain ⟨sb,hg',is2,S2⟩:=SetO.store (s:={ s with toks:=s.toks + κ.draws k }) S' (t':=(t.put j).1) (by rw [len]; exact g1) (by rw [len]; exact pth) hld hpl nd is'
 refine wpAny_bind (wpAny_storeSet_of S.obj S.data ?_ (by rw [List.size_toArray,List.length_map,len,sizeLine_eq]; lia))
 have hend:∀ h' o' ep' t' ys,Heap.SameBut a s.heap h' -> SetO κ h' a led ys o' ep' t' -> (∀ x,x ∈ ys ↔ x ∈ (xs.take (below t.place j) ++ (k,b) :: xs.drop (below t.place j))) -> ys.length = xs.length + 1 -> Q true { s with heap:=h',toks:=s.toks + κ.draws k } :=
  fun h' o' ep' t' ys q1 q2 q3 q4=>h true h' o' ep' t' ys q1 q2 (fun x hx2=>((mem x).mp ((q3 x).mp hx2)).symm) (fun x hx2=>(q3 x).mpr ((mem x).mpr (.inr hx2))) (List.mem_map.mpr ⟨(k,b),(q3 _).mpr ((mem _).mpr (.inl rfl)),rfl⟩) (by lia)
 have tf:(t.put j).1.tooFull = decide ((xs.length + 1) * 5 ≥ t.mask * 3):=by
  unfold SetTable.tooFull SetTable.fill
  rw [g1.dum,g1.size,p3]
  simp
 rw [tf]
 simp only [Bool.not_false,Bool.true_and]
 by_cases full:(xs.length + 1) * 5 ≥ t.mask * 3
 ·rw [if_pos (decide_eq_true full)]
  have few:=S.few
  have hM:∃ M,Msk M /\ sizeAbove (SetTable.grown ((xs.map (entry κ)).toArray.size + 1)) = M + 1 /\ (xs.length + 1) * 5 < M * 3:=by
   have eg:SetTable.grown ((xs.map (entry κ)).toArray.size + 1) = (xs.length + 1) * 4:=by
    unfold SetTable.grown
    rw [List.size_toArray,List.length_map,if_neg (by lia)]
   rw [eg]
   rcases S.good.msk with e | e | e
   ·rw [e] at full few
    exact ⟨31,.inr (.inl rfl),jp1 (.inl ⟨rfl,by lia,by lia⟩),by lia⟩
   ·rw [e] at full few
    exact ⟨127,.inr (.inr rfl),jp1 (.inr ⟨rfl,by lia,by lia⟩),by lia⟩
   ·rw [e] at full; lia
  refine x1_3 hM fun M hM1 hM2 hM3=>?_
  clear hM
  refine wpAny_bind (qc9 (κ:=κ) (M:=M) (led:=led) (s:={ s with heap:=_,toks:=_ }) hg' S.exact' rfl (by rw [len]; exact g1) hld hpl nd is2 hM1 hM2 (by rw [len]; exact hM3) fun h' o' ep' t' ys q1 q2 q3 q4=>?_)
  exact wpAny_pure (hend h' o' ep' t' ys (sb.trans q1) q2 q3 (q4.trans len))
 ·rw [if_neg (by simp; lia)]
  refine wpAny_pure (hend _ _ _ _ _ sb (S2 (by rw [len,p3]; lia)) (fun x=>Iff.rfl) len)
end
end Ts
end T_Ts2
section T_Ts3
namespace Ts
open PySem PySem.SetTable Tb
section
variable {prog:Program} {w:World} {K:Type} [DecidableEq K] {κ:SKind prog w K}
variable {A:Around} {E:Value -> Shared -> Prop} {R:Result -> Shared -> Prop} {s:Shared} {a b:Addr} {led:Bool} {xs:List (K × Addr)} {o:Obj} {ep:Nat} {t:SetTable} {k:K}
theorem SetO.keep {h h':Heap} (S:SetO κ h a led xs o ep t) (e:∀ b o,h.get? b = some o -> (b = a \/ o.cls = .type "tuple") -> h'.get? b = some o):SetO κ h' a led xs o ep t :=
 ⟨e _ _ S.obj (.inl rfl),S.exact',S.data,S.good,S.paths,S.led',S.plain,S.few,S.keys,fun x hx=>κ.mono (S.each x hx) fun b o q c=>e b o q (.inr c)⟩
theorem qq6 {S I l:Addr} {ys:List (K × Addr)} (hh:A.handled = none) (hroom:κ.room A.in1) (hSI:S ≠ I) (hSl:S ≠ l) (hlI:l ≠ I) (hn:ys.length <= 50) :
  ∀ (r i:Nat) (s:Shared) (xs:List (K × Addr)) (o:Obj) (ep:Nat) (t:SetTable),i + r = ys.length -> s.heap.IsListIter I l i -> s.heap.IsList l (ys.map fun y=>Value.ref y.2).toArray -> SetO κ s.heap S led xs o ep t ->
   (∀ y ∈ ys,κ.is s.heap y.1 y.2) -> (∀ x ∈ xs,x ∈ ys) -> (∀ j y,j < i -> ys[j]? = some y -> y.1 ∈ xs.map (·.1)) -> xs.length <= i ->
   (∀ h' tk o' ep' t' zs,(∀ b ob,b ≠ S -> b ≠ I -> s.heap.get? b = some ob -> h'.get? b = some ob) -> SetO κ h' S led zs o' ep' t' -> (∀ x ∈ zs,x ∈ ys) -> (∀ y ∈ ys,y.1 ∈ zs.map (·.1)) -> R (.ok (.ret .none)) { s with heap:=h',toks:=tk }) ->
   codeAny (model prog w) A (.builtin "set.update.loop" ⟨[.ref S,.ref I],[]⟩) R s:=by
 intro r
 induction r with
 | zero =>
  intro i s xs o ep t hi hit hl hS hk hx hd hz hR
  refine codeAny_builtin PyProof.Rows.F.entry_set_update_loop ?_
  rw [Around.under_plainId PyProof.Rows.F.plain_set_update_loop _]
  refine wpAny_bind (m:=pyNext (.ref I)) (wpAny_pyNext_list_end hh hit hl (by simp; lia) fun h' he=>?_)
  refine wpAny_pure (hR h' s.toks o ep t xs (fun b ob _ h2 e=>he b ob h2 e) (hS.keep fun b ob e c=>he b ob ?_ e) hx fun y hy=>?_)
  ·rintro rfl
   rcases c with c | c
   ·exact hSI c.symm
   ·refine x1_3 hit fun oi h1 h2 _=>?_
    clear hit
    obtain rfl:=Option.some.inj (e.symm.trans h1)
    rw [h2] at c; exact absurd c (by decide)
  ·obtain ⟨j,hj,ej⟩:=List.mem_iff_getElem.mp hy
   exact hd j y (by lia) (by rw [List.getElem?_eq_getElem hj,ej])
 | succ r ih =>
  intro i s xs o ep t hi hit hl hS hk hx hd hz hR
  have hil:i < ys.length:=by lia
  refine codeAny_builtin PyProof.Rows.F.entry_set_update_loop ?_
  rw [Around.under_plainId PyProof.Rows.F.plain_set_update_loop _]
  refine wpAny_bind (m:=pyNext (.ref I)) (wpAny_pyNext_list_item hit hl (x:=.ref (ys[i]).2) (by simp [hil]) fun h1 hit1 sb1=>?_)
  have tupI:∀ b ob,s.heap.get? b = some ob -> ob.cls = .type "tuple" -> b ≠ I:=fun b ob e c z=>by
   subst z
   refine x1_3 hit fun oi q1 q2 _=>?_
   clear hit
   obtain rfl:=Option.some.inj (e.symm.trans q1)
   rw [q2] at c; exact absurd c (by decide)
  have keep1:∀ b ob,s.heap.get? b = some ob -> (b = S \/ ob.cls = .type "tuple") -> h1.get? b = some ob:=fun b ob e c=>by
   rw [sb1.2 b ?_]
   ·exact e
   ·rcases c with c | c
    ·rw [c]; exact hSI
    ·exact tupI b ob e c
  have S1:SetO κ ({ s with heap:=h1 }:Shared).heap S led xs o ep t:=hS.keep keep1
  have hk1:∀ y ∈ ys,κ.is h1 y.1 y.2:=fun y hy=>κ.mono (hk y hy) fun b ob e c=>keep1 b ob e (.inr c)
  have hm:ys[i] ∈ ys:=List.getElem_mem hil
  dsimp only
  refine wpAny_bind (wpAny_holding (qx4 S1 hroom (hk1 _ hm) (by lia) fun c h2 o2 ep2 t2 zs sb2 S2 m1 m2 m3 m4=>?_))
  refine wpAny_pure ⟨plainId_quiet PyProof.Rows.F.plain_set_update_loop _,?_⟩
  have tupS:∀ b ob,h1.get? b = some ob -> ob.cls = .type "tuple" -> b ≠ S:=fun b ob e c z=>by
   subst z
   obtain rfl:=Option.some.inj (e.symm.trans S1.obj)
   rw [S1.exact'.1] at c; exact absurd c (by decide)
  refine ih (i + 1) _ zs o2 ep2 t2 (by lia) (hit1.at fun ob e=>by rw [sb2.2 _ (Ne.symm hSI)]; exact e) ?_ S2 (fun y hy=>κ.mono (hk1 y hy) fun b ob e c=>by rw [sb2.2 b (tupS b ob e c)]; exact e)
   (fun x hx'=>?_) (fun j y hj hy=>?_) (by lia) fun h' tk o' ep' t' ws q1 q2 q3 q4=>?_
  ·refine hl.at fun ob e=>?_
   show h2.get? l = _
   rw [sb2.2 _ (Ne.symm hSl),sb1.2 _ hlI]; exact e
  ·rcases m1 x hx' with e | e
   ·exact hx x e
   ·rw [e]; exact hm
  ·by_cases c:j < i
   ·refine x1_2 (List.mem_map.mp (hd j y c hy)) fun x hx1 hx2=>?_
    exact List.mem_map.mpr ⟨x,m2 x hx1,hx2⟩
   ·have:j = i:=by lia
    subst this
    rw [List.getElem?_eq_getElem hil] at hy
    obtain rfl:=Option.some.inj hy
    exact m3
  ·refine hR h' tk o' ep' t' ws (fun b ob h1' h2' e=>q1 b ob h1' h2' ?_) q2 q3 q4
   show h2.get? b = _
   rw [sb2.2 b h1',sb1.2 b h2']; exact e
end
end Ts
end T_Ts3
section T_Ts4
namespace Ts
open PySem PySem.SetTable Tb
section
variable {prog:Program} {w:World} {K:Type} [DecidableEq K] {κ:SKind prog w K}
variable {A:Around} {E:Value -> Shared -> Prop} {R:Result -> Shared -> Prop} {s:Shared}
noncomputable def jf7 (w:World):Bool:=!(w.params.followText "set-order")
noncomputable def je9 (w:World):Obj:={ cls:=.type "set",dict:=none,data:=.set #[] 0 (.fresh 0 0 (jf7 w)) }
theorem kp7 (w:World):Good (SetTable.fresh 0 0 (jf7 w)) 0:=⟨rfl,fun i j _ h=>absurd h (Nat.not_lt_zero _),fun i h=>absurd h (Nat.not_lt_zero _),rfl,.inl rfl,(by show 0 < 7; decide)⟩
theorem kn9 {h:Heap} {a:Addr} (e:h.get? a = some (je9 w)):SetO κ h a (jf7 w) [] (je9 w) 0 (.fresh 0 0 (jf7 w)) :=
 ⟨e,⟨rfl,rfl,rfl⟩,rfl,kp7 w,fun i h=>absurd h (Nat.not_lt_zero _),rfl,rfl,(by show 0 * 5 < 7 * 3; decide),List.nodup_nil,fun x h=>absurd h (by simp)⟩
theorem qb8 (v:Value) {Q₁:Value -> Shared -> Prop} (h:Q₁ (.ref s.heap.objs.size) { s with heap:=s.heap.push (je9 w) }) :
  codeAny (model prog w) A (.call (.builtin "set.__new__") ⟨[.type "set",v],[]⟩) (wants Q₁ E) s:=by
 refine codeAny_of_tree ?_
 show wpAny _ A.in1 (checkBuiltinCall "set.__new__" ⟨[.type "set",v],[]⟩ >>= fun _=>again (.builtin "set.__new__" ⟨[.type "set",v],[]⟩)) _ _ s
 refine wpAny_bind (wpAny_of_eq (F.newCall_set_1 v) (wpAny_pure ⟨plainId_quiet F.plain_set_new _,codeAny_builtin F.entry_set_new ?_⟩))
 rw [Around.under_plainId F.plain_set_new _]
 unfold Builtin.«set.__new__» Builtin.Frozenset.newClass
 have own:=sub_set_self
 obtain ⟨hp,g,d,tk,os⟩:=s
 dsimp only
 wp_walk
 refine wpAny_askSetting (wpAny_pure ?_)
 dsimp only
 simp only [newObj]
 exact wpAny_bind (wpAny_alloc (wpAny_pure (wpAny_pure h)))
theorem qi9 {l:Addr} {ys:List (K × Addr)} {Q:Value -> Shared -> Prop} (hh:A.handled = none) (hroom:κ.room A.in1.in1.in1) (hl:s.heap.IsList l (ys.map fun y=>Value.ref y.2).toArray) (hn:ys.length <= 50) (hk:∀ y ∈ ys,κ.is s.heap y.1 y.2)
  (h:∀ h' tk o ep t zs,(∀ b ob,s.heap.get? b = some ob -> h'.get? b = some ob) -> SetO κ h' s.heap.objs.size (jf7 w) zs o ep t -> (∀ x ∈ zs,x ∈ ys) -> (∀ y ∈ ys,y.1 ∈ zs.map (·.1)) -> Q (.ref s.heap.objs.size) { s with heap:=h',toks:=tk }) :
  wpAny (model prog w) A (call (.type "set") [.ref l]) Q E s:=by
 refine x2_1 F.called_set.mro fun c tl hmro=>?_
 have made:=F.called_set.made
 have sub:=F.called_set.sub
 have n1:=F.called_set.notType
 have n2:=F.called_set.canCreate
 have ct:=F.typeCall_set_1 (.ref l)
 refine wpAny_call (codeAny_of_tree ?_)
 show wpAny _ _ (callAny (.type "set") _) _ _ _
 refine wpAny_pure ⟨Code.quiet_builtin _ (by decide +kernel),codeAny_builtin F.entry_type_call ?_⟩
 rw [Around.under_plain (weight_type_call_type "set" [.ref l] []) rfl]
 repeat any_goals first | assumption | wp_step
 refine codeAny_mono (qb8 (.ref l) (E:=E) (Q₁:=fun obj s₁=>obj = .ref s.heap.objs.size /\ s₁ = { s with heap:=s.heap.push (je9 w) }) ⟨rfl,rfl⟩) fun r s₁ hr=>?_
 cases r with
 | error e=>exact hr
 | ok fl =>
  cases fl with
  | ret obj =>
   obtain ⟨rfl,rfl⟩:=hr
   have got:(s.heap.push (je9 w)).get? s.heap.objs.size = some (je9 w):=Heap.get?_push_size _ rfl
   have ty:Shared.TypeIs { s with heap:=s.heap.push (je9 w) } (.ref s.heap.objs.size) "set":=⟨_,got,rfl⟩
   have li:=F.called_set.init.lookup
   have bi:=F.called_set.init.bind (.ref s.heap.objs.size)
   repeat any_goals first | assumption | wp_step
   refine codeAny_mono (codeAny_call_builtin (R:=wants (fun r s₂=>r = .none /\ ∃ h' tk o ep t zs,s₂ = { s with heap:=h',toks:=tk } /\ (∀ b ob,s.heap.get? b = some ob -> h'.get? b = some ob) /\ SetO κ h' s.heap.objs.size (jf7 w) zs o ep t /\ (∀ x ∈ zs,x ∈ ys) /\ (∀ y ∈ ys,y.1 ∈ zs.map (·.1))) E)
    F.called_set.init.plain F.entry_set_init (check_set_init_1 ty ?_)) fun r₂ s₂ hr₂=>?_
   ·obtain ⟨ol,hol,hcl,nl,hdl⟩:=hl
    obtain ⟨ocls,odict,odata,oslots⟩:=ol
    simp only at hcl hdl
    subst hcl; subst hdl
    have hol':(s.heap.push (je9 w)).get? l = some { cls:=.type "list",dict:=odict,data:=.seq (ys.map fun y=>Value.ref y.2).toArray nl,slots:=oslots }:=Heap.get?_push_of_some _ hol
    have s1:=F.sub_list_set
    have s2:=F.sub_list_frozenset
    have s3:(Value.type "list" == Value.type "dict") = false:=by decide
    have hl1:(s.heap.push (je9 w)).IsList l (ys.map fun y=>Value.ref y.2).toArray:=⟨_,hol',rfl,nl,rfl⟩
    have got':(s.heap.push (je9 w)).get? s.heap.objs.size = some { cls:=.type "set",dict:=none,data:=.set #[] 0 (.fresh 0 0 (jf7 w)) }:=got
    unfold Builtin.«set.__init__» noKeywords Builtin.Frozenset.updateFrom
    generalize hPI:pyIter = PI
    wp_walk
    subst hPI
    refine wpAny_pyIter_list hl1 ?_
    refine wpAny_bind (wpAny_runValue ?_)
    have lt:l < s.heap.objs.size:=Heap.lt_size hol
    have sz:(s.heap.push (je9 w)).objs.size = s.heap.objs.size + 1:=by rw [Heap.size_push]
    have d1:s.heap.objs.size ≠ (s.heap.push (je9 w)).objs.size:=by rw [sz]; exact Nat.ne_of_lt (Nat.lt_succ_self _)
    have d2:s.heap.objs.size ≠ l:=Nat.ne_of_gt lt
    have d3:l ≠ (s.heap.push (je9 w)).objs.size:=by rw [sz]; exact Nat.ne_of_lt (Nat.lt_succ_of_lt lt)
    refine qq6 (κ:=κ) (led:=jf7 w) (ys:=ys) (by simp [hh]) hroom d1 d2 d3 hn ys.length 0 _ [] (je9 w) 0 (.fresh 0 0 (jf7 w)) (by lia)
     ?h1 ?h2 ?h3 ?hk (fun x hx=>absurd hx (by simp)) (fun j y hj=>absurd hj (Nat.not_lt_zero _)) (Nat.le_refl _) fun h' tk o ep t zs q1 q2 q3 q4=>?_
    case h1=>exact ⟨_,Heap.get?_push_size _ rfl,rfl,rfl⟩
    case h2=>exact hl1.push _
    case h3=>exact kn9 (Heap.get?_push_of_some _ got)
    case hk=>exact fun y hy=>κ.mono (hk y hy) fun b ob e _=>Heap.get?_push_of_some _ (Heap.get?_push_of_some _ e)
    refine wpAny_pure (wpAny_pure ⟨rfl,h',tk,o,ep,t,zs,rfl,fun b ob e=>?_,q2,q3,q4⟩)
    have lb:=Heap.lt_size e
    exact q1 b ob (Nat.ne_of_lt lb) (by rw [sz]; exact Nat.ne_of_lt (Nat.lt_succ_of_lt lb)) (Heap.get?_push_of_some _ (Heap.get?_push_of_some _ e))
   ·cases r₂ with
    | error e=>exact hr₂
    | ok fl₂ =>
     cases fl₂ with
     | ret r =>
      obtain ⟨rfl,h',tk,o,ep,t,zs,rfl,q1,q2,q3,q4⟩:=hr₂
      repeat any_goals first | assumption | wp_step
      exact h h' tk o ep t zs q1 q2 q3 q4
     | _=>exact hr₂.elim
  | _=>exact hr.elim
end
end Ts
end T_Ts4
section T_Ts5
namespace Ts
open PySem PySem.SetTable Tb
theorem ja3:Slot "set_iterator" "__next__" "set_iterator.__next__" :=
 .of (owner:="set_iterator") (n:="__next__") (by rw [typeLookup_type,builtinLookup_eq_fast]; kernel_rfl) (by decide +kernel)
  (by decide +kernel) (by decide +kernel) (by first | exact .inl (by decide +kernel) | exact .inr (by decide +kernel))
  (by rw [isSubtype_type]; kernel_rfl)
theorem jk5:entryFor table "set_iterator.__next__" = some Builtin.«set_iterator.__next__»:=entryFor_of_tree (by kernel_rfl)
theorem jl6 (a:Value):argsOk "set_iterator.__next__" ⟨[a],[]⟩:=by unfold argsOk; kernel_rfl
theorem jv2:entryFor table "set.__iter__" = some Builtin.«frozenset.__iter__» :=
 entryFor_alias (id':="frozenset.__iter__") (by kernel_rfl) rfl (by decide +kernel) (by kernel_rfl)
theorem ks2 {α:Type} (next:Nat -> Nat):∀ (fuel k:Nat) (left:List α) (out:Array α),fuel = left.length -> (pickOrder.go next fuel k left out).toList.Perm (out.toList ++ left)
 | 0,k,left,out,h=>by
  have:left = []:=List.length_eq_zero_iff.mp h.symm
  subst this
  unfold pickOrder.go
  simp
 | fuel + 1,k,left,out,h=>by
  unfold pickOrder.go
  have hlt:next k % left.length < left.length:=Nat.mod_lt _ (by lia)
  rw [List.getElem?_eq_getElem hlt]
  dsimp only
  refine (ks2 next fuel (k + 1) _ _ (by rw [List.length_eraseIdx_of_lt hlt]; lia)).trans ?_
  rw [Array.toList_push,List.append_assoc]
  refine List.Perm.append_left _ ?_
  have e1:left = left.take (next k % left.length) ++ left[next k % left.length] :: left.drop (next k % left.length + 1):=by
   rw [<- List.drop_eq_getElem_cons hlt,List.take_append_drop]
  have e2:left.eraseIdx (next k % left.length) = left.take (next k % left.length) ++ left.drop (next k % left.length + 1):=List.eraseIdx_eq_take_drop_succ _ _
  rw [e2]
  refine List.Perm.trans ?_ (List.Perm.of_eq e1.symm)
  rw [List.singleton_append]
  exact List.perm_middle.symm
theorem kb9 {α:Type} (next:Nat -> Nat) (xs:Array α):(pickOrder next xs).toList.Perm xs.toList:=by
 have:=ks2 next xs.size 0 xs.toList #[] (by simp)
 simpa [pickOrder] using this
section
variable {prog:Program} {w:World} {K:Type} [DecidableEq K] {κ:SKind prog w K}
variable {A:Around} {E:Value -> Shared -> Prop} {R:Result -> Shared -> Prop} {s:Shared} {a I:Addr} {xs:List (K × Addr)} {o:Obj} {ep:Nat} {t:SetTable}
noncomputable def jh7 (w:World) (a:Addr) (ep:Nat) (es:Array (Int × Value)):Array (Int × Value):=if w.params.followText "set-order" then pickOrder (w.params.setOrder a ep) es else es
theorem jr6 (w:World) (a:Addr) (ep:Nat) (es:Array (Int × Value)):(jh7 w a ep es).toList.Perm es.toList:=by
 unfold jh7; split
 ·exact kb9 _ _
 ·exact .refl _
noncomputable def ja1 (w:World) (t:SetTable) (m:Nat):Nat:=if w.params.followText "set-order" then 0 else if m = 0 then 0 else t.place.getD (m - 1) 0 + 1
noncomputable def SIter (h:Heap) (I a:Addr) (n ep slot m:Nat):Prop:=∃ ob,h.get? I = some ob /\ ob.cls = .type "set_iterator" /\ ob.data = .fields #[rawInt slot,rawInt m,.ref a,rawInt n,rawInt ep]
theorem SIter.typeIs {n ep slot m:Nat} (x:SIter s.heap I a n ep slot m):s.TypeIs (.ref I) "set_iterator":=let ⟨ob,h1,h2,_⟩:=x; ⟨ob,h1,h2⟩
theorem jt7 {Q:Bool -> Shared -> Prop} (h:Q (w.params.followText "set-order") s):wpAny (model prog w) A setsByText Q E s:=by
 unfold setsByText
 exact wpAny_bind (wpAny_askSetting (wpAny_pure h))
theorem kr7 {Q:Option (Value × Nat) -> Shared -> Prop} {m:Nat} (S:SetO κ s.heap a (jf7 w) xs o ep t) (hm:m <= xs.length)
  (h1:∀ e,(jh7 w a ep (xs.map (entry κ)).toArray)[m]? = some e -> Q (some (e.2,ja1 w t (m + 1))) s) (h2:m = xs.length -> Q none s) :
  wpAny (model prog w) A (setNext a (ja1 w t m) m ep) Q E s:=by
 unfold setNext
 refine wpAny_bind (jc9 S ?_)
 dsimp only
 refine wpAny_bind (jt7 ?_)
 by_cases hb:w.params.followText "set-order" = true
 ·rw [if_pos hb]
  simp only [bne_self_eq_false,Bool.false_eq_true,if_false]
  unfold setWalk
  refine wpAny_bind (wpAny_bind (jc9 S ?_))
  dsimp only
  refine wpAny_bind (jt7 ?_)
  rw [if_pos hb]
  refine wpAny_bind (wpAny_askSetting (wpAny_pure ?_))
  have ew:jh7 w a ep (xs.map (entry κ)).toArray = pickOrder (w.params.setOrder a ep) (xs.map (entry κ)).toArray:=by unfold jh7; rw [if_pos hb]
  have es:∀ q,ja1 w t q = 0:=fun q=>by unfold ja1; rw [if_pos hb]
  have sz:(pickOrder (w.params.setOrder a ep) (xs.map (entry κ)).toArray).size = xs.length:=by
   rw [<- Array.length_toList,(kb9 _ _).length_eq]; simp
  refine wpAny_pure ?_
  show Q ((pickOrder (w.params.setOrder a ep) (xs.map (entry κ)).toArray)[m]?.map fun e=>(e.2,ja1 w t m)) s
  cases q:(pickOrder (w.params.setOrder a ep) (xs.map (entry κ)).toArray)[m]? with
  | none =>
   have:=Array.getElem?_eq_none_iff.mp q
   exact h2 (by lia)
  | some e =>
   have:=h1 e (by rw [ew]; exact q)
   rw [es] at this ⊢
   exact this
 ·rw [if_neg hb]
  have ew:jh7 w a ep (xs.map (entry κ)).toArray = (xs.map (entry κ)).toArray:=by unfold jh7; rw [if_neg hb]
  have ld:t.led = true:=by rw [S.led']; unfold jf7; rw [Bool.eq_false_iff.mpr hb]; rfl
  have bl:below t.place (ja1 w t m) = m:=by
   unfold ja1
   rw [if_neg hb]
   by_cases c:m = 0
   ·rw [if_pos c,c]
    refine x0_3 (jk0 S.good.rise 0) fun b1 b2 b3=>?_
    rcases Nat.eq_zero_or_pos (below t.place 0) with z | z
    ·exact z
    ·exact absurd (b2 0 z) (Nat.not_lt_zero _)
   ·rw [if_neg c]
    refine x0_3 (jk0 S.good.rise (t.place.getD (m - 1) 0 + 1)) fun b1 b2 b3=>?_
    rw [S.good.size] at b1 b3
    rcases Nat.lt_trichotomy (below t.place (t.place.getD (m - 1) 0 + 1)) m with z | z | z
    ·have:=b3 (m - 1) (by lia) (by lia)
     lia
    ·exact z
    ·have q1:=b2 m z
     have q2:=S.good.rise (m - 1) m (by lia) (by rw [S.good.size]; lia)
     lia
  refine wpAny_ite ?_
  split
  ·rename_i hd
   exfalso
   have:(!t.plain && decide ((xs.map (entry κ)).toArray.size > 1)) = true:=hd
   rw [S.plain] at this
   cases this
  ·refine wpAny_bind (wpAny_of_eq (a:=()) ?_ ?_)
   ·show (if (!t.led && !((xs.map (entry κ)).toArray).isEmpty) = true then (unsupported "set:maker-not-led" : Sem Unit) else pure ()) = pure ()
    rw [ld]; rfl
   refine wpAny_pure ?_
   show Q (match ((xs.map (entry κ)).toArray)[below t.place (ja1 w t m)]?,t.place[below t.place (ja1 w t m)]? with
    | some (_,x),some j=>some (x,j + 1)
    | _,_=>none) s
   rw [bl]
   by_cases c:m < xs.length
   ·have e1:((xs.map (entry κ)).toArray)[m]? = some (entry κ xs[m]):=by rw [jg7,List.getElem?_eq_getElem c]; rfl
    have hs:m < t.place.size:=by rw [S.good.size]; exact c
    have e2:t.place[m]? = some (t.place.getD m 0):=by simp [Array.getD,hs]
    rw [e1,e2]
    have:=h1 (entry κ xs[m]) (by rw [ew]; exact e1)
    unfold ja1 at this
    rw [if_neg hb,if_neg (by lia),Nat.add_sub_cancel] at this
    exact this
   ·have em:m = xs.length:=by lia
    have e1:((xs.map (entry κ)).toArray)[m]? = none:=by rw [jg7,List.getElem?_eq_none (by lia)]; rfl
    rw [e1]
    exact h2 em
end
end Ts
end T_Ts5
section T_Ts6
namespace Ts
open PySem PySem.SetTable Tb
section
variable {prog:Program} {w:World} {K:Type} [DecidableEq K] {κ:SKind prog w K}
variable {A:Around} {E:Value -> Shared -> Prop} {R:Result -> Shared -> Prop} {s:Shared} {a I:Addr} {xs:List (K × Addr)} {o:Obj} {ep:Nat} {t:SetTable}
theorem jn3 {Q:Array (Int × Value) -> Shared -> Prop} {led:Bool} (S:SetO κ s.heap a led xs o ep t) (h:Q (xs.map (entry κ)).toArray s):wpAny (model prog w) A (setEntries a) Q E s:=by
 unfold setEntries
 exact wpAny_bind (jc9 S (wpAny_pure h))
theorem qr7 {Q:Value -> Shared -> Prop} (S:SetO κ s.heap a (jf7 w) xs o ep t) (hn:xs.length <= 50)
  (h:Q (.ref s.heap.objs.size) { s with heap:=s.heap.push { cls:=.type "set_iterator",data:=.fields #[rawInt (ja1 w t 0),rawInt ((0:Nat):Int),.ref a,rawInt xs.length,rawInt ep] } }):wpAny (model prog w) A (pyIter (.ref a)) Q E s:=by
 have ty:s.TypeIs (.ref a) "set":=⟨o,S.obj,S.exact'.1⟩
 refine wpAny_pyIter_slot ty F.slot_set_iter (wpAny_call_entry F.slot_set_iter ty jv2 ?_ (F.args_set_iter_1 _))
 unfold Builtin.«frozenset.__iter__» Builtin.Frozenset.slot0 slotArgs
 simp only [List.isEmpty_nil,Bool.not_true,Bool.false_eq_true,if_false,bind_assoc,List.length_nil,bne_self_eq_false]
 unfold Builtin.Frozenset.addrOf Builtin.Frozenset.sizeOf
 refine wpAny_bind (wpAny_pure ?_)
 try dsimp only
 refine wpAny_bind (wpAny_pure ?_)
 refine wpAny_bind (wpAny_bind (jn3 S (wpAny_pure ?_)))
 refine wpAny_bind ?_
 unfold setDrawn
 refine wpAny_bind (jc9 S ?_)
 dsimp only
 refine wpAny_bind (jt7 (wpAny_pure ?_))
 rw [if_neg (by
  intro z
  have z:(!(w.params.followText "set-order") && (!t.plain && decide ((xs.map (entry κ)).toArray.size > 1))) = true:=z
  rw [S.plain] at z
  simp at z)]
 refine wpAny_bind (wpAny_pure ?_)
 have z0:ja1 w t 0 = 0:=by unfold ja1; split <;> rfl
 rw [z0] at h
 refine wpAny_bind ?_
 unfold setEpoch
 refine wpAny_bind (jc9 S (wpAny_pure ?_))
 dsimp only
 unfold newFields
 refine wpAny_bind (wpAny_newObj_type (wpAny_pure ⟨_,rfl,"set_iterator",_,⟨_,Heap.get?_push_size _ rfl,rfl⟩,ja3.lookup,?_⟩))
 simpa using h
theorem qi4 {Q:Option Value -> Shared -> Prop} {m:Nat} {e:Int × Value} (S:SetO κ s.heap a (jf7 w) xs o ep t) (hit:SIter s.heap I a xs.length ep (ja1 w t m) m) (he:(jh7 w a ep (xs.map (entry κ)).toArray)[m]? = some e)
  (hm:m < xs.length) (hQ:∀ h',SIter h' I a xs.length ep (ja1 w t (m + 1)) (m + 1) -> Heap.SameBut I s.heap h' -> Q (some e.2) { s with heap:=h' }):wpAny (model prog w) A (pyNext (.ref I)) Q E s:=by
 refine x1_3 (id hit) fun ob ho hc hd=>?_
 unfold pyNext
 refine wpAny_bind (wpAny_attempt (wpAny_callSpecial?_slot (name:=Str.ofString "__next__") hit.typeIs ja3 (wpAny_call_entry ja3 hit.typeIs jk5 ?_ (jl6 _))))
 unfold Builtin.«set_iterator.__next__» slotArgs
 simp only [List.isEmpty_nil,Bool.not_true,Bool.false_eq_true,if_false,bind_assoc,List.length_nil,bne_self_eq_false]
 refine wpAny_bind (wpAny_pure ?_)
 dsimp only
 refine wpAny_bind (wpAny_fieldsOf ho hd ?_)
 dsimp only [rawInt]
 refine wpAny_bind (jn3 S ?_)
 rw [if_neg (by simp)]
 simp only [Int.toNat_natCast]
 refine wpAny_bind (kr7 S (Nat.le_of_lt hm) (fun e' he'=>?_) (fun z=>absurd z (Nat.ne_of_lt hm)))
 obtain rfl:e = e':=Option.some.inj (he.symm.trans he')
 dsimp only
 refine wpAny_bind (wpAny_setField ho hd (by simp) ?_)
 have d1:=Obj.data_mapFields hd (·.setIfInBounds 0 (rawInt (ja1 w t (m + 1):Nat)))
 have g1:=Heap.get?_update_self (Obj.mapFields (·.setIfInBounds 0 (rawInt (ja1 w t (m + 1):Nat)))) ho (Obj.isFreed_of_fields d1)
 refine wpAny_bind (wpAny_setField g1 d1 (by simp) ?_)
 have d2:=Obj.data_mapFields d1 (·.setIfInBounds 1 (rawInt ((m:Int) + 1)))
 have g2:=Heap.get?_update_self (Obj.mapFields (·.setIfInBounds 1 (rawInt ((m:Int) + 1)))) g1 (Obj.isFreed_of_fields d2)
 refine wpAny_pure ⟨_,rfl,wpAny_pure (hQ _ ⟨_,g2,?_,?_⟩ ((Heap.SameBut.update ..).trans (Heap.SameBut.update ..)))⟩
 ·rw [Obj.cls_mapFields,Obj.cls_mapFields]; exact hc
 ·rw [d2]; simp [rawInt]
theorem qq7 {Q:Option Value -> Shared -> Prop} (hh:A.handled = none) (S:SetO κ s.heap a (jf7 w) xs o ep t) (hit:SIter s.heap I a xs.length ep (ja1 w t xs.length) xs.length)
  (hQ:∀ h',Heap.ExtBut I s.heap h' -> Q none { s with heap:=h' }):wpAny (model prog w) A (pyNext (.ref I)) Q E s:=by
 refine x1_3 (id hit) fun ob ho hc hd=>?_
 unfold pyNext
 refine wpAny_bind (wpAny_attempt (wpAny_callSpecial?_slot (name:=Str.ofString "__next__") hit.typeIs ja3 (wpAny_call_entry ja3 hit.typeIs jk5 ?_ (jl6 _))))
 unfold Builtin.«set_iterator.__next__» slotArgs
 simp only [List.isEmpty_nil,Bool.not_true,Bool.false_eq_true,if_false,bind_assoc,List.length_nil,bne_self_eq_false]
 refine wpAny_bind (wpAny_pure ?_)
 dsimp only
 refine wpAny_bind (wpAny_fieldsOf ho hd ?_)
 dsimp only [rawInt]
 refine wpAny_bind (jn3 S ?_)
 rw [if_neg (by simp)]
 simp only [Int.toNat_natCast]
 have sz:(jh7 w a ep (xs.map (entry κ)).toArray).size = xs.length:=by rw [<- Array.length_toList,(jr6 _ _ _ _).length_eq]; simp
 refine wpAny_bind (kr7 S (Nat.le_refl _) (fun e' he'=>?_) (fun z=>?_))
 ·rw [Array.getElem?_eq_none (by lia)] at he'; cases he'
 dsimp only
 refine wpAny_bind (wpAny_setField ho hd (by simp) ?_)
 refine wpAny_bind ?_
 simp only [newExc,newTuple]
 refine wpAny_bind (wpAny_newObj_type ?_ (by size_fits))
 refine wpAny_bind (m:=firstArgMember _ _) (wpAny_of_eq (a:=Value.none) (by first | rfl | (simp only [firstArgMember]; rfl)) ?_)
 refine wpAny_newObj_type ?_ (by size_fits)
 simp only [raiseNew]
 refine wpAny_bind (wpAny_handled ?_)
 have hh1:A.in1.handled = none:=hh
 rw [hh1]
 refine wpAny_bind (wpAny_pure (wpAny_throw ?_))
 refine wpAny_bind (wpAny_isInstance (T:="StopIteration") (b:=true) ⟨_,Heap.get?_push_size _ rfl,rfl⟩ isSubtype_stop ?_)
 exact wpAny_pure (hQ _ (((Heap.SameBut.update ..).extBut.push _).push _))
theorem qa8 {L:Addr} {res:Value} (hh:A.handled = none) (hLI:L ≠ I) (hLa:L ≠ a) (hIa:a ≠ I) (hn:xs.length <= 50) :
  ∀ (r m:Nat) (s:Shared),m + r = xs.length -> SetO κ s.heap a (jf7 w) xs o ep t -> SIter s.heap I a xs.length ep (ja1 w t m) m ->
   (∃ n,s.heap.get? L = some (PyProof.Rows.seqObj "list" (((jh7 w a ep (xs.map (entry κ)).toArray).toList.take m).map (·.2)).toArray n)) ->
   (∀ h' n,(∀ b ob,b ≠ L -> b ≠ I -> s.heap.get? b = some ob -> h'.get? b = some ob) -> h'.get? L = some (PyProof.Rows.seqObj "list" ((jh7 w a ep (xs.map (entry κ)).toArray).toList.map (·.2)).toArray n) -> R (.ok (.ret res)) { s with heap:=h' }) ->
   codeAny (model prog w) A (.builtin "list.extend.loop" ⟨[.ref L,.ref I,res],[]⟩) R s:=by
 have sz:(jh7 w a ep (xs.map (entry κ)).toArray).size = xs.length:=by rw [<- Array.length_toList,(jr6 _ _ _ _).length_eq]; simp
 have jo2:entryFor table "list.extend.loop" = some Builtin.«list.extend.loop»:=entryFor_of_tree (by kernel_rfl)
 have jj5:plainId "list.extend.loop" = true:=by decide +kernel
 intro r
 induction r with
 | zero =>
  intro m s hm S hit ⟨n,hL⟩ hR
  have em:m = xs.length:=by lia
  subst em
  refine codeAny_builtin jo2 ?_
  rw [Around.under_plainId jj5 _]
  refine wpAny_bind (m:=pyNext (.ref I)) (qq7 hh S hit fun h' he=>?_)
  refine wpAny_pure (hR h' n (fun b ob _ h2 e=>he b ob h2 e) ?_)
  have:=he L _ hLI hL
  rw [List.take_of_length_le (by rw [Array.length_toList]; lia)] at this
  exact this
 | succ r ih =>
  intro m s hm S hit ⟨n,hL⟩ hR
  have hml:m < xs.length:=by lia
  have hml':m < (jh7 w a ep (xs.map (entry κ)).toArray).size:=by lia
  refine codeAny_builtin jo2 ?_
  rw [Around.under_plainId jj5 _]
  refine wpAny_bind (m:=pyNext (.ref I)) (qi4 S hit (Array.getElem?_eq_getElem hml') hml fun h1 hit1 sb1=>?_)
  have hL1:h1.get? L = some (PyProof.Rows.seqObj "list" (((jh7 w a ep (xs.map (entry κ)).toArray).toList.take m).map (·.2)).toArray n):=by rw [sb1.2 L hLI]; exact hL
  refine wpAny_bind (PyProof.Rows.listUpdate_at hL1 rfl ?_ (by simp; rw [sizeLine_eq]; lia) (by simp; rw [sizeLine_eq]; lia))
  refine wpAny_pure ⟨plainId_quiet jj5 _,?_⟩
  have sb2:=Heap.SameBut.update h1 L (Obj.mapSeq fun x=>x.push ((jh7 w a ep (xs.map (entry κ)).toArray)[m]).2)
  have tup:∀ b ob,s.heap.get? b = some ob -> (b = a \/ ob.cls = .type "tuple") -> b ≠ I /\ b ≠ L:=fun b ob e c=>by
   constructor
   ·rintro rfl
    rcases c with c | c
    ·exact hIa c.symm
    ·refine x1_3 hit fun q q1 q2 _=>?_
     clear hit
     obtain rfl:=Option.some.inj (e.symm.trans q1)
     rw [q2] at c; exact absurd c (by decide)
   ·rintro rfl
    rcases c with c | c
    ·exact hLa c
    ·obtain rfl:=Option.some.inj (e.symm.trans hL)
     exact absurd (show Value.type "list" = Value.type "tuple" from c) (by decide)
  refine ih (m + 1) _ (by lia) (S.keep fun b ob e c=>?_) ?_ ?_ fun h' n' q1 q2=>?_
  ·obtain ⟨c1,c2⟩:=tup b ob e c
   show (h1.update L _).get? b = _
   rw [sb2.2 b c2,sb1.2 b c1]; exact e
  ·refine x1_2 hit1 fun q q1 q2=>?_
   clear hit1
   exact ⟨q,(by show (h1.update L _).get? I = _; rw [sb2.2 I (Ne.symm hLI)]; exact q1),q2⟩
  ·obtain ⟨n',hn'⟩ : ∃ n',(h1.update L (Obj.mapSeq fun x=>x.push ((jh7 w a ep (xs.map (entry κ)).toArray)[m]).2)).get? L = some (PyProof.Rows.seqObj "list" ((((jh7 w a ep (xs.map (entry κ)).toArray).toList.take m).map (·.2)).toArray.push ((jh7 w a ep (xs.map (entry κ)).toArray)[m]).2) n'):=⟨_,PyProof.Rows.get?_update_seq hL1 _⟩
   refine ⟨n',hn'.trans ?_⟩
   congr 2
   rw [List.take_succ,List.getElem?_eq_getElem (by rw [Array.length_toList]; exact hml')]
   simp
  ·refine hR h' n' (fun b ob h1' h2' e=>q1 b ob h1' h2' ?_) q2
   show (h1.update L _).get? b = _
   rw [sb2.2 b h1',sb1.2 b h2']; exact e
end
end Ts
end T_Ts6
section T_Ts7
namespace Ts
open PySem PySem.SetTable Tb
section
variable {prog:Program} {w:World} {K:Type} [DecidableEq K] {κ:SKind prog w K}
variable {A:Around} {E:Value -> Shared -> Prop} {R:Result -> Shared -> Prop} {s:Shared} {a I:Addr} {xs:List (K × Addr)} {o:Obj} {ep:Nat} {t:SetTable}
theorem qs3 {Q:Bool -> Shared -> Prop} (hT:s.TypeIs (.ref a) "set") (h:∀ c tk,Q c { s with toks:=tk }):wpAny (model prog w) A (Builtin.List.listLengthHint (.ref a)) Q E s:=by
 unfold Builtin.List.listLengthHint
 refine wpAny_bind (wpAny_specialOf hT F.slot_set_len.lookup ?_)
 have sp:splitId "set.__len__" = some ("set","__len__"):=by kernel_rfl
 dsimp only
 rw [sp]
 dsimp only
 refine wpAny_bind (wpAny_isInstance hT sub_set_self ?_)
 rw [Bool.not_true,if_neg Bool.false_ne_true]
 rw [if_pos (by decide +kernel)]
 refine wpAny_bind (wpAny_typeOf hT ?_)
 exact wpAny_pure (h false s.toks)
theorem ki9 {Q:List Value -> Shared -> Prop} (hh:A.handled = none) (S:SetO κ s.heap a (jf7 w) xs o ep t) (hn:xs.length <= 50)
  (h:∀ h' tk vs,(∀ b ob,s.heap.get? b = some ob -> h'.get? b = some ob) -> vs.Perm (xs.map fun x=>Value.ref x.2) -> Q vs { s with heap:=h',toks:=tk }):wpAny (model prog w) A (collect (.ref a)) Q E s:=by
 unfold collect
 refine wpAny_bind (wpAny_runValue (codeAny_builtin PyProof.Rows.entry_proto_collect' ?_))
 refine wpAny_bind (m:=newList []) (wpAny_newList (wpAny_pure ⟨Code.quiet_builtin _ (by decide +kernel),codeAny_builtin PyProof.Rows.entry_list_iadd' ?_⟩))
 show wpAny _ _ (Builtin.List.listExtendWith (.ref s.heap.objs.size) (.ref a) (.ref s.heap.objs.size)) _ _ { s with heap:=s.heap.push (PyProof.Rows.seqObj "list" #[] 0) }
 unfold Builtin.List.listExtendWith
 have al:a < s.heap.objs.size:=Heap.lt_size S.obj
 have S1:SetO κ ({ s with heap:=s.heap.push (PyProof.Rows.seqObj "list" #[] 0) }:Shared).heap a (jf7 w) xs o ep t:=S.keep fun b ob e _=>Heap.get?_push_of_some _ e
 have ty1:Shared.TypeIs { s with heap:=s.heap.push (PyProof.Rows.seqObj "list" #[] 0) } (.ref a) "set":=⟨o,S1.obj,S1.exact'.1⟩
 refine wpAny_bind (wpAny_typeOf ty1 ?_)
 have sr:Builtin.List.listSameRef (.ref s.heap.objs.size) (.ref a) = false:=by
  show (s.heap.objs.size == a) = false
  exact beq_eq_false_iff_ne.mpr (Nat.ne_of_gt al)
 rw [sr,if_neg (by decide)]
 refine wpAny_bind (qr7 S1 hn ?_)
 have sz1:(s.heap.push (PyProof.Rows.seqObj "list" #[] 0)).objs.size = s.heap.objs.size + 1:=by rw [Heap.size_push]
 generalize hO:({ cls:=.type "set_iterator",data:=.fields #[rawInt (ja1 w t 0),rawInt ((0:Nat):Int),.ref a,rawInt xs.length,rawInt ep] }:Obj) = ob
 have hI:((s.heap.push (PyProof.Rows.seqObj "list" #[] 0)).push ob).get? (s.heap.push (PyProof.Rows.seqObj "list" #[] 0)).objs.size = some ob:=Heap.get?_push_size _ (by rw [<- hO]; rfl)
 have hl0:((s.heap.push (PyProof.Rows.seqObj "list" #[] 0)).push ob).get? s.heap.objs.size = some (PyProof.Rows.seqObj "list" #[] 0):=Heap.get?_push_of_some _ (Heap.get?_push_size _ rfl)
 have S2:SetO κ ((s.heap.push (PyProof.Rows.seqObj "list" #[] 0)).push ob) a (jf7 w) xs o ep t:=S1.keep fun b ob e _=>Heap.get?_push_of_some _ e
 refine wpAny_bind (wpAny_holding (qs3 (s:={ s with heap:=(s.heap.push (PyProof.Rows.seqObj "list" #[] 0)).push ob }) ⟨o,S2.obj,S2.exact'.1⟩ fun c tk=>?_))
 refine wpAny_ite ?_
 split
 ·refine wpAny_bind (wpAny_rule ?_)
  unfold Builtin.List.listTouch
  refine wpAny_bind (wpAny_bind (PyProof.Rows.listUpdate_at hl0 rfl ?_ (by simp) (by simp)))
  obtain ⟨n1,g1⟩ : ∃ n1,(((s.heap.push (PyProof.Rows.seqObj "list" #[] 0)).push ob).update s.heap.objs.size (Obj.mapSeq (·.push .none))).get? s.heap.objs.size = some (PyProof.Rows.seqObj "list" (#[].push .none) n1):=⟨_,PyProof.Rows.get?_update_seq hl0 _⟩
  refine PyProof.Rows.listUpdate_at g1 rfl ?_ (by simp; rw [sizeLine_eq]; decide) (by simp)
  obtain ⟨n2,g2⟩ : ∃ n2,((((s.heap.push (PyProof.Rows.seqObj "list" #[] 0)).push ob).update s.heap.objs.size (Obj.mapSeq (·.push .none))).update s.heap.objs.size (Obj.mapSeq (·.pop))).get? s.heap.objs.size = some (PyProof.Rows.seqObj "list" (#[].push .none).pop n2):=⟨_,PyProof.Rows.get?_update_seq g1 _⟩
  have sb:=(Heap.SameBut.update ((s.heap.push (PyProof.Rows.seqObj "list" #[] 0)).push ob) s.heap.objs.size (Obj.mapSeq (·.push .none))).trans (Heap.SameBut.update _ s.heap.objs.size (Obj.mapSeq (·.pop)))
  generalize ((((s.heap.push (PyProof.Rows.seqObj "list" #[] 0)).push ob).update s.heap.objs.size (Obj.mapSeq (·.push .none))).update s.heap.objs.size (Obj.mapSeq (·.pop))) = g at g2 sb ⊢
  have ne1:s.heap.objs.size ≠ (s.heap.push (PyProof.Rows.seqObj "list" #[] 0)).objs.size:=by rw [sz1]; exact Nat.ne_of_lt (Nat.lt_succ_self _)
  have ne2:s.heap.objs.size ≠ a:=Nat.ne_of_gt al
  have ne3:a ≠ (s.heap.push (PyProof.Rows.seqObj "list" #[] 0)).objs.size:=by rw [sz1]; exact Nat.ne_of_lt (Nat.lt_succ_of_lt al)
  refine wpAny_pure ⟨Code.quiet_builtin _ (by decide +kernel),?_⟩
  refine qa8 (κ:=κ) (a:=a) (xs:=xs) (o:=o) (ep:=ep) (t:=t) (by simp [hh]) ne1 ne2 ne3 hn xs.length 0 _ (by lia) ?h1 ?h2 ⟨n2,g2⟩ fun h' n' q1 q2=>?_
  case h1 =>
   refine S2.keep fun b ob' e c=>?_
   show g.get? b = _
   rw [sb.2 b ?_]
   ·exact e
   ·rintro rfl
    rcases c with c | c
    ·exact ne2 c
    ·obtain rfl:=Option.some.inj (e.symm.trans hl0)
     exact absurd (show Value.type "list" = Value.type "tuple" from c) (by decide)
  case h2=>exact ⟨ob,(by show g.get? _ = _; rw [sb.2 _ (Ne.symm ne1)]; exact hI),by rw [<- hO],by rw [<- hO]⟩
  have pm:=(jr6 w a ep (xs.map (entry κ)).toArray).map (·.2)
  have em:(xs.map (entry κ)).toArray.toList.map (·.2) = xs.map fun x=>Value.ref x.2:=by simp [entry]
  rw [em] at pm
  show wpAny _ _ (load s.heap.objs.size >>= fun ob=>match ob.data with | .seq xs _=>pure xs.toList | _=>unsupported "internal:collect") _ _ _
  refine wpAny_bind (wpAny_load q2 ?_)
  refine wpAny_pure (h h' tk _ (fun b ob' e=>q1 b ob' (Nat.ne_of_lt (Heap.lt_size e)) (by rw [sz1]; exact Nat.ne_of_lt (Nat.lt_succ_of_lt (Heap.lt_size e))) ?_) (by simpa using pm))
  show g.get? b = _
  rw [sb.2 b (Nat.ne_of_lt (Heap.lt_size e))]
  exact Heap.get?_push_of_some _ (Heap.get?_push_of_some _ e)
 ·rename_i hs
  refine absurd ?_ hs
  rw [Bool.or_eq_true]
  exact .inr (by decide +kernel)
end
end Ts
end T_Ts7
section T_PpL
namespace L2
open PySem PySem.Spec PyProof.Rows
noncomputable abbrev Key:=Sum Int Str
noncomputable def qx5:Key -> Value -> Bool
 | .inl k,v=>Value.isInt k v
 | .inr x,v=>Value.isStrOf x v
noncomputable def keyH (w:World):Key -> Int
 | .inl k=>hashInt k
 | .inr x=>hashStr w x
theorem W1:∀ {k:Key} {v:Value},qx5 k v = true -> (∃ i t,k = Sum.inl i /\ v = Value.int i t) \/ (∃ x t,k = Sum.inr x /\ v = Value.str x t)
 | .inl i,v,h=>by
  obtain ⟨t,e⟩:=Value.isInt_shape (k:=i) (v:=v) h
  exact .inl ⟨i,t,rfl,e⟩
 | .inr x,v,h=>by
  obtain ⟨t,e⟩:=Value.isStrOf_shape (x:=x) (v:=v) h
  exact .inr ⟨x,t,rfl,e⟩
theorem qx7 (a b:Int):decide ((Sum.inl a:Key) = Sum.inl b) = (a == b):=by
 by_cases e:a = b
 ·subst e; simp
 ·have h:¬ (Sum.inl a:Key) = Sum.inl b:=fun q=>e (Sum.inl.inj q)
  rw [decide_eq_false h]
  exact (beq_eq_false_iff_ne.mpr e).symm
theorem qw9 (a b:Str):decide ((Sum.inr a:Key) = Sum.inr b) = decide (a = b):=by
 by_cases e:a = b
 ·subst e; simp
 ·have h:¬ (Sum.inr a:Key) = Sum.inr b:=fun q=>e (Sum.inr.inj q)
  rw [decide_eq_false h,decide_eq_false e]
theorem ve1 (a:Int) (b:Str):decide ((Sum.inl a:Key) = Sum.inr b) = false:=decide_eq_false (fun q=>nomatch q)
theorem vc0 (a:Str) (b:Int):decide ((Sum.inr a:Key) = Sum.inl b) = false:=decide_eq_false (fun q=>nomatch q)
noncomputable def kx1 (prog:Program) (w:World):PySem.KeyKind prog w Key where
 is:=qx5
 hash:=keyH w
 inj:=fun v a b ha hb=>by
  rcases W1 ha with ⟨i,t,rfl,rfl⟩ | ⟨x,t,rfl,rfl⟩
  ·rcases W1 hb with ⟨j,u,rfl,e⟩ | ⟨y,u,rfl,e⟩
   ·injection e with e1 _; rw [e1]
   ·exact nomatch e
  ·rcases W1 hb with ⟨j,u,rfl,e⟩ | ⟨y,u,rfl,e⟩
   ·exact nomatch e
   ·injection e with e1 _; rw [e1]
 byValue:=fun k v h=>by
  rcases W1 h with ⟨i,t,rfl,rfl⟩ | ⟨x,t,rfl,rfl⟩ <;> rfl
 pyHash:=fun hv h=>by
  rcases W1 hv with ⟨i,t,rfl,rfl⟩ | ⟨x,t,rfl,rfl⟩
  ·exact wpAny_pyHash_int h
  ·exact wpAny_pyHash_str h
 eqBool:=fun hu hv h=>by
  rcases W1 hu with ⟨i,t,rfl,rfl⟩ | ⟨x,t,rfl,rfl⟩
  ·rcases W1 hv with ⟨j,u,rfl,rfl⟩ | ⟨y,u,rfl,rfl⟩
   ·rw [qx7] at h; exact wpAny_eqBool_int h
   ·rw [ve1] at h; exact SeqAt.EqAt.int_str i t y u _ _ _ _ h
  ·rcases W1 hv with ⟨j,u,rfl,rfl⟩ | ⟨y,u,rfl,rfl⟩
   ·rw [vc0] at h; exact SeqAt.EqAt.str_int x t j u _ _ _ _ h
   ·rw [qw9] at h; exact wpAny_eqBool_str h
 «strs»:=fun k x t v h=>by
  rcases W1 h with ⟨i,u,rfl,e⟩ | ⟨y,u,rfl,e⟩
  ·exact nomatch e
  ·injection e with e1 _
   subst e1
   cases v <;> rfl
end L2
namespace L2
open PySem PySem.Spec PyProof.Rows
inductive V where
 | non | bl (b:Bool) | int (i:Int) | str (x:Str) | byt (b:Array UInt8) | flt (b:UInt64) | ref (a:Addr) | ty (n:String)
 deriving DecidableEq
noncomputable def RelV:V -> Value -> Prop
 | .non,u=>u = Value.none
 | .bl b,u=>u = Value.bool b
 | .int i,u=>∃ t,u = Value.int i t
 | .str x,u=>∃ t,u = Value.str x t
 | .byt b,u=>∃ t,u = Value.bytes b t
 | .flt b,u=>∃ t,u = Value.float b t
 | .ref a,u=>u = Value.ref a
 | .ty n,u=>u = Value.type n
noncomputable abbrev Vals:List V -> List Value -> Prop:=Paired RelV
theorem Vals.length {xs:List V} {us:List Value} (r:Vals xs us):xs.length = us.length:=Paired.length r
theorem Vals.get:∀ {xs:List V} {us:List Value} {i:Nat} {x:V},Vals xs us -> xs[i]? = some x -> ∃ u,us[i]? = some u /\ RelV x u
 | _,_,_,_,.nil,e=>by simp at e
 | _,_,0,_,.cons r _,e=>by simp at e; subst e; exact ⟨_,rfl,r⟩
 | _,_,i + 1,x,.cons _ t,e=>by
  refine x1_2 (Vals.get (i:=i) (x:=x) t (by simpa using e)) fun u h1 h2=>?_
  exact ⟨u,by simpa using h1,h2⟩
theorem Vals.set {x:V} {u:Value} (r:RelV x u):∀ {xs:List V} {us:List Value} (i:Nat),Vals xs us -> Vals (xs.set i x) (us.set i u)
 | _,_,_,.nil=>.nil
 | _,_,0,.cons _ t=>.cons r t
 | _,_,i + 1,.cons q t=>.cons q (Vals.set r i t)
theorem Vals.append {xs ys:List V} {us ws:List Value} (h:Vals xs us) (s:Vals ys ws):Vals (xs ++ ys) (us ++ ws):=by
 induction h with
 | nil=>exact s
 | cons r t ih=>exact .cons r ih
theorem Vals.take:∀ {xs:List V} {us:List Value} (n:Nat),Vals xs us -> Vals (xs.take n) (us.take n)
 | _,_,0,_=>.nil
 | _,_,_ + 1,.nil=>.nil
 | _,_,n + 1,.cons r t=>.cons r (Vals.take n t)
theorem Vals.drop:∀ {xs:List V} {us:List Value} (n:Nat),Vals xs us -> Vals (xs.drop n) (us.drop n)
 | _,_,0,r=>r
 | _,_,_ + 1,.nil=>.nil
 | _,_,n + 1,.cons _ t=>Vals.drop n t
noncomputable def RelO:Option V -> Option Value -> Prop
 | some v,some u=>RelV v u
 | none,none=>True
 | _,_=>False
noncomputable def KV {κ:Type}:List (κ × V) -> List (κ × Value) -> Prop:=Paired fun (p:κ × V) (q:κ × Value)=>p.1 = q.1 /\ RelV p.2 q.2
noncomputable def kV:Key -> V
 | .inl i=>.int i
 | .inr x=>.str x
inductive HO where
  | lst (xs:List V)
  | tup (xs:List V)
  | dK (kvs:List (Key × V)) | dT (kvs:List (List Key × V))
  | set (S:Int -> Bool) (n:Nat)
  | ins (C dx:Addr) (fs:List (Str × V))
  | own (x:Addr)
  | xd (fs:List (Str × V))
  | met (f x:Addr)
  | rng (lo hi:Int)
  | frz (o:Obj) (u:HO)
  | tbl (ps:Array Value)
  | ext (φ:Heap -> Prop)
noncomputable abbrev Hp:=Addr -> Option HO
noncomputable def upd (H:Hp) (a:Addr) (o:HO):Hp:=fun b=>if b = a then some o else H b
theorem J1 {H:Hp} {a:Addr} {o:HO}:upd H a o a = some o:=by unfold upd; rw [if_pos rfl]
theorem v7 {H:Hp} {a b:Addr} {o:HO} (h:b ≠ a):upd H a o b = H b:=by unfold upd; rw [if_neg h]
theorem y1 {H:Hp} {a b:Addr} {o:HO} (h:H a = some o) (h':H b = none):a ≠ b:=by
 intro e; subst e; rw [h] at h'; cases h'
section
variable (P:Program) (w:World)
noncomputable def ObjOk (H:Hp) (h:Heap) (a:Addr):HO -> Prop
 | .lst xs=>xs.length <= sizeLine /\ ∃ (its:List Value) (n:Nat),Vals xs its /\ h.get? a = some { cls:=.type "list",data:=.seq its.toArray n }
 | .tup xs=>xs.length <= sizeLine /\ ∃ its:List Value,Vals xs its /\ IsTup h a its.toArray
 | .dK kvs=>kvs.length <= sizeLine /\ (a == sysModules) = false /\ ∃ vs,KV kvs vs /\ h.DictOf (kx1 P w) a vs
 | .dT kvs=>kvs.length <= sizeLine /\ (a == sysModules) = false /\ ∃ xs:List (List Key × Addr × Value),
   Paired (fun (p:List Key × V) (q:List Key × Addr × Value)=>p.1 = q.1 /\ H q.2.1 = some (.tup (p.1.map kV)) /\ RelV p.2 q.2.2) kvs xs /\
   ∃ o es ep,h.get? a = some o /\ o.ExactDict /\ o.data = .dict es ep /\ es.toList = xs.map (entryOfKey (tupleKind (kx1 P w))) /\ (xs.map (·.1)).Nodup
 | .set S n=>h.SetOf (intKind P w) a S n
 | .ins C dx fs=>H dx = some (.own a) /\ fs.length <= 1000 /\ dx ≠ a /\ h.get? a = some (PySem.W.instObj C dx) /\
   ∃ mA,h.Ns1 dx mA /\ (∀ f,RelO (fs.lookup f) (mA f)) /\ PySem.Within mA (fs.map (·.1))
 | .own _=>∃ o,h.get? a = some o
 | .xd fs=>∃ mA,h.Ns1 a mA /\ ∀ f,RelO (fs.lookup f) (mA f)
 | .rng lo hi=>∃ t u v,h.get? a = some { cls:=.type "range",data:=.fields #[.int lo t,.int hi u,.int 1 v] }
 | .frz o u=>h.get? a = some o /\ ObjOk H h a u
 | .tbl ps=>h.get? a = some { cls:=.none,data:=.fields ps }
 | .met f x=>h.get? a = some (PySem.W.methodObj (.ref f) (.ref x))
 | .ext φ=>φ h /\ (∃ o,h.get? a = some o) /\ ∀ h1 h2:Heap,φ h1 -> (∀ o,h1.get? a = some o -> h2.get? a = some o) -> φ h2
noncomputable def HOk (H:Hp) (h:Heap):Prop:=∀ a o,H a = some o -> ObjOk P w H h a o
end
section
variable {P:Program} {w:World} {H H':Hp} {h h':Heap} {a:Addr} {o:HO}
theorem ObjOk.lt (x:ObjOk P w H h a o):a < h.objs.size:=by
 cases o with
 | lst xs=>obtain ⟨_,_,_,_,e⟩:=x; exact Heap.lt_size e
 | tup xs=>obtain ⟨_,_,_,p⟩:=x; exact p.lt
 | dK kvs=>obtain ⟨_,_,_,_,o,_,_,e,_⟩:=x; exact Heap.lt_size e
 | dT kvs=>obtain ⟨_,_,_,_,o,_,_,e,_⟩:=x; exact Heap.lt_size e
 | set S n=>obtain ⟨o,_,_,_,e,_⟩:=x; exact Heap.lt_size e
 | ins C dx fs=>obtain ⟨_,_,_,e,_⟩:=x; exact Heap.lt_size e
 | own y=>obtain ⟨_,e⟩:=x; exact Heap.lt_size e
 | xd fs=>obtain ⟨_,⟨_,_,_,e,_⟩,_⟩:=x; exact Heap.lt_size e
 | rng lo hi=>obtain ⟨_,_,_,e⟩:=x; exact Heap.lt_size e
 | frz ob u=>obtain ⟨e,_⟩:=x; exact Heap.lt_size e
 | tbl ps=>exact Heap.lt_size (show h.get? a = some _ from x)
 | met f y=>exact Heap.lt_size (show h.get? a = some _ from x)
 | ext φ=>obtain ⟨_,⟨_,e⟩,_⟩:=x; exact Heap.lt_size e
theorem Paired.mapP {α β:Type} {F G:α -> β -> Prop} {l₁:List α} {l₂:List β} (h:Paired F l₁ l₂) (f:∀ a b,F a b -> G a b):Paired G l₁ l₂:=by
 induction h with
 | nil=>exact .nil
 | cons r t ih=>exact .cons (f _ _ r) ih
theorem ObjOk.stay (x:ObjOk P w H h a o) (k:∀ b u,(b = a \/ H b = some (.own a)) -> h.get? b = some u -> h'.get? b = some u)
  (ho:∀ b,H b = some (.own a) -> H' b = some (.own a)) (ht:∀ b xs,H b = some (.tup xs) -> H' b = some (.tup xs)):ObjOk P w H' h' a o:=by
 induction o with
 | lst xs=>obtain ⟨z,its,n,r,e⟩:=x; exact ⟨z,its,n,r,k _ _ (.inl rfl) e⟩
 | tup xs=>obtain ⟨z,its,r,ob,e,c⟩:=x; exact ⟨z,its,r,ob,k _ _ (.inl rfl) e,c⟩
 | dK kvs=>obtain ⟨z,y,vs,r,ob,es,ep,e,c⟩:=x; exact ⟨z,y,vs,r,ob,es,ep,k _ _ (.inl rfl) e,c⟩
 | dT kvs =>
  obtain ⟨z,y,xs,r,ob,es,ep,e,c⟩:=x
  exact ⟨z,y,xs,Paired.mapP r fun p q z=>⟨z.1,ht _ _ z.2.1,z.2.2⟩,ob,es,ep,k _ _ (.inl rfl) e,c⟩
 | set S n=>obtain ⟨ob,es,ep,t,e,c⟩:=x; exact ⟨ob,es,ep,t,k _ _ (.inl rfl) e,c⟩
 | ins C dx fs =>
  obtain ⟨d,z,ne,e,mA,⟨od,es,ep,e2,c⟩,r⟩:=x
  exact ⟨ho _ d,z,ne,k _ _ (.inl rfl) e,mA,⟨od,es,ep,k _ _ (.inr d) e2,c⟩,r⟩
 | own y=>obtain ⟨ob,e⟩:=x; exact ⟨ob,k _ _ (.inl rfl) e⟩
 | xd fs=>obtain ⟨mA,⟨od,es,ep,e,c⟩,r⟩:=x; exact ⟨mA,⟨od,es,ep,k _ _ (.inl rfl) e,c⟩,r⟩
 | rng lo hi=>obtain ⟨t,u,v,e⟩:=x; exact ⟨t,u,v,k _ _ (.inl rfl) e⟩
 | frz ob u ih=>obtain ⟨e,q⟩:=x; exact ⟨k _ _ (.inl rfl) e,ih q⟩
 | tbl ps =>
  have e:h.get? a = some { cls:=.none,data:=.fields ps }:=x
  show h'.get? a = some { cls:=.none,data:=.fields ps }
  exact k a _ (.inl rfl) e
 | met f y =>
  have e:h.get? a = some (PySem.W.methodObj (.ref f) (.ref y)):=x
  show h'.get? a = some (PySem.W.methodObj (.ref f) (.ref y))
  exact k a _ (.inl rfl) e
 | ext φ=>obtain ⟨p,⟨o,e⟩,st⟩:=x; exact ⟨st _ _ p fun o q=>k _ _ (.inl rfl) q,⟨o,k _ _ (.inl rfl) e⟩,st⟩
theorem HOk.lt (x:HOk P w H h) (e:H a = some o):a < h.objs.size:=(x a o e).lt
theorem HOk.fresh (x:HOk P w H h) (e:h.objs.size <= a):H a = none:=by
 cases q:H a with
 | none=>rfl
 | some u=>exact absurd (Nat.lt_of_lt_of_le (x.lt q) e) (Nat.lt_irrefl _)
theorem HOk.kept (x:HOk P w H h) (k:∀ b u,h.get? b = some u -> h'.get? b = some u):HOk P w H h':=fun a o e =>
 (x a o e).stay (fun b u _ q=>k b u q) (fun _ q=>q) fun _ _ q=>q
theorem HOk.laid (x:HOk P w H h) (k:∀ b u,h.get? b = some u -> h'.get? b = some u) (hp:h.objs.size <= a) (new:ObjOk P w (upd H a o) h' a o):HOk P w (upd H a o) h':=fun b u e=>by
 have hn:=x.fresh hp
 by_cases hb:b = a
 ·subst hb; rw [J1] at e; cases e; exact new
 ·rw [v7 hb] at e
  exact (x b u e).stay (fun c v _ q=>k c v q) (fun c q=>by rw [v7 (y1 q hn)]; exact q) fun c xs q=>by rw [v7 (y1 q hn)]; exact q
end
noncomputable def Rd (H:Hp) (a:Addr) (u:HO):Prop:=H a = some u \/ ∃ o,H a = some (.frz o u)
theorem Rd.of {H:Hp} {a:Addr} {u:HO} (h:H a = some u):Rd H a u:=.inl h
theorem Rd.ok {P:Program} {w:World} {H:Hp} {h:Heap} {a:Addr} {u:HO} (r:Rd H a u) (x:HOk P w H h):ObjOk P w H h a u:=by
 rcases r with r | ⟨o,r⟩
 ·exact x a u r
 ·obtain ⟨_,q⟩:=x a _ r
  exact q
noncomputable def Mut:Option HO -> Prop
 | some (.lst _)=>True
 | some (.dK _)=>True
 | some (.dT _)=>True
 | some (.set _ _)=>True
 | some (.ins _ _ _)=>True
 | some (.ext _)=>True
 | _=>False
section
variable {P:Program} {w:World} {H:Hp} {h h':Heap} {x e:Addr} {o':HO}
theorem HOk.write (ok:HOk P w H h) (mu:Mut (H x)) (he:e = x \/ H e = some (.own x)) (k:∀ b u,b ≠ e -> h.get? b = some u -> h'.get? b = some u) (heo:∃ u,h'.get? e = some u)
  (new:ObjOk P w (upd H x o') h' x o'):HOk P w (upd H x o') h':=fun b u q=>by
 have nown:∀ c y,H c = some (.own y) -> c ≠ x:=fun c y r z=>by subst z; rw [r] at mu; exact mu
 have ntup:∀ c xs,H c = some (.tup xs) -> c ≠ x:=fun c xs r z=>by subst z; rw [r] at mu; exact mu
 by_cases hb:b = x
 ·subst hb; rw [J1] at q; cases q; exact new
 ·rw [v7 hb] at q
  by_cases hbe:b = e
  ·have q':H b = some (.own x):=by
    rcases he with z | z
    ·exact absurd (hbe.trans z) hb
    ·rw [hbe]; exact z
   rw [q] at q'; cases q'
   obtain ⟨v,hv⟩:=heo
   exact ⟨v,by rw [hbe]; exact hv⟩
  ·refine (ok b u q).stay (fun c v hc r=>k c v ?_ r) (fun c r=>by rw [v7 (nown c b r)]; exact r) fun c xs r=>by rw [v7 (ntup c xs r)]; exact r
   rcases hc with rfl | hc
   ·exact hbe
   ·rintro rfl
    rcases he with z | z
    ·exact nown c b hc z
    ·rw [hc] at z; cases z; exact hb rfl
end
structure Un (fs ex:List Addr) (H H':Hp) (h h':Heap):Prop where
 keep:∀ b o,h.get? b = some o -> H b = none -> b ∉ fs -> b ∉ ex -> h'.get? b = some o
 slot:∀ b o,h.get? b = some o -> H b = none -> b ∈ fs -> b ∉ ex -> ∃ sl,h'.get? b = some { o with slots:=sl }
 free:∀ b o,h.get? b = some o -> H b = none -> b ∉ ex -> H' b = none
 there:∀ b o,h.get? b = some o -> b ∉ ex -> ∃ o',h'.get? b = some o'
 tups:∀ b xs,H b = some (.tup xs) -> H' b = some (.tup xs)
 frzs:∀ b o u,H b = some (.frz o u) -> H' b = some (.frz o u)
 tbls:∀ b ps,H b = some (.tbl ps) -> ∃ more,H' b = some (.tbl (ps ++ more))
section
variable {fs fs' ex ex':List Addr} {H H1 H2:Hp} {h h1 h2 h':Heap} {a x e:Addr} {o:HO}
theorem Un.any (u:Un fs ex H H1 h h1) {b:Addr} {ob:Obj} (q:h.get? b = some ob) (n:H b = none) (hx:b ∉ ex):∃ sl,h1.get? b = some { ob with slots:=sl }:=by
 by_cases hb:b ∈ fs
 ·exact u.slot b ob q n hb hx
 ·exact ⟨ob.slots,u.keep b ob q n hb hx⟩
theorem Un.trans (a:Un fs ex H H1 h h1) (b:Un fs ex H1 H2 h1 h2):Un fs ex H H2 h h2 where
 keep:=fun c ob q n hc hx=>b.keep c ob (a.keep c ob q n hc hx) (a.free c ob q n hx) hc hx
 slot:=fun c ob q n hc hx=>by
  obtain ⟨sl,e1⟩:=a.slot c ob q n hc hx
  obtain ⟨sl',e2⟩:=b.slot c _ e1 (a.free c ob q n hx) hc hx
  exact ⟨sl',e2⟩
 free:=fun c ob q n hx=>by
  obtain ⟨o',e1⟩:=a.there c ob q hx
  exact b.free c o' e1 (a.free c ob q n hx) hx
 there:=fun c ob q hx=>by
  obtain ⟨o',e1⟩:=a.there c ob q hx
  exact b.there c o' e1 hx
 tups:=fun c xs q=>b.tups c xs (a.tups c xs q)
 frzs:=fun c ob xs q=>b.frzs c ob xs (a.frzs c ob xs q)
 tbls:=fun c ps q=>by
  obtain ⟨m1,e1⟩:=a.tbls c ps q
  obtain ⟨m2,e2⟩:=b.tbls c _ e1
  exact ⟨m1 ++ m2,by rw [e2,Array.append_assoc]⟩
theorem Un.kept (k:∀ b u,h.get? b = some u -> h'.get? b = some u):Un fs ex H H h h' :=
 ⟨fun b ob q _ _ _=>k b ob q,fun b ob q _ _ _=>⟨ob.slots,k b ob q⟩,fun _ _ _ n _=>n,fun b ob q _=>⟨ob,k b ob q⟩,fun _ _ q=>q,fun _ _ _ q=>q,fun _ ps q=>⟨#[],by rw [q]; simp⟩⟩
theorem Un.refl:Un fs ex H H h h:=Un.kept fun _ _ q=>q
theorem Un.laid (k:∀ b u,h.get? b = some u -> h'.get? b = some u) (hp:h.objs.size <= a) (hn:H a = none):Un fs ex H (upd H a o) h h' where
 keep:=fun b u q _ _ _=>k b u q
 slot:=fun b u q _ _ _=>⟨u.slots,k b u q⟩
 free:=fun b u q n _=>by rw [v7 (Nat.ne_of_lt (Nat.lt_of_lt_of_le (Heap.lt_size q) hp))]; exact n
 there:=fun b u q _=>⟨u,k b u q⟩
 tups:=fun b xs q=>by rw [v7 (y1 q hn)]; exact q
 frzs:=fun b u xs q=>by rw [v7 (y1 q hn)]; exact q
 tbls:=fun b ps q=>⟨#[],by rw [v7 (y1 q hn),q]; simp⟩
theorem Un.write (mu:Mut (H x)) (he:e = x \/ H e = some (.own x)) (k:∀ b u,b ≠ e -> h.get? b = some u -> h'.get? b = some u) (heo:∃ u,h'.get? e = some u):Un fs ex H (upd H x o) h h':=by
 have hx:∀ b,H b = none -> b ≠ x:=fun b n z=>by subst z; rw [n] at mu; exact mu
 have hb:∀ b,H b = none -> b ≠ e:=fun b n z=>by
  subst z
  rcases he with r | r
  ·exact hx b n r
  ·rw [n] at r; cases r
 have hm:∀ b u,H b = some u -> ¬ Mut (some u) -> b ≠ x:=fun b u q nm z=>by subst z; rw [q] at mu; exact nm mu
 refine ⟨fun b u q n _ _=>k b u (hb b n) q,fun b u q n _ _=>⟨u.slots,k b u (hb b n) q⟩,fun b u q n _=>by rw [v7 (hx b n)]; exact n,fun b u q _=>?_,
  fun b xs q=>by rw [v7 (hm b _ q fun z=>z)]; exact q,fun b u xs q=>by rw [v7 (hm b _ q fun z=>z)]; exact q,fun b ps q=>⟨#[],by rw [v7 (hm b _ q fun z=>z),q]; simp⟩⟩
 by_cases hbe:b = e
 ·subst hbe; exact heo
 ·exact ⟨u,k b u hbe q⟩
theorem Un.mono (u:Un fs ex H H1 h h1) (hs:∀ b ∈ fs,b ∈ fs') (hx:∀ b ∈ ex,b ∈ ex'):Un fs' ex' H H1 h h1 :=
 ⟨fun b ob q n hb he=>u.keep b ob q n (fun z=>hb (hs b z)) fun z=>he (hx b z),fun _ _ q n _ he=>u.any q n fun z=>he (hx _ z),fun b ob q n he=>u.free b ob q n fun z=>he (hx b z),fun b ob q he=>u.there b ob q fun z=>he (hx b z),u.tups,u.frzs,u.tbls⟩
end
noncomputable def trk (h:Heap) (H:Hp):List Addr:=(List.range h.objs.size).filter fun a=>(H a).isSome
noncomputable def hidT (h:Heap) (H:Hp):Heap:=PySem.W.hideAll h (trk h H)
theorem ku3 (h:Heap) (H:Hp):(hidT h H).objs.size = h.objs.size:=PySem.W.hideAll_size _ _
theorem qg0 {h:Heap} {H:Hp} {b:Addr} {o:Obj} (e:h.get? b = some o) (n:H b = none):(hidT h H).get? b = some o :=
 PySem.W.hideAll_get _ e fun hm=>by
  have q:(H b).isSome = true:=(List.mem_filter.mp hm).2
  rw [n] at q; simp at q
theorem qr6 {h:Heap} {H:Hp} {b:Addr} {o:Obj} (e:(hidT h H).get? b = some o):h.get? b = some o /\ H b = none:=by
 have e':h.get? b = some o:=PySem.W.of_hideAll (trk h H) e
 refine ⟨e',?_⟩
 cases q:H b with
 | none=>rfl
 | some x =>
  have hm:b ∈ trk h H:=List.mem_filter.mpr ⟨List.mem_range.mpr (Heap.lt_size e'),by simp [q]⟩
  have z:(hidT h H).get? b = none:=PySem.W.hideAll_none (trk h H) hm
  rw [z] at e; cases e
noncomputable def qn6 (g h:Heap) (L:Addr):List (Addr × Obj):=(List.range h.objs.size).filterMap fun a=>if a = L \/ (g.get? a).isSome = true then none else (h.get? a).map fun o=>(a,o)
noncomputable def rest (g h:Heap) (L d:Addr):List (Addr × Obj):=(qn6 g h L).filter fun p=>decide (p.1 ≠ d)
end L2
namespace L2
open PySem PySem.Spec PyProof.Rows
structure Mod (K:PySem.W.Frag) (mg:Str -> Option Value) (base:Heap):Prop where
 kin:K.In base
 glob:base.Ns mainGlobals mg
 blt:∃ mb,base.Ns builtinsNs mb /\ ∀ x:Str,x ≠ "__name__" -> mb x = bootBuiltins x
 nolimit:base.NoLimit
structure Cx where
 prog:Program
 w:World
 K:PySem.W.Frag
 mg:Str -> Option Value
 base:Heap
 A:Around
 N:List Str
 s₀:Shared
 H₀:Hp
 env:Env
 outer:List Env
 stack:List Env
 ex:List Addr
 fn:Str -> Bool
 calm:Bool
 pn:List (Addr × Obj)
 xe:Value -> Shared -> Prop
noncomputable def frs (l:List Env):List Addr:=l.filterMap (·.frame)
noncomputable abbrev Cx.fs (X:Cx):List Addr:=frs X.outer
noncomputable def Vis (sc:Scope) (x:Str):Prop:=sc.names.lookup x = some .local \/ sc.names.lookup x = some .cell \/ sc.names.lookup x = some .free
noncomputable def Loc (sc:Scope) (x:Str):Prop:=sc.names.lookup x = some .local \/ sc.names.lookup x = some .cell
noncomputable def Look (env:Env) (h:Heap) (m:Str -> Option Value) (x:Str) (u:Value):Prop :=
 (env.kindOf x = some .local /\ m x = some u) \/ ((env.kindOf x = some .cell \/ env.kindOf x = some .free) /\ ∃ c,env.cells.lookup x = some c /\ h.IsCell c (some u))
structure Cx.Ok (X:Cx):Prop where
 mod:Mod X.K X.mg X.base
 kind:X.env.scope.kind = .function
 glob:X.env.globals = mainGlobals
 blt:X.env.builtins = builtinsNs
 above:X.s₀.heap.objs.size <= X.env.locals
 inj:∀ x y c,X.env.cells.lookup x = some c -> X.env.cells.lookup y = some c -> x = y
 has:∀ x,(X.env.kindOf x = some .cell \/ X.env.kindOf x = some .free) -> ∃ c,X.env.cells.lookup x = some c
 cab:∀ x c,X.fn x = true -> X.env.cells.lookup x = some c -> X.s₀.heap.objs.size <= c
 hd:X.calm = true -> X.A.handled = none
 frames:X.A.frames = some X.stack
 stk:X.stack = X.outer \/ (X.stack = X.env :: X.outer /\ X.env.frame = some X.env.locals)
 exf:∀ b ∈ X.ex,b ≠ X.env.locals /\ ∀ x c,X.env.cells.lookup x = some c -> c ≠ b
 bs:∀ b o,X.base.get? b = some o -> X.s₀.heap.get? b = some o /\ X.H₀ b = none
 bsz:X.base.objs.size <= X.s₀.heap.objs.size
 noex:∀ b o,X.base.get? b = some o -> b ∉ X.ex
 exfs:∀ b ∈ X.ex,b ∉ X.fs
 funs:X.s₀.heap.FunFrames X.base X.outer
 frf:∀ b ∈ X.fs,X.H₀ b = none
structure Inv (X:Cx) (pins:List (Addr × Obj)) (σ:List (Option V)) (H:Hp) (s:Shared):Prop where
 ok:X.Ok
 os:s.os = X.s₀.os
 bare:AllBare s.gens
 base:Un X.fs X.ex X.H₀ H X.s₀.heap s.heap
 loc:∃ m,s.heap.Ns X.env.locals m /\ ∀ (i:Nat) (x:Str) (v:V),X.N[i]? = some x -> σ[i]? = some (some v) -> Vis X.env.scope x -> ∃ u,RelV v u /\ Look X.env s.heap m x u
 cell:∀ x c,X.env.cells.lookup x = some c -> ∃ v,s.heap.IsCell c v
 free:H X.env.locals = none
 freeC:∀ x c,X.env.cells.lookup x = some c -> H c = none
 pin:∀ p ∈ X.pn ++ pins,s.heap.get? p.1 = some p.2 /\ H p.1 = none /\ p.1 ≠ X.env.locals /\ p.1 ∉ X.fs /\ ∀ v,p.2.data ≠ .cell v
 hok:HOk X.prog X.w H s.heap
 len:σ.length = X.N.length
section
variable {X:Cx} {pins:List (Addr × Obj)} {σ:List (Option V)} {H H':Hp} {s:Shared} {h':Heap}
theorem Cx.Ok.nofr (ok:X.Ok) {b:Addr} {o:Obj} (e:X.base.get? b = some o):b ∉ X.fs:=fun hb=>by
 have:=(ok.funs.mem hb).1
 rw [e] at this; cases this
theorem Inv.bs (I:Inv X pins σ H s):∀ b o,X.base.get? b = some o -> s.heap.get? b = some o /\ H b = none:=fun b o e =>
 ⟨I.base.keep b o (I.ok.bs b o e).1 (I.ok.bs b o e).2 (I.ok.nofr e) (I.ok.noex b o e),I.base.free b o (I.ok.bs b o e).1 (I.ok.bs b o e).2 (I.ok.noex b o e)⟩
theorem Inv.bk (I:Inv X pins σ H s):∀ b o,X.base.get? b = some o -> s.heap.get? b = some o:=fun b o e=>(I.bs b o e).1
theorem Inv.mod (I:Inv X pins σ H s):Mod X.K X.mg X.base:=I.ok.mod
theorem Inv.kIn (I:Inv X pins σ H s):X.K.In s.heap:=I.ok.mod.kin.keeps I.bk
theorem Inv.nolimit (I:Inv X pins σ H s):s.heap.NoLimit:=I.ok.mod.nolimit.keeps I.bk
theorem Inv.fr (I:Inv X pins σ H s):∃ m,Fr X.base X.env.locals s.heap m :=
 let ⟨m,hn,_⟩:=I.loc
 ⟨m,hn,I.bk,Nat.le_trans I.ok.bsz I.ok.above⟩
theorem Inv.lt (I:Inv X pins σ H s):X.env.locals < s.heap.objs.size:=let ⟨_,hn,_⟩:=I.loc; hn.lt
theorem Inv.sz (I:Inv X pins σ H s):X.s₀.heap.objs.size <= s.heap.objs.size:=Nat.le_trans I.ok.above (Nat.le_of_lt I.lt)
theorem Inv.nofs (I:Inv X pins σ H s) {a:Addr} (h:s.heap.objs.size <= a):a ∉ X.fs:=fun hb=>by
 obtain ⟨_,o,ho,_⟩:=I.ok.funs.mem hb
 exact absurd (Nat.lt_of_lt_of_le (Heap.lt_size ho) (Nat.le_trans I.sz h)) (Nat.lt_irrefl _)
theorem Inv.cne (I:Inv X pins σ H s):∀ x c,X.env.cells.lookup x = some c -> c ≠ X.env.locals:=fun x c e z=>by
 refine x2_2 (I.cell x c e) fun v o ho hd=>?_
 refine x1_2 I.loc fun m zo1 _=>?_
 obtain ⟨o',es,ep,ho',hd',_⟩:=zo1
 rw [z,ho'] at ho; cases ho; rw [hd'] at hd; cases hd
theorem Inv.funs (I:Inv X pins σ H s):s.heap.FunFrames X.base X.outer:=by
 have all:∀ (l:List Env),(∀ b ∈ frs l,b ∈ X.fs) -> X.s₀.heap.FunFrames X.base l -> s.heap.FunFrames X.base l:=by
  intro l
  induction l with
  | nil=>intro _ _; trivial
  | cons env r ih =>
   intro hs hl
   refine x0_3 hl fun hk zo1 hr=>?_
   clear hl
   obtain ⟨L,o,hf,hn,ho,hd⟩:=zo1
   have hL:L ∈ X.fs:=hs L (by unfold frs; rw [List.filterMap_cons,hf]; exact List.mem_cons_self)
   obtain ⟨sl,e⟩:=I.base.slot L o ho (I.ok.frf L hL) hL fun z=>I.ok.exfs L z hL
   exact ⟨hk,⟨L,_,hf,hn,e,hd⟩,ih (fun b hb=>hs b (by unfold frs; rw [List.filterMap_cons,hf]; exact List.mem_cons_of_mem _ hb)) hr⟩
 exact all X.outer (fun _ hb=>hb) I.ok.funs
theorem Inv.stack (I:Inv X pins σ H s):s.heap.FunFrames X.base X.stack:=by
 rcases I.ok.stk with e | ⟨e,hf⟩
 ·rw [e]; exact I.funs
 ·rw [e]
  refine x1_2 I.loc fun m hn _=>?_
  refine .cons (by rw [I.ok.kind]; decide) hf hn ?_ I.funs
  exact Heap.get?_none_of_le (Nat.le_trans I.ok.bsz I.ok.above)
theorem Inv.stkSub (I:Inv X pins σ H s):∀ b ∈ frs X.stack,b ∈ X.env.locals :: X.fs:=fun b hb=>by
 rcases I.ok.stk with e | ⟨e,hf⟩
 ·rw [e] at hb; exact List.mem_cons_of_mem _ hb
 ·rw [e] at hb
  unfold frs at hb
  rw [List.filterMap_cons,hf] at hb
  exact hb
theorem Inv.stkFree (I:Inv X pins σ H s):∀ b ∈ frs X.stack,H b = none:=fun b hb=>by
 rcases List.mem_cons.mp (I.stkSub b hb) with e | hb
 ·rw [e]; exact I.free
 ·obtain ⟨_,o,ho,_⟩:=I.ok.funs.mem hb
  exact I.base.free b o ho (I.ok.frf b hb) fun z=>I.ok.exfs b z hb
theorem Inv.step {g':Array GenState} {t':Nat} {d':Drawn} {ch:List Addr} (I:Inv X pins σ H s)
  (hch:∀ b ∈ ch,(b ∈ X.ex \/ X.s₀.heap.objs.size <= b) /\ b ≠ X.env.locals /\ (∀ x c,X.env.cells.lookup x = some c -> c ≠ b) /\ ∀ p ∈ X.pn ++ pins,p.1 ≠ b)
  (keep:∀ b o,b ≠ X.env.locals -> b ∉ X.fs -> b ∉ ch -> s.heap.get? b = some o -> H b = none -> h'.get? b = some o)
  (slot:∀ b o,b ≠ X.env.locals -> b ∈ X.fs -> b ∉ ch -> s.heap.get? b = some o -> H b = none -> ∃ sl,h'.get? b = some { o with slots:=sl }) (free:∀ b o,b ∉ ch -> s.heap.get? b = some o -> H b = none -> H' b = none)
  (there:∀ b o,b ∉ ch -> s.heap.get? b = some o -> ∃ o',h'.get? b = some o')
  (tups:∀ b xs,H b = some (.tup xs) -> H' b = some (.tup xs)) (frzs:∀ b o u,H b = some (.frz o u) -> H' b = some (.frz o u)) (tbls:∀ b ps,H b = some (.tbl ps) -> ∃ more,H' b = some (.tbl (ps ++ more)))
  (ns:∀ m,s.heap.Ns X.env.locals m -> h'.Ns X.env.locals m) (hok:HOk X.prog X.w H' h') (hg:AllBare g') :
  Inv X pins σ H' { s with heap:=h',gens:=g',drawn:=d',toks:=t' }:=by
 have neL:∀ b o,X.s₀.heap.get? b = some o -> b ≠ X.env.locals:=fun b o e=>Nat.ne_of_lt (Nat.lt_of_lt_of_le (Heap.lt_size e) I.ok.above)
 have neC:∀ b o,X.s₀.heap.get? b = some o -> b ∉ X.ex -> b ∉ ch:=fun b o e hx hb=>by
  rcases (hch b hb).1 with z | z
  ·exact hx z
  ·exact absurd (Nat.lt_of_lt_of_le (Heap.lt_size e) z) (Nat.lt_irrefl _)
 have cellK:∀ x c,X.env.cells.lookup x = some c -> ∀ v,s.heap.IsCell c v -> h'.IsCell c v:=fun x c e v zz1=>by
  refine x1_2 zz1 fun o ho hd=>?_
  clear zz1
  have nch:c ∉ ch:=fun z=>(hch c z).2.2.1 x c e rfl
  by_cases hc:c ∈ X.fs
  ·obtain ⟨sl,q⟩:=slot c o (I.cne x c e) hc nch ho (I.freeC x c e)
   exact ⟨_,q,hd⟩
  ·exact ⟨o,keep c o (I.cne x c e) hc nch ho (I.freeC x c e),hd⟩
 refine ⟨I.ok,I.os,hg,⟨fun b o e n hb hx=>?_,fun b o e n hb hx=>?_,fun b o e n hx=>?_,fun b o e hx=>?_,fun b xs e=>tups b xs (I.base.tups b xs e),fun b o xs e=>frzs b o xs (I.base.frzs b o xs e),fun b ps e=>?_⟩,?_,fun x c e=>?_,?_,fun x c e=>?_,fun p hp=>?_,hok,I.len⟩
 ·exact keep b o (neL b o e) hb (neC b o e hx) (I.base.keep b o e n hb hx) (I.base.free b o e n hx)
 ·obtain ⟨sl,e1⟩:=I.base.slot b o e n hb hx
  obtain ⟨sl',e2⟩:=slot b _ (neL b o e) hb (neC b o e hx) e1 (I.base.free b o e n hx)
  exact ⟨sl',e2⟩
 ·obtain ⟨o',e1⟩:=I.base.there b o e hx
  exact free b o' (neC b o e hx) e1 (I.base.free b o e n hx)
 ·obtain ⟨o',e1⟩:=I.base.there b o e hx
  exact there b o' (neC b o e hx) e1
 ·obtain ⟨m1,e1⟩:=I.base.tbls b ps e
  obtain ⟨m2,e2⟩:=tbls b _ e1
  exact ⟨m1 ++ m2,by rw [e2,Array.append_assoc]⟩
 ·refine x1_2 I.loc fun m hn hl=>?_
  refine ⟨m,ns m hn,fun i x v e1 e2 e3=>?_⟩
  refine x1_2 (hl i x v e1 e2 e3) fun u r l=>?_
  refine ⟨u,r,?_⟩
  rcases l with l | ⟨k,c,e,z⟩
  ·exact .inl l
  ·exact .inr ⟨k,c,e,cellK x c e _ z⟩
 ·obtain ⟨v,z⟩:=I.cell x c e
  exact ⟨v,cellK x c e v z⟩
 ·refine x1_2 I.loc fun m zo1 _=>?_
  obtain ⟨o,_,_,ho,_⟩:=zo1
  exact free _ o (fun z=>(hch _ z).2.1 rfl) ho I.free
 ·refine x2_2 (I.cell x c e) fun v o ho hd=>?_
  exact free c o (fun z=>(hch c z).2.2.1 x c e rfl) ho (I.freeC x c e)
 ·refine x0_5 (I.pin p hp) fun e n ne nf d=>?_
  have nch:p.1 ∉ ch:=fun z=>(hch p.1 z).2.2.2 p hp rfl
  exact ⟨keep p.1 p.2 ne nf nch e n,free p.1 p.2 nch e n,ne,nf,d⟩
theorem Inv.un {t':Nat} (I:Inv X pins σ H s) (u:Un X.fs [] H H' s.heap h') (hok:HOk X.prog X.w H' h'):Inv X pins σ H' { s with heap:=h',toks:=t' }:=by
 refine x1_2 (id I.loc) fun m zo1 _=>?_
 obtain ⟨o,es,ep,ho,r⟩:=zo1
 obtain ⟨sl,hL⟩:=u.any ho I.free (by simp)
 exact I.step (g':=s.gens) (d':=s.drawn) (ch:=[]) (fun _ z=>nomatch z) (fun b o _ hb _ e n=>u.keep b o e n hb (by simp)) (fun b o _ hb _ e n=>u.slot b o e n hb (by simp)) (fun b o _ e n=>u.free b o e n (by simp)) (fun b o _ e=>u.there b o e (by simp)) u.tups u.frzs u.tbls (fun m' hm=>by
  refine x3_2 hm fun o' es' ep' ho' r'=>?_
  clear hm
  rw [ho] at ho'; cases ho'
  exact ⟨_,es',ep',hL,r'⟩) hok I.bare
theorem Inv.call {g':Array GenState} {t':Nat} {d':Drawn} {ch:List Addr} (I:Inv X pins σ H s) (u:Un (frs X.stack) ch H H' s.heap h') (hok:HOk X.prog X.w H' h') (hg:AllBare g')
  (hch:∀ b ∈ ch,(b ∈ X.ex \/ X.s₀.heap.objs.size <= b) /\ b ≠ X.env.locals /\ (∀ x c,X.env.cells.lookup x = some c -> c ≠ b) /\ ∀ p ∈ X.pn ++ pins,p.1 ≠ b) :
  Inv X pins σ H' { s with heap:=h',gens:=g',drawn:=d',toks:=t' }:=by
 refine x1_2 (id I.loc) fun m zo1 _=>?_
 obtain ⟨o,es,ep,ho,r⟩:=zo1
 obtain ⟨sl,hL⟩:=u.any ho I.free fun z=>(hch _ z).2.1 rfl
 exact I.step (ch:=ch) hch (fun b o hL hb hc e n=>u.keep b o e n (fun z=>(List.mem_cons.mp (I.stkSub b z)).elim hL hb) hc) (fun b o _ _ hc e n=>u.any e n hc) (fun b o hc e n=>u.free b o e n hc) (fun b o hc e=>u.there b o e hc) u.tups u.frzs u.tbls (fun m' hm=>by
  refine x3_2 hm fun o' es' ep' ho' r'=>?_
  clear hm
  rw [ho] at ho'; cases ho'
  exact ⟨_,es',ep',hL,r'⟩) hok hg
theorem Inv.turned {t':Nat} {it:Addr} (I:Inv X pins σ H s) (k:∀ b o,b ≠ it -> s.heap.get? b = some o -> h'.get? b = some o) (hn:H it = none) (hL:it ≠ X.env.locals)
  (h1:it ∈ X.ex \/ X.s₀.heap.objs.size <= it) (h2:∀ x c,X.env.cells.lookup x = some c -> c ≠ it) (h3:∀ p ∈ X.pn ++ pins,p.1 ≠ it):Inv X pins σ H { s with heap:=h',toks:=t' }:=by
 have nit:∀ b u,H b = some u -> b ≠ it:=fun b u e z=>by rw [z,hn] at e; cases e
 refine I.step (g':=s.gens) (d':=s.drawn) (ch:=[it]) (fun b hb=>?_) (fun b o _ _ hc e _=>k b o (fun z=>hc (by simp [z])) e) (fun b o _ _ hc e _=>⟨o.slots,k b o (fun z=>hc (by simp [z])) e⟩) (fun _ _ _ _ n=>n)
  (fun b o hc e=>⟨o,k b o (fun z=>hc (by simp [z])) e⟩) (fun _ _ e=>e) (fun _ _ _ e=>e) (fun b ps e=>⟨#[],by rw [e]; simp⟩) (fun m hm=>?_) (fun b u e=>?_) I.bare
 ·have e:b = it:=by simpa using hb
  subst e
  exact ⟨h1,hL,h2,h3⟩
 ·refine x3_2 hm fun o es ep ho r=>?_
  clear hm
  exact ⟨o,es,ep,k _ o (Ne.symm hL) ho,r⟩
 ·refine (I.hok b u e).stay (fun c v hc q=>k c v ?_ q) (fun _ q=>q) fun _ _ q=>q
  rcases hc with z | z
  ·rw [z]; exact nit b u e
  ·exact nit c _ z
theorem Inv.tok (I:Inv X pins σ H s) (t:Nat):Inv X pins σ H { s with toks:=t }:=I.un (h':=s.heap) (t':=t) Un.refl I.hok
theorem Inv.kept {t':Nat} (I:Inv X pins σ H s) (k:∀ b u,s.heap.get? b = some u -> h'.get? b = some u):Inv X pins σ H { s with heap:=h',toks:=t' }:=I.un (Un.kept k) (I.hok.kept k)
theorem Inv.laid {a:Addr} {o:HO} {t':Nat} (I:Inv X pins σ H s) (k:∀ b u,s.heap.get? b = some u -> h'.get? b = some u) (hp:s.heap.objs.size <= a) (new:ObjOk X.prog X.w (upd H a o) h' a o) :
  Inv X pins σ (upd H a o) { s with heap:=h',toks:=t' }:=I.un (Un.laid k hp (I.hok.fresh hp)) (I.hok.laid k hp new)
theorem Inv.write {x e:Addr} {o:HO} {t':Nat} (I:Inv X pins σ H s) (mu:Mut (H x)) (he:e = x \/ H e = some (.own x)) (k:∀ b u,b ≠ e -> s.heap.get? b = some u -> h'.get? b = some u) (heo:∃ u,h'.get? e = some u)
  (new:ObjOk X.prog X.w (upd H x o) h' x o):Inv X pins σ (upd H x o) { s with heap:=h',toks:=t' }:=I.un (Un.write mu he k heo) (I.hok.write mu he k heo new)
theorem Inv.pins_of {pins':List (Addr × Obj)} (I:Inv X pins σ H s) (h:∀ p ∈ pins',s.heap.get? p.1 = some p.2 /\ H p.1 = none /\ p.1 ≠ X.env.locals /\ p.1 ∉ X.fs /\ ∀ v,p.2.data ≠ .cell v):Inv X pins' σ H s :=
 ⟨I.ok,I.os,I.bare,I.base,I.loc,I.cell,I.free,I.freeC,fun p hp=>(List.mem_append.mp hp).elim (fun z=>I.pin p (List.mem_append_left _ z)) (h p),I.hok,I.len⟩
theorem kl1 {N:List Str} (hN:N.Nodup) {i j:Nat} {x:Str} (a:N[i]? = some x) (b:N[j]? = some x):i = j:=by
 obtain ⟨h1,e1⟩:=List.getElem?_eq_some_iff.mp a
 obtain ⟨h2,e2⟩:=List.getElem?_eq_some_iff.mp b
 exact (List.getElem_inj hN).mp (e1.trans e2.symm)
theorem ke8 {M:Model} {A:Around} {E:Value -> Shared -> Prop} {i:Nat} {x:Str} {v:V} {u:Value} {Q:Unit -> Shared -> Prop} (I:Inv X pins σ H s) (hN:X.N.Nodup) (hi:X.N[i]? = some x) (hx:Loc X.env.scope x) (r:RelV v u)
  (h:∀ s',Inv X pins (σ.set i (some v)) H s' -> (∃ a,Heap.SameBut a s.heap s'.heap /\ (a = X.env.locals \/ X.env.cells.lookup x = some a)) -> Q () s') (hf:X.fn x = true \/ X.env.scope.names.lookup x = some .local:=by first | exact .inl rfl | exact .inr rfl | assumption):wpAny M A (storeName X.env x u) Q E s:=by
 refine x1_2 (id I.loc) fun m hn hl=>?_
 have hcls:(X.env.scope.kind == .class || (X.env.scope.kind == .module && X.env.locals != X.env.globals)) = false:=by rw [I.ok.kind]; rfl
 have hiσ:i < σ.length:=by rw [I.len]; exact (List.getElem?_eq_some_iff.mp hi).1
 have cne:=I.cne
 have tracked:∀ {a:Addr} {h':Heap},(∃ o,s.heap.get? a = some o /\ H a = none) -> Heap.SameBut a s.heap h' -> HOk X.prog X.w H h':=fun {a h'} ha hs b ob e=>by
  refine x1_2 ha fun _ _ hfree=>?_
  clear ha
  refine (I.hok b ob e).stay (fun c w' hc q=>(hs.2 c ?_).trans q) (fun _ q=>q) fun _ _ q=>q
  rintro rfl
  rcases hc with rfl | hc
  ·rw [hfree] at e; cases e
  ·rw [hfree] at hc; cases hc
 rcases hx with hk | hk
 ·refine wpAny_storeName_local hk hn (fun h' hn' hs=>?_) hcls
  refine x3_2 (id hn) fun oL _ _ hoL _=>?_
  refine h _ ⟨I.ok,I.os,I.bare,⟨fun b o e n hb hx=>?_,fun b o e n hb hx=>?_,I.base.free,fun b o e hx=>?_,I.base.tups,I.base.frzs,I.base.tbls⟩,⟨_,hn',fun j y v' e1 e2 e3=>?_⟩,fun y c e=>?_,I.free,I.freeC,fun p hp=>?_,tracked ⟨oL,hoL,I.free⟩ hs,by simpa using I.len⟩ ⟨_,hs,.inl rfl⟩
  ·exact (hs.2 b (Nat.ne_of_lt (Nat.lt_of_lt_of_le (Heap.lt_size e) I.ok.above))).trans (I.base.keep b o e n hb hx)
  ·obtain ⟨sl,e1⟩:=I.base.slot b o e n hb hx
   exact ⟨sl,(hs.2 b (Nat.ne_of_lt (Nat.lt_of_lt_of_le (Heap.lt_size e) I.ok.above))).trans e1⟩
  ·obtain ⟨o',e1⟩:=I.base.there b o e hx
   exact ⟨o',(hs.2 b (Nat.ne_of_lt (Nat.lt_of_lt_of_le (Heap.lt_size e) I.ok.above))).trans e1⟩
  ·by_cases hj:j = i
   ·subst hj
    rw [hi] at e1; cases e1
    rw [List.getElem?_set_self hiσ] at e2
    cases e2
    exact ⟨u,r,.inl ⟨hk,by simp⟩⟩
   ·rw [List.getElem?_set_ne (Ne.symm hj)] at e2
    refine x1_2 (hl j y v' e1 e2 e3) fun u' r' q=>?_
    refine ⟨u',r',?_⟩
    rcases q with ⟨k,e⟩ | ⟨k,c,e,z⟩
    ·refine .inl ⟨k,?_⟩
     have:y ≠ x:=fun e=>hj (kl1 hN e1 (e ▸ hi))
     simp [this,e]
    ·exact .inr ⟨k,c,e,z.sameBut hs (cne y c e)⟩
  ·obtain ⟨w',z⟩:=I.cell y c e
   exact ⟨w',z.sameBut hs (cne y c e)⟩
  ·refine x0_5 (I.pin p hp) fun e n ne nf d=>?_
   exact ⟨(hs.2 p.1 ne).trans e,n,ne,nf,d⟩
 ·have hfn:X.fn x = true:=by
   rcases hf with z | z
   ·exact z
   ·rw [z] at hk; cases hk
  obtain ⟨c,hc⟩:=I.ok.has x (.inl hk)
  obtain ⟨w',z⟩:=I.cell x c hc
  refine wpAny_storeName_cell I.ok.kind hk hc z (fun h' hc' hs=>?_)
  refine x1_2 (id z) fun oc hoc hocd=>?_
  refine h { s with heap:=h' } ⟨I.ok,I.os,I.bare,⟨fun b o e n hb hx=>?_,fun b o e n hb hx=>?_,I.base.free,fun b o e hx=>?_,I.base.tups,I.base.frzs,I.base.tbls⟩,⟨m,hn.sameBut hs (Ne.symm (cne x c hc)),fun j y v' e1 e2 e3=>?_⟩,fun y c' e=>?_,I.free,I.freeC,fun p hp=>?_,tracked ⟨oc,hoc,I.freeC x c hc⟩ hs,by simpa using I.len⟩ ⟨c,hs,.inr hc⟩
  ·exact (hs.2 b (Nat.ne_of_lt (Nat.lt_of_lt_of_le (Heap.lt_size e) (I.ok.cab x c hfn hc)))).trans (I.base.keep b o e n hb hx)
  ·obtain ⟨sl,e1⟩:=I.base.slot b o e n hb hx
   exact ⟨sl,(hs.2 b (Nat.ne_of_lt (Nat.lt_of_lt_of_le (Heap.lt_size e) (I.ok.cab x c hfn hc)))).trans e1⟩
  ·obtain ⟨o',e1⟩:=I.base.there b o e hx
   exact ⟨o',(hs.2 b (Nat.ne_of_lt (Nat.lt_of_lt_of_le (Heap.lt_size e) (I.ok.cab x c hfn hc)))).trans e1⟩
  ·by_cases hj:j = i
   ·subst hj
    rw [hi] at e1; cases e1
    rw [List.getElem?_set_self hiσ] at e2
    cases e2
    exact ⟨u,r,.inr ⟨.inl hk,c,hc,hc'⟩⟩
   ·rw [List.getElem?_set_ne (Ne.symm hj)] at e2
    refine x1_2 (hl j y v' e1 e2 e3) fun u' r' q=>?_
    refine ⟨u',r',?_⟩
    rcases q with q | ⟨k,c',e,z'⟩
    ·exact .inl q
    ·refine .inr ⟨k,c',e,z'.sameBut hs ?_⟩
     rintro rfl
     exact hj (kl1 hN e1 (I.ok.inj _ _ _ e hc ▸ hi))
  ·by_cases hcc:c' = c
   ·subst hcc; exact ⟨_,hc'⟩
   ·obtain ⟨w2,z2⟩:=I.cell y c' e
    exact ⟨w2,z2.sameBut hs hcc⟩
  ·refine x0_5 (I.pin p hp) fun e n ne nf d=>?_
   refine ⟨(hs.2 p.1 ?_).trans e,n,ne,nf,d⟩
   intro q
   rw [q,hoc] at e
   have q':oc = p.2:=Option.some.inj e
   exact d w' (by rw [<- q']; exact hocd)
theorem jm1 {M:Model} {A:Around} {E:Value -> Shared -> Prop} {i:Nat} {x:Str} {v:V} {u:Value} {Q:Unit -> Shared -> Prop} (I:Inv X pins σ H s) (hN:X.N.Nodup) (hi:X.N[i]? = some x) (hx:Loc X.env.scope x) (r:RelV v u)
  (h:∀ s',Inv X pins (σ.set i (some v)) H s' -> Q () s') (hf:X.fn x = true \/ X.env.scope.names.lookup x = some .local:=by first | exact .inl rfl | exact .inr rfl | assumption):wpAny M A (storeName X.env x u) Q E s :=
 ke8 I hN hi hx r (fun s' I' _=>h s' I') hf
theorem Inv.call' {s':Shared} {ch:List Addr} (I:Inv X pins σ H s) (ho:s'.os = s.os) (u:Un (frs X.stack) ch H H' s.heap s'.heap) (hok:HOk X.prog X.w H' s'.heap) (hg:AllBare s'.gens)
  (hch:∀ b ∈ ch,(b ∈ X.ex \/ X.s₀.heap.objs.size <= b) /\ b ≠ X.env.locals /\ (∀ x c,X.env.cells.lookup x = some c -> c ≠ b) /\ ∀ p ∈ X.pn ++ pins,p.1 ≠ b):Inv X pins σ H' s':=by
 obtain ⟨h',g',d',t',o'⟩:=s'
 have e:o' = s.os:=ho
 subst e
 exact I.call (g':=g') (t':=t') (d':=d') u hok hg hch
end
noncomputable abbrev XK:=Value -> Option Addr -> Hp -> Prop
noncomputable abbrev St:=List (Option V)
noncomputable abbrev VK:=V -> Hp -> Prop
noncomputable abbrev TE:=St -> Hp -> VK -> Prop
noncomputable abbrev TT:=St -> Hp -> (Bool -> Hp -> Prop) -> Prop
noncomputable abbrev TA:=St -> Hp -> (List V -> Hp -> Prop) -> Prop
structure Ends where
 nx:St -> Hp -> Prop
 rt:VK
 bk:St -> Hp -> Prop:=fun _ _=>False
 ct:St -> Hp -> Prop:=fun _ _=>False
noncomputable abbrev TS:=Ends -> St -> Hp -> Prop
noncomputable def EP (X:Cx) (pins:List (Addr × Obj)) (σ:St) (Q:VK) (u:Value) (s':Shared):Prop:=∃ v H',Inv X pins σ H' s' /\ RelV v u /\ Q v H'
noncomputable def TP (X:Cx) (pins:List (Addr × Obj)) (σ:St) (Q:Bool -> Hp -> Prop) (b:Bool) (s':Shared):Prop:=∃ H',Inv X pins σ H' s' /\ Q b H'
noncomputable def AP (X:Cx) (pins:List (Addr × Obj)) (σ:St) (Q:List V -> Hp -> Prop) (us:List Value) (s':Shared):Prop:=∃ vs H',Inv X pins σ H' s' /\ Vals vs us /\ Q vs H'
noncomputable def SP (X:Cx) (pins:List (Addr × Obj)) (D:Ends) (f:Flow) (s':Shared):Prop :=
 match f with
 | .next=>∃ σ' H',Inv X pins σ' H' s' /\ D.nx σ' H'
 | .brk=>∃ σ' H',Inv X pins σ' H' s' /\ D.bk σ' H'
 | .cont=>∃ σ' H',Inv X pins σ' H' s' /\ D.ct σ' H'
 | .ret u=>∃ v σ' H',Inv X pins σ' H' s' /\ RelV v u /\ D.rt v H'
noncomputable def PE (X:Cx) (e:Expr) (t:TE):Prop :=
 ∀ (pins:List (Addr × Obj)) (s:Shared) (σ:St) (H:Hp) (Q:VK),Inv X pins σ H s -> t σ H Q -> wpAny (model X.prog X.w) X.A (eval e X.env) (EP X pins σ Q) X.xe s
noncomputable def PT (X:Cx) (e:Expr) (t:TT):Prop :=
 ∀ (pins:List (Addr × Obj)) (s:Shared) (σ:St) (H:Hp) (Q:Bool -> Hp -> Prop),Inv X pins σ H s -> t σ H Q -> wpAny (model X.prog X.w) X.A (isTrue e X.env (eval e X.env)) (TP X pins σ Q) X.xe s
noncomputable def PW (X:Cx) (e:Expr) (t:TT):Prop :=
 ∀ (whole:Sem Value) (pins:List (Addr × Obj)) (s:Shared) (σ:St) (H:Hp) (Q:Bool -> Hp -> Prop),Inv X pins σ H s -> t σ H Q -> wpAny (model X.prog X.w) X.A (isTrue e X.env whole) (TP X pins σ Q) X.xe s
theorem PW.pt {X:Cx} {e:Expr} {t:TT} (h:PW X e t):PT X e t:=h _
noncomputable def PA (X:Cx) (es:List Expr) (t:TA):Prop :=
 ∀ (pos:Pos) (pins:List (Addr × Obj)) (s:Shared) (σ:St) (H:Hp) (Q:List V -> Hp -> Prop),Inv X pins σ H s -> t σ H Q -> wpAny (model X.prog X.w) X.A (spliced (backTo pos (starEach es X.env))) (AP X pins σ Q) X.xe s
noncomputable def PS (X:Cx) (st:Stmt) (t:TS):Prop :=
 ∀ (pins:List (Addr × Obj)) (s:Shared) (σ:St) (H:Hp) (D:Ends),Inv X pins σ H s -> t D σ H -> wpAny (model X.prog X.w) X.A (exec st X.env) (SP X pins D) X.xe s
noncomputable def PSs (X:Cx) (st:List Stmt) (t:TS):Prop :=
 ∀ (pins:List (Addr × Obj)) (s:Shared) (σ:St) (H:Hp) (D:Ends),Inv X pins σ H s -> t D σ H -> wpAny (model X.prog X.w) X.A (execs st X.env) (SP X pins D) X.xe s
theorem thn {α:Type} {t:Sem α} {Q Q':α -> Shared -> Prop} {M:Model} {A:Around} {E:Value -> Shared -> Prop} {s:Shared} (h:wpAny M A t Q E s) (hQ:∀ a s,Q a s -> Q' a s):wpAny M A t Q' E s:=wpAny_mono h hQ fun _ _ x=>x
end L2
namespace L2
open PySem PySem.Spec PyProof.Rows
section
variable {X:Cx}
noncomputable def tVar (i:Nat):TE:=fun σ H Q=>∃ v,σ[i]? = some (some v) /\ Q v H
noncomputable def tC (v:V):TE:=fun _ H Q=>Q v H
theorem qv3 {i:Nat} {x:Str} {pos:Pos} (hN:X.N[i]? = some x) (hv:Vis X.env.scope x) (hd:(x == ("__debug__" : Str)) = false:=by decide) (hcd:(x == ("__classdict__" : Str)) = false:=by decide):PE X (.Name x pos) (tVar i):=by
 intro pins s σ H Q I h
 obtain ⟨v,e,h⟩:=h
 obtain ⟨m,hn,hl⟩:=I.loc
 obtain ⟨u,r,l⟩:=hl i x v hN e hv
 have fin:EP X pins σ Q u s:=⟨v,H,I,r,h⟩
 rcases l with ⟨hk,hm⟩ | ⟨hk,c,hc,hcell⟩
 ·exact wpAny_Name (wpAny_loadName_local I.ok.kind hk hn hm fin) hd
 ·rcases hk with hk | hk
  ·exact wpAny_Name (wpAny_loadName_cell I.ok.kind hk hc hcell fin) hd
  ·exact wpAny_Name (wpAny_loadName_free I.ok.kind hk hc hcell fin hcd) hd
theorem qz3 {i j pos}:PE X (.Constant (.int i) j pos) (tC (.int i)):=fun _ _ _ H _ I h=>wpAny_Constant_int ⟨.int i,H,I.tok _,⟨_,rfl⟩,h⟩
theorem ve7 {b j pos}:PE X (.Constant (.bool b) j pos) (tC (.bl b)):=fun _ _ _ H _ I h=>Constant_bool ⟨.bl b,H,I,rfl,h⟩
noncomputable def Gl (X:Cx) (x:Str):Prop:=X.env.kindOf x = some .globalImplicit
theorem ji3 {E:Value -> Shared -> Prop} {pins:List (Addr × Obj)} {s:Shared} {σ:St} {H:Hp} {x:Str} {u:Value} {pos:Pos} {Q:Value -> Shared -> Prop} (I:Inv X pins σ H s) (hg:Gl X x) (hm:X.mg x = some u) (h:Q u s)
  (hd:(x == ("__debug__" : Str)) = false:=by decide):wpAny (model X.prog X.w) X.A (eval (.Name x pos) X.env) Q E s :=
 Calls.Name_function_global I.ok.kind hg (Calls.loadGlobal_global (by rw [I.ok.glob]; exact I.mod.glob.keeps I.bk) hm h) hd
theorem kc3 {E:Value -> Shared -> Prop} {pins:List (Addr × Obj)} {s:Shared} {σ:St} {H:Hp} {x:Str} {u:Value} {pos:Pos} {Q:Value -> Shared -> Prop} (I:Inv X pins σ H s) (hg:Gl X x) (hm:X.mg x = none) (hv:bootBuiltins x = some u) (h:Q u s)
  (hn:x ≠ "__name__":=by decide) (hd:(x == ("__debug__" : Str)) = false:=by decide):wpAny (model X.prog X.w) X.A (eval (.Name x pos) X.env) Q E s:=by
 refine x1_2 I.mod.blt fun mb h1 h2=>?_
 exact Calls.Name_function_global I.ok.kind hg (Calls.loadGlobal_builtin (by rw [I.ok.glob]; exact I.mod.glob.keeps I.bk) hm (by rw [I.ok.blt]; exact h1.keeps I.bk) ((h2 x hn).trans hv) h) hd
theorem kw5 {x:Str} {v:V} {u:Value} {pos:Pos} (hg:Gl X x) (hm:X.mg x = some u) (r:RelV v u) (hd:(x == ("__debug__" : Str)) = false:=by decide):PE X (.Name x pos) (tC v) :=
 fun _ _ _ H _ I h=>ji3 I hg hm ⟨v,H,I,r,h⟩ hd
theorem qr3 {x:Str} {v:V} {u:Value} {pos:Pos} (hg:Gl X x) (hm:X.mg x = none) (hv:bootBuiltins x = some u) (r:RelV v u) (hn:x ≠ "__name__":=by decide) (hd:(x == ("__debug__" : Str)) = false:=by decide):PE X (.Name x pos) (tC v) :=
 fun _ _ _ H _ I h=>kc3 I hg hm hv ⟨v,H,I,r,h⟩ hn hd
variable {a b:Expr} {ta tb:TE} {pos:Pos}
noncomputable def tB (t:TE):TT:=fun σ H Q=>t σ H fun x H1=>∃ c,x = .bl c /\ Q c H1
theorem ve0 {e:Expr} {t:TE} (h:PE X e t) (he:∀ whole,isTrue e X.env whole = (do let v <- whole; standAt e.pos; holding [v] (truthy v)):=by intro _; rfl):PT X e (tB t):=by
 intro pins s σ H Q I hw
 refine isTrue_plain (thn (h pins s σ H _ I hw) fun v s1 zz7=>?_) (he _)
 refine x2_3 zz7 fun x H1 I1 r1 q1=>?_
 clear zz7
 refine x1_2 q1 fun d zo1 q=>?_
 clear q1
 obtain rfl:=zo1
 cases r1
 exact wpAny_truthy_bool ⟨H1,I1,q⟩
variable {tA tB':TT} {rest:List Expr}
noncomputable def tAnd (t u:TT):TT:=fun σ H Q=>t σ H fun c H1=>if c = true then u σ H1 Q else Q false H1
noncomputable def tOr (t u:TT):TT:=fun σ H Q=>t σ H fun c H1=>if c = true then Q true H1 else u σ H1 Q
noncomputable def tNot (t:TT):TT:=fun σ H Q=>t σ H fun c H1=>Q (!c) H1
theorem qm6 (ha:PT X a tA):PW X (.BoolOp .And [a] pos) tA:=by
 intro wh pins s σ H Q I h
 refine isTrue_and (thn (ha pins s σ H Q I h) fun c s1 e=>?_)
 cases c with
 | true=>exact isTrue_and_nil e
 | false=>exact e
theorem qw1 (ha:PT X a tA):PW X (.BoolOp .Or [a] pos) tA:=by
 intro wh pins s σ H Q I h
 refine isTrue_or (thn (ha pins s σ H Q I h) fun c s1 e=>?_)
 cases c with
 | false=>exact isTrue_or_nil e
 | true=>exact e
theorem qw7 (ha:PT X a tA) (hb:PW X (.BoolOp .And (b :: rest) pos) tB'):PW X (.BoolOp .And (a :: b :: rest) pos) (tAnd tA tB'):=by
 intro wh pins s σ H Q I h
 refine isTrue_and (thn (ha pins s σ H _ I h) fun c s1 zz8=>?_)
 refine x1_2 zz8 fun H1 I1 q1=>?_
 clear zz8
 cases c with
 | true=>exact hb wh pins s1 σ H1 Q I1 q1
 | false=>exact ⟨H1,I1,q1⟩
theorem ve4 (ha:PT X a tA) (hb:PW X (.BoolOp .Or (b :: rest) pos) tB'):PW X (.BoolOp .Or (a :: b :: rest) pos) (tOr tA tB'):=by
 intro wh pins s σ H Q I h
 refine isTrue_or (thn (ha pins s σ H _ I h) fun c s1 zz9=>?_)
 refine x1_2 zz9 fun H1 I1 q1=>?_
 clear zz9
 cases c with
 | true=>exact ⟨H1,I1,q1⟩
 | false=>exact hb wh pins s1 σ H1 Q I1 q1
theorem qx2 (ha:PT X a tA):PT X (.UnaryOp .Not a pos) (tNot tA):=by
 intro pins s σ H Q I h
 exact isTrue_not (ha pins s σ H (fun c H1=>Q (!c) H1) I h)
noncomputable def vf6 (ta tb:TE):TE:=fun σ H Q=>ta σ H fun x H1=>∃ c,x = .bl c /\ if c = true then tb σ H1 Q else Q (.bl false) H1
noncomputable def vg9 (ta:TE):TE:=fun σ H Q=>ta σ H fun x H1=>∃ c,x = .bl c /\ Q (.bl (!c)) H1
theorem vc3 {op} {t:TE} (h:PE X a t):PE X (.BoolOp op [a] pos) t:=fun pins s σ H Q I hw=>BoolOp_one (h pins s σ H Q I hw)
theorem vd0 (ha:PE X a ta) (hb:PE X (.BoolOp .And (b :: rest) pos) tb):PE X (.BoolOp .And (a :: b :: rest) pos) (vf6 ta tb):=by
 intro pins s σ H Q I h
 refine BoolOp_and (thn (ha pins s σ H _ I h) fun v s1 zz10=>?_)
 obtain ⟨x,H1,I1,r1,q1⟩:=zz10
 obtain ⟨c,rfl,q1⟩:=q1
 cases r1
 refine wpAny_truthy_bool ?_
 cases c with
 | true=>exact hb pins s1 σ H1 Q I1 q1
 | false=>exact ⟨.bl false,H1,I1,rfl,q1⟩
theorem qz1 (ha:PE X a ta):PE X (.UnaryOp .Not a pos) (vg9 ta):=by
 intro pins s σ H Q I h
 refine UnaryOp_ (thn (ha pins s σ H _ I h) fun v s1 zz12=>?_)
 refine x2_3 zz12 fun x H1 I1 r1 q1=>?_
 clear zz12
 obtain ⟨c,rfl,q1⟩:=q1
 cases r1
 exact not_of (wpAny_truthy_bool ⟨.bl (!c),H1,I1,rfl,q1⟩)
noncomputable def tIf (t:TT) (ta tb:TE):TE:=fun σ H Q=>t σ H fun c H1=>if c = true then ta σ H1 Q else tb σ H1 Q
theorem qf0 {c:Expr} (hc:PT X c tA) (ha:PE X a ta) (hb:PE X b tb):PE X (.IfExp c a b pos) (tIf tA ta tb):=by
 intro pins s σ H Q I h
 refine wpAny_IfExp (thn (hc pins s σ H _ I h) fun d s1 zz13=>?_)
 refine x1_2 zz13 fun H1 I1 q1=>?_
 clear zz13
 cases d with
 | true=>exact ha pins s1 σ H1 Q I1 q1
 | false=>exact hb pins s1 σ H1 Q I1 q1
end
end L2
namespace L2
open PySem PySem.Spec PyProof.Rows
noncomputable def SqL (K:PySem.W.Frag) (H:Hp) (a:Addr) (xs:List V):Prop :=
 Rd H a (.lst xs) \/
  ∃ (o:Obj) (its:Array Value) (n:Nat),K.lookup a = some o /\ o.cls = .type "list" /\ o.dict = none /\ o.data = .seq its n /\ its.size <= sizeLine /\ Vals xs its.toList
noncomputable def SqT (K:PySem.W.Frag) (H:Hp) (a:Addr) (xs:List V):Prop :=
 Rd H a (.tup xs) \/
  ∃ (o:Obj) (its:Array Value) (n:Nat),K.lookup a = some o /\ o.cls = .type "tuple" /\ o.data = .seq its n /\ its.size <= sizeLine /\ Vals xs its.toList
noncomputable def absV:Value -> Option V
 | .none=>some .non
 | .bool b=>some (.bl b)
 | .int i _=>some (.int i)
 | .str x _=>some (.str x)
 | .bytes b _=>some (.byt b)
 | .float b _=>some (.flt b)
 | .ref a=>some (.ref a)
 | .type n=>some (.ty n)
 | _=>none
theorem RelV.abs {x:V} {u:Value} (r:RelV x u):absV u = some x:=by
 cases x with
 | non=>cases r; rfl
 | bl _=>cases r; rfl
 | int _=>obtain ⟨t,rfl⟩:=r; rfl
 | str _=>obtain ⟨t,rfl⟩:=r; rfl
 | byt _=>obtain ⟨t,rfl⟩:=r; rfl
 | flt _=>obtain ⟨t,rfl⟩:=r; rfl
 | ref _=>cases r; rfl
 | ty _=>cases r; rfl
theorem RelV.inj {x y:V} {u:Value} (r:RelV x u) (q:RelV y u):x = y:=Option.some.inj (r.abs.symm.trans q.abs)
theorem Vals.inj {xs ys:List V} {us:List Value} (h:Vals xs us) (h':Vals ys us):xs = ys:=by
 induction h generalizing ys with
 | nil=>cases h'; rfl
 | cons r t ih =>
  cases h' with
  | cons r' t'=>rw [r.inj r',ih t']
section
variable {X:Cx} {pins:List (Addr × Obj)} {σ:St} {H:Hp} {s:Shared} {a:Addr} {xs ys:List V}
theorem SqL.of {K:PySem.W.Frag} (h:H a = some (.lst xs)):SqL K H a xs:=.inl (.inl h)
theorem SqT.of {K:PySem.W.Frag} (h:H a = some (.tup xs)):SqT K H a xs:=.inl (.inl h)
theorem Inv.list (I:Inv X pins σ H s) (h:SqL X.K H a xs):∃ its:List Value,Vals xs its /\ PlainL s.heap a its.toArray /\ xs.length <= sizeLine:=by
 rcases h with h | ⟨o,its,n,hk,hc,hd,hs,hz,r⟩
 ·obtain ⟨z,its,n,r,e⟩:=h.ok I.hok
  exact ⟨its,r,⟨_,n,e,rfl,rfl,rfl⟩,z⟩
 ·refine ⟨its.toList,r,⟨o,n,I.kIn a o hk,hc,hd,by simpa using hs⟩,?_⟩
  have e:=r.length
  simp only [Array.length_toList] at e
  lia
theorem Inv.tuple (I:Inv X pins σ H s) (h:SqT X.K H a xs):∃ its:List Value,Vals xs its /\ IsTup s.heap a its.toArray /\ xs.length <= sizeLine:=by
 rcases h with h | ⟨o,its,n,hk,hc,hs,hz,r⟩
 ·obtain ⟨z,its,r,p⟩:=h.ok I.hok
  exact ⟨its,r,p,z⟩
 ·refine ⟨its.toList,r,⟨o,I.kIn a o hk,hc,n,by simpa using hs⟩,?_⟩
  have e:=r.length
  simp only [Array.length_toList] at e
  lia
theorem Inv.list_inj (I:Inv X pins σ H s) (h:SqL X.K H a xs) (h':SqL X.K H a ys):xs = ys:=by
 refine x1_3 (I.list h) fun its r zo2 _=>?_
 obtain ⟨o,n,e,_,_,d⟩:=zo2
 refine x1_3 (I.list h') fun its' r' zo2 _=>?_
 obtain ⟨o',n',e',_,_,d'⟩:=zo2
 rw [e] at e'; cases e'
 rw [d] at d'
 injection d' with d1 _
 have:its = its':=by simpa using congrArg Array.toList d1
 subst this
 exact r.inj r'
end
noncomputable abbrev Cx.wish (X:Cx) (E:Value -> Shared -> Prop):Cx:={ X with xe:=E }
noncomputable abbrev Cx.nox (X:Cx):Cx:=X.wish fun _ _=>False
theorem Cx.Ok.wish {X:Cx} (ok:X.Ok) (E:Value -> Shared -> Prop):(X.wish E).Ok :=
 ⟨ok.mod,ok.kind,ok.glob,ok.blt,ok.above,ok.inj,ok.has,ok.cab,ok.hd,ok.frames,ok.stk,ok.exf,ok.bs,ok.bsz,ok.noex,ok.exfs,ok.funs,ok.frf⟩
theorem Cx.Ok.unwish {X:Cx} {E:Value -> Shared -> Prop} (ok:(X.wish E).Ok):X.Ok :=
 ⟨ok.mod,ok.kind,ok.glob,ok.blt,ok.above,ok.inj,ok.has,ok.cab,ok.hd,ok.frames,ok.stk,ok.exf,ok.bs,ok.bsz,ok.noex,ok.exfs,ok.funs,ok.frf⟩
section
variable {X:Cx} {pins:List (Addr × Obj)} {σ:St} {H:Hp} {s:Shared} {E:Value -> Shared -> Prop}
theorem Inv.wish (I:Inv X pins σ H s) (E:Value -> Shared -> Prop):Inv (X.wish E) pins σ H s:=⟨I.ok.wish E,I.os,I.bare,I.base,I.loc,I.cell,I.free,I.freeC,I.pin,I.hok,I.len⟩
theorem Inv.unwish (I:Inv (X.wish E) pins σ H s):Inv X pins σ H s:=⟨I.ok.unwish,I.os,I.bare,I.base,I.loc,I.cell,I.free,I.freeC,I.pin,I.hok,I.len⟩
theorem SP.unwish {D:Ends} {f:Flow} {s':Shared} (h:SP (X.wish E) pins D f s'):SP X pins D f s':=by
 cases f with
 | next=>obtain ⟨σ',H',I,q⟩:=h; exact ⟨σ',H',I.unwish,q⟩
 | brk=>obtain ⟨σ',H',I,q⟩:=h; exact ⟨σ',H',I.unwish,q⟩
 | cont=>obtain ⟨σ',H',I,q⟩:=h; exact ⟨σ',H',I.unwish,q⟩
 | ret u=>obtain ⟨v,σ',H',I,r,q⟩:=h; exact ⟨v,σ',H',I.unwish,r,q⟩
theorem PE.nox {e:Expr} {t:TE} (h:PE X.nox e t):PE X e t:=fun pins s σ H Q I hw =>
 wpAny_mono (h pins s σ H Q (I.wish _) hw) (fun _ _ zz14=>zz14.elim fun v zz15=>zz15.elim fun H' zz16=>zz16.elim fun I' zz17=>zz17.elim fun r q=>⟨v,H',I'.unwish,r,q⟩) fun _ _ z=>False.elim z
theorem PT.nox {e:Expr} {t:TT} (h:PT X.nox e t):PT X e t:=fun pins s σ H Q I hw =>
 wpAny_mono (h pins s σ H Q (I.wish _) hw) (fun _ _ zz18=>zz18.elim fun H' zz19=>zz19.elim fun I' q=>⟨H',I'.unwish,q⟩) fun _ _ z=>False.elim z
theorem PSs.nox {st:List Stmt} {t:TS} (h:PSs X.nox st t):PSs X st t:=fun pins s σ H D I hw =>
 wpAny_mono (h pins s σ H D (I.wish _) hw) (fun _ _ q=>q.unwish) fun _ _ z=>False.elim z
end
section
variable {X:Cx} {st:Stmt} {rest:List Stmt} {t u:TS} {e:Expr} {te:TE} {pos:Pos}
noncomputable def vg1:TS:=fun D σ H=>D.nx σ H
noncomputable def tSeq (t u:TS):TS:=fun D σ H=>t { D with nx:=u D } σ H
theorem qp3:PSs X [] vg1:=fun _ _ σ H _ I h=>wpAny_execs_nil ⟨σ,H,I,h⟩
theorem jz2 (h1:PS X st t) (h2:PSs X rest u):PSs X (st :: rest) (tSeq t u):=by
 intro pins s σ H D I h
 refine wpAny_execs_cons (thn (h1 pins s σ H { D with nx:=u D } I h) fun f s1 q=>?_)
 cases f with
 | next =>
  obtain ⟨σ',H',I',q⟩:=q
  exact h2 pins s1 σ' H' D I' q
 | ret v=>exact q
 | brk=>exact q
 | cont=>exact q
theorem kh2 (h1:PS X st t):PSs X [st] t:=by
 intro pins s σ H D I h
 refine wpAny_execs_cons (thn (h1 pins s σ H D I h) fun f s1 q=>?_)
 cases f with
 | next=>exact wpAny_execs_nil q
 | ret v=>exact q
 | brk=>exact q
 | cont=>exact q
theorem Inv.quiet {pins:List (Addr × Obj)} {σ:St} {H:Hp} {s:Shared} (I:Inv X pins σ H s):interactive X.env = false:=by simp [interactive,I.ok.kind]
noncomputable def qn7 (te:TE):TS:=fun D σ H=>te σ H fun _ H1=>D.nx σ H1
theorem jy3 (he:PE X e te) (hs:swapsWith e none pos.line X.env = pure false:=by rfl):PS X (.Expr e pos) (qn7 te):=by
 intro pins s σ H D I h
 exact wpAny_Expr_any (thn (he pins s σ H _ I h) fun v s1 zz20=>zz20.elim fun x zz21=>zz21.elim fun H1 zz22=>zz22.elim fun I1 zz23=>zz23.elim fun r1 q1=>⟨σ,H1,I1,q1⟩) I.quiet hs
noncomputable def tRet (te:TE):TS:=fun D σ H=>te σ H D.rt
theorem qv7 (he:PE X e te):PS X (.Return (some e) pos) (tRet te):=by
 intro pins s σ H D I h
 exact wpAny_Return_some (thn (he pins s σ H _ I h) fun v s1 zz24=>zz24.elim fun x zz25=>zz25.elim fun H1 zz26=>zz26.elim fun I1 zz27=>zz27.elim fun r1 q1=>⟨x,σ,H1,I1,r1,q1⟩)
noncomputable def tIfS (c:TT) (t u:TS):TS:=fun D σ H=>c σ H fun b H1=>if b = true then t D σ H1 else u D σ H1
theorem vh5 {c:Expr} {a b:List Stmt} {tc:TT} (hc:PT X c tc) (ha:PSs X a t) (hb:PSs X b u):PS X (.If c a b pos) (tIfS tc t u):=by
 intro pins s σ H D I h
 refine wpAny_If (thn (hc pins s σ H _ I h) fun d s1 zz28=>?_)
 refine x1_2 zz28 fun H1 I1 q1=>?_
 clear zz28
 cases d with
 | true=>exact ha pins s1 σ H1 D I1 q1
 | false=>exact hb pins s1 σ H1 D I1 q1
end
noncomputable abbrev TG:=V -> St -> Hp -> (St -> Hp -> Prop) -> Prop
noncomputable abbrev TGs:=List V -> St -> Hp -> (St -> Hp -> Prop) -> Prop
noncomputable def PG (X:Cx) (target:Expr) (t:TG):Prop :=
 ∀ (pins:List (Addr × Obj)) (s:Shared) (σ:St) (H:Hp) (v:V) (u:Value) (Q:St -> Hp -> Prop),Inv X pins σ H s -> RelV v u -> t v σ H Q ->
  wpAny (model X.prog X.w) X.A (assign target X.env u) (fun _ s'=>∃ σ' H',Inv X pins σ' H' s' /\ Q σ' H') X.xe s
noncomputable def PGs (X:Cx) (ts:List Expr) (t:TGs):Prop :=
 ∀ (pins:List (Addr × Obj)) (s:Shared) (σ:St) (H:Hp) (vs:List V) (us:List Value) (Q:St -> Hp -> Prop),Inv X pins σ H s -> Vals vs us -> t vs σ H Q ->
  wpAny (model X.prog X.w) X.A (assignInOrder ((assignEach ts X.env).map (·.2)) us) (fun _ s'=>∃ σ' H',Inv X pins σ' H' s' /\ Q σ' H') X.xe s
noncomputable abbrev TSet:=V -> V -> V -> Hp -> (Hp -> Prop) -> Prop
section
variable {X:Cx} {pos:Pos}
noncomputable def kx2 (i:Nat):TG:=fun v σ H Q=>Q (σ.set i (some v)) H
theorem Q8 {i:Nat} {x:Str} (hN:X.N.Nodup) (hi:X.N[i]? = some x) (hx:Loc X.env.scope x) (hf:X.fn x = true \/ X.env.scope.names.lookup x = some .local:=by first | exact .inl rfl | exact .inr rfl | assumption):PG X (.Name x pos) (kx2 i):=by
 intro pins s σ H v u Q I r h
 exact wpAny_assign_Name (jm1 I hN hi hx r (fun s' I'=>⟨_,H,I',h⟩) hf)
noncomputable def gNil:TGs:=fun vs σ H Q=>vs = [] /\ Q σ H
noncomputable def qr4 (t:TG) (u:TGs):TGs:=fun vs σ H Q=>∃ v r,vs = v :: r /\ t v σ H fun σ' H'=>u r σ' H' Q
theorem jt3:PGs X [] gNil:=by
 intro pins s σ H vs us Q I r h
 obtain ⟨e,h⟩:=h
 subst e
 cases r
 exact assignInOrder_nil ⟨σ,H,I,h⟩
theorem jb5 {e:Expr} {es:List Expr} {t:TG} {u:TGs} (h1:PG X e t) (h2:PGs X es u)
  (hs:(assignEach (e :: es) X.env).map (·.2) = assign e X.env :: (assignEach es X.env).map (·.2):=by rfl):PGs X (e :: es) (qr4 t u):=by
 intro pins s σ H vs us Q I r h
 obtain ⟨v,vr,e1,h⟩:=h
 subst e1
 cases r with
 | cons r rr =>
  rw [hs]
  refine assignInOrder_cons (thn (h1 pins s σ H _ _ _ I r h) fun _ s1 zz29=>?_)
  refine x2_2 zz29 fun σ1 H1 I1 q1=>?_
  clear zz29
  exact h2 pins s1 σ1 H1 _ _ Q I1 rr q1
noncomputable def gTup (K:PySem.W.Frag) (n:Nat) (t:TGs):TG:=fun v σ H Q=>∃ a xs,v = .ref a /\ SqT K H a xs /\ xs.length = n /\ t xs σ H Q
theorem kf5 {es:List Expr} {k:Nat} {t:TGs} {n:Nat} (hc:X.calm = true) (h:PGs X es t)
  (hn:(assignEach es X.env).length = n:=by rfl) (hst:(assignEach es X.env).findIdx? (·.1) = none:=by rfl):PG X (.Tuple es k pos) (gTup X.K n t):=by
 intro pins s σ H v u Q I r hw
 obtain ⟨a,xs,e1,hq,hl,hw⟩:=hw
 subst e1
 cases r
 obtain ⟨its,rv,ht,hz⟩:=I.tuple hq
 refine assign_Tuple_tuple (I.ok.hd hc) ht (by simp [hn,<- hl,rv.length]) hst fun h' hx=>?_
 have I1:Inv X pins σ H { s with heap:=h' }:=I.kept (t':=s.toks) fun b o e=>hx b o (Nat.ne_of_lt (Heap.lt_size e)) e
 exact h pins _ σ H xs _ Q I1 (by simpa using rv) hw
noncomputable def gSub (to ti:TE) (t:TSet):TG:=fun v σ H Q=>to σ H fun o H1=>ti σ H1 fun i H2=>t o i v H2 fun H3=>Q σ H3
noncomputable def tAsg (te:TE) (g:TG):TS:=fun D σ H=>te σ H fun x H1=>g x σ H1 D.nx
theorem vc6 {tg e:Expr} {te:TE} {g:TG} (he:PE X e te) (hg:PG X tg g) (hs:swapsWithSole [tg] e pos.line X.env = pure false:=by rfl) (hw:swappedStores [tg] e X.env = pure none:=by rfl)
  (h1:(assignEach [tg] X.env).map (·.2) = [assign tg X.env]:=by rfl):PS X (.Assign [tg] e pos) (tAsg te g):=by
 intro pins s σ H D I h
 refine wpAny_Assign_stores (thn (he pins s σ H _ I h) fun v s1 zz33=>?_) hs hw
 refine x2_3 zz33 fun x H1 I1 r1 q1=>?_
 clear zz33
 rw [h1]
 exact thn (hg pins s1 σ H1 x v _ I1 r1 q1) fun _ s2 q=>q
theorem vd9 {i:Nat} {x:Str} {e:Expr} {te:TE} {pos':Pos} (hN:X.N.Nodup) (hi:X.N[i]? = some x) (hx:Loc X.env.scope x) (he:PE X e te) (hs:swapsWith e (some (.Name x pos')) pos.line X.env = pure false:=by rfl) (hf:X.fn x = true \/ X.env.scope.names.lookup x = some .local:=by first | exact .inl rfl | exact .inr rfl | assumption) :
  PS X (.Assign [.Name x pos'] e pos) (tAsg te (kx2 i)):=by
 intro pins s σ H D I h
 refine wpAny_Assign_Name (thn (he pins s σ H _ I h) fun v s1 zz34=>?_) hs
 refine x2_3 zz34 fun y H1 I1 r1 q1=>?_
 clear zz34
 exact jm1 I1 hN hi hx r1 (fun s2 I2=>⟨_,H1,I2,q1⟩) hf
noncomputable def tPar (i j:Nat) (ta:TA):TS:=fun D σ H=>ta σ H fun vs H1=>∃ v w,vs = [v,w] /\ D.nx ((σ.set i (some v)).set j (some w)) H1
theorem qx8 {i j:Nat} {x y:Str} {a b:Expr} {ta:TA} {px py pt:Pos} {kt k2 pt2} (hc:X.calm = true) (hN:X.N.Nodup) (hi:X.N[i]? = some x) (hj:X.N[j]? = some y) (hij:i ≠ j)
  (hx:X.env.scope.names.lookup x = some .local) (hy:X.env.scope.names.lookup y = some .local) (ha:PA X [a,b] ta)
  (hw:swappedStores [.Tuple [.Name x px,.Name y py] kt pt] (.Tuple [a,b] k2 pt2) X.env = pure (some [x,y]))
  (hs:swapsWithSole [.Tuple [.Name x px,.Name y py] kt pt] (.Tuple [a,b] k2 pt2) pos.line X.env = pure false:=by rfl) :
  PS X (.Assign [.Tuple [.Name x px,.Name y py] kt pt] (.Tuple [a,b] k2 pt2) pos) (tPar i j ta):=by
 intro pins s σ H D I h
 rw [exec_Assign_arm]
 refine wpAny_bind (wpAny_standAt ?_)
 rw [hs]
 refine wpAny_bind (wpAny_pure ?_)
 rw [if_neg (by decide)]
 refine wpAny_bind (Tuple_ (thn (ha _ pins s σ H _ I h) fun us s1 zz35=>?_))
 refine x2_3 zz35 fun vs H1 I1 r1 q1=>?_
 clear zz35
 obtain ⟨v,w,e1,q1⟩:=q1
 subst e1
 obtain ⟨u1,u2,rfl,rv,rw'⟩ : ∃ u1 u2,us = [u1,u2] /\ RelV v u1 /\ RelV w u2:=by
  cases r1 with
  | cons p q =>
   cases q with
   | cons p' q' =>
    cases q'
    exact ⟨_,_,rfl,p,p'⟩
 refine wpAny_newObj_type ?_ (by show 2 <= sizeLine; decide)
 have I2:Inv X pins σ H1 { s1 with heap:=s1.heap.push { cls:=.type "tuple",data:=.seq [u1,u2].toArray } }:=I1.kept (t':=s1.toks) fun b o e=>Heap.get?_push_of_some _ e
 rw [hw]
 refine wpAny_bind (wpAny_pure ?_)
 show wpAny (model X.prog X.w) X.A (do rule "assign.swapped-stores"; let items <- unpackItems (.ref s1.heap.objs.size) 2 none; assignInOrder [fun v=>bindName X.env y v,fun v=>bindName X.env x v] items.reverse; pure Flow.next) _ _ _
 refine wpAny_bind (wpAny_rule (wpAny_bind (unpackItems_tuple (items:=#[u1,u2]) (I.ok.hd hc) (IsTup.new s1.heap _) fun h' hx'=>?_)))
 have I3:=I2.kept (h':=h') (t':=s1.toks) fun b o e=>hx' b o (Nat.ne_of_lt (Heap.lt_size e)) e
 show wpAny _ _ (assignInOrder [fun v=>bindName X.env y v,fun v=>bindName X.env x v] [u2,u1] >>= fun _=>pure Flow.next) _ _ _
 refine wpAny_bind (assignInOrder_cons (wpAny_bindName (jm1 I3 hN hj (.inl hy) rw' (fun s2 I4=>?_) (.inr hy))))
 refine assignInOrder_cons (wpAny_bindName (jm1 I4 hN hi (.inl hx) rv (fun s3 I5=>assignInOrder_nil (wpAny_pure ?_)) (.inr hx)))
 rw [List.set_comm _ _ (Ne.symm hij)] at I5
 exact ⟨_,H1,I5,q1⟩
end
section
variable {X:Cx} {pos:Pos}
end
structure It where
 go:Nat -> Hp -> Prop
 yld:Nat -> Hp -> V -> Hp -> Prop
 stop:Nat -> Hp -> Prop
noncomputable def FpOk (X:Cx) (pins:List (Addr × Obj)) (H:Hp) (b:Addr):Prop :=
 H b = none /\ b ≠ X.env.locals /\ b ∉ X.fs /\ (b ∈ X.ex \/ X.s₀.heap.objs.size <= b) /\ (∀ x c,X.env.cells.lookup x = some c -> c ≠ b) /\ ∀ p ∈ X.pn ++ pins,p.1 ≠ b
theorem Inv.fpOk {X:Cx} {pins:List (Addr × Obj)} {σ:St} {H H':Hp} {s:Shared} {b:Addr} (I:Inv X pins σ H s) (hb:s.heap.objs.size <= b) (hn:H' b = none):FpOk X pins H' b:=by
 refine ⟨hn,Nat.ne_of_gt (Nat.lt_of_lt_of_le I.lt hb),I.nofs hb,.inr (Nat.le_trans I.sz hb),fun x c e z=>?_,fun p hp z=>?_⟩
 ·obtain ⟨v,q⟩:=I.cell x c e
  exact absurd (Nat.lt_of_lt_of_le q.lt (by rw [z]; exact hb)) (Nat.lt_irrefl _)
 ·exact absurd (Nat.lt_of_lt_of_le (Heap.lt_size (I.pin p hp).1) (by rw [z]; exact hb)) (Nat.lt_irrefl _)
structure Turn (P:Program) (w:World) (K:PySem.W.Frag) (tg:Expr) (J:It) (fp:List Addr) (it:Addr) (tn:Nat -> Heap -> Prop):Prop where
 mem:it ∈ fp
 obj:∀ i h,tn i h -> ∀ b ∈ fp,∃ o,h.get? b = some o /\ ∀ v,o.data ≠ .cell v
 keep:∀ i h h',tn i h -> (∀ b ∈ fp,∀ o,h.get? b = some o -> h'.get? b = some o) -> tn i h'
 item:∀ (X:Cx),X.prog = P -> X.w = w -> X.K = K -> X.calm = true -> ∀ (i:Nat) (pins:List (Addr × Obj)) (s:Shared) (σ:St) (H:Hp) (E:Value -> Shared -> Prop),Inv X pins σ H s -> (∀ b ∈ fp,FpOk X pins H b) -> tn i s.heap -> J.go i H ->
  wpAny (model P w) X.A (pyNext (.ref it)) (fun r s1=>∃ u,r = some u /\
   wpAny (model P w) X.A (letOwnedTupleGo tg (.ref it) u) (fun _ s2=>∃ x H',Inv X pins σ H' s2 /\ RelV x u /\ J.yld i H x H' /\ tn (i + 1) s2.heap /\ ∀ b ∈ fp,H' b = none) E s1) E s
 done:∀ (X:Cx),X.prog = P -> X.w = w -> X.K = K -> X.calm = true -> ∀ (i:Nat) (pins:List (Addr × Obj)) (s:Shared) (σ:St) (H:Hp) (E:Value -> Shared -> Prop),Inv X pins σ H s -> (∀ b ∈ fp,FpOk X pins H b) -> tn i s.heap -> J.stop i H ->
  wpAny (model P w) X.A (pyNext (.ref it)) (fun r s1=>r = none /\ Inv X pins σ H s1) E s
 self:∀ (A:Around) (i:Nat) (s:Shared) (Q:Value -> Shared -> Prop) (E:Value -> Shared -> Prop),tn i s.heap -> Q (.ref it) s -> wpAny (model P w) A (pyIter (.ref it)) Q E s
noncomputable abbrev TI:=St -> Hp -> (It -> Hp -> Prop) -> Prop
noncomputable def PIE (X:Cx) (pins:List (Addr × Obj)) (σ:St) (tg:Expr) (R:It -> Hp -> Prop) (itv:Value) (s2:Shared):Prop :=
 ∃ (it:Addr) (fp:List Addr) (tn:Nat -> Heap -> Prop) (J:It) (H':Hp),itv = .ref it /\ Inv X pins σ H' s2 /\ Turn X.prog X.w X.K tg J fp it tn /\ tn 0 s2.heap /\ (∀ b ∈ fp,FpOk X pins H' b) /\ R J H'
noncomputable def PI (X:Cx) (tg iter:Expr) (wi:TI):Prop :=
 ∀ (pins:List (Addr × Obj)) (s:Shared) (σ:St) (H:Hp) (R:It -> Hp -> Prop),Inv X pins σ H s -> wi σ H R ->
  wpAny (model X.prog X.w) X.A (eval iter X.env) (fun v s1=>wpAny (model X.prog X.w) X.A (pyIter v) (PIE X pins σ tg R) X.xe s1) X.xe s
theorem qv6 {M:Model} {A:Around} {E:Value -> Shared -> Prop} {s:Shared} {tg:Expr} {it:Addr} {u:Value} {o:Obj} {n:String} {vs:Array Value} {Q:Unit -> Shared -> Prop} (ho:s.heap.get? it = some o) (hc:o.cls = .type n) (hd:o.data = .fields vs)
    (hn:["enumerate","zip","dict_itemiterator","dict_reverseitemiterator","odict_iterator","itertools.zip_longest","itertools.pairwise"].contains n = false) (hQ:Q () s):wpAny M A (letOwnedTupleGo tg (.ref it) u) Q E s:=by
  unfold letOwnedTupleGo
  cases tg <;> first
    | exact wpAny_pure hQ
    | (cases u <;> first
        | exact wpAny_pure hQ
        | (refine wpAny_bind (wpAny_load ho ?_)
           rw [hc,hd]
           show wpAny M A (if (["enumerate","zip","dict_itemiterator","dict_reverseitemiterator","odict_iterator","itertools.zip_longest","itertools.pairwise"].contains n && vs[0]? == some (rawInt _)) = true then _ else _) Q E s
           rw [if_neg (by intro h; rw [hn,Bool.false_and] at h; cases h)]
           exact wpAny_pure hQ))
noncomputable def Itl (K:PySem.W.Frag) (a:Addr):It :=
 ⟨fun i H=>∃ xs x,SqL K H a xs /\ xs[i]? = some x,fun i H x H'=>H' = H /\ ∀ xs,SqL K H a xs -> xs[i]? = some x,fun i H=>∃ xs,SqL K H a xs /\ xs.length <= i⟩
noncomputable def Itr (lo:Int) (n:Nat):It:=⟨fun i _=>i < n,fun i H x H'=>H' = H /\ x = .int (lo + i),fun i _=>n <= i⟩
theorem kx4 {P:Program} {w:World} {K:PySem.W.Frag} {tg:Expr} (a it:Addr):Turn P w K tg (Itl K a) [it] it (fun i h=>h.IsListIter it a i) where
 mem:=by simp
 obj:=fun i h st b hb=>by
  have e:b = it:=by simpa using hb
  subst e
  refine x1_3 st fun o e c d=>?_
  clear st
  exact ⟨o,e,fun v z=>by rw [d] at z; cases z⟩
 keep:=fun i h h' st k=>st.at fun o e=>k it (by simp) o e
 item:=by
  intro X hP hw hK hc i pins s σ H E I hf st hg
  subst hP hw hK
  refine x2_2 hg fun xs x hq hx=>?_
  clear hg
  refine x1_3 (I.list hq) fun its rv p hz=>?_
  refine x1_2 (rv.get hx) fun u hu ru=>?_
  refine x0_6 (hf it (by simp)) fun f0 f1 f2 f3 f4 f5=>?_
  refine wpAny_pyNext_list_item st p.isList (x:=u) (by simpa using hu) fun h' st' sb=>?_
  have I1:Inv X pins σ H { s with heap:=h' }:=I.turned (t':=s.toks) (fun b o hb e=>(sb.2 b hb).trans e) f0 f1 f3 f4 f5
  refine x1_3 (id st') fun o e c d=>?_
  exact ⟨u,rfl,qv6 (s:={ s with heap:=h' }) e c d (by decide) ⟨x,H,I1,ru,⟨rfl,fun ys hy=>by rw [I.list_inj hy hq]; exact hx⟩,st',fun b hb=>(hf b hb).1⟩⟩
 done:=by
  intro X hP hw hK hc i pins s σ H E I hf st hg
  subst hP hw hK
  refine x1_2 hg fun xs hq hx=>?_
  clear hg
  refine x1_3 (I.list hq) fun its rv p hz=>?_
  refine x0_6 (hf it (by simp)) fun f0 f1 f2 f3 f4 f5=>?_
  have hl:=rv.length
  exact wpAny_pyNext_list_end (I.ok.hd hc) st p.isList (by simp; lia) fun h' eb=>⟨rfl,I.turned (t':=s.toks) (fun b o hb e=>eb b o hb e) f0 f1 f3 f4 f5⟩
 self:=fun _ _ _ _ _ st h=>wpAny_pyIter_listiter st h
theorem kq0 {P:Program} {w:World} {K:PySem.W.Frag} {tg:Expr} (it:Addr) (lo:Int) (n:Nat):Turn P w K tg (Itr lo n) [it] it (fun i h=>IsRangeIter h it (lo + (i:Nat) * 1) ((n:Int) - (i:Nat)) 1) where
 mem:=by simp
 obj:=fun i h st b hb=>by
  have e:b = it:=by simpa using hb
  subst e
  exact ⟨_,st,fun v z=>by
   have z':Data.fields _ = Data.cell v:=z
   cases z'⟩
 keep:=fun i h h' st k=>k it (by simp) _ st
 item:=by
  intro X hP hw hK hc i pins s σ H E I hf st hg
  subst hP hw hK
  refine x0_6 (hf it (by simp)) fun f0 f1 f2 f3 f4 f5=>?_
  have W:=Walks.range (prog:=X.prog) (w:=X.w) (I.ok.hd hc) it lo 1 n
  refine W.item i s _ _ hg st fun v h' tk hv st' kk=>?_
  obtain ⟨t,rfl⟩:=hv
  have I1:Inv X pins σ H { s with heap:=h',toks:=tk }:=I.turned (fun b o hb e=>kk b o (by simpa using hb) e) f0 f1 f3 f4 f5
  refine ⟨_,rfl,qv6 (s:={ s with heap:=h',toks:=tk }) (n:="range_iterator") st' rfl rfl (by decide) ⟨.int (lo + i),H,I1,⟨t,?_⟩,⟨rfl,rfl⟩,st',fun b hb=>(hf b hb).1⟩⟩
  rw [Int.mul_one]
 done:=by
  intro X hP hw hK hc i pins s σ H E I hf st hg
  subst hP hw hK
  refine x0_6 (hf it (by simp)) fun f0 f1 f2 f3 f4 f5=>?_
  exact wpAny_pyNext_range_end (I.ok.hd hc) st (by have:n <= i:=hg; lia) fun h' eb=>⟨rfl,I.turned (t':=s.toks) (fun b o hb e=>eb b o hb e) f0 f1 f3 f4 f5⟩
 self:=fun _ _ _ _ _ st h=>wpAny_pyIter_rangeiter st h
end L2
namespace L2
open PySem PySem.Spec PyProof.Rows
section
variable {X:Cx} {tg:Expr}
noncomputable def vh6 (K:PySem.W.Frag) (tl:TE):TI:=fun σ H R=>tl σ H fun x H1=>∃ a,x = .ref a /\ (∃ xs,SqL K H1 a xs) /\ R (Itl K a) H1
theorem ku2 {l:Expr} {tl:TE} (hl:PE X l tl):PI X tg l (vh6 X.K tl):=by
 intro pins s σ H R I h
 refine thn (hl pins s σ H _ I h) fun v s1 zz46=>?_
 refine x2_3 zz46 fun x H1 I1 r1 q1=>?_
 clear zz46
 refine x1_3 q1 fun a e zo2 q=>?_
 clear q1
 obtain ⟨xs,hq⟩:=zo2
 subst e
 cases r1
 refine x1_3 (I1.list hq) fun its rv p hz=>?_
 refine wpAny_pyIter_list p.isList ?_
 refine ⟨s1.heap.objs.size,[s1.heap.objs.size],_,_,H1,rfl,I1.kept (t':=s1.toks) fun b o e=>Heap.get?_push_of_some _ e,kx4 a _,⟨_,Heap.get?_push_size _ rfl,rfl,rfl⟩,fun b hb=>?_,q⟩
 have e:b = s1.heap.objs.size:=by simpa using hb
 subst e
 exact I1.fpOk (Nat.le_refl _) (I1.hok.fresh (Nat.le_refl _))
theorem qf4 {pins:List (Addr × Obj)} {σ:St} {H:Hp} {s:Shared} {R:It -> Hp -> Prop} {E:Value -> Shared -> Prop} {lo hi:Int} {t u v:Tok} {tk:Nat} (I:Inv X pins σ H s) (h1 : -(2 ^ 62) <= lo) (h2:lo < 2 ^ 62) (h3 : -(2 ^ 62) <= hi) (h4:hi < 2 ^ 62)
  (q:R (Itr lo (hi - lo).toNat) H):wpAny (model X.prog X.w) X.A (pyIter (.ref s.heap.objs.size)) (PIE X pins σ tg R) E { s with heap:=s.heap.push { cls:=.type "range",data:=.fields #[.int lo t,.int hi u,.int 1 v] },toks:=tk }:=by
 refine wpAny_pyIter_range (IsRange.new ..) (small_one h1 h2 h3 h4) ?_
 have I1:Inv X pins σ H { s with heap:=s.heap.push { cls:=.type "range",data:=.fields #[.int lo t,.int hi u,.int 1 v] },toks:=tk }:=I.kept fun b o e=>Heap.get?_push_of_some _ e
 refine ⟨(s.heap.push { cls:=.type "range",data:=.fields #[.int lo t,.int hi u,.int 1 v] }).objs.size,[(s.heap.push { cls:=.type "range",data:=.fields #[.int lo t,.int hi u,.int 1 v] }).objs.size],_,_,H,rfl,
  I1.kept (t':=tk) fun b o e=>Heap.get?_push_of_some _ e,kq0 _ lo (hi - lo).toNat,?_,fun b hb=>?_,q⟩
 ·have e1:lo + ((0:Nat):Int) * 1 = lo:=by simp
  have e2:(((hi - lo).toNat:Nat):Int) - ((0:Nat):Int) = Builtin.Range.rangeSize lo hi 1:=by rw [rangeSize_one]; split <;> lia
  show IsRangeIter _ _ (lo + ((0:Nat):Int) * 1) ((((hi - lo).toNat:Nat):Int) - ((0:Nat):Int)) 1
  rw [e1,e2]
  exact Heap.get?_push_size _ rfl
 ·have e:b = (s.heap.push { cls:=.type "range",data:=.fields #[.int lo t,.int hi u,.int 1 v] }).objs.size:=by simpa using hb
  subst e
  exact I1.fpOk (Nat.le_refl _) (I1.hok.fresh (Nat.le_refl _))
noncomputable def vg2 (ta:TA):TI:=fun σ H R=>ta σ H fun vs H1=>∃ j:Int,vs = [.int j] /\ -(2 ^ 62) <= j /\ j < 2 ^ 62 /\ R (Itr 0 j.toNat) H1
theorem kw2 {a:Expr} {ta:TA} {p pos:Pos} (hg:Gl X "range") (hm:X.mg "range" = none) (ha:PA X [a] ta) (hs:starEach [a] X.env = [(false,eval a X.env)]:=by rfl):PI X tg (.Call (.Name "range" p) [a] [] pos) (vg2 ta):=by
 intro pins s σ H R I h
 refine Call_ (kc3 I hg hm boot_range (PyProof.Rows.callWith_type1 (thn (ha pos pins s σ H _ I h) fun us s1 zz48=>?_) hs rfl))
 refine x2_3 zz48 fun vs H1 I1 r1 q1=>?_
 clear zz48
 obtain ⟨j,e,q1,q2,q⟩:=q1
 subst e
 cases r1 with
 | cons r rr =>
  cases rr
  obtain ⟨t,rfl⟩:=r
  exact call_range_1 (qf4 I1 (by lia) (by lia) q1 q2 (by simpa using q))
noncomputable def tFor (wi:TI) (g:TG) (tb:TS):TS:=fun D σ H=>wi σ H fun J H1=>∃ W:Nat -> Nat -> St -> Hp -> Prop,(∃ m,W 0 m σ H1) /\ ∀ i m σ H,W i m σ H ->
 (J.stop i H /\ D.nx σ H) \/ (J.go i H /\ ∃ N:St -> Hp -> Prop,(∀ σ' H',N σ' H' -> ∃ m',m' < m /\ W (i + 1) m' σ' H') /\ ∀ x H',J.yld i H x H' -> g x σ H' fun σ2 H2=>tb { D with nx:=N,ct:=N,bk:=D.nx } σ2 H2)
noncomputable def kf3 (fp:List Addr) (h:Heap):List (Addr × Obj):=fp.filterMap fun b=>(h.get? b).map fun o=>(b,o)
theorem jk2 {fp:List Addr} {h:Heap} {b:Addr} {o:Obj} (hb:b ∈ fp) (e:h.get? b = some o):(b,o) ∈ kf3 fp h:=List.mem_filterMap.mpr ⟨b,hb,by rw [e]; rfl⟩
theorem kq7 {fp:List Addr} {h:Heap} {p:Addr × Obj} (hp:p ∈ kf3 fp h):p.1 ∈ fp /\ h.get? p.1 = some p.2:=by
 refine x1_2 (List.mem_filterMap.mp hp) fun b hb e=>?_
 cases q:h.get? b with
 | none=>rw [q] at e; cases e
 | some o =>
  rw [q] at e
  have e':(b,o) = p:=Option.some.inj e
  subst e'
  exact ⟨hb,q⟩
theorem Inv.pinned {pins:List (Addr × Obj)} {σ:St} {H:Hp} {s:Shared} {fp:List Addr} (I:Inv X pins σ H s) (hf:∀ b ∈ fp,FpOk X pins H b) (ho:∀ b ∈ fp,∃ o,s.heap.get? b = some o /\ ∀ v,o.data ≠ .cell v):Inv X (pins ++ kf3 fp s.heap) σ H s :=
 I.pins_of fun p hp=>(List.mem_append.mp hp).elim (fun z=>I.pin p (List.mem_append_right _ z)) fun z=>by
  obtain ⟨hb,e⟩:=kq7 z
  refine x0_4 (hf p.1 hb) fun f0 f1 f2 _=>?_
  refine x1_2 (ho p.1 hb) fun o e' d=>?_
  rw [e] at e'; cases e'
  exact ⟨e,f0,f1,f2,d⟩
theorem Inv.unpinned {pins pl:List (Addr × Obj)} {σ:St} {H:Hp} {s:Shared} (I:Inv X (pins ++ pl) σ H s):Inv X pins σ H s:=I.pins_of fun p hp=>I.pin p (List.mem_append_right _ (List.mem_append_left _ hp))
theorem kt5 {iter:Expr} {body:List Stmt} {wi:TI} {g:TG} {tb:TS} {pos:Pos} (hp:PassesOwn (model X.prog X.w) X.A X.env X.xe) (hc:X.calm = true) (hi:PI X tg iter wi) (hg:PG X tg g) (hb:PSs X body tb)
  (hs:∀ x,foldedSetIterable iter X.env x = pure x:=by intro _; rfl):PS X (.For tg iter body [] pos) (tFor wi g tb):=by
 intro pins s σ H D I h
 refine wpAny_For (thn (hi pins s σ H _ I h) fun v s1 h1=>thn h1 fun itv s2 h2=>?_) hs
 obtain ⟨it,fp,tn,J,H2,e,I2,T,st2,f2,W,⟨m0,w0⟩,turn⟩:=h2
 subst e
 have stat:∀ {H':Hp},(∀ b ∈ fp,H' b = none) -> ∀ b ∈ fp,FpOk X pins H' b:=fun hn b hb=>⟨hn b hb,(f2 b hb).2⟩
 refine codeAny_forLoop_any (fun n s'=>∃ i σ' H',Inv X pins σ' H' s' /\ tn i s'.heap /\ (∀ b ∈ fp,H' b = none) /\ W i n σ' H') ?_ m0 ⟨0,σ,H2,I2,st2,fun b hb=>(f2 b hb).1,w0⟩
 rintro n s3 ⟨i,σ3,H3,I3,st3,fr3,w3⟩
 rcases turn i n σ3 H3 w3 with ⟨stop,qn⟩ | ⟨go,N,hN,step⟩
 ·refine wpAny_passesOwn hp (thn (T.done X rfl rfl rfl hc i pins s3 σ3 H3 X.xe I3 (stat fr3) st3 stop) fun r s4 zz50=>?_)
  obtain ⟨hr,I4⟩:=zz50
  subst hr
  exact wpAny_execs_nil ⟨σ3,H3,I4,qn⟩
 ·refine wpAny_passesOwn hp (thn (T.item X rfl rfl rfl hc i pins s3 σ3 H3 X.xe I3 (stat fr3) st3 go) fun r s4 zz51=>?_)
  refine x1_2 zz51 fun u hr h4=>?_
  clear zz51
  subst hr
  refine wpAny_passesOwn hp (thn h4 fun _ s5 zz52=>?_)
  refine x2_5 zz52 fun x H5 I5 r5 y5 st5 fr5=>?_
  clear zz52
  have I5':=I5.pinned (stat fr5) (T.obj _ _ st5)
  refine wpAny_passesOwn hp (thn (hg _ s5 σ3 H5 x u _ I5' r5 (step x H5 y5)) fun _ s6 zz53=>?_)
  refine x2_2 zz53 fun σ6 H6 I6 q6=>?_
  clear zz53
  refine wpAny_passesOwn hp (thn (hb _ s6 σ6 H6 _ I6 q6) fun f s7 q7=>?_)
  have again:∀ {σ7:St} {H7:Hp},Inv X (pins ++ kf3 fp s5.heap) σ7 H7 s7 -> N σ7 H7 -> ∃ m,m < n /\ ∃ i σ' H',Inv X pins σ' H' s7 /\ tn i s7.heap /\ (∀ b ∈ fp,H' b = none) /\ W i m σ' H':=fun {σ7 H7} I7 n7=>by
   refine x1_2 (hN σ7 H7 n7) fun m' hm w7=>?_
   refine ⟨m',hm,i + 1,σ7,H7,I7.unpinned,T.keep _ _ _ st5 fun b hb o e=>(I7.pin (b,o) (List.mem_append_right _ (List.mem_append_right _ (jk2 hb e)))).1,fun b hb=>?_,w7⟩
   refine x1_2 (T.obj _ _ st5 b hb) fun o e d=>?_
   exact (I7.pin (b,o) (List.mem_append_right _ (List.mem_append_right _ (jk2 hb e)))).2.1
  cases f with
  | next=>obtain ⟨σ7,H7,I7,n7⟩:=q7; exact again I7 n7
  | cont=>obtain ⟨σ7,H7,I7,n7⟩:=q7; exact again I7 n7
  | brk=>obtain ⟨σ7,H7,I7,q7⟩:=q7; exact ⟨σ7,H7,I7.unpinned,q7⟩
  | ret v=>obtain ⟨x7,σ7,H7,I7,r7,q7⟩:=q7; exact ⟨x7,σ7,H7,I7.unpinned,r7,q7⟩
end
end L2
namespace L2
open PySem PySem.Spec PyProof.Rows
noncomputable abbrev R2:=V -> V -> Hp -> VK -> Prop
noncomputable def OpR (X:Cx) (f:Value -> Value -> Sem Value) (r:R2):Prop :=
 ∀ (pins:List (Addr × Obj)) (s:Shared) (σ:St) (H:Hp) (x y:V) (v u:Value) (Q:VK),Inv X pins σ H s -> RelV x v -> RelV y u -> r x y H Q ->
  wpAny (model X.prog X.w) X.A (f v u) (EP X pins σ Q) X.xe s
noncomputable def UnR (X:Cx) (f:Value -> Sem Value) (r:V -> Hp -> VK -> Prop):Prop :=
 ∀ (pins:List (Addr × Obj)) (s:Shared) (σ:St) (H:Hp) (x:V) (v:Value) (Q:VK),Inv X pins σ H s -> RelV x v -> r x H Q ->
  wpAny (model X.prog X.w) X.A (f v) (EP X pins σ Q) X.xe s
noncomputable def CallR (X:Cx) (f:Value) (r:List V -> Hp -> VK -> Prop):Prop :=
 ∀ (pins:List (Addr × Obj)) (s:Shared) (σ:St) (H:Hp) (xs:List V) (us:List Value) (Q:VK),Inv X pins σ H s -> Vals xs us -> r xs H Q ->
  wpAny (model X.prog X.w) X.A (call f us) (EP X pins σ Q) X.xe s
noncomputable def tOp (r:R2) (ta tb:TE):TE:=fun σ H Q=>ta σ H fun x H1=>tb σ H1 fun y H2=>r x y H2 Q
noncomputable def tUn (r:V -> Hp -> VK -> Prop) (ta:TE):TE:=fun σ H Q=>ta σ H fun x H1=>r x H1 Q
noncomputable def rI (C:Int -> Int -> Prop) (g:Int -> Int -> V):R2:=fun x y H Q=>∃ i j,x = .int i /\ y = .int j /\ C i j /\ Q (g i j) H
noncomputable def rI0 (g:Int -> Int -> V):R2:=fun x y H Q=>∃ i j,x = .int i /\ y = .int j /\ Q (g i j) H
noncomputable def rU (g:Int -> V):V -> Hp -> VK -> Prop:=fun x H Q=>∃ i,x = .int i /\ Q (g i) H
section
variable {X:Cx} {a b c:Expr} {ta tb tc:TE} {pos:Pos}
theorem binT (ha:PE X a ta) (hb:PE X b tb) {pins:List (Addr × Obj)} {s:Shared} {σ:St} {H:Hp} {R:V -> V -> Hp -> Prop} (I:Inv X pins σ H s)
  (h:ta σ H fun x H1=>tb σ H1 fun y H2=>R x y H2) {Q:Value -> Shared -> Prop} {f:Value -> Value -> Sem Value}
  (hf:∀ v u s2 x y H2,Inv X pins σ H2 s2 -> RelV x v -> RelV y u -> R x y H2 -> wpAny (model X.prog X.w) X.A (f v u) Q X.xe s2) :
  wpAny (model X.prog X.w) X.A (eval a X.env) (fun v s₁=>wpAny (model X.prog X.w) X.A (eval b X.env) (fun u s₂=>wpAny (model X.prog X.w) X.A (f v u) Q X.xe s₂) X.xe s₁) X.xe s:=by
 refine thn (ha pins s σ H _ I h) fun v s1 zz55=>?_
 refine x2_3 zz55 fun x H1 I1 r1 q1=>?_
 clear zz55
 refine thn (hb pins s1 σ H1 _ I1 q1) fun u s2 zz56=>?_
 refine x2_3 zz56 fun y H2 I2 r2 q2=>?_
 clear zz56
 exact hf v u s2 x y H2 I2 r1 r2 q2
theorem vh2 {op:Operator} {r:R2} (ho:OpR X (binaryOp op) r) (ha:PE X a ta) (hb:PE X b tb):PE X (.BinOp a op b pos) (tOp r ta tb):=by
 intro pins s σ H Q I h
 exact wpAny_BinOp (binT ha hb I h fun v u s2 x y H2 I2 rx ry q=>ho pins s2 σ H2 x y v u Q I2 rx ry q)
theorem vg7 {op:UnaryOp} {r:V -> Hp -> VK -> Prop} (ho:UnR X (unaryOp op) r) (ha:PE X a ta):PE X (.UnaryOp op a pos) (tUn r ta):=by
 intro pins s σ H Q I h
 exact UnaryOp_ (thn (ha pins s σ H _ I h) fun v s1 zz57=>zz57.elim fun x zz58=>zz58.elim fun H1 zz59=>zz59.elim fun I1 zz60=>zz60.elim fun r1 q1=>ho pins s1 σ H1 x v Q I1 r1 q1)
theorem opI {f:Value -> Value -> Sem Value} {C:Int -> Int -> Prop} {g:Int -> Int -> Int}
  (rule:∀ (i j:Int) (t u:Tok) (s:Shared) (Q:Value -> Shared -> Prop) (E:Value -> Shared -> Prop),C i j -> Q (.int (g i j) s.toks) { s with toks:=s.toks + 1 } -> wpAny (model X.prog X.w) X.A (f (.int i t) (.int j u)) Q E s) :
  OpR X f (rI C fun i j=>.int (g i j)):=by
 intro pins s σ H x y v u Q I rx ry h
 refine x2_4 h fun i j zo2 zo3 hc q=>?_
 clear h
 obtain rfl:=zo2
 obtain rfl:=zo3
 obtain ⟨t,rfl⟩:=rx
 obtain ⟨t',rfl⟩:=ry
 exact rule i j t t' s _ _ hc ⟨.int (g i j),H,I.tok _,⟨_,rfl⟩,q⟩
theorem opI0 {f:Value -> Value -> Sem Value} {g:Int -> Int -> Int}
  (rule:∀ (i j:Int) (t u:Tok) (s:Shared) (Q:Value -> Shared -> Prop) (E:Value -> Shared -> Prop),Q (.int (g i j) s.toks) { s with toks:=s.toks + 1 } -> wpAny (model X.prog X.w) X.A (f (.int i t) (.int j u)) Q E s) :
  OpR X f (rI0 fun i j=>.int (g i j)):=by
 intro pins s σ H x y v u Q I rx ry h
 refine x2_3 h fun i j zo2 zo3 q=>?_
 clear h
 obtain rfl:=zo2
 obtain rfl:=zo3
 obtain ⟨t,rfl⟩:=rx
 obtain ⟨t',rfl⟩:=ry
 exact rule i j t t' s _ _ ⟨.int (g i j),H,I.tok _,⟨_,rfl⟩,q⟩
theorem opB0 {f:Value -> Value -> Sem Value} {g:Int -> Int -> Bool}
  (rule:∀ (i j:Int) (t u:Tok) (s:Shared) (Q:Value -> Shared -> Prop) (E:Value -> Shared -> Prop),Q (.bool (g i j)) s -> wpAny (model X.prog X.w) X.A (f (.int i t) (.int j u)) Q E s) :
  OpR X f (rI0 fun i j=>.bl (g i j)):=by
 intro pins s σ H x y v u Q I rx ry h
 refine x2_3 h fun i j zo2 zo3 q=>?_
 clear h
 obtain rfl:=zo2
 obtain rfl:=zo3
 obtain ⟨t,rfl⟩:=rx
 obtain ⟨t',rfl⟩:=ry
 exact rule i j t t' s _ _ ⟨.bl (g i j),H,I,rfl,q⟩
noncomputable def CDiv (i j:Int):Prop:=0 < j /\ j < 1073741824
noncomputable def CMul (i j:Int):Prop:=(-(2 ^ 64) < i /\ i < 2 ^ 64) \/ (-(2 ^ 64) < j /\ j < 2 ^ 64)
theorem CMul.ok {i j:Int} (h:CMul i j):IntMulOk i j:=by
 rcases h with ⟨h1,h2⟩ | ⟨h1,h2⟩
 ·exact .of_left (intBits_le_64 h1 h2)
 ·exact .of_right (intBits_le_64 h1 h2)
theorem Y8:OpR X (binaryOp .Add) (rI0 fun i j=>.int (i + j)):=opI0 fun _ _ _ _ _ _ _ q=>add_int q
theorem jw5:OpR X (binaryOp .Sub) (rI0 fun i j=>.int (i - j)):=opI0 fun _ _ _ _ _ _ _ q=>sub_int q
theorem kd2:OpR X (binaryOp .Mult) (rI CMul fun i j=>.int (i * j)):=opI fun _ _ _ _ _ _ _ hc q=>mul_int q hc.ok
theorem jj3:OpR X (binaryOp .FloorDiv) (rI CDiv fun i j=>.int (i / j)):=opI fun i j _ _ _ _ _ hc q=>by
 have h1:(0:Int) < j:=hc.1
 have h2:j < 1073741824:=hc.2
 exact floordiv_int (by lia) (by rw [Int.fdiv_eq_ediv_of_nonneg i (by lia)]; exact q) (.inl (PyProof.noPylong_small (by lia)))
theorem jk9:OpR X (binaryOp .Mod) (rI (fun _ j=>0 < j) fun i j=>.int (i % j)):=opI fun i j _ _ _ _ _ hc q=>by
 have h1:(0:Int) < j:=hc
 exact mod_int' (by lia) (by rw [Int.fmod_eq_emod_of_nonneg i (by lia)]; exact q)
theorem unI {f:Value -> Sem Value} {g:Int -> Int}
  (rule:∀ (i:Int) (t:Tok) (s:Shared) (Q:Value -> Shared -> Prop) (E:Value -> Shared -> Prop),Q (.int (g i) s.toks) { s with toks:=s.toks + 1 } -> wpAny (model X.prog X.w) X.A (f (.int i t)) Q E s) :
  UnR X f (rU fun i=>.int (g i)):=by
 intro pins s σ H x v Q I rx h
 refine x1_2 h fun i zo1 q=>?_
 clear h
 obtain rfl:=zo1
 obtain ⟨t,rfl⟩:=rx
 exact rule i t s _ _ ⟨.int (g i),H,I.tok _,⟨_,rfl⟩,q⟩
theorem qx3:UnR X (unaryOp .USub) (rU fun i=>.int (-i)):=unI fun _ _ _ _ _ q=>neg_int q
end
section
variable {X:Cx} {a b c:Expr} {ta tb tc:TE} {pos:Pos}
theorem vf1:OpR X (compareOp .Lt) (rI0 fun i j=>.bl (decide (i < j))):=opB0 fun _ _ _ _ _ _ _ q=>lt_int q
theorem kp1:OpR X (compareOp .LtE) (rI0 fun i j=>.bl (decide (i <= j))):=opB0 fun _ _ _ _ _ _ _ q=>le_int q
theorem kw1:OpR X (compareOp .Gt) (rI0 fun i j=>.bl (decide (j < i))):=opB0 fun _ _ _ _ _ _ _ q=>gt_int q
theorem OpR.or {f:Value -> Value -> Sem Value} {r r':R2} (h:OpR X f r) (h':OpR X f r'):OpR X f (fun x y H Q=>r x y H Q \/ r' x y H Q):=by
 intro pins s σ H x y v u Q I rx ry q
 rcases q with q | q
 ·exact h pins s σ H x y v u Q I rx ry q
 ·exact h' pins s σ H x y v u Q I rx ry q
theorem Z3 (b:Expr) {op:CmpOp} (h:op ≠ .In:=by decide) (h2:op ≠ .NotIn:=by decide):behindInMarks op b = false:=by
 have e1:(op == CmpOp.In) = false:=by cases op <;> first | rfl | exact absurd rfl h
 have e2:(op == CmpOp.NotIn) = false:=by cases op <;> first | rfl | exact absurd rfl h2
 cases b <;> simp [behindInMarks,e1,e2]
theorem qs0 {op:CmpOp} {r:R2} (ho:OpR X (compareOp op) r) (ha:PE X a ta) (hb:PE X b tb) (hm:behindInMarks op b = false):PE X (.Compare a [op] [b] pos) (tOp r ta tb):=by
 intro pins s σ H Q I h
 exact wpAny_Compare1 (binT ha hb I h fun v u s2 x y H2 I2 rx ry q=>ho pins s2 σ H2 x y v u Q I2 rx ry q) hm
noncomputable def qy8 (t:TE):TT:=fun σ H Q=>t σ H fun x H'=>∃ k,x = .bl k /\ Q k H'
theorem qo5 {op:CmpOp} {r:R2} (ho:OpR X (compareOp op) r) (ha:PE X a ta) (hb:PE X b tb) (hm:behindInMarks op b = false):PT X (.Compare a [op] [b] pos) (qy8 (tOp r ta tb)):=by
 intro pins s σ H Q I h
 refine wpAny_isTrue_Compare1 (thn (ha pins s σ H _ I h) fun v s1 zz61=>zz61.elim fun x zz62=>zz62.elim fun H1 zz63=>zz63.elim fun I1 zz64=>zz64.elim fun r1 q1=>thn (hb pins s1 σ H1 _ I1 q1) fun u s2 zz65=>zz65.elim fun y zz66=>zz66.elim fun H2 zz67=>zz67.elim fun I2 zz68=>zz68.elim fun r2 q2 =>
  thn (ho pins s2 σ H2 x y v u _ I2 r1 r2 q2) fun c s3 zz69=>zz69.elim fun z zz70=>zz70.elim fun H3 zz71=>zz71.elim fun I3 zz72=>zz72.elim fun r3 zz73=>zz73.elim fun k zz74=>zz74.elim fun e q3=>?_) hm
 subst e
 cases r3
 exact wpAny_truthy_bool ⟨H3,I3,q3⟩
noncomputable def qb4 (r r':R2) (ta tb tc:TE):TE:=fun σ H Q=>ta σ H fun x H1=>tb σ H1 fun y H2=>r x y H2 fun z H3=>∃ k,z = .bl k /\
 (if k = true then tc σ H3 fun w' H4=>r' y w' H4 Q else Q (.bl false) H3)
theorem qd9 {op op':CmpOp} {r r':R2} (ho:OpR X (compareOp op) r) (ho':OpR X (compareOp op') r') (ha:PE X a ta) (hb:PE X b tb) (hc:PE X c tc)
  (hm:lastMarks [op,op'] [b,c] = false:=by with_unfolding_all rfl):PE X (.Compare a [op,op'] [b,c] pos) (qb4 r r' ta tb tc):=by
 intro pins s σ H Q I h
 refine Compare_chain (thn (ha pins s σ H _ I h) fun v s1 zz75=>zz75.elim fun x zz76=>zz76.elim fun H1 zz77=>zz77.elim fun I1 zz78=>zz78.elim fun r1 q1=>chain_link (thn (hb pins s1 σ H1 _ I1 q1) fun u s2 zz79=>zz79.elim fun y zz80=>zz80.elim fun H2 zz81=>zz81.elim fun I2 zz82=>zz82.elim fun r2 q2 =>
  thn (ho pins s2 σ H2 x y v u _ I2 r1 r2 q2) fun d s3 zz83=>zz83.elim fun z zz84=>zz84.elim fun H3 zz85=>zz85.elim fun I3 zz86=>zz86.elim fun r3 zz87=>zz87.elim fun k zz88=>zz88.elim fun e q3=>?_)) hm
 subst e
 cases r3
 refine wpAny_truthy_bool ?_
 cases k with
 | false=>exact ite_ff ⟨.bl false,H3,I3,rfl,q3⟩
 | true=>exact ite_tt (chain_last (thn (hc pins s3 σ H3 _ I3 q3) fun w' s4 zz89=>zz89.elim fun z' zz90=>zz90.elim fun H4 zz91=>zz91.elim fun I4 zz92=>zz92.elim fun r4 q4=>ho' pins s4 σ H4 y z' u w' Q I4 r2 r4 q4))
theorem qf2 {op op':CmpOp} {r r':R2} (ho:OpR X (compareOp op) r) (ho':OpR X (compareOp op') r') (ha:PE X a ta) (hb:PE X b tb) (hc:PE X c tc)
  (hm:lastMarks [op,op'] [b,c] = false:=by with_unfolding_all rfl):PT X (.Compare a [op,op'] [b,c] pos) (qy8 (qb4 r r' ta tb tc)):=by
 intro pins s σ H Q I h
 refine isTrue_chain (thn (ha pins s σ H _ I h) fun v s1 zz93=>zz93.elim fun x zz94=>zz94.elim fun H1 zz95=>zz95.elim fun I1 zz96=>zz96.elim fun r1 q1=>test_link (thn (hb pins s1 σ H1 _ I1 q1) fun u s2 zz97=>zz97.elim fun y zz98=>zz98.elim fun H2 zz99=>zz99.elim fun I2 zz100=>zz100.elim fun r2 q2 =>
  thn (ho pins s2 σ H2 x y v u _ I2 r1 r2 q2) fun d s3 zz101=>zz101.elim fun z zz102=>zz102.elim fun H3 zz103=>zz103.elim fun I3 zz104=>zz104.elim fun r3 zz105=>zz105.elim fun k zz106=>zz106.elim fun e q3=>?_)) hm
 subst e
 cases r3
 refine wpAny_truthy_bool ?_
 cases k with
 | false =>
  refine x1_2 q3 fun k' e' q'=>?_
  clear q3
  cases e'
  exact ite_ff ⟨H3,I3,q'⟩
 | true =>
  refine ite_tt (test_last (thn (hc pins s3 σ H3 _ I3 q3) fun w' s4 zz107=>zz107.elim fun z' zz108=>zz108.elim fun H4 zz109=>zz109.elim fun I4 zz110=>zz110.elim fun r4 q4=>thn (ho' pins s4 σ H4 y z' u w' _ I4 r2 r4 q4) fun d' s5 zz111=>?_))
  obtain ⟨z2,H5,I5,r5,k2,e2,q5⟩:=zz111
  subst e2
  cases r5
  exact wpAny_truthy_bool ⟨H5,I5,q5⟩
theorem kw8:(sizeLine:Nat) < 2 ^ 63:=by rw [sizeLine_eq]; decide
theorem jz5 {x:V} {us:List Value} (r:Vals [x] us):∃ u,us = [u] /\ RelV x u:=by
 cases r with
 | cons r1 r2=>cases r2; exact ⟨_,rfl,r1⟩
theorem qo3 {x y:V} {us:List Value} (r:Vals [x,y] us):∃ u w',us = [u,w'] /\ RelV x u /\ RelV y w':=by
 cases r with
 | cons r1 r2 =>
  cases r2 with
  | cons r3 r4=>cases r4; exact ⟨_,_,rfl,r1,r3⟩
theorem km8:CallR X (.builtin "abs") (fun xs H Q=>∃ i,xs = [.int i] /\ Q (.int (if i < 0 then -i else i)) H):=by
 intro pins s σ H xs us Q I r h
 refine x1_2 h fun i zo1 q=>?_
 clear h
 obtain rfl:=zo1
 obtain ⟨u,rfl,t,rfl⟩:=jz5 r
 exact call_abs_int fun u tk=>⟨.int (if i < 0 then -i else i),H,I.tok _,⟨_,rfl⟩,q⟩
end
end L2
namespace L2
open PySem PySem.Spec PyProof.Rows
structure ObjM (h:Heap) (x dx C:Addr) (mA:Str -> Option Value):Prop where
 obj:h.get? x = some (PySem.W.instObj C dx)
 ns:h.Ns1 dx mA
 ne:dx ≠ x
theorem kz1 {h:Heap} {dx:Addr} {mA:Str -> Option Value} (n:h.Ns1 dx mA):∃ od,h.get? dx = some od /\ ∀ name,PySem.W.lookIn name od = some (mA name):=by
 refine x3_5 n fun o es ep ho hd hk _ hm=>?_
 clear n
 refine ⟨o,ho,fun name=>?_⟩
 have e:=hm name
 unfold nsFind findBy at e
 rw [<- Array.find?_toList] at e
 unfold PySem.W.lookIn
 rw [hd]
 dsimp only
 split
 ·rename_i y q
  rw [q] at e
  exact congrArg some e
 ·rename_i q
  rw [q] at e
  have a:es.toList.any (·.refKey) = false:=by
   rw [List.any_eq_false]
   intro y hy
   refine x2_1 (hk y (Array.mem_toList_iff.mp hy)) fun z t hkey=>?_
   simp [DictEntry.refKey,hkey]
  have a':¬ es.toList.any (·.refKey) = true:=by rw [a]; exact Bool.false_ne_true
  rw [if_neg a']
  exact congrArg some e
theorem ObjM.look {h:Heap} {x dx C:Addr} {mA:Str -> Option Value} (I:ObjM h x dx C mA):∃ od,PySem.W.InstAt h x (PySem.W.instObj C dx) C (some od) /\ ∀ name,PySem.W.lookIn name od = some (mA name) :=
 let ⟨od,ho,hl⟩:=kz1 I.ns
 ⟨od,⟨I.obj,rfl,rfl,ho⟩,hl⟩
section
variable {prog:Program} {w:World} {A:Around} {E:Value -> Shared -> Prop} {s:Shared} {K:PySem.W.Frag} {x dx C f:Addr} {mA:Str -> Option Value} {name:Str} {v:Value}
theorem qm4 {expr:Bool} {Q:Value -> Shared -> Prop} (X:K.In s.heap) (I:ObjM s.heap x dx C mA) (hg:PySem.W.plainGet K C name = true) (hh:PySem.W.hasDictIn K C = true)
  (ha:PySem.W.findIn K (.ref C) name = some none) (hv:mA name = some v) (hv':PySem.W.handedIn v = true) (h:Q v { s with toks:=s.toks + 1 }) :
  wpAny (model prog w) A (getAttr (.ref x) name expr) Q E s:=by
 refine x1_2 I.look fun od J hl=>?_
 exact PySem.W.get_value X J (PySem.W.plainGet_of hg).1 (PySem.W.findObj_own hh ha rfl (by rw [hl,hv])) hv' h
theorem qr9 {ns:List Str} {Q:Unit -> Shared -> Prop} (X:K.In s.heap) (I:ObjM s.heap x dx C mA)
  (hs:PySem.W.findIn K (.ref C) "__setattr__" = some (some (.builtin "object.__setattr__"))) (hp:PySem.W.plainOver K C = true) (ht:PySem.W.takerIn K C name = some none) (hh:PySem.W.hasDictIn K C = true)
  (hw:PySem.Within mA ns) (hsz:ns.length <= sizeLine)
  (h:∀ h',ObjM h' x dx C (fun y=>if y = name then some v else mA y) -> Heap.SameBut dx s.heap h' -> Q () { s with heap:=h',toks:=s.toks + 2 }) :
  wpAny (model prog w) A (setAttr (.ref x) name v) Q E s:=by
 refine x1_2 I.look fun od J hl=>?_
 refine PySem.W.set_plain X J hs (PySem.W.osa_open (s:={ s with toks:=s.toks + 1 }) (r:=none) X J hp ht fun b=>?_)
 refine x1_2 (PySem.W.any_some hh) fun cd hc hd'=>?_
 have hx:s.heap.get? x = some ⟨.ref C,some dx,.plain,#[]⟩:=I.obj
 refine wpAny_bind (wpAny_pure (wpAny_bind (wpAny_bind (wpAny_loadPart hx (wpAny_bind (PySem.W.Looks.here (s:={ s with toks:=s.toks + 1 }) (PySem.W.looks_clsIn X hc) ?_))))))
 rw [hd']
 refine wpAny_pure (a:=some dx) (wpAny_bind (wpAny_pure (wpAny_bind ?_)))
 refine wpAny_nsSet1 (s:={ s with toks:=s.toks + 1 }) I.ns fun h' hn2 hs2=>?_
 refine x3_3 (hn2.count (PySem.Within.cons name v hw)) fun oD esD epD hoD hdD hcD=>?_
 refine wpAny_bind (wpAny_lookBehind hoD (by rw [hdD]; exact pastItsLine_dict (Nat.le_trans hcD (by rw [List.length_cons]; lia))) ?_)
 exact wpAny_pure (h _ ⟨(hs2.2 _ (Ne.symm I.ne)).trans I.obj,hn2,I.ne⟩ hs2)
theorem qe9 {R:Result -> Shared -> Prop} {vs:List Value} {kw:List (Str × Value)} (X:K.In s.heap) (hm:PySem.W.makesIn K C = true)
  (hi:PySem.W.findIn K (.ref C) "__init__" = some (some (.ref f))) (hf:PySem.W.typeIn K (.ref f) = some (.type "function"))
  (h:codeAny (model prog w) (A.under (.builtin "type.__call__" ⟨.ref C :: vs,kw⟩)) (.call (.ref f) ⟨.ref (s.heap.objs.size + 1) :: vs,kw⟩) (PySem.W.InitBack (s.heap.objs.size + 1) R)
   { s with heap:=(s.heap.push PySem.W.emptyDict).push (PySem.W.instObj C s.heap.objs.size) }) :
  codeAny (model prog w) A (.call (.ref C) ⟨vs,kw⟩) R s:=by
 obtain ⟨hh,g,d,t,os⟩:=s
 exact PySem.W.make_core (PySem.W.makes_of X hm) (PySem.W.looks_findIn X hi) (fun self=>PySem.W.bind_fn X self hf) (.inl rfl) h
end
noncomputable def putF (f:Str) (v:V):List (Str × V) -> List (Str × V)
 | []=>[(f,v)]
 | (g,x) :: r=>if g = f then (g,v) :: r else (g,x) :: putF f v r
theorem js6 (f g:Str) (v:V):∀ fs:List (Str × V),(putF f v fs).lookup g = if g = f then some v else fs.lookup g
 | []=>by
  show List.lookup g [(f,v)] = _
  by_cases h:g = f
  ·have hb:(g == f) = true:=beq_iff_eq.mpr h
   simp only [List.lookup,hb,if_pos h]
  ·have hb:(g == f) = false:=beq_eq_false_iff_ne.mpr h
   simp only [List.lookup,hb,if_neg h]
 | (k,x) :: r=>by
  have ih:=js6 f g v r
  rw [show putF f v ((k,x) :: r) = (if k = f then (k,v) :: r else (k,x) :: putF f v r) from rfl]
  by_cases hk:k = f
  ·rw [if_pos hk]
   by_cases h:g = k
   ·have hb:(g == k) = true:=beq_iff_eq.mpr h
    simp only [List.lookup,hb,if_pos (h.trans hk)]
   ·have hb:(g == k) = false:=beq_eq_false_iff_ne.mpr h
    simp only [List.lookup,hb,if_neg (fun e:g = f=>h (e.trans hk.symm))]
  ·rw [if_neg hk]
   by_cases h:g = k
   ·have hb:(g == k) = true:=beq_iff_eq.mpr h
    simp only [List.lookup,hb,if_neg (fun e:g = f=>hk (h.symm.trans e))]
   ·have hb:(g == k) = false:=beq_eq_false_iff_ne.mpr h
    simp only [List.lookup,hb]
    exact ih
theorem jt4 (f:Str) (v:V):∀ fs:List (Str × V),f ∈ (putF f v fs).map (·.1) /\ ∀ g,g ∈ fs.map (·.1) -> g ∈ (putF f v fs).map (·.1)
 | []=>⟨by simp [putF],fun g h=>by simp at h⟩
 | (k,x) :: r=>by
  obtain ⟨i1,i2⟩:=jt4 f v r
  rw [show putF f v ((k,x) :: r) = (if k = f then (k,v) :: r else (k,x) :: putF f v r) from rfl]
  by_cases hk:k = f
  ·rw [if_pos hk]
   subst hk
   exact ⟨by simp,fun g h=>by simpa using h⟩
  ·rw [if_neg hk]
   refine ⟨?_,fun g h=>?_⟩
   ·rw [List.map_cons]
    exact List.mem_cons_of_mem _ i1
   ·rw [List.map_cons] at h ⊢
    rcases List.mem_cons.mp h with e | e
    ·exact List.mem_cons.mpr (.inl e)
    ·exact List.mem_cons_of_mem _ (i2 g e)
theorem jt8 (f:Str) (v:V):∀ fs:List (Str × V),(putF f v fs).length <= fs.length + 1
 | []=>by simp [putF]
 | (k,x) :: r=>by
  have ih:=jt8 f v r
  rw [show putF f v ((k,x) :: r) = (if k = f then (k,v) :: r else (k,x) :: putF f v r) from rfl]
  by_cases hk:k = f
  ·rw [if_pos hk,List.length_cons,List.length_cons]; lia
  ·rw [if_neg hk,List.length_cons,List.length_cons]; lia
theorem RelO.some_of {v:V} {o:Option Value} (r:RelO (some v) o):∃ u,o = some u /\ RelV v u:=by
 cases o with
 | none=>exact (show False from r).elim
 | some u=>exact ⟨u,rfl,r⟩
theorem kd5 {v:V} {u:Value} (r:RelV v u):PySem.W.handedIn u = true:=by
 cases v with
 | non=>cases (show u = Value.none from r); rfl
 | bl b=>cases (show u = Value.bool b from r); rfl
 | int i=>obtain ⟨t,e⟩:=(show ∃ t,u = Value.int i t from r); cases e; rfl
 | str x=>obtain ⟨t,e⟩:=(show ∃ t,u = Value.str x t from r); cases e; rfl
 | byt b=>obtain ⟨t,e⟩:=(show ∃ t,u = Value.bytes b t from r); cases e; rfl
 | flt b=>obtain ⟨t,e⟩:=(show ∃ t,u = Value.float b t from r); cases e; rfl
 | ref a=>cases (show u = Value.ref a from r); rfl
 | ty n=>cases (show u = Value.type n from r); rfl
section
variable {P:Program} {w:World} {H H':Hp} {h h':Heap} {a C dx:Addr} {fs fs':List (Str × V)}
theorem jt6 (hok:HOk P w H h) (e:H a = some (.ins C dx fs)):∃ mA,ObjM h a dx C mA /\ (∀ f,RelO (fs.lookup f) (mA f)) /\ PySem.Within mA (fs.map (·.1)) /\ fs.length <= 1000 /\ H dx = some (.own a):=by
 obtain ⟨d,z,ne,ob,mA,n,r,q⟩:=(show ObjOk P w H h a (.ins C dx fs) from hok a _ e)
 exact ⟨mA,⟨ob,n,ne⟩,r,q,z,d⟩
end
structure Cls (K:PySem.W.Frag) (C:Addr):Prop where
 pg:PySem.W.plainGet K C Str.empty = true
 hd:PySem.W.hasDictIn K C = true
 po:PySem.W.plainOver K C = true
 sa:PySem.W.findIn K (.ref C) "__setattr__" = some (some (.builtin "object.__setattr__"))
theorem Cls.get {K:PySem.W.Frag} {C:Addr} (c:Cls K C) (f:Str):PySem.W.plainGet K C f = true:=c.pg
noncomputable def NoAttr (K:PySem.W.Frag) (C:Addr) (f:Str):Prop:=PySem.W.findIn K (.ref C) f = some none
theorem NoAttr.taker {K:PySem.W.Frag} {C:Addr} {f:Str} (n:NoAttr K C f):PySem.W.takerIn K C f = some none:=by
 unfold PySem.W.takerIn
 rw [show PySem.W.findIn K (.ref C) f = some none from n]
 rfl
section
variable {X:Cx} {pins:List (Addr × Obj)} {σ:St} {H:Hp} {s:Shared} {a C dx:Addr} {fs:List (Str × V)} {f:Str} {v:V} {A:Around} {E:Value -> Shared -> Prop}
theorem ko1 {b:Bool} {Q:Value -> Shared -> Prop} (I:Inv X pins σ H s) (e:H a = some (.ins C dx fs)) (c:Cls X.K C) (n:NoAttr X.K C f) (l:fs.lookup f = some v)
  (h:∀ u s',Inv X pins σ H s' -> RelV v u -> Q u s'):wpAny (model X.prog X.w) A (getAttr (.ref a) f b) Q E s:=by
 refine x1_5 (jt6 I.hok e) fun mA O r _ _ _=>?_
 obtain ⟨u,hu,ru⟩:=RelO.some_of (v:=v) (o:=mA f) (by rw [<- l]; exact r f)
 exact qm4 I.kIn O (c.get f) c.hd n hu (kd5 ru) (h u _ (I.tok _) ru)
theorem kp3 {y:V} {u:Value} {Q:Unit -> Shared -> Prop} (I:Inv X pins σ H s) (e:H a = some (.ins C dx fs)) (c:Cls X.K C) (n:NoAttr X.K C f) (hl:fs.length < 1000) (ry:RelV y u)
  (h:∀ s',Inv X pins σ (upd H a (.ins C dx (putF f y fs))) s' -> Q () s'):wpAny (model X.prog X.w) A (setAttr (.ref a) f u) Q E s:=by
 refine x1_5 (jt6 I.hok e) fun mA O r wi _ ho=>?_
 have hz:(fs.map (·.1)).length <= sizeLine:=by rw [List.length_map,sizeLine_eq]; lia
 refine qr9 I.kIn O c.sa c.po n.taker c.hd wi hz fun h' O' sb=>h _ ?_
 have hd:∃ o,h'.get? dx = some o:=let ⟨o,_,_,e',_⟩:=O'.ns; ⟨o,e'⟩
 refine I.write (x:=a) (e:=dx) (by rw [e]; exact True.intro) (.inr ho) (fun b q hb z=>(sb.2 b hb).trans z) hd ?_
 refine ⟨by rw [v7 O.ne]; exact ho,?_,O.ne,O'.obj,_,O'.ns,fun g=>?_,fun g hg=>?_⟩
 ·have:=jt8 f y fs; lia
 ·show RelO ((putF f y fs).lookup g) (if g = f then some u else mA g)
  rw [js6]
  by_cases q:g = f
  ·rw [if_pos q,if_pos q]; exact ry
  ·rw [if_neg q,if_neg q]; exact r g
 ·by_cases q:g = f
  ·rw [q]; exact (jt4 f y fs).1
  ·refine (jt4 f y fs).2 g (wi g fun z=>hg ?_)
   show (if g = f then some u else mA g) = none
   rw [if_neg q]; exact z
theorem Inv.made (I:Inv X pins σ H s):Inv X pins σ (upd (upd H s.heap.objs.size (.own (s.heap.objs.size + 1))) (s.heap.objs.size + 1) (.ins C s.heap.objs.size []))
  { s with heap:=(s.heap.push PySem.W.emptyDict).push (PySem.W.instObj C s.heap.objs.size) }:=by
 have e1:(s.heap.push PySem.W.emptyDict).get? s.heap.objs.size = some PySem.W.emptyDict:=Heap.get?_push_size s.heap rfl
 have e2:((s.heap.push PySem.W.emptyDict).push (PySem.W.instObj C s.heap.objs.size)).get? (s.heap.objs.size + 1) = some (PySem.W.instObj C s.heap.objs.size):=by
  have:=Heap.get?_push_size (s.heap.push PySem.W.emptyDict) (o:=PySem.W.instObj C s.heap.objs.size) rfl
  rwa [Heap.size_push] at this
 have e3:(s.heap.push PySem.W.emptyDict).Ns s.heap.objs.size (fun _=>none):=⟨PySem.W.emptyDict,#[],_,e1,rfl,(fun e he=>absurd he (by simp)),fun _=>rfl⟩
 have I1:=I.laid (a:=s.heap.objs.size) (o:=.own (s.heap.objs.size + 1)) (h':=s.heap.push PySem.W.emptyDict) (t':=s.toks) (fun b u q=>Heap.get?_push_of_some _ q) (Nat.le_refl _) ⟨_,e1⟩
 refine I1.laid (a:=s.heap.objs.size + 1) (o:=.ins C s.heap.objs.size []) (t':=s.toks) (fun b u q=>Heap.get?_push_of_some _ q) (Nat.le_of_eq (Heap.size_push _ _)) ?_
 have ne:s.heap.objs.size ≠ s.heap.objs.size + 1:=Nat.ne_of_lt (Nat.lt_succ_self _)
 refine ⟨by rw [v7 ne,J1],Nat.zero_le _,ne,e2,fun _=>none,(Heap.Ns1.of_empty e3).at fun o q=>Heap.get?_push_of_some _ q,fun _=>True.intro,fun y hy=>absurd rfl hy⟩
theorem kx6 {prog:Program} {w:World} {env:Env} {e:Expr} {f:Str} {pos:Pos} {s:Shared} {Q:Value -> Shared -> Prop} (hb:attributeBase e f env (eval e env) = eval e env)
  (h:wpAny (model prog w) A (eval e env) (fun o s₁=>wpAny (model prog w) A (getAttr o f true) Q E s₁) E s):wpAny (model prog w) A (eval (.Attribute e f pos) env) Q E s :=
 Attribute_any_ h (by rw [arm_eval_Attribute,hb])
end
noncomputable def tFld (K:PySem.W.Frag) (ta:TE) (f:Str):TE:=fun σ H Q=>ta σ H fun x H1=>∃ a C dx fs v,x = .ref a /\ H1 a = some (.ins C dx fs) /\ Cls K C /\ NoAttr K C f /\ fs.lookup f = some v /\ Q v H1
noncomputable def sFld (K:PySem.W.Frag) (ta tv:TE) (f:Str):TS:=fun D σ H=>tv σ H fun y H1=>ta σ H1 fun x H2=>∃ a C dx fs,x = .ref a /\ H2 a = some (.ins C dx fs) /\ Cls K C /\ NoAttr K C f /\ fs.length < 1000 /\
 D.nx σ (upd H2 a (.ins C dx (putF f y fs)))
section
variable {X:Cx} {o e value:Expr} {f:Str} {pos pos' tpos:Pos} {ta tv:TE}
theorem va5 (he:PE X e ta) (hb:attributeBase e f X.env (eval e X.env) = eval e X.env):PE X (.Attribute e f pos) (tFld X.K ta f):=by
 intro pins s σ H Q I h
 refine kx6 hb (thn (he pins s σ H _ I h) fun u s1 zz116=>?_)
 obtain ⟨x,H1,I1,rx,a,C,dx,fs,v,ex,ea,c,n,l,q⟩:=zz116
 subst ex
 obtain rfl:u = Value.ref a:=rx
 exact ko1 I1 ea c n l fun u' s2 I2 ru=>⟨v,H1,I2,ru,q⟩
theorem va3 (ha:PE X o ta) (hv:PE X value tv) (hs:swapsWith value (some (.Attribute o f pos')) pos.line X.env = pure false):PS X (.Assign [.Attribute o f pos'] value pos) (sFld X.K ta tv f):=by
 intro pins s σ H D I h
 refine plainObj_wpAny_Assign_Attribute (thn (hv pins s σ H _ I h) fun u s1 zz118=>zz118.elim fun y zz119=>zz119.elim fun H1 zz120=>zz120.elim fun I1 zz121=>zz121.elim fun ry q=>thn (ha pins s1 σ H1 _ I1 q) fun ov s2 zz122=>?_) hs
 obtain ⟨x,H2,I2,rx,a,C,dx,fs,ex,ea,c,n,l,q2⟩:=zz122
 subst ex
 obtain rfl:ov = Value.ref a:=rx
 exact kp3 I2 ea c n l ry fun s3 I3=>⟨σ,_,I3,q2⟩
end
section
variable {X:Cx} {pins:List (Addr × Obj)} {σ:St} {H:Hp} {s:Shared} {A:Around} {E:Value -> Shared -> Prop} {Q:Value -> Shared -> Prop} {c:Value} {b:Bool}
end
end L2
namespace L2
open PySem PySem.Spec PyProof.Rows
structure Room (k:Nat) (A:Around):Prop where
 hd:A.handled = none
 dp:A.depth + 3 * k + 5 < recursionLimit
 un:A.units + 16 * k + 200 < cLine
theorem Room.mono {j k:Nat} {A:Around} (r:Room k A) (h:j <= k):Room j A:=⟨r.hd,by have:=r.dp; lia,by have:=r.un; lia⟩
theorem Room.deeper {k:Nat} {A:Around} (r:Room (k + 1) A) (env:Env):Room k (A.deeper env) :=
 ⟨r.hd,by have:=r.dp; show A.depth + 1 + 3 * k + 5 < _; lia,by have:=r.un; show A.units + 3 + 16 * k + 200 < _; lia⟩
theorem Room.in1 {k:Nat} {A:Around} (r:Room (k + 1) A):Room k A.in1 :=
 ⟨r.hd,by have:=r.dp; show A.depth + 3 * k + 5 < _; lia,by have:=r.un; show A.units + 1 + 16 * k + 200 < _; lia⟩
theorem kp8 {A:Around} {C:Addr} {us:List Value} {kw:List (Str × Value)}:(A.under (.builtin "type.__call__" ⟨.ref C :: us,kw⟩)).depth = A.depth + 1:=by
 first | rfl | simp [Around.under,Code.weight,Code.isCreation,Code.isGuard,Code.isCaller,Code.frames,Code.isFrame,guardIds]
theorem ko7 {A:Around} {C:Addr} {us:List Value} {kw:List (Str × Value)}:(A.under (.builtin "type.__call__" ⟨.ref C :: us,kw⟩)).units = A.units + 1:=by
 first | rfl | simp [Around.under,Code.cUnits,Code.frames,Code.isFrame]
theorem Room.make {k:Nat} {A:Around} (r:Room (k + 1) A) (C:Addr) (us:List Value) (kw:List (Str × Value)):Room k (A.under (.builtin "type.__call__" ⟨.ref C :: us,kw⟩)) :=
 ⟨r.hd,by have:=r.dp; rw [kp8]; lia,by have:=r.un; rw [ko7]; lia⟩
theorem Room.depth {k:Nat} {A:Around} (r:Room k A):A.depth < recursionLimit:=by have:=r.dp; lia
theorem Room.units {k:Nat} {A:Around} (r:Room k A):A.units + 64 < cLine:=by have:=r.un; lia
noncomputable def tNil:TA:=fun _ H Q=>Q [] H
noncomputable def kh3 (ta:TE) (tr:TA):TA:=fun σ H Q=>ta σ H fun x H1=>tr σ H1 fun xs H2=>Q (x :: xs) H2
section
variable {X:Cx} {e:Expr} {es:List Expr} {te:TE} {t:TA} {pos:Pos}
theorem jd5:PA X [] tNil:=fun _ _ _ _ H Q I h=>Calls.spliced_nil ⟨[],H,I,.nil,h⟩
theorem W7 (ha:PE X e te) (hr:PA X es t) (hs:starEach (e :: es) X.env = (false,eval e X.env) :: starEach es X.env:=by rfl):PA X (e :: es) (kh3 te t):=by
 intro pos pins s σ H Q I h
 rw [hs]
 show wpAny _ _ (spliced ((false,eval e X.env) :: backTo pos (starEach es X.env))) _ _ s
 refine Calls.spliced_cons (thn (ha pins s σ H _ I h) fun u s1 zz130=>?_)
 refine x2_3 zz130 fun x H1 I1 r1 q1=>?_
 clear zz130
 exact thn (hr pos pins s1 σ H1 _ I1 q1) fun us s2 zz131=>zz131.elim fun xs zz132=>zz132.elim fun H2 zz133=>zz133.elim fun I2 zz134=>zz134.elim fun r2 q2=>⟨x :: xs,H2,I2,.cons r1 r2,q2⟩
noncomputable def tTup (t:TA):TE:=fun σ H Q=>t σ H fun xs H1=>xs.length <= sizeLine /\ ∀ p,H1 p = none -> Q (.ref p) (upd H1 p (.tup xs))
noncomputable def tLst (t:TA):TE:=fun σ H Q=>t σ H fun xs H1=>xs.length <= sizeLine /\ ∀ p,H1 p = none -> Q (.ref p) (upd H1 p (.lst xs))
theorem vd1 {x1} (h:PA X es t):PE X (.Tuple es x1 pos) (tTup t):=by
 intro pins s σ H Q I hq
 refine wpAny_Tuple_spliced (thn (h pos pins s σ H _ I hq) fun us s1 zz135=>zz135.elim fun xs zz136=>zz136.elim fun H1 zz137=>zz137.elim fun I1 zz138=>zz138.elim fun r zz139=>zz139.elim fun z q=>⟨by rw [<- r.length]; exact z,?_⟩)
 have hf:H1 s1.heap.objs.size = none:=I1.hok.fresh (Nat.le_refl _)
 refine ⟨.ref s1.heap.objs.size,upd H1 s1.heap.objs.size (.tup xs),I1.laid (t':=s1.toks) (fun b u e=>Heap.get?_push_of_some _ e) (Nat.le_refl _) ?_,rfl,q _ hf⟩
 exact ⟨z,us,r,⟨_,Heap.get?_push_size _ rfl,rfl,_,rfl⟩⟩
theorem vc7 (h:PA X es t):PE X (.List es pos) (tLst t):=by
 intro pins s σ H Q I hq
 refine wpAny_List_spliced (thn (h pos pins s σ H _ I hq) fun us s1 zz140=>zz140.elim fun xs zz141=>zz141.elim fun H1 zz142=>zz142.elim fun I1 zz143=>zz143.elim fun r zz144=>zz144.elim fun z q=>⟨by rw [<- r.length]; exact z,?_⟩)
 have hf:H1 s1.heap.objs.size = none:=I1.hok.fresh (Nat.le_refl _)
 refine ⟨.ref s1.heap.objs.size,upd H1 s1.heap.objs.size (.lst xs),I1.laid (t':=s1.toks) (fun b u e=>Heap.get?_push_of_some _ e) (Nat.le_refl _) ?_,rfl,q _ hf⟩
 exact ⟨z,us,0,r,Heap.get?_push_size _ rfl⟩
end
noncomputable abbrev Sp:=List V -> Hp -> VK -> XK -> Prop
noncomputable abbrev CXT:=List Env -> Hp -> Shared -> XK -> Value -> Shared -> Prop
structure Env0 (P:Program) (w:World) (K:PySem.W.Frag) (mg:Str -> Option Value) (base:Heap) (A:Around) (outer:List Env) (s:Shared) (H:Hp):Prop where
 frames:A.frames = some outer
 mod:Mod K mg base
 bs:∀ b o,base.get? b = some o -> s.heap.get? b = some o /\ H b = none
 bsz:base.objs.size <= s.heap.objs.size
 funs:s.heap.FunFrames base outer
 frf:∀ b ∈ frs outer,H b = none
 hok:HOk P w H s.heap
 bare:AllBare s.gens
noncomputable def CE (outer:List Env) (P:Program) (w:World) (H:Hp) (s:Shared) (Q:VK) (u:Value) (s':Shared):Prop :=
 ∃ v H',s'.os = s.os /\ AllBare s'.gens /\ Un (frs outer) [] H H' s.heap s'.heap /\ HOk P w H' s'.heap /\ RelV v u /\ Q v H'
noncomputable def CR (CX:CXT) (outer:List Env) (P:Program) (w:World) (H:Hp) (s:Shared) (Q:VK) (E:XK) (r:Result) (s':Shared):Prop :=
 match r with
 | .ok (.ret u)=>CE outer P w H s Q u s'
 | .ok _=>False
 | .error e=>CX outer H s E e s'
structure FnOk (P:Program) (w:World) (K:PySem.W.Frag) (mg:Str -> Option Value) (base:Heap) (CX:CXT) (k:Nat) (f:Addr) (fd:FuncData) (ps:List Str) (sp:Sp):Prop where
 len:∀ vs H Q E,sp vs H Q E -> vs.length = ps.length
 run:∀ (A:Around) (outer:List Env) (s:Shared) (H:Hp) (args:Args) (us:List Value) (vs:List V) (Q:VK) (E:XK),Room k A -> Env0 P w K mg base A outer s H -> BindsTo s fd args (ps.zip us) -> Vals vs us -> sp vs H Q E ->
  codeAny (model P w) A (.call (.ref f) args) (CR CX outer P w H s Q E) s
theorem FnOk.mono {P:Program} {w:World} {K:PySem.W.Frag} {mg:Str -> Option Value} {base:Heap} {CX:CXT} {j k:Nat} {f:Addr} {fd:FuncData} {ps:List Str} {sp:Sp} (F:FnOk P w K mg base CX j f fd ps sp) (h:j <= k) :
  FnOk P w K mg base CX k f fd ps sp:=⟨F.len,fun A outer s H args us vs Q E hr=>F.run A outer s H args us vs Q E (hr.mono h)⟩
theorem FnOk.imp {P:Program} {w:World} {K:PySem.W.Frag} {mg:Str -> Option Value} {base:Heap} {CX:CXT} {k:Nat} {f:Addr} {fd:FuncData} {ps:List Str} {sp sp':Sp} (F:FnOk P w K mg base CX k f fd ps sp)
  (h:∀ vs H Q E,sp' vs H Q E -> sp vs H Q E):FnOk P w K mg base CX k f fd ps sp' :=
 ⟨fun vs H Q E q=>F.len vs H Q E (h _ _ _ _ q),fun A outer s H args us vs Q E hr he hb hv hs=>F.run A outer s H args us vs Q E hr he hb hv (h _ _ _ _ hs)⟩
theorem Env0.make {P:Program} {w:World} {K:PySem.W.Frag} {mg:Str -> Option Value} {base:Heap} {A:Around} {outer:List Env} {s:Shared} {H:Hp} (e:Env0 P w K mg base A outer s H) (C:Addr) (us:List Value) (kw:List (Str × Value)) :
  Env0 P w K mg base (A.under (.builtin "type.__call__" ⟨.ref C :: us,kw⟩)) outer s H:=⟨by first | exact e.frames | (simpa [Around.under,Code.envs,Code.isFrame,pushEnvs] using e.frames),e.mod,e.bs,e.bsz,e.funs,e.frf,e.hok,e.bare⟩
theorem Env0.in1 {P:Program} {w:World} {K:PySem.W.Frag} {mg:Str -> Option Value} {base:Heap} {A:Around} {outer:List Env} {s:Shared} {H:Hp} (e:Env0 P w K mg base A outer s H) :
  Env0 P w K mg base A.in1 outer s H:=⟨e.frames,e.mod,e.bs,e.bsz,e.funs,e.frf,e.hok,e.bare⟩
section
variable {X:Cx} {pins:List (Addr × Obj)} {σ:St} {H:Hp} {s s':Shared}
theorem Inv.env0 (I:Inv X pins σ H s):Env0 X.prog X.w X.K X.mg X.base X.A X.stack s H :=
 ⟨I.ok.frames,I.ok.mod,I.bs,Nat.le_trans I.ok.bsz I.sz,I.stack,I.stkFree,I.hok,I.bare⟩
theorem Inv.after {Q:VK} {u:Value} (I:Inv X pins σ H s) (h:CE X.stack X.prog X.w H s Q u s'):EP X pins σ Q u s':=by
 refine x2_6 h fun v H' os bare un hok r q=>?_
 clear h
 obtain ⟨hh,g,d,t,os'⟩:=s'
 obtain rfl:os' = s.os:=os
 exact ⟨v,H',I.call (h':=hh) (g':=g) (d':=d) (t':=t) (ch:=[]) un hok bare (fun b z=>absurd z (by simp)),r,q⟩
end
noncomputable def Binds (K:PySem.W.Frag) (fd:FuncData) (ps:List Str) (ds:List Value):Prop :=
 ∀ (s:Shared) (us:List Value),K.In s.heap -> (us ++ ds).length = ps.length -> BindsTo s fd ⟨us,[]⟩ (ps.zip (us ++ ds))
theorem Binds.all {K:PySem.W.Frag} {fd:FuncData} {ps:List Str} (h:∀ us:List Value,us.length = ps.length -> bindArgs fd ⟨us,[]⟩ = pure (ps.zip us)):Binds K fd ps []:=fun s us _ hl=>by
 rw [List.append_nil] at hl ⊢
 exact .of_eq (h us hl)
section
variable {X:Cx} {CX:CXT} {k:Nat} {f C:Addr} {fd:FuncData} {ps:List Str} {sp:Sp} {dvs:List V} {ds:List Value} {E:XK} {x m:Str} {p pos apos:Pos} {e o:Expr} {es:List Expr} {ta:TE} {t:TA}
structure Mk (K:PySem.W.Frag) (C f:Addr):Prop where
 makes:PySem.W.makesIn K C = true
 init:PySem.W.findIn K (.ref C) "__init__" = some (some (.ref f))
 fn:PySem.W.isFn K (.ref f) = true
 kp:PySem.W.keepIn K (.ref C) = true
end
section
variable {X:Cx} {CX:CXT} {k:Nat} {f C:Addr} {fd:FuncData} {ps ks:List Str} {sp:Sp} {E:XK} {x m:Str} {p pos apos kpos:Pos} {e o:Expr} {es:List Expr} {kws:List Keyword} {te ta:TE} {t tk:TA} {nm:Option Str}
variable {g:List Value -> List Value -> List Value} {gV:List V -> List V -> List V}
end
structure FnScope (N P:List Str) (sc:Scope):Prop where
 kind:sc.kind = .function
 co:sc.isCoroutine = false
 gen:sc.isGenerator = false
 nd:N.Nodup
 pre:N.take P.length = P
 par:∀ x ∈ P,sc.names.lookup x = some .local \/ sc.names.lookup x = some .cell
 nofree:∀ y ∈ sc.names,y.2 ≠ .free
theorem kd8 {kindOf:Str -> Option NameKind} {x:Str}:∀ {binds:List (Str × Value)} {m:Str -> Option Value},(∀ v,(x,v) ∉ binds) -> bindL kindOf binds m x = m x
 | [],_,_=>rfl
 | (n,v) :: r,m,h=>by
  unfold bindL
  rw [kd8 fun w hw=>h w (List.mem_cons_of_mem _ hw)]
  split
  ·have:x ≠ n:=by rintro rfl; exact h v List.mem_cons_self
   simp [this]
  ·rfl
theorem kd9 {kindOf:Str -> Option NameKind} {x:Str}:∀ {binds:List (Str × Value)} {m:Str -> Option Value},(∀ v,(x,v) ∉ binds) -> bindC kindOf binds m x = m x
 | [],_,_=>rfl
 | (n,v) :: r,m,h=>by
  unfold bindC
  rw [kd9 fun w hw=>h w (List.mem_cons_of_mem _ hw)]
  split
  ·rfl
  ·have:x ≠ n:=by rintro rfl; exact h v List.mem_cons_self
   simp [this]
theorem kd0 {kindOf:Str -> Option NameKind} {x:Str} {v:Value}:∀ {P:List Str} {vs:List Value} {i:Nat} {m:Str -> Option Value},P.Nodup -> P[i]? = some x -> vs[i]? = some v -> kindOf x = some .local ->
  bindL kindOf (P.zip vs) m x = some v
 | [],_,_,_,_,h,_,_=>by simp at h
 | _ :: _,[],_,_,_,_,h,_=>by simp at h
 | p :: P,w :: vs,0,m,nd,h1,h2,hk=>by
  simp at h1 h2; subst h1; subst h2
  show bindL kindOf ((p,w) :: P.zip vs) m p = _
  unfold bindL
  rw [kd8 fun v hv=>(List.nodup_cons.mp nd).1 (List.of_mem_zip hv).1,if_pos hk]
  simp
 | p :: P,w :: vs,i + 1,m,nd,h1,h2,hk=>by
  show bindL kindOf ((p,w) :: P.zip vs) m x = _
  unfold bindL
  exact kd0 (i:=i) (List.nodup_cons.mp nd).2 (by simpa using h1) (by simpa using h2) hk
theorem ke0 {kindOf:Str -> Option NameKind} {x:Str} {v:Value}:∀ {P:List Str} {vs:List Value} {i:Nat} {m:Str -> Option Value},P.Nodup -> P[i]? = some x -> vs[i]? = some v -> kindOf x ≠ some .local ->
  bindC kindOf (P.zip vs) m x = some v
 | [],_,_,_,_,h,_,_=>by simp at h
 | _ :: _,[],_,_,_,_,h,_=>by simp at h
 | p :: P,w :: vs,0,m,nd,h1,h2,hk=>by
  simp at h1 h2; subst h1; subst h2
  show bindC kindOf ((p,w) :: P.zip vs) m p = _
  unfold bindC
  rw [kd9 fun v hv=>(List.nodup_cons.mp nd).1 (List.of_mem_zip hv).1,if_neg hk]
  simp
 | p :: P,w :: vs,i + 1,m,nd,h1,h2,hk=>by
  show bindC kindOf ((p,w) :: P.zip vs) m x = _
  unfold bindC
  exact ke0 (i:=i) (List.nodup_cons.mp nd).2 (by simpa using h1) (by simpa using h2) hk
noncomputable def start (N:List Str) (vs:List V):St:=vs.map some ++ List.replicate (N.length - vs.length) none
noncomputable def cxOf (CX:CXT) (P:Program) (w:World) (K:PySem.W.Frag) (mg:Str -> Option Value) (base:Heap) (N:List Str) (qual:Str) (scope:Scope) (f:Addr) (cd:Value) (A:Around) (outer:List Env) (s:Shared) (H:Hp) (E:XK):Cx where
 prog:=P
 w:=w
 K:=K
 mg:=mg
 base:=base
 A:=A.deeper (envOfC qual scope s.heap.objs.size f cd)
 N:=N
 s₀:=s
 H₀:=H
 env:=envOfC qual scope s.heap.objs.size f cd
 outer:=outer
 stack:=envOfC qual scope s.heap.objs.size f cd :: outer
 ex:=[]
 calm:=true
 fn:=fun _=>true
 pn:=[]
 xe:=fun e s'=>wpAny (model P w) (A.deeper (envOfC qual scope s.heap.objs.size f cd)) (leaving (envOfC qual scope s.heap.objs.size f cd) e) (fun _ s''=>CX outer H s E e s'') (fun e' s''=>CX outer H s E e' s'') s'
theorem kn2 {sc:Scope} {n:Nat} {x:Str} (h:sc.names.lookup x = some .cell):∃ c,(cellsFrom n sc.names []).lookup x = some c:=by
 have q:=PySem.W.cellsFrom_some sc.names n [] (.inl h)
 exact Option.isSome_iff_exists.mp q
theorem ke5 {CX:CXT} {P:Program} {w:World} {K:PySem.W.Frag} {mg:Str -> Option Value} {base:Heap} {N ps:List Str} {qual:Str} {scope:Scope} {f:Addr} {cd:Value} {A:Around} {outer:List Env} {s s1:Shared} {H:Hp} {E:XK} {us:List Value} {vs:List V}
  (S:FnScope N ps scope) (hd:A.handled = none) (e0:Env0 P w K mg base A outer s H) (hl:vs.length = ps.length) (r:Vals vs us)
  (x:InCallC s s.heap.objs.size (bindL (envOfC qual scope s.heap.objs.size f cd).kindOf (ps.zip us) fun _=>none) (cellsFrom (s.heap.objs.size + 1) scope.names []) (bindC (envOfC qual scope s.heap.objs.size f cd).kindOf (ps.zip us) fun _=>none) s1) :
  Inv (cxOf CX P w K mg base N qual scope f cd A outer s H E) [] (start N vs) H s1:=by
 have hpl:ps.length <= N.length:=by have:=congrArg List.length S.pre; rw [List.length_take] at this; lia
 refine x2_2 x.done fun h1 tk zo2 hk=>?_
 obtain rfl:=zo2
 have noA:∀ b:Addr,b ∉ (cxOf CX P w K mg base N qual scope f cd A outer s H E).ex:=fun b z=>absurd (show b ∈ ([]:List Addr) from z) (by simp)
 refine ⟨⟨e0.mod,S.kind,rfl,rfl,Nat.le_refl _,fun y z c h1 h2=>?_,fun y hy=>?_,fun y c _ h=>?_,fun _=>hd,Around.frames_deeper e0.frames,.inr ⟨rfl,rfl⟩,fun b z=>absurd z (noA b),e0.bs,e0.bsz,fun b _ _=>noA b,fun b z=>absurd z (noA b),e0.funs,e0.frf⟩,
  rfl,e0.bare,Un.kept hk,⟨_,x.toInCall.ns,fun i y v h1 h2 h3=>?_⟩,fun y c h=>⟨_,x.cell y c h⟩,e0.hok.fresh (Nat.le_refl _),fun y c h=>?_,fun p hp=>absurd (show p ∈ ([]:List (Addr × Obj)) from hp) (by simp),e0.hok.kept hk,?_⟩
 ·exact name_of_addr x.apart (PySem.mem_of_lookup h1) (PySem.mem_of_lookup h2)
 ·have hy:scope.names.lookup y = some .cell \/ scope.names.lookup y = some .free:=hy
  rcases hy with hy | hy
  ·exact kn2 hy
  ·exact absurd rfl (S.nofree _ (PySem.mem_of_lookup hy))
 ·exact Nat.le_of_lt (x.above y c (PySem.mem_of_lookup h))
 ·have hi:i < vs.length:=by
   unfold start at h2
   by_cases hi:i < vs.length
   ·exact hi
   ·rw [List.getElem?_append_right (by simpa using hi)] at h2
    rw [List.getElem?_replicate] at h2
    split at h2 <;> cases h2
  have ha:vs[i]? = some v:=by
   unfold start at h2
   rw [List.getElem?_append_left (by simpa using hi),List.getElem?_map] at h2
   cases e:vs[i]? with
   | none=>rw [e] at h2; cases h2
   | some a=>rw [e] at h2; cases h2; rfl
  refine x1_2 (r.get ha) fun u hu rv=>?_
  have hp:ps[i]? = some y:=by
   rw [<- S.pre,List.getElem?_take_of_lt (by lia)]; exact h1
  have ndP:ps.Nodup:=by rw [<- S.pre]; exact S.nd.sublist (List.take_sublist _ _)
  refine ⟨u,rv,?_⟩
  rcases S.par y (List.mem_of_getElem? hp) with k | k
  ·exact .inl ⟨k,kd0 ndP hp hu k⟩
  ·obtain ⟨c,e⟩:=kn2 (n:=s.heap.objs.size + 1) k
   refine .inr ⟨.inl k,c,e,?_⟩
   have q:=x.cell y c e
   rw [ke0 ndP hp hu (by show scope.names.lookup y ≠ _; rw [k]; decide)] at q
   exact q
 ·exact e0.hok.fresh (Nat.le_of_lt (x.above y c (PySem.mem_of_lookup h)))
 ·unfold start
  show _ = N.length
  rw [List.length_append,List.length_map,List.length_replicate]
  lia
theorem vc1 {CX:CXT} {P:Program} {w:World} {K:PySem.W.Frag} {mg:Str -> Option Value} {base:Heap} {k:Nat} {f:Addr} {name qual:Str} {params:Arguments} {body:List Stmt} {scope:Scope} {dV kV doc pm cdv ct oc:Value} {an od:Option Addr}
  {osl:Array (Option Value)} {N ps:List Str} {sp:Sp} (lk:K.lookup f = some ⟨oc,od,.func (PySem.W.fnOf name qual params body scope dV kV doc pm an cdv ct),osl⟩) (hcd:PySem.W.codeIn K cdv qual = true) (S:FnScope N ps scope)
  (len:∀ vs H Q E,sp vs H Q E -> vs.length = ps.length)
  (hbody:∀ (A:Around) (outer:List Env) (s:Shared) (H:Hp) (vs:List V) (Q:VK) (E:XK),Room k (A.deeper (envOfC qual scope s.heap.objs.size f cdv)) -> sp vs H Q E ->
   ∃ t,PSs (cxOf CX P w K mg base N qual scope f cdv A outer s H E) body t /\ t { nx:=fun _ H'=>Q .non H',rt:=Q } (start N vs) H) :
  FnOk P w K mg base CX (k + 1) f (PySem.W.fnOf name qual params body scope dV kV doc pm an cdv ct) ps sp:=by
 refine ⟨len,fun A outer s H args us vs Q E hr e0 hb r hsp=>?_⟩
 have hl:=len _ _ _ _ hsp
 have KX:K.In s.heap:=e0.mod.kin.keeps fun b o e=>(e0.bs b o e).1
 have lim:s.heap.NoLimit:=e0.mod.nolimit.keeps fun b o e=>(e0.bs b o e).1
 have hkind:∀ y ∈ ps.zip us,scope.names.lookup y.1 = some .local \/ (scope.names.lookup y.1 = some .cell /\ ((cellsFrom (s.heap.objs.size + 1) scope.names []).lookup y.1).isSome = true):=fun zz172 hy=>by
  obtain ⟨n,v⟩:=zz172
  rcases S.par n (List.of_mem_zip hy).1 with q | q
  ·exact .inl q
  ·exact .inr ⟨q,PySem.W.cellsFrom_some _ _ _ (.inl q)⟩
 refine codeAny_call_function hr.depth (KX _ _ lk) rfl S.co S.gen rfl (PySem.W.codeRec_of KX hcd) (hb _ _ _ _ ?_)
 refine wpAny_newFunctionEnv_cells S.kind hkind fun env he s1 x=>?_
 subst he
 refine ⟨lim.keeps x.toInCall.keep,codeAny_func ?_⟩
 refine x1_2 (hbody A outer s H vs Q E (hr.deeper _) hsp) fun t ht hq=>?_
 have I:Inv (cxOf CX P w K mg base N qual scope f cdv A outer s H E) [] (start N vs) H s1:=ke5 S hr.hd e0 hl r x
 refine wpAny_mono (ht [] s1 (start N vs) H _ I hq) (fun fl s' hs=>?_) fun e s' hs=>hs
 have fin:∀ {σ':St} {H':Hp} {v:V} {u:Value},Inv (cxOf CX P w K mg base N qual scope f cdv A outer s H E) [] σ' H' s' -> RelV v u -> Q v H' -> CE outer P w H s Q u s' :=
  fun {σ' H' v u} J rv q=>⟨v,H',J.os,J.bare,J.base,J.hok,rv,q⟩
 cases fl with
 | ret u =>
  refine x3_3 hs fun v σ' H' J rv q=>?_
  clear hs
  exact fin J rv q
 | next =>
  refine x2_2 hs fun σ' H' J q=>?_
  clear hs
  exact fin (v:=V.non) (u:=Value.none) J rfl q
 | brk =>
  refine x2_2 hs fun _ _ _ q=>?_
  clear hs
  exact False.elim q
 | cont =>
  refine x2_2 hs fun _ _ _ q=>?_
  clear hs
  exact False.elim q
end L2
namespace L2
open PySem PySem.Spec PyProof.Rows
section
variable {X:Cx} {x:Str} {p pos:Pos} {e:Expr} {es:List Expr} {t:TA} {id T:String} {r:List V -> Hp -> VK -> Prop}
noncomputable def tCB (r:List V -> Hp -> VK -> Prop) (t:TA):TE:=fun σ H Q=>t σ H fun vs H1=>r vs H1 Q
theorem J5 (hc:CallR X (.builtin id) r) (hg:Gl X x) (hm:X.mg x = none) (hv:bootBuiltins x = some (.builtin id)) (ha:PA X (e :: es) t) (hn:x ≠ "__name__":=by decide) (hdb:(x == ("__debug__" : Str)) = false:=by decide)
  (he:starEach (e :: es) X.env = (false,eval e X.env) :: starEach es X.env:=by rfl) (hpl:(backTo pos (starEach es X.env)).any (·.1) = false:=by rfl):PE X (.Call (.Name x p) (e :: es) [] pos) (tCB r t):=by
 intro pins s σ H Q I h
 refine wpAny_Call_Name_kw (kc3 I hg hm hv ?_ hn hdb)
 exact PyProof.Rows.callWith_builtin1 (thn (ha pos pins s σ H _ I h) fun us s1 zz173=>zz173.elim fun vs zz174=>zz174.elim fun H1 zz175=>zz175.elim fun I1 zz176=>zz176.elim fun r1 q1=>hc pins s1 σ H1 vs us Q I1 r1 q1) he hpl
theorem ja5 (hc:CallR X (.type T) r) (hg:Gl X x) (hm:X.mg x = none) (hv:bootBuiltins x = some (.type T)) (ha:PA X (e :: es) t) (hn:x ≠ "__name__":=by decide) (hdb:(x == ("__debug__" : Str)) = false:=by decide)
  (he:starEach (e :: es) X.env = (false,eval e X.env) :: starEach es X.env:=by rfl) (hpl:(backTo pos (starEach es X.env)).any (·.1) = false:=by rfl):PE X (.Call (.Name x p) (e :: es) [] pos) (tCB r t):=by
 intro pins s σ H Q I h
 refine wpAny_Call_Name_kw (kc3 I hg hm hv ?_ hn hdb)
 exact PyProof.Rows.callWith_type1 (thn (ha pos pins s σ H _ I h) fun us s1 zz177=>zz177.elim fun vs zz178=>zz178.elim fun H1 zz179=>zz179.elim fun I1 zz180=>zz180.elim fun r1 q1=>hc pins s1 σ H1 vs us Q I1 r1 q1) he hpl
end
end L2
namespace HT
open PySem PyProof.Rows
noncomputable def U7:List Int -> List Int -> Bool
 | [],[]=>false
 | [],_ :: _=>true
 | _ :: _,[]=>false
 | x :: xs,y :: ys=>if x = y then U7 xs ys else decide (x < y)
theorem U6 (x y:Int) (xs ys:List Int):U7 (x :: xs) (y :: ys) = if x = y then U7 xs ys else decide (x < y):=rfl
theorem jd0:U7 [] [] = false:=rfl
theorem jk6 (y:Int) (ys:List Int):U7 [] (y :: ys) = true:=rfl
theorem jf2 (x:Int) (xs:List Int):U7 (x :: xs) [] = false:=rfl
theorem qj2 (A:Around) (s:Shared) (a:Int) (t:Tok) (c:Int) (u:Tok) (prog:Program) (w:World) (E:Value -> Shared -> Prop) (Q:Value -> Shared -> Prop) (h:Q (.bool (decide (a < c))) s) :
  wpAny (model prog w) A (richCompare .Lt (.int a t) (.int c u)) Q E s :=
 (PyProof.Rows.lt_int h:wpAny (model prog w) A (compareOp .Lt (.int a t) (.int c u)) Q E s)
section
open PySem.SeqAt
open PySem.AutoSeq1 (wpAny_loadPart')
open PySem.MeetsSeq PySem.MeetsSeq2 PySem.MeetsSeq3
end
section
variable {prog:Program} {w:World} {A:Around} {E:Value -> Shared -> Prop} {s:Shared}
noncomputable def sIx (n d:Nat):Option Int -> Nat
 | none=>d
 | some v=>if v < 0 then (v + (n:Int)).toNat else min v.toNat n
end
end HT
namespace L2
open PySem PySem.Spec PyProof.Rows
noncomputable abbrev TO:=St -> Hp -> (Option Int -> Hp -> Prop) -> Prop
noncomputable def PO (X:Cx) (e:Option Expr) (t:TO):Prop :=
 ∀ (pins:List (Addr × Obj)) (s:Shared) (σ:St) (H:Hp) (Q:Option Int -> Hp -> Prop),Inv X pins σ H s -> t σ H Q ->
  wpAny (model X.prog X.w) X.A (evalPart e X.env) (fun u s'=>∃ o H',Inv X pins σ H' s' /\ IsPart u o /\ Q o H') X.xe s
noncomputable def qq5:TO:=fun _ H Q=>Q none H
noncomputable def ve8 (t:TE):TO:=fun σ H Q=>t σ H fun x H1=>∃ i,x = .int i /\ Q (some i) H1
section
variable {X:Cx} {e:Expr} {te:TE} {lo hi:Option Expr} {tl th:TO} {pos p2:Pos}
theorem qn5:PO X none qq5:=by
 intro pins s σ H Q I h
 rw [evalPart_none]
 exact wpAny_pure ⟨none,H,I,.none,h⟩
theorem qp2 (h:PE X e te):PO X (some e) (ve8 te):=by
 intro pins s σ H Q I hw
 rw [evalPart_some]
 refine thn (h pins s σ H _ I hw) fun u s1 zz181=>?_
 refine x2_3 zz181 fun x H1 I1 r1 q1=>?_
 clear zz181
 refine x1_2 q1 fun i zo1 q=>?_
 clear q1
 obtain rfl:=zo1
 obtain ⟨t,rfl⟩:=r1
 exact ⟨some i,H1,I1,.int i t,q⟩
noncomputable def SlR (X:Cx) (r:V -> Option Int -> Option Int -> Hp -> VK -> Prop):Prop :=
 ∀ (pins:List (Addr × Obj)) (s:Shared) (σ:St) (H:Hp) (x:V) (v vl vu:Value) (lo hi:Option Int) (sl:Addr) (Q:VK),Inv X pins σ H s -> RelV x v -> s.heap.IsSliceOf sl vl vu .none -> IsPart vl lo -> IsPart vu hi -> r x lo hi H Q ->
  ∃ T id,typeLookup (.type T) "__getitem__" = pure (some (.builtin id)) /\ s.TypeIs v T /\ wpAny (model X.prog X.w) X.A (getItem v (.ref sl)) (EP X pins σ Q) X.xe s
theorem SlR.or {r r':V -> Option Int -> Option Int -> Hp -> VK -> Prop} (h:SlR X r) (h':SlR X r'):SlR X (fun x lo hi H Q=>r x lo hi H Q \/ r' x lo hi H Q):=by
 intro pins s σ H x v vl vu lo hi sl Q I rx hs pl pu q
 rcases q with q | q
 ·exact h pins s σ H x v vl vu lo hi sl Q I rx hs pl pu q
 ·exact h' pins s σ H x v vl vu lo hi sl Q I rx hs pl pu q
noncomputable def tSl (r:V -> Option Int -> Option Int -> Hp -> VK -> Prop) (te:TE) (tl th:TO):TE:=fun σ H Q=>te σ H fun x H1=>tl σ H1 fun l H2=>th σ H2 fun u H3=>r x l u H3 Q
theorem qd7 {r:V -> Option Int -> Option Int -> Hp -> VK -> Prop} (hr:SlR X r) (he:PE X e te) (hl:PO X lo tl) (hu:PO X hi th):PE X (.Subscript e (.Slice lo hi none p2) pos) (tSl r te tl th):=by
 intro pins s σ H Q I h
 refine Subscript_ (thn (he pins s σ H _ I h) fun v s1 zz182=>?_)
 refine x2_3 zz182 fun x H1 I1 r1 q1=>?_
 clear zz182
 refine wpAny_Slice (thn (hl pins s1 σ H1 _ I1 q1) fun vl s2 zz183=>zz183.elim fun l zz184=>zz184.elim fun H2 zz185=>zz185.elim fun I2 zz186=>zz186.elim fun pl q2=>thn (hu pins s2 σ H2 _ I2 q2) fun vu s3 zz187=>?_)
 refine x2_3 zz187 fun u H3 I3 pu q3=>?_
 clear zz187
 rw [evalPart_none]
 refine wpAny_pure ?_
 have I4:Inv X pins σ H3 { s3 with heap:=s3.heap.push { cls:=.type "slice",data:=.fields #[vl,vu,.none] } }:=I3.kept (t':=s3.toks) fun b ob q=>Heap.get?_push_of_some _ q
 refine x2_3 (hr pins { s3 with heap:=s3.heap.push { cls:=.type "slice",data:=.fields #[vl,vu,.none] } } σ H3 x v vl vu l u s3.heap.objs.size Q I4 r1 (Heap.IsSliceOf.new ..) pl pu q3) fun T id hT ht hg=>?_
 show wpAny (model X.prog X.w) X.A (subscriptTail e (.Slice lo hi none p2) v (.ref s3.heap.objs.size)) (EP X pins σ Q) X.xe { s3 with heap:=s3.heap.push { cls:=.type "slice",data:=.fields #[vl,vu,.none] } }
 exact tail_any (ops:=[.ref s3.heap.objs.size,v]) ht hT hg (by with_unfolding_all rfl)
noncomputable def cutV (xs:List V) (lo hi:Option Int):List V:=(xs.drop (HT.sIx xs.length 0 lo)).take (HT.sIx xs.length xs.length hi - HT.sIx xs.length 0 lo)
theorem kg2 (xs:List V) (lo hi:Option Int):(cutV xs lo hi).length <= xs.length:=by
 unfold cutV
 rw [List.length_take,List.length_drop]
 lia
end
end L2
namespace L2
open PySem PySem.Spec PyProof.Rows
noncomputable def ixN (n:Nat) (i:Int):Option Nat:=if 0 <= i then (if i < n then some i.toNat else none) else if -(n:Int) <= i then some (i + n).toNat else none
noncomputable def atI {α:Type} (xs:List α) (i:Int):Option α:=(ixN xs.length i).bind fun j=>xs[j]?
theorem qp4 {n:Nat} {i:Int} {j:Nat} (h:ixN n i = some j):seqIndex? i n = some j /\ j < n /\ -(n:Int) <= i /\ i < n:=by
 unfold ixN at h
 by_cases h0:0 <= i
 ·rw [if_pos h0] at h
  by_cases h1:i < n
  ·rw [if_pos h1] at h
   have e:i.toNat = j:=Option.some.inj h
   exact ⟨by rw [seqIndex_of h0 h1,e],by lia,by lia,h1⟩
  ·rw [if_neg h1] at h; cases h
 ·rw [if_neg h0] at h
  by_cases h1 : -(n:Int) <= i
  ·rw [if_pos h1] at h
   have e:(i + n).toNat = j:=Option.some.inj h
   exact ⟨by rw [seqIndex_neg (by lia) h1,e],by lia,h1,by lia⟩
  ·rw [if_neg h1] at h; cases h
theorem kv5 {α:Type} {xs:List α} {i:Int} {v:α} (h:atI xs i = some v):∃ j,seqIndex? i xs.length = some j /\ xs[j]? = some v /\ j < xs.length /\ -(xs.length:Int) <= i /\ i < xs.length:=by
 unfold atI at h
 cases e:ixN xs.length i with
 | none=>rw [e] at h; cases h
 | some j =>
  rw [e] at h
  refine x0_4 (qp4 e) fun h1 h2 h3 h4=>?_
  exact ⟨j,h1,h,h2,h3,h4⟩
noncomputable def kh6 (b:Expr):Prop:=∀ o i,subscripted b false o i = operate [o,i] (getItem o i)
noncomputable def IxR (X:Cx) (r:R2):Prop :=
 ∀ (value slice:Expr) (pins:List (Addr × Obj)) (s:Shared) (σ:St) (H:Hp) (x y:V) (v u:Value) (Q:VK),Inv X pins σ H s -> RelV x v -> RelV y u -> r x y H Q ->
  subscripted slice false v u = operate [v,u] (getItem v u) -> wpAny (model X.prog X.w) X.A (subscriptTail value slice v u) (EP X pins σ Q) X.xe s
noncomputable def MtR (X:Cx) (id:String) (r:V -> List V -> Hp -> VK -> Prop):Prop :=
 ∀ (pins:List (Addr × Obj)) (s:Shared) (σ:St) (H:Hp) (x:V) (xs:List V) (v:Value) (us:List Value) (Q:VK),Inv X pins σ H s -> RelV x v -> Vals xs us -> r x xs H Q ->
  wpAny (model X.prog X.w) X.A (call (.builtin id) (v :: us)) (EP X pins σ Q) X.xe s
section
variable {X:Cx} {a b:Expr} {ta tb:TE} {pos:Pos}
theorem IxR.or {r r':R2} (h:IxR X r) (h':IxR X r'):IxR X (fun x y H Q=>r x y H Q \/ r' x y H Q):=by
 intro value slice pins s σ H x y v u Q I rx ry q hs
 rcases q with q | q
 ·exact h value slice pins s σ H x y v u Q I rx ry q hs
 ·exact h' value slice pins s σ H x y v u Q I rx ry q hs
theorem MtR.or {id:String} {r r':V -> List V -> Hp -> VK -> Prop} (h:MtR X id r) (h':MtR X id r'):MtR X id (fun x xs H Q=>r x xs H Q \/ r' x xs H Q):=by
 intro pins s σ H x xs v us Q I rx rs q
 rcases q with q | q
 ·exact h pins s σ H x xs v us Q I rx rs q
 ·exact h' pins s σ H x xs v us Q I rx rs q
theorem vh4 {r:R2} (hr:IxR X r) (ha:PE X a ta) (hb:PE X b tb) (hs:kh6 b):PE X (.Subscript a b pos) (tOp r ta tb):=by
 intro pins s σ H Q I h
 exact Subscript_ (binT ha hb I h fun v u s2 x y H2 I2 rx ry q=>hr a b pins s2 σ H2 x y v u Q I2 rx ry q (hs _ _))
noncomputable def rIxL (K:PySem.W.Frag):R2:=fun x y H Q=>∃ p xs i v,x = .ref p /\ y = .int i /\ SqL K H p xs /\ atI xs i = some v /\ Q v H
noncomputable def rIxT (K:PySem.W.Frag):R2:=fun x y H Q=>∃ p xs i v,x = .ref p /\ y = .int i /\ SqT K H p xs /\ atI xs i = some v /\ Q v H
theorem qs7:IxR X (rIxL X.K):=by
 intro value slice pins s σ H x y v u Q I rx ry h hs
 refine x4_5 h fun p xs i z zo4 zo5 hq he q=>?_
 clear h
 obtain rfl:=zo4
 obtain rfl:=zo5
 cases rx
 obtain ⟨t,rfl⟩:=ry
 refine x1_3 (I.list hq) fun its r pl hz=>?_
 refine x1_5 (kv5 he) fun j h1 h2 h3 h4 h5=>?_
 refine x1_2 (r.get h2) fun w ew rw'=>?_
 have hl:=r.length
 have hn:=kw8
 have fin:EP X pins σ Q w s:=⟨z,H,I,rw',q⟩
 by_cases h0:0 <= i
 ·have hj:i.toNat = j:=by
   rw [seqIndex_of h0 h5] at h1
   exact Option.some.inj h1
  exact item_listR pl.isList h0 (by lia) (by rw [hj]; simpa using ew) fin hs
 ·have hj:(i + (its.toArray.size:Int)).toNat = j:=by
   rw [seqIndex_neg (by lia) h4] at h1
   rw [List.size_toArray,<- hl]
   exact Option.some.inj h1
  exact subscriptTail_builtinR (x:=w) pl.isList.typeIs slot_list_getitem.lookup
   (wpAny_getItem_list_neg (Q:=fun r s'=>r = w /\ EP X pins σ Q r s') pl.isList (by lia) (by rw [List.size_toArray] <;> lia) (by lia) (by rw [hj]; simpa using ew) ⟨rfl,fin⟩) hs
theorem qy3:IxR X (rIxT X.K):=by
 intro value slice pins s σ H x y v u Q I rx ry h hs
 refine x4_5 h fun p xs i z zo4 zo5 hq he q=>?_
 clear h
 obtain rfl:=zo4
 obtain rfl:=zo5
 cases rx
 obtain ⟨t,rfl⟩:=ry
 refine x1_3 (I.tuple hq) fun its r pl hz=>?_
 refine x1_5 (kv5 he) fun j h1 h2 h3 h4 h5=>?_
 refine x1_2 (r.get h2) fun w ew rw'=>?_
 have hl:=r.length
 have hn:=kw8
 have fin:EP X pins σ Q w s:=⟨z,H,I,rw',q⟩
 exact subscriptTail_builtinR (x:=w) pl.typeIs slot_tuple_getitem.lookup
  (getItem_tuple (j:=j) (Q:=fun r s'=>r = w /\ EP X pins σ Q r s') pl (by lia) (by lia) (by rw [List.size_toArray,<- hl]; exact h1) (by simpa using ew) ⟨rfl,fin⟩) hs
theorem Inv.lst {pins:List (Addr × Obj)} {σ:St} {H:Hp} {s:Shared} {p:Addr} {xs:List V} (I:Inv X pins σ H s) (h:H p = some (.lst xs)) :
  ∃ (its:List Value) (n:Nat),Vals xs its /\ s.heap.get? p = some { cls:=.type "list",data:=.seq its.toArray n } /\ xs.length <= sizeLine:=by
 obtain ⟨z,its,n,r,e⟩:=I.hok p _ h
 exact ⟨its,n,r,e,z⟩
theorem ke1 (lo hi:Option Int) (n:Nat):(sliceBounds lo hi none n).1 = ((HT.sIx n 0 lo:Nat):Int) /\ (sliceBounds lo hi none n).2.1 = ((HT.sIx n n hi:Nat):Int) /\ (sliceBounds lo hi none n).2.2 = 1:=by
 refine ⟨?_,?_,rfl⟩
 ·cases lo with
  | none=>simp [sliceBounds,HT.sIx]
  | some i =>
   simp only [sliceBounds,HT.sIx,Option.getD_none,show (1:Int) > 0 by decide,if_true]
   by_cases h:i < 0
   ·simp only [h,if_true] <;> lia
   ·simp only [h,if_false] <;> lia
 ·cases hi with
  | none=>simp [sliceBounds,HT.sIx]
  | some i =>
   simp only [sliceBounds,HT.sIx,Option.getD_none,show (1:Int) > 0 by decide,if_true]
   by_cases h:i < 0
   ·simp only [h,if_true] <;> lia
   ·simp only [h,if_false] <;> lia
theorem kb5 (its:List Value) (lo hi:Option Int):slicePick its.toArray lo hi none = ((its.drop (HT.sIx its.length 0 lo)).take (HT.sIx its.length its.length hi - HT.sIx its.length 0 lo)).toArray:=by
 refine x0_3 (ke1 lo hi its.toArray.size) fun h1 h2 h3=>?_
 unfold slicePick
 rw [h1,h2,h3]
 simp only [sliceRange_one,pick_run,List.size_toArray] <;> rfl
noncomputable def rSlL (K:PySem.W.Frag):V -> Option Int -> Option Int -> Hp -> VK -> Prop:=fun x lo hi H Q=>∃ a xs,x = .ref a /\ SqL K H a xs /\ ∀ p,H p = none -> Q (.ref p) (upd H p (.lst (cutV xs lo hi)))
theorem qt7:SlR X (rSlL X.K):=by
 intro pins s σ H x v vl vu lo hi sl Q I rx hs pl pu h
 refine x2_3 h fun a xs zo2 hx q=>?_
 clear h
 obtain rfl:=zo2
 cases rx
 refine x1_3 (I.list hx) fun its r ht hz=>?_
 have hlen:=r.length
 refine ⟨"list",_,slot_list_getitem.lookup,ht.isList.typeIs,?_⟩
 refine wpAny_getItem_list_slice ht.isList hs pl pu .none (by simp) ?_ (by rw [List.size_toArray] <;> lia)
 rw [kb5,<- hlen]
 refine ⟨.ref s.heap.objs.size,_,I.laid (t':=s.toks) (o:=.lst (cutV xs lo hi)) (fun b ob q=>Heap.get?_push_of_some _ q) (Nat.le_refl _) ?_,rfl,q _ (I.hok.fresh (Nat.le_refl _))⟩
 exact ⟨Nat.le_trans (kg2 xs lo hi) hz,_,0,(r.drop (HT.sIx xs.length 0 lo)).take (HT.sIx xs.length xs.length hi - HT.sIx xs.length 0 lo),Heap.get?_push_size _ rfl⟩
theorem J7:CallR X (.builtin "len") (fun xs H Q=>∃ p ys,xs = [.ref p] /\ (SqL X.K H p ys \/ SqT X.K H p ys) /\ Q (.int ys.length) H):=by
 intro pins s σ H xs us Q I r h
 refine x2_3 h fun p ys zo2 hq q=>?_
 clear h
 obtain rfl:=zo2
 refine x1_2 (jz5 r) fun u zo1 rx=>?_
 obtain rfl:=zo1
 cases rx
 have hn:=kw8
 rcases hq with hq | hq
 ·refine x1_3 (I.list hq) fun its r' pl hz=>?_
  have hlen:=r'.length
  exact Calls.call_len_list pl.isList (by simp only [List.size_toArray] <;> lia) ⟨.int ys.length,H,I.tok _,⟨s.toks + 1,by rw [List.size_toArray,hlen]⟩,q⟩
 ·refine x1_3 (I.tuple hq) fun its r' pl hz=>?_
  have hlen:=r'.length
  exact len_tuple pl (by simp only [List.size_toArray] <;> lia) ⟨.int ys.length,H,I.tok _,⟨s.toks + 1,by rw [List.size_toArray,hlen]⟩,q⟩
theorem CallR.or {f:Value} {r r':List V -> Hp -> VK -> Prop} (h:CallR X f r) (h':CallR X f r'):CallR X f (fun xs H Q=>r xs H Q \/ r' xs H Q):=by
 intro pins s σ H xs us Q I rs q
 rcases q with q | q
 ·exact h pins s σ H xs us Q I rs q
 ·exact h' pins s σ H xs us Q I rs q
theorem W9:CallR X (.type "list") (fun xs H Q=>∃ p ys,xs = [.ref p] /\ (SqL X.K H p ys \/ SqT X.K H p ys) /\ ∀ l,H l = none -> Q (.ref l) (upd H l (.lst ys))):=by
 intro pins s σ H xs us Q I r h
 refine x2_3 h fun p ys zo2 hq q=>?_
 clear h
 obtain rfl:=zo2
 refine x1_2 (jz5 r) fun u zo1 rx=>?_
 obtain rfl:=zo1
 cases rx
 have fin:∀ (its:List Value),Vals ys its -> ys.length <= sizeLine -> ∀ (h':Heap) (c':Nat),(∀ b o',s.heap.get? b = some o' -> h'.get? b = some o') ->
   h'.get? s.heap.objs.size = some { cls:=.type "list",dict:=none,data:=.seq its.toArray c',slots:=#[] } -> EP X pins σ Q (.ref s.heap.objs.size) { s with heap:=h' }:=fun its r' hz h' c' kp e =>
  ⟨.ref s.heap.objs.size,_,I.laid (t':=s.toks) kp (Nat.le_refl _) (show ObjOk X.prog X.w _ h' _ (.lst ys) from ⟨hz,its,c',r',e⟩),rfl,q _ (I.hok.fresh (Nat.le_refl _))⟩
 rcases hq with hq | hq
 ·refine x1_3 (I.list hq) fun its r' pl hz=>?_
  have hlen:=r'.length
  obtain ⟨o,ho,hc,n,hd⟩:=pl.isList
  exact call_list_seq p (.inl rfl) ho hc hd (fun h' c' kp e=>fin its r' hz h' c' kp e) (by simp only [List.size_toArray] <;> lia)
 ·refine x1_3 (I.tuple hq) fun its r' pl hz=>?_
  have hlen:=r'.length
  obtain ⟨o,ho,hc,n,hd⟩:=pl
  exact call_list_seq p (.inr rfl) ho hc hd (fun h' c' kp e=>fin its r' hz h' c' kp e) (by simp only [List.size_toArray] <;> lia)
noncomputable def tyV (K:PySem.W.Frag) (T:String) (x:V) (H:Hp):Prop:=match x with
 | .str _=>T = "str"
 | .int _=>T = "int"
 | .ref p=>(T = "list" /\ ∃ xs,SqL K H p xs) \/ (T = "tuple" /\ ∃ o,K.lookup p = some o /\ o.cls = .type "tuple" /\ o.dict = none) \/
   (T = "dict" /\ ((∃ kvs,H p = some (.dK kvs)) \/ ∃ kvs,H p = some (.dT kvs))) \/ (T = "set" /\ ∃ S n,H p = some (.set S n))
 | _=>False
theorem vb5 {pins:List (Addr × Obj)} {σ:St} {H:Hp} {s:Shared} {T:String} {x:V} {v:Value} (I:Inv X pins σ H s) (r:RelV x v) (ty:tyV X.K T x H) :
  s.TypeIs v T /\ ∀ a,v = .ref a -> ∃ ob,s.heap.get? a = some ob /\ ob.dict = none:=by
 cases x with
 | str z =>
  obtain ⟨t,rfl⟩:=r
  cases (show T = "str" from ty)
  exact ⟨typeIs_str s z t,fun _ e=>nomatch e⟩
 | int i =>
  obtain ⟨t,rfl⟩:=r
  cases (show T = "int" from ty)
  exact ⟨typeIs_int s i t,fun _ e=>nomatch e⟩
 | ref p =>
  cases r
  rcases ty with ⟨rfl,xs,hq⟩ | ⟨rfl,o,hk,hc,hd⟩ | ⟨rfl,hk⟩ | ⟨rfl,S,n,hk⟩
  ·refine x1_3 (I.list hq) fun its _ pl _=>?_
   refine ⟨pl.isList.typeIs,fun a e=>?_⟩
   cases e
   refine x2_4 pl fun o n e c hd _=>?_
   clear pl
   exact ⟨o,e,hd⟩
  ·refine ⟨⟨o,I.kIn p o hk,hc⟩,fun a e=>?_⟩
   cases e
   exact ⟨o,I.kIn _ o hk,hd⟩
  ·have z:∃ o,s.heap.get? p = some o /\ o.ExactDict:=by
    rcases hk with ⟨kvs,hk⟩ | ⟨kvs,hk⟩
    ·obtain ⟨_,_,_,_,o,_,_,e,ex,_⟩:=I.hok p _ hk
     exact ⟨o,e,ex⟩
    ·obtain ⟨_,_,_,_,o,_,_,e,ex,_⟩:=I.hok p _ hk
     exact ⟨o,e,ex⟩
   refine x1_2 z fun o e ex=>?_
   clear z
   refine ⟨⟨o,e,ex.1⟩,fun a e2=>?_⟩
   cases e2
   exact ⟨o,e,ex.2.1⟩
  ·refine x4_3 (I.hok p _ hk) fun o _ _ _ e ex _=>?_
   refine ⟨⟨o,e,ex.1⟩,fun a e2=>?_⟩
   cases e2
   exact ⟨o,e,ex.2.1⟩
 | _=>exact False.elim ty
noncomputable def tBM (K:PySem.W.Frag) (T:String) (r:V -> List V -> Hp -> VK -> Prop) (to:TE) (t:TA):TE:=fun σ H Q=>to σ H fun x H1=>tyV K T x H1 /\ t σ H1 fun xs H2=>r x xs H2 Q
variable {o e:Expr} {es:List Expr} {to:TE} {t:TA} {name:Str} {apos cpos:Pos} {T id:String} {r:V -> List V -> Hp -> VK -> Prop}
theorem kp2 (pa:PlainAttrs T) (slot:Slot T name id) (hty:typeOf (.builtin id) = pure (.type "method_descriptor")) (hm:MtR X id r) (ho:PE X o to) (ha:PA X (e :: es) t)
  (hbase:attributeBase o name X.env (eval o X.env) = eval o X.env:=by rfl)
  (hfew:((backTo cpos (starEach (e :: es) X.env)).all (fun x=>!x.1) && (backToKw cpos (keywordEach [] X.env)).all (fun x=>x.1.isSome)
   && decide ((e :: es).length + ([]:List Keyword).length + (if ([]:List Keyword).isEmpty then 0 else 1) < 30)) = true:=by rfl)
  (hline:(apos.endLine == cpos.line) = true:=by rfl) (hs:starEach (e :: es) X.env = (false,eval e X.env) :: starEach es X.env:=by rfl) (hplain:(backTo cpos (starEach es X.env)).any (·.1) = false:=by rfl) :
  PE X (.Call (.Attribute o name apos) (e :: es) [] cpos) (tBM X.K T r to t):=by
 intro pins s σ H Q I h
 refine wpAny_Call_method_late hbase hfew hline rfl (thn (ho pins s σ H _ I h) fun v s1 zz189=>?_)
 refine x2_4 zz189 fun x H1 I1 r1 ty q1=>?_
 clear zz189
 obtain ⟨h1,h2⟩:=vb5 I1 r1 ty
 refine ⟨T,id,pa,slot,hty,h1,h2,?_⟩
 have hA:=ha cpos pins s1 σ H1 _ I1 q1
 rw [hs] at hA ⊢
 refine Calls.callWith_builtin (by show (false || (backTo cpos (starEach es X.env)).any (·.1)) = false; rw [hplain] <;> rfl) (Calls.evalArgs_plain ?_)
 exact thn hA fun us s2 zz190=>zz190.elim fun vs zz191=>zz191.elim fun H2 zz192=>zz192.elim fun I2 zz193=>zz193.elim fun r2 q2=>hm pins s2 σ H2 x vs v us Q I2 r1 r2 q2
end
end L2
namespace L2
open PySem PySem.Spec PyProof.Rows
noncomputable def MtM (X:Cx) (id:String) (r:V -> List V -> Hp -> VK -> Prop):Prop :=
 ∀ (pins:List (Addr × Obj)) (s:Shared) (σ:St) (H:Hp) (x:V) (xs:List V) (v:Value) (us:List Value) (Q:VK),Inv X pins σ H s -> RelV x v -> Vals xs us -> r x xs H Q ->
  wpAny (model X.prog X.w) X.A (call (.builtin id) (v :: us)) (EP X pins σ Q) X.xe s
theorem Vals.inv {x:V} {xs:List V} {us:List Value} (h:Vals (x :: xs) us):∃ u vs,us = u :: vs /\ RelV x u /\ Vals xs vs:=by
 cases h with
 | cons r t=>exact ⟨_,_,rfl,r,t⟩
theorem Vals.zero {us:List Value} (h:Vals [] us):us = []:=by
 cases h
 rfl
theorem Vals.one {x:V} {us:List Value} (h:Vals [x] us):∃ u,us = [u] /\ RelV x u:=by
 refine x2_3 h.inv fun u vs zo2 r t=>?_
 obtain rfl:=zo2
 obtain rfl:=t.zero
 exact ⟨u,rfl,r⟩
theorem Vals.two {x y:V} {us:List Value} (h:Vals [x,y] us):∃ u v,us = [u,v] /\ RelV x u /\ RelV y v:=by
 refine x2_3 h.inv fun u vs zo2 r t=>?_
 obtain rfl:=zo2
 refine x1_2 t.one fun v zo1 q=>?_
 obtain rfl:=zo1
 exact ⟨u,v,rfl,r,q⟩
theorem Vals.eraseIdx:∀ {xs:List V} {us:List Value} (i:Nat),Vals xs us -> Vals (xs.eraseIdx i) (us.eraseIdx i)
 | _,_,_,.nil=>.nil
 | _,_,0,.cons _ t=>t
 | _,_,i + 1,.cons r t=>.cons r (Vals.eraseIdx i t)
theorem Vals.reverse {xs:List V} {us:List Value} (h:Vals xs us):Vals xs.reverse us.reverse:=by
 induction h with
 | nil=>exact .nil
 | cons r t ih=>rw [List.reverse_cons,List.reverse_cons]; exact Vals.append ih (.cons r .nil)
theorem Vals.rep {xs:List V} {us:List Value} (h:Vals xs us):∀ k:Nat,Vals (List.replicate k xs).flatten (List.replicate k us).flatten
 | 0=>.nil
 | k + 1=>by
  rw [List.replicate_succ,List.replicate_succ,List.flatten_cons,List.flatten_cons]
  exact Vals.append h (Vals.rep h k)
section
variable {X:Cx} {pins:List (Addr × Obj)} {σ:St} {H:Hp} {s:Shared} {l b:Addr} {xs ys zs:List V}
theorem Inv.lset {its its':List Value} {n:Nat} {f:Array Value -> Array Value} {t':Nat} (I:Inv X pins σ H s) (hH:H l = some (.lst xs))
  (e:s.heap.get? l = some { cls:=.type "list",data:=.seq its.toArray n }) (hf:f its.toArray = its'.toArray) (hv:Vals ys its') (hz:ys.length <= sizeLine) :
  Inv X pins σ (upd H l (.lst ys)) { s with heap:=s.heap.update l (Obj.mapSeq f),toks:=t' }:=by
 have q:=PySem.IsL.update e f
 rw [hf] at q
 refine I.write (x:=l) (e:=l) (by rw [hH]; exact trivial) (.inl rfl) (fun b' u hb hu=>(Heap.get?_update_other s.heap (Obj.mapSeq f) (Ne.symm hb)).trans hu) ⟨_,q⟩ ?_
 exact ⟨hz,its',_,hv,q⟩
theorem Inv.lnew {its:List Value} {t':Nat} (I:Inv X pins σ H s) (hv:Vals ys its) (hz:ys.length <= sizeLine) :
  Inv X pins σ (upd H s.heap.objs.size (.lst ys)) { s with heap:=s.heap.push { cls:=.type "list",data:=.seq its.toArray },toks:=t' } :=
 I.laid (fun _ _ q=>Heap.get?_push_of_some _ q) (Nat.le_refl _) ⟨hz,its,0,hv,Heap.get?_push_size _ rfl⟩
theorem Inv.fresh (I:Inv X pins σ H s):H s.heap.objs.size = none:=I.hok.fresh (Nat.le_refl _)
theorem Inv.lstM (I:Inv X pins σ H s) (hH:H l = some (.lst xs)):xs.length <= sizeLine /\ ∃ (its:List Value) (n:Nat),Vals xs its /\ xs.length = its.length /\ s.heap.get? l = some { cls:=.type "list",data:=.seq its.toArray n }:=by
 obtain ⟨z,its,n,r,e⟩:=I.hok l _ hH
 exact ⟨z,its,n,r,r.length,e⟩
end
section
variable {X:Cx}
noncomputable def ku6:V -> List V -> Hp -> VK -> Prop:=fun x vs H Q=>∃ l xs y,x = .ref l /\ vs = [y] /\ H l = some (.lst xs) /\ xs.length < sizeLine /\ Q .non (upd H l (.lst (xs ++ [y])))
theorem je0:MtM X "list.append" ku6:=by
 intro pins s σ H x vs v us Q I rx rv h
 refine x3_5 h fun l xs y zo3 zo4 hH hz q=>?_
 clear h
 obtain rfl:=zo3
 obtain rfl:=zo4
 cases rx
 refine x1_2 rv.one fun u zo1 ru=>?_
 obtain rfl:=zo1
 obtain ⟨z,its,n,r,hl,e⟩:=I.lstM hH
 refine call_meets F.slot_list_append ⟨_,e,rfl⟩ F.entry_list_append (F.args_list_append_2 _ _) (PySem.list_append l its.toArray n u (by rw [List.size_toArray]; lia)) ⟨e,?_⟩
 refine ⟨.non,_,I.lset (its':=its ++ [u]) hH e (by simp) (r.append (.cons ru .nil)) ?_,rfl,q⟩
 rw [List.length_append,List.length_singleton]
 lia
end
section
variable {prog:Program} {w:World} {A:Around} {E:Value -> Shared -> Prop} {s:Shared}
end
section
variable {X:Cx}
end
end L2
namespace Att
open PySem PySem.W PySem.Calls PyProof.Rows
theorem jq8 {P:Params} {h:Heap}:∀ (ns:List Int) (vs:List Value),WellAll P h vs (ns.map WData.int) -> IntsAre vs ns:=by
 intro ns
 induction ns with
 | nil =>
  intro vs w
  rw [List.map_nil] at w
  cases w
  exact .nil
 | cons n ns ih =>
  intro vs w
  rw [List.map_cons] at w
  cases w with
  | cons a b =>
   cases a
   exact .cons _ _ (ih _ b)
theorem kx7 {l:OpenLaw} {n:Nat} (hn:l.most = some n) {P:Params} {h:Heap} {args:List WData} {vals:List Value}
  (hpre:l.row.toRowW.claim.pre args = true) (hwl:WellAll P h vals args) :
  ∃ a vs ns,vals = [Value.ref a] /\ args = [WData.list (ns.map WData.int)] /\ h.get? a = some { cls:=.type "list",data:=.seq vs.toArray } /\ IntsAre vs ns /\ ns.length <= n:=by
 have hsh:WShape.hasAll [] args [.list .int] = true:=(pre_splitW hpre).1
 have hc:l.pre.holds [] { args:=args } = true:=(pre_splitW hpre).2
 refine x2_3 (hasAllW_cons hsh) fun d r zo2 h1 h2=>?_
 obtain rfl:=zo2
 obtain rfl:=hasAllW_nil h2
 refine x1_2 (hasW_list h1) fun xs zo1 h3=>?_
 obtain rfl:=zo1
 obtain ⟨ns,rfl⟩:=items_int h3
 have hlen:ns.length <= n:=by
  unfold OpenLaw.pre at hc
  have h4:(WTm.not (.lt (.lit (.int (n:Int))) (.len (.arg 0)))).holds [] { args:=[.list (ns.map .int)] } = true:=by
   have h4:=(holds_andW hc).1
   rw [hn] at h4
   exact h4
  have h5:=condW_of h4 (w_not (w_lt w_lit (w_len_list (w_arg rfl))))
  rw [List.length_map] at h5
  refine Nat.le_of_not_lt fun q=>?_
  have q':(n:Int) < ((ns.length:Nat):Int):=by lia
  first
   | (rw [decide_eq_true q'] at h5; exact absurd h5 (by decide))
   | (simp at h5; lia)
 cases hwl with
 | cons w1 w2 =>
  cases w2
  cases w1 with
  | list ho hall=>exact ⟨_,_,ns,rfl,rfl,ho,jq8 ns _ hall,hlen⟩
theorem ky1 (l:OpenLaw) (args:List WData):l.row.toRowW.claim.post args (.bool true) args = true :=
 postW_of (r:=l.row.toRowW) (X:=(true == true))
  (show WShape.has [] (.bool true) .bool = true by first | rfl | decide | simp [WShape.has,WShape.arms,WShape.armsAll])
  (show (WTm.eq .res (.lit (.bool true))).value [] { args:=args,res:=some (.bool true),after:=args } = some (.bool (true == true)) from w_eq_bool (w_res rfl) w_lit) rfl
theorem attach_call {l:OpenLaw} {n:Nat} {q:Program} {loose:List Str} {XP:(Str -> Option Value) -> Heap -> Prop} {YP:World -> Heap -> Prop} {d:DefRec}
  (hn:l.most = some n) (hdf:d.params.defaults = [])
  (call:∀ (w:World) (s₀ s₁:Shared) (mg mb:Str -> Option Value) (fa:Addr) (o:Obj) (pm cd doc:Value) (a:Addr) (vs:List Value) (ns:List Int),
   Ground q loose [] XP w s₀ mg mb s₁.heap -> YP w s₁.heap ->
   s₁.heap.get? fa = some o -> o.data = .func (docDef d.name d.params d.body d.scope pm cd doc) -> s₁.heap.CodeRec cd d.name -> mg d.name = some (.ref fa) ->
   s₁.heap.get? a = some { cls:=.type "list",data:=.seq vs.toArray } -> IntsAre vs ns -> ns.length <= n -> s₁.gens = #[] ->
   codeAny (model l.prog w) callerA (.call (.ref fa) ⟨[.ref a],[]⟩) (fun r s'=>r = .ok (.ret (.bool true)) /\ OldK s₁.heap s'.heap /\ s'.os = s₁.os /\ AllBare s'.gens) s₁) :
  WalkO q loose XP YP l.row.toRowW d [] (fun f vs=>PySem.call f vs):=by
 intro w s₀ s₁ mg mb G Y fa o pm cd doc dV kV ho hd hcd hD hmg hg args vals as hpre hlay hrd hwl hlo
 obtain rfl:dV = .none:=Dflts.none hD hdf
 obtain rfl:kV = .none:=Dflts.noKw hD
 refine x3_5 (kx7 hn hpre hwl) fun a vs ns zo3 zo4 hobj hints hlen=>?_
 obtain rfl:=zo3
 obtain rfl:=zo4
 refine enter_call (codeAny_mono (call w s₀ s₁ mg mb fa o pm cd doc a vs ns G Y ho (fd_plain hd) hcd hmg hobj hints hlen hg) fun r s' hq=>?_)
 refine x0_4 hq fun zo0 h2 h3 h4=>?_
 clear hq
 obtain rfl:=zo0
 exact ⟨.inl ⟨.bool true,.bool true,[],rfl,fun _=>rfl,.bool true,ky1 l _,fun _=>⟨List.Pairwise.nil,fun _ hm=>(nomatch hm)⟩⟩,h2,h3,h4⟩
section
variable {prog:Program} {w:World} {A:Around} {E:Value -> Shared -> Prop} {s:Shared} {K:Frag}
end
end Att
namespace L2
open PySem PySem.Spec PyProof.Rows
theorem kf8:∀ {vs:List Value} {ns:List Int},IntsAre vs ns -> Vals (ns.map V.int) vs
 | _,_,.nil=>.nil
 | _,_,.cons n t h=>.cons ⟨t,rfl⟩ (kf8 h)
noncomputable def Only (H:Hp):Prop:=∀ b,H b = none \/ ∃ o xs,H b = some (.frz o (.lst xs))
theorem qh6 {P:Program} {w:World} {K:PySem.W.Frag} {mg mb:Str -> Option Value} {CX:CXT} {k:Nat} {fa a:Addr} {fd:FuncData} {x:Str} {sp:Sp} {s₁:Shared} {vs:List Value} {ns:List Int}
  (KX:K.In s₁.heap) (hns:s₁.heap.Ns mainGlobals mg) (hb:s₁.heap.Ns builtinsNs mb) (hbb:∀ x:Str,x ≠ "__name__" -> mb x = bootBuiltins x) (hlim:s₁.heap.NoLimit) (hg:s₁.gens = #[])
  (ha:s₁.heap.get? a = some { cls:=.type "list",data:=.seq vs.toArray }) (hi:IntsAre vs ns) (hl:ns.length <= sizeLine) (hr:Room k callerA)
  (F:∀ base:Heap,K.In base -> base.Ns mainGlobals mg -> FnOk P w K mg base CX k fa fd [x] sp) (hbind:∀ (s:Shared) (u:Value),BindsTo s fd ⟨[u],[]⟩ [(x,u)])
  (hsp:∀ H:Hp,Only H -> SqL K H a (ns.map V.int) -> sp [.ref a] H (fun v _=>v = .bl true) fun _ _ _=>False)
  (hCX:∀ H e s',CX [] H s₁ (fun _ _ _=>False) e s' -> False) :
  codeAny (model P w) callerA (.call (.ref fa) ⟨[.ref a],[]⟩) (fun r s'=>r = .ok (.ret (.bool true)) /\ OldK s₁.heap s'.heap /\ s'.os = s₁.os /\ AllBare s'.gens) s₁:=by
 have rv:=kf8 hi
 have lenV:=hi.length
 have core:∀ H:Hp,Only H -> SqL K H a (ns.map V.int) -> HOk P w H s₁.heap -> (∀ b,H b ≠ none -> b = a) -> (H a ≠ none -> K.lookup a = none) ->
   codeAny (model P w) callerA (.call (.ref fa) ⟨[.ref a],[]⟩) (fun r s'=>r = .ok (.ret (.bool true)) /\ OldK s₁.heap s'.heap /\ s'.os = s₁.os /\ AllBare s'.gens) s₁:=by
  intro H hO hS hok hA hK
  have kb2:∀ {b:Addr} {o:Obj},s₁.heap.get? b = some o -> H b = none -> (hidT s₁.heap H).get? b = some o:=fun e n=>qg0 e n
  have noA:∀ {b:Addr} {o:Obj} {es:Array DictEntry} {ep:Nat},s₁.heap.get? b = some o -> o.data = .dict es ep -> H b = none:=fun {b o es ep} e d=>by
   cases q:H b with
   | none=>rfl
   | some u =>
    have e':b = a:=hA b (by rw [q]; simp)
    subst e'
    rw [ha] at e; cases e
    have d':Data.seq vs.toArray _ = Data.dict es ep:=d
    cases d'
  have nsK:∀ {b:Addr} {m:Str -> Option Value},s₁.heap.Ns b m -> (hidT s₁.heap H).Ns b m:=fun {b m} zz194=>zz194.elim fun o zz195=>zz195.elim fun es zz196=>zz196.elim fun ep zz197=>zz197.elim fun e zz198=>zz198.elim fun d r=>⟨o,es,ep,kb2 e (noA e d),d,r⟩
  have hKb:K.In (hidT s₁.heap H):=fun b o e=>kb2 (KX b o e) (by
   cases q:H b with
   | none=>rfl
   | some u =>
    have e':b = a:=hA b (by rw [q]; simp)
    subst e'
    rw [hK (by rw [q]; simp)] at e; cases e)
  have hM:Mod K mg (hidT s₁.heap H):=⟨hKb,nsK hns,⟨mb,nsK hb,hbb⟩,let ⟨mc,h1,h2⟩:=hlim; ⟨mc,nsK h1,h2⟩⟩
  have e0:Env0 P w K mg (hidT s₁.heap H) callerA [] s₁ H:=⟨rfl,hM,fun b o e=>qr6 e,Nat.le_of_eq (ku3 _ _),trivial,fun b hb=>absurd (show b ∈ ([]:List Addr) from hb) (by simp),hok,.of_eq hg⟩
  refine codeAny_mono ((F _ hKb (nsK hns)).run callerA [] s₁ H ⟨[.ref a],[]⟩ [.ref a] [.ref a] _ _ hr e0 (hbind s₁ (.ref a)) (.cons rfl .nil) (hsp H hO hS)) fun r s' h=>?_
  cases r with
  | error e=>exact (hCX H e s' h).elim
  | ok fl =>
   cases fl with
   | next=>exact False.elim h
   | brk=>exact False.elim h
   | cont=>exact False.elim h
   | ret u =>
    refine x2_6 h fun v H' os bare un hok' r' q=>?_
    clear h
    have q':v = .bl true:=q
    subst q'
    obtain rfl:u = Value.bool true:=r'
    refine ⟨rfl,OldK.of_keep fun b o e=>?_,os,bare⟩
    cases q:H b with
    | none=>exact un.keep b o e q (by intro z; exact absurd (show b ∈ ([]:List Addr) from z) (by simp)) (by simp)
    | some u =>
     rcases hO b with z | ⟨ob,xs,z⟩
     ·rw [q] at z; cases z
     ·have z2:=un.frzs b ob _ z
      obtain ⟨e1,_⟩:=hok b _ z
      obtain ⟨e2,_⟩:=hok' b _ z2
      rw [e] at e1; cases e1
      exact e2
 cases hk:K.lookup a with
 | some o =>
  have e:=KX a o hk
  rw [ha] at e
  cases e
  refine core (fun _=>none) (fun _=>.inl rfl) (.inr ⟨_,vs.toArray,_,hk,rfl,rfl,rfl,by rw [List.size_toArray,lenV]; exact hl,by simpa using rv⟩) (fun b u z=>by have z':(none:Option HO) = some u:=z; cases z') (fun b z=>absurd rfl z) fun z=>absurd rfl z
 | none =>
  refine core (fun b=>if b = a then some (.frz { cls:=.type "list",data:=.seq vs.toArray } (.lst (ns.map V.int))) else none) (fun b=>?_) (.inl (.inr ⟨{ cls:=.type "list",data:=.seq vs.toArray },if_pos rfl⟩)) (fun b u z=>?_) (fun b z=>?_) fun _=>hk
  ·by_cases hb:b = a
   ·exact .inr ⟨_,_,if_pos hb⟩
   ·exact .inl (if_neg hb)
  ·by_cases hb:b = a
   ·have z':=(if_pos hb).symm.trans z
    cases z'
    subst hb
    exact ⟨ha,by rw [List.length_map]; exact hl,vs,_,rv,ha⟩
   ·have z':=(if_neg hb).symm.trans z
    cases z'
  ·by_cases hb:b = a
   ·exact hb
   ·exact absurd (if_neg hb) z
end L2
namespace L2
open PySem PySem.Spec PyProof.Rows
theorem walk_of {l:PySem.W.OpenLaw} {n k:Nat} {q:Program} {loose:List Str} {XP:(Str -> Option Value) -> Heap -> Prop} {YP:World -> Heap -> Prop} {d:DefRec} {K:Params -> PySem.W.Frag} {CX:World -> CXT} {sp:World -> Sp} {x:Str}
  (hn:l.most = some n) (hn2:n <= sizeLine) (hdf:d.params.defaults = []) (hr:Room k callerA)
  (hY:∀ (w:World) (h:Heap),YP w h -> (K w.params).In h)
  (F:∀ (w:World) (mg:Str -> Option Value) (fa:Addr) (h:Heap),(K w.params).In h -> h.Ns mainGlobals mg -> mg d.name = some (.ref fa) ->
   ∃ fd:FuncData,(∀ (s:Shared) (u:Value),BindsTo s fd ⟨[u],[]⟩ [(x,u)]) /\
    ∀ base:Heap,(K w.params).In base -> base.Ns mainGlobals mg -> FnOk l.prog w (K w.params) mg base (CX w) k fa fd [x] (sp w))
  (hsp:∀ (w:World) (H:Hp) (a:Addr) (ns:List Int),ns.length <= n -> Only H -> SqL (K w.params) H a (ns.map V.int) -> sp w [.ref a] H (fun v _=>v = .bl true) fun _ _ _=>False)
  (hCX:∀ (w:World) (H:Hp) (s:Shared) (e:Value) (s':Shared),CX w [] H s (fun _ _ _=>False) e s' -> False) :
  PySem.W.WalkO q loose XP YP l.row.toRowW d [] (fun f vs=>PySem.call f vs):=by
 refine Att.attach_call hn hdf fun w s₀ s₁ mg mb fa o pm cd doc a vs ns G Y ho hd hcd hmg hobj hints hlen hg=>?_
 have KX:=hY w _ Y
 refine x1_2 (F w mg fa _ KX G.T.g hmg) fun fd hb hF=>?_
 exact qh6 KX G.T.g G.T.b G.T.builtins G.T.nolimit hg hobj hints (Nat.le_trans hlen hn2) hr hF hb (fun H hO hS=>hsp w H a ns hlen hO hS) fun H e s'=>hCX w H s₁ e s'
end L2
namespace L2
open PySem PySem.Spec PyProof.Rows
noncomputable def ky2 (s:Stmt) (j:Nat):Stmt:=match s with
 | .ClassDef _ _ _ body _ _ _ _ _ _ _=>body.getD j (.Pass ⟨0,0,0,0⟩)
 | _=>.Pass ⟨0,0,0,0⟩
noncomputable def w6 (s:Stmt):Arguments:=match s with
 | .FunctionDef _ a _ _ _ _ _ _ _ _=>a
 | _=>{ posonlyargs:=[],args:=[],vararg:=none,kwonlyargs:=[],kw_defaults:=[],kwarg:=none,defaults:=[] }
noncomputable def v6 (s:Stmt):List Stmt:=match s with
 | .FunctionDef _ _ b _ _ _ _ _ _ _=>b
 | _=>[]
noncomputable def j4 (s:Stmt):Scope:=match s with
 | .FunctionDef _ _ _ _ _ _ sc _ _ _=>sc
 | _=>{ kind:=.function,names:=[],isGenerator:=false,isCoroutine:=false }
noncomputable abbrev CX0:CXT:=fun _ _ _ _ _ _=>False
noncomputable abbrev E0:XK:=fun _ _ _=>False
structure Fun (K:PySem.W.Frag) (x qual:Str) (st:Stmt) (f:Addr) (fd:FuncData):Prop where
 ex:∃ (oc:Value) (od:Option Addr) (kV doc pm:Value) (an:Option Addr) (cdv ct:Value) (osl:Array (Option Value)),
  fd = PySem.W.fnOf x qual (w6 st) (v6 st) (j4 st) .none kV doc pm an cdv ct /\ K.lookup f = some ⟨oc,od,.func fd,osl⟩ /\ PySem.W.codeIn K cdv qual = true
 kp:PySem.W.keepIn K (.ref f) = true
section
variable {P:Program} {w:World} {K:PySem.W.Frag} {mg:Str -> Option Value} {base:Heap}
theorem Fun.ok {x qual:Str} {st:Stmt} {f:Addr} {fd:FuncData} {N ps:List Str} {k:Nat} {sp:Sp} (F:Fun K x qual st f fd) (S:FnScope N ps (j4 st)) (len:∀ vs H Q E,sp vs H Q E -> vs.length = ps.length)
  (hbody:∀ (cdv:Value) (A:Around) (outer:List Env) (s:Shared) (H:Hp) (vs:List V) (Q:VK) (E:XK),Room k (A.deeper (envOfC qual (j4 st) s.heap.objs.size f cdv)) -> sp vs H Q E ->
   ∃ t,PSs (cxOf CX0 P w K mg base N qual (j4 st) f cdv A outer s H E).nox (v6 st) t /\ t { nx:=fun _ H'=>Q .non H',rt:=Q } (start N vs) H):FnOk P w K mg base CX0 (k + 1) f fd ps sp:=by
 refine x9_3 F.ex fun oc od kV doc pm an cdv ct osl zo9 lk hcd=>?_
 obtain rfl:=zo9
 refine vc1 lk hcd S len fun A outer s H vs Q E hr hsp=>?_
 refine x1_2 (hbody cdv A outer s H vs Q E hr hsp) fun t h q=>?_
 exact ⟨t,h.nox,q⟩
theorem Fun.binds {x qual:Str} {st:Stmt} {f:Addr} {fd:FuncData} {ps:List Str} (F:Fun K x qual st f fd)
  (h:∀ (kV doc pm:Value) (an:Option Addr) (cdv ct:Value) (us:List Value),us.length = ps.length -> bindArgs (PySem.W.fnOf x qual (w6 st) (v6 st) (j4 st) .none kV doc pm an cdv ct) ⟨us,[]⟩ = pure (ps.zip us)):Binds K fd ps []:=by
 refine x9_3 F.ex fun oc od kV doc pm an cdv ct osl zo9 lk hcd=>?_
 obtain rfl:=zo9
 exact .all (h kV doc pm an cdv ct)
theorem jx2 {x qual:Str} {st:Stmt} {f:Addr} {oc:Value} {od an:Option Addr} {osl:Array (Option Value)} {kV doc pm cdv ct:Value} (l:K.lookup f = some ⟨oc,od,.func (PySem.W.fnOf x qual (w6 st) (v6 st) (j4 st) .none kV doc pm an cdv ct),osl⟩)
  (c:PySem.W.codeIn K cdv qual = true) (k:PySem.W.keepIn K (.ref f) = true):Fun K x qual st f (PySem.W.fnOf x qual (w6 st) (v6 st) (j4 st) .none kV doc pm an cdv ct):=⟨⟨oc,od,kV,doc,pm,an,cdv,ct,osl,rfl,l,c⟩,k⟩
end
section
variable {X:Cx}
theorem pv (i:Nat) {x:Str} {pos:Pos} (hN:X.N[i]? = some x:=by rfl) (hv:Vis X.env.scope x:=by first | exact Or.inl rfl | exact Or.inr (Or.inl rfl) | exact Or.inr (Or.inr rfl)) (hd:(x == ("__debug__" : Str)) = false:=by decide)
  (hcd:(x == ("__classdict__" : Str)) = false:=by decide):PE X (.Name x pos) (tVar i):=qv3 hN hv hd hcd
end
noncomputable def Same (H H':Hp):Prop:=∀ b o,H b = some o -> H' b = some o
theorem Same.refl (H:Hp):Same H H:=fun _ _ h=>h
theorem Same.trans {H H1 H2:Hp} (a:Same H H1) (b:Same H1 H2):Same H H2:=fun c o h=>b c o (a c o h)
theorem Same.free {H H':Hp} (e:Same H H') {l:Addr} (h:H' l = Option.none):H l = Option.none:=by
 cases q:H l with
 | none=>rfl
 | some o =>
  rw [e l o q] at h
  cases h
theorem Same.seq {K:PySem.W.Frag} {H H':Hp} {a:Addr} {xs:List V} (e:Same H H') (h:SqL K H a xs):SqL K H' a xs:=by
 rcases h with (h | ⟨o,h⟩) | h
 ·exact .inl (.inl (e _ _ h))
 ·exact .inl (.inr ⟨o,e _ _ h⟩)
 ·exact .inr h
end L2
end T_PpL
section T_Xd
namespace Dm
open PySem PySem.Spec PyProof.Rows L2
noncomputable def XD (dx:Option Addr) (a:Addr) (h:Heap):Prop:=∀ d,dx = some d -> ∃ o,h.get? a = some o /\ o.dict = some d
theorem XD.no {a:Addr} {h:Heap}:XD none a h:=fun _ z=>nomatch z
theorem XD.keeps {dx:Option Addr} {a:Addr} {h h':Heap} (x:XD dx a h) (k:∀ o,h.get? a = some o -> ∃ o',h'.get? a = some o' /\ o'.dict = o.dict):XD dx a h':=fun d z=>by
 obtain ⟨o,e,ed⟩:=x d z
 obtain ⟨o',e',ed'⟩:=k o e
 exact ⟨o',e',ed'.trans ed⟩
noncomputable def ks8 (f:Obj -> Obj):Prop:=∀ o,(f o).dict = o.dict /\ (o.isFreed = false -> (f o).isFreed = false)
inductive KD {α:Type}:Sem α -> Prop
 | ret (a:α):KD (.pure a)
 | exc (e:Value):KD (.raise e)
 | no (w:String):KD (.unsupported w)
 | load {a:Addr} {pt:Option Value} {k:Obj -> Sem α} (h:∀ o,KD (k o)):KD (.load a pt k)
 | upd {a:Addr} {pt:Option Value} {f:Obj -> Obj} {k:Unit -> Sem α} (hf:ks8 f) (h:KD (k ())):KD (.update a pt f k)
 | alloc {o:Obj} {k:Addr -> Sem α} (h:∀ a,KD (k a)):KD (.alloc o k)
 | stack {k:List (Code × Pos) -> Sem α} (h:∀ l,KD (k l)):KD (.stack k)
theorem KD.bind {α β:Type} {m:Sem α} {f:α -> Sem β} (hm:KD m) (hf:∀ a,KD (f a)):KD (m >>= f):=by
 show KD (Sem.bind m f)
 induction hm with
 | ret a=>exact hf a
 | exc e=>exact .exc e
 | no w=>exact .no w
 | load _ ih=>exact .load ih
 | upd z _ ih=>exact .upd z ih
 | alloc _ ih=>exact .alloc ih
 | stack _ ih=>exact .stack ih
theorem XD.upd {dx:Option Addr} {a b:Addr} {h:Heap} {f:Obj -> Obj} (x:XD dx a h) (hf:ks8 f):XD dx a (h.update b f):=x.keeps fun o e=>by
 by_cases z:b = a
 ·subst z
  exact ⟨f o,Heap.get?_update_self f e ((hf o).2 (Heap.get?_some_iff.mp e).2),(hf o).1⟩
 ·exact ⟨o,(Heap.get?_update_other h f z).trans e,rfl⟩
theorem vf0 {α:Type} {M:Model} {Γ:PySem.Ctx} {t:Sem α} (k:KD t) {Q:α -> Pos -> Shared -> Prop} {E:Value -> Pos -> Shared -> Prop} {dx:Option Addr} {a:Addr} :
  ∀ {p:Pos} {s:Shared},Sem.wp M Γ t Q E p s -> XD dx a s.heap -> Sem.wp M Γ t (fun x p s=>Q x p s /\ XD dx a s.heap) (fun x p s=>E x p s /\ XD dx a s.heap) p s:=by
 induction k with
 | ret x=>exact fun h z=>⟨h,z⟩
 | exc e=>exact fun h z=>⟨h,z⟩
 | no w=>exact fun h z=>h
 | load _ ih =>
  intro p s h z
  rw [Sem.wp_load] at h ⊢
  obtain ⟨o,e,h⟩:=h
  exact ⟨o,e,ih o h z⟩
 | upd hf _ ih =>
  intro p s h z
  rw [Sem.wp_update] at h ⊢
  exact ⟨h.1,ih h.2 (z.upd hf)⟩
 | alloc _ ih =>
  intro p s h z
  rw [Sem.wp_alloc] at h ⊢
  exact ih _ h (z.keeps fun o e=>⟨o,Heap.get?_push_of_some _ e,rfl⟩)
 | stack _ ih =>
  intro p s h z
  exact ih _ h z
theorem jq2 {α:Type} {M:Model} {A:Around} {t:Sem α} {Q:α -> Shared -> Prop} {E:Value -> Shared -> Prop} {s:Shared} {dx:Option Addr} {a:Addr} (k:KD t) (h:wpAny M A t Q E s) (z:XD dx a s.heap) :
  wpAny M A t (fun x s'=>Q x s' /\ XD dx a s'.heap) (fun x s'=>E x s' /\ XD dx a s'.heap) s:=fun Γ p hΓ=>vf0 k (h Γ p hΓ) z
theorem kg4 (a:Addr):KD (load a):=.load fun o=>.ret o
theorem jy1:KD stack:=.stack fun l=>.ret l
theorem jp2 (f:Array Value -> Array Value):ks8 (Obj.mapFields f):=fun o=>by
 obtain ⟨c,d,dt,sl⟩:=o
 cases dt <;> exact ⟨rfl,fun h=>h⟩
theorem ki4 (v:Value):KD (fieldsOf v):=by
 unfold fieldsOf
 cases v with
 | ref a =>
  refine .bind (kg4 a) fun o=>?_
  split
  ·exact .ret _
  ·exact .no _
 | _=>exact .no _
theorem jp7 (v:Value) (i:Nat):KD (field v i):=by
 unfold field
 refine .bind (ki4 v) fun vs=>?_
 split
 ·exact .ret _
 ·exact .no _
theorem ju8 (a:Addr) (i:Nat) (x:Value):KD (updateField a i x):=by
 unfold updateField
 refine .bind (kg4 a) fun o=>?_
 split
 ·split
  ·exact .upd (jp2 _) (.ret _)
  ·exact .no _
 ·exact .no _
theorem jl2 (v:Value) (i:Nat) (x:Value):KD (setField v i x):=by
 unfold setField
 cases v with
 | ref a=>exact ju8 a i x
 | _=>exact .no _
theorem ji1 (e:Value) (f:Option Addr):KD (setFlight e f):=by
 unfold setFlight
 refine .bind (jp7 e 1) fun tb=>?_
 split
 ·exact jl2 _ _ _
 ·exact .ret _
theorem kw3 (env:Env) (outer:List Env):KD (behindIsImport env outer):=by
 unfold behindIsImport
 split
 ·exact .ret _
 ·split
  ·exact .ret _
  ·exact .bind (jp7 _ _) fun _=>.ret _
theorem qp1 (env:Env) (i:Bool) (outer:List Env):KD (keptBack env i outer):=by
 unfold keptBack
 split
 ·split
  ·exact .ret _
  ·unfold underTheClaimsCaller
   exact .bind (.bind jy1 fun _=>.ret _) fun _=>.ret _
 ·exact .ret _
theorem qg5:∀ l:List Env,KD (readyFrames l):=fun l=>by
 induction l with
 | nil=>exact .ret _
 | cons env outer ih =>
  unfold readyFrames
  split
  ·refine .bind (kg4 _) fun o=>?_
   split
   ·exact .ret _
   ·refine .bind (kw3 env outer) fun i=>.bind (qp1 env i outer) fun b=>.bind (.upd (fun o=>⟨rfl,fun h=>by obtain ⟨_,_,d,_⟩:=o; cases d <;> exact h⟩) (.ret _)) fun _=>ih
  ·exact .no _
theorem kn7 (env:Env):KD (PySem.frameOf env):=by
 unfold PySem.frameOf frameEnvs
 refine .bind (.bind jy1 fun _=>.ret _) fun l=>.bind ?_ fun o=>?_
 ·unfold frameObject
  split
  ·exact .ret _
  ·exact .bind (qg5 _) fun _=>.ret _
 ·split
  ·exact .ret _
  ·exact .no _
theorem qe8 (f:Addr) (b:Bool):KD (entryPlaceOf f b):=by
 unfold entryPlaceOf
 refine .bind jy1 fun l=>?_
 split
 ·exact .ret _
 ·exact .ret _
theorem qd2 (head:Value) (fr:Value) (l f x:Value) (pl:List Value):KD (EntryCells.newEntry head fr l f x pl):=by
 have fin:∀ d,KD (newObjAsIs (.type "traceback") d):=fun d=>by
  unfold newObjAsIs
  exact .bind (.alloc fun a=>.ret a) fun _=>.ret _
 unfold EntryCells.newEntry newFields
 generalize ([head,fr,l,f,x] ++ if pl.isEmpty = true then List.replicate 6 Value.none else pl).toArray = vs
 unfold newObj
 dsimp only
 split
 ·exact .bind (.no _) fun _=>fin _
 ·exact fin _
theorem qt9 (e:Value) (env:Env):KD (noteFrame e env):=by
 unfold noteFrame
 split
 ·refine .bind (jp7 e 1) fun head=>?_
  have fin:=fun (f:Addr)=>KD.bind (kn7 env) fun a=>KD.bind (qe8 f (head != .none)) fun pl=>KD.bind (qd2 head a .none (rawInt f) .none pl) fun b=>jl2 e 1 b
  dsimp only
  split
  ·refine .bind (jp7 head 3) fun x=>?_
   split
   ·exact .ret _
   ·exact .bind (jl2 _ _ _) fun _=>fin _
  ·exact fin _
 ·exact .no _
end Dm
end T_Xd
section T_Dd
namespace Dm
open PySem PyProof.Rows L2
inductive D where
 | non | bl (b:Bool) | int (i:Int) | str (x:Str) | tup (ds:List D) | lst (ds:List D) | brd (t:Nat) (ds:List D)
mutual
noncomputable def dep:D -> Nat
 | .tup ds=>deps ds + 1
 | .lst ds=>deps ds + 1
 | .brd tb ds=>deps ds + 2
 | _=>0
noncomputable def deps:List D -> Nat
 | []=>0
 | d :: ds=>max (dep d) (deps ds)
end
theorem jc5:∀ {ds:List D} {d:D},d ∈ ds -> dep d <= deps ds
 | _ :: _,_,.head _=>Nat.le_max_left _ _
 | _ :: ds,_,.tail _ h=>Nat.le_trans (jc5 h) (Nat.le_max_right _ _)
theorem jz7 {n:Nat}:∀ {ds:List D},(∀ d ∈ ds,dep d <= n) -> deps ds <= n
 | [],_=>Nat.zero_le _
 | d :: ds,h=>Nat.max_le.mpr ⟨h d (.head _),jz7 fun x hx=>h x (.tail _ hx)⟩
mutual
noncomputable def eqD:D -> D -> Bool
 | .non,.non=>true
 | .bl a,.bl b=>a == b
 | .bl a,.int j=>(if a then 1 else 0) == j
 | .int i,.bl b=>i == (if b then 1 else 0)
 | .int i,.int j=>i == j
 | .str x,.str y=>x == y
 | .tup xs,.tup ys=>eqDs xs ys
 | .lst xs,.lst ys=>eqDs xs ys
 | _,_=>false
noncomputable def eqDs:List D -> List D -> Bool
 | [],[]=>true
 | x :: xs,y :: ys=>eqD x y && eqDs xs ys
 | _,_=>false
end
theorem kl5:∀ {xs ys:List D},eqDs xs ys = true -> xs.length = ys.length
 | [],[],_=>rfl
 | [],_ :: _,h=>by simp [eqDs] at h
 | _ :: _,[],h=>by simp [eqDs] at h
 | x :: xs,y :: ys,h=>by
  rw [eqDs,Bool.and_eq_true] at h
  rw [List.length_cons,List.length_cons,kl5 h.2]
theorem km7:∀ {xs ys:List D},xs.length = ys.length -> eqDs xs ys = (List.range xs.length).all fun j=>eqD (xs.getD j .non) (ys.getD j .non)
 | [],[],_=>rfl
 | x :: xs,y :: ys,h=>by
  rw [eqDs,km7 (xs:=xs) (ys:=ys) (by simpa using h),List.length_cons,List.range_succ_eq_map,List.all_cons,List.all_map]
  rfl
mutual
noncomputable def flat:D -> Bool
 | .tup ds=>U5 ds
 | .lst ds=>U5 ds
 | .brd _ _=>false
 | _=>true
noncomputable def U5:List D -> Bool
 | []=>true
 | d :: ds=>flat d && U5 ds
end
theorem Q9:∀ {ds:List D} {d:D},U5 ds = true -> d ∈ ds -> flat d = true
 | _ :: _,_,h,.head _=>by rw [U5,Bool.and_eq_true] at h; exact h.1
 | _ :: ds,_,h,.tail _ m=>by rw [U5,Bool.and_eq_true] at h; exact Q9 h.2 m
theorem jk1:∀ {ds:List D},(∀ d ∈ ds,flat d = true) -> U5 ds = true
 | [],_=>rfl
 | d :: ds,h=>by rw [U5,Bool.and_eq_true]; exact ⟨h d (.head _),jk1 fun x hx=>h x (.tail _ hx)⟩
mutual
noncomputable def DAt (h:Heap):D -> Value -> Prop
 | .non,v=>v = .none
 | .bl b,v=>v = .bool b
 | .int i,v=>∃ t,v = .int i t
 | .str x,v=>∃ t,v = .str x t
 | .tup ds,v=>∃ a items,v = .ref a /\ IsTup h a items /\ DAts h ds items.toList
 | .lst ds,v=>∃ a items,v = .ref a /\ PlainL h a items /\ DAts h ds items.toList
 | .brd _ _,_=>False
noncomputable def DAts (h:Heap):List D -> List Value -> Prop
 | [],vs=>vs = []
 | d :: ds,vs=>∃ v r,vs = v :: r /\ DAt h d v /\ DAts h ds r
end
theorem DAts.len {h:Heap}:∀ {ds:List D} {vs:List Value},DAts h ds vs -> vs.length = ds.length
 | [],_,e=>by rw [DAts] at e; subst e; rfl
 | d :: ds,_,e=>by
  rw [DAts] at e
  obtain ⟨v,r,rfl,_,q⟩:=e
  rw [List.length_cons,List.length_cons,q.len]
theorem DAts.get {h:Heap}:∀ {ds:List D} {vs:List Value} (j:Nat) (hj:j < vs.length),DAts h ds vs -> DAt h (ds.getD j .non) vs[j] /\ ds.getD j .non ∈ ds
 | [],_,j,hj,e=>by rw [DAts] at e; subst e; exact absurd hj (Nat.not_lt_zero _)
 | d :: ds,_,j,hj,e=>by
  rw [DAts] at e
  obtain ⟨v,r,rfl,q1,q⟩:=e
  cases j with
  | zero=>exact ⟨q1,.head _⟩
  | succ j =>
   obtain ⟨a,b⟩:=q.get j (by simpa using hj)
   exact ⟨by simpa using a,by simpa using .inr b⟩
mutual
theorem qf3:∀ d:D,flat d = true -> eqD d d = true
 | .non,_=>by rw [eqD]
 | .bl b,_=>by rw [eqD]; exact beq_self_eq_true b
 | .int i,_=>by rw [eqD]; exact beq_self_eq_true i
 | .str x,_=>by rw [eqD]; exact beq_self_eq_true x
 | .tup xs,h=>by rw [eqD]; rw [flat] at h; exact ji5 xs h
 | .lst xs,h=>by rw [eqD]; rw [flat] at h; exact ji5 xs h
 | .brd tb xs,h=>by rw [flat] at h; cases h
theorem ji5:∀ ds:List D,U5 ds = true -> eqDs ds ds = true
 | [],_=>by rw [eqDs]
 | d :: ds,h=>by
  rw [U5,Bool.and_eq_true] at h
  rw [eqDs,qf3 d h.1,ji5 ds h.2]; rfl
end
inductive Vw (h:Heap):D -> Value -> Prop
 | non:Vw h .non .none
 | bl (b:Bool):Vw h (.bl b) (.bool b)
 | int (i:Int) (t:Tok):Vw h (.int i) (.int i t)
 | str (x:Str) (t:Tok):Vw h (.str x) (.str x t)
 | tup {ds:List D} {a:Addr} {its:Array Value} (q:IsTup h a its) (p:DAts h ds its.toList):Vw h (.tup ds) (.ref a)
 | lst {ds:List D} {a:Addr} {its:Array Value} (q:PlainL h a its) (p:DAts h ds its.toList):Vw h (.lst ds) (.ref a)
theorem vw {h:Heap} {d:D} {u:Value} (x:DAt h d u):Vw h d u:=by
 cases d with
 | non=>rw [DAt] at x; subst x; exact .non
 | bl b=>rw [DAt] at x; subst x; exact .bl b
 | int i=>rw [DAt] at x; obtain ⟨t,rfl⟩:=x; exact .int i t
 | str y=>rw [DAt] at x; obtain ⟨t,rfl⟩:=x; exact .str y t
 | tup ds=>rw [DAt] at x; obtain ⟨a,its,rfl,q,p⟩:=x; exact .tup q p
 | lst ds=>rw [DAt] at x; obtain ⟨a,its,rfl,q,p⟩:=x; exact .lst q p
 | brd _ _=>rw [DAt] at x; exact x.elim
theorem DAts.inj {h:Heap} {ds es:List D} {vs:List Value} (H:∀ d ∈ ds,∀ (e:D) (v:Value),DAt h d v -> DAt h e v -> d = e) (x:DAts h ds vs) (y:DAts h es vs):ds = es:=by
 induction ds generalizing es vs with
 | nil =>
  rw [DAts] at x
  subst x
  cases es with
  | nil=>rfl
  | cons e es=>rw [DAts] at y; obtain ⟨_,_,z,_⟩:=y; cases z
 | cons d ds ih =>
  rw [DAts] at x
  obtain ⟨v,r,rfl,p1,p2⟩:=x
  cases es with
  | nil=>rw [DAts] at y; cases y
  | cons e es =>
   rw [DAts] at y
   obtain ⟨v',r',z,q1,q2⟩:=y
   cases z
   rw [H d (.head _) e v p1 q1,ih (fun d hd=>H d (.tail _ hd)) p2 q2]
theorem DAt.inj {h:Heap} (d e:D) {v:Value} (hu:DAt h d v) (hv:DAt h e v):d = e:=by
 generalize hn:dep d = n
 induction n using Nat.strongRecOn generalizing d e v with
 | ind n ih =>
 have x:=vw hu
 have y:=vw hv
 clear hu hv
 cases x with
 | non=>cases y; rfl
 | bl b=>cases y; rfl
 | int i t=>cases y; rfl
 | str s t=>cases y; rfl
 | tup q p =>
  rw [dep] at hn
  cases y with
  | tup q' p' =>
   obtain ⟨o1,q1,_,n1,d1⟩:=q
   obtain ⟨o2,q2,_,n2,d2⟩:=q'
   obtain rfl:=Option.some.inj (q1.symm.trans q2)
   rw [d1] at d2
   cases d2
   rw [DAts.inj (fun d hd e v a b=>ih _ (by have:=jc5 hd; lia) d e a b rfl) p p']
  | lst q' p' =>
   obtain ⟨o1,q1,c1,_⟩:=q
   obtain ⟨o2,n2,q2,c2,_⟩:=q'
   obtain rfl:=Option.some.inj (q1.symm.trans q2)
   rw [c1] at c2
   exact absurd c2 (by decide)
 | lst q p =>
  rw [dep] at hn
  cases y with
  | tup q' p' =>
   obtain ⟨o2,n2,q2,c2,_⟩:=q
   obtain ⟨o1,q1,c1,_⟩:=q'
   obtain rfl:=Option.some.inj (q1.symm.trans q2)
   rw [c1] at c2
   exact absurd c2 (by decide)
  | lst q' p' =>
   obtain ⟨o1,n1,q1,_,_,d1⟩:=q
   obtain ⟨o2,n2,q2,_,_,d2⟩:=q'
   obtain rfl:=Option.some.inj (q1.symm.trans q2)
   rw [d1] at d2
   cases d2
   rw [DAts.inj (fun d hd e v a b=>ih _ (by have:=jc5 hd; lia) d e a b rfl) p p']
open PySem.SeqAt
section
variable {s:Shared}
theorem j9 {h:Heap} {a:Addr} {items:Array Value} (x:IsTup h a items):h.IsTuple a items:=by
 obtain ⟨o,h1,h2,n,h3⟩:=x
 exact ⟨o,h1,h2,n,h3⟩
theorem jj6 {A:Around} {xs ys:List D} {its jts:Array Value} (pu:DAts s.heap xs its.toList) (pv:DAts s.heap ys jts.toList) (h:∀ (x y:D) (u v:Value),x ∈ xs -> y ∈ ys -> DAt s.heap x u -> DAt s.heap y v -> EqAt A s u v (eqD x y)):∀ j (h1:j < its.size) (h2:j < jts.size),EqAt A s its[j] jts[j] (eqD (xs.getD j .non) (ys.getD j .non)):=fun j h1 h2=>by
 obtain ⟨g1,m1⟩:=pu.get j (by rw [Array.length_toList]; exact h1)
 obtain ⟨g2,m2⟩:=pv.get j (by rw [Array.length_toList]; exact h2)
 rw [Array.getElem_toList] at g1 g2
 exact h _ _ _ _ m1 m2 g1 g2
theorem ke6 {xs ys:List D} {its jts:Array Value} (pu:DAts s.heap xs its.toList) (pv:DAts s.heap ys jts.toList):((List.range (min its.size jts.size)).all (fun j=>eqD (xs.getD j .non) (ys.getD j .non)) && (its.size == jts.size)) = eqDs xs ys:=by
 have lu:its.size = xs.length:=by rw [<- Array.length_toList]; exact pu.len
 have lv:jts.size = ys.length:=by rw [<- Array.length_toList]; exact pv.len
 by_cases hl:its.size = jts.size
 ·rw [<- hl,Nat.min_self,beq_self_eq_true,Bool.and_true,lu,<- km7 (lu.symm.trans (hl.trans lv))]
 ·rw [beq_eq_false_iff_ne.mpr hl,Bool.and_false]
  exact (Bool.eq_false_iff.mpr fun z=>hl (by rw [lu,lv]; exact kl5 z)).symm
theorem ky6 {xs ys:List D} {its jts:Array Value} (pu:DAts s.heap xs its.toList) (pv:DAts s.heap ys jts.toList) (hl:its.size = jts.size):(List.range its.size).all (fun j=>eqD (xs.getD j .non) (ys.getD j .non)) = eqDs xs ys:=by
 rw [<- ke6 pu pv,<- hl,Nat.min_self,beq_self_eq_true,Bool.and_true]
theorem ks5 {xs ys:List D} {its jts:Array Value} (pu:DAts s.heap xs its.toList) (pv:DAts s.heap ys jts.toList) (hl:¬ its.size = jts.size):false = eqDs xs ys:=by
 rw [<- ke6 pu pv,beq_eq_false_iff_ne.mpr hl,Bool.and_false]
theorem qo6 {A:Around} {d e:D} {u v:Value} {n:Nat} (x:Vw s.heap d u) (y:Vw s.heap e v) (hr0:A.units < cLine) (hn:dep d = n) (fx:flat d = true) (fy:flat e = true)
  (ht:∀ {xs ys:List D} {a b:Addr} {its jts:Array Value},dep (.tup xs) = n -> U5 xs = true -> U5 ys = true -> IsTup s.heap a its -> DAts s.heap xs its.toList -> IsTup s.heap b jts -> DAts s.heap ys jts.toList -> EqAt A s (.ref a) (.ref b) (eqDs xs ys))
  (hl:∀ {xs ys:List D} {a b:Addr} {its jts:Array Value},dep (.lst xs) = n -> U5 xs = true -> U5 ys = true -> PlainL s.heap a its -> DAts s.heap xs its.toList -> PlainL s.heap b jts -> DAts s.heap ys jts.toList -> EqAt A s (.ref a) (.ref b) (eqDs xs ys)):EqAt A s u v (eqD d e):=by
 cases x with
 | non =>
  cases y with
  | non=>exact EqAt.same _
  | bl c=>exact EqAt.none_bool c
  | int j r=>exact EqAt.none_int j r
  | str y r=>exact EqAt.none_str y r
  | tup q' p'=>exact EqAt.none_tuple (j9 q') hr0
  | lst q' p'=>exact EqAt.none_list q'.isList hr0
 | bl b =>
  cases y with
  | non=>exact EqAt.bool_none b
  | bl c=>exact EqAt.bool_bool b c
  | int j r=>exact EqAt.bool_int b j r
  | str y r=>exact EqAt.bool_str b y r
  | tup q' p'=>exact EqAt.bool_tuple b (j9 q') hr0
  | lst q' p'=>exact EqAt.bool_list b q'.isList hr0
 | int i t =>
  cases y with
  | non=>exact EqAt.int_none i t
  | bl c=>exact EqAt.int_bool i t c
  | int j r=>exact EqAt.int_int i t j r
  | str y r=>exact EqAt.int_str i t y r
  | tup q' p'=>exact EqAt.int_tuple i t (j9 q') hr0
  | lst q' p'=>exact EqAt.int_list i t q'.isList hr0
 | str x t =>
  cases y with
  | non=>exact EqAt.str_none x t
  | bl c=>exact EqAt.str_bool x t c
  | int j r=>exact EqAt.str_int x t j r
  | str y r=>exact EqAt.str_str x t y r
  | tup q' p'=>exact EqAt.str_tuple x t (j9 q') hr0
  | lst q' p'=>exact EqAt.str_list x t q'.isList hr0
 | tup q p =>
  cases y with
  | non=>exact EqAt.tuple_none (j9 q) hr0
  | bl c=>exact EqAt.tuple_bool c (j9 q) hr0
  | int j r=>exact EqAt.tuple_int j r (j9 q) hr0
  | str y r=>exact EqAt.tuple_str y r (j9 q) hr0
  | tup q' p'=>exact ht hn (by rw [flat] at fx; exact fx) (by rw [flat] at fy; exact fy) q p q' p'
  | lst q' p'=>exact EqAt.tuple_list (j9 q) q'.isList hr0
 | lst q p =>
  cases y with
  | non=>exact EqAt.list_none q.isList hr0
  | bl c=>exact EqAt.list_bool c q.isList hr0
  | int j r=>exact EqAt.list_int j r q.isList hr0
  | str y r=>exact EqAt.list_str y r q.isList hr0
  | tup q' p'=>exact EqAt.list_tuple q.isList (j9 q') hr0
  | lst q' p'=>exact hl hn (by rw [flat] at fx; exact fx) (by rw [flat] at fy; exact fy) q p q' p'
theorem jv9 (d e:D) {A:Around} {u v:Value} (fx:flat d = true) (fy:flat e = true) (hu:DAt s.heap d u) (hv:DAt s.heap e v) (hr:A.units + dep d < cLine):EqAt A s u v (eqD d e):=by
 generalize hn:dep d = n at hr
 induction n using Nat.strongRecOn generalizing d e A u v with
 | ind n ih =>
 have hr0:A.units < cLine:=Nat.lt_of_le_of_lt (Nat.le_add_right _ _) hr
 refine qo6 (vw hu) (vw hv) hr0 hn fx fy (fun {xs ys a b its jts} hn fx fy q p q' p'=>?_) (fun {xs ys a b its jts} hn fx fy q p q' p'=>?_)
 ·by_cases hab:a = b
  ·subst hab
   have e:D.tup xs = D.tup ys:=DAt.inj (h:=s.heap) _ _ (v:=.ref a) (by rw [DAt]; exact ⟨a,its,rfl,q,p⟩) (by rw [DAt]; exact ⟨a,jts,rfl,q',p'⟩)
   obtain rfl:xs = ys:=by injection e
   rw [ji5 xs fx]
   exact EqAt.same _
  ·rw [<- ke6 p p']
   exact EqAt.of_refs hab (RcAt.tuples (j9 q) (j9 q') hr0 (jj6 p p' fun x y u v m1 m2 g1 g2=>ih _ (by rw [<- hn,dep]; have:=jc5 m1; lia) _ _ (Q9 fx m1) (Q9 fy m2) g1 g2 rfl (by show A.units + 1 + _ < _; rw [<- hn,dep] at hr; have:=jc5 m1; lia)))
 ·by_cases hab:a = b
  ·subst hab
   have e:D.lst xs = D.lst ys:=DAt.inj (h:=s.heap) _ _ (v:=.ref a) (by rw [DAt]; exact ⟨a,its,rfl,q,p⟩) (by rw [DAt]; exact ⟨a,jts,rfl,q',p'⟩)
   obtain rfl:xs = ys:=by injection e
   rw [ji5 xs fx]
   exact EqAt.same _
  ·refine EqAt.of_refs hab ?_
   by_cases hl:its.size = jts.size
   ·rw [<- ky6 p p' hl]
    exact RcAt.lists q.isList q'.isList hl hr0 (jj6 p p' fun x y u v m1 m2 g1 g2=>ih _ (by rw [<- hn,dep]; have:=jc5 m1; lia) _ _ (Q9 fx m1) (Q9 fy m2) g1 g2 rfl (by show A.units + 1 + _ < _; rw [<- hn,dep] at hr; have:=jc5 m1; lia))
   ·rw [<- ks5 p p' hl]
    exact RcAt.lists_lengths q.isList q'.isList (by simpa using hl) hr0
end
end Dm
end T_Dd
section T_Dl
namespace Dm
open PySem PyProof.Rows L2 HT
mutual
noncomputable def decD:(a b:D) -> Decidable (a = b)
 | .non,.non=>Decidable.isTrue rfl
 | .bl a,.bl b=>if h:a = b then Decidable.isTrue (by rw [h]) else Decidable.isFalse fun e=>h (by injection e)
 | .int a,.int b=>if h:a = b then Decidable.isTrue (by rw [h]) else Decidable.isFalse fun e=>h (by injection e)
 | .str a,.str b=>if h:a = b then Decidable.isTrue (by rw [h]) else Decidable.isFalse fun e=>h (by injection e)
 | .tup a,.tup b=>match qc1 a b with
  | Decidable.isTrue h=>Decidable.isTrue (by rw [h])
  | Decidable.isFalse h=>Decidable.isFalse fun e=>h (by injection e)
 | .lst a,.lst b=>match qc1 a b with
  | Decidable.isTrue h=>Decidable.isTrue (by rw [h])
  | Decidable.isFalse h=>Decidable.isFalse fun e=>h (by injection e)
 | .brd t a,.brd u b=>if ht:t = u then match qc1 a b with
  | Decidable.isTrue h=>Decidable.isTrue (by rw [h,ht])
  | Decidable.isFalse h=>Decidable.isFalse fun e=>h (by injection e)
  else Decidable.isFalse fun e=>ht (by injection e)
 | .non,.bl _=>Decidable.isFalse nofun | .non,.int _=>Decidable.isFalse nofun | .non,.str _=>Decidable.isFalse nofun | .non,.tup _=>Decidable.isFalse nofun | .non,.lst _=>Decidable.isFalse nofun | .non,.brd _ _=>Decidable.isFalse nofun
 | .bl _,.non=>Decidable.isFalse nofun | .bl _,.int _=>Decidable.isFalse nofun | .bl _,.str _=>Decidable.isFalse nofun | .bl _,.tup _=>Decidable.isFalse nofun | .bl _,.lst _=>Decidable.isFalse nofun | .bl _,.brd _ _=>Decidable.isFalse nofun
 | .int _,.non=>Decidable.isFalse nofun | .int _,.bl _=>Decidable.isFalse nofun | .int _,.str _=>Decidable.isFalse nofun | .int _,.tup _=>Decidable.isFalse nofun | .int _,.lst _=>Decidable.isFalse nofun | .int _,.brd _ _=>Decidable.isFalse nofun
 | .str _,.non=>Decidable.isFalse nofun | .str _,.bl _=>Decidable.isFalse nofun | .str _,.int _=>Decidable.isFalse nofun | .str _,.tup _=>Decidable.isFalse nofun | .str _,.lst _=>Decidable.isFalse nofun | .str _,.brd _ _=>Decidable.isFalse nofun
 | .tup _,.non=>Decidable.isFalse nofun | .tup _,.bl _=>Decidable.isFalse nofun | .tup _,.int _=>Decidable.isFalse nofun | .tup _,.str _=>Decidable.isFalse nofun | .tup _,.lst _=>Decidable.isFalse nofun | .tup _,.brd _ _=>Decidable.isFalse nofun
 | .lst _,.non=>Decidable.isFalse nofun | .lst _,.bl _=>Decidable.isFalse nofun | .lst _,.int _=>Decidable.isFalse nofun | .lst _,.str _=>Decidable.isFalse nofun | .lst _,.tup _=>Decidable.isFalse nofun | .lst _,.brd _ _=>Decidable.isFalse nofun
 | .brd _ _,.non=>Decidable.isFalse nofun | .brd _ _,.bl _=>Decidable.isFalse nofun | .brd _ _,.int _=>Decidable.isFalse nofun | .brd _ _,.str _=>Decidable.isFalse nofun | .brd _ _,.tup _=>Decidable.isFalse nofun | .brd _ _,.lst _=>Decidable.isFalse nofun
noncomputable def qc1:(a b:List D) -> Decidable (a = b)
 | [],[]=>Decidable.isTrue rfl
 | [],_ :: _=>Decidable.isFalse nofun
 | _ :: _,[]=>Decidable.isFalse nofun
 | a :: as,b :: bs=>match decD a b,qc1 as bs with
  | Decidable.isTrue h,Decidable.isTrue h'=>Decidable.isTrue (by rw [h,h'])
  | Decidable.isFalse h,_=>Decidable.isFalse fun e=>h (by injection e)
  | _,Decidable.isFalse h=>Decidable.isFalse fun e=>h (by injection e)
end
noncomputable instance:DecidableEq D:=decD
mutual
noncomputable def fl:D -> List Int
 | .int i=>[i]
 | .tup ds=>fls ds
 | .lst ds=>fls ds
 | _=>[]
noncomputable def fls:List D -> List Int
 | []=>[]
 | d :: ds=>fl d ++ fls ds
end
mutual
noncomputable def shp:D -> D -> Bool
 | .int _,.int _=>true
 | .tup xs,.tup ys=>shps xs ys
 | .lst xs,.lst ys=>shps xs ys
 | _,_=>false
noncomputable def shps:List D -> List D -> Bool
 | [],[]=>true
 | x :: xs,y :: ys=>shp x y && shps xs ys
 | _,_=>false
end
mutual
theorem kb3:∀ (x y:D),shp x y = true -> (fl x).length = (fl y).length
 | .int _,.int _,_=>rfl
 | .tup xs,.tup ys,h=>by rw [fl,fl]; exact jz6 xs ys (by rw [shp] at h; exact h)
 | .lst xs,.lst ys,h=>by rw [fl,fl]; exact jz6 xs ys (by rw [shp] at h; exact h)
 | .non,y,h=>by cases y <;> simp [shp] at h
 | .bl _,y,h=>by cases y <;> simp [shp] at h
 | .str _,y,h=>by cases y <;> simp [shp] at h
 | .brd _ _,y,h=>by cases y <;> simp [shp] at h
 | .int _,.non,h=>by simp [shp] at h
 | .int _,.bl _,h=>by simp [shp] at h
 | .int _,.str _,h=>by simp [shp] at h
 | .int _,.tup _,h=>by simp [shp] at h
 | .int _,.lst _,h=>by simp [shp] at h
 | .int _,.brd _ _,h=>by simp [shp] at h
 | .tup _,.non,h=>by simp [shp] at h
 | .tup _,.bl _,h=>by simp [shp] at h
 | .tup _,.str _,h=>by simp [shp] at h
 | .tup _,.int _,h=>by simp [shp] at h
 | .tup _,.lst _,h=>by simp [shp] at h
 | .tup _,.brd _ _,h=>by simp [shp] at h
 | .lst _,.non,h=>by simp [shp] at h
 | .lst _,.bl _,h=>by simp [shp] at h
 | .lst _,.str _,h=>by simp [shp] at h
 | .lst _,.int _,h=>by simp [shp] at h
 | .lst _,.tup _,h=>by simp [shp] at h
 | .lst _,.brd _ _,h=>by simp [shp] at h
theorem jz6:∀ (xs ys:List D),shps xs ys = true -> (fls xs).length = (fls ys).length
 | [],[],_=>rfl
 | [],_ :: _,h=>by simp [shps] at h
 | _ :: _,[],h=>by simp [shps] at h
 | x :: xs,y :: ys,h=>by
  rw [shps,Bool.and_eq_true] at h
  rw [fls,fls,List.length_append,List.length_append,kb3 x y h.1,jz6 xs ys h.2]
end
theorem Y0 {x y:D} (h:shp x y = true):(∃ i j,x = .int i /\ y = .int j) \/ (∃ xs ys,x = .tup xs /\ y = .tup ys /\ shps xs ys = true) \/ (∃ xs ys,x = .lst xs /\ y = .lst ys /\ shps xs ys = true):=by
 cases x <;> cases y <;> simp [shp] at h
 ·exact .inl ⟨_,_,rfl,rfl⟩
 ·exact .inr (.inl ⟨_,_,rfl,rfl,h⟩)
 ·exact .inr (.inr ⟨_,_,rfl,rfl,h⟩)
mutual
theorem qa1:∀ (x y:D),shp x y = true -> fl x = fl y -> x = y
 | .int i,y,h,e=>by
  rcases Y0 h with ⟨i',j,e1,rfl⟩ | ⟨_,_,e1,_⟩ | ⟨_,_,e1,_⟩
  ·rw [fl,fl] at e; injection e with e; rw [e]
  ·cases e1
  ·cases e1
 | .tup xs,y,h,e=>by
  rcases Y0 h with ⟨_,_,e1,_⟩ | ⟨xs',ys,e1,rfl,q⟩ | ⟨_,_,e1,_⟩
  ·cases e1
  ·obtain rfl:xs = xs':=by injection e1
   rw [fl,fl] at e
   rw [jy7 xs ys q e]
  ·cases e1
 | .lst xs,y,h,e=>by
  rcases Y0 h with ⟨_,_,e1,_⟩ | ⟨_,_,e1,_⟩ | ⟨xs',ys,e1,rfl,q⟩
  ·cases e1
  ·cases e1
  ·obtain rfl:xs = xs':=by injection e1
   rw [fl,fl] at e
   rw [jy7 xs ys q e]
 | .non,y,h,_=>by cases y <;> simp [shp] at h
 | .bl _,y,h,_=>by cases y <;> simp [shp] at h
 | .str _,y,h,_=>by cases y <;> simp [shp] at h
 | .brd _ _,y,h,_=>by cases y <;> simp [shp] at h
theorem jy7:∀ (xs ys:List D),shps xs ys = true -> fls xs = fls ys -> xs = ys
 | [],[],_,_=>rfl
 | [],_ :: _,h,_=>by simp [shps] at h
 | _ :: _,[],h,_=>by simp [shps] at h
 | x :: xs,y :: ys,h,e=>by
  rw [shps,Bool.and_eq_true] at h
  rw [fls,fls] at e
  obtain ⟨e1,e2⟩:=List.append_inj e (kb3 x y h.1)
  rw [qa1 x y h.1 e1,jy7 xs ys h.2 e2]
end
mutual
theorem ka1:∀ (x y:D),shp x y = true -> flat x = true /\ flat y = true
 | .int i,y,h=>by
  rcases Y0 h with ⟨_,j,_,rfl⟩ | ⟨_,_,e1,_⟩ | ⟨_,_,e1,_⟩
  ·exact ⟨by rw [flat] <;> simp,by rw [flat] <;> simp⟩
  ·cases e1
  ·cases e1
 | .tup xs,y,h=>by
  rcases Y0 h with ⟨_,_,e1,_⟩ | ⟨xs',ys,e1,rfl,q⟩ | ⟨_,_,e1,_⟩
  ·cases e1
  ·obtain rfl:xs = xs':=by injection e1
   rw [flat,flat]; exact js1 xs ys q
  ·cases e1
 | .lst xs,y,h=>by
  rcases Y0 h with ⟨_,_,e1,_⟩ | ⟨_,_,e1,_⟩ | ⟨xs',ys,e1,rfl,q⟩
  ·cases e1
  ·cases e1
  ·obtain rfl:xs = xs':=by injection e1
   rw [flat,flat]; exact js1 xs ys q
 | .non,y,h=>by cases y <;> simp [shp] at h
 | .bl _,y,h=>by cases y <;> simp [shp] at h
 | .str _,y,h=>by cases y <;> simp [shp] at h
 | .brd _ _,y,h=>by cases y <;> simp [shp] at h
theorem js1:∀ (xs ys:List D),shps xs ys = true -> U5 xs = true /\ U5 ys = true
 | [],[],_=>⟨by rw [U5],by rw [U5]⟩
 | [],_ :: _,h=>by simp [shps] at h
 | _ :: _,[],h=>by simp [shps] at h
 | x :: xs,y :: ys,h=>by
  rw [shps,Bool.and_eq_true] at h
  obtain ⟨a,b⟩:=ka1 x y h.1
  obtain ⟨c,d⟩:=js1 xs ys h.2
  rw [U5,U5,a,b,c,d]; exact ⟨rfl,rfl⟩
end
mutual
theorem ql4:∀ (x y:D),shp x y = true -> eqD x y = decide (fl x = fl y)
 | .int i,y,h=>by
  rcases Y0 h with ⟨_,j,_,rfl⟩ | ⟨_,_,e1,_⟩ | ⟨_,_,e1,_⟩
  ·rw [eqD,fl,fl]
   by_cases c:i = j
   ·subst c; simp
   ·simp [c]
  ·cases e1
  ·cases e1
 | .tup xs,y,h=>by
  rcases Y0 h with ⟨_,_,e1,_⟩ | ⟨xs',ys,e1,rfl,q⟩ | ⟨_,_,e1,_⟩
  ·cases e1
  ·obtain rfl:xs = xs':=by injection e1
   rw [eqD,fl,fl]; exact ki6 xs ys q
  ·cases e1
 | .lst xs,y,h=>by
  rcases Y0 h with ⟨_,_,e1,_⟩ | ⟨_,_,e1,_⟩ | ⟨xs',ys,e1,rfl,q⟩
  ·cases e1
  ·cases e1
  ·obtain rfl:xs = xs':=by injection e1
   rw [eqD,fl,fl]; exact ki6 xs ys q
 | .non,y,h=>by cases y <;> simp [shp] at h
 | .bl _,y,h=>by cases y <;> simp [shp] at h
 | .str _,y,h=>by cases y <;> simp [shp] at h
 | .brd _ _,y,h=>by cases y <;> simp [shp] at h
theorem ki6:∀ (xs ys:List D),shps xs ys = true -> eqDs xs ys = decide (fls xs = fls ys)
 | [],[],_=>by rw [eqDs]; simp [fls]
 | [],_ :: _,h=>by simp [shps] at h
 | _ :: _,[],h=>by simp [shps] at h
 | x :: xs,y :: ys,h=>by
  rw [shps,Bool.and_eq_true] at h
  rw [eqDs,ql4 x y h.1,ki6 xs ys h.2,fls,fls]
  have l:=kb3 x y h.1
  by_cases c1:fl x = fl y
  ·rw [c1]
   by_cases c2:fls xs = fls ys
   ·rw [c2]; simp
   ·simp [c2]
  ·have:¬ (fl x ++ fls xs = fl y ++ fls ys):=fun z=>c1 (List.append_inj z l).1
   simp [c1,this]
end
theorem kh1:∀ {a c b d:List Int},a.length = c.length -> U7 (a ++ b) (c ++ d) = if a = c then U7 b d else U7 a c
 | [],[],b,d,_=>by simp
 | x :: a,y :: c,b,d,h=>by
  rw [List.cons_append,List.cons_append,U6,U6,kh1 (a:=a) (c:=c) (by simpa using h)]
  by_cases e:x = y
  ·subst e
   by_cases e2:a = c
   ·subst e2; simp
   ·simp [e2]
  ·simp [e]
theorem ka3:∀ a:List Int,U7 a a = false
 | []=>rfl
 | x :: a=>by rw [U6,if_pos rfl]; exact ka3 a
theorem ki5:∀ a b:List Int,U7 a b = false -> U7 b a = false -> a = b
 | [],[],_,_=>rfl
 | [],_ :: _,h,_=>by rw [jk6] at h; cases h
 | _ :: _,[],_,h=>by rw [jk6] at h; cases h
 | x :: a,y :: b,h1,h2=>by
  rw [U6] at h1 h2
  by_cases e:x = y
  ·subst e
   rw [if_pos rfl] at h1 h2
   rw [ki5 a b h1 h2]
  ·rw [if_neg e] at h1
   rw [if_neg (fun z=>e z.symm)] at h2
   have:=of_decide_eq_false h1
   have:=of_decide_eq_false h2
   lia
theorem jm9:∀ a b c:List Int,U7 a b = true -> U7 b c = true -> U7 a c = true
 | [],[],_,h,_=>by rw [jd0] at h; cases h
 | [],_ :: _,[],_,h=>by rw [jf2] at h; cases h
 | [],_ :: _,_ :: _,_,_=>rfl
 | _ :: _,[],_,h,_=>by rw [jf2] at h; cases h
 | _ :: _,_ :: _,[],_,h=>by rw [jf2] at h; cases h
 | x :: a,y :: b,z :: c,h1,h2=>by
  rw [U6] at h1 h2 ⊢
  by_cases e1:x = y
  ·subst e1
   rw [if_pos rfl] at h1
   by_cases e2:x = z
   ·subst e2
    rw [if_pos rfl] at h2 ⊢
    exact jm9 a b c h1 h2
   ·rw [if_neg e2] at h2 ⊢; exact h2
  ·rw [if_neg e1] at h1
   have k1:=of_decide_eq_true h1
   by_cases e2:y = z
   ·subst e2
    rw [if_neg e1]; exact h1
   ·rw [if_neg e2] at h2
    have k2:=of_decide_eq_true h2
    rw [if_neg (by lia)]
    exact decide_eq_true (by lia)
theorem qf8 (a b:List Int) (h:U7 a b = true):U7 b a = false:=by
 cases q:U7 b a with
 | false=>rfl
 | true=>have:=jm9 a b a h q; rw [ka3] at this; cases this
noncomputable def leL (a b:List Int):Bool:=!U7 b a
theorem qa2 (a b:List Int):(leL a b || leL b a) = true:=by
 unfold leL
 cases q:U7 b a with
 | false=>rfl
 | true=>rw [qf8 b a q]; rfl
theorem kc1 (a b c:List Int) (h1:leL a b = true) (h2:leL b c = true):leL a c = true:=by
 unfold leL at h1 h2 ⊢
 have h1:U7 b a = false:=by simpa using h1
 have h2:U7 c b = false:=by simpa using h2
 cases q:U7 c a with
 | false=>rfl
 | true =>
  by_cases e:a = b
  ·subst e; rw [h2] at q; cases q
  ·have:U7 a b = true:=by
    cases z:U7 a b with
    | true=>rfl
    | false=>exact absurd (ki5 a b z h1) e
   have:=jm9 c a b q this
   rw [h2] at this; cases this
theorem qc5 (a b:List Int) (h1:leL a b = true) (h2:leL b a = true):a = b:=ki5 a b (by simpa [leL] using h2) (by simpa [leL] using h1)
noncomputable def je2 (ds:List D):List D:=ds.mergeSort fun a b=>leL (fl a) (fl b)
theorem W5 (ds:List D):(je2 ds).Perm ds:=List.mergeSort_perm _ _
theorem jq1 (ds:List D):(je2 ds).Pairwise fun a b=>leL (fl a) (fl b) = true :=
 List.pairwise_mergeSort (le:=fun a b=>leL (fl a) (fl b)) (fun a b c=>kc1 (fl a) (fl b) (fl c)) (fun a b=>qa2 (fl a) (fl b)) ds
theorem ja0 {ds es:List D} (hs:∀ a ∈ ds,∀ b ∈ ds,shp a b = true) (hp:es.Perm ds) (hw:es.Pairwise fun a b=>leL (fl a) (fl b) = true):es = je2 ds:=by
 refine List.Perm.eq_of_pairwise (le:=fun a b=>leL (fl a) (fl b) = true) (fun a b ha hb h1 h2=>?_) hw (jq1 ds) (hp.trans (W5 ds).symm)
 exact qa1 a b (hs a (hp.mem_iff.mp ha) b ((W5 ds).mem_iff.mp hb)) (qc5 _ _ h1 h2)
end Dm
end T_Dl
section T_Dm2
namespace Dm
open PySem PyProof.Rows L2 HT PySem.SeqAt
noncomputable def LtAt (A:Around) (s:Shared) (u v:Value) (b:Bool):Prop :=
 ∀ (prog:Program) (w:World) (E:Value -> Shared -> Prop) (Q:Value -> Shared -> Prop),Q (.bool b) s -> wpAny (model prog w) A (richCompare .Lt u v) Q E s
inductive PL (A:Around) (s:Shared):List Value -> List Value -> List D -> List D -> Prop
 | nil:PL A s [] [] [] []
 | cons {v w:Value} {x y:D} {vs ws:List Value} {xs ys:List D}:EqAt A s v w (decide (fl x = fl y)) -> LtAt A s v w (U7 (fl x) (fl y)) -> (fl x).length = (fl y).length -> PL A s vs ws xs ys -> PL A s (v :: vs) (w :: ws) (x :: xs) (y :: ys)
theorem PL.len {A:Around} {s:Shared} {vs ws:List Value} {xs ys:List D} (h:PL A s vs ws xs ys):vs.length = ws.length:=by
 induction h with
 | nil=>rfl
 | cons _ _ _ _ ih=>rw [List.length_cons,List.length_cons,ih]
section
open PySem.AutoSeq1 (wpAny_loadPart')
open PySem.MeetsSeq PySem.MeetsSeq2 PySem.MeetsSeq3
theorem kn8 (l b:Addr) (items items2:Array Value) (n n2:Nat) (dd dd2:Option Addr) (sl sl2:Array (Option Value)) (xs ys:List D) :
  Meets (Builtin.«tuple.__lt__» ⟨[.ref l,.ref b],[]⟩) (fun A R s =>
   s.heap.get? l = some { cls:=.type "tuple",dict:=dd,data:=.seq items n,slots:=sl } /\
   s.heap.get? b = some { cls:=.type "tuple",dict:=dd2,data:=.seq items2 n2,slots:=sl2 } /\
   PL A.in1 s items.toList items2.toList xs ys /\ R (.ok (.ret (.bool (U7 (fls xs) (fls ys))))) s) :=
 .of_wp fun prog w A R s h=>by
  obtain ⟨hp,g,d,tk,os⟩:=s
  obtain ⟨hl,hb,hP,h⟩:=h
  have f2:=AutoSeq1.sub_tuple_tuple
  have lens:items.size = items2.size:=by simpa using hP.len
  wp_walk using wpAny_loadPart' hl,wpAny_loadPart' hb,wpAny_forIn_list _ (fun rest b s'=>b.1 = none /\ s' = ⟨hp,g,d,tk,os⟩ /\ ∃ (vs ws:List Value) (xs' ys':List D),rest = vs.zip ws /\
   PL A.in1 ⟨hp,g,d,tk,os⟩ vs ws xs' ys' /\ R (.ok (.ret (.bool (U7 (fls xs') (fls ys'))))) ⟨hp,g,d,tk,os⟩) _
  case turn =>
   rintro ⟨y,x⟩ rest b s' ⟨hb',rfl,vs,ws,xs',ys',hz,hP',hR⟩
   cases hP' with
   | nil=>cases hz
   | @cons v0 w0 x0 y0 _ _ _ _ he hlt hfl hP'' =>
    rw [List.zip_cons_cons] at hz
    injection hz with hyx hrest
    injection hyx with hy hx
    subst hy hx
    rw [fls,fls,kh1 hfl] at hR
    refine wpAny_bind (he prog w _ _ ?_)
    by_cases c:fl x0 = fl y0
    ·rw [if_pos c] at hR
     rw [decide_eq_true c]
     wp_walk
     exact ⟨rfl,rfl,_,_,_,_,hrest,hP'',hR⟩
    ·rw [if_neg c] at hR
     rw [decide_eq_false c]
     have hri:=hlt prog w
     wp_walk using hri
     exact ⟨_,rfl,by simpa using hR⟩
  case fin =>
   rintro ⟨b1,b2⟩ s' ⟨hb',rfl,vs,ws,xs',ys',hz,hP',hR⟩
   simp only at hb'
   subst hb'
   cases hP' with
   | cons _ _ _ _=>cases hz
   | nil =>
    wp_walk
    refine ⟨_,rfl,?_⟩
    simpa [Builtin.Tuple.tupleCompareSizes,lens,fls,jd0] using hR
  case h=>exact ⟨rfl,rfl,items.toList,items2.toList,xs,ys,rfl,hP,h⟩
end
mutual
noncomputable def nl:D -> Bool
 | .lst _=>false
 | .tup ds=>nls ds
 | _=>true
noncomputable def nls:List D -> Bool
 | []=>true
 | d :: ds=>nl d && nls ds
end
section
variable {s:Shared}
mutual
theorem vb9:∀ (x y:D) {A:Around} {u v:Value},shp x y = true -> nl x = true -> DAt s.heap x u -> DAt s.heap y v -> A.units + dep x < cLine -> LtAt A s u v (U7 (fl x) (fl y))
 | .int i,y,A,u,v,h,_,hu,hv,_=>by
  rcases Y0 h with ⟨_,j,_,rfl⟩ | ⟨_,_,e1,_⟩ | ⟨_,_,e1,_⟩
  ·rw [DAt] at hu
   rw [DAt] at hv
   obtain ⟨t,rfl⟩:=hu
   obtain ⟨t',rfl⟩:=hv
   intro prog w E Q hq
   refine qj2 A s i t j t' prog w E Q ?_
   rw [fl,fl,U6,jd0] at hq
   by_cases c:i = j
   ·rw [if_pos c] at hq
    rw [decide_eq_false (by lia)]; exact hq
   ·rw [if_neg c] at hq; exact hq
  ·cases e1
  ·cases e1
 | .tup xs,y,A,u,v,h,hn,hu,hv,hr=>by
  rcases Y0 h with ⟨_,_,e1,_⟩ | ⟨xs',ys,e1,rfl,q⟩ | ⟨_,_,e1,_⟩
  ·cases e1
  ·obtain rfl:xs = xs':=by injection e1
   rw [DAt] at hu
   rw [DAt] at hv
   refine x2_3 hu fun a it zo2 t1 p1=>?_
   clear hu
   obtain rfl:=zo2
   refine x2_3 hv fun b it2 zo2 t2 p2=>?_
   clear hv
   obtain rfl:=zo2
   rw [dep] at hr
   rw [nl] at hn
   obtain ⟨⟨cls,dd,data,sl⟩,ho,hc,n,hd⟩:=id t1
   obtain ⟨⟨cls2,dd2,data2,sl2⟩,ho2,hc2,n2,hd2⟩:=id t2
   simp only at hc hd hc2 hd2
   subst hc hd hc2 hd2
   intro prog w E Q hq
   rw [fl,fl] at hq
   exact richCompare_meets_room (op:=.Lt) ⟨_,ho,rfl⟩ ⟨_,ho2,rfl⟩ PySem.F.slot_tuple_lt PySem.F.entry_tuple_lt (PySem.F.args_tuple_lt_2 _ _) (kn8 a b it it2 n n2 dd dd2 sl sl2 xs ys)
    ⟨ho,ho2,pl_D xs ys q hn p1 p2 (A:=A.in1) (by show A.units + 1 + _ < _; lia),show Value.bool (U7 (fls xs) (fls ys)) ≠ Value.notImplemented /\ Q _ s from ⟨(fun x=>nomatch x),hq⟩⟩ (by lia)
  ·cases e1
 | .lst xs,y,A,u,v,h,hn,_,_,_=>by rw [nl] at hn; cases hn
 | .non,y,_,_,_,h,_,_,_,_=>by cases y <;> simp [shp] at h
 | .bl _,y,_,_,_,h,_,_,_,_=>by cases y <;> simp [shp] at h
 | .str _,y,_,_,_,h,_,_,_,_=>by cases y <;> simp [shp] at h
 | .brd _ _,y,_,_,_,h,_,_,_,_=>by cases y <;> simp [shp] at h
theorem pl_D:∀ (xs ys:List D) {A:Around} {vs ws:List Value},shps xs ys = true -> nls xs = true -> DAts s.heap xs vs -> DAts s.heap ys ws -> A.units + deps xs < cLine -> PL A s vs ws xs ys
 | [],[],A,vs,ws,_,_,h1,h2,_=>by rw [DAts] at h1 h2; subst h1; subst h2; exact .nil
 | [],_ :: _,_,_,_,h,_,_,_,_=>by simp [shps] at h
 | _ :: _,[],_,_,_,h,_,_,_,_=>by simp [shps] at h
 | x :: xs,y :: ys,A,vs,ws,h,hn,h1,h2,hr=>by
  rw [DAts] at h1
  rw [DAts] at h2
  refine x2_3 h1 fun v r zo2 a1 a2=>?_
  clear h1
  obtain rfl:=zo2
  refine x2_3 h2 fun v' r' zo2 b1 b2=>?_
  clear h2
  obtain rfl:=zo2
  rw [shps,Bool.and_eq_true] at h
  rw [nls,Bool.and_eq_true] at hn
  rw [deps] at hr
  obtain ⟨f1,f2⟩:=ka1 x y h.1
  refine .cons ?_ (vb9 x y h.1 hn.1 a1 b1 (by lia)) (kb3 x y h.1) (pl_D xs ys h.2 hn.2 a2 b2 (by lia))
  rw [<- ql4 x y h.1]
  exact jv9 x y f1 f2 a1 b1 (by lia)
end
end
end Dm
end T_Dm2
section T_Dm3
namespace Dm
open PySem PySem.W PyProof.Rows L2 HT PySem.SeqAt So
mutual
theorem DAt.keep {h h':Heap} (k:∀ b o,h.get? b = some o -> h'.get? b = some o):∀ (d:D) {v:Value},DAt h d v -> DAt h' d v
 | .non,v,q=>by rw [DAt] at q ⊢; exact q
 | .bl b,v,q=>by rw [DAt] at q ⊢; exact q
 | .int i,v,q=>by rw [DAt] at q ⊢; exact q
 | .str x,v,q=>by rw [DAt] at q ⊢; exact q
 | .tup ds,v,q=>by
  rw [DAt] at q ⊢
  refine x2_3 q fun a it e t p=>?_
  clear q
  exact ⟨a,it,e,t.keeps k,DAts.keep k ds p⟩
 | .lst ds,v,q=>by
  rw [DAt] at q ⊢
  refine x2_3 q fun a it e t p=>?_
  clear q
  exact ⟨a,it,e,t.keeps k,DAts.keep k ds p⟩
 | .brd tb ds,v,q=>by rw [DAt] at q; exact q.elim
theorem DAts.keep {h h':Heap} (k:∀ b o,h.get? b = some o -> h'.get? b = some o):∀ (ds:List D) {vs:List Value},DAts h ds vs -> DAts h' ds vs
 | [],_,q=>by rw [DAts] at q ⊢; exact q
 | d :: ds,_,q=>by
  rw [DAts] at q ⊢
  refine x2_3 q fun v r e a b=>?_
  clear q
  exact ⟨v,r,e,DAt.keep k d a,DAts.keep k ds b⟩
end
theorem DAts.of_map {h:Heap} {α:Type} (f:α -> D) (g:α -> Value):∀ (l:List α),(∀ x ∈ l,DAt h (f x) (g x)) -> DAts h (l.map f) (l.map g)
 | [],_=>by rw [List.map_nil,DAts]; rfl
 | x :: l,hx=>by
  rw [List.map_cons,List.map_cons,DAts]
  exact ⟨_,_,rfl,hx x (.head _),DAts.of_map f g l fun y hy=>hx y (.tail _ hy)⟩
theorem kw9 {α:Type} {p q:α -> Bool}:∀ (l:List α),(∀ x ∈ l,p x = true -> q x = true) -> l.countP p <= l.countP q
 | [],_=>Nat.le_refl _
 | x :: l,h=>by
  rw [List.countP_cons,List.countP_cons]
  have ih:=kw9 l fun y hy=>h y (.tail _ hy)
  by_cases c:p x = true
  ·rw [if_pos c,if_pos (h x (.head _) c)]; lia
  ·rw [if_neg c]; lia
theorem qk2 {α:Type} {p q:α -> Bool}:∀ (l:List α),(∀ x ∈ l,p x = true -> q x = true) -> ∀ z ∈ l,q z = true -> p z = false -> l.countP p < l.countP q
 | x :: l,h,z,hz,hq,hp=>by
  rw [List.countP_cons,List.countP_cons]
  rcases List.mem_cons.mp hz with e | e
  ·subst e
   rw [if_neg (by rw [hp]; exact Bool.false_ne_true),if_pos hq]
   have:=kw9 l fun y hy=>h y (.tail _ hy)
   lia
  ·have ih:=qk2 l (fun y hy=>h y (.tail _ hy)) z e hq hp
   by_cases c:p x = true
   ·rw [if_pos c,if_pos (h x (.head _) c)]; lia
   ·rw [if_neg c]; lia
noncomputable def rk (ds:List D) (i:Nat):Nat:=(List.range ds.length).countP fun j=>U7 (fl (ds.getD j .non)) (fl (ds.getD i .non))
theorem va8 (ds:List D) {i j:Nat} (hi:i < ds.length):U7 (fl (ds.getD i .non)) (fl (ds.getD j .non)) = decide (rk ds i < rk ds j):=by
 cases q:U7 (fl (ds.getD i .non)) (fl (ds.getD j .non)) with
 | true =>
  refine (decide_eq_true ?_).symm
  exact qk2 _ (fun k _ hk=>jm9 _ _ _ hk q) i (List.mem_range.mpr hi) q (ka3 _)
 | false =>
  refine (decide_eq_false (Nat.not_lt.mpr ?_)).symm
  refine kw9 _ fun k _ hk=>?_
  cases z:U7 (fl (ds.getD k .non)) (fl (ds.getD i .non)) with
  | true=>rfl
  | false =>
   have a:leL (fl (ds.getD i .non)) (fl (ds.getD k .non)) = true:=by unfold leL; rw [z]; rfl
   have b:leL (fl (ds.getD j .non)) (fl (ds.getD i .non)) = true:=by unfold leL; rw [q]; rfl
   have c:=kc1 _ _ _ b a
   unfold leL at c
   rw [hk] at c
   cases c
theorem kv2 {α:Type} (ds:List α) (z:α):(List.range ds.length).map (fun i=>ds.getD i z) = ds:=by
 refine List.ext_getElem (by simp) fun i h1 h2=>?_
 simp at h1
 simp [h1]
theorem qb6 {ds:List D} (hs:∀ a ∈ ds,∀ b ∈ ds,shp a b = true) {p:Array Nat} (hp:p.Perm (List.range ds.length).toArray) (hu:Up (rk ds) p ds.length):p.toList.map (fun i=>ds.getD i .non) = je2 ds:=by
 have pm:p.toList.Perm (List.range ds.length):=by
  have:=Array.perm_iff_toList_perm.mp hp
  simpa using this
 refine ja0 hs ?_ ?_
 ·have:=pm.map fun i=>ds.getD i D.non
  rw [kv2] at this
  exact this
 ·rw [List.pairwise_map,List.pairwise_iff_getElem]
  intro i j hi hj hij
  have sz:p.toList.length = ds.length:=by rw [pm.length_eq,List.length_range]
  have u:=hu i j (Nat.le_of_lt hij) (by lia)
  have e:∀ k (hk:k < p.toList.length),vl (rk ds) p k = rk ds p.toList[k]:=fun k hk=>by
   unfold vl
   have:k < p.size:=by rw [<- Array.length_toList]; exact hk
   simp [Array.getD,this]
  rw [e i hi,e j hj] at u
  unfold leL
  rw [va8 ds (i:=p.toList[j])]
  ·rw [decide_eq_false (by lia)]; rfl
  ·have:=pm.mem_iff.mp (List.getElem_mem hj)
   exact List.mem_range.mp this
inductive Sk:List D -> SortKind -> Prop
 | few {ds:List D} {kd:SortKind}:ds.length < 2 -> Sk ds kd
 | nums {ds:List D}:(∀ d ∈ ds,∃ i,d = .int i) -> Sk ds oneType'
 | tups {ds:List D}:(∀ d ∈ ds,∃ i xs,d = .tup (.int i :: xs)) -> Sk ds (tuples' true)
 | tupt {ds:List D}:(∀ d ∈ ds,∃ ys xs,d = .tup (.tup ys :: xs)) -> Sk ds (tuples' false)
section
variable {prog:Program} {w:World} {A:Around} {E:Value -> Shared -> Prop} {s:Shared}
theorem ki1 (i j:Int):U7 [i] [j] = decide (i < j):=by
 rw [U6,jd0]
 by_cases c:i = j
 ·rw [if_pos c,decide_eq_false (by lia)]
 ·rw [if_neg c]
theorem kl3 {b fin:Bool} {Q:Bool -> Shared -> Prop}:∀ (xs ys:List D) (vs ws:List Value) (i:Nat),(b = true -> i = 0 -> ∃ m n xs' ys',xs = .int m :: xs' /\ ys = .int n :: ys') -> shps xs ys = true -> PL A s vs ws xs ys -> DAts s.heap xs vs -> DAts s.heap ys ws -> fin = false -> Q (U7 (fls xs) (fls ys)) s ->
  KatLex prog w A b fin Q (vs.zip ws) i s
 | [],[],vs,ws,i,_,_,hP,h1,h2,hf,hq=>by
  rw [DAts] at h1 h2
  subst h1; subst h2
  show Q fin s
  rw [hf]
  exact hq
 | [],_ :: _,_,_,_,_,h,_,_,_,_,_=>by simp [shps] at h
 | _ :: _,[],_,_,_,_,h,_,_,_,_,_=>by simp [shps] at h
 | x :: xs,y :: ys,vs,ws,i,hb,h,hP,h1,h2,hf,hq=>by
  rw [DAts] at h1
  rw [DAts] at h2
  refine x2_3 h1 fun v r zo2 a1 a2=>?_
  clear h1
  obtain rfl:=zo2
  refine x2_3 h2 fun v' r' zo2 b1 b2=>?_
  clear h2
  obtain rfl:=zo2
  rw [shps,Bool.and_eq_true] at h
  cases hP with
  | cons he hl hfl hP' =>
   rw [fls,fls,kh1 hfl] at hq
   refine kat_cons (he prog w _ _ (kat_go (fun c=>kat_yes ?_) (fun c=>kat_no ?_)))
   ·have c:=of_decide_eq_true c
    rw [if_pos c] at hq
    exact kl3 xs ys r r' (i + 1) (fun _ z=>absurd z (Nat.succ_ne_zero _)) h.2 hP' a2 b2 hf hq
   ·have c:=of_decide_eq_false c
    rw [if_neg c] at hq
    by_cases hb':b = true /\ i = 0
    ·obtain ⟨hb1,hb2⟩:=hb'
     refine x4_2 (hb hb1 hb2) fun m n _ _ e1 e2=>?_
     obtain ⟨rfl,_⟩ : x = .int m /\ _:=List.cons.inj e1
     obtain ⟨rfl,_⟩ : y = .int n /\ _:=List.cons.inj e2
     rw [DAt] at a1
     rw [DAt] at b1
     obtain ⟨t,rfl⟩:=a1
     obtain ⟨t',rfl⟩:=b1
     rw [hb1,hb2]
     refine oneLt_int ?_
     rw [fl,fl,ki1] at hq
     exact hq
    ·have:(b && i == 0) = false:=by
      cases b with
      | false=>rfl
      | true =>
       have:i ≠ 0:=fun z=>hb' ⟨rfl,z⟩
       simp [this]
     rw [this]
     exact kat_one _ _ (hl prog w _ _ (show PySem.W.BoolBack Q (.bool (U7 (fl x) (fl y))) s from hq))
theorem jq4 {h:Heap} {ds:List D} {vs:List Value} (p:DAts h ds vs) {i:Nat} (hi:i < ds.length):DAt h (ds.getD i .non) (vs.getD i Value.none) /\ ds.getD i .non ∈ ds:=by
 have hv:i < vs.length:=by rw [p.len]; exact hi
 obtain ⟨a,b⟩:=p.get i hv
 have e:vs.getD i Value.none = vs[i]:=by simp [hv]
 rw [e]
 exact ⟨a,b⟩
theorem vd4 {ds:List D} {kd:SortKind} {vs:List Value} {i j:Nat} {C:Bool -> Shared -> Prop} (k:Sk ds kd) (h2:2 <= ds.length) (hs:∀ a ∈ ds,∀ b ∈ ds,shp a b = true) (hn:∀ a ∈ ds,nl a = true) (hd:∀ a ∈ ds,A.units + dep a < cLine) (p:DAts s.heap ds vs)
  (hi:i < ds.length) (hj:j < ds.length) (hc:C (decide (rk ds i < rk ds j)) s):wpAny (model prog w) A (keyLt' kd (vs.getD i Value.none) (vs.getD j Value.none)) C (fun _ _=>False) s:=by
 rw [<- va8 ds hi] at hc
 obtain ⟨ai,mi⟩:=jq4 p hi
 obtain ⟨aj,mj⟩:=jq4 p hj
 generalize ds.getD i .non = x at hc ai mi
 generalize ds.getD j .non = y at hc aj mj
 have tup:∀ {b:Bool} {xs ys:List D},x = .tup xs -> y = .tup ys -> (b = true -> ∃ m n xs' ys',xs = .int m :: xs' /\ ys = .int n :: ys') -> wpAny (model prog w) A (keyLt' (tuples' b) (vs.getD i Value.none) (vs.getD j Value.none)) C (fun _ _=>False) s:=by
  intro b xs ys ex ey hb
  have sh:=hs x mi y mj
  have nx:=hn x mi
  have dx:=hd x mi
  subst ex; subst ey
  rw [shp] at sh
  rw [nl] at nx
  rw [dep] at dx
  rw [DAt] at ai
  rw [DAt] at aj
  refine x2_3 ai fun a it e1 zo3 p1=>?_
  clear ai
  obtain ⟨o1,q1,_,n1,d1⟩:=zo3
  refine x2_3 aj fun b' it2 e2 zo3 p2=>?_
  clear aj
  obtain ⟨o2,q2,_,n2,d2⟩:=zo3
  rw [e1,e2]
  have P:=pl_D xs ys (A:=A) sh nx p1 p2 (by lia)
  refine kat_lt q1 d1 q2 d2 (kl3 xs ys _ _ 0 (fun h _=>hb h) sh P p1 p2 (decide_eq_false ?_) ?_)
  ·have:it.toList.length = it2.toList.length:=P.len
   simp at this
   lia
  ·rw [fl,fl] at hc
   exact hc
 cases k with
 | few h=>lia
 | nums h =>
  obtain ⟨m,rfl⟩:=h x mi
  obtain ⟨n,rfl⟩:=h y mj
  rw [DAt] at ai
  rw [DAt] at aj
  obtain ⟨t,e1⟩:=ai
  obtain ⟨t',e2⟩:=aj
  rw [e1,e2,keyLt'_oneType]
  refine oneLt_int ?_
  rw [fl,fl,ki1] at hc
  exact hc
 | tups h =>
  refine x2_1 (h x mi) fun m xs e1=>?_
  refine x2_1 (h y mj) fun n ys e2=>?_
  exact tup e1 e2 fun _=>⟨m,n,xs,ys,rfl,rfl⟩
 | tupt h =>
  refine x2_1 (h x mi) fun m xs e1=>?_
  refine x2_1 (h y mj) fun n ys e2=>?_
  exact tup e1 e2 fun z=>nomatch z
theorem kj2 {h:Heap}:∀ {ds:List D} {vs:List Value} (f:D -> Prop),(∀ d ∈ ds,∃ x xs,d = .tup (x :: xs) /\ f x) -> DAts h ds vs -> ∃ fs:List Value,fs.length = ds.length /\ KatTups h vs fs /\ ∀ v ∈ fs,∃ x,f x /\ DAt h x v
 | [],vs,f,_,p=>by
  rw [DAts] at p; subst p
  exact ⟨[],rfl,.nil,fun v hv=>absurd hv (by simp)⟩
 | d :: ds,vs,f,hd,p=>by
  rw [DAts] at p
  refine x2_3 p fun v r zo2 a b=>?_
  clear p
  obtain rfl:=zo2
  refine x1_3 (kj2 f (fun d hd'=>hd d (.tail _ hd')) b) fun fs l k e=>?_
  refine x2_2 (hd d (.head _)) fun x xs zo2 fx=>?_
  obtain rfl:=zo2
  rw [DAt] at a
  refine x2_3 a fun ad it zo2 zo3 p1=>?_
  clear a
  obtain rfl:=zo2
  obtain ⟨o1,q1,c1,n1,d1⟩:=zo3
  rw [DAts] at p1
  refine x2_3 p1 fun y r' e1 a1 _=>?_
  clear p1
  refine ⟨y :: fs,by rw [List.length_cons,List.length_cons,l],.cons q1 c1 d1 ?_ k,fun z hz=>?_⟩
  ·rw [<- Array.getElem?_toList,e1]; rfl
  ·rcases List.mem_cons.mp hz with rfl | hz
   ·exact ⟨x,fx,a1⟩
   ·exact e z hz
theorem qj0 {ds:List D} {kd:SortKind} {vs:List Value} {Q:SortKind -> Shared -> Prop} (k:Sk ds kd) (h2:2 <= ds.length) (p:DAts s.heap ds vs) (hq:Q kd s):wpAny (model prog w) A (keyKind' vs.toArray) Q E s:=by
 cases k with
 | few h=>lia
 | nums h =>
  refine kas_kind (T:=.type "int") (by rw [p.len]; exact h2) (fun v hv=>?_) (by decide) (by decide) hq
  obtain ⟨i,hi,e⟩:=List.mem_iff_getElem.mp hv
  obtain ⟨a,b⟩:=p.get i hi
  obtain ⟨m,em⟩:=h _ b
  rw [em,DAt] at a
  obtain ⟨t,et⟩:=a
  rw [<- e,et]
  exact Looks.now
 | tups h =>
  obtain ⟨fs,l,kt,e⟩:=kj2 (fun x=>∃ i,x = .int i) (fun d hd=>by obtain ⟨i,xs,e⟩:=h d hd; exact ⟨_,xs,e,i,rfl⟩) p
  refine kat_kind (T:=.type "int") kt (by lia) (fun v hv=>?_) (by decide) hq
  refine x1_2 (e v hv) fun x zo1 q=>?_
  obtain ⟨i,rfl⟩:=zo1
  rw [DAt] at q
  obtain ⟨t,rfl⟩:=q
  exact Looks.now
 | tupt h =>
  obtain ⟨fs,l,kt,e⟩:=kj2 (fun x=>∃ ys,x = .tup ys) (fun d hd=>by obtain ⟨ys,xs,e⟩:=h d hd; exact ⟨_,xs,e,ys,rfl⟩) p
  refine kat_kind (T:=.type "tuple") kt (by lia) (fun v hv=>?_) (by decide) hq
  refine x1_2 (e v hv) fun x zo1 q=>?_
  obtain ⟨ys,rfl⟩:=zo1
  rw [DAt] at q
  refine x2_3 q fun a it zo2 zo3 _=>?_
  clear q
  obtain rfl:=zo2
  obtain ⟨o1,q1,c1,_⟩:=zo3
  have lk:Looks (model prog w) s.heap (typeOf (.ref a)) o1.cls:=(Looks.ld q1).andThen .now
  rw [c1] at lk
  exact lk
theorem jt1 {v:Value} {Pd:List D -> SortKind -> List Value -> Prop} {Q:Value -> Shared -> Prop}
  (hk:∀ es kd vs,Pd es kd vs -> Sk es kd /\ es.length < 64 /\ (∀ a ∈ es,∀ b ∈ es,shp a b = true) /\ (∀ a ∈ es,nl a = true) /\ ∀ a ∈ es,A.units + 2 + dep a < cLine)
  (hcol:∀ R:List Value -> Shared -> Prop,(∀ h' tk es kd vs,(∀ b ob,s.heap.get? b = some ob -> h'.get? b = some ob) -> Pd es kd vs -> DAts h' es vs -> R vs { s with heap:=h',toks:=tk }) -> wpAny (model prog w) A.in1 (collect v) R E s)
  (h:∀ (h1 h':Heap) tk es kd vs L n (pm:List Nat),(∀ b ob,s.heap.get? b = some ob -> h1.get? b = some ob) -> (∀ b ob,h1.get? b = some ob -> h'.get? b = some ob) -> Pd es kd vs -> DAts h1 es vs -> h1.objs.size <= L -> (∀ i ∈ pm,i < es.length) -> je2 es = pm.map (fun i=>es.getD i .non) ->
   h'.get? L = some (seqObj "list" (pm.map fun i=>vs.getD i Value.none).toArray n) -> Q (.ref L) { s with heap:=h',toks:=tk }) :
  wpAny (model prog w) A (call (.builtin "sorted") [v]) Q E s:=by
 refine Calls.call_function_entry kind_sorted plain_sorted entry_sorted (args_sorted1 _) ?_
 unfold Builtin.«sorted»
 refine wpAny_bind (m:=checkCount "sorted" 1 1 _) (wpAny_pure ?_)
 refine wpAny_bind (hcol _ fun h1 tk es kd vs k1 pd p=>?_)
 refine x0_5 (hk es kd vs pd) fun sk l64 hs hn hd=>?_
 have lv:vs.length = es.length:=p.len
 have big:64 <= sizeLine:=by rw [sizeLine_eq]; decide
 refine wpAny_bind (wpAny_newList ?_ (by lia))
 have oL:(h1.push (seqObj "list" vs.toArray 0)).get? h1.objs.size = some (seqObj "list" vs.toArray 0):=Heap.get?_push_size _ rfl
 have nk:∀ h',ky9 h1.objs.size (h1.push (seqObj "list" vs.toArray 0)) h' -> ∀ b ob,h1.get? b = some ob -> h'.get? b = some ob:=fun h' kh b ob e=>kh b ob (Nat.ne_of_lt (Heap.lt_size e)) (Heap.get?_push_of_some _ e)
 refine wpAny_bind (wpAny_holding (wpAny_call_entry slot_list_sort ⟨_,oL,rfl⟩ entry_list_sort ?body (args_list_sort _)))
 case body =>
  refine kc7 (kd:=kd) (r:=rk es) (s:={ s with heap:=h1.push (seqObj "list" vs.toArray 0),toks:=tk }) oL (by lia) (fun h2 h' R kh hR=>qj0 sk (by lia) (p.keep (nk h' kh)) hR) (fun h2 h' i j C kh hi hj hC=>?_) fun h' n' pm kh hp hu ho=>?_
  ·exact vd4 sk (by lia) hs hn (fun a ha=>by have:=hd a ha; show A.units + 1 + 1 + _ < _; lia) (p.keep (nk h' kh)) (by lia) (by lia) hC
  ·rw [lv] at hp hu
   have lt:∀ i ∈ pm.toList,i < es.length:=fun i hi=>by
    have:=(Array.perm_iff_toList_perm.mp hp).mem_iff.mp hi
    simpa using this
   exact ⟨_,rfl,wpAny_pure ⟨_,rfl,h h1 h' tk es kd vs _ n' pm.toList k1 (nk h' kh) pd p (Nat.le_refl _) lt (qb6 hs hp hu).symm ho⟩⟩
end
end Dm
end T_Dm3
section T_Dn
namespace Dm
open PySem PyProof.Rows L2 PySem.SeqAt
section
variable {s:Shared}
theorem qq8 {A:Around} {d e:D} {u v:Value} {n:Nat} (x:Vw s.heap d u) (y:Vw s.heap e v) (hr0:A.units < cLine) (hn:dep d = n) (fx:flat d = true) (fy:flat e = true)
  (ht:∀ {xs ys:List D} {a b:Addr} {its jts:Array Value},dep (.tup xs) = n -> U5 xs = true -> U5 ys = true -> IsTup s.heap a its -> DAts s.heap xs its.toList -> IsTup s.heap b jts -> DAts s.heap ys jts.toList -> RcAt A s (.ref a) (.ref b) (eqDs xs ys))
  (hl:∀ {xs ys:List D} {a b:Addr} {its jts:Array Value},dep (.lst xs) = n -> U5 xs = true -> U5 ys = true -> PlainL s.heap a its -> DAts s.heap xs its.toList -> PlainL s.heap b jts -> DAts s.heap ys jts.toList -> RcAt A s (.ref a) (.ref b) (eqDs xs ys)):RcAt A s u v (eqD d e):=by
 cases x with
 | non =>
  cases y with
  | non=>exact RcAt.none_none
  | bl c=>exact RcAt.none_bool c
  | int j r=>exact RcAt.none_int j r
  | str y r=>exact RcAt.none_str y r
  | tup q' p'=>exact RcAt.none_tuple (j9 q') hr0
  | lst q' p'=>exact RcAt.none_list q'.isList hr0
 | bl b =>
  cases y with
  | non=>exact RcAt.bool_none b
  | bl c=>exact RcAt.bool_bool b c
  | int j r=>exact RcAt.bool_int b j r
  | str y r=>exact RcAt.bool_str b y r
  | tup q' p'=>exact RcAt.bool_tuple b (j9 q') hr0
  | lst q' p'=>exact RcAt.bool_list b q'.isList hr0
 | int i t =>
  cases y with
  | non=>exact RcAt.int_none i t
  | bl c=>exact RcAt.int_bool i t c
  | int j r=>exact RcAt.int_int i t j r
  | str y r=>exact RcAt.int_str i t y r
  | tup q' p'=>exact RcAt.int_tuple i t (j9 q') hr0
  | lst q' p'=>exact RcAt.int_list i t q'.isList hr0
 | str x t =>
  cases y with
  | non=>exact RcAt.str_none x t
  | bl c=>exact RcAt.str_bool x t c
  | int j r=>exact RcAt.str_int x t j r
  | str y r=>exact RcAt.str_str x t y r
  | tup q' p'=>exact RcAt.str_tuple x t (j9 q') hr0
  | lst q' p'=>exact RcAt.str_list x t q'.isList hr0
 | tup q p =>
  cases y with
  | non=>exact RcAt.tuple_none (j9 q) hr0
  | bl c=>exact RcAt.tuple_bool c (j9 q) hr0
  | int j r=>exact RcAt.tuple_int j r (j9 q) hr0
  | str y r=>exact RcAt.tuple_str y r (j9 q) hr0
  | tup q' p'=>exact ht hn (by rw [flat] at fx; exact fx) (by rw [flat] at fy; exact fy) q p q' p'
  | lst q' p'=>exact RcAt.tuple_list (j9 q) q'.isList hr0
 | lst q p =>
  cases y with
  | non=>exact RcAt.list_none q.isList hr0
  | bl c=>exact RcAt.list_bool c q.isList hr0
  | int j r=>exact RcAt.list_int j r q.isList hr0
  | str y r=>exact RcAt.list_str y r q.isList hr0
  | tup q' p'=>exact RcAt.list_tuple q.isList (j9 q') hr0
  | lst q' p'=>exact hl hn (by rw [flat] at fx; exact fx) (by rw [flat] at fy; exact fy) q p q' p'
theorem qy1 (d e:D) {A:Around} {u v:Value} (fx:flat d = true) (fy:flat e = true) (hu:DAt s.heap d u) (hv:DAt s.heap e v) (hr:A.units + dep d < cLine):RcAt A s u v (eqD d e):=by
 have hr0:A.units < cLine:=Nat.lt_of_le_of_lt (Nat.le_add_right _ _) hr
 refine qq8 (vw hu) (vw hv) hr0 rfl fx fy (fun {xs ys a b its jts} hn fx fy q p q' p'=>?_) (fun {xs ys a b its jts} hn fx fy q p q' p'=>?_)
 ·rw [<- ke6 p p']
  exact RcAt.tuples (j9 q) (j9 q') hr0 (jj6 p p' fun x y u v m1 m2 g1 g2=>jv9 _ _ (Q9 fx m1) (Q9 fy m2) g1 g2 (by show A.units + 1 + _ < _; rw [<- hn,dep] at hr; have:=jc5 m1; lia))
 ·by_cases hl:its.size = jts.size
  ·rw [<- ky6 p p' hl]
   exact RcAt.lists q.isList q'.isList hl hr0 (jj6 p p' fun x y u v m1 m2 g1 g2=>jv9 _ _ (Q9 fx m1) (Q9 fy m2) g1 g2 (by show A.units + 1 + _ < _; rw [<- hn,dep] at hr; have:=jc5 m1; lia))
  ·rw [<- ks5 p p' hl]
   exact RcAt.lists_lengths q.isList q'.isList (by simpa using hl) hr0
theorem kx9 {A:Around} {d e:D} {u v:Value} {n:Nat} (x:Vw s.heap d u) (y:Vw s.heap e v) (hr0:A.units < cLine) (hn:dep d = n) (fx:flat d = true) (fy:flat e = true)
  (ht:∀ {xs ys:List D} {a b:Addr} {its jts:Array Value},dep (.tup xs) = n -> U5 xs = true -> U5 ys = true -> IsTup s.heap a its -> DAts s.heap xs its.toList -> IsTup s.heap b jts -> DAts s.heap ys jts.toList -> RcNeAt A s (.ref a) (.ref b) (!eqDs xs ys))
  (hl:∀ {xs ys:List D} {a b:Addr} {its jts:Array Value},dep (.lst xs) = n -> U5 xs = true -> U5 ys = true -> PlainL s.heap a its -> DAts s.heap xs its.toList -> PlainL s.heap b jts -> DAts s.heap ys jts.toList -> RcNeAt A s (.ref a) (.ref b) (!eqDs xs ys)):RcNeAt A s u v (!eqD d e):=by
 cases x with
 | non =>
  cases y with
  | non=>exact RcNeAt.none_none
  | bl c=>exact RcNeAt.none_bool c
  | int j r=>exact RcNeAt.none_int j r
  | str y r=>exact RcNeAt.none_str y r
  | tup q' p'=>exact RcNeAt.none_tuple (j9 q') hr0
  | lst q' p'=>exact RcNeAt.none_list q'.isList hr0
 | bl b =>
  cases y with
  | non=>exact RcNeAt.bool_none b
  | bl c=>exact RcNeAt.bool_bool b c
  | int j r=>exact RcNeAt.bool_int b j r
  | str y r=>exact RcNeAt.bool_str b y r
  | tup q' p'=>exact RcNeAt.bool_tuple b (j9 q') hr0
  | lst q' p'=>exact RcNeAt.bool_list b q'.isList hr0
 | int i t =>
  cases y with
  | non=>exact RcNeAt.int_none i t
  | bl c=>exact RcNeAt.int_bool i t c
  | int j r=>exact RcNeAt.int_int i t j r
  | str y r=>exact RcNeAt.int_str i t y r
  | tup q' p'=>exact RcNeAt.int_tuple i t (j9 q') hr0
  | lst q' p'=>exact RcNeAt.int_list i t q'.isList hr0
 | str x t =>
  cases y with
  | non=>exact RcNeAt.str_none x t
  | bl c=>exact RcNeAt.str_bool x t c
  | int j r=>exact RcNeAt.str_int x t j r
  | str y r=>exact RcNeAt.str_str x t y r
  | tup q' p'=>exact RcNeAt.str_tuple x t (j9 q') hr0
  | lst q' p'=>exact RcNeAt.str_list x t q'.isList hr0
 | tup q p =>
  cases y with
  | non=>exact RcNeAt.tuple_none (j9 q) hr0
  | bl c=>exact RcNeAt.tuple_bool c (j9 q) hr0
  | int j r=>exact RcNeAt.tuple_int j r (j9 q) hr0
  | str y r=>exact RcNeAt.tuple_str y r (j9 q) hr0
  | tup q' p'=>exact ht hn (by rw [flat] at fx; exact fx) (by rw [flat] at fy; exact fy) q p q' p'
  | lst q' p'=>exact RcNeAt.tuple_list (j9 q) q'.isList hr0
 | lst q p =>
  cases y with
  | non=>exact RcNeAt.list_none q.isList hr0
  | bl c=>exact RcNeAt.list_bool c q.isList hr0
  | int j r=>exact RcNeAt.list_int j r q.isList hr0
  | str y r=>exact RcNeAt.list_str y r q.isList hr0
  | tup q' p'=>exact RcNeAt.list_tuple q.isList (j9 q') hr0
  | lst q' p'=>exact hl hn (by rw [flat] at fx; exact fx) (by rw [flat] at fy; exact fy) q p q' p'
theorem qb7 (d e:D) {A:Around} {u v:Value} (fx:flat d = true) (fy:flat e = true) (hu:DAt s.heap d u) (hv:DAt s.heap e v) (hr:A.units + dep d < cLine):RcNeAt A s u v (!eqD d e):=by
 have hr0:A.units < cLine:=Nat.lt_of_le_of_lt (Nat.le_add_right _ _) hr
 refine kx9 (vw hu) (vw hv) hr0 rfl fx fy (fun {xs ys a b its jts} hn fx fy q p q' p'=>?_) (fun {xs ys a b its jts} hn fx fy q p q' p'=>?_)
 ·rw [<- ke6 p p']
  exact RcNeAt.tuples (j9 q) (j9 q') hr0 (jj6 p p' fun x y u v m1 m2 g1 g2=>jv9 _ _ (Q9 fx m1) (Q9 fy m2) g1 g2 (by show A.units + 1 + _ < _; rw [<- hn,dep] at hr; have:=jc5 m1; lia))
 ·by_cases hl:its.size = jts.size
  ·rw [<- ky6 p p' hl]
   exact RcNeAt.lists q.isList q'.isList hl hr0 (jj6 p p' fun x y u v m1 m2 g1 g2=>jv9 _ _ (Q9 fx m1) (Q9 fy m2) g1 g2 (by show A.units + 1 + _ < _; rw [<- hn,dep] at hr; have:=jc5 m1; lia))
  ·rw [<- ks5 p p' hl]
   exact RcNeAt.lists_lengths q.isList q'.isList (by simpa using hl) hr0
end
end Dm
end T_Dn
section T_Rp
namespace Dm
open PySem PyProof.Rows L2 PySem.SeqAt
theorem Same.tup {K:PySem.W.Frag} {H H':Hp} {a:Addr} {xs:List V} (e:Same H H') (h:SqT K H a xs):SqT K H' a xs:=by
 rcases h with (h | ⟨o,h⟩) | h
 ·exact .inl (.inl (e _ _ h))
 ·exact .inl (.inr ⟨o,e _ _ h⟩)
 ·exact .inr h
noncomputable def er (H:Hp) (A:List Addr):Hp:=fun a=>if a ∈ A then none else H a
theorem jc4 {H:Hp} {A:List Addr} {a:Addr} (h:a ∈ A):er H A a = none:=if_pos h
theorem v8 {H:Hp} {A:List Addr} {a:Addr} (h:a ∉ A):er H A a = H a:=if_neg h
theorem v4 (H:Hp) (A:List Addr):Same (er H A) H:=fun b o h=>by
 by_cases q:b ∈ A
 ·rw [jc4 q] at h; cases h
 ·rwa [v8 q] at h
theorem q8 {H H':Hp} {A:List Addr} (e:Same H H'):Same (er H A) (er H' A):=fun b o h=>by
 by_cases q:b ∈ A
 ·rw [jc4 q] at h; cases h
 ·rw [v8 q] at h ⊢; exact e b o h
structure Cfg where
 ob:Nat -> PySem.W.Frag -> Hp -> Addr -> List V -> Prop
 mono:∀ {t:Nat} {K:PySem.W.Frag} {H H':Hp} {a:Addr} {vs:List V},Same H H' -> ob t K H a vs -> ob t K H' a vs
noncomputable def cfg0:Cfg:=⟨fun _ _ _ _ _=>False,fun _ h=>h⟩
mutual
noncomputable def Rep (K:PySem.W.Frag) (C:Cfg):Hp -> D -> V -> Prop
 | _,.non,v=>v = .non
 | _,.bl b,v=>v = .bl b
 | _,.int i,v=>v = .int i
 | _,.str x,v=>v = .str x
 | H,.tup ds,v=>∃ a xs,v = .ref a /\ SqT K H a xs /\ Reps K C H ds xs
 | H,.lst ds,v=>∃ a xs,v = .ref a /\ SqL K H a xs /\ Reps K C (er H [a]) ds xs
 | H,.brd t ds,v=>∃ a xs,v = .ref a /\ C.ob t K H a xs /\ Reps K C H ds xs
noncomputable def Reps (K:PySem.W.Frag) (C:Cfg):Hp -> List D -> List V -> Prop
 | _,[],vs=>vs = []
 | H,d :: ds,vs=>∃ v r,vs = v :: r /\ Rep K C H d v /\ Reps K C H ds r
end
section
variable {K:PySem.W.Frag} {C:Cfg}
mutual
theorem Rep.same:∀ {H H':Hp} (e:Same H H') (d:D) {v:V},Rep K C H d v -> Rep K C H' d v
 | _,_,e,.non,v,q=>by rw [Rep] at q ⊢; exact q
 | _,_,e,.bl b,v,q=>by rw [Rep] at q ⊢; exact q
 | _,_,e,.int i,v,q=>by rw [Rep] at q ⊢; exact q
 | _,_,e,.str x,v,q=>by rw [Rep] at q ⊢; exact q
 | _,_,e,.tup ds,v,q=>by
  rw [Rep] at q ⊢
  refine x2_3 q fun a xs h1 h2 h3=>?_
  clear q
  exact ⟨a,xs,h1,Same.tup e h2,Reps.same e ds h3⟩
 | _,_,e,.lst ds,v,q=>by
  rw [Rep] at q ⊢
  refine x2_3 q fun a xs h1 h2 h3=>?_
  clear q
  exact ⟨a,xs,h1,e.seq h2,Reps.same (q8 e) ds h3⟩
 | _,_,e,.brd t ds,v,q=>by
  rw [Rep] at q ⊢
  refine x2_3 q fun a xs h1 h2 h3=>?_
  clear q
  exact ⟨a,xs,h1,C.mono e h2,Reps.same e ds h3⟩
theorem Reps.same:∀ {H H':Hp} (e:Same H H') (ds:List D) {vs:List V},Reps K C H ds vs -> Reps K C H' ds vs
 | _,_,e,[],_,q=>by rw [Reps] at q ⊢; exact q
 | _,_,e,d :: ds,_,q=>by
  rw [Reps] at q ⊢
  refine x2_3 q fun v r e1 a b=>?_
  clear q
  exact ⟨v,r,e1,Rep.same e d a,Reps.same e ds b⟩
end
variable {H H':Hp}
theorem Rep.items {ds:List D} {v:V} (q:Rep K C H (.lst ds) v):∃ a xs,v = .ref a /\ SqL K H a xs /\ Reps K C H ds xs:=by
 rw [Rep] at q
 refine x2_3 q fun a xs h1 h2 h3=>?_
 clear q
 exact ⟨a,xs,h1,h2,h3.same (v4 _ _) _⟩
theorem Reps.len:∀ {ds:List D} {vs:List V},Reps K C H ds vs -> vs.length = ds.length
 | [],_,e=>by rw [Reps] at e; subst e; rfl
 | d :: ds,_,e=>by
  rw [Reps] at e
  refine x2_3 e fun v r zo2 _ q=>?_
  clear e
  obtain rfl:=zo2
  rw [List.length_cons,List.length_cons,q.len]
theorem Reps.get:∀ {ds:List D} {vs:List V} {j:Nat} {v:V},Reps K C H ds vs -> vs[j]? = some v -> ∃ d,ds[j]? = some d /\ Rep K C H d v
 | [],_,j,v,e,h=>by rw [Reps] at e; subst e; cases h
 | d :: ds,_,j,v,e,h=>by
  rw [Reps] at e
  refine x2_3 e fun u r zo2 a q=>?_
  clear e
  obtain rfl:=zo2
  cases j with
  | zero=>cases h; exact ⟨d,rfl,a⟩
  | succ j=>exact q.get (by simpa using h)
theorem Reps.get':∀ {ds:List D} {vs:List V} {j:Nat} {d:D},Reps K C H ds vs -> ds[j]? = some d -> ∃ v,vs[j]? = some v /\ Rep K C H d v
 | [],_,j,v,e,h=>by cases h
 | d :: ds,_,j,v,e,h=>by
  rw [Reps] at e
  refine x2_3 e fun u r zo2 a q=>?_
  clear e
  obtain rfl:=zo2
  cases j with
  | zero=>cases h; exact ⟨u,rfl,a⟩
  | succ j =>
   refine x1_2 (q.get' (j:=j) (by simpa using h)) fun z h1 h2=>?_
   exact ⟨z,by simpa using h1,h2⟩
theorem Reps.nil:Reps K C H [] []:=by rw [Reps]
theorem Reps.cons {d:D} {ds:List D} {v:V} {vs:List V} (a:Rep K C H d v) (b:Reps K C H ds vs):Reps K C H (d :: ds) (v :: vs):=by rw [Reps]; exact ⟨v,vs,rfl,a,b⟩
theorem Reps.app:∀ {ds es:List D} {vs ws:List V},Reps K C H ds vs -> Reps K C H es ws -> Reps K C H (ds ++ es) (vs ++ ws)
 | [],_,_,_,a,b=>by rw [Reps] at a; subst a; exact b
 | d :: ds,_,_,_,a,b=>by
  rw [Reps] at a
  refine x2_3 a fun v r zo2 a1 a2=>?_
  clear a
  obtain rfl:=zo2
  exact .cons a1 (a2.app b)
theorem Reps.take:∀ {ds:List D} {vs:List V} (n:Nat),Reps K C H ds vs -> Reps K C H (ds.take n) (vs.take n)
 | [],_,n,a=>by rw [Reps] at a; subst a; simp [Reps]
 | d :: ds,_,0,a=>by simp [Reps]
 | d :: ds,_,n + 1,a=>by
  rw [Reps] at a
  refine x2_3 a fun v r zo2 a1 a2=>?_
  clear a
  obtain rfl:=zo2
  rw [List.take_succ_cons,List.take_succ_cons]
  exact .cons a1 (a2.take n)
theorem Reps.drop:∀ {ds:List D} {vs:List V} (n:Nat),Reps K C H ds vs -> Reps K C H (ds.drop n) (vs.drop n)
 | [],_,n,a=>by rw [Reps] at a; subst a; simp [Reps]
 | d :: ds,_,0,a=>a
 | d :: ds,_,n + 1,a=>by
  rw [Reps] at a
  refine x2_3 a fun v r zo2 a1 a2=>?_
  clear a
  obtain rfl:=zo2
  rw [List.drop_succ_cons,List.drop_succ_cons]
  exact a2.drop n
theorem Reps.ints:∀ ns:List Int,Reps K C H (ns.map D.int) (ns.map V.int)
 | []=>.nil
 | n :: ns=>.cons (by rw [Rep]) (Reps.ints ns)
end
section
variable {X:Cx} {pins:List (Addr × Obj)} {σ:L2.St} {H:Hp} {s:Shared} {C:Cfg}
mutual
theorem Inv.dat (I:Inv X pins σ H s):∀ (d:D) {v:V} {u:Value},flat d = true -> Rep X.K C H d v -> RelV v u -> DAt s.heap d u
 | .non,v,u,_,q,r=>by rw [Rep] at q; subst q; rw [DAt]; exact r
 | .bl b,v,u,_,q,r=>by rw [Rep] at q; subst q; rw [DAt]; exact r
 | .int i,v,u,_,q,r=>by rw [Rep] at q; subst q; rw [DAt]; exact r
 | .str x,v,u,_,q,r=>by rw [Rep] at q; subst q; rw [DAt]; exact r
 | .tup ds,v,u,f,q,r=>by
  rw [Rep] at q
  rw [flat] at f
  refine x2_3 q fun a xs zo2 h2 h3=>?_
  clear q
  obtain rfl:=zo2
  obtain rfl:u = .ref a:=r
  refine x1_3 (I.tuple h2) fun its r1 t _=>?_
  rw [DAt]
  exact ⟨a,its.toArray,rfl,t,Inv.dats I ds f h3 r1⟩
 | .lst ds,v,u,f,q,r=>by
  have q:=q.items
  rw [flat] at f
  refine x2_3 q fun a xs zo2 h2 h3=>?_
  clear q
  obtain rfl:=zo2
  obtain rfl:u = .ref a:=r
  refine x1_3 (I.list h2) fun its r1 t _=>?_
  rw [DAt]
  exact ⟨a,its.toArray,rfl,t,Inv.dats I ds f h3 r1⟩
 | .brd tb ds,v,u,f,q,r=>by rw [flat] at f; cases f
theorem Inv.dats (I:Inv X pins σ H s):∀ (ds:List D) {vs:List V} {us:List Value},U5 ds = true -> Reps X.K C H ds vs -> Vals vs us -> DAts s.heap ds us
 | [],_,_,_,q,r=>by rw [Reps] at q; subst q; cases r; rw [DAts]
 | d :: ds,_,_,f,q,r=>by
  rw [Reps] at q
  refine x2_3 q fun v vs' zo2 a b=>?_
  clear q
  obtain rfl:=zo2
  rw [U5,Bool.and_eq_true] at f
  cases r with
  | cons r1 r2 =>
   rw [DAts]
   exact ⟨_,_,rfl,Inv.dat I d f.1 a r1,Inv.dats I ds f.2 b r2⟩
end
noncomputable def rEqD (K:PySem.W.Frag) (C:Cfg) (neg:Bool):R2:=fun x y H Q=>∃ d e,Rep K C H d x /\ Rep K C H e y /\ flat d = true /\ flat e = true /\ dep d <= 60 /\ Q (.bl (if neg then !eqD d e else eqD d e)) H
theorem jm4 (hu:X.A.units + 64 < cLine):OpR X (compareOp .Eq) (rEqD X.K C false):=by
 intro pins s σ H x y v u Q I rx ry ⟨d,e,h1,h2,f1,f2,h3,q⟩
 exact qy1 d e f1 f2 (Inv.dat I d f1 h1 rx) (Inv.dat I e f2 h2 ry) (by lia) _ _ _ _ ⟨.bl (eqD d e),H,I,rfl,q⟩
theorem jx8 (hu:X.A.units + 64 < cLine):OpR X (compareOp .NotEq) (rEqD X.K C true):=by
 intro pins s σ H x y v u Q I rx ry ⟨d,e,h1,h2,f1,f2,h3,q⟩
 exact qb7 d e f1 f2 (Inv.dat I d f1 h1 rx) (Inv.dat I e f2 h2 ry) (by lia) _ _ _ _ ⟨.bl (!eqD d e),H,I,rfl,q⟩
noncomputable def rInD (K:PySem.W.Frag) (C:Cfg) (neg:Bool):R2:=fun x y H Q=>∃ d es,Rep K C H d x /\ (Rep K C H (.lst es) y \/ Rep K C H (.tup es) y) /\ flat d = true /\ U5 es = true /\ deps es <= 60 /\ Q (.bl (if neg then !(es.any fun e=>eqD e d) else es.any fun e=>eqD e d)) H
noncomputable def kf1 (h:Heap) (d:D) (y:Value):Bool:=@decide (∃ e,DAt h e y /\ eqD e d = true) (Classical.propDecidable _)
theorem kk7 {h:Heap} {d e:D} {y:Value} (q:DAt h e y):kf1 h d y = eqD e d:=by
 unfold kf1
 cases z:eqD e d with
 | true=>exact @decide_eq_true _ (Classical.propDecidable _) ⟨e,q,z⟩
 | false =>
  refine @decide_eq_false _ (Classical.propDecidable _) ?_
  rintro ⟨e',q',z'⟩
  rw [DAt.inj e e' q q'] at z
  rw [z] at z'; cases z'
theorem jh8 {h:Heap} {d:D}:∀ (es:List D) {ys:List Value},DAts h es ys -> ys.any (kf1 h d) = es.any fun e=>eqD e d
 | [],_,q=>by rw [DAts] at q; subst q; rfl
 | e :: es,_,q=>by
  rw [DAts] at q
  refine x2_3 q fun v r zo2 a b=>?_
  clear q
  obtain rfl:=zo2
  rw [List.any_cons,List.any_cons,kk7 a,jh8 es b]
theorem jk3 {A:Around} {d:D} {x:Value} (fd:flat d = true) (hx:DAt s.heap d x) {es:List D} {ys:List Value} (f:U5 es = true) (q:DAts s.heap es ys) (hu:A.units + deps es < cLine):∀ y ∈ ys,EqAt A s y x (kf1 s.heap d y):=fun y hy=>by
 obtain ⟨j,hj,e⟩:=List.mem_iff_getElem.mp hy
 obtain ⟨a,b⟩:=q.get j hj
 rw [e] at a
 rw [kk7 a]
 have:=jc5 b
 exact jv9 _ _ (Q9 f b) fd a hx (by lia)
theorem jt2 (hu:X.A.units + 64 < cLine):OpR X (compareOp .In) (rInD X.K C false):=by
 intro pins s σ H x y v u Q I rx ry ⟨d,es,h1,h2,f1,f2,h3,q⟩
 have hd:=Inv.dat I d f1 h1 rx
 rcases h2 with h2 | h2
 ·have he:=Inv.dat I (.lst es) (by rw [flat]; exact f2) h2 ry
  rw [DAt] at he
  refine x2_3 he fun a it zo2 t p=>?_
  clear he
  obtain rfl:=zo2
  refine in_listAt (kf1 s.heap d) t.isList (fun y hy=>jk3 f1 hd f2 p (by show X.A.units + 1 + _ < _; lia) y (Array.mem_toList_iff.mpr hy)) ?_
  rw [<- Array.any_toList,jh8 es p]
  exact ⟨.bl (es.any fun e=>eqD e d),H,I,rfl,q⟩
 ·have he:=Inv.dat I (.tup es) (by rw [flat]; exact f2) h2 ry
  rw [DAt] at he
  refine x2_3 he fun a it zo2 t p=>?_
  clear he
  obtain rfl:=zo2
  refine in_tupleAt (kf1 s.heap d) (j9 t) (fun y hy=>jk3 f1 hd f2 p (by show X.A.units + 1 + _ < _; lia) y (Array.mem_toList_iff.mpr hy)) ?_
  rw [<- Array.any_toList,jh8 es p]
  exact ⟨.bl (es.any fun e=>eqD e d),H,I,rfl,q⟩
theorem jf6 (hu:X.A.units + 64 < cLine):OpR X (compareOp .NotIn) (rInD X.K C true):=by
 intro pins s σ H x y v u Q I rx ry ⟨d,es,h1,h2,f1,f2,h3,q⟩
 have hd:=Inv.dat I d f1 h1 rx
 rcases h2 with h2 | h2
 ·have he:=Inv.dat I (.lst es) (by rw [flat]; exact f2) h2 ry
  rw [DAt] at he
  refine x2_3 he fun a it zo2 t p=>?_
  clear he
  obtain rfl:=zo2
  refine notIn_listAt (kf1 s.heap d) t.isList (fun y hy=>jk3 f1 hd f2 p (by show X.A.units + 1 + _ < _; lia) y (Array.mem_toList_iff.mpr hy)) ?_
  rw [<- Array.any_toList,jh8 es p]
  exact ⟨.bl (!es.any fun e=>eqD e d),H,I,rfl,q⟩
 ·have he:=Inv.dat I (.tup es) (by rw [flat]; exact f2) h2 ry
  rw [DAt] at he
  refine x2_3 he fun a it zo2 t p=>?_
  clear he
  obtain rfl:=zo2
  refine notIn_tupleAt (kf1 s.heap d) (j9 t) (fun y hy=>jk3 f1 hd f2 p (by show X.A.units + 1 + _ < _; lia) y (Array.mem_toList_iff.mpr hy)) ?_
  rw [<- Array.any_toList,jh8 es p]
  exact ⟨.bl (!es.any fun e=>eqD e d),H,I,rfl,q⟩
end
end Dm
end T_Rp
section T_Rq
namespace Dm
open PySem PyProof.Rows L2 PySem.SeqAt Ts
section
variable {X:Cx} {C:Cfg}
theorem kh5 {ws:List V} {vs:List Value} (r:Vals ws vs):∀ (pm:List Nat),(∀ i ∈ pm,i < ws.length) -> Vals (pm.map fun i=>ws.getD i .non) (pm.map fun i=>vs.getD i Value.none)
 | [],_=>.nil
 | i :: pm,h=>by
  refine .cons ?_ (kh5 r pm fun j hj=>h j (.tail _ hj))
  have hi:=h i (.head _)
  refine x1_2 (r.get (List.getElem?_eq_getElem hi)) fun u h1 h2=>?_
  have e1:ws.getD i .non = ws[i]:=by simp [hi]
  have e2:vs.getD i Value.none = u:=by simp [h1]
  show RelV (ws.getD i .non) (vs.getD i Value.none)
  rw [e1,e2]; exact h2
theorem ki7 {K:PySem.W.Frag} {H:Hp} {ws:List V} {ds:List D} (r:Reps K C H ds ws):∀ (pm:List Nat),(∀ i ∈ pm,i < ds.length) -> Reps K C H (pm.map fun i=>ds.getD i .non) (pm.map fun i=>ws.getD i .non)
 | [],_=>.nil
 | i :: pm,h=>by
  refine .cons ?_ (ki7 r pm fun j hj=>h j (.tail _ hj))
  have hi:=h i (.head _)
  refine x1_2 (r.get' (List.getElem?_eq_getElem hi)) fun u h1 h2=>?_
  have e1:ds.getD i .non = ds[i]:=by simp [hi]
  have e2:ws.getD i .non = u:=by simp [h1]
  show Rep K C H (ds.getD i .non) (ws.getD i .non)
  rw [e1,e2]; exact h2
structure Sortable (ds:List D):Prop where
 kd:∃ kd,Sk ds kd
 few:ds.length < 64
 shp:∀ a ∈ ds,∀ b ∈ ds,shp a b = true
 nl:∀ a ∈ ds,nl a = true
 dep:∀ a ∈ ds,dep a <= 50
theorem jy0 {ds:List D} (h:∀ a ∈ ds,∀ b ∈ ds,shp a b = true):U5 ds = true:=jk1 fun d hd=>(ka1 d d (h d hd d hd)).1
noncomputable def qj7 (K:PySem.W.Frag) (C:Cfg):List V -> Hp -> VK -> Prop:=fun xs H Q=>∃ v ds,xs = [v] /\ Rep K C H (.lst ds) v /\ Sortable ds /\ ∀ p ws,H p = none -> Reps K C H (je2 ds) ws -> Q (.ref p) (upd H p (.lst ws))
theorem km3 {pins:List (Addr × Obj)} {σ:L2.St} {H:Hp} {s:Shared} {Q:VK} {h1 h':Heap} {tk L n:Nat} {ws:List V} {vs:List Value} (I:L2.Inv X pins σ H s) (k1:∀ b ob,s.heap.get? b = some ob -> h1.get? b = some ob) (k2:∀ b ob,h1.get? b = some ob -> h'.get? b = some ob)
  (hL:h1.objs.size <= L) (ho:h'.get? L = some (seqObj "list" vs.toArray n)) (r:Vals ws vs) (hz:ws.length <= sizeLine) (q:H L = none -> Q (.ref L) (upd H L (.lst ws))):EP X pins σ Q (.ref L) { s with heap:=h',toks:=tk }:=by
 have I1:L2.Inv X pins σ H { s with heap:=h1,toks:=tk }:=I.kept k1
 have hn:H L = none:=I1.hok.fresh hL
 refine ⟨.ref L,upd H L (.lst ws),I1.laid (t':=tk) k2 hL ⟨hz,vs,n,r,ho⟩,rfl,q hn⟩
theorem je6 (hu:X.A.units + 64 < cLine):CallR X (.builtin "sorted") (qj7 X.K C):=by
 intro pins s σ H xs us Q I r ⟨v,ds,e,h1,S,q⟩
 subst e
 refine x1_2 (jz5 r) fun u zo1 rv=>?_
 obtain rfl:=zo1
 have h1:=h1.items
 refine x2_3 h1 fun a ws zo2 h2 h3=>?_
 clear h1
 obtain rfl:=zo2
 obtain rfl:u = .ref a:=rv
 refine x1_3 (I.list h2) fun its r1 pl hz=>?_
 have ff:=jy0 S.shp
 obtain ⟨kd,sk⟩:=S.kd
 have ld:its.length = ds.length:=by rw [<- r1.length,h3.len]
 refine jt1 (Pd:=fun es kd' vs=>es = ds /\ kd' = kd /\ vs = its) (fun es kd' vs hp=>?_) (fun R hR=>?_) fun h1 h' tk es kd' vs L n pm k1 k2 hp hd hL hlt hs ho=>?_
 ·refine x0_3 hp fun zo0 zo1 zo2=>?_
  clear hp
  obtain rfl:=zo0
  obtain rfl:=zo1
  obtain rfl:=zo2
  exact ⟨sk,S.few,S.shp,S.nl,fun a ha=>by have:=S.dep a ha; lia⟩
 ·refine collect_list (vs:=its) (s:=s) pl.isList ?_ (by rw [<- r1.length]; exact hz)
  have keep:∀ b ob,s.heap.get? b = some ob -> ((s.heap.push (seqObj "list" #[] 0)).update s.heap.objs.size (Obj.mapSeq (· ++ its.toArray))).get? b = some ob:=fun b ob e=>by
   rw [Heap.get?_update_ne _ _ _ _ (Nat.ne_of_lt (Heap.lt_size e))]
   exact Heap.get?_push_of_some _ e
  exact hR _ s.toks ds kd its keep ⟨rfl,rfl,rfl⟩ ((Inv.dats I ds ff h3 r1).keep keep)
 ·refine x0_3 hp fun zo0 zo1 zo2=>?_
  clear hp
  obtain rfl:=zo0
  obtain rfl:=zo1
  obtain rfl:=zo2
  have lw:ws.length = es.length:=h3.len
  have lp:pm.length = es.length:=by
   have:=congrArg List.length hs
   rw [List.length_map,(W5 es).length_eq] at this
   exact this.symm
  refine km3 I k1 k2 hL ho (kh5 r1 pm fun i hi=>by rw [lw]; exact hlt i hi) (by rw [List.length_map,lp,<- lw]; exact hz) fun hn=>q L _ hn ?_
  rw [hs]
  exact ki7 h3 pm hlt
end
end Dm
end T_Rq
section T_Sk
namespace Dm
open PySem PyProof.Rows L2 PySem.SeqAt Ts Tb
theorem jw9 {prog:Program} {w:World} {ks:List Int} {vs:List Value} (h:ItemsAre (intKind prog w) ks vs):∀ v ∈ vs,∃ i t,v = Value.int i t:=by
 induction h with
 | nil=>intro v hv; cases hv
 | cons h1 _ ih =>
  intro v hv
  rcases List.mem_cons.mp hv with rfl | hv
  ·obtain ⟨t,e⟩:=Value.isInt_shape h1
   exact ⟨_,t,e⟩
  ·exact ih v hv
noncomputable def tupS (prog:Program) (w:World):SKind prog w (List Int) where
 toHeapKind:=tupleKind (intKind prog w)
 noCls:=fun {A E s k a Q} hk h=>by
  have hT:=hk.typeIs
  refine x3_4 hk fun o items n ho _ hd hi=>?_
  clear hk
  unfold ofAClassStatement
  refine wpAny_bind (wpAny_typeOf hT ?_)
  dsimp only
  rw [if_pos (by decide)]
  refine wpAny_bind (wpAny_pure ?_)
  simp only [Bool.not_true,Bool.false_eq_true,if_false]
  refine wpAny_bind (wpAny_seqItems ho hd ?_)
  dsimp only
  refine wpAny_bind ?_
  rw [<- Array.forIn_toList]
  refine wpAny_forIn_list _ (fun rest r s'=>r.1 = none /\ s' = s /\ ∀ v ∈ rest,∃ i t,v = Value.int i t) _ ?_ ?_ _ _ ⟨rfl,rfl,jw9 hi⟩
  ·rintro v rest r s' ⟨hr,rfl,hall⟩
   refine x2_1 (hall v List.mem_cons_self) fun i t zo2=>?_
   obtain rfl:=zo2
   unfold ofAClassStatement
   refine wpAny_bind (wpAny_pure ?_)
   simp only [Bool.false_eq_true,if_false]
   exact wpAny_pure ⟨rfl,rfl,fun u hu=>hall u (List.mem_cons_of_mem _ hu)⟩
  ·rintro ⟨r1,r2⟩ s' ⟨hr,rfl,_⟩
   simp only at hr
   subst hr
   exact wpAny_pure h
 byVal:=fun {A E s k a Q} hk h=>by
  have hT:=hk.typeIs
  refine x3_4 hk fun o items n ho _ hd hi=>?_
  clear hk
  unfold hashByValue
  refine wpAny_bind (wpAny_specialOf hT F.slot_tuple_hash.lookup ?_)
  dsimp only
  refine wpAny_bind (wpAny_seqItems ho hd ?_)
  dsimp only [Option.getD]
  refine wpAny_bind ?_
  rw [<- Array.forIn_toList]
  refine wpAny_forIn_list _ (fun rest r s'=>r.1 = none /\ s' = s /\ ∀ v ∈ rest,∃ i t,v = Value.int i t) _ ?_ ?_ _ _ ⟨rfl,rfl,jw9 hi⟩
  ·rintro v rest r s' ⟨hr,rfl,hall⟩
   refine x2_1 (hall v List.mem_cons_self) fun i t zo2=>?_
   obtain rfl:=zo2
   unfold hashByValue
   refine wpAny_bind (wpAny_pure ?_)
   simp only [Bool.not_true,Bool.false_eq_true,if_false]
   exact wpAny_pure ⟨rfl,rfl,fun u hu=>hall u (List.mem_cons_of_mem _ hu)⟩
  ·rintro ⟨r1,r2⟩ s' ⟨hr,rfl,_⟩
   simp only at hr
   subst hr
   exact wpAny_pure h
 mono:=fun hk e=>by
  refine x3_4 hk fun o items n ho hc hd hi=>?_
  clear hk
  exact ⟨o,items,n,e _ _ ho hc,hc,hd,hi⟩
theorem kl4 {prog:Program} {w:World} {h:Heap}:∀ {ns:List Int} {vs:List Value},DAts h (ns.map D.int) vs -> ItemsAre (intKind prog w) ns vs
 | [],_,q=>by rw [List.map_nil,DAts] at q; subst q; exact .nil
 | n :: ns,_,q=>by
  rw [List.map_cons,DAts] at q
  refine x2_3 q fun v r zo2 a b=>?_
  clear q
  obtain rfl:=zo2
  rw [DAt] at a
  obtain ⟨t,rfl⟩:=a
  exact .cons (by show Value.isInt n (.int n t) = true; simp [Value.isInt]) (kl4 b)
theorem vg5 {prog:Program} {w:World} {h:Heap} {ns:List Int} {a:Addr} (q:DAt h (.tup (ns.map D.int)) (.ref a)):(tupS prog w).is h ns a:=by
 rw [DAt] at q
 refine x2_3 q fun b it e zo3 p=>?_
 clear q
 obtain ⟨o,h1,h2,n,h3⟩:=zo3
 obtain rfl:a = b:=by injection e
 exact ⟨o,it,n,h1,h2,h3,kl4 p⟩
noncomputable def SObj (prog:Program) (w:World) (a:Addr) (zs:List (List Int × Addr)) (h:Heap):Prop :=
 ∃ o ep t,h.get? a = some o /\ o.ExactSet /\ o.data = .set (zs.map (entry (tupS prog w))).toArray ep t /\ Good t zs.length /\ ke2 t (fun i=>((zs.map (entry (tupS prog w))).toArray[i]?.map (·.1)).getD 0) zs.length /\
  t.led = jf7 w /\ t.plain = true /\ zs.length * 5 < t.mask * 3 /\ (zs.map (·.1)).Nodup
section
variable {X:Cx} {C:Cfg}
noncomputable def kj0 (K:PySem.W.Frag) (H:Hp) (zs:List (List Int × Addr)):Prop:=∀ z ∈ zs,SqT K H z.2 (z.1.map V.int)
noncomputable def qc0 (X:Cx) (C:Cfg):List V -> Hp -> VK -> Prop:=fun xs H Q=>∃ (v:V) (nss:List (List Int)),xs = [v] /\ Rep X.K C H (.lst (nss.map fun ns=>.tup (ns.map D.int))) v /\ nss.length <= 50 /\
 ∀ p zs,H p = none -> kj0 X.K H zs -> (zs.map (·.1)).Nodup -> (∀ ns,ns ∈ zs.map (·.1) ↔ ns ∈ nss) -> Q (.ref p) (upd H p (.ext (SObj X.prog X.w p zs)))
theorem kc9 {K:PySem.W.Frag} {H:Hp}:∀ {nss:List (List Int)} {ws:List V},Reps K C H (nss.map fun ns=>.tup (ns.map D.int)) ws -> ∃ ys:List (List Int × Addr),ys.map (·.1) = nss /\ ws = (ys.map fun y=>V.ref y.2) /\ kj0 K H ys
 | [],_,q=>by rw [List.map_nil,Reps] at q; subst q; exact ⟨[],rfl,rfl,fun z hz=>by cases hz⟩
 | ns :: nss,_,q=>by
  rw [List.map_cons,Reps] at q
  refine x2_3 q fun v r zo2 a b=>?_
  clear q
  obtain rfl:=zo2
  refine x1_3 (kc9 b) fun ys e1 e2 m=>?_
  rw [Rep] at a
  refine x2_3 a fun ad xs zo2 t p=>?_
  clear a
  obtain rfl:=zo2
  have exs:xs = ns.map V.int:=by
   clear t
   induction ns generalizing xs with
   | nil=>rw [List.map_nil,Reps] at p; exact p
   | cons n ns ih =>
    rw [List.map_cons,Reps] at p
    refine x2_3 p fun v r' zo2 a1 a2=>?_
    clear p
    obtain rfl:=zo2
    rw [Rep] at a1
    rw [a1,ih _ a2]; rfl
  subst exs
  refine ⟨(ns,ad) :: ys,by rw [List.map_cons,e1],by rw [List.map_cons,e2],fun z hz=>?_⟩
  rcases List.mem_cons.mp hz with rfl | hz
  ·exact t
  ·exact m z hz
theorem ql2 {pins:List (Addr × Obj)} {σ:L2.St} {H:Hp} {s:Shared} (I:L2.Inv X pins σ H s) {z:List Int × Addr} (h:SqT X.K H z.2 (z.1.map V.int)):(tupS X.prog X.w).is s.heap z.1 z.2:=by
 refine vg5 ?_
 refine Inv.dat (C:=cfg0) I _ (v:=V.ref z.2) ?_ ?_ rfl
 ·rw [flat]
  exact jk1 fun d hd=>by
   refine x1_2 (List.mem_map.mp hd) fun n _ zo2=>?_
   obtain rfl:=zo2
   rw [flat] <;> simp
 ·rw [Rep]
  exact ⟨z.2,_,rfl,h,Reps.ints z.1⟩
theorem kc0 {vs:List Value}:∀ {ys:List (List Int × Addr)},Vals (ys.map fun y=>V.ref y.2) vs -> vs = ys.map fun y=>Value.ref y.2
 | [],r=>by cases r; rfl
 | y :: ys,r=>by
  cases r with
  | cons r1 r2 =>
   rw [List.map_cons,kc0 r2]
   congr 1
theorem kr4 (hh:X.A.handled = none) (hu:X.A.units + 64 < cLine):CallR X (.type "set") (qc0 X C):=by
 intro pins s σ H xs us Q I r ⟨v,nss,e,h1,hn,q⟩
 subst e
 refine x1_2 (jz5 r) fun u zo1 rv=>?_
 obtain rfl:=zo1
 have h1:=h1.items
 refine x2_3 h1 fun a ws zo2 h2 h3=>?_
 clear h1
 obtain rfl:=zo2
 obtain rfl:u = .ref a:=rv
 refine x1_3 (I.list h2) fun its r1 pl hz=>?_
 refine x1_3 (kc9 h3) fun ys e1 e2 m=>?_
 subst e2
 obtain rfl:=kc0 r1
 have ly:ys.length = nss.length:=by rw [<- e1,List.length_map]
 refine qi9 (κ:=tupS X.prog X.w) (ys:=ys) hh (by show X.A.units + 1 + 1 + 1 < cLine; lia) pl.isList (by lia) (fun y hy=>ql2 I (m y hy)) fun h' tk o ep t zs k S m1 m2=>?_
 have hf:H s.heap.objs.size = none:=I.hok.fresh (Nat.le_refl _)
 refine ⟨.ref s.heap.objs.size,upd H s.heap.objs.size (.ext (SObj X.prog X.w s.heap.objs.size zs)),I.laid (t':=tk) k (Nat.le_refl _) ?_,rfl,q _ zs hf (fun z hz=>m z (m1 z hz)) S.keys fun ns=>?_⟩
 ·refine ⟨⟨o,ep,t,S.obj,S.exact',S.data,S.good,S.paths,S.led',S.plain,S.few,S.keys⟩,⟨o,S.obj⟩,?_⟩
  rintro h1 h2 ⟨o',ep',t',q1,q2⟩ ke
  exact ⟨o',ep',t',ke _ q1,q2⟩
 ·constructor
  ·intro hm
   refine x1_2 (List.mem_map.mp hm) fun z hz zo2=>?_
   obtain rfl:=zo2
   rw [<- e1]
   exact List.mem_map.mpr ⟨z,m1 z hz,rfl⟩
  ·intro hm
   rw [<- e1] at hm
   refine x1_2 (List.mem_map.mp hm) fun y hy zo2=>?_
   obtain rfl:=zo2
   exact m2 y hy
noncomputable def Rows (nss:List (List Int)):Prop:=∃ n,∀ ns ∈ nss,ns.length = n + 1
theorem ju2:∀ {a b:List Int},a.length = b.length -> shps (a.map D.int) (b.map D.int) = true
 | [],[],_=>by simp [shps]
 | x :: a,y :: b,h=>by
  rw [List.map_cons,List.map_cons,shps,ju2 (by simpa using h)]
  simp [shp]
theorem kl0:∀ a:List Int,nls (a.map D.int) = true
 | []=>by simp [nls]
 | x :: a=>by rw [List.map_cons,nls,kl0 a]; simp [nl]
theorem ky4 (a:List Int):deps (a.map D.int) = 0:=by
 have:deps (a.map D.int) <= 0:=jz7 fun d hd=>by
  refine x1_2 (List.mem_map.mp hd) fun n _ zo2=>?_
  obtain rfl:=zo2
  rw [dep] <;> simp
 lia
theorem ka6 {nss:List (List Int)} (h:Rows nss) (few:nss.length < 64):Sortable (nss.map fun ns=>.tup (ns.map D.int)):=by
 obtain ⟨n,hn⟩:=h
 have mem:∀ d ∈ nss.map (fun ns=>D.tup (ns.map D.int)),∃ ns ∈ nss,d = .tup (ns.map D.int):=fun d hd=>by
  refine x1_2 (List.mem_map.mp hd) fun ns h1 h2=>?_
  exact ⟨ns,h1,h2.symm⟩
 refine ⟨⟨_,.tups fun d hd=>?_⟩,by rw [List.length_map]; exact few,fun a ha b hb=>?_,fun a ha=>?_,fun a ha=>?_⟩
 ·refine x1_2 (mem d hd) fun ns h1 zo2=>?_
  obtain rfl:=zo2
  have:=hn ns h1
  match ns,this with
  | i :: r,_=>exact ⟨i,r.map D.int,rfl⟩
 ·refine x1_2 (mem a ha) fun ns h1 zo2=>?_
  obtain rfl:=zo2
  refine x1_2 (mem b hb) fun ms h2 zo2=>?_
  obtain rfl:=zo2
  rw [shp]
  exact ju2 (by rw [hn ns h1,hn ms h2])
 ·refine x1_2 (mem a ha) fun ns h1 zo2=>?_
  obtain rfl:=zo2
  rw [nl]; exact kl0 ns
 ·refine x1_2 (mem a ha) fun ns h1 zo2=>?_
  obtain rfl:=zo2
  rw [dep,ky4]; decide
noncomputable def qb0 (X:Cx) (C:Cfg):List V -> Hp -> VK -> Prop:=fun xs H Q=>∃ a zs,xs = [.ref a] /\ H a = some (.ext (SObj X.prog X.w a zs)) /\ kj0 X.K H zs /\ zs.length <= 50 /\ Rows (zs.map (·.1)) /\
 ∀ p ws (es:List (List Int)),H p = none -> es.Perm (zs.map (·.1)) -> Reps X.K C H (je2 (es.map fun ns=>.tup (ns.map D.int))) ws -> Q (.ref p) (upd H p (.lst ws))
theorem kq8 {α β:Type} {f:α -> β}:∀ {l:List α} {m:List β},m.Perm (l.map f) -> ∃ l':List α,l'.Perm l /\ m = l'.map f:=by
 intro l m h
 generalize e:l.map f = k at h
 induction h generalizing l with
 | nil =>
  exact ⟨l,.refl _,e.symm⟩
 | cons x _ ih =>
  match l,e with
  | a :: l,e =>
   rw [List.map_cons] at e
   injection e with e1 e2
   refine x1_2 (ih e2) fun l' p q=>?_
   exact ⟨a :: l',p.cons a,by rw [List.map_cons,e1,q]⟩
 | swap x y k =>
  match l,e with
  | a :: b :: l,e =>
   rw [List.map_cons,List.map_cons] at e
   injection e with e1 e2
   injection e2 with e2 e3
   exact ⟨b :: a :: l,.swap a b l,by rw [List.map_cons,List.map_cons,e1,e2,e3]⟩
 | trans _ _ ih1 ih2 =>
  refine x1_2 (ih2 e) fun l1 p1 q1=>?_
  refine x1_2 (ih1 q1.symm) fun l2 p2 q2=>?_
  exact ⟨l2,p2.trans p1,q2⟩
theorem kc2 (hh:X.A.handled = none) (hu:X.A.units + 64 < cLine):CallR X (.builtin "sorted") (qb0 X C):=by
 intro pins s σ H xs us Q I r ⟨a,zs,e,h1,hm,hn,hr,q⟩
 subst e
 refine x1_2 (jz5 r) fun u zo1 rv=>?_
 obtain rfl:=zo1
 obtain rfl:u = .ref a:=rv
 refine x0_3 (I.hok a _ h1) fun zo0 _ _=>?_
 obtain ⟨o,ep,t,g1,g2,g3,g4,g5,g6,g7,g8,g9⟩:=zo0
 have S:SetO (tupS X.prog X.w) s.heap a (jf7 X.w) zs o ep t:=⟨g1,g2,g3,g4,g5,g6,g7,g8,g9,fun x hx=>ql2 I (hm x hx)⟩
 refine jt1 (Pd:=fun es kd vs=>kd = tuples' true /\ ∃ l:List (List Int × Addr),l.Perm zs /\ es = (l.map fun y=>.tup (y.1.map D.int)) /\ vs = l.map fun y=>Value.ref y.2) (fun es kd vs hp=>?_) (fun R hR=>?_) fun h1 h' tk es kd vs L n pm k1 k2 hp hd hL hlt hs ho=>?_
 ·obtain ⟨rfl,l,p,rfl,rfl⟩:=hp
  obtain ⟨m,hm'⟩:=hr
  have rows:Rows (l.map (·.1)):=⟨m,fun ns hns=>hm' ns ((p.map _).mem_iff.mp hns)⟩
  have so:=ka6 rows (by rw [List.length_map,p.length_eq]; lia)
  rw [List.map_map] at so
  refine ⟨.tups fun d hd=>?_,so.few,so.shp,so.nl,fun a ha=>by have:=so.dep a ha; lia⟩
  refine x1_2 (List.mem_map.mp hd) fun y hy zo2=>?_
  obtain rfl:=zo2
  have:=hm' y.1 (List.mem_map.mpr ⟨y,p.mem_iff.mp hy,rfl⟩)
  match h:y.1,this with
  | i :: r,_=>exact ⟨i,r.map D.int,rfl⟩
 ·refine ki9 (κ:=tupS X.prog X.w) hh S hn fun h' tk vs k pv=>?_
  refine x1_2 (kq8 pv) fun l p zo2=>?_
  obtain rfl:=zo2
  refine hR h' tk _ _ _ k ⟨rfl,l,p,rfl,rfl⟩ (DAts.of_map _ _ l fun y hy=>DAt.keep k _ ?_)
  have t:=hm y (p.mem_iff.mp hy)
  refine Inv.dat (C:=cfg0) I _ (v:=V.ref y.2) ?_ ?_ rfl
  ·rw [flat]
   exact jk1 fun d hd=>by
    refine x1_2 (List.mem_map.mp hd) fun n _ zo2=>?_
    obtain rfl:=zo2
    rw [flat] <;> simp
  ·rw [Rep]
   exact ⟨y.2,_,rfl,t,Reps.ints y.1⟩
 ·obtain ⟨rfl,l,p,rfl,rfl⟩:=hp
  have ll:l.length <= 50:=by rw [p.length_eq]; exact hn
  have lp:pm.length = l.length:=by
   have:=congrArg List.length hs
   rw [List.length_map,(W5 _).length_eq,List.length_map] at this
   exact this.symm
  have rv:∀ l:List (List Int × Addr),Vals (l.map fun y=>V.ref y.2) (l.map fun y=>Value.ref y.2):=fun l=>by
   induction l with
   | nil=>exact .nil
   | cons y l ih=>exact .cons rfl ih
  have lt':∀ i ∈ pm,i < l.length:=fun i hi=>by have:=hlt i hi; rwa [List.length_map] at this
  have rp:Reps X.K C H (l.map fun y=>.tup (y.1.map D.int)) (l.map fun y=>V.ref y.2):=by
   have hm2:∀ y ∈ l,SqT X.K H y.2 (y.1.map V.int):=fun y hy=>hm y (p.mem_iff.mp hy)
   clear hs hlt lt' lp hd ho p ll
   induction l with
   | nil=>exact .nil
   | cons y l ih =>
    refine .cons ?_ (ih fun z hz=>hm2 z (List.mem_cons_of_mem _ hz))
    rw [Rep]
    exact ⟨y.2,_,rfl,hm2 y List.mem_cons_self,Reps.ints y.1⟩
  have big:64 <= sizeLine:=by rw [sizeLine_eq]; decide
  refine km3 I k1 k2 hL ho (kh5 (rv l) pm fun i hi=>by rw [List.length_map]; exact lt' i hi) (by rw [List.length_map,lp]; lia) fun hn'=>q L _ (l.map (·.1)) hn' (p.map _) ?_
  rw [List.map_map]
  show Reps X.K C H (je2 (l.map fun y=>.tup (y.1.map D.int))) _
  rw [hs]
  exact ki7 rp pm hlt
end
end Dm
end T_Sk
section T_Ex
namespace Dm
open PySem PySem.Spec PyProof.Rows L2
noncomputable def Cov (l:List Env) (B h:Heap):Prop:=∀ b o,h.get? b = some o -> b ∉ frs l -> B.get? b = some o
noncomputable def CXr (P:Program) (w:World):CXT:=fun outer H s E e s'=>∃ a cls dx a0 H' h B,e = .ref a /\ Heap.FlyingW B outer a cls a0 s'.heap /\ XD dx a s'.heap /\ Cov outer B h /\ h.UpToSlots s'.heap /\ E cls dx H' /\ s'.os = s.os /\ AllBare s'.gens /\
 Un (frs outer) [] H H' s.heap h /\ HOk P w H' h
structure Made (h h':Heap) (a:Addr) (cls:Value):Prop where
 keeps:∀ b o,h.get? b = some o -> h'.get? b = some o
 new:h.get? a = none
 there:∃ o a0,h'.get? a = some o /\ o.cls = cls /\ o.data = .fields #[a0,.none,.none,.none,.bool false,.none]
theorem Made.of {h h':Heap} {a:Addr} {cls:Value} {vs:List Value} (x:Heap.MadeExcOf h h' a cls vs):Made h h' a cls:=by
 refine x1_3 x.there fun t he _ _=>?_
 exact ⟨x.keeps,x.new,_,_,he,rfl,rfl⟩
noncomputable def Fly (X:Cx) (E:L2.St -> XK) (e:Value) (s':Shared):Prop:=∃ a cls dx σ H h,e = .ref a /\ L2.Inv X [] σ H { s' with heap:=h } /\ E σ cls dx H /\ XD dx a s'.heap /\
 (Made h s'.heap a cls \/ (∃ a0 B,Cov X.stack B h /\ h.UpToSlots s'.heap /\ (Heap.FlyingW B X.stack a cls a0 s'.heap \/ Heap.HeldW B X.stack a cls a0 X.env.locals s'.heap)))
theorem jo6 {X:Cx} {pins:List (Addr × Obj)} {σ:L2.St} {H:Hp} {s:Shared} (I:L2.Inv X pins σ H s):L2.Inv X [] σ H s:=I.pins_of fun p hp=>by cases hp
section
variable {X:Cx} {E:L2.St -> XK}
theorem qn9 {pins:List (Addr × Obj)} {σ:L2.St} {H:Hp} {s:Shared} {h':Heap} {a:Addr} {cls:Value} (I:L2.Inv X pins σ H s) (hx:Made s.heap h' a cls) (q:E σ cls none H):Fly X E (.ref a) { s with heap:=h' } :=
 ⟨a,cls,none,σ,H,s.heap,rfl,jo6 I,q,.no,.inl hx⟩
theorem jz3 {pins:List (Addr × Obj)} {σ:L2.St} {H:Hp} {s s':Shared} {e:Value} (I:L2.Inv X pins σ H s) (c:CXr X.prog X.w X.stack H s (E σ) e s'):Fly X E e s':=by
 obtain ⟨a,cls,dx,a0,H',h,B,rfl,f,xd,cv,up,q,os,bare,un,hok⟩:=c
 have I':L2.Inv X pins σ H' { s' with heap:=h }:=Inv.call' I (s':={ s' with heap:=h }) os un hok bare (fun b z=>absurd z (by simp))
 exact ⟨a,cls,dx,σ,H',h,rfl,jo6 I',q,xd,.inr ⟨a0,B,cv,up,.inl f⟩⟩
theorem kb2 {h base:Heap} {l:List Env} (f:h.FunFrames base l):∃ B:Heap,Cov l B h /\ B.StaysIn h /\ h.FunFrames B l /\ ∀ b,h.get? b = none -> B.get? b = none:=by
 have st:(PySem.W.hideAll h (frs l)).StaysIn h:=fun b o e=>PySem.W.of_hideAll _ e
 refine ⟨PySem.W.hideAll h (frs l),fun b o e n=>PySem.W.hideAll_get _ e n,st,PySem.W.funFrames_hide f fun env he a ha=>List.mem_filterMap.mpr ⟨env,he,ha⟩,fun b hb=>?_⟩
 cases hq:(PySem.W.hideAll h (frs l)).get? b with
 | none=>rfl
 | some o'=>have:=st b o' hq; rw [hb] at this; cases this
structure Own1 (X:Cx):Prop where
 stk:X.stack = X.env :: X.outer
 fr:X.env.frame = some X.env.locals
theorem jy4 {e:Value} {s':Shared} {Q:Unit -> Shared -> Prop} {E':Value -> Shared -> Prop} (O:Own1 X) (f:Fly X E e s')
  (hq:∀ (a:Addr) cls dx a0 σ H h B h',e = .ref a -> L2.Inv X [] σ H { s' with heap:=h } -> E σ cls dx H -> XD dx a h' -> Cov X.stack B h -> h.UpToSlots h' -> Heap.HeldW B X.stack a cls a0 X.env.locals h' -> Q () { s' with heap:=h' }) :
  wpAny (model X.prog X.w) X.A (noteFrame e X.env) Q E' s':=by
 obtain ⟨a,cls,dx,σ,H,h,rfl,I,q,xd,f⟩:=f
 have fr:X.A.frames = some (X.env :: X.outer):=by rw [I.ok.frames,O.stk]
 refine wpAny_mono (jq2 (Q:=fun u s1=>XD dx a s1.heap -> Q u s1) (E:=E') (qt9 _ _) ?_ xd) (fun u s1 h=>h.1 h.2) fun _ _ h=>h.1
 rcases f with hx | ⟨a0,B,cv,up,f | f⟩
 ·obtain ⟨oe,a0,he,hcl,hdt⟩:=hx.there
  subst hcl
  obtain ⟨B,b1,b2,b3,b4⟩:=kb2 I.stack
  have ff:s'.heap.FunFrames B X.stack:=b3.of_keeps fun b o hb _=>⟨o,hx.keeps b o hb,rfl⟩
  rw [O.stk] at ff
  unfold noteFrame
  simp only [O.fr]
  refine wpAny_bind (wpAny_field he (vs:=#[a0,.none,.none,.none,.bool false,.none]) hdt (x:=.none) rfl ?_)
  rw [if_neg (by decide)]
  refine wpAny_entryW (a0:=a0) fr ff O.fr he (fun b o hb=>hx.keeps b o (b2 b o hb)) (b4 a hx.new) hdt (by simp) rfl fun h' hN=>?_
  obtain ⟨k1,k2,k3,k4⟩:=hN
  refine fun xd=>hq a _ dx a0 σ H h B h' rfl I q xd b1 ((Heap.UpToSlots.of_keeps hx.keeps).trans k4) ⟨k1,b4 a hx.new,?_,k3⟩
  rw [O.stk]; exact k2
 ·rw [O.stk] at f
  refine wpAny_looks_onW fr O.fr f fun h' hh us=>?_
  exact fun xd=>hq a cls dx a0 σ H h B h' rfl I q xd cv (up.trans us) (by rw [O.stk]; exact hh)
 ·refine wpAny_noteFrame_againW O.fr f.2.2.2 ?_
  exact fun xd=>hq a cls dx a0 σ H h B s'.heap rfl I q xd cv up f
theorem y3 (O:Own1 X):PassesOwn (model X.prog X.w) X.A X.env (Fly X E):=by
 intro e s' f
 refine jy4 O f fun a cls dx a0 σ H h B h' ea I q xd cv up hd=>?_
 subst ea
 unfold cameBackBy
 obtain ⟨k1,k2,k3,oe,vs,T,oT,ts,he,hc,hdd,h1,hnT,hTe,hT,hdT,h3⟩:=hd
 refine wpAny_bind (wpAny_field he hdd h1 ?_)
 rw [if_neg (by simp)]
 unfold setFlight
 refine wpAny_bind (wpAny_field he hdd h1 ?_)
 rw [if_pos (show (Value.ref T != Value.none) = true from by simp)]
 have h3s:3 < ts.size:=(Array.getElem?_eq_some_iff.mp h3).1
 rw [O.fr]
 refine wpAny_setField hT hdT h3s ?_
 have other:∀ b,b ≠ T -> (h'.update T (Obj.mapFields (·.setIfInBounds 3 (rawInt X.env.locals)))).get? b = h'.get? b:=fun b hb=>Heap.get?_update_other _ _ (Ne.symm hb)
 have noRec:∀ b o,h'.get? b = some o -> (∀ vs,o.data ≠ .fields vs) -> b ≠ T:=fun b o hb hnf z=>by
  rw [z,hT] at hb; injection hb with hb; subst hb; exact hnf ts hdT
 refine ⟨a,cls,dx,σ,H,h,rfl,I,q,xd.upd (jp2 _),.inr ⟨a0,B,cv,fun b o hb hn=>?_,.inr ⟨fun b o hb=>?_,k2,k3.of_keeps fun b o hb hnf=>⟨o,(other b (noRec b o hb hnf)).trans hb,rfl⟩,?_⟩⟩⟩
 ·obtain ⟨sl,e1⟩:=up b o hb hn
  exact ⟨sl,(other b (noRec b _ e1 fun vs z=>hn vs z)).trans e1⟩
 ·refine (other b fun z=>?_).trans (k1 b o hb)
  rw [z,hnT] at hb; cases hb
 ·refine ⟨oe,vs,T,_,_,(other a (Ne.symm hTe)).trans he,hc,hdd,h1,hnT,hTe,Heap.get?_update_self _ hT (Obj.isFreed_of_fields (Obj.data_mapFields hdT _)),Obj.data_mapFields hdT _,?_⟩
  simp [h3s]
end
section
variable {P:Program} {w:World} {K:PySem.W.Frag} {mg:Str -> Option Value} {base:Heap} {N:List Str} {qual:Str} {scope:Scope} {f:Addr} {cd:Value} {A:Around} {outer:List Env} {s:Shared} {H:Hp} {E:XK}
theorem kf7 {e:Value} {s':Shared} (fl:Fly (cxOf (CXr P w) P w K mg base N qual scope f cd A outer s H E) (fun _=>E) e s'):(cxOf (CXr P w) P w K mg base N qual scope f cd A outer s H E).xe e s':=by
 let X:=cxOf (CXr P w) P w K mg base N qual scope f cd A outer s H E
 have O:Own1 X:=⟨rfl,rfl⟩
 show wpAny (model P w) X.A (leaving X.env e) (fun _ s''=>CXr P w outer H s E e s'') (fun e' s''=>CXr P w outer H s E e' s'') s'
 unfold leaving
 refine wpAny_bind (jy4 O fl fun a cls dx a0 σ H' h B h' ea I q xd cv up hd=>?_)
 subst ea
 refine wpAny_mono (jq2 (Q:=fun _ s1=>XD dx a s1.heap -> CXr P w outer H s E (.ref a) s1) (E:=fun e' s1=>CXr P w outer H s E e' s1) (ji1 _ _) ?_ xd) (fun u s1 h=>h.1 h.2) fun _ _ h=>h.1
 refine wpAny_landsW hd fun h2 fl2 us xd=>?_
 refine x0_4 fl2 fun k1 k2 zo2 k4=>?_
 clear fl2
 obtain ⟨_,⟨L',o',e1,e2,e3,e4⟩,k3⟩:=zo2
 obtain rfl:X.env.locals = L':=Option.some.inj e1
 have hL:H' X.env.locals = none:=I.free
 have fr:∀ b,b ∈ frs X.stack ↔ b = X.env.locals \/ b ∈ frs outer:=fun b=>by
  show b ∈ frs (X.env :: outer) ↔ _
  unfold frs
  rw [List.filterMap_cons_some (show X.env.frame = some X.env.locals from rfl),List.mem_cons]
 have get:∀ b o,b ≠ X.env.locals -> h.get? b = some o -> (PySem.W.hideAll h [X.env.locals]).get? b = some o:=fun b o n e=>PySem.W.hideAll_get _ e (by simpa using n)
 refine ⟨a,cls,dx,a0,H',PySem.W.hideAll h [X.env.locals],B,rfl,⟨k1,k2,k3,k4⟩,xd,fun b o e nb=>?_,fun b o e hn=>?_,q,I.os,I.bare,?_,?_⟩
 ·have nl:b ≠ X.env.locals:=fun z=>by
   have z':=PySem.W.hideAll_none [X.env.locals] (h:=h) (b:=b) (by simp [z])
   rw [e] at z'
   cases z'
  exact cv b o (PySem.W.of_hideAll _ e) fun z=>by
   rcases (fr b).mp z with z | z
   ·exact nl z
   ·exact nb z
 ·exact (up.trans us) b o (PySem.W.of_hideAll _ e) hn
 ·have u:Un (frs outer) [] H H' s.heap h:=I.base
  have ne:∀ b o,s.heap.get? b = some o -> b ≠ X.env.locals:=fun b o e=>Nat.ne_of_lt (Nat.lt_of_lt_of_le (Heap.lt_size e) I.ok.above)
  refine ⟨fun b o e n nf nx=>get b o (ne b o e) (u.keep b o e n nf nx),fun b o e n nf nx=>?_,u.free,fun b o e nx=>?_,u.tups,u.frzs,u.tbls⟩
  ·obtain ⟨sl,e1⟩:=u.slot b o e n nf nx
   exact ⟨sl,get b _ (ne b o e) e1⟩
  ·obtain ⟨o',e1⟩:=u.there b o e nx
   exact ⟨o',get b _ (ne b o e) e1⟩
 ·intro b u e
  refine (I.hok b u e).stay (fun c v hc q'=>get c v ?_ q') (fun _ z=>z) fun _ _ z=>z
  rcases hc with z | z
  ·rintro rfl; rw [<- z,hL] at e; cases e
  ·rintro rfl; rw [hL] at z; cases z
end
end Dm
end T_Ex
section T_Ex2
namespace Dm
open PySem PySem.Spec PyProof.Rows L2 PySem.W
noncomputable def exD (K:Frag) (C:Addr) (bmB:List Value) (newId:String) (o:Obj):Bool:=match o.data with
 | .cls cd=>!cd.hasDel && cd.mro.head? == some (.ref C) && tailIn K bmB cd.mro.tail && nsOkIn K cd.ns && nsIn K cd.ns "__init__" == some none && o.cls == .type "type" && o.slots.toList[4]? == some (some (.builtin newId)) && o.slots.toList.length == 6
 | _=>false
noncomputable def exB (K:Frag) (C:Addr) (bmB:List Value) (newId:String):Bool:=(K.lookup C).any (exD K C bmB newId)
theorem six {l:List (Option Value)} {a:Option Value} (h:l.length = 6) (e:l[4]? = some a):∃ k0 k1 k2 k3 k5,l = [k0,k1,k2,k3,a,k5]:=by
 refine x2_1 (List.exists_cons_of_length_eq_add_one h) fun k0 l zo2=>?_
 obtain rfl:=zo2
 refine x2_1 (List.exists_cons_of_length_eq_add_one (Nat.succ.inj h)) fun k1 l zo2=>?_
 obtain rfl:=zo2
 refine x2_1 (List.exists_cons_of_length_eq_add_one (Nat.succ.inj (Nat.succ.inj h))) fun k2 l zo2=>?_
 obtain rfl:=zo2
 refine x2_1 (List.exists_cons_of_length_eq_add_one (Nat.succ.inj (Nat.succ.inj (Nat.succ.inj h)))) fun k3 l zo2=>?_
 obtain rfl:=zo2
 refine x2_1 (List.exists_cons_of_length_eq_add_one (Nat.succ.inj (Nat.succ.inj (Nat.succ.inj (Nat.succ.inj h))))) fun k4 l zo2=>?_
 obtain rfl:=zo2
 refine x2_1 (List.exists_cons_of_length_eq_add_one (Nat.succ.inj (Nat.succ.inj (Nat.succ.inj (Nat.succ.inj (Nat.succ.inj h)))))) fun k5 l zo2=>?_
 obtain rfl:=zo2
 obtain rfl:=List.eq_nil_of_length_eq_zero (Nat.succ.inj (Nat.succ.inj (Nat.succ.inj (Nat.succ.inj (Nat.succ.inj (Nat.succ.inj h))))))
 cases e
 exact ⟨k0,k1,k2,k3,k5,rfl⟩
theorem vb8 {K:Frag} {h:Heap} {mg:Str -> Option Value} {x:Str} {C:Addr} {bmB:List Value} {newId:String} (X:K.In h) (hb:mg x = some (.ref C)) (q:exB K C bmB newId = true):OwnCls x C bmB newId mg h:=by
 refine ⟨hb,?_⟩
 unfold exB at q
 cases ho:K.lookup C with
 | none=>rw [ho] at q; cases q
 | some o =>
  rw [ho] at q
  replace q:exD K C bmB newId o = true:=q
  obtain ⟨oc,dd,dt,sl⟩:=o
  cases dt with
  | cls cd =>
   obtain ⟨nm,bs,mro,ns,qn,hd,sn,sub,ab,col,del⟩:=cd
   obtain ⟨l⟩:=sl
   unfold exD at q
   simp only [Bool.and_eq_true,beq_iff_eq,Bool.not_eq_true'] at q
   obtain ⟨⟨⟨⟨⟨⟨⟨rfl,q1⟩,q2⟩,q3⟩,q4⟩,rfl⟩,q5⟩,q6⟩:=q
   cases mro with
   | nil=>cases q1
   | cons m bm =>
    cases q1
    refine x5_1 (six q6 q5) fun k0 k1 k2 k3 k5 zo5=>?_
    obtain rfl:=zo5
    exact ⟨bm,ns,nm,qn,bs,hd,sn,sub,ab,col,dd,k0,k1,k2,k3,k5,_,X _ _ ho,.of_isNs (isNs_of_in X q3),nsMap_none_of_in X q3 q4,tail_of_in X q2⟩
  | _=>exact nomatch q
section
variable {X:Cx} {E:L2.St -> XK} {x:Str} {C:Addr} {B newId initId:String} {bm:List Value} {np cpos pos:Pos} {e₀:Expr} {rest:List Expr} {ta:TA}
noncomputable def va7 (E:L2.St -> XK) (cls:Value) (ta:TA):TS:=fun _ σ H=>ta σ H fun vs H1=>vs.length <= sizeLine /\ E σ cls none H1
theorem qj3 (FB:ExcBaseFacts B newId initId bm) (hh:X.A.handled = none) (hm:X.mg x = some (.ref C)) (hc:exB X.K C bm newId = true) (hg:Gl X x) (ha:PA (X.wish (Fly X E)) (e₀ :: rest) ta)
  (he:starEach (e₀ :: rest) X.env = (false,eval e₀ X.env) :: starEach rest X.env:=by rfl) (hplain:(backTo cpos (starEach rest X.env)).any (·.1) = false:=by rfl) (hd:(x == ("__debug__" : Str)) = false:=by decide) :
  PS (X.wish (Fly X E)) (.Raise (some (.Call (.Name x np) (e₀ :: rest) [] cpos)) none pos) (va7 E (.ref C) ta):=by
 intro pins s σ H D I h
 have O:OwnCls x C bm newId X.mg X.base:=vb8 I.ok.mod.kin hm hc
 obtain ⟨tl,N,nm,q,bs,hdct,sn,sub,ab,col,dd,k0,k1,k2,k3,k5,mN,hC,hN,hni,T⟩:=O.obj
 refine wpAny_Raise_call_subT (C:=C) (nm:=nm) (q:=q) (N:=N) (bs:=bs) (bm:=tl) (hdct:=hdct) (sn:=sn) (sub:=sub) (ab:=ab) (col:=col) (dd:=dd) (k0:=k0) (k1:=k1) (k2:=k2) (k3:=k3) (k5:=k5)
  FB (mN:=mN) (T.hasType FB.hasBase) hh (by rw [he]; show (false || (backTo cpos (starEach rest X.env)).any (·.1)) = false; rw [hplain]; rfl) hni (ji3 I hg hm ⟨rfl,?_⟩ hd)
 have hp:=ha cpos pins s σ H _ I h
 rw [he] at hp ⊢
 refine Calls.evalArgs_plain (wpAny_mono hp (fun us s2 zz1=>?_) fun _ _ y=>y)
 refine x2_4 zz1 fun vs H1 I1 r z w=>?_
 clear zz1
 exact ⟨rfl,by rw [<- r.length]; exact z,I1.bk _ _ hC,hN.keeps I1.bk,T.keeps I1.bk,fun h' e hx=>qn9 I1.unwish (.of hx) w⟩
noncomputable def ql9 (sp:Sp) (E:L2.St -> XK) (t:TA):TE:=fun σ H Q=>t σ H fun vs H1=>sp vs H1 Q (E σ)
theorem qm5 {CX:CXT} {k:Nat} {f:Addr} {fd:FuncData} {ps:List Str} {sp:Sp} {pins:List (Addr × Obj)} {σ:L2.St} {H:Hp} {s:Shared} {Q:VK} {us:List Value} {vs:List V} (F:FnOk X.prog X.w X.K X.mg X.base (CXr X.prog X.w) k f fd ps sp) (hr:Room k X.A) (hb:Binds X.K fd ps [])
  (I:L2.Inv X pins σ H s) (r:Vals vs us) (h:sp vs H Q (E σ)):wpAny (model X.prog X.w) X.A (call (.ref f) us) (EP X pins σ Q) (Fly X E) s:=by
 have hl:(us ++ []).length = ps.length:=by rw [List.append_nil,<- r.length]; exact F.len _ _ _ _ h
 have hbd:=hb s us I.kIn hl
 rw [List.append_nil] at hbd
 refine wpAny_call (codeAny_mono (F.run X.A X.stack s H ⟨us,[]⟩ us vs Q (E σ) hr I.env0 hbd r h) fun r s' hq=>?_)
 cases r with
 | error e=>exact jz3 I hq
 | ok fl =>
  cases fl with
  | ret u=>exact I.after hq
  | next=>exact False.elim hq
  | brk=>exact False.elim hq
  | cont=>exact False.elim hq
theorem qh4 {k:Nat} {f:Addr} {fd:FuncData} {ps:List Str} {sp:Sp} {e:Expr} {es:List Expr} {t:TA} {p:Pos} (F:FnOk X.prog X.w X.K X.mg X.base (CXr X.prog X.w) k f fd ps sp) (hr:Room k X.A) (hg:Gl X x) (hm:X.mg x = some (.ref f)) (hk:PySem.W.keepIn X.K (.ref f) = true) (hb:Binds X.K fd ps [])
  (ha:PA (X.wish (Fly X E)) (e :: es) t) (hdb:(x == ("__debug__" : Str)) = false:=by decide) (he:starEach (e :: es) X.env = (false,eval e X.env) :: starEach es X.env:=by rfl) (hpl:(backTo pos (starEach es X.env)).any (·.1) = false:=by rfl) :
  PE (X.wish (Fly X E)) (.Call (.Name x p) (e :: es) [] pos) (ql9 sp E t):=by
 intro pins s σ H Q I h
 refine wpAny_Call_Name_kw (ji3 I hg hm ?_ hdb)
 refine PySem.W.callWith_K (h₀:=X.base) I.ok.mod.kin hk (thn (ha pos pins s σ H _ I h) fun us s1 zz2=>zz2.elim fun vs zz3=>zz3.elim fun H1 zz4=>zz4.elim fun I1 zz5=>zz5.elim fun r q=>⟨I1.kIn,?_⟩) he hpl
 refine thn (qm5 (CX:=CXr X.prog X.w) F hr hb I1.unwish r q) fun u s2 zz6=>zz6.elim fun v zz7=>zz7.elim fun H2 zz8=>zz8.elim fun I2 zz9=>zz9.elim fun r2 q2=>⟨v,H2,I2.wish _,r2,q2⟩
noncomputable def qy7 (C:Addr) (sp:Sp) (E:L2.St -> XK) (t:TA):TE:=fun σ H Q=>t σ H fun vs H1=>∀ x dx,H1 x = none -> H1 dx = none -> dx ≠ x ->
 sp (.ref x :: vs) (upd (upd H1 dx (.own x)) x (.ins C dx [])) (fun v H2=>v = .non /\ Q (.ref x) H2) (E σ)
theorem ks4 {k:Nat} {f:Addr} {fd:FuncData} {ps:List Str} {sp:Sp} {pins:List (Addr × Obj)} {σ:L2.St} {H:Hp} {s:Shared} {Q:VK} {us:List Value} {vs:List V} (M:Mk X.K C f) (F:FnOk X.prog X.w X.K X.mg X.base (CXr X.prog X.w) k f fd ps sp) (hr:Room (k + 1) X.A) (hb:Binds X.K fd ps [])
  (I:L2.Inv X pins σ H s) (r:Vals vs us) (h:∀ x dx,H x = none -> H dx = none -> dx ≠ x -> sp (.ref x :: vs) (upd (upd H dx (.own x)) x (.ins C dx [])) (fun v H2=>v = .non /\ Q (.ref x) H2) (E σ)) :
  wpAny (model X.prog X.w) X.A (call (.ref C) us) (EP X pins σ Q) (Fly X E) s:=by
 have hq:=h (s.heap.objs.size + 1) s.heap.objs.size (I.hok.fresh (Nat.le_succ _)) (I.hok.fresh (Nat.le_refl _)) (Nat.ne_of_lt (Nat.lt_succ_self _))
 have I2:=Inv.made (C:=C) I
 have r2:Vals (V.ref (s.heap.objs.size + 1) :: vs) (Value.ref (s.heap.objs.size + 1) :: us):=.cons rfl r
 have hl:(Value.ref (s.heap.objs.size + 1) :: us ++ []).length = ps.length:=by
  rw [List.append_nil,<- r2.length]; exact F.len _ _ _ _ hq
 have hbd:=hb _ (Value.ref (s.heap.objs.size + 1) :: us) I2.kIn hl
 rw [List.append_nil] at hbd
 refine wpAny_call (qe9 (f:=f) I.kIn M.makes M.init (beq_iff_eq.mp M.fn) (codeAny_mono (F.run _ X.stack _ _ ⟨Value.ref (s.heap.objs.size + 1) :: us,[]⟩ (Value.ref (s.heap.objs.size + 1) :: us) _ _ (E σ) (hr.make C us [])
  (I2.env0.make C us []) hbd r2 hq) fun r s' hq'=>?_))
 cases r with
 | error e=>exact jz3 I2 hq'
 | ok fl =>
  cases fl with
  | ret u =>
   refine x2_4 (I2.after hq') fun v H' I3 rv ev q3=>?_
   subst ev
   exact ⟨rv,⟨V.ref (s.heap.objs.size + 1),H',I3,rfl,q3⟩⟩
  | next=>exact False.elim hq'
  | brk=>exact False.elim hq'
  | cont=>exact False.elim hq'
theorem qe4 {k:Nat} {f:Addr} {fd:FuncData} {ps:List Str} {sp:Sp} {e:Expr} {es:List Expr} {t:TA} {p:Pos} (M:Mk X.K C f) (F:FnOk X.prog X.w X.K X.mg X.base (CXr X.prog X.w) k f fd ps sp) (hr:Room (k + 1) X.A) (hg:Gl X x) (hm:X.mg x = some (.ref C)) (hb:Binds X.K fd ps [])
  (ha:PA (X.wish (Fly X E)) (e :: es) t) (hdb:(x == ("__debug__" : Str)) = false:=by decide) (he:starEach (e :: es) X.env = (false,eval e X.env) :: starEach es X.env:=by rfl) (hpl:(backTo pos (starEach es X.env)).any (·.1) = false:=by rfl) :
  PE (X.wish (Fly X E)) (.Call (.Name x p) (e :: es) [] pos) (qy7 C sp E t):=by
 intro pins s σ H Q I h
 refine wpAny_Call_Name_kw (ji3 I hg hm ?_ hdb)
 refine PySem.W.callWith_K (h₀:=X.base) I.ok.mod.kin M.kp (thn (ha pos pins s σ H _ I h) fun us s1 zz10=>zz10.elim fun vs zz11=>zz11.elim fun H1 zz12=>zz12.elim fun I1 zz13=>zz13.elim fun r q=>⟨I1.kIn,?_⟩) he hpl
 refine thn (ks4 M F hr hb I1.unwish r q) fun u s2 zz14=>zz14.elim fun v zz15=>zz15.elim fun H2 zz16=>zz16.elim fun I2 zz17=>zz17.elim fun r2 q2=>⟨v,H2,I2.wish _,r2,q2⟩
theorem jq9 {P:Program} {w:World} {K:PySem.W.Frag} {mg:Str -> Option Value} {base:Heap} {x qual:Str} {st:Stmt} {f:Addr} {fd:FuncData} {N ps:List Str} {k:Nat} {sp:Sp} (F:Fun K x qual st f fd) (S:FnScope N ps (j4 st)) (len:∀ vs H Q E,sp vs H Q E -> vs.length = ps.length)
  (hbody:∀ (cdv:Value) (A:Around) (outer:List Env) (s:Shared) (H:Hp) (vs:List V) (Q:VK) (E:XK),Room k (A.deeper (envOfC qual (j4 st) s.heap.objs.size f cdv)) -> sp vs H Q E ->
   ∃ t,PSs ((cxOf (CXr P w) P w K mg base N qual (j4 st) f cdv A outer s H E).wish (Fly (cxOf (CXr P w) P w K mg base N qual (j4 st) f cdv A outer s H E) fun _=>E)) (v6 st) t /\ t { nx:=fun _ H'=>Q .non H',rt:=Q } (start N vs) H) :
  FnOk P w K mg base (CXr P w) (k + 1) f fd ps sp:=by
 refine x9_3 F.ex fun oc od kV doc pm an cdv ct osl zo9 lk hcd=>?_
 obtain rfl:=zo9
 refine vc1 lk hcd S len fun A outer s H vs Q E hr h=>?_
 refine x1_2 (hbody cdv A outer s H vs Q E hr h) fun t ht q=>?_
 refine ⟨t,fun pins s' σ H' D I hw=>?_,q⟩
 exact wpAny_mono (ht pins s' σ H' D (I.wish _) hw) (fun fl s'' hs=>SP.unwish hs) fun e s'' hs=>kf7 hs
end
end Dm
end T_Ex2
section T_Ex3
namespace Dm
open PySem PySem.Spec PyProof.Rows L2 PySem.W
section
variable {M:Model} {A:Around} {E:Value -> Shared -> Prop} {K:Frag} {h:Heap} {g:Array GenState} {d:Drawn} {t:Nat} {os:OsState} {e:Addr} {oe:Obj}
variable {nm q:Str} {C N:Addr} {bs bm:List Value} {hdct:Bool} {sn:List Str} {sub:List Value} {ab:Bool} {col:Option Bool} {dd:Option Addr} {k0 k1 k2 k3 k5:Option Value} {newId:String}
theorem ju7 {C0:Addr} {Q:Bool -> Shared -> Prop} (X:K.In h) (hC:h.get? C = some (excClassObj nm q C N bs bm hdct sn sub ab col dd k0 k1 k2 k3 k5 newId)) (hb:bm.contains (.type "BaseException") = true)
  (he:h.get? e = some oe) (hc:oe.cls = .ref C0) (e1:kitCls K (.ref C0) (.ref C) = some true) (hq:Q true ⟨h,g,d,t,os⟩):wpAny M A (excMatches (.ref e) (.ref C)) Q E ⟨h,g,d,t,os⟩:=by
 refine x0_3 (kit_cls (M:=M) X e1) fun a1 a2 a3=>?_
 have hcB:(Value.ref C :: bm).contains (.type "BaseException") = true:=by rw [List.contains_cons,hb,Bool.or_true]
 have f:=tc_notTuple
 unfold excMatches
 repeat (first | (with_reducible refine wpAny_loadPart_at he ?_; rw [hc]) | with_reducible refine wpAny_loadPart_at hC ?_ | (with_reducible refine wpAny_isSubtype_exc hC ?_; rw [hcB]) | with_reducible refine a3.at ?_ | wp_step)
 exact hq
end
section
variable {K:Frag} {prog:Program} {w:World} {A:Around} {E:Value -> Shared -> Prop} {s:Shared} {Q:Value -> Shared -> Prop} {e C:Addr} {c:Value}
noncomputable def ClsAt (e:Addr) (cls:Value) (h:Heap):Prop:=∃ o,h.get? e = some o /\ o.cls = cls
theorem ClsAt.looks {M:Model} {h:Heap} {cls:Value} (p:ClsAt e cls h):Looks M h (typeOf (.ref e)) cls:=by
 refine x1_2 p fun o h1 h2=>?_
 clear p
 exact h2 ▸ (Looks.ld h1).andThen .now
end
end Dm
end T_Ex3
section T_Is0
namespace Dm
open PySem PySem.Spec PyProof.Rows L2 PySem.W PySem.Calls PySem.Builtin PySem.Builtin.ObjectAttr PySem.Builtin.Getset_descriptor
structure ExC (K:Frag) (C:Addr):Prop where
 gt:findIn K (.ref C) "__getattribute__" = some (some (.builtin "BaseException.__getattribute__"))
 gh:findIn K (.ref C) "__getattr__" = some none
 mb:mroIn K C (.type "BaseException") = some true
 dc:hasDictIn K C = true
 fi:findIn K (.ref C) "__class__" = some (some (.builtin "object.__class__"))
 sp:specialIn K (.builtin "object.__class__") "__get__" = some (some (.builtin "getset_descriptor.__get__"))
 tk:takesIn K (.builtin "object.__class__") = some true
 mr:mroIn K C (.type "object") = some true
section
variable {K:Frag} {prog:Program} {w:World} {A:Around} {E:Value -> Shared -> Prop} {s:Shared} {e C:Addr} {c:Value}
theorem qj5 {M:Model} {h:Heap} (Y:K.In h) (S:ExC K C):Looks M h (find (.ref e) (.ref C) "__class__") (.bind (.builtin "getset_descriptor.__get__") (.builtin "object.__class__")):=by
 have a3:=(looks_takesIn (M:=M) Y S.tk)
 refine (looks_findIn (M:=M) Y S.fi).andThen ((looks_specialIn Y S.sp).andThen ?_)
 have a4:Looks M h (dataDescriptor? (some (.builtin "object.__class__")) (some (.builtin "getset_descriptor.__get__"))) (some (.builtin "getset_descriptor.__get__",.builtin "object.__class__")):=a3.andThen .now
 exact a4.andThen (Looks.tag .now)
theorem qo9 {R:Result -> Shared -> Prop} {tp:Value} (Y:K.In s.heap) (p:ClsAt e (.ref C) s.heap) (S:ExC K C) (q:R (.ok (.ret (.ref C))) s) :
  codeAny (model prog w) A (.call (.builtin "getset_descriptor.__get__") ⟨[.builtin "object.__class__",.ref e,tp],[]⟩) R s:=by
 obtain ⟨h0,g,d,t,os⟩:=s
 have b0:=p.looks (M:=model prog w)
 have b1:=looks_mroIn (M:=model prog w) Y S.mr
 refine codeAny_call_builtin KF.slot_gs.plain KF.entry_gs
  (KF.slot_gs.check _ _ _ _ _ _ _ _ KF.type_class (KF.args_gs _ _ _) ?_)
 unfold Builtin.«getset_descriptor.__get__»
 unfold descrGet
 rw [dga_obj]
 refine wpAny_bind (wpAny_pure ?_)
 unfold descrGetter descrCheckInstance
 unfold descrNameAndClass isInstance
 simp only [KF.owner_class]
 repeat lk
 refine ⟨Code.quiet_builtin _ (by decide +kernel),
  codeAny_builtin KF.entry_class ?_⟩
 unfold Builtin.«object.__class__»
 unfold shownTypeOf
 repeat lk
 exact q
theorem ku9 {tk:Tok} {Q:Fin -> Shared -> Prop} (Y:K.In s.heap) (p:ClsAt e (.ref C) s.heap) (S:ExC K C) (q:Q (.done (.ret (.ref C))) s):wpAny (model prog w) A (Builtin.«object.__getattribute__» ⟨[.ref e,.str "__class__" tk],[]⟩) Q E s:=by
 have b0:=p.looks (M:=model prog w)
 have b3:=qj5 (e:=e) (M:=model prog w) Y S
 obtain ⟨h0,g,d,t,os⟩:=s
 unfold Builtin.«object.__getattribute__»
 repeat (any_goals (first | assumption | with_reducible refine b0.at ?_ | with_reducible refine b3.at ?_ | wp_step))
 refine qo9 (s:=⟨h0,g,d,t,os⟩) Y p S ?_
 repeat (any_goals (first | assumption | wp_step))
theorem kf9 {nameV:Value} {Q:Unit -> Shared -> Prop} (Y:K.In s.heap) (p:ClsAt e (.ref C) s.heap) (S:ExC K C) (q:Q () s):wpAny (model prog w) A (checkBuiltinCall "BaseException.__getattribute__" ⟨[.ref e,nameV],[]⟩) Q E s:=by
 have b0:=p.looks (M:=model prog w)
 have b1:=looks_mroIn (M:=model prog w) Y S.mb
 have k1:builtinKind "BaseException.__getattribute__" = some .slot:=by decide +kernel
 have k2:splitId "BaseException.__getattribute__" = some ("BaseException","__getattribute__"):=by decide +kernel
 have k3:=F.args_bexc_ga (.ref e) nameV
 obtain ⟨h0,g,d,t,os⟩:=s
 have b2:Looks (model prog w) h0 (isInstance (.ref e) (.type "BaseException")) true:=b0.andThen b1
 simp only [checkBuiltinCall,k1,k2]
 refine wpAny_bind (b2.at ?_)
 repeat (any_goals (first | assumption | wp_step))
theorem ku8 {Q:Option Value -> Shared -> Prop} (Y:K.In s.heap) (p:ClsAt e (.ref C) s.heap) (S:ExC K C) (q:Q (some (.ref C)) { s with toks:=s.toks + 1 }):wpAny (model prog w) A (getAttr? (.ref e) "__class__") Q E s:=by
 have b0:=p.looks (M:=model prog w)
 have b1:=looks_findIn (M:=model prog w) Y S.gt
 have b2:=looks_findIn (M:=model prog w) Y S.gh
 obtain ⟨h0,g,d,t,os⟩:=s
 have k1:=F.attr_ValueError.ga.bind (.ref e)
 unfold getAttr?
 unfold getAttrBy? getAttrBy
 refine wpAny_bind (wpAny_mkText (wpAny_bind (wpAny_attempt (wpAny_holding (wpAny_bind (b0.at (wpAny_bind (b1.at ?_))))))))
 have n1:¬ (onTheHeap (Value.ref C) && Value.builtin "BaseException.__getattribute__" == Value.builtin "object.__getattribute__") = true:=by
  have:(Value.builtin "BaseException.__getattribute__" == Value.builtin "object.__getattribute__") = false:=by decide +kernel
  rw [this,Bool.and_false]; exact Bool.false_ne_true
 dsimp only
 rw [if_neg n1]
 unfold getAttrByItsOwn
 refine wpAny_bind (b2.at ?_)
 refine wpAny_bind (wpAny_attempt (wpAny_holding ?_))
 show wpAny _ _ (boundAndCalled _ _ _) _ _ _
 unfold boundAndCalled
 refine wpAny_bind ?_
 rw [k1]
 refine wpAny_pure ?_
 refine wpAny_call (codeAny_call_builtin F.attr_ValueError.ga.plain F.entry_bexc_ga (kf9 (s:=⟨h0,g,d,t + 1,os⟩) Y p S (ku9 (s:=⟨h0,g,d,t + 1,os⟩) Y p S ?_)))
 exact handed_on rfl (wpAny_pure q)
theorem qh8 (S:ExC K C):KitX K (.ref e) (.ref C) (ClsAt e (.ref C)) where
 ty:=fun _ _ _ p=>p.looks
 it:=fun _ _ Y _=>by
  refine x1_2 (any_some S.dc) fun cd hcd _=>?_
  unfold clsIn at hcd
  split at hcd
  ·rename_i c' d' cd' sl' ho
   intro A' Q' E' s' k q
   unfold isType
   unfold loadHead
   refine wpAny_bind (wpAny_loadPart (k _ _ (Y _ _ ho)) ?_)
   exact wpAny_pure q
  ·cases hcd
 ne:=fun h tp dd its n sl Y htp=>by
  refine x1_2 (any_some S.dc) fun cd hcd _=>?_
  refine Bool.eq_false_iff.mpr fun q=>?_
  obtain rfl:C = tp:=Value.ref.inj (beq_iff_eq.mp q)
  unfold clsIn at hcd
  split at hcd
  ·rename_i c' d' cd' sl' ho
   rw [Y _ _ ho] at htp
   cases htp
  ·cases hcd
 ca:=fun Y p k=>ku8 Y p S k
theorem qs6 {Q:Value -> Shared -> Prop} {b:Bool} (S:ExC K C) (Y:K.In s.heap) (p:ClsAt e (.ref C) s.heap) (k:kitOne K (.ref C) c = some b) (h:∀ tk,Q (.bool b) { s with toks:=tk }):wpAny (model prog w) A (call (.builtin "isinstance") [.ref e,c]) Q E s :=
 kia_one (qh8 S) Y p k (by intro q; cases q) h
end
end Dm
end T_Is0
section T_Xa
namespace Dm
open PySem PySem.Spec PyProof.Rows L2 PySem.W PySem.Calls PySem.Builtin PySem.Builtin.ObjectAttr PySem.Builtin.Getset_descriptor
noncomputable def ClsX (e C dx:Addr) (h:Heap):Prop:=∃ o,h.get? e = some o /\ o.cls = .ref C /\ o.dict = some dx /\ ∃ vs,o.data = .fields vs
theorem ClsX.at_ {e C dx:Addr} {h:Heap} (p:ClsX e C dx h):ClsAt e (.ref C) h:=by
 obtain ⟨o,h1,h2,_⟩:=p
 exact ⟨o,h1,h2⟩
section
variable {K:Frag} {prog:Program} {w:World} {A:Around} {E:Value -> Shared -> Prop} {s:Shared} {e C dx:Addr} {v:Value} {mA:Str -> Option Value}
theorem kt1 {M:Model} {h:Heap} (Y:K.In h) (S:ExC K C) (na:findIn K (.ref C) "at" = some none) (p:ClsX e C dx h) (n:h.Ns1 dx mA) (hv:mA "at" = some v):Looks M h (find (.ref e) (.ref C) "at") (.value v):=by
 obtain ⟨o,h1,h2,h3,vs,h4⟩:=p
 obtain ⟨od,es,ep,g1,g2,g3,g4,g5⟩:=n
 obtain ⟨cd,hcd,hdt⟩:=any_some S.dc
 have I:InstAt h e o C (some od):=⟨h1,h2,by unfold notCls; rw [h4],by rw [h3]; exact g1⟩
 have own:W.ownOf cd (some od) "at" = some (some v):=by
  have f:=(g5 "at").trans hv
  unfold W.ownOf lookIn
  rw [if_pos hdt]
  dsimp only
  rw [g2]
  dsimp only
  unfold nsFind findBy at f
  rw [<- Array.find?_toList] at f
  cases hf:es.toList.find? (·.key.isStr "at") with
  | none=>rw [hf] at f; cases f
  | some en=>rw [hf] at f; cases f; rfl
 refine (looks_findIn (M:=M) Y na).andThen (Looks.andThen (a:=none) .now (Looks.andThen (a:=none) .now ?_))
 exact (looks_own Y I hcd own).andThen (Looks.tag .now)
theorem ko2 {tk:Tok} {Q:Fin -> Shared -> Prop} (Y:K.In s.heap) (p:ClsX e C dx s.heap) (S:ExC K C) (na:findIn K (.ref C) "at" = some none) (n:s.heap.Ns1 dx mA) (hv:mA "at" = some v) (q:Q (.done (.ret v)) s):wpAny (model prog w) A (Builtin.«object.__getattribute__» ⟨[.ref e,.str "at" tk],[]⟩) Q E s:=by
 have b0:=p.at_.looks (M:=model prog w)
 have b3:=kt1 (M:=model prog w) Y S na p n hv
 obtain ⟨h0,g,d,t,os⟩:=s
 unfold Builtin.«object.__getattribute__»
 repeat (any_goals (first | assumption | with_reducible refine b0.at ?_ | with_reducible refine b3.at ?_ | wp_step))
theorem qz4 {Q:Value -> Shared -> Prop} (Y:K.In s.heap) (p:ClsX e C dx s.heap) (S:ExC K C) (na:findIn K (.ref C) "at" = some none) (n:s.heap.Ns1 dx mA) (hv:mA "at" = some v) (hh:handedOut v = pure v) (q:Q v { s with toks:=s.toks + 1 }):wpAny (model prog w) A (getAttr (.ref e) "at" true) Q E s:=by
 have b0:=p.at_.looks (M:=model prog w)
 have b1:=looks_findIn (M:=model prog w) Y S.gt
 have b2:=looks_findIn (M:=model prog w) Y S.gh
 obtain ⟨h0,g,d,t,os⟩:=s
 have k1:=F.attr_ValueError.ga.bind (.ref e)
 unfold getAttr
 unfold getAttrBy
 refine wpAny_bind (wpAny_mkText (wpAny_holding (wpAny_bind (b0.at (wpAny_bind (b1.at ?_))))))
 have n1:¬ (onTheHeap (Value.ref C) && Value.builtin "BaseException.__getattribute__" == Value.builtin "object.__getattribute__") = true:=by
  have:(Value.builtin "BaseException.__getattribute__" == Value.builtin "object.__getattribute__") = false:=by decide +kernel
  rw [this,Bool.and_false]; exact Bool.false_ne_true
 dsimp only
 rw [if_neg n1]
 unfold getAttrByItsOwn
 refine wpAny_bind (b2.at ?_)
 refine wpAny_bind (wpAny_attempt (wpAny_holding ?_))
 show wpAny _ _ (boundAndCalled _ _ _) _ _ _
 unfold boundAndCalled
 refine wpAny_bind ?_
 rw [k1]
 refine wpAny_pure ?_
 refine wpAny_call (codeAny_call_builtin F.attr_ValueError.ga.plain F.entry_bexc_ga (kf9 (s:=⟨h0,g,d,t + 1,os⟩) Y p.at_ S (ko2 (s:=⟨h0,g,d,t + 1,os⟩) Y p S na n hv ?_)))
 dsimp only
 rw [hh]
 exact wpAny_pure q
end
end Dm
end T_Xa
section T_De
namespace Dm
open PySem PySem.Spec PyProof.Rows L2
inductive R (α:Type) where
 | ok (a:α) | ex (c:Addr) (p:Option Int) | bad
noncomputable def R.bind {α β:Type} (r:R α) (f:α -> R β):R β:=match r with | .ok a=>f a | .ex c p=>.ex c p | .bad=>.bad
noncomputable abbrev DSt:=List (Option D)
noncomputable abbrev DF:=DSt -> R D
noncomputable abbrev DA:=DSt -> R (List D)
inductive Out where
 | nx (st:DSt) | rt (d:D) | bk (st:DSt) | ct (st:DSt) | ex (c:Addr) (p:Option Int) (st:DSt) | bad
noncomputable abbrev DS:=DSt -> Out
noncomputable def exP (E:XK) (c:Addr) (p:Option Int) (H:Hp):Prop:=match p with
 | none=>E (.ref c) none H
 | some n=>∀ dx,H dx = some (.xd [("at",.int n)]) -> E (.ref c) (some dx) H
noncomputable def keepN:Option HO -> Bool
 | none=>true
 | some (.tup _)=>true
 | some (.frz _ (.tup _))=>true
 | _=>false
noncomputable def nw (G H:Hp):Hp:=fun a=>if keepN (G a) = true then H a else none
theorem jb1 (G H:Hp):Same (nw G H) H:=fun b o h=>by
 unfold nw at h; split at h
 ·exact h
 ·cases h
theorem Q1 {G H H':Hp} (e:Same H H'):Same (nw G H) (nw G H'):=fun b o h=>by
 unfold nw at h ⊢; split at h
 ·rename_i q; rw [if_pos q]; exact e b o h
 ·cases h
theorem jo1 {G G':Hp} (e:Same G G') {a:Addr} (h:keepN (G' a) = true):keepN (G a) = true:=by
 cases q:G a with
 | none=>rfl
 | some o=>rw [e a o q] at h; exact h
theorem jz9 {G G' H:Hp} (e:Same G G'):Same (nw G' H) (nw G H):=fun b o h=>by
 unfold nw at h ⊢; split at h
 ·rename_i q; rw [if_pos (jo1 e q)]; exact h
 ·cases h
theorem jo7 {G H:Hp} {a:Addr} (h:G a = none):nw G H a = H a:=by unfold nw; rw [h]; rfl
noncomputable def KeepT (H G:Hp):Prop:=Same G H /\ ∀ a xs,Rd H a (.tup xs) -> Rd G a (.tup xs)
theorem KeepT.refl (H:Hp):KeepT H H:=⟨.refl _,fun _ _ h=>h⟩
theorem KeepT.trans {H G F:Hp} (a:KeepT H G) (b:KeepT G F):KeepT H F:=⟨b.1.trans a.1,fun x xs h=>b.2 x xs (a.2 x xs h)⟩
theorem KeepT.nw {G H:Hp} (e:Same G H):KeepT H (nw G H):=⟨jb1 _ _,fun a xs h=>by
 have k:keepN (G a) = true:=by
  cases q:G a with
  | none=>rfl
  | some o =>
   have:=e a o q
   rcases h with h | ⟨u,h⟩
   ·rw [h] at this; cases this; rfl
   ·rw [h] at this; cases this; rfl
 unfold Rd Dm.nw
 rw [if_pos k]; exact h⟩
theorem KeepT.er {H:Hp} {A:List Addr} (h:∀ a ∈ A,∃ xs,H a = some (.lst xs)):KeepT H (er H A):=⟨v4 _ _,fun a xs r=>by
 have k:a ∉ A:=fun m=>by
  obtain ⟨ys,q⟩:=h a m
  rcases r with r | ⟨u,r⟩
  ·rw [q] at r; cases r
  ·rw [q] at r; cases r
 unfold Rd
 rw [v8 k]; exact r⟩
mutual
noncomputable def noL:D -> Bool
 | .tup ds=>noLs ds
 | .lst _=>false
 | .brd _ _=>false
 | _=>true
noncomputable def noLs:List D -> Bool
 | []=>true
 | d :: ds=>noL d && noLs ds
end
theorem jh4:∀ {ds:List D} {d:D},noLs ds = true -> d ∈ ds -> noL d = true
 | _ :: _,_,h,.head _=>by rw [noLs,Bool.and_eq_true] at h; exact h.1
 | _ :: ds,_,h,.tail _ m=>by rw [noLs,Bool.and_eq_true] at h; exact jh4 h.2 m
theorem jf1:∀ {ds:List D},(∀ d ∈ ds,noL d = true) -> noLs ds = true
 | [],_=>rfl
 | d :: ds,h=>by rw [noLs,Bool.and_eq_true]; exact ⟨h d (.head _),jf1 fun x hx=>h x (.tail _ hx)⟩
section
variable {K:PySem.W.Frag} {C:Cfg} {H G:Hp}
theorem KeepT.sq (k:KeepT H G) {a:Addr} {xs:List V} (h:SqT K H a xs):SqT K G a xs:=by
 rcases h with h | h
 ·exact .inl (k.2 a xs h)
 ·exact .inr h
mutual
theorem Rep.part (k:KeepT H G):∀ (d:D) {v:V},noL d = true -> Rep K C H d v -> Rep K C G d v
 | .non,v,_,q=>by rw [Rep] at q ⊢; exact q
 | .bl b,v,_,q=>by rw [Rep] at q ⊢; exact q
 | .int i,v,_,q=>by rw [Rep] at q ⊢; exact q
 | .str x,v,_,q=>by rw [Rep] at q ⊢; exact q
 | .tup ds,v,n,q=>by
  rw [Rep] at q ⊢
  rw [noL] at n
  refine x2_3 q fun a xs h1 h2 h3=>?_
  clear q
  exact ⟨a,xs,h1,k.sq h2,Reps.part k ds n h3⟩
 | .lst ds,v,n,q=>by rw [noL] at n; cases n
 | .brd t ds,v,n,q=>by rw [noL] at n; cases n
theorem Reps.part (k:KeepT H G):∀ (ds:List D) {vs:List V},noLs ds = true -> Reps K C H ds vs -> Reps K C G ds vs
 | [],_,_,q=>by rw [Reps] at q ⊢; exact q
 | d :: ds,_,n,q=>by
  rw [Reps] at q ⊢
  rw [noLs,Bool.and_eq_true] at n
  refine x2_3 q fun v r e1 a b=>?_
  clear q
  exact ⟨v,r,e1,Rep.part k d n.1 a,Reps.part k ds n.2 b⟩
end
end
inductive Kd where
 | new | nwo | loc | old | tmn | tmp
inductive SK where
 | par | loc | own (n:Bool) | any
noncomputable def TopL (K:PySem.W.Frag) (C:Cfg) (G F:Hp) (d:D) (v:V):Prop:=∀ ds,d = .lst ds -> ∃ p xs,v = .ref p /\ G p = none /\ F p = some (.lst xs) /\ Reps K C (er F [p]) ds xs
section
variable (K:PySem.W.Frag) (C:Cfg)
noncomputable def Val (κ:Kd) (G0:Hp) (A:List Addr) (H H':Hp) (d:D) (v:V):Prop:=match κ with
 | .new=>Rep K C (nw H H') d v /\ TopL K C H (nw H H') d v
 | .nwo=>Rep K C (er H' A) d v /\ TopL K C H (er H' A) d v
 | .loc=>Rep K C (nw G0 (er H' A)) d v /\ TopL K C G0 (nw G0 (er H' A)) d v
 | .old=>Rep K C (er H' A) d v
 | .tmn=>Rep K C (nw G0 H') d v /\ TopL K C G0 (nw G0 H') d v
 | .tmp=>Rep K C H' d v
noncomputable def eh (n:Bool) (G0:Hp) (A:List Addr) (H:Hp):Hp:=if n = true then nw G0 (er H A) else er H A
noncomputable def Slot (k:SK) (G0:Hp) (A:List Addr) (H:Hp) (d:D) (v:V):Prop:=match k with
 | .par=>Rep K C (er H A) d v
 | .loc=>Rep K C (nw G0 (er H A)) d v /\ TopL K C G0 (nw G0 (er H A)) d v
 | .own n=>(∃ ds p xs,d = .lst ds /\ v = .ref p /\ p ∈ A /\ G0 p = none /\ H p = some (.lst xs) /\ Reps K C (eh n G0 A H) ds xs) \/ ((∀ ds,d ≠ .lst ds) /\ Rep K C (eh n G0 A H) d v)
 | .any=>Rep K C H d v
structure RS (G0:Hp) (Γ:List SK) (σ:L2.St) (H:Hp) (A:List Addr) (st:DSt):Prop where
 base:Same G0 (er H A)
 lists:∀ a ∈ A,∃ xs,H a = some (.lst xs)
 len:σ.length = st.length
 slot:∀ (i:Nat) (d:D),st[i]? = some (some d) -> ∃ k v,Γ[i]? = some k /\ σ[i]? = some (some v) /\ Slot K C k G0 A H d v
 apart:∀ (i j:Nat) (n m:Bool) (p:Addr) (ds es:List D),i ≠ j -> Γ[i]? = some (.own n) -> Γ[j]? = some (.own m) -> st[i]? = some (some (.lst ds)) -> st[j]? = some (some (.lst es)) -> σ[i]? = some (some (.ref p)) -> σ[j]? ≠ some (some (.ref p))
end
section
variable {K:PySem.W.Frag} {C:Cfg} {G0:Hp} {Γ:List SK} {σ:L2.St} {H H' H'' H1:Hp} {A:List Addr} {st:DSt} {κ:Kd} {d:D} {v:V}
theorem TopL.mono {G F F':Hp} (f:Same F F') (t:TopL K C G F d v):TopL K C G F' d v:=fun ds h=>by
 refine x2_4 (t ds h) fun p xs a b c q=>?_
 exact ⟨p,xs,a,b,f _ _ c,q.same (q8 f) _⟩
theorem TopL.early {G G' F:Hp} (e:Same G G') (t:TopL K C G' F d v):TopL K C G F d v:=fun ds h=>by
 refine x2_3 (t ds h) fun p xs a b c=>?_
 exact ⟨p,xs,a,e.free b,c⟩
theorem TopL.noL {G F:Hp} (n:noL d = true):TopL K C G F d v:=fun ds h=>by subst h; rw [Dm.noL] at n; cases n
theorem Val.later (e:Same H' H'') (q:Val K C κ G0 A H H' d v):Val K C κ G0 A H H'' d v:=by
 cases κ with
 | new=>exact ⟨q.1.same (Q1 e) _,q.2.mono (Q1 e)⟩
 | nwo=>exact ⟨q.1.same (q8 e) _,q.2.mono (q8 e)⟩
 | loc=>exact ⟨q.1.same (Q1 (q8 e)) _,q.2.mono (Q1 (q8 e))⟩
 | old=>exact Rep.same (q8 e) _ q
 | tmn=>exact ⟨q.1.same (Q1 e) _,q.2.mono (Q1 e)⟩
 | tmp=>exact Rep.same e _ q
theorem Val.early (e:Same H H1) (q:Val K C κ G0 A H1 H' d v):Val K C κ G0 A H H' d v:=by
 cases κ with
 | new=>exact ⟨q.1.same (jz9 e) _,(q.2.early e).mono (jz9 e)⟩
 | nwo=>exact ⟨q.1,q.2.early e⟩
 | loc=>exact q
 | old=>exact q
 | tmn=>exact q
 | tmp=>exact q
theorem Val.rep (q:Val K C κ G0 A H H' d v):Rep K C H' d v:=by
 cases κ with
 | new=>exact q.1.same (jb1 _ _) _
 | nwo=>exact q.1.same (v4 _ _) _
 | loc=>exact q.1.same ((jb1 _ _).trans (v4 _ _)) _
 | old=>exact Rep.same (v4 _ _) _ q
 | tmn=>exact q.1.same (jb1 _ _) _
 | tmp=>exact q
theorem RS.mono (r:RS K C G0 Γ σ H A st) (e:Same H H'):RS K C G0 Γ σ H' A st where
 base:=r.base.trans (q8 e)
 lists:=fun a m=>let ⟨xs,h⟩:=r.lists a m; ⟨xs,e _ _ h⟩
 len:=r.len
 slot:=fun i d h=>by
  refine x2_3 (r.slot i d h) fun k v h1 h2 h3=>?_
  refine ⟨k,v,h1,h2,?_⟩
  have ee:∀ n,Same (eh n G0 A H) (eh n G0 A H'):=fun n=>by
   unfold eh; cases n
   ·exact q8 e
   ·exact Q1 (q8 e)
  cases k with
  | par=>exact Rep.same (q8 e) _ h3
  | loc=>exact ⟨h3.1.same (Q1 (q8 e)) _,h3.2.mono (Q1 (q8 e))⟩
  | own n =>
   rcases h3 with ⟨ds,p,xs,a,b,c,f,g,j⟩ | ⟨a,b⟩
   ·exact .inl ⟨ds,p,xs,a,b,c,f,e _ _ g,j.same (ee n) _⟩
   ·exact .inr ⟨a,b.same (ee n) _⟩
  | any=>exact Rep.same e _ h3
 apart:=r.apart
theorem RS.g0 (r:RS K C G0 Γ σ H A st):Same G0 H:=r.base.trans (v4 _ _)
theorem RS.keepE (r:RS K C G0 Γ σ H A st):KeepT H (er H A):=.er r.lists
theorem RS.keepN (r:RS K C G0 Γ σ H A st):KeepT H (nw G0 (er H A)):=r.keepE.trans (.nw r.base)
theorem Val.flat (r:RS K C G0 Γ σ H A st) (e:Same H H') (n:noL d = true) (q:Rep K C H' d v) (κ:Kd):Val K C κ G0 A H H' d v:=by
 have r':=r.mono e
 cases κ with
 | new=>exact ⟨q.part (.nw e) _ n,.noL n⟩
 | nwo=>exact ⟨q.part r'.keepE _ n,.noL n⟩
 | loc=>exact ⟨q.part r'.keepN _ n,.noL n⟩
 | old=>exact Rep.part r'.keepE _ n q
 | tmn=>exact ⟨q.part (.nw r'.g0) _ n,.noL n⟩
 | tmp=>exact q
theorem RS.new_er (r:RS K C G0 Γ σ H A st) (e:Same H H'):Same (nw H H') (er H' A):=fun b o h=>by
 unfold nw at h; split at h
 ·rename_i q
  have:b ∉ A:=fun m=>by
   obtain ⟨xs,hx⟩:=r.lists b m
   rw [hx] at q; cases q
  rw [v8 this]; exact h
 ·cases h
theorem RS.new_loc (r:RS K C G0 Γ σ H A st) (e:Same H H'):Same (nw H H') (nw G0 (er H' A)):=fun b o h=>by
 have h1:=r.new_er e b o h
 unfold nw at h; split at h
 ·rename_i q
  unfold nw
  rw [if_pos (jo1 r.g0 q)]; exact h1
 ·cases h
noncomputable def Kd.le:Kd -> Kd -> Bool
 | .new,_=>true
 | .nwo,.nwo=>true | .nwo,.old=>true | .nwo,.tmp=>true
 | .loc,.loc=>true | .loc,.old=>true | .loc,.tmn=>true | .loc,.tmp=>true
 | .old,.old=>true | .old,.tmp=>true
 | .tmn,.tmn=>true | .tmn,.tmp=>true
 | .tmp,.tmp=>true
 | _,_=>false
theorem Val.le (r:RS K C G0 Γ σ H A st) (e:Same H H') {κ κ':Kd} (l:κ.le κ' = true) (q:Val K C κ G0 A H H' d v):Val K C κ' G0 A H H' d v:=by
 have ne:=r.new_er e
 have nl:=r.new_loc e
 cases κ <;> cases κ' <;> first
  | exact q
  | (cases l; done)
  | exact q.rep
  | exact ⟨q.1.same ne _,q.2.mono ne⟩
  | exact ⟨q.1.same nl _,(q.2.early r.g0).mono nl⟩
  | exact q.1.same ne _
  | exact ⟨q.1.same (nl.trans (Q1 (v4 _ _))) _,(q.2.early r.g0).mono (nl.trans (Q1 (v4 _ _)))⟩
  | exact q.1
  | exact q.1.same (jb1 _ _) _
  | exact ⟨q.1.same (Q1 (v4 _ _)) _,q.2.mono (Q1 (v4 _ _))⟩
end
end Dm
end T_De
section T_De2
namespace Dm
open PySem PySem.Spec PyProof.Rows L2
noncomputable def Kd.hp (κ:Kd) (G0:Hp) (A:List Addr) (H H':Hp):Hp:=match κ with
 | .new=>nw H H' | .nwo=>er H' A | .loc=>nw G0 (er H' A) | .old=>er H' A | .tmn=>nw G0 H' | .tmp=>H'
noncomputable def SK.kd:SK -> Kd
 | .par=>.old | .loc=>.loc | .own true=>.tmn | .own false=>.tmp | .any=>.tmp
noncomputable def SK.takes:SK -> Kd -> Bool
 | .par,κ=>κ.le .old
 | .loc,κ=>κ.le .loc
 | .own true,κ=>κ.le .new
 | .own false,κ=>κ.le .nwo
 | .any,_=>true
theorem Kd.le_new:∀ {κ:Kd},κ.le .new = true -> κ = .new
 | .new,_=>rfl
section
variable {K:PySem.W.Frag} {C:Cfg} {G0:Hp} {Γ:List SK} {σ:L2.St} {H H' H'' H1:Hp} {A:List Addr} {st:DSt} {κ:Kd} {d:D} {v:V}
theorem Val.hp (q:Val K C κ G0 A H H' d v):Rep K C (κ.hp G0 A H H') d v:=by
 cases κ with
 | new=>exact q.1
 | nwo=>exact q.1
 | loc=>exact q.1
 | old=>exact q
 | tmn=>exact q.1
 | tmp=>exact q
theorem Kd.hp_later (e:Same H' H''):Same (κ.hp G0 A H H') (κ.hp G0 A H H''):=by
 cases κ with
 | new=>exact Q1 e
 | nwo=>exact q8 e
 | loc=>exact Q1 (q8 e)
 | old=>exact q8 e
 | tmn=>exact Q1 e
 | tmp=>exact e
theorem Kd.hp_early (e:Same H H1):Same (κ.hp G0 A H1 H') (κ.hp G0 A H H'):=by
 cases κ with
 | new=>exact jz9 e
 | nwo=>exact .refl _
 | loc=>exact .refl _
 | old=>exact .refl _
 | tmn=>exact .refl _
 | tmp=>exact .refl _
theorem Kd.hp_all:Same (κ.hp G0 A H H') H':=by
 cases κ with
 | new=>exact jb1 _ _
 | nwo=>exact v4 _ _
 | loc=>exact (jb1 _ _).trans (v4 _ _)
 | old=>exact v4 _ _
 | tmn=>exact jb1 _ _
 | tmp=>exact .refl _
theorem RS.keep (r:RS K C G0 Γ σ H A st) (e:Same H H'):KeepT H' (κ.hp G0 A H H'):=by
 have r':=r.mono e
 cases κ with
 | new=>exact .nw e
 | nwo=>exact r'.keepE
 | loc=>exact r'.keepN
 | old=>exact r'.keepE
 | tmn=>exact .nw r'.g0
 | tmp=>exact .refl _
theorem Z7 {p:Addr} {o:HO} (h:H p = none):Same H (upd H p o):=fun b u q=>by rw [v7 (y1 q h)]; exact q
theorem qt8 (r:RS K C G0 Γ σ H A st) (e:Same H H') {p:Addr} {o:HO} (h:H' p = none):κ.hp G0 A H (upd H' p o) p = some o:=by
 have h0:H p = none:=e.free h
 have g0:G0 p = none:=r.g0.free h0
 have nA:p ∉ A:=fun m=>by obtain ⟨xs,q⟩:=r.lists p m; rw [h0] at q; cases q
 have u:upd H' p o p = some o:=J1
 cases κ with
 | new=>show nw H _ p = _; rw [jo7 h0]; exact u
 | nwo=>show er _ A p = _; rw [v8 nA]; exact u
 | loc=>show nw G0 _ p = _; rw [jo7 g0,v8 nA]; exact u
 | old=>show er _ A p = _; rw [v8 nA]; exact u
 | tmn=>show nw G0 _ p = _; rw [jo7 g0]; exact u
 | tmp=>exact u
theorem Val.tup (r:RS K C G0 Γ σ H A st) (e:Same H H') {p:Addr} {ds:List D} {xs:List V} (h:H' p = none) (q:Reps K C (κ.hp G0 A H H') ds xs):Val K C κ G0 A H (upd H' p (.tup xs)) (.tup ds) (.ref p):=by
 have R:Rep K C (κ.hp G0 A H (upd H' p (.tup xs))) (.tup ds) (.ref p):=by
  rw [Rep]
  exact ⟨p,xs,rfl,.of (qt8 r e h),q.same (Kd.hp_later (Z7 h)) _⟩
 have T:∀ G F,TopL K C G F (.tup ds) (.ref p):=fun G F ds' z=>by cases z
 cases κ with
 | new=>exact ⟨R,T _ _⟩
 | nwo=>exact ⟨R,T _ _⟩
 | loc=>exact ⟨R,T _ _⟩
 | old=>exact R
 | tmn=>exact ⟨R,T _ _⟩
 | tmp=>exact R
theorem Val.lst (r:RS K C G0 Γ σ H A st) (e:Same H H') {p:Addr} {ds:List D} {xs:List V} (h:H' p = none) (q:Reps K C (κ.hp G0 A H H') ds xs):Val K C κ G0 A H (upd H' p (.lst xs)) (.lst ds) (.ref p):=by
 have h0:H p = none:=e.free h
 have R0:Reps K C (er (κ.hp G0 A H (upd H' p (.lst xs))) [p]) ds xs:=by
  refine q.same (fun b u z=>?_) _
  have nb:b ≠ p:=fun w=>by
   have:=Kd.hp_all _ _ z
   rw [w,h] at this; cases this
  rw [v8 (by simpa using nb)]
  exact Kd.hp_later (Z7 h) _ _ z
 have R:Rep K C (κ.hp G0 A H (upd H' p (.lst xs))) (.lst ds) (.ref p):=by
  rw [Rep]
  exact ⟨p,xs,rfl,.of (qt8 r e h),R0⟩
 have T:∀ G,G p = none -> TopL K C G (κ.hp G0 A H (upd H' p (.lst xs))) (.lst ds) (.ref p):=fun G g ds' z=>by cases z; exact ⟨p,xs,rfl,g,qt8 r e h,R0⟩
 cases κ with
 | new=>exact ⟨R,T _ h0⟩
 | nwo=>exact ⟨R,T _ h0⟩
 | loc=>exact ⟨R,T _ (r.g0.free h0)⟩
 | old=>exact R
 | tmn=>exact ⟨R,T _ (r.g0.free h0)⟩
 | tmp=>exact R
theorem RS.read (r:RS K C G0 Γ σ H A st) {i:Nat} {k:SK} (hk:Γ[i]? = some k) (h:st[i]? = some (some d)):∃ v,σ[i]? = some (some v) /\ Val K C k.kd G0 A H H d v:=by
 refine x2_3 (r.slot i d h) fun k' v h1 h2 h3=>?_
 rw [hk] at h1; cases h1
 refine ⟨v,h2,?_⟩
 cases k with
 | par=>exact h3
 | loc=>exact h3
 | any=>exact h3
 | own n =>
  rcases h3 with ⟨ds,p,xs,rfl,rfl,c,f,g,j⟩ | ⟨a,b⟩
  ·have R0:∀ F:Hp,Same (eh n G0 A H) F -> Reps K C (er F [p]) ds xs:=fun F e=>by
    refine j.same (fun b u w=>?_) _
    have nb:b ≠ p:=fun w'=>by
     subst w'
     unfold eh at w
     cases n with
     | true=>have:=jb1 _ _ _ _ w; rw [jc4 c] at this; cases this
     | false=>rw [if_neg (by decide),jc4 c] at w; cases w
    rw [v8 (by simpa using nb)]
    exact e _ _ w
   have R:∀ F:Hp,Same (eh n G0 A H) F -> F p = some (.lst xs) -> Rep K C F (.lst ds) (.ref p):=fun F e z=>by
    rw [Rep]
    exact ⟨p,xs,rfl,.of z,R0 F e⟩
   cases n with
   | true=>exact ⟨R _ (by unfold eh; exact Q1 (v4 _ _)) (by rw [jo7 f]; exact g),fun ds' z=>by cases z; exact ⟨p,xs,rfl,f,by rw [jo7 f]; exact g,R0 _ (by unfold eh; exact Q1 (v4 _ _))⟩⟩
   | false=>exact R _ (by unfold eh; exact v4 _ _) g
  ·cases n with
   | true=>exact ⟨b.same (by unfold eh; exact Q1 (v4 _ _)) _,fun ds z=>absurd z (a ds)⟩
   | false=>exact b.same (by unfold eh; exact v4 _ _) _
theorem RS.set (r:RS K C G0 Γ σ H A st) (e:Same H H') {i:Nat} {k:SK} (hk:Γ[i]? = some k) (l:k.takes κ = true) (q:Val K C κ G0 A H H' d v) :
  ∃ A',RS K C G0 Γ (σ.set i (some v)) H' A' (st.set i (some d)) /\ Same (er H A) (er H' A') /\ ∀ a ∈ A,a ∈ A':=by
 have r':=r.mono e
 have same:(∀ n,k = .own n -> ∀ ds,d ≠ .lst ds) -> Slot K C k G0 A H' d v -> ∃ A',RS K C G0 Γ (σ.set i (some v)) H' A' (st.set i (some d)) /\ Same (er H A) (er H' A') /\ ∀ a ∈ A,a ∈ A':=fun nl s=>by
  refine ⟨A,⟨r'.base,r'.lists,by simp [r.len],fun j d' h=>?_,fun a b n m p ds es hab g1 g2 s1 s2 w1 w2=>?_⟩,q8 e,fun _ m=>m⟩
  ·by_cases hj:i = j
   ·subst hj
    have hlt:i < st.length:=by
     have:=(List.getElem?_eq_some_iff.mp h).1
     simpa using this
    rw [List.getElem?_set_self hlt] at h
    cases h
    exact ⟨k,v,hk,List.getElem?_set_self (by rw [r.len]; exact hlt),s⟩
   ·rw [List.getElem?_set_ne hj] at h ⊢
    exact r'.slot j d' h
  ·have ha:a ≠ i:=fun z=>by
    subst z
    have hlt:a < st.length:=by
     have:=(List.getElem?_eq_some_iff.mp s1).1
     simpa using this
    rw [List.getElem?_set_self hlt] at s1
    rw [hk] at g1
    exact nl n (Option.some.inj g1) ds (Option.some.inj (Option.some.inj s1))
   have hb:b ≠ i:=fun z=>by
    subst z
    have hlt:b < st.length:=by
     have:=(List.getElem?_eq_some_iff.mp s2).1
     simpa using this
    rw [List.getElem?_set_self hlt] at s2
    rw [hk] at g2
    exact nl m (Option.some.inj g2) es (Option.some.inj (Option.some.inj s2))
   rw [List.getElem?_set_ne (Ne.symm ha)] at s1 w1
   rw [List.getElem?_set_ne (Ne.symm hb)] at s2 w2
   exact r.apart a b n m p ds es hab g1 g2 s1 s2 w1 w2
 cases k with
 | par=>exact same (fun _ z=>by cases z) (Val.le r e (κ':=.old) l q)
 | loc=>exact same (fun _ z=>by cases z) (Val.le r e (κ':=.loc) l q)
 | any=>exact same (fun _ z=>by cases z) q.rep
 | own n =>
  have q1:Val K C .nwo G0 A H H' d v:=Val.le r e (κ':=.nwo) (by cases n <;> cases κ <;> first | rfl | cases l) q
  have q2:n = true -> Val K C .loc G0 A H H' d v:=fun z=>by
   subst z
   obtain rfl:=Kd.le_new (κ:=κ) l
   exact Val.le r e rfl q
  by_cases hd:∃ ds,d = .lst ds
  ·obtain ⟨ds,rfl⟩:=hd
   refine x2_4 (q1.2 ds rfl) fun p xs zo2 h0 hp' i1=>?_
   obtain rfl:=zo2
   have hp:H' p = some (.lst xs):=v4 _ _ _ _ hp'
   have pA:p ∉ A:=fun m=>by obtain ⟨ys,z⟩:=r.lists p m; rw [h0] at z; cases z
   have g0:G0 p = none:=r.g0.free h0
   have ee:Same (er H A) (er H' (p :: A)):=fun b u z=>by
    have nb:b ≠ p:=fun w=>by have:=v4 _ _ _ _ z; rw [w,h0] at this; cases this
    by_cases mb:b ∈ A
    ·rw [jc4 mb] at z; cases z
    ·rw [v8 (by simp [nb,mb])]
     rw [v8 mb] at z
     exact e _ _ z
   have eeh:∀ m,Same (eh m G0 A H) (eh m G0 (p :: A) H'):=fun m=>by
    unfold eh; cases m
    ·exact ee
    ·exact Q1 ee
   have items:Reps K C (eh n G0 (p :: A) H') ds xs:=by
    cases n with
    | false=>exact i1.same (fun b u z=>by
      by_cases mb:b ∈ [p]
      ·rw [jc4 mb] at z; cases z
      ·rw [v8 mb] at z
       by_cases ma:b ∈ A
       ·rw [jc4 ma] at z; cases z
       ·rw [v8 ma] at z
        show er H' (p :: A) b = _
        rw [v8 (by simpa [ma] using mb)]; exact z) _
    | true =>
     refine x2_4 ((q2 rfl).2 ds rfl) fun p' xs' e1 _ e2 i2=>?_
     cases e1
     have e2:=v4 _ _ _ _ (jb1 _ _ _ _ e2)
     rw [hp] at e2
     cases e2
     exact i2.same (fun b u z=>by
      by_cases mb:b ∈ [p]
      ·rw [jc4 mb] at z; cases z
      ·rw [v8 mb] at z
       show nw G0 (er H' (p :: A)) b = _
       unfold nw at z ⊢
       split at z
       ·rename_i kk
        rw [if_pos kk]
        by_cases ma:b ∈ A
        ·rw [jc4 ma] at z; cases z
        ·rw [v8 ma] at z
         rw [v8 (by simpa [ma] using mb)]; exact z
       ·cases z) _
   refine ⟨p :: A,⟨r.base.trans ee,fun a m=>?_,by simp [r.len],fun j d' h=>?_,fun a b n' m' p' ds' es' hab g1 g2 s1 s2 w1 w2=>?_⟩,ee,fun _ m=>.tail _ m⟩
   ·rcases List.mem_cons.mp m with rfl | m
    ·exact ⟨xs,hp⟩
    ·exact r'.lists a m
   ·by_cases hj:i = j
    ·subst hj
     have hlt:i < st.length:=by
      have:=(List.getElem?_eq_some_iff.mp h).1
      simpa using this
     rw [List.getElem?_set_self hlt] at h
     cases h
     exact ⟨.own n,.ref p,hk,List.getElem?_set_self (by rw [r.len]; exact hlt),.inl ⟨ds,p,xs,rfl,rfl,.head _,g0,hp,items⟩⟩
    ·rw [List.getElem?_set_ne hj] at h ⊢
     refine x2_3 (r.slot j d' h) fun k' v' h1 h2 h3=>?_
     refine ⟨k',v',h1,h2,?_⟩
     cases k' with
     | par=>exact Rep.same ee _ h3
     | loc=>exact ⟨h3.1.same (Q1 ee) _,h3.2.mono (Q1 ee)⟩
     | any=>exact Rep.same e _ h3
     | own m =>
      rcases h3 with ⟨ds2,p2,xs2,a,b,c,f,g,j⟩ | ⟨a,b⟩
      ·exact .inl ⟨ds2,p2,xs2,a,b,.tail _ c,f,e _ _ g,j.same (eeh m) _⟩
      ·exact .inr ⟨a,b.same (eeh m) _⟩
   ·
    have old:∀ {c:Nat} {nn:Bool} {cs:List D},c ≠ i -> Γ[c]? = some (.own nn) -> (st.set i (some (.lst ds)))[c]? = some (some (.lst cs)) -> (σ.set i (some (.ref p)))[c]? ≠ some (some (.ref p)):=fun {c nn cs} hc gc sc wc=>by
     rw [List.getElem?_set_ne (Ne.symm hc)] at sc wc
     refine x2_3 (r.slot c _ sc) fun k' v' h1 h2 h3=>?_
     rw [gc] at h1; cases h1
     rw [wc] at h2; cases h2
     rcases h3 with ⟨ds2,p2,xs2,a,b,c',_⟩ | ⟨a,_⟩
     ·cases b; exact pA c'
     ·exact a _ rfl
    by_cases ha:a = i
    ·subst ha
     have hlt:a < st.length:=by
      have:=(List.getElem?_eq_some_iff.mp s1).1
      simpa using this
     rw [List.getElem?_set_self (by rw [r.len]; exact hlt)] at w1
     cases w1
     exact old (Ne.symm hab) g2 s2 w2
    ·by_cases hb:b = i
     ·subst hb
      have hlt:b < st.length:=by
       have:=(List.getElem?_eq_some_iff.mp s2).1
       simpa using this
      rw [List.getElem?_set_self (by rw [r.len]; exact hlt)] at w2
      cases w2
      exact old ha g1 s1 w1
     ·rw [List.getElem?_set_ne (Ne.symm ha)] at s1 w1
      rw [List.getElem?_set_ne (Ne.symm hb)] at s2 w2
      exact r.apart a b n' m' p' ds' es' hab g1 g2 s1 s2 w1 w2
  ·refine same (fun _ _ ds z=>hd ⟨ds,z⟩) (.inr ⟨fun ds z=>hd ⟨ds,z⟩,?_⟩)
   cases n with
   | false=>exact q1.1
   | true=>exact (q2 rfl).1
end
end Dm
end T_De2
section T_De3
namespace Dm
open PySem PySem.Spec PyProof.Rows L2
section
variable (K:PySem.W.Frag) (C:Cfg) (G0:Hp) (Γ:List SK) (E:L2.St -> XK)
noncomputable def tD (f:DF) (κ:Kd):TE:=fun σ H Q=>∃ A st,RS K C G0 Γ σ H A st /\ match f st with
 | .ok d=>∀ v H',Same H H' -> Val K C κ G0 A H H' d v -> Q v H'
 | .ex c p=>∀ H',Same H H' -> exP (E σ) c p H'
 | .bad=>False
noncomputable def tDA (f:DA) (κ:Kd):TA:=fun σ H Q=>∃ A st,RS K C G0 Γ σ H A st /\ match f st with
 | .ok ds=>∀ vs H',Same H H' -> Reps K C (κ.hp G0 A H H') ds vs -> Q vs H'
 | .ex c p=>∀ H',Same H H' -> exP (E σ) c p H'
 | .bad=>False
noncomputable def tDT (f:DF):TT:=fun σ H Q=>∃ A st,RS K C G0 Γ σ H A st /\ match f st with
 | .ok (.bl b)=>∀ H',Same H H' -> Q b H'
 | .ex c p=>∀ H',Same H H' -> exP (E σ) c p H'
 | _=>False
end
theorem _root_.L2.PE.imp {X:Cx} {e:Expr} {t t':TE} (h:PE X e t) (i:∀ σ H Q,t' σ H Q -> t σ H Q):PE X e t':=fun pins s σ H Q I q=>h pins s σ H Q I (i σ H Q q)
theorem _root_.L2.PT.imp {X:Cx} {e:Expr} {t t':TT} (h:PT X e t) (i:∀ σ H Q,t' σ H Q -> t σ H Q):PT X e t':=fun pins s σ H Q I q=>h pins s σ H Q I (i σ H Q q)
theorem _root_.L2.PW.imp {X:Cx} {e:Expr} {t t':TT} (h:PW X e t) (i:∀ σ H Q,t' σ H Q -> t σ H Q):PW X e t':=fun w pins s σ H Q I q=>h w pins s σ H Q I (i σ H Q q)
theorem _root_.L2.PA.imp {X:Cx} {e:List Expr} {t t':TA} (h:PA X e t) (i:∀ σ H Q,t' σ H Q -> t σ H Q):PA X e t':=fun p pins s σ H Q I q=>h p pins s σ H Q I (i σ H Q q)
theorem _root_.L2.PS.imp {X:Cx} {e:Stmt} {t t':TS} (h:PS X e t) (i:∀ D σ H,t' D σ H -> t D σ H):PS X e t':=fun pins s σ H D I q=>h pins s σ H D I (i D σ H q)
theorem _root_.L2.PSs.imp {X:Cx} {e:List Stmt} {t t':TS} (h:PSs X e t) (i:∀ D σ H,t' D σ H -> t D σ H):PSs X e t':=fun pins s σ H D I q=>h pins s σ H D I (i D σ H q)
noncomputable def dVar (i:Nat):DF:=fun st=>match st[i]? with | some (some d)=>.ok d | _=>.bad
noncomputable def dC (d:D):DF:=fun _=>.ok d
noncomputable def v9 (f:DF):DF:=fun st=>(f st).bind fun d=>if noL d = true then .ok d else .bad
noncomputable def dOp (g:D -> D -> R D) (fa fb:DF):DF:=fun st=>(fa st).bind fun a=>(fb st).bind fun b=>g a b
noncomputable def dUn (g:D -> R D) (fa:DF):DF:=fun st=>(fa st).bind g
noncomputable def aNil:DA:=fun _=>.ok []
noncomputable def j0 (f:DF) (g:DA):DA:=fun st=>(f st).bind fun d=>(g st).bind fun ds=>.ok (d :: ds)
noncomputable def dFn (g:List D -> R D) (f:DA):DF:=fun st=>(f st).bind g
noncomputable def dAnd (fa fb:DF):DF:=fun st=>(fa st).bind fun a=>match a with | .bl true=>fb st | .bl false=>.ok (.bl false) | _=>.bad
noncomputable def dOr (fa fb:DF):DF:=fun st=>(fa st).bind fun a=>match a with | .bl true=>.ok (.bl true) | .bl false=>fb st | _=>.bad
noncomputable def dNot (fa:DF):DF:=fun st=>(fa st).bind fun a=>match a with | .bl b=>.ok (.bl (!b)) | _=>.bad
noncomputable def dIf (fc fa fb:DF):DF:=fun st=>(fc st).bind fun c=>match c with | .bl true=>fa st | .bl false=>fb st | _=>.bad
section
variable {X:Cx} {C:Cfg} {G0:Hp} {Γ:List SK} {E:L2.St -> XK} {e a b c:Expr} {f fa fb fc:DF} {κ κ' κa κb:Kd} {es:List Expr} {fs:DA} {pos:Pos}
theorem qa9 (i:Nat) {k:SK} (h:PE X e (tVar i)) (hk:Γ[i]? = some k:=by rfl):PE X e (tD X.K C G0 Γ E (dVar i) k.kd):=h.imp fun σ H Q zz=>by
 refine x2_2 zz fun A st r q=>?_
 clear zz
 unfold dVar at q
 cases hs:st[i]? with
 | none=>rw [hs] at q; exact q.elim
 | some o =>
  cases o with
  | none=>rw [hs] at q; exact q.elim
  | some d =>
   rw [hs] at q
   refine x1_2 (r.read hk hs) fun v h1 h2=>?_
   exact ⟨v,h1,q v H (.refl _) h2⟩
theorem de_c {v:V} {d:D} (h:PE X e (tC v)) (n:noL d = true) (q:∀ H,Rep X.K C H d v):PE X e (tD X.K C G0 Γ E (dC d) .new):=h.imp fun σ H Q zz1=>zz1.elim fun A zz2=>zz2.elim fun st zz3=>zz3.elim fun r k=>k v H (.refl _) (.flat r (.refl _) n (q H) _)
theorem j5 {i:Int} {j}:PE X (.Constant (.int i) j pos) (tD X.K C G0 Γ E (dC (.int i)) .new):=de_c qz3 (by rw [noL] <;> simp) fun H=>by rw [Rep]
theorem kx3 {i:Bool} {j}:PE X (.Constant (.bool i) j pos) (tD X.K C G0 Γ E (dC (.bl i)) .new):=de_c ve7 (by rw [noL] <;> simp) fun H=>by rw [Rep]
theorem kg8 {x:Str} {i:Int} {t:Tok} (hg:Gl X x) (hm:X.mg x = some (.int i t)) (hd:(x == ("__debug__" : Str)) = false:=by decide):PE X (.Name x pos) (tD X.K C G0 Γ E (dC (.int i)) .new):=de_c (kw5 hg hm (v:=.int i) ⟨t,rfl⟩ hd) (by rw [noL] <;> simp) fun H=>by rw [Rep]
theorem w9 (h:PE X e (tD X.K C G0 Γ E f κ)):PE X e (tD X.K C G0 Γ E (v9 f) .new):=h.imp fun σ H Q zz7=>zz7.elim fun A zz8=>zz8.elim fun st zz9=>zz9.elim fun r q=>⟨A,st,r,by
 unfold v9 R.bind at q
 cases hf:f st with
 | ok d =>
  rw [hf] at q
  dsimp only at q ⊢
  by_cases n:noL d = true
  ·rw [if_pos n] at q
   exact fun v H' e w=>q v H' e (.flat r e n w.rep _)
  ·rw [if_neg n] at q; exact q.elim
 | ex c p=>rw [hf] at q; exact q
 | bad=>rw [hf] at q; exact q⟩
noncomputable def OpD (K:PySem.W.Frag) (C:Cfg) (r2:R2) (g:D -> D -> R D) (κ:Kd):Prop:=∀ (G0:Hp) (Γ:List SK) (E:XK) (σ:L2.St) (A:List Addr) (st:DSt) (H:Hp) (a b:D) (x y:V) (Q:VK),RS K C G0 Γ σ H A st -> Rep K C H a x -> Rep K C H b y ->
 (match g a b with | .ok d=>∀ v H',Same H H' -> Val K C κ G0 A H H' d v -> Q v H' | .ex c p=>∀ H',Same H H' -> exP E c p H' | .bad=>False) -> r2 x y H Q
theorem two {r2:R2} {g:D -> D -> R D} (ho:OpD X.K C r2 g κ):∀ σ H Q,tD X.K C G0 Γ E (dOp g fa fb) κ σ H Q -> tOp r2 (tD X.K C G0 Γ E fa κa) (tD X.K C G0 Γ E fb κb) σ H Q:=fun σ H Q zz=>by
 refine x2_2 zz fun A st r q=>?_
 clear zz
 refine ⟨A,st,r,?_⟩
 unfold dOp R.bind at q
 cases ha:fa st with
 | bad=>rw [ha] at q; exact q
 | ex c p=>rw [ha] at q; exact q
 | ok a =>
  rw [ha] at q
  intro x H1 e1 w1
  refine ⟨A,st,r.mono e1,?_⟩
  dsimp only at q
  cases hb:fb st with
  | bad=>rw [hb] at q; exact q
  | ex c p=>rw [hb] at q; exact fun H' e'=>q H' (e1.trans e')
  | ok b =>
   rw [hb] at q
   intro y H2 e2 w2
   refine ho G0 Γ (E σ) σ A st H2 a b x y Q ((r.mono e1).mono e2) (w1.rep.same e2 _) w2.rep ?_
   dsimp only at q
   cases hg:g a b with
   | bad=>rw [hg] at q; exact q
   | ex c p=>rw [hg] at q; exact fun H' e'=>q H' ((e1.trans e2).trans e')
   | ok d=>rw [hg] at q; exact fun v H' e' w=>q v H' ((e1.trans e2).trans e') (w.early (e1.trans e2))
theorem J4 {op:Operator} {r2:R2} {g:D -> D -> R D} (hr:OpR X (binaryOp op) r2) (ho:OpD X.K C r2 g κ) (ha:PE X a (tD X.K C G0 Γ E fa κa)) (hb:PE X b (tD X.K C G0 Γ E fb κb)):PE X (.BinOp a op b pos) (tD X.K C G0 Γ E (dOp g fa fb) κ):=(vh2 hr ha hb).imp (two ho)
theorem jw4 {op:CmpOp} {r2:R2} {g:D -> D -> R D} (hr:OpR X (compareOp op) r2) (ho:OpD X.K C r2 g κ) (ha:PE X a (tD X.K C G0 Γ E fa κa)) (hb:PE X b (tD X.K C G0 Γ E fb κb)) (hm:behindInMarks op b = false):PE X (.Compare a [op] [b] pos) (tD X.K C G0 Γ E (dOp g fa fb) κ):=(qs0 hr ha hb hm).imp (two ho)
theorem OpD.flat {K:PySem.W.Frag} {r2:R2} {g:D -> D -> R D} (h:∀ (H:Hp) (a b:D) (x y:V) (Q:VK),Rep K C H a x -> Rep K C H b y -> (match g a b with | .ok d=>noL d = true /\ ∀ v,Rep K C H d v -> Q v H | _=>False) -> r2 x y H Q) (hg:∀ a b,(∀ c p,g a b ≠ .ex c p) /\ ∀ d,g a b = .ok d -> noL d = true):OpD K C r2 g κ:=fun G0 Γ E σ A st H a b x y Q r qa qb q=>h H a b x y Q qa qb (by
 cases hz:g a b with
 | bad=>rw [hz] at q; exact q
 | ex c p=>exact absurd hz ((hg a b).1 c p)
 | ok d=>rw [hz] at q; exact ⟨(hg a b).2 d hz,fun v w=>q v H (.refl _) (.flat r (.refl _) ((hg a b).2 d hz) w _)⟩)
noncomputable def iOp (Cd:Int -> Int -> Bool) (g:Int -> Int -> D):D -> D -> R D:=fun a b=>match a,b with | .int i,.int j=>if Cd i j = true then .ok (g i j) else .bad | _,_=>.bad
theorem qk1 {Cd:Int -> Int -> Bool} {g:Int -> Int -> D} {a b d:D} (h:iOp Cd g a b = .ok d):∃ i j,a = .int i /\ b = .int j /\ Cd i j = true /\ d = g i j:=by
 unfold iOp at h
 split at h
 ·split at h
  ·rename_i q; cases h; exact ⟨_,_,rfl,rfl,q,rfl⟩
  ·cases h
 ·cases h
theorem qk8 {Cd:Int -> Int -> Bool} {g:Int -> Int -> D} {a b:D} {c:Addr} {p:Option Int}:iOp Cd g a b ≠ .ex c p:=by
 unfold iOp
 split
 ·split <;> exact fun h=>by cases h
 ·exact fun h=>by cases h
theorem ji0 {K:PySem.W.Frag} {r2:R2} {Cd:Int -> Int -> Bool} {g:Int -> Int -> D} (h:∀ (H:Hp) (i j:Int) (Q:VK),Cd i j = true -> (∀ v,Rep K C H (g i j) v -> Q v H) -> r2 (.int i) (.int j) H Q) (n:∀ i j,noL (g i j) = true):OpD K C r2 (iOp Cd g) κ:=.flat (fun H a b x y Q qa qb q=>by
  cases hz:iOp Cd g a b with
  | bad=>rw [hz] at q; exact q.elim
  | ex c p=>exact absurd hz qk8
  | ok d =>
   rw [hz] at q
   refine x2_4 (qk1 hz) fun i j zo2 zo3 hc zo5=>?_
   obtain rfl:=zo2
   obtain rfl:=zo3
   obtain rfl:=zo5
   rw [Rep] at qa qb; subst qa; subst qb
   exact h H i j Q hc q.2) fun a b=>⟨fun c p=>qk8,fun d hd=>by obtain ⟨i,j,_,_,_,rfl⟩:=qk1 hd; exact n i j⟩
noncomputable def gAdd:=iOp (fun _ _=>true) fun i j=>.int (i + j)
noncomputable def gSub:=iOp (fun _ _=>true) fun i j=>.int (i - j)
noncomputable def sm (i:Int):Bool:=decide (-(2 ^ 64) < i) && decide (i < 2 ^ 64)
noncomputable def gMul:=iOp (fun i j=>sm i || sm j) fun i j=>.int (i * j)
noncomputable def gDiv:=iOp (fun _ j=>decide (0 < j) && decide (j < 1073741824)) fun i j=>.int (i / j)
noncomputable def gMod:=iOp (fun _ j=>decide (0 < j)) fun i j=>.int (i % j)
noncomputable def gLt:=iOp (fun _ _=>true) fun i j=>.bl (decide (i < j))
noncomputable def gLe:=iOp (fun _ _=>true) fun i j=>.bl (decide (i <= j))
noncomputable def gGt:=iOp (fun _ _=>true) fun i j=>.bl (decide (j < i))
theorem repI {K:PySem.W.Frag} {H:Hp} {i:Int}:Rep K C H (.int i) (.int i):=by rw [Rep]
theorem repB {K:PySem.W.Frag} {H:Hp} {i:Bool}:Rep K C H (.bl i) (.bl i):=by rw [Rep]
theorem Q7 {K:PySem.W.Frag}:OpD K C (rI0 fun i j=>.int (i + j)) gAdd .new:=ji0 (fun H i j Q _ q=>⟨i,j,rfl,rfl,q _ repI⟩) fun i j=>by rw [noL] <;> simp
theorem jn8 {K:PySem.W.Frag}:OpD K C (rI0 fun i j=>.int (i - j)) gSub .new:=ji0 (fun H i j Q _ q=>⟨i,j,rfl,rfl,q _ repI⟩) fun i j=>by rw [noL] <;> simp
theorem jt9 {K:PySem.W.Frag}:OpD K C (rI CMul fun i j=>.int (i * j)) gMul .new:=ji0 (fun H i j Q c q=>⟨i,j,rfl,rfl,by
 rcases Bool.or_eq_true _ _ |>.mp c with c | c
 ·simp [sm] at c; exact .inl ⟨by lia,by lia⟩
 ·simp [sm] at c; exact .inr ⟨by lia,by lia⟩,q _ repI⟩) fun i j=>by rw [noL] <;> simp
theorem ji2 {K:PySem.W.Frag}:OpD K C (rI CDiv fun i j=>.int (i / j)) gDiv .new:=ji0 (fun H i j Q c q=>⟨i,j,rfl,rfl,by simp at c; exact ⟨c.1,c.2⟩,q _ repI⟩) fun i j=>by rw [noL] <;> simp
theorem jf3 {K:PySem.W.Frag}:OpD K C (rI (fun _ j=>0 < j) fun i j=>.int (i % j)) gMod .new:=ji0 (fun H i j Q c q=>⟨i,j,rfl,rfl,by simpa using c,q _ repI⟩) fun i j=>by rw [noL] <;> simp
theorem va6 {K:PySem.W.Frag}:OpD K C (rI0 fun i j=>.bl (decide (i < j))) gLt .new:=ji0 (fun H i j Q _ q=>⟨i,j,rfl,rfl,q _ repB⟩) fun i j=>by rw [noL] <;> simp
theorem jw8 {K:PySem.W.Frag}:OpD K C (rI0 fun i j=>.bl (decide (i <= j))) gLe .new:=ji0 (fun H i j Q _ q=>⟨i,j,rfl,rfl,q _ repB⟩) fun i j=>by rw [noL] <;> simp
theorem kf2 {K:PySem.W.Frag}:OpD K C (rI0 fun i j=>.bl (decide (j < i))) gGt .new:=ji0 (fun H i j Q _ q=>⟨i,j,rfl,rfl,q _ repB⟩) fun i j=>by rw [noL] <;> simp
noncomputable def gEq (neg:Bool):D -> D -> R D:=fun a b=>if (Dm.flat a && Dm.flat b && decide (dep a <= 60)) = true then .ok (.bl (if neg then !eqD a b else eqD a b)) else .bad
theorem je3 {K:PySem.W.Frag} {neg:Bool}:OpD K C (rEqD K C neg) (gEq neg) .new:=.flat (fun H a b x y Q qa qb q=>by
  unfold gEq at q
  split at q
  ·rename_i c
   split at c
   ·rename_i c'
    cases c
    simp only [Bool.and_eq_true,decide_eq_true_eq] at c'
    exact ⟨a,b,qa,qb,c'.1.1,c'.1.2,c'.2,q.2 _ repB⟩
   ·cases c
  ·exact q.elim) fun a b=>⟨fun c p=>(by unfold gEq; split <;> exact fun h=>(by cases h)),fun d h=>by unfold gEq at h; split at h <;> cases h; rw [noL] <;> simp⟩
noncomputable def gIn (neg:Bool):D -> D -> R D:=fun a b=>match b with
 | .lst es=>if (Dm.flat a && U5 es && decide (deps es <= 60)) = true then .ok (.bl (if neg then !(es.any fun e=>eqD e a) else es.any fun e=>eqD e a)) else .bad
 | .tup es=>if (Dm.flat a && U5 es && decide (deps es <= 60)) = true then .ok (.bl (if neg then !(es.any fun e=>eqD e a) else es.any fun e=>eqD e a)) else .bad
 | _=>.bad
theorem jf9 {K:PySem.W.Frag} {neg:Bool}:OpD K C (rInD K C neg) (gIn neg) .new:=.flat (fun H a b x y Q qa qb q=>by
  cases b with
  | lst es =>
   unfold gIn at q
   dsimp only at q
   split at q
   ·rename_i c
    split at c
    ·rename_i c'
     cases c
     simp only [Bool.and_eq_true,decide_eq_true_eq] at c'
     exact ⟨a,es,qa,.inl qb,c'.1.1,c'.1.2,c'.2,q.2 _ repB⟩
    ·cases c
   ·exact q.elim
  | tup es =>
   unfold gIn at q
   dsimp only at q
   split at q
   ·rename_i c
    split at c
    ·rename_i c'
     cases c
     simp only [Bool.and_eq_true,decide_eq_true_eq] at c'
     exact ⟨a,es,qa,.inr qb,c'.1.1,c'.1.2,c'.2,q.2 _ repB⟩
    ·cases c
   ·exact q.elim
  | _=>exact q.elim) fun a b=>⟨fun c p=>(by unfold gIn; split <;> (try split) <;> exact fun h=>(by cases h)),fun d h=>by unfold gIn at h; split at h <;> (try split at h) <;> cases h <;> (rw [noL] <;> simp)⟩
noncomputable def gIx:D -> D -> R D:=fun a b=>match a,b with
 | .lst ds,.int i=>match atI ds i with | some d=>.ok d | none=>.bad
 | .tup ds,.int i=>match atI ds i with | some d=>.ok d | none=>.bad
 | _,_=>.bad
theorem km2 {K:PySem.W.Frag} {H:Hp} {ds:List D} {xs:List V} {i:Int} {d:D} (q:Reps K C H ds xs) (h:atI ds i = some d):∃ v,atI xs i = some v /\ Rep K C H d v:=by
 unfold atI at h ⊢
 rw [q.len]
 cases hj:ixN ds.length i with
 | none=>rw [hj] at h; cases h
 | some j =>
  rw [hj] at h
  exact q.get' h
end
end Dm
end T_De3
section T_De4
namespace Dm
open PySem PySem.Spec PyProof.Rows L2
section
variable {X:Cx} {C:Cfg} {G0:Hp} {Γ:List SK} {E:L2.St -> XK} {e a b c:Expr} {f fa fb fc:DF} {κ κ' κa κb:Kd} {es rest:List Expr} {fs:DA} {pos:Pos}
theorem qw4 {K:PySem.W.Frag} {H:Hp} {a d:D} {x:V} {i:Int} (qa:Rep K C H a x) (h:gIx a (.int i) = .ok d):(∃ p xs v,x = .ref p /\ (SqL K H p xs \/ SqT K H p xs) /\ atI xs i = some v /\ Rep K C H d v):=by
 cases a with
 | lst ds =>
  unfold gIx at h
  dsimp only at h
  cases hz:atI ds i with
  | none=>rw [hz] at h; cases h
  | some d' =>
   rw [hz] at h; cases h
   refine x2_3 qa.items fun p xs zo2 h2 h3=>?_
   obtain rfl:=zo2
   refine x1_2 (km2 h3 hz) fun v h4 h5=>?_
   exact ⟨p,xs,v,rfl,.inl h2,h4,h5⟩
 | tup ds =>
  unfold gIx at h
  dsimp only at h
  cases hz:atI ds i with
  | none=>rw [hz] at h; cases h
  | some d' =>
   rw [hz] at h; cases h
   rw [Rep] at qa
   refine x2_3 qa fun p xs zo2 h2 h3=>?_
   clear qa
   obtain rfl:=zo2
   refine x1_2 (km2 h3 hz) fun v h4 h5=>?_
   exact ⟨p,xs,v,rfl,.inr h2,h4,h5⟩
 | _=>cases h
noncomputable def rIxD (K:PySem.W.Frag):R2:=fun x y H Q=>rIxL K x y H Q \/ rIxT K x y H Q
theorem ix_D:IxR X (rIxD X.K):=qs7.or qy3
theorem SqL.part {K:PySem.W.Frag} {G H:Hp} (e:Same G H) {p:Addr} {xs:List V} (h:SqL K G p xs \/ SqT K G p xs):SqL K H p xs \/ SqT K H p xs:=h.imp (fun h=>e.seq h) fun h=>Same.tup e h
noncomputable def Kd.item:Kd -> Kd
 | .nwo=>.old
 | .new=>.old
 | .loc=>.old
 | .old=>.old
 | _=>.tmp
theorem qu0 {a b d:D} (h:gIx a b = .ok d):∃ i,b = .int i:=by
 cases b with
 | int i=>exact ⟨i,rfl⟩
 | _=>cases a <;> cases h
theorem vc5 {a b:D} {c:Addr} {p:Option Int}:gIx a b ≠ .ex c p:=by
 unfold gIx
 split
 ·split <;> exact fun h=>(by cases h)
 ·split <;> exact fun h=>(by cases h)
 ·exact fun h=>(by cases h)
theorem va9 (ha:PE X a (tD X.K C G0 Γ E fa κa)) (hb:PE X b (tD X.K C G0 Γ E fb κb)) (hs:kh6 b):PE X (.Subscript a b pos) (tD X.K C G0 Γ E (dOp gIx fa fb) κa.item):=(vh4 ix_D ha hb hs).imp fun σ H Q zz=>by
 refine x2_2 zz fun A st r q=>?_
 clear zz
 refine ⟨A,st,r,?_⟩
 unfold dOp R.bind at q
 cases ha:fa st with
 | bad=>rw [ha] at q; exact q
 | ex c p=>rw [ha] at q; exact q
 | ok a =>
  rw [ha] at q
  intro x H1 e1 w1
  refine ⟨A,st,r.mono e1,?_⟩
  dsimp only at q
  cases hb:fb st with
  | bad=>rw [hb] at q; exact q
  | ex c p=>rw [hb] at q; exact fun H' e'=>q H' (e1.trans e')
  | ok b =>
   rw [hb] at q
   intro y H2 e2 w2
   dsimp only at q
   cases hg:gIx a b with
   | bad=>rw [hg] at q; exact q.elim
   | ex c p=>exact absurd hg vc5
   | ok d =>
    rw [hg] at q
    obtain ⟨i,rfl⟩:=qu0 hg
    have e12:=e1.trans e2
    have w:=w1.later e2
    obtain rfl:y = .int i:=by have:=w2.rep; rw [Rep] at this; exact this
    have fin:∀ G:Hp,Same G H2 -> Rep X.K C G a x -> (∀ v,Rep X.K C G d v -> Val X.K C κa.item G0 A H H2 d v) -> rIxD X.K x (.int i) H2 Q:=fun G e qa k=>by
     refine x3_4 (qw4 qa hg) fun p xs v zo3 s at' rv=>?_
     obtain rfl:=zo3
     rcases SqL.part e s with s | s
     ·exact .inl ⟨p,xs,i,v,rfl,rfl,s,at',q v H2 e12 (k v rv)⟩
     ·exact .inr ⟨p,xs,i,v,rfl,rfl,s,at',q v H2 e12 (k v rv)⟩
    cases κa with
    | new=>exact fin _ (v4 _ _) (w.le r e12 (κ':=.old) rfl) fun v z=>z
    | nwo=>exact fin _ (v4 _ _) (w.le r e12 (κ':=.old) rfl) fun v z=>z
    | loc=>exact fin _ (v4 _ _) (w.le r e12 (κ':=.old) rfl) fun v z=>z
    | old=>exact fin _ (v4 _ _) w fun v z=>z
    | tmn=>exact fin _ (.refl _) w.rep fun v z=>z
    | tmp=>exact fin _ (.refl _) w fun v z=>z
theorem j6:PA X [] (tDA X.K C G0 Γ E aNil κ):=jd5.imp fun σ H Q zz1=>zz1.elim fun A zz2=>zz2.elim fun st zz3=>zz3.elim fun r q=>q [] H (.refl _) .nil
theorem j1 (ha:PE X e (tD X.K C G0 Γ E f κa)) (hr:PA X es (tDA X.K C G0 Γ E fs κ)) (l:κa.le κ = true:=by rfl) (hs:starEach (e :: es) X.env = (false,eval e X.env) :: starEach es X.env:=by rfl):PA X (e :: es) (tDA X.K C G0 Γ E (j0 f fs) κ):=(W7 ha hr hs).imp fun σ H Q zz=>by
 refine x2_2 zz fun A st r q=>?_
 clear zz
 refine ⟨A,st,r,?_⟩
 unfold j0 R.bind at q
 cases hf:f st with
 | bad=>rw [hf] at q; exact q
 | ex c p=>rw [hf] at q; exact q
 | ok a =>
  rw [hf] at q
  intro x H1 e1 w1
  refine ⟨A,st,r.mono e1,?_⟩
  dsimp only at q
  cases hb:fs st with
  | bad=>rw [hb] at q; exact q
  | ex c p=>rw [hb] at q; exact fun H' e'=>q H' (e1.trans e')
  | ok b =>
   rw [hb] at q
   intro y H2 e2 w2
   exact q (x :: y) H2 (e1.trans e2) (.cons ((w1.le r e1 l).hp.same (Kd.hp_later e2) _) (w2.same (Kd.hp_early e1) _))
theorem jy2 {α:Type} {l:List α} (h:l.length <= 100):l.length <= sizeLine:=Nat.le_trans h (by rw [sizeLine_eq]; decide)
noncomputable def Q0 (n:Nat) (f:DA):DF:=fun st=>(f st).bind fun ds=>if ds.length <= n then .ok (.tup ds) else .bad
theorem U4 {x1} (h:PA X es (tDA X.K C G0 Γ E fs κ)):PE X (.Tuple es x1 pos) (tD X.K C G0 Γ E (Q0 100 fs) κ):=(vd1 h).imp fun σ H Q zz=>by
 refine x2_2 zz fun A st r q=>?_
 clear zz
 refine ⟨A,st,r,?_⟩
 unfold Q0 R.bind at q
 cases hf:fs st with
 | bad=>rw [hf] at q; exact q
 | ex c p=>rw [hf] at q; exact q
 | ok ds =>
  rw [hf] at q
  dsimp only at q
  split at q
  ·rename_i d hz
   split at hz
   ·rename_i hl
    cases hz
    exact fun vs H1 e1 w1=>⟨jy2 (by rw [w1.len]; exact hl),fun p hp=>q _ _ (e1.trans (Z7 hp)) (.tup r e1 hp w1)⟩
   ·cases hz
  ·rename_i hz; split at hz <;> cases hz
  ·exact q.elim
noncomputable def Q5 (n:Nat) (f:DA):DF:=fun st=>(f st).bind fun ds=>if ds.length <= n then .ok (.lst ds) else .bad
theorem Z5 (h:PA X es (tDA X.K C G0 Γ E fs κ)):PE X (.List es pos) (tD X.K C G0 Γ E (Q5 100 fs) κ):=(vc7 h).imp fun σ H Q zz=>by
 refine x2_2 zz fun A st r q=>?_
 clear zz
 refine ⟨A,st,r,?_⟩
 unfold Q5 R.bind at q
 cases hf:fs st with
 | bad=>rw [hf] at q; exact q
 | ex c p=>rw [hf] at q; exact q
 | ok ds =>
  rw [hf] at q
  dsimp only at q
  split at q
  ·rename_i d hz
   split at hz
   ·rename_i hl
    cases hz
    exact fun vs H1 e1 w1=>⟨jy2 (by rw [w1.len]; exact hl),fun p hp=>q _ _ (e1.trans (Z7 hp)) (.lst r e1 hp w1)⟩
   ·cases hz
  ·rename_i hz; split at hz <;> cases hz
  ·exact q.elim
noncomputable def FnD (K:PySem.W.Frag) (C:Cfg) (r1:List V -> Hp -> VK -> Prop) (g:List D -> R D) (κ:Kd):Prop:=∀ (G0:Hp) (Γ:List SK) (E:XK) (σ:L2.St) (A:List Addr) (st:DSt) (H:Hp) (ds:List D) (xs:List V) (Q:VK),RS K C G0 Γ σ H A st -> Reps K C H ds xs ->
 (match g ds with | .ok d=>∀ v H',Same H H' -> Val K C κ G0 A H H' d v -> Q v H' | .ex c p=>∀ H',Same H H' -> exP E c p H' | .bad=>False) -> r1 xs H Q
theorem jb6 {r1:List V -> Hp -> VK -> Prop} {g:List D -> R D} (ho:FnD X.K C r1 g κ) (h:PE X e (tCB r1 (tDA X.K C G0 Γ E fs κa))):PE X e (tD X.K C G0 Γ E (dFn g fs) κ):=h.imp fun σ H Q zz=>by
 refine x2_2 zz fun A st r q=>?_
 clear zz
 refine ⟨A,st,r,?_⟩
 unfold dFn R.bind at q
 cases hf:fs st with
 | bad=>rw [hf] at q; exact q
 | ex c p=>rw [hf] at q; exact q
 | ok ds =>
  rw [hf] at q
  dsimp only at q
  intro vs H1 e1 w1
  refine ho G0 Γ (E σ) σ A st H1 ds vs Q (r.mono e1) (w1.same Kd.hp_all _) ?_
  cases hg:g ds with
  | bad=>rw [hg] at q; exact q
  | ex c p=>rw [hg] at q; exact fun H' e'=>q H' (e1.trans e')
  | ok d=>rw [hg] at q; exact fun v H' e' w=>q v H' (e1.trans e') (w.early e1)
theorem js4 {K:PySem.W.Frag} {H:Hp} {d:D} {xs:List V} (h:Reps K C H [d] xs):∃ v,xs = [v] /\ Rep K C H d v:=by
 rw [Reps] at h
 refine x2_3 h fun v r zo2 q z=>?_
 clear h
 obtain rfl:=zo2
 rw [Reps] at z; subst z
 exact ⟨v,rfl,q⟩
noncomputable def gLen:List D -> R D:=fun ds=>match ds with | [.lst xs]=>.ok (.int xs.length) | [.tup xs]=>.ok (.int xs.length) | _=>.bad
theorem je4 {K:PySem.W.Frag}:FnD K C (fun xs H Q=>∃ p ys,xs = [.ref p] /\ (SqL K H p ys \/ SqT K H p ys) /\ Q (.int ys.length) H) gLen .new:=fun G0 Γ E σ A st H ds xs Q r w q=>by
 unfold gLen at q
 split at q
 ·rename_i z
  split at z
  ·cases z
   refine x1_2 (js4 w) fun v zo1 w1=>?_
   obtain rfl:=zo1
   refine x2_3 w1.items fun p ys zo2 s t=>?_
   obtain rfl:=zo2
   exact ⟨p,ys,rfl,.inl s,q _ H (.refl _) (.flat r (.refl _) (by rw [noL] <;> simp) (by rw [t.len]; exact repI) _)⟩
  ·cases z
   refine x1_2 (js4 w) fun v zo1 w1=>?_
   obtain rfl:=zo1
   rw [Rep] at w1
   refine x2_3 w1 fun p ys zo2 s t=>?_
   clear w1
   obtain rfl:=zo2
   exact ⟨p,ys,rfl,.inr s,q _ H (.refl _) (.flat r (.refl _) (by rw [noL] <;> simp) (by rw [t.len]; exact repI) _)⟩
  ·cases z
 ·rename_i z; split at z <;> cases z
 ·exact q.elim
noncomputable def je5:List D -> R D:=fun ds=>match ds with | [.lst xs]=>if noLs xs = true then .ok (.lst xs) else .bad | [.tup xs]=>if noLs xs = true then .ok (.lst xs) else .bad | _=>.bad
theorem jg5 {K:PySem.W.Frag}:FnD K C (fun xs H Q=>∃ p ys,xs = [.ref p] /\ (SqL K H p ys \/ SqT K H p ys) /\ ∀ l,H l = none -> Q (.ref l) (upd H l (.lst ys))) je5 .new:=fun G0 Γ E σ A st H ds xs Q r w q=>by
 have fin:∀ (es:List D) (p:Addr) (ys:List V),(SqL K H p ys \/ SqT K H p ys) -> Reps K C H es ys -> noLs es = true -> (∀ v H',Same H H' -> Val K C .new G0 A H H' (.lst es) v -> Q v H') -> ∃ p' ys',[V.ref p] = [.ref p'] /\ (SqL K H p' ys' \/ SqT K H p' ys') /\ ∀ l,H l = none -> Q (.ref l) (upd H l (.lst ys')):=fun es p ys s t n q =>
  ⟨p,ys,rfl,s,fun l hl=>q _ _ (Z7 hl) (.lst r (.refl _) hl (t.part (.nw (.refl _)) _ n))⟩
 unfold je5 at q
 split at q
 ·rename_i z
  split at z
  ·split at z
   ·rename_i n
    cases z
    refine x1_2 (js4 w) fun v zo1 w1=>?_
    obtain rfl:=zo1
    refine x2_3 w1.items fun p ys zo2 s t=>?_
    obtain rfl:=zo2
    exact fin _ _ _ (.inl s) t n q
   ·cases z
  ·split at z
   ·rename_i n
    cases z
    refine x1_2 (js4 w) fun v zo1 w1=>?_
    obtain rfl:=zo1
    rw [Rep] at w1
    refine x2_3 w1 fun p ys zo2 s t=>?_
    clear w1
    obtain rfl:=zo2
    exact fin _ _ _ (.inr s) t n q
   ·cases z
  ·cases z
 ·rename_i z; split at z <;> (try split at z) <;> cases z
 ·exact q.elim
theorem jr5 (h:PE X e (tD X.K C G0 Γ E f κ)) (he:∀ whole,isTrue e X.env whole = (do let v <- whole; standAt e.pos; holding [v] (truthy v)):=by intro _; rfl):PT X e (tDT X.K C G0 Γ E f):=(ve0 h he).imp fun σ H Q zz=>by
 refine x2_2 zz fun A st r q=>?_
 clear zz
 refine ⟨A,st,r,?_⟩
 cases hf:f st with
 | bad=>rw [hf] at q; exact q
 | ex c p=>rw [hf] at q; exact q
 | ok d =>
  rw [hf] at q
  cases d with
  | bl b=>exact fun v H' e' w=>⟨b,by have:=w.rep; rw [Rep] at this; exact this,q H' e'⟩
  | _=>exact q.elim
theorem U3 {op:CmpOp} {r2:R2} {g:D -> D -> R D} (hr:OpR X (compareOp op) r2) (ho:OpD X.K C r2 g .new) (ha:PE X a (tD X.K C G0 Γ E fa κa)) (hb:PE X b (tD X.K C G0 Γ E fb κb)) (hm:behindInMarks op b = false):PT X (.Compare a [op] [b] pos) (tDT X.K C G0 Γ E (dOp g fa fb)):=(qo5 hr ha hb hm).imp fun σ H Q zz=>by
 refine x2_2 zz fun A st r q=>?_
 clear zz
 refine two (κ:=.new) ho σ H _ ⟨A,st,r,?_⟩
 cases hf:dOp g fa fb st with
 | bad=>rw [hf] at q; exact q
 | ex c p=>rw [hf] at q; exact q
 | ok d =>
  rw [hf] at q
  cases d with
  | bl b=>exact fun v H' e' w=>⟨b,by have:=w.rep; rw [Rep] at this; exact this,q H' e'⟩
  | _=>exact q.elim
theorem jm8 (h:PT X a (tDT X.K C G0 Γ E fa)):PT X (.UnaryOp .Not a pos) (tDT X.K C G0 Γ E (dNot fa)):=(qx2 h).imp fun σ H Q zz=>by
 refine x2_2 zz fun A st r q=>?_
 clear zz
 refine ⟨A,st,r,?_⟩
 unfold dNot R.bind at q
 cases hf:fa st with
 | bad=>rw [hf] at q; exact q
 | ex c p=>rw [hf] at q; exact q
 | ok d =>
  rw [hf] at q
  cases d with
  | bl b=>exact q
  | _=>exact q.elim
theorem jl5 (ha:PT X a (tDT X.K C G0 Γ E fa)):PW X (.BoolOp .And [a] pos) (tDT X.K C G0 Γ E fa):=qm6 ha
theorem qa5 (ha:PT X a (tDT X.K C G0 Γ E fa)):PW X (.BoolOp .Or [a] pos) (tDT X.K C G0 Γ E fa):=qw1 ha
theorem jo9 (ha:PT X a (tDT X.K C G0 Γ E fa)) (hb:PW X (.BoolOp .And (b :: rest) pos) (tDT X.K C G0 Γ E fb)):PW X (.BoolOp .And (a :: b :: rest) pos) (tDT X.K C G0 Γ E (dAnd fa fb)):=(qw7 ha hb).imp fun σ H Q zz=>by
 refine x2_2 zz fun A st r q=>?_
 clear zz
 refine ⟨A,st,r,?_⟩
 unfold dAnd R.bind at q
 cases hf:fa st with
 | bad=>rw [hf] at q; exact q
 | ex c p=>rw [hf] at q; exact q
 | ok d =>
  rw [hf] at q
  cases d with
  | bl b =>
   intro H1 e1
   cases b with
   | false=>rw [if_neg Bool.false_ne_true]; exact q H1 e1
   | true =>
    rw [if_pos rfl]
    refine ⟨A,st,r.mono e1,?_⟩
    dsimp only at q
    cases hb:fb st with
    | bad=>rw [hb] at q; exact q
    | ex c p=>rw [hb] at q; exact fun H' e'=>q H' (e1.trans e')
    | ok d =>
     rw [hb] at q
     cases d with
     | bl b=>exact fun H' e'=>q H' (e1.trans e')
     | _=>exact q.elim
  | _=>exact q.elim
theorem qu3 (ha:PT X a (tDT X.K C G0 Γ E fa)) (hb:PW X (.BoolOp .Or (b :: rest) pos) (tDT X.K C G0 Γ E fb)):PW X (.BoolOp .Or (a :: b :: rest) pos) (tDT X.K C G0 Γ E (dOr fa fb)):=(ve4 ha hb).imp fun σ H Q zz=>by
 refine x2_2 zz fun A st r q=>?_
 clear zz
 refine ⟨A,st,r,?_⟩
 unfold dOr R.bind at q
 cases hf:fa st with
 | bad=>rw [hf] at q; exact q
 | ex c p=>rw [hf] at q; exact q
 | ok d =>
  rw [hf] at q
  cases d with
  | bl b =>
   intro H1 e1
   cases b with
   | true=>rw [if_pos rfl]; exact q H1 e1
   | false =>
    rw [if_neg Bool.false_ne_true]
    refine ⟨A,st,r.mono e1,?_⟩
    dsimp only at q
    cases hb:fb st with
    | bad=>rw [hb] at q; exact q
    | ex c p=>rw [hb] at q; exact fun H' e'=>q H' (e1.trans e')
    | ok d =>
     rw [hb] at q
     cases d with
     | bl b=>exact fun H' e'=>q H' (e1.trans e')
     | _=>exact q.elim
  | _=>exact q.elim
theorem kj9 {op} (ha:PE X a (tD X.K C G0 Γ E fa κ)):PE X (.BoolOp op [a] pos) (tD X.K C G0 Γ E fa κ):=vc3 ha
theorem vbl {K:PySem.W.Frag} {A:List Addr} {H H':Hp} {b:Bool} {v:V} (w:Val K C κ G0 A H H' (.bl b) v):v = .bl b:=by have:=w.rep; rw [Rep] at this; exact this
theorem jw0 (ha:PE X a (tD X.K C G0 Γ E fa κa)) (hb:PE X (.BoolOp .And (b :: rest) pos) (tD X.K C G0 Γ E fb κ)):PE X (.BoolOp .And (a :: b :: rest) pos) (tD X.K C G0 Γ E (dAnd fa fb) κ):=(vd0 ha hb).imp fun σ H Q zz=>by
 refine x2_2 zz fun A st r q=>?_
 clear zz
 refine ⟨A,st,r,?_⟩
 unfold dAnd R.bind at q
 cases hf:fa st with
 | bad=>rw [hf] at q; exact q
 | ex c p=>rw [hf] at q; exact q
 | ok d =>
  rw [hf] at q
  cases d with
  | bl b =>
   intro v H1 e1 w1
   refine ⟨b,vbl w1,?_⟩
   cases b with
   | false=>rw [if_neg Bool.false_ne_true]; exact q _ H1 e1 (.flat r e1 (by rw [noL] <;> simp) repB _)
   | true =>
    rw [if_pos rfl]
    refine ⟨A,st,r.mono e1,?_⟩
    dsimp only at q
    cases hb:fb st with
    | bad=>rw [hb] at q; exact q
    | ex c p=>rw [hb] at q; exact fun H' e'=>q H' (e1.trans e')
    | ok d=>rw [hb] at q; exact fun v H' e' w=>q v H' (e1.trans e') (w.early e1)
  | _=>exact q.elim
theorem qy4 (ha:PE X a (tD X.K C G0 Γ E fa κa)):PE X (.UnaryOp .Not a pos) (tD X.K C G0 Γ E (dNot fa) .new):=(qz1 ha).imp fun σ H Q zz=>by
 refine x2_2 zz fun A st r q=>?_
 clear zz
 refine ⟨A,st,r,?_⟩
 unfold dNot R.bind at q
 cases hf:fa st with
 | bad=>rw [hf] at q; exact q
 | ex c p=>rw [hf] at q; exact q
 | ok d =>
  rw [hf] at q
  cases d with
  | bl b=>exact fun v H1 e1 w1=>⟨b,vbl w1,q _ H1 e1 (.flat r e1 (by rw [noL] <;> simp) repB _)⟩
  | _=>exact q.elim
theorem vg0 (hc:PT X c (tDT X.K C G0 Γ E fc)) (ha:PE X a (tD X.K C G0 Γ E fa κ)) (hb:PE X b (tD X.K C G0 Γ E fb κ)):PE X (.IfExp c a b pos) (tD X.K C G0 Γ E (dIf fc fa fb) κ):=(qf0 hc ha hb).imp fun σ H Q zz=>by
 refine x2_2 zz fun A st r q=>?_
 clear zz
 refine ⟨A,st,r,?_⟩
 unfold dIf R.bind at q
 cases hf:fc st with
 | bad=>rw [hf] at q; exact q
 | ex c p=>rw [hf] at q; exact q
 | ok d =>
  rw [hf] at q
  cases d with
  | bl b =>
   intro H1 e1
   cases b with
   | true =>
    rw [if_pos rfl]
    refine ⟨A,st,r.mono e1,?_⟩
    dsimp only at q
    cases hb:fa st with
    | bad=>rw [hb] at q; exact q
    | ex c p=>rw [hb] at q; exact fun H' e'=>q H' (e1.trans e')
    | ok d=>rw [hb] at q; exact fun v H' e' w=>q v H' (e1.trans e') (w.early e1)
   | false =>
    rw [if_neg Bool.false_ne_true]
    refine ⟨A,st,r.mono e1,?_⟩
    dsimp only at q
    cases hb:fb st with
    | bad=>rw [hb] at q; exact q
    | ex c p=>rw [hb] at q; exact fun H' e'=>q H' (e1.trans e')
    | ok d=>rw [hb] at q; exact fun v H' e' w=>q v H' (e1.trans e') (w.early e1)
  | _=>exact q.elim
end
end Dm
end T_De4
section T_De5
namespace Dm
open PySem PySem.Spec PyProof.Rows L2
noncomputable def RetV (K:PySem.W.Frag) (C:Cfg) (κr:Bool) (G0 H':Hp) (d:D) (v:V):Prop:=match κr with
 | true=>Rep K C (nw G0 H') d v /\ TopL K C G0 (nw G0 H') d v
 | false=>Rep K C H' d v
section
variable (K:PySem.W.Frag) (C:Cfg) (G0:Hp) (Γ:List SK) (E:L2.St -> XK) (κr:Bool)
noncomputable def tDS (F:DS):TS:=fun D σ H=>∃ A st,RS K C G0 Γ σ H A st /\ match F st with
 | .nx st'=>∀ σ' H' A',RS K C G0 Γ σ' H' A' st' -> Same (er H A) (er H' A') -> D.nx σ' H'
 | .bk st'=>∀ σ' H' A',RS K C G0 Γ σ' H' A' st' -> Same (er H A) (er H' A') -> D.bk σ' H'
 | .ct st'=>∀ σ' H' A',RS K C G0 Γ σ' H' A' st' -> Same (er H A) (er H' A') -> D.ct σ' H'
 | .rt d=>∀ v H',Same G0 H' -> RetV K C κr G0 H' d v -> D.rt v H'
 | .ex c p st'=>∀ σ' H' A',RS K C G0 Γ σ' H' A' st' -> Same (er H A) (er H' A') -> exP (E σ') c p H'
 | .bad=>False
end
noncomputable def dSeq (F G:DS):DS:=fun st=>match F st with | .nx st'=>G st' | o=>o
noncomputable def J3:DS:=fun st=>.nx st
noncomputable def dAsg (i:Nat) (f:DF):DS:=fun st=>match f st with | .ok d=>.nx (st.set i (some d)) | .ex c p=>.ex c p st | .bad=>.bad
noncomputable def ks0 (f:DF):DS:=fun st=>match f st with | .ok _=>.nx st | .ex c p=>.ex c p st | .bad=>.bad
noncomputable def dRet (f:DF):DS:=fun st=>match f st with | .ok d=>.rt d | .ex c p=>.ex c p st | .bad=>.bad
noncomputable def dIfS (fc:DF) (F G:DS):DS:=fun st=>match fc st with | .ok (.bl true)=>F st | .ok (.bl false)=>G st | .ok _=>.bad | .ex c p=>.ex c p st | .bad=>.bad
section
variable {X:Cx} {C:Cfg} {G0:Hp} {Γ:List SK} {E:L2.St -> XK} {κr:Bool} {e a b c:Expr} {f fa fb fc:DF} {κ κ' κa κb:Kd} {es rest:List Expr} {fs:DA} {pos:Pos} {s:Stmt} {ss:List Stmt} {F G:DS}
theorem W0:PSs X [] (tDS X.K C G0 Γ E κr J3):=qp3.imp fun D σ H zz1=>zz1.elim fun A zz2=>zz2.elim fun st zz3=>zz3.elim fun r q=>q σ H A r (.refl _)
theorem k7 (h1:PS X s (tDS X.K C G0 Γ E κr F)) (h2:PSs X ss (tDS X.K C G0 Γ E κr G)):PSs X (s :: ss) (tDS X.K C G0 Γ E κr (dSeq F G)):=(jz2 h1 h2).imp fun D σ H zz=>by
 refine x2_2 zz fun A st r q=>?_
 clear zz
 refine ⟨A,st,r,?_⟩
 unfold dSeq at q
 cases hf:F st with
 | nx st' =>
  rw [hf] at q
  intro σ' H' A' r' e'
  refine ⟨A',st',r',?_⟩
  dsimp only at q
  cases hg:G st' with
  | nx st2=>rw [hg] at q; exact fun σ2 H2 A2 r2 e2=>q σ2 H2 A2 r2 (e'.trans e2)
  | bk st2=>rw [hg] at q; exact fun σ2 H2 A2 r2 e2=>q σ2 H2 A2 r2 (e'.trans e2)
  | ct st2=>rw [hg] at q; exact fun σ2 H2 A2 r2 e2=>q σ2 H2 A2 r2 (e'.trans e2)
  | rt d=>rw [hg] at q; exact q
  | ex c p st2=>rw [hg] at q; exact fun σ2 H2 A2 r2 e2=>q σ2 H2 A2 r2 (e'.trans e2)
  | bad=>rw [hg] at q; exact q
 | bk st'=>rw [hf] at q; exact q
 | ct st'=>rw [hf] at q; exact q
 | rt d=>rw [hf] at q; exact q
 | ex c p st'=>rw [hf] at q; exact q
 | bad=>rw [hf] at q; exact q
theorem v3 (h1:PS X s (tDS X.K C G0 Γ E κr F)):PSs X [s] (tDS X.K C G0 Γ E κr F):=kh2 h1
theorem J2 {i:Nat} {k:SK} {x:Str} {pos':Pos} (hN:X.N.Nodup) (he:PE X e (tD X.K C G0 Γ E f κ)) (hk:Γ[i]? = some k:=by rfl) (hl:k.takes κ = true:=by rfl) (hi:X.N[i]? = some x:=by rfl) (hx:Loc X.env.scope x:=by first | exact Or.inl rfl | exact Or.inr rfl) (hs:swapsWith e (some (.Name x pos')) pos.line X.env = pure false:=by rfl)
  (hf:X.fn x = true \/ X.env.scope.names.lookup x = some .local:=by first | exact .inl rfl | exact .inr rfl | assumption):PS X (.Assign [.Name x pos'] e pos) (tDS X.K C G0 Γ E κr (dAsg i f)):=(vd9 hN hi hx he hs hf).imp fun D σ H zz=>by
 refine x2_2 zz fun A st r q=>?_
 clear zz
 refine ⟨A,st,r,?_⟩
 unfold dAsg at q
 cases hf:f st with
 | bad=>rw [hf] at q; exact q
 | ex c p=>rw [hf] at q; exact fun H' e'=>q σ H' A (r.mono e') (q8 e')
 | ok d =>
  rw [hf] at q
  intro v H' e' w
  refine x1_3 (r.set e' hk hl w) fun A' r' e2 _=>?_
  exact q _ _ A' r' e2
theorem qv2 (he:PE X e (tD X.K C G0 Γ E f κ)) (hs:swapsWith e none pos.line X.env = pure false:=by rfl):PS X (.Expr e pos) (tDS X.K C G0 Γ E κr (ks0 f)):=(jy3 he hs).imp fun D σ H zz=>by
 refine x2_2 zz fun A st r q=>?_
 clear zz
 refine ⟨A,st,r,?_⟩
 unfold ks0 at q
 cases hf:f st with
 | bad=>rw [hf] at q; exact q
 | ex c p=>rw [hf] at q; exact fun H' e'=>q σ H' A (r.mono e') (q8 e')
 | ok d=>rw [hf] at q; exact fun v H' e' w=>q σ H' A (r.mono e') (q8 e')
noncomputable def retK:Bool -> Kd | true=>.tmn | false=>.tmp
theorem J6 (he:PE X e (tD X.K C G0 Γ E f κ)) (l:κ.le (retK κr) = true:=by rfl):PS X (.Return (some e) pos) (tDS X.K C G0 Γ E κr (dRet f)):=(qv7 he).imp fun D σ H zz=>by
 refine x2_2 zz fun A st r q=>?_
 clear zz
 refine ⟨A,st,r,?_⟩
 unfold dRet at q
 cases hf:f st with
 | bad=>rw [hf] at q; exact q
 | ex c p=>rw [hf] at q; exact fun H' e'=>q σ H' A (r.mono e') (q8 e')
 | ok d =>
  rw [hf] at q
  intro v H' e' w
  have w':=w.le r e' l
  refine q v H' (r.g0.trans e') ?_
  cases κr with
  | true=>exact w'
  | false=>exact w'
theorem jc2 (hc:PT X c (tDT X.K C G0 Γ E fc)) (ha:PSs X ss (tDS X.K C G0 Γ E κr F)) {ss':List Stmt} (hb:PSs X ss' (tDS X.K C G0 Γ E κr G)):PS X (.If c ss ss' pos) (tDS X.K C G0 Γ E κr (Dm.dIfS fc F G)):=(vh5 hc ha hb).imp fun D σ H zz=>by
 refine x2_2 zz fun A st r q=>?_
 clear zz
 refine ⟨A,st,r,?_⟩
 unfold Dm.dIfS at q
 have sub:∀ {H1:Hp} (e1:Same H H1) {G:DS},(match G st with
   | .nx st'=>∀ σ' H' A',RS X.K C G0 Γ σ' H' A' st' -> Same (er H A) (er H' A') -> D.nx σ' H'
   | .bk st'=>∀ σ' H' A',RS X.K C G0 Γ σ' H' A' st' -> Same (er H A) (er H' A') -> D.bk σ' H'
   | .ct st'=>∀ σ' H' A',RS X.K C G0 Γ σ' H' A' st' -> Same (er H A) (er H' A') -> D.ct σ' H'
   | .rt d=>∀ v H',Same G0 H' -> RetV X.K C κr G0 H' d v -> D.rt v H'
   | .ex c p st'=>∀ σ' H' A',RS X.K C G0 Γ σ' H' A' st' -> Same (er H A) (er H' A') -> exP (E σ') c p H'
   | .bad=>False) -> tDS X.K C G0 Γ E κr G D σ H1:=fun {H1} e1 {G} q=>by
  refine ⟨A,st,r.mono e1,?_⟩
  cases hg:G st with
  | nx st2=>rw [hg] at q; exact fun σ2 H2 A2 r2 e2=>q σ2 H2 A2 r2 ((q8 e1).trans e2)
  | bk st2=>rw [hg] at q; exact fun σ2 H2 A2 r2 e2=>q σ2 H2 A2 r2 ((q8 e1).trans e2)
  | ct st2=>rw [hg] at q; exact fun σ2 H2 A2 r2 e2=>q σ2 H2 A2 r2 ((q8 e1).trans e2)
  | rt d=>rw [hg] at q; exact q
  | ex c p st2=>rw [hg] at q; exact fun σ2 H2 A2 r2 e2=>q σ2 H2 A2 r2 ((q8 e1).trans e2)
  | bad=>rw [hg] at q; exact q
 cases hf:fc st with
 | bad=>rw [hf] at q; exact q
 | ex c p=>rw [hf] at q; exact fun H' e'=>q σ H' A (r.mono e') (q8 e')
 | ok d =>
  rw [hf] at q
  cases d with
  | bl b =>
   intro H1 e1
   cases b with
   | true=>rw [if_pos rfl]; exact sub e1 q
   | false=>rw [if_neg Bool.false_ne_true]; exact sub e1 q
  | _=>exact q.elim
noncomputable def qj6:List SK -> Bool:=fun Γ=>Γ.all fun k=>match k with | .any=>false | _=>true
theorem qg8 {Γ:List SK} (h:qj6 Γ = true) {i:Nat}:Γ[i]? ≠ some .any:=fun z=>by
 unfold qj6 at h
 have:=List.all_eq_true.mp h _ (List.mem_of_getElem? z)
 cases this
theorem RS.mut {K:PySem.W.Frag} {σ:L2.St} {H:Hp} {A:List Addr} {st:DSt} (r:RS K C G0 Γ σ H A st) (na:qj6 Γ = true) {i:Nat} {n:Bool} {p:Addr} {ds':List D} {xs':List V} {d0:D} (hk:Γ[i]? = some (.own n)) (hs:st[i]? = some (some d0)) (hv:σ[i]? = some (some (.ref p))) (hp:p ∈ A) (g0:G0 p = none)
  (hd0:∃ ds,d0 = .lst ds) (q:Reps K C (eh n G0 A H) ds' xs'):RS K C G0 Γ σ (upd H p (.lst xs')) A (st.set i (some (.lst ds'))) /\ Same (er H A) (er (upd H p (.lst xs')) A):=by
 have ee:er (upd H p (.lst xs')) A = er H A:=by
  funext b
  by_cases mb:b ∈ A
  ·rw [jc4 mb,jc4 mb]
  ·rw [v8 mb,v8 mb,v7 (fun z:b = p=>mb (by rw [z]; exact hp))]
 have eeh:∀ m,eh m G0 A (upd H p (.lst xs')) = eh m G0 A H:=fun m=>by unfold eh; rw [ee]
 refine ⟨⟨by rw [ee]; exact r.base,fun a m=>?_,by simp [r.len],fun j d h=>?_,fun a b n' m' p' ds es hab g1 g2 s1 s2 w1 w2=>?_⟩,by rw [ee]; exact .refl _⟩
 ·by_cases ha:a = p
  ·subst ha; exact ⟨xs',J1⟩
  ·rw [v7 ha]; exact r.lists a m
 ·by_cases hj:i = j
  ·subst hj
   rw [List.getElem?_set_self (List.getElem?_eq_some_iff.mp hs).1] at h
   cases h
   exact ⟨_,_,hk,hv,.inl ⟨ds',p,xs',rfl,rfl,hp,g0,J1,by rw [eeh]; exact q⟩⟩
  ·rw [List.getElem?_set_ne hj] at h
   refine x2_3 (r.slot j d h) fun k v h1 h2 h3=>?_
   refine ⟨k,v,h1,h2,?_⟩
   cases k with
   | par=>show Rep K C (er _ A) d v; rw [ee]; exact h3
   | loc=>show _ /\ _; rw [ee]; exact h3
   | any=>exact absurd h1 (qg8 na)
   | own m =>
    rcases h3 with ⟨ds2,p2,xs2,a,b,c,f,g,q2⟩ | ⟨a,b⟩
    ·subst a; subst b
     have np:p2 ≠ p:=fun z=>by
      subst z
      obtain ⟨ds0,rfl⟩:=hd0
      exact r.apart i j n m p2 ds0 ds2 hj hk h1 hs h hv h2
     exact .inl ⟨ds2,p2,xs2,rfl,rfl,c,f,by rw [v7 np]; exact g,by rw [eeh]; exact q2⟩
    ·exact .inr ⟨a,by rw [eeh]; exact b⟩
 ·have back:∀ {c:Nat} {cs:List D},(st.set i (some (.lst ds')))[c]? = some (some (.lst cs)) -> ∃ es,st[c]? = some (some (.lst es)):=fun {c cs} h=>by
   by_cases hc:i = c
   ·subst hc
    obtain ⟨ds0,rfl⟩:=hd0
    exact ⟨ds0,hs⟩
   ·rw [List.getElem?_set_ne hc] at h; exact ⟨_,h⟩
  obtain ⟨ds1,s1⟩:=back s1
  obtain ⟨es1,s2⟩:=back s2
  exact r.apart a b n' m' p' ds1 es1 hab g1 g2 s1 s2 w1 w2
theorem RS.owned {K:PySem.W.Frag} {σ:L2.St} {H:Hp} {A:List Addr} {st:DSt} (r:RS K C G0 Γ σ H A st) {i:Nat} {n:Bool} {ds:List D} (hk:Γ[i]? = some (.own n)) (hs:st[i]? = some (some (.lst ds))) :
  ∃ p xs,σ[i]? = some (some (.ref p)) /\ p ∈ A /\ G0 p = none /\ H p = some (.lst xs) /\ Reps K C (eh n G0 A H) ds xs:=by
 refine x2_3 (r.slot i _ hs) fun k v h1 h2 h3=>?_
 rw [hk] at h1; cases h1
 rcases h3 with ⟨ds2,p2,xs2,a,b,c,f,g,q2⟩ | ⟨a,b⟩
 ·cases a; cases b
  exact ⟨p2,xs2,h2,c,f,g,q2⟩
 ·exact absurd rfl (a ds)
noncomputable def inK:Bool -> Kd | true=>.loc | false=>.old
theorem Val.inK {K:PySem.W.Frag} {σ:L2.St} {H H':Hp} {A:List Addr} {st:DSt} {n:Bool} {d:D} {v:V} (r:RS K C G0 Γ σ H A st) (e:Same H H') (l:κ.le (inK n) = true) (w:Val K C κ G0 A H H' d v):Rep K C (eh n G0 A H') d v:=by
 have:=w.le r e l
 cases n with
 | true=>exact this.1
 | false=>exact this
noncomputable def dApp (i:Nat) (f:DF):DS:=fun st=>match st[i]? with
 | some (some (.lst ds))=>match f st with
  | .ok d=>if ds.length <= 1000 then .nx (st.set i (some (.lst (ds ++ [d])))) else .bad
  | .ex c p=>.ex c p st
  | .bad=>.bad
 | _=>.bad
theorem jx7 {i:Nat} {n:Bool} {to:TE} (h:PE X e (tBM X.K "list" ku6 (tVar i) (kh3 (tD X.K C G0 Γ E f κ) tNil))) (na:qj6 Γ = true) (hk:Γ[i]? = some (.own n):=by rfl) (hl:κ.le (inK n) = true:=by rfl) (hs:swapsWith e none pos.line X.env = pure false:=by rfl):PS X (.Expr e pos) (tDS X.K C G0 Γ E κr (dApp i f)):=(jy3 h hs).imp fun D σ H zz=>by
 refine x2_2 zz fun A st r q=>?_
 clear zz
 unfold dApp at q
 split at q
 all_goals first
  | (rename_i z; split at z <;> (try split at z) <;> (try split at z) <;> cases z; done)
  | skip
 ·rename_i st' z
  split at z
  ·rename_i ds hs
   cases hf:f st with
   | bad=>rw [hf] at z; cases z
   | ex c p=>rw [hf] at z; cases z
   | ok d =>
    rw [hf] at z
    dsimp only at z
    split at z
    ·rename_i hlen
     cases z
     refine x2_5 (r.owned hk hs) fun p xs h1 h2 h3 h4 h5=>?_
     refine ⟨_,h1,.inl ⟨rfl,xs,.of h4⟩,A,st,r,?_⟩
     rw [hf]
     intro v H' e' w
     have r':=r.mono e'
     have q5:Reps X.K C (eh n G0 A H') ds xs:=h5.same (by
      unfold eh; cases n
      ·exact q8 e'
      ·exact Q1 (q8 e')) _
     refine ⟨p,xs,v,rfl,rfl,e' _ _ h4,?_,?_⟩
     ·rw [h5.len]
      have:1001 <= sizeLine:=by rw [sizeLine_eq]; decide
      lia
     ·obtain ⟨r2,e2⟩:=r'.mut na hk hs h1 h2 h3 ⟨ds,rfl⟩ (q5.app (.cons (w.inK r e' hl) .nil))
      exact q _ _ A r2 ((q8 e').trans e2)
    ·cases z
  ·cases z
 ·rename_i c p st' z
  split at z
  ·rename_i ds hs
   cases hf:f st with
   | bad=>rw [hf] at z; cases z
   | ok d=>rw [hf] at z; dsimp only at z; split at z <;> cases z
   | ex c p =>
    rw [hf] at z
    cases z
    refine x2_5 (r.owned hk hs) fun p' xs h1 h2 h3 h4 h5=>?_
    refine ⟨_,h1,.inl ⟨rfl,xs,.of h4⟩,A,st,r,?_⟩
    rw [hf]
    exact fun H' e'=>q σ H' A (r.mono e') (q8 e')
  ·cases z
 ·exact q.elim
end
end Dm
end T_De5
section T_De6
namespace Dm
open PySem PySem.Spec PyProof.Rows L2
noncomputable def spD (K:PySem.W.Frag) (C:Cfg) (n:Nat) (F:List D -> R D) (κr:Bool):Sp:=fun vs H Q E=>∃ ds,ds.length = n /\ Reps K C H ds vs /\ match F ds with
 | .ok d=>∀ v H',Same H H' -> RetV K C κr H H' d v -> Q v H'
 | .ex c p=>∀ H',Same H H' -> exP E c p H'
 | .bad=>False
noncomputable def J9 (m:Nat) (Fb:DS):List D -> R D:=fun ds=>match Fb (ds.map some ++ List.replicate (m - ds.length) none) with
 | .rt d=>.ok d | .nx _=>.ok .non | .ex c p _=>.ex c p | _=>.bad
section
variable {K:PySem.W.Frag} {C:Cfg} {Γ:List SK} {H:Hp}
theorem jr9:er H [] = H:=by funext a; exact v8 (by simp)
theorem kl2 {n:Nat} {N:List Str} {ds:List D} {vs:List V} (hn:ds.length = n) (hΓ:∀ i,i < n -> Γ[i]? = some .par) (q:Reps K C H ds vs):RS K C H Γ (L2.start N vs) H [] (ds.map some ++ List.replicate (N.length - ds.length) none) where
 base:=by rw [jr9]; exact .refl _
 lists:=fun a m=>by cases m
 len:=by unfold L2.start; simp [q.len]
 slot:=fun i d h=>by
  have hi:i < ds.length:=by
   apply Decidable.byContradiction
   intro hlt
   rw [List.getElem?_append_right (by simp; lia)] at h
   simp at h
   rw [List.getElem?_replicate] at h
   split at h <;> cases h
  rw [List.getElem?_append_left (by simpa using hi),List.getElem?_map] at h
  cases hd:ds[i]? with
  | none=>rw [hd] at h; cases h
  | some d' =>
   rw [hd] at h; cases h
   refine x1_2 (q.get' hd) fun v h1 h2=>?_
   refine ⟨.par,v,hΓ i (by lia),?_,?_⟩
   ·unfold L2.start
    rw [List.getElem?_append_left (by rw [List.length_map,q.len]; exact hi),List.getElem?_map,h1]; rfl
   ·show Rep K C (er H []) d v
    rw [jr9]; exact h2
 apart:=fun i j a b p ds' es hij g1 g2 s1 s2 w1 w2=>by
  have hi:i < ds.length:=by
   apply Decidable.byContradiction
   intro hlt
   rw [List.getElem?_append_right (by simp; lia)] at s1
   simp at s1
   rw [List.getElem?_replicate] at s1
   split at s1 <;> cases s1
  rw [hΓ i (by lia)] at g1; cases g1
theorem vc9 {P:Program} {w:World} {mg:Str -> Option Value} {base:Heap} {x qual:Str} {st:Stmt} {f:Addr} {fd:FuncData} {N ps:List Str} {k n:Nat} {κr:Bool} {Fb:DS} (F:Fun K x qual st f fd) (S:FnScope N ps (j4 st)) (hn:ps.length = n) (hΓ:∀ i,i < n -> Γ[i]? = some .par)
  (body:∀ (cdv:Value) (A:Around) (outer:List Env) (s:Shared) (H:Hp) (E:XK),Room k (A.deeper (envOfC qual (j4 st) s.heap.objs.size f cdv)) ->
   PSs ((cxOf (CXr P w) P w K mg base N qual (j4 st) f cdv A outer s H E).wish (Fly (cxOf (CXr P w) P w K mg base N qual (j4 st) f cdv A outer s H E) fun _=>E)) (v6 st) (tDS K C H Γ (fun _=>E) κr Fb)) :
  FnOk P w K mg base (CXr P w) (k + 1) f fd ps (spD K C n (J9 N.length Fb) κr):=by
 refine jq9 F S (fun vs H Q E zz1=>by obtain ⟨ds,h1,h2,_⟩:=zz1; rw [h2.len,h1,hn]) fun cdv A outer s H vs Q E hr zz2=>?_
 refine x1_3 zz2 fun ds h1 h2 q=>?_
 clear zz2
 refine ⟨_,body cdv A outer s H E hr,[],_,kl2 h1 hΓ h2,?_⟩
 unfold J9 at q
 cases hf:Fb (ds.map some ++ List.replicate (N.length - ds.length) none) with
 | nx st' =>
  rw [hf] at q
  intro σ' H' A' r' e'
  refine q .non H' (r'.g0) ?_
  have R:∀ H:Hp,Rep K C H .non .non:=fun H=>by rw [Rep]
  cases κr with
  | true=>exact ⟨R (nw H H'),fun ds z=>by cases z⟩
  | false=>exact R H'
 | bk st'=>rw [hf] at q; exact q.elim
 | ct st'=>rw [hf] at q; exact q.elim
 | rt d=>rw [hf] at q; exact q
 | ex c p st'=>rw [hf] at q; exact fun σ' H' A' r' e'=>q H' r'.g0
 | bad=>rw [hf] at q; exact q.elim
end
section
variable {X:Cx} {C:Cfg} {G0:Hp} {Γ:List SK} {E:L2.St -> XK} {κr:Bool} {e a b c:Expr} {f fa fb fc:DF} {κ κ' κa κb:Kd} {es rest:List Expr} {fs:DA} {pos:Pos} {s:Stmt} {ss:List Stmt} {F G:DS}
noncomputable def qm9:Bool -> Kd | true=>.new | false=>.tmp
theorem qf1 {n:Nat} {Fd:List D -> R D} {κc:Bool} {K:PySem.W.Frag}:∀ σ H Q,tD K C G0 Γ E (dFn Fd fs) (qm9 κc) σ H Q -> (∀ st ds,fs st = .ok ds -> ds.length = n) -> ql9 (spD K C n Fd κc) E (tDA K C G0 Γ E fs κ) σ H Q:=fun σ H Q zz3 hlen=>by
 refine x2_2 zz3 fun A st r q=>?_
 clear zz3
 refine ⟨A,st,r,?_⟩
 unfold dFn R.bind at q
 cases hf:fs st with
 | bad=>rw [hf] at q; exact q
 | ex c p=>rw [hf] at q; exact q
 | ok ds =>
  rw [hf] at q
  dsimp only at q
  intro vs H1 e1 w1
  refine ⟨ds,hlen st ds hf,w1.same Kd.hp_all _,?_⟩
  cases hg:Fd ds with
  | bad=>rw [hg] at q; exact q
  | ex c p=>rw [hg] at q; exact fun H' e'=>q H' (e1.trans e')
  | ok d =>
   rw [hg] at q
   refine fun v H' e' w=>q v H' (e1.trans e') ?_
   cases κc with
   | true =>
    have w':Val K C .new G0 A H1 H' d v:=w
    exact w'.early e1
   | false=>exact w
theorem k8:∀ st ds,aNil st = .ok ds -> ds.length = 0:=fun st ds h=>by cases h; rfl
theorem j3 {n:Nat} (h:∀ st ds,fs st = .ok ds -> ds.length = n):∀ st ds,j0 f fs st = .ok ds -> ds.length = n + 1:=fun st ds q=>by
 unfold j0 R.bind at q
 cases hf:f st with
 | bad=>rw [hf] at q; cases q
 | ex c p=>rw [hf] at q; cases q
 | ok d =>
  rw [hf] at q
  dsimp only at q
  cases hg:fs st with
  | bad=>rw [hg] at q; cases q
  | ex c p=>rw [hg] at q; cases q
  | ok ds' =>
   rw [hg] at q; cases q
   rw [List.length_cons,h st _ hg]
theorem qr8 {X:Cx} {x:Str} {k n:Nat} {ff:Addr} {fd:FuncData} {ps:List Str} {Fd:List D -> R D} {κc:Bool} {p:Pos} (Fn:FnOk X.prog X.w X.K X.mg X.base (CXr X.prog X.w) k ff fd ps (spD X.K C n Fd κc)) (hr:Room k X.A) (hm:X.mg x = some (.ref ff)) (hk:PySem.W.keepIn X.K (.ref ff) = true) (hb:Binds X.K fd ps [])
  (ha:PA (X.wish (Fly X E)) (e :: es) (tDA X.K C G0 Γ E fs κ)) (hlen:∀ st ds,fs st = .ok ds -> ds.length = n) (hg:Gl X x:=by rfl) (hdb:(x == ("__debug__" : Str)) = false:=by decide) (he:starEach (e :: es) X.env = (false,eval e X.env) :: starEach es X.env:=by rfl) (hpl:(backTo pos (starEach es X.env)).any (·.1) = false:=by rfl) :
  PE (X.wish (Fly X E)) (.Call (.Name x p) (e :: es) [] pos) (tD X.K C G0 Γ E (dFn Fd fs) (qm9 κc)):=(qh4 Fn hr hg hm hk hb ha hdb he hpl).imp fun σ H Q q=>qf1 σ H Q q hlen
noncomputable abbrev DB:=D -> DSt -> Option DSt
noncomputable def Y2 (bind:DB) (F:DS):List D -> DSt -> Out
 | [],st=>.nx st
 | d :: ds,st=>match bind d st with
  | none=>.bad
  | some st1=>match F st1 with
   | .nx st'=>Y2 bind F ds st'
   | .ct st'=>Y2 bind F ds st'
   | .bk st'=>.nx st'
   | o=>o
noncomputable abbrev DI:=DSt -> R (List D)
noncomputable def dFor (g:DI) (bind:DB) (F:DS):DS:=fun st=>match g st with | .ok ds=>Y2 bind F ds st | .ex c p=>.ex c p st | .bad=>.bad
noncomputable def jv4 (K:PySem.W.Frag) (C:Cfg) (G0:Hp) (Γ:List SK) (t:TG) (bind:DB):Prop:=∀ (σ:L2.St) (H:Hp) (A:List Addr) (st st1:DSt) (d:D) (v:V) (Q:L2.St -> Hp -> Prop),RS K C G0 Γ σ H A st -> Rep K C (er H A) d v -> bind d st = some st1 ->
 (∀ σ' A',RS K C G0 Γ σ' H A' st1 -> Same (er H A) (er H A') -> (∀ a ∈ A,a ∈ A') -> Q σ' H) -> t v σ H Q
noncomputable def Y9 (i:Nat):DB:=fun d st=>some (st.set i (some d))
noncomputable def jj1 (i j:Nat):DB:=fun d st=>match d with | .tup [a,b]=>some ((st.set i (some a)).set j (some b)) | _=>none
theorem jc7 {K:PySem.W.Frag} {i:Nat} {k:SK} (hk:Γ[i]? = some k:=by rfl) (l:k.takes .old = true:=by rfl):jv4 K C G0 Γ (kx2 i) (Y9 i):=fun σ H A st st1 d v Q r w hb q=>by
 cases hb
 refine x1_3 (r.set (.refl _) hk l (κ:=.old) w) fun A' r' e' sb=>?_
 exact q _ A' r' e' sb
theorem jr3 {K:PySem.W.Frag} {i j:Nat} {k k':SK} (hk:Γ[i]? = some k:=by rfl) (hj:Γ[j]? = some k':=by rfl) (l:k.takes .old = true:=by rfl) (l':k'.takes .old = true:=by rfl):jv4 K C G0 Γ (gTup K 2 (qr4 (kx2 i) (qr4 (kx2 j) gNil))) (jj1 i j):=fun σ H A st st1 d v Q r w hb q=>by
 unfold jj1 at hb
 split at hb
 ·rename_i a b
  cases hb
  rw [Rep] at w
  refine x2_3 w fun p xs zo2 h2 h3=>?_
  clear w
  obtain rfl:=zo2
  have h2':=Same.tup (v4 _ _) h2
  rw [Reps] at h3
  obtain ⟨x,r1,rfl,wx,h3⟩:=h3
  rw [Reps] at h3
  obtain ⟨y,r2,rfl,wy,h3⟩:=h3
  rw [Reps] at h3
  subst h3
  refine ⟨p,_,rfl,h2',rfl,x,[y],rfl,y,[],rfl,rfl,?_⟩
  refine x1_3 (r.set (.refl _) hk l (κ:=.old) wx) fun A1 s1 e1 b1=>?_
  refine x1_3 (s1.set (.refl _) hj l' (κ:=.old) (wy.same e1 _)) fun A2 s2 e2 b2=>?_
  exact q _ A2 s2 (e1.trans e2) fun a m=>b2 a (b1 a m)
 ·cases hb
noncomputable def ItOk (K:PySem.W.Frag) (C:Cfg) (A:List Addr) (H1:Hp) (J:It) (ds:List D):Prop:=∀ (i:Nat) (H:Hp) (A':List Addr),Same (er H1 A) (er H A') -> (∀ a ∈ A',H a ≠ none) ->
 (∀ d,ds[i]? = some d -> J.go i H /\ ∀ x H',J.yld i H x H' -> Same H H' /\ Rep K C (er H' A') d x) /\ (ds[i]? = none -> J.stop i H)
theorem jt5 {K:PySem.W.Frag} {J:It} {ds:List D} {bind:DB} {g:TG} {A:List Addr} {H H1:Hp} {σ:L2.St} {st:DSt} {D:Ends} (hB:jv4 K C G0 Γ g bind) (hJ:ItOk K C A H1 J ds) (r:RS K C G0 Γ σ H A st) (e1:Same H H1) (q:match Y2 bind F ds st with
   | .nx st'=>∀ σ' H' A',RS K C G0 Γ σ' H' A' st' -> Same (er H A) (er H' A') -> D.nx σ' H'
   | .bk st'=>∀ σ' H' A',RS K C G0 Γ σ' H' A' st' -> Same (er H A) (er H' A') -> D.bk σ' H'
   | .ct st'=>∀ σ' H' A',RS K C G0 Γ σ' H' A' st' -> Same (er H A) (er H' A') -> D.ct σ' H'
   | .rt d=>∀ v H',Same G0 H' -> RetV K C κr G0 H' d v -> D.rt v H'
   | .ex c p st'=>∀ σ' H' A',RS K C G0 Γ σ' H' A' st' -> Same (er H A) (er H' A') -> exP (E σ') c p H'
   | .bad=>False) :
  ∃ W:Nat -> Nat -> L2.St -> Hp -> Prop,(∃ m,W 0 m σ H1) /\ ∀ i m σ H,W i m σ H ->
   (J.stop i H /\ D.nx σ H) \/ (J.go i H /\ ∃ N:L2.St -> Hp -> Prop,(∀ σ' H',N σ' H' -> ∃ m',m' < m /\ W (i + 1) m' σ' H') /\ ∀ x H',J.yld i H x H' -> g x σ H' fun σ2 H2=>tDS K C G0 Γ E κr F { D with nx:=N,ct:=N,bk:=D.nx } σ2 H2):=by
 refine ⟨fun i m σ' H'=>m = ds.length - i /\ i <= ds.length /\ ∃ A' st',RS K C G0 Γ σ' H' A' st' /\ Same (er H1 A) (er H' A') /\ Y2 bind F (ds.drop i) st' = Y2 bind F ds st,⟨ds.length,rfl,Nat.zero_le _,A,st,r.mono e1,.refl _,rfl⟩,?_⟩
 rintro i m σ3 H3 ⟨rfl,hi,A3,st3,r3,e3,g3⟩
 obtain ⟨hgo,hst⟩:=hJ i H3 A3 e3 (fun a m=>by obtain ⟨xs,q⟩:=r3.lists a m; rw [q]; simp)
 cases hd:ds[i]? with
 | none =>
  have:ds.drop i = []:=List.drop_eq_nil_iff.mpr (List.getElem?_eq_none_iff.mp hd)
  rw [this] at g3
  rw [<- g3] at q
  exact .inl ⟨hst hd,q σ3 H3 A3 r3 ((q8 e1).trans e3)⟩
 | some d =>
  obtain ⟨go,yl⟩:=hgo d hd
  have hlt:i < ds.length:=(List.getElem?_eq_some_iff.mp hd).1
  have hdr:ds.drop i = d :: ds.drop (i + 1):=by
   rw [List.drop_eq_getElem_cons hlt]
   congr 1
   exact (List.getElem?_eq_some_iff.mp hd).2
  refine .inr ⟨go,fun σ' H'=>∃ A' st',RS K C G0 Γ σ' H' A' st' /\ Same (er H1 A) (er H' A') /\ Y2 bind F (ds.drop (i + 1)) st' = Y2 bind F ds st,fun σ' H' zz4=>zz4.elim fun A' zz5=>zz5.elim fun st' zz6=>zz6.elim fun h1 zz7=>zz7.elim fun h2 h3=>⟨ds.length - (i + 1),by lia,rfl,hlt,A',st',h1,h2,h3⟩,fun x H' hy=>?_⟩
  obtain ⟨e4,wx⟩:=yl x H' hy
  rw [hdr,Y2] at g3
  cases hb:bind d st3 with
  | none=>rw [hb] at g3; rw [<- g3] at q; exact q.elim
  | some st4 =>
   rw [hb] at g3
   dsimp only at g3
   refine hB σ3 H' A3 st3 st4 d x _ (r3.mono e4) wx hb fun σ5 A5 r5 e5 _=>⟨A5,st4,r5,?_⟩
   have eall:Same (er H1 A) (er H' A5):=(e3.trans (q8 e4)).trans e5
   cases hf:F st4 with
   | nx st5=>rw [hf] at g3; exact fun σ6 H6 A6 r6 e6=>⟨A6,st5,r6,eall.trans e6,g3⟩
   | ct st5=>rw [hf] at g3; exact fun σ6 H6 A6 r6 e6=>⟨A6,st5,r6,eall.trans e6,g3⟩
   | bk st5=>rw [hf] at g3; rw [<- g3] at q; exact fun σ6 H6 A6 r6 e6=>q σ6 H6 A6 r6 (((q8 e1).trans eall).trans e6)
   | rt d=>rw [hf] at g3; rw [<- g3] at q; exact q
   | ex c p st5=>rw [hf] at g3; rw [<- g3] at q; exact fun σ6 H6 A6 r6 e6=>q σ6 H6 A6 r6 (((q8 e1).trans eall).trans e6)
   | bad=>rw [hf] at g3; rw [<- g3] at q; exact q.elim
noncomputable def iLst (f:DF):DI:=fun st=>match f st with | .ok (.lst ds)=>.ok ds | .ok _=>.bad | .ex c p=>.ex c p | .bad=>.bad
theorem Z9 {tg iter:Expr} {bind:DB} {g:TG} (hp:PassesOwn (model X.prog X.w) X.A X.env X.xe) (hc:X.calm = true) (he:PE X iter (tD X.K C G0 Γ E f κ)) (l:κ.le .old = true) (hg:PG X tg g) (hB:jv4 X.K C G0 Γ g bind) (hb:PSs X ss (tDS X.K C G0 Γ E κr F)) (hs:∀ x,foldedSetIterable iter X.env x = pure x:=by intro _; rfl) :
  PS X (.For tg iter ss [] pos) (tDS X.K C G0 Γ E κr (dFor (iLst f) bind F)):=(kt5 hp hc (ku2 he) hg hb hs).imp fun D σ H zz=>by
 refine x2_2 zz fun A st r q=>?_
 clear zz
 refine ⟨A,st,r,?_⟩
 unfold dFor iLst at q
 cases hf:f st with
 | bad=>rw [hf] at q; exact q.elim
 | ex c p=>rw [hf] at q; exact fun H' e'=>q σ H' A (r.mono e') (q8 e')
 | ok d =>
  rw [hf] at q
  cases d with
  | lst ds =>
   dsimp only at q
   intro v H1 e1 w
   have w':Rep X.K C (er H1 A) (.lst ds) v:=w.le r e1 (κ':=.old) l
   rw [Rep] at w'
   refine x2_3 w' fun a xs zo2 h2 h3=>?_
   clear w'
   obtain rfl:=zo2
   refine ⟨a,rfl,⟨xs,(v4 _ _).seq h2⟩,?_⟩
   refine jt5 hB (fun i H3 A3 e3 _=>⟨fun d hd=>?_,fun hd=>?_⟩) r e1 q
   ·refine x1_2 (h3.get' hd) fun v hv rv=>?_
    have s3:SqL X.K H3 a xs:=(e3.trans (v4 _ _)).seq h2
    refine ⟨⟨xs,v,s3,hv⟩,fun x H' zz8=>?_⟩
    obtain ⟨hH,hx⟩:=zz8
    subst hH
    have:=hx xs s3
    rw [hv] at this; cases this
    exact ⟨.refl _,rv.same ((v4 _ _).trans e3) _⟩
   ·exact ⟨xs,(e3.trans (v4 _ _)).seq h2,by rw [h3.len]; exact List.getElem?_eq_none_iff.mp hd⟩
  | _=>exact q.elim
noncomputable def iRng (fs:DA):DI:=fun st=>match fs st with | .ok [.int j]=>if (decide (-(2 ^ 62) <= j) && decide (j < 2 ^ 62)) = true then .ok ((List.range j.toNat).map fun i=>.int (i:Nat)) else .bad | .ok _=>.bad | .ex c p=>.ex c p | .bad=>.bad
theorem ji4 {tg:Expr} {bind:DB} {g:TG} {p:Pos} (hp:PassesOwn (model X.prog X.w) X.A X.env X.xe) (hc:X.calm = true) (hm:X.mg "range" = none) (ha:PA X [a] (tDA X.K C G0 Γ E fs κ)) (hg:PG X tg g) (hB:jv4 X.K C G0 Γ g bind) (hb:PSs X ss (tDS X.K C G0 Γ E κr F)) (hgl:Gl X "range":=by rfl)
  (hs1:starEach [a] X.env = [(false,eval a X.env)]:=by rfl) (hs:∀ x,foldedSetIterable (.Call (.Name "range" p) [a] [] pos) X.env x = pure x:=by intro _; rfl) {pos':Pos} :
  PS X (.For tg (.Call (.Name "range" p) [a] [] pos) ss [] pos') (tDS X.K C G0 Γ E κr (dFor (iRng fs) bind F)):=(kt5 hp hc (kw2 hgl hm ha hs1) hg hb hs).imp fun D σ H zz=>by
 refine x2_2 zz fun A st r q=>?_
 clear zz
 refine ⟨A,st,r,?_⟩
 unfold dFor at q
 cases hg:iRng fs st with
 | bad=>rw [hg] at q; exact q.elim
 | ex c p =>
  rw [hg] at q
  have hf:fs st = .ex c p:=by
   unfold iRng at hg
   split at hg
   ·split at hg <;> cases hg
   ·cases hg
   ·rename_i z; rw [z]; cases hg; rfl
   ·cases hg
  rw [hf]
  exact fun H' e'=>q σ H' A (r.mono e') (q8 e')
 | ok ds' =>
  rw [hg] at q
  unfold iRng at hg
  split at hg
  ·rename_i j hf
   rw [hf]
   split at hg
   ·rename_i hc
    cases hg
    simp only [Bool.and_eq_true,decide_eq_true_eq] at hc
    intro vs H1 e1 w1
    refine x1_2 (js4 w1) fun v zo1 wv=>?_
    obtain rfl:=zo1
    obtain rfl:v = .int j:=by rw [Rep] at wv; exact wv
    refine ⟨j,rfl,hc.1,hc.2,?_⟩
    refine jt5 hB (fun i H3 A3 e3 _=>⟨fun d hd=>?_,fun hd=>?_⟩) r e1 q
    ·rw [List.getElem?_map] at hd
     have hi:i < j.toNat:=by
      apply Decidable.byContradiction
      intro hlt
      rw [List.getElem?_eq_none (by simpa using hlt)] at hd
      cases hd
     rw [List.getElem?_range hi] at hd
     cases hd
     refine ⟨hi,fun x H' zz9=>?_⟩
     obtain ⟨hH,hx⟩:=zz9
     subst hH; subst hx
     refine ⟨.refl _,?_⟩
     rw [Rep,Int.zero_add]
    ·show j.toNat <= i
     have:=List.getElem?_eq_none_iff.mp hd
     simpa using this
   ·cases hg
  ·cases hg
  ·cases hg
  ·cases hg
end
end Dm
end T_De6
section T_De7
namespace Dm
open PySem PySem.Spec PyProof.Rows L2
section
variable {X:Cx} {C:Cfg} {G0:Hp} {Γ:List SK} {E:L2.St -> XK} {κr:Bool} {e a b c:Expr} {f fa fb fc:DF} {κ κ' κa κb κc:Kd} {es rest:List Expr} {fs:DA} {pos:Pos} {s:Stmt} {ss:List Stmt} {F G:DS}
noncomputable def jm6 (g g':D -> D -> R D) (fa fb fc:DF):DF:=fun st=>(fa st).bind fun a=>(fb st).bind fun b=>(g a b).bind fun z=>match z with
 | .bl true=>(fc st).bind fun c=>g' b c
 | .bl false=>.ok (.bl false)
 | _=>.bad
theorem kd3 {K:PySem.W.Frag} {r2 r2':R2} {g g':D -> D -> R D} (ho:OpD K C r2 g .new) (ho':OpD K C r2' g' .new):∀ σ H Q,tD K C G0 Γ E (jm6 g g' fa fb fc) .new σ H Q -> qb4 r2 r2' (tD K C G0 Γ E fa κa) (tD K C G0 Γ E fb κb) (tD K C G0 Γ E fc κc) σ H Q:=fun σ H Q zz=>by
 refine x2_2 zz fun A st r q=>?_
 clear zz
 refine ⟨A,st,r,?_⟩
 unfold jm6 R.bind at q
 cases ha:fa st with
 | bad=>rw [ha] at q; exact q
 | ex c p=>rw [ha] at q; exact q
 | ok a =>
  rw [ha] at q
  intro x H1 e1 w1
  refine ⟨A,st,r.mono e1,?_⟩
  dsimp only at q
  cases hb:fb st with
  | bad=>rw [hb] at q; exact q
  | ex c p=>rw [hb] at q; exact fun H' e'=>q H' (e1.trans e')
  | ok b =>
   rw [hb] at q
   intro y H2 e2 w2
   dsimp only at q
   have e12:=e1.trans e2
   refine ho G0 Γ (E σ) σ A st H2 a b x y _ (r.mono e12) (w1.rep.same e2 _) w2.rep ?_
   cases hg:g a b with
   | bad=>rw [hg] at q; exact q
   | ex c p=>rw [hg] at q; exact fun H' e'=>q H' (e12.trans e')
   | ok z =>
    rw [hg] at q
    cases z with
    | bl k =>
     intro v H3 e3 w3
     refine ⟨k,vbl w3,?_⟩
     have e13:=e12.trans e3
     cases k with
     | false=>rw [if_neg Bool.false_ne_true]; exact q _ H3 e13 (.flat r e13 (by rw [noL] <;> simp) repB _)
     | true =>
      rw [if_pos rfl]
      refine ⟨A,st,r.mono e13,?_⟩
      dsimp only at q
      cases hc:fc st with
      | bad=>rw [hc] at q; exact q
      | ex c p=>rw [hc] at q; exact fun H' e'=>q H' (e13.trans e')
      | ok c =>
       rw [hc] at q
       intro w' H4 e4 w4
       dsimp only at q
       refine ho' G0 Γ (E σ) σ A st H4 b c y w' Q (r.mono (e13.trans e4)) (w2.rep.same (e3.trans e4) _) w4.rep ?_
       cases hg':g' b c with
       | bad=>rw [hg'] at q; exact q
       | ex c p=>rw [hg'] at q; exact fun H' e'=>q H' ((e13.trans e4).trans e')
       | ok d=>rw [hg'] at q; exact fun v H' e' w=>q v H' ((e13.trans e4).trans e') (w.early (e13.trans e4))
    | _=>exact q.elim
theorem km5 {op op':CmpOp} {r2 r2':R2} {g g':D -> D -> R D} (hr:OpR X (compareOp op) r2) (hr':OpR X (compareOp op') r2') (ho:OpD X.K C r2 g .new) (ho':OpD X.K C r2' g' .new) (ha:PE X a (tD X.K C G0 Γ E fa κa)) (hb:PE X b (tD X.K C G0 Γ E fb κb)) (hc:PE X c (tD X.K C G0 Γ E fc κc))
  (hm:lastMarks [op,op'] [b,c] = false:=by with_unfolding_all rfl):PE X (.Compare a [op,op'] [b,c] pos) (tD X.K C G0 Γ E (jm6 g g' fa fb fc) .new):=(qd9 hr hr' ha hb hc hm).imp (kd3 ho ho')
theorem qi1 {op op':CmpOp} {r2 r2':R2} {g g':D -> D -> R D} (hr:OpR X (compareOp op) r2) (hr':OpR X (compareOp op') r2') (ho:OpD X.K C r2 g .new) (ho':OpD X.K C r2' g' .new) (ha:PE X a (tD X.K C G0 Γ E fa κa)) (hb:PE X b (tD X.K C G0 Γ E fb κb)) (hc:PE X c (tD X.K C G0 Γ E fc κc))
  (hm:lastMarks [op,op'] [b,c] = false:=by with_unfolding_all rfl):PT X (.Compare a [op,op'] [b,c] pos) (tDT X.K C G0 Γ E (jm6 g g' fa fb fc)):=(qf2 hr hr' ha hb hc hm).imp fun σ H Q zz=>by
 refine x2_2 zz fun A st r q=>?_
 clear zz
 refine kd3 ho ho' σ H _ ⟨A,st,r,?_⟩
 cases hf:jm6 g g' fa fb fc st with
 | bad=>rw [hf] at q; exact q
 | ex c p=>rw [hf] at q; exact q
 | ok d =>
  rw [hf] at q
  cases d with
  | bl b=>exact fun v H' e' w=>⟨b,vbl w,q H' e'⟩
  | _=>exact q.elim
noncomputable def gNeg:D -> R D:=fun a=>match a with | .int i=>.ok (.int (-i)) | _=>.bad
theorem qk6 (ha:PE X a (tD X.K C G0 Γ E fa κa)):PE X (.UnaryOp .USub a pos) (tD X.K C G0 Γ E (dUn gNeg fa) .new):=(vg7 qx3 ha).imp fun σ H Q zz=>by
 refine x2_2 zz fun A st r q=>?_
 clear zz
 refine ⟨A,st,r,?_⟩
 unfold dUn R.bind at q
 cases ha:fa st with
 | bad=>rw [ha] at q; exact q
 | ex c p=>rw [ha] at q; exact q
 | ok a =>
  rw [ha] at q
  intro x H1 e1 w1
  cases a with
  | int i =>
   have:=w1.rep
   rw [Rep] at this
   exact ⟨i,this,q _ H1 e1 (.flat r e1 (by rw [noL] <;> simp) repI _)⟩
  | _=>exact q.elim
noncomputable def cutD (ds:List D) (lo hi:Option Int):List D:=(ds.drop (HT.sIx ds.length 0 lo)).take (HT.sIx ds.length ds.length hi - HT.sIx ds.length 0 lo)
noncomputable def jp3 (o:Option DF):DSt -> R (Option Int):=fun st=>match o with
 | none=>.ok none
 | some f=>(f st).bind fun d=>match d with | .int i=>.ok (some i) | _=>.bad
noncomputable def dSl (fa:DF) (lo hi:Option DF):DF:=fun st=>(fa st).bind fun a=>(jp3 lo st).bind fun l=>(jp3 hi st).bind fun h=>match a with
 | .lst ds=>if noLs ds = true then .ok (.lst (cutD ds l h)) else .bad
 | _=>.bad
noncomputable def tDO (K:PySem.W.Frag) (C:Cfg) (G0:Hp) (Γ:List SK) (E:L2.St -> XK) (o:Option DF):TO:=fun σ H Q=>∃ A st,RS K C G0 Γ σ H A st /\ match jp3 o st with
 | .ok i=>∀ H',Same H H' -> Q i H'
 | .ex c p=>∀ H',Same H H' -> exP (E σ) c p H'
 | .bad=>False
theorem jn6:PO X none (tDO X.K C G0 Γ E none):=fun pins s σ H Q I zz1=>zz1.elim fun A zz2=>zz2.elim fun st zz3=>zz3.elim fun r q=>qn5 pins s σ H Q I (q H (.refl _))
theorem jn4 (h:PE X e (tD X.K C G0 Γ E f κ)):PO X (some e) (tDO X.K C G0 Γ E (some f)):=fun pins s σ H Q I zz4=>zz4.elim fun A zz5=>zz5.elim fun st zz6=>zz6.elim fun r q=>qp2 h pins s σ H Q I ⟨A,st,r,by
 unfold jp3 R.bind at q
 cases hf:f st with
 | bad=>simp only [hf] at q
 | ex c p=>simp only [hf] at q; exact q
 | ok d =>
  simp only [hf] at q
  cases d with
  | int i=>exact fun v H' e' w=>⟨i,by have:=w.rep; rw [Rep] at this; exact this,q H' e'⟩
  | _=>exact q.elim⟩
theorem qe5 {K:PySem.W.Frag} {H:Hp} {ds:List D} {xs:List V} {lo hi:Option Int} (q:Reps K C H ds xs):Reps K C H (cutD ds lo hi) (cutV xs lo hi):=by
 unfold cutD cutV
 rw [q.len]
 exact (q.drop _).take _
theorem ku7:∀ {ds:List D} (n:Nat),noLs ds = true -> noLs (ds.take n) = true:=fun n h=>jf1 fun d hd=>jh4 h (List.mem_of_mem_take hd)
theorem kq6:∀ {ds:List D} (n:Nat),noLs ds = true -> noLs (ds.drop n) = true:=fun n h=>jf1 fun d hd=>jh4 h (List.mem_of_mem_drop hd)
theorem qf9 {ds es:List D} (h:noLs ds = true) (h':noLs es = true):noLs (ds ++ es) = true:=jf1 fun d hd=>(List.mem_append.mp hd).elim (jh4 h) (jh4 h')
theorem jj9 {lo hi:Option Expr} {fl fh:Option DF} {p2:Pos} (he:PE X e (tD X.K C G0 Γ E fa κa)) (hl:PO X lo (tDO X.K C G0 Γ E fl)) (hu:PO X hi (tDO X.K C G0 Γ E fh)):PE X (.Subscript e (.Slice lo hi none p2) pos) (tD X.K C G0 Γ E (dSl fa fl fh) .new):=(qd7 qt7 he hl hu).imp fun σ H Q zz=>by
 refine x2_2 zz fun A st r q=>?_
 clear zz
 refine ⟨A,st,r,?_⟩
 unfold dSl R.bind at q
 cases ha:fa st with
 | bad=>rw [ha] at q; exact q
 | ex c p=>rw [ha] at q; exact q
 | ok a =>
  rw [ha] at q
  intro x H1 e1 w1
  refine ⟨A,st,r.mono e1,?_⟩
  dsimp only at q
  cases hb:jp3 fl st with
  | bad=>rw [hb] at q; exact q
  | ex c p=>rw [hb] at q; exact fun H' e'=>q H' (e1.trans e')
  | ok l =>
   rw [hb] at q
   intro H2 e2
   refine ⟨A,st,r.mono (e1.trans e2),?_⟩
   dsimp only at q
   cases hc:jp3 fh st with
   | bad=>rw [hc] at q; exact q
   | ex c p=>rw [hc] at q; exact fun H' e'=>q H' ((e1.trans e2).trans e')
   | ok h =>
    rw [hc] at q
    intro H3 e3
    dsimp only at q
    cases a with
    | lst ds =>
     dsimp only at q
     by_cases n:noLs ds = true
     ·rw [if_pos n] at q
      refine x2_3 ((w1.rep.same (e2.trans e3) _).items) fun p xs zo2 h2 h3=>?_
      obtain rfl:=zo2
      have e13:=(e1.trans e2).trans e3
      refine ⟨p,xs,rfl,h2,fun l' hl'=>q _ _ (e13.trans (Z7 hl')) (.lst r e13 hl' ?_)⟩
      exact (qe5 h3).part (.nw e13) _ (ku7 _ (kq6 _ n))
     ·rw [if_neg n] at q; exact q.elim
    | _=>exact q.elim
noncomputable def vd5 (K:PySem.W.Frag):R2:=fun x y H Q=>∃ l b xs zs,x = .ref l /\ y = .ref b /\ SqL K H l xs /\ SqL K H b zs /\ xs.length + zs.length <= sizeLine /\ ∀ p,H p = none -> Q (.ref p) (upd H p (.lst (xs ++ zs)))
theorem jr7:OpR X (binaryOp .Add) (vd5 X.K):=by
 intro pins s σ H x y v u Q I rx ry h
 refine x4_6 h fun l b xs zs zo4 zo5 hH hB hz q=>?_
 clear h
 obtain rfl:=zo4
 obtain rfl:=zo5
 cases rx
 cases ry
 refine x1_3 (I.list hH) fun its r p1 _=>?_
 refine x1_3 (I.list hB) fun its2 r2 p2 _=>?_
 obtain ⟨⟨cls,dd,data,sl⟩,ho,hc,n,hd⟩:=id p1.isList
 obtain ⟨⟨cls2,dd2,data2,sl2⟩,ho2,hc2,n2,hd2⟩:=id p2.isList
 simp only at hc hd hc2 hd2
 subst hc hd hc2 hd2
 have l1:=r.length
 have l2:=r2.length
 refine concat_meets ⟨_,ho,rfl⟩ ⟨_,ho2,rfl⟩ noFill_list_add seq_list_add PySem.F.slot_list_add PySem.F.entry_list_add (PySem.F.args_list_add_2 _ _) (list_addW l b its.toArray its2.toArray n n2 dd dd2 sl sl2 (by simp; lia)) ⟨ho,ho2,?_⟩
 have ea:its.toArray ++ its2.toArray = (its ++ its2).toArray:=by simp
 rw [ea]
 exact ⟨.ref _,_,I.lnew (t':=s.toks) (r.append r2) (by rw [List.length_append]; lia),rfl,q _ I.fresh⟩
noncomputable def gCat:D -> D -> R D:=fun a b=>match a,b with
 | .lst ds,.lst es=>if (noLs ds && noLs es && decide (ds.length + es.length <= 1000)) = true then .ok (.lst (ds ++ es)) else .bad
 | _,_=>.bad
theorem js5 {K:PySem.W.Frag}:OpD K C (vd5 K) gCat .new:=fun G0 Γ E σ A st H a b x y Q r qa qb q=>by
 cases hg:gCat a b with
 | bad=>rw [hg] at q; exact q.elim
 | ex c p=>unfold gCat at hg; split at hg <;> (try split at hg) <;> cases hg
 | ok d =>
  rw [hg] at q
  unfold gCat at hg
  split at hg
  ·rename_i ds es
   split at hg
   ·rename_i hc
    cases hg
    simp only [Bool.and_eq_true,decide_eq_true_eq] at hc
    refine x2_3 qa.items fun p xs zo2 h2 h3=>?_
    obtain rfl:=zo2
    refine x2_3 qb.items fun p' ys zo2 h2' h3'=>?_
    obtain rfl:=zo2
    refine ⟨p,p',xs,ys,rfl,rfl,h2,h2',?_,fun l hl=>q _ _ (Z7 hl) (.lst r (.refl _) hl ?_)⟩
    ·rw [h3.len,h3'.len]
     have:1000 <= sizeLine:=by rw [sizeLine_eq]; decide
     lia
    ·exact (h3.app h3').part (.nw (.refl _)) _ (qf9 hc.1.1 hc.1.2)
   ·cases hg
  ·cases hg
noncomputable def rowI:D -> Option (List Int)
 | .tup ds=>ds.mapM fun d=>match d with | .int i=>some i | _=>none
 | _=>none
theorem qp5:∀ {d:D} {ns:List Int},rowI d = some ns -> d = .tup (ns.map D.int)
 | .tup ds,ns,h=>by
  rw [rowI] at h
  congr 1
  revert ns
  induction ds with
  | nil=>intro ns h; simp at h; subst h; rfl
  | cons d ds ih =>
   intro ns h
   rw [List.mapM_cons] at h
   cases d with
   | int i =>
    dsimp only at h
    cases hm:ds.mapM fun d=>match d with | .int i=>some i | _=>(none:Option Int) with
    | none=>rw [hm] at h; cases h
    | some ms =>
     rw [hm] at h
     have h':i :: ms = ns:=Option.some.inj h
     subst h'
     rw [List.map_cons,<- ih ms hm]
   | _=>cases h
noncomputable def kt2 (ds:List D):Option (List (List Int)):=ds.mapM rowI
theorem kk1:∀ {ds:List D} {nss:List (List Int)},kt2 ds = some nss -> ds = nss.map fun ns=>.tup (ns.map D.int)
 | [],nss,h=>by
  have h':some [] = some nss:=h
  cases h'; rfl
 | d :: ds,nss,h=>by
  unfold kt2 at h
  rw [List.mapM_cons] at h
  cases hd:rowI d with
  | none=>rw [hd] at h; cases h
  | some ns =>
   rw [hd] at h
   cases hm:ds.mapM rowI with
   | none=>rw [hm] at h; cases h
   | some ms =>
    rw [hm] at h
    have h':ns :: ms = nss:=Option.some.inj h
    subst h'
    rw [List.map_cons,<- kk1 (ds:=ds) hm,qp5 hd]
noncomputable def jn2 (nss:List (List Int)):Bool:=match nss with | []=>true | ns :: _=>decide (ns.length ≠ 0) && nss.all fun ms=>decide (ms.length = ns.length)
theorem kg6 {nss:List (List Int)} (h:jn2 nss = true):Rows nss:=by
 cases nss with
 | nil=>exact ⟨0,fun ns hm=>by cases hm⟩
 | cons ns nss =>
  unfold jn2 at h
  rw [Bool.and_eq_true] at h
  have h1:ns.length ≠ 0:=by simpa using h.1
  refine ⟨ns.length - 1,fun ms hm=>?_⟩
  have:=List.all_eq_true.mp h.2 ms hm
  have:ms.length = ns.length:=by simpa using this
  lia
noncomputable def dRow (ns:List Int):D:=.tup (ns.map D.int)
theorem qt2 (ns:List Int):noL (dRow ns) = true:=by
 unfold dRow
 rw [noL]
 exact jf1 fun d hd=>by
  refine x1_2 (List.mem_map.mp hd) fun n _ zo2=>?_
  obtain rfl:=zo2
  rw [noL] <;> simp
theorem kw0 (nss:List (List Int)):noLs (nss.map dRow) = true:=jf1 fun d hd=>by
 refine x1_2 (List.mem_map.mp hd) fun n _ zo2=>?_
 obtain rfl:=zo2
 exact qt2 n
noncomputable def dd {α:Type} [DecidableEq α]:List α -> List α
 | []=>[]
 | x :: xs=>if x ∈ xs then dd xs else x :: dd xs
theorem jv8 {α:Type} [DecidableEq α] {x:α}:∀ {xs:List α},x ∈ dd xs ↔ x ∈ xs
 | []=>Iff.rfl
 | y :: ys=>by
  rw [dd]
  split
  ·rename_i h
   rw [jv8,List.mem_cons]
   constructor
   ·exact .inr
   ·rintro (rfl | q)
    ·exact h
    ·exact q
  ·rw [List.mem_cons,List.mem_cons,jv8]
theorem jp6 {α:Type} [DecidableEq α]:∀ (xs:List α),(dd xs).Nodup
 | []=>.nil
 | y :: ys=>by
  rw [dd]
  split
  ·exact jp6 ys
  ·rename_i h
   exact List.nodup_cons.mpr ⟨fun q=>h (jv8.mp q),jp6 ys⟩
noncomputable def jg9:D -> R D:=fun a=>match a with
 | .lst es=>match kt2 es with
  | some nss=>if (jn2 nss && decide (nss.length <= 50)) = true then .ok (.lst (je2 ((dd nss).map dRow))) else .bad
  | none=>.bad
 | _=>.bad
theorem ki8 {ds es:List D} (hs:∀ a ∈ ds,∀ b ∈ ds,shp a b = true) (hp:es.Perm ds):je2 es = je2 ds:=ja0 hs ((W5 es).trans hp) (jq1 es)
end
end Dm
end T_De7
section T_De8
namespace Dm
open PySem PySem.Spec PyProof.Rows L2
section
variable {X:Cx} {C:Cfg} {G0:Hp} {Γ:List SK} {E:L2.St -> XK} {κr:Bool} {e a b c:Expr} {f fa fb fc:DF} {κ κ' κa κb κc:Kd} {es rest:List Expr} {fs:DA} {pos:Pos} {s:Stmt} {ss:List Stmt} {F G:DS}
theorem va4:bootBuiltins "set" = some (.type "set"):=by decide +kernel
theorem ji7:bootBuiltins "sorted" = some (.builtin "sorted"):=by decide +kernel
theorem qe0 {nss:List (List Int)} (h:Rows nss):∀ a ∈ nss.map dRow,∀ b ∈ nss.map dRow,shp a b = true:=fun a ha b hb=>by
 obtain ⟨n,hn⟩:=h
 refine x1_2 (List.mem_map.mp ha) fun x hx zo2=>?_
 obtain rfl:=zo2
 refine x1_2 (List.mem_map.mp hb) fun y hy zo2=>?_
 obtain rfl:=zo2
 unfold dRow
 rw [shp]
 exact ju2 (by rw [hn x hx,hn y hy])
theorem qz0 (l:List (List Int)):(dd l).length <= l.length:=by
 induction l with
 | nil=>exact Nat.le_refl _
 | cons x l ih =>
  rw [dd]
  split
  ·exact Nat.le_succ_of_le ih
  ·rw [List.length_cons,List.length_cons]; lia
theorem kn4 {p1 p2 pos1:Pos} (hh:X.A.handled = none) (hu:X.A.units + 64 < cLine) (hm:X.mg "sorted" = none) (hm2:X.mg "set" = none) (he:PE X e (tD X.K C G0 Γ E f κ)) (hg:Gl X "sorted":=by rfl) (hg2:Gl X "set":=by rfl)
  (h1:starEach [Expr.Call (.Name "set" p2) [e] [] pos1] X.env = [(false,eval (.Call (.Name "set" p2) [e] [] pos1) X.env)]:=by rfl) (h2:starEach [e] X.env = [(false,eval e X.env)]:=by rfl) :
  PE X (.Call (.Name "sorted" p1) [.Call (.Name "set" p2) [e] [] pos1] [] pos) (tD X.K C G0 Γ E (dUn jg9 f) .new):=by
 have P1:PE X (.Call (.Name "set" p2) [e] [] pos1) (tCB (qc0 X C) (kh3 (tD X.K C G0 Γ E f κ) tNil)):=ja5 (kr4 hh hu) hg2 hm2 va4 (W7 he jd5 h2) (by decide) (by decide) h2
 have P2:PE X (.Call (.Name "sorted" p1) [.Call (.Name "set" p2) [e] [] pos1] [] pos) (tCB (qb0 X C) (kh3 (tCB (qc0 X C) (kh3 (tD X.K C G0 Γ E f κ) tNil)) tNil)):=J5 (kc2 hh hu) hg hm ji7 (W7 P1 jd5 h1) (by decide) (by decide) h1
 refine P2.imp fun σ H Q zz1=>zz1.elim fun A zz2=>zz2.elim fun st zz3=>zz3.elim fun r q=>⟨A,st,r,?_⟩
 unfold dUn R.bind at q
 cases hf:f st with
 | bad=>rw [hf] at q; exact q
 | ex c p=>rw [hf] at q; exact q
 | ok d =>
  rw [hf] at q
  dsimp only at q
  intro v H1 e1 w1
  show qc0 X C [v] H1 (fun x H2=>qb0 X C [x] H2 Q)
  cases hg:jg9 d with
  | bad=>rw [hg] at q; exact q.elim
  | ex c p=>unfold jg9 at hg; split at hg <;> (try split at hg) <;> (try split at hg) <;> cases hg
  | ok d' =>
   rw [hg] at q
   unfold jg9 at hg
   split at hg
   ·rename_i es
    split at hg
    ·rename_i nss hr
     split at hg
     ·rename_i hc
      cases hg
      simp only [Bool.and_eq_true,decide_eq_true_eq] at hc
      have he:=kk1 hr
      have hrow:=kg6 hc.1
      refine ⟨v,nss,rfl,by rw [<- he]; exact w1.rep,hc.2,fun p zs hp hmem nod mm=>?_⟩
      have pz:(zs.map (·.1)).Perm (dd nss):=(List.perm_ext_iff_of_nodup nod (jp6 nss)).mpr fun ns=>by rw [mm ns,jv8]
      have hl:zs.length <= 50:=by
       have h1:=pz.length_eq
       rw [List.length_map] at h1
       have:=qz0 nss
       lia
      have hR:Rows (zs.map (·.1)):=by
       obtain ⟨n,hn⟩:=hrow
       exact ⟨n,fun ns h=>hn ns ((mm ns).mp h)⟩
      have e2:Same H1 (upd H1 p (.ext (SObj X.prog X.w p zs))):=Z7 hp
      refine ⟨p,zs,rfl,J1,fun z hz=>Same.tup e2 (hmem z hz),hl,hR,fun p' ws es' hp' pe' rw'=>?_⟩
      have e13:=e1.trans e2
      refine q _ _ (e13.trans (Z7 hp')) (.lst r e13 hp' ?_)
      have hs:je2 (es'.map dRow) = je2 ((dd nss).map dRow):=ki8 (qe0 (by obtain ⟨n,hn⟩:=hrow; exact ⟨n,fun ns h=>hn ns (jv8.mp h)⟩)) ((pe'.trans pz).map _)
      have rw2:Reps X.K C (upd H1 p (.ext (SObj X.prog X.w p zs))) (je2 ((dd nss).map dRow)) ws:=by rw [<- hs]; exact rw'
      exact rw2.part (.nw e13) _ (jf1 fun d hd=>jh4 (kw0 _) ((W5 _).mem_iff.mp hd))
     ·cases hg
    ·cases hg
   ·cases hg
theorem Reps.set {K:PySem.W.Frag} {H:Hp} {d:D} {v:V} (w:Rep K C H d v):∀ {ds:List D} {xs:List V} (j:Nat),Reps K C H ds xs -> Reps K C H (ds.set j d) (xs.set j v)
 | [],_,j,q=>by rw [Reps] at q; subst q; simp [Reps]
 | d' :: ds,_,0,q=>by
  rw [Reps] at q
  refine x2_3 q fun v' r zo2 h1 h2=>?_
  clear q
  obtain rfl:=zo2
  exact .cons w h2
 | d' :: ds,_,j + 1,q=>by
  rw [Reps] at q
  refine x2_3 q fun v' r zo2 h1 h2=>?_
  clear q
  obtain rfl:=zo2
  exact .cons h1 (Reps.set w j h2)
noncomputable def dPar (i j:Nat) (fs:DA):DS:=fun st=>match fs st with | .ok [a,b]=>.nx ((st.set i (some a)).set j (some b)) | .ok _=>.bad | .ex c p=>.ex c p st | .bad=>.bad
theorem qk4 {i j:Nat} {x y:Str} {k k':SK} {px py pt:Pos} {kt k2 pt2} (hc:X.calm = true) (hN:X.N.Nodup) (ha:PA X [a,b] (tDA X.K C G0 Γ E fs .new)) (hij:i ≠ j) (hk:Γ[i]? = some k:=by rfl) (hk':Γ[j]? = some k':=by rfl)
  (hl:k.takes .old = true:=by rfl) (hl':k'.takes .old = true:=by rfl) (hi:X.N[i]? = some x:=by rfl) (hj:X.N[j]? = some y:=by rfl) (hx:X.env.scope.names.lookup x = some .local:=by rfl) (hy:X.env.scope.names.lookup y = some .local:=by rfl)
  (hw:swappedStores [.Tuple [.Name x px,.Name y py] kt pt] (.Tuple [a,b] k2 pt2) X.env = pure (some [x,y]):=by rfl)
  (hs:swapsWithSole [.Tuple [.Name x px,.Name y py] kt pt] (.Tuple [a,b] k2 pt2) pos.line X.env = pure false:=by rfl) :
  PS X (.Assign [.Tuple [.Name x px,.Name y py] kt pt] (.Tuple [a,b] k2 pt2) pos) (tDS X.K C G0 Γ E κr (dPar i j fs)):=(qx8 hc hN hi hj hij hx hy ha hw hs).imp fun D σ H zz=>by
 refine x2_2 zz fun A st r q=>?_
 clear zz
 refine ⟨A,st,r,?_⟩
 unfold dPar at q
 cases hf:fs st with
 | bad=>rw [hf] at q; exact q
 | ex c p=>rw [hf] at q; exact fun H' e'=>q σ H' A (r.mono e') (q8 e')
 | ok ds =>
  rw [hf] at q
  match ds,q with
  | [a,b],q =>
   intro vs H1 e1 w
   rw [Reps] at w
   obtain ⟨v,r1,rfl,wa,w⟩:=w
   obtain ⟨v',rfl,wb⟩:=js4 w
   refine ⟨v,v',rfl,?_⟩
   have wa':Rep X.K C (er H1 A) a v:=wa.same (r.new_er e1) _
   have wb':Rep X.K C (er H1 A) b v':=wb.same (r.new_er e1) _
   refine x1_3 ((r.mono e1).set (.refl _) hk hl (κ:=.old) wa') fun A1 s1 ee1 _=>?_
   refine x1_3 (s1.set (.refl _) hk' hl' (κ:=.old) (wb'.same ee1 _)) fun A2 s2 ee2 _=>?_
   exact q _ _ A2 s2 (((q8 e1).trans ee1).trans ee2)
  | [],q=>exact q.elim
  | [_],q=>exact q.elim
  | _ :: _ :: _ :: _,q=>exact q.elim
noncomputable def kp9 (bind:DB) (f:DF):DS:=fun st=>match f st with | .ok d=>(match bind d st with | some st'=>.nx st' | none=>.bad) | .ex c p=>.ex c p st | .bad=>.bad
theorem qu7 {tg:Expr} {g:TG} {bind:DB} (he:PE X e (tD X.K C G0 Γ E f κ)) (l:κ.le .old = true) (hg:PG X tg g) (hB:jv4 X.K C G0 Γ g bind) (hs:swapsWithSole [tg] e pos.line X.env = pure false:=by rfl) (hw:swappedStores [tg] e X.env = pure none:=by rfl)
  (h1:(assignEach [tg] X.env).map (·.2) = [assign tg X.env]:=by rfl):PS X (.Assign [tg] e pos) (tDS X.K C G0 Γ E κr (kp9 bind f)):=(vc6 he hg hs hw h1).imp fun D σ H zz=>by
 refine x2_2 zz fun A st r q=>?_
 clear zz
 refine ⟨A,st,r,?_⟩
 unfold kp9 at q
 cases hf:f st with
 | bad=>rw [hf] at q; exact q
 | ex c p=>rw [hf] at q; exact fun H' e'=>q σ H' A (r.mono e') (q8 e')
 | ok d =>
  rw [hf] at q
  dsimp only at q
  intro v H1 e1 w
  cases hb:bind d st with
  | none=>rw [hb] at q; exact q.elim
  | some st' =>
   rw [hb] at q
   exact hB σ H1 A st st' d v _ (r.mono e1) (w.le r e1 (κ':=.old) l) hb fun σ' A' r' e' _=>q σ' H1 A' r' ((q8 e1).trans e')
noncomputable def PStr (X:Cx) (P:L2.St -> Prop) (n:Nat) (e:Expr):Prop:=∀ (pins:List (Addr × Obj)) (s:Shared) (σ:L2.St) (H:Hp) (Q:Value -> Shared -> Prop) (Ex:Value -> Shared -> Prop),L2.Inv X pins σ H s -> P σ -> (∀ x t s',L2.Inv X pins σ H s' -> x.length <= n -> Q (.str x t) s') -> wpAny (model X.prog X.w) X.A (eval e X.env) Q Ex s
theorem jb9 {P:L2.St -> Prop} {x:Str} {j} {n:Nat} (h:x.length <= n:=by decide):PStr X P n (.Constant (.str x) j pos):=fun pins s σ H Q Ex I p q=>Calls.Constant_str (q _ _ _ (I.tok _) h)
theorem kj6 {P:L2.St -> Prop} {x:Str} {i:Int} {t:Tok} {n:Nat} {p:Pos} (hm:X.mg x = some (.int i t)) (hs:i.natAbs.log2 < 1920) (hl:(toString i:Str).length <= n) (hg:Gl X x:=by rfl) (hd:(x == ("__debug__" : Str)) = false:=by decide):PStr X P n (.FormattedValue (.Name x p) (-1) none pos):=fun pins s σ H Q Ex I pp q =>
 FormattedValue_plain (ji3 I hg hm (formatField_int_small hs (q _ _ _ (I.tok _) hl)) hd)
end
end Dm
end T_De8
section T_Tr
namespace Dm
open PySem PySem.Spec PyProof.Rows L2 PySem.W
noncomputable def PS0 (X:Cx) (st:Stmt) (t:TS):Prop:=∀ (s:Shared) (σ:L2.St) (H:Hp) (D:Ends),L2.Inv X [] σ H s -> t D σ H -> wpAny (model X.prog X.w) X.A (exec st X.env) (SP X [] D) X.xe s
noncomputable def PSs0 (X:Cx) (st:List Stmt) (t:TS):Prop:=∀ (s:Shared) (σ:L2.St) (H:Hp) (D:Ends),L2.Inv X [] σ H s -> t D σ H -> wpAny (model X.prog X.w) X.A (execs st X.env) (SP X [] D) X.xe s
theorem _root_.L2.PS.zero {X:Cx} {st:Stmt} {t:TS} (h:PS X st t):PS0 X st t:=fun s σ H D I q=>h [] s σ H D I q
theorem _root_.L2.PSs.zero {X:Cx} {st:List Stmt} {t:TS} (h:PSs X st t):PSs0 X st t:=fun s σ H D I q=>h [] s σ H D I q
noncomputable abbrev inH (X:Cx) (e:Value):Cx:={ X with A:=X.A.mark (some e),calm:=false,xe:=fun _ _=>False }
section
variable {X:Cx} {e:Value} {pins:List (Addr × Obj)} {σ:L2.St} {H:Hp} {s:Shared}
theorem qy6 (ok:X.Ok):(inH X e).Ok:=⟨ok.mod,ok.kind,ok.glob,ok.blt,ok.above,ok.inj,ok.has,ok.cab,fun z=>(nomatch z),ok.frames,ok.stk,ok.exf,ok.bs,ok.bsz,ok.noex,ok.exfs,ok.funs,ok.frf⟩
theorem kr2 (I:L2.Inv X pins σ H s):L2.Inv (inH X e) pins σ H s:=⟨qy6 I.ok,I.os,I.bare,I.base,I.loc,I.cell,I.free,I.freeC,I.pin,I.hok,I.len⟩
theorem qd0 (ok:X.Ok) (I:L2.Inv (inH X e) pins σ H s):L2.Inv X pins σ H s:=⟨ok,I.os,I.bare,I.base,I.loc,I.cell,I.free,I.freeC,I.pin,I.hok,I.len⟩
theorem qm0 {a:Addr} {cls a0:Value} {h B h2:Heap} {s':Shared} (I:L2.Inv X [] σ H { s' with heap:=h }) (cv:Cov X.stack B h) (up:h.UpToSlots h2) {φ:Heap -> Prop} (fl:Heap.FlyingW B X.stack a cls a0 h2) (hφ:φ h2) (hst:∀ h1 h2,φ h1 -> (∀ o,h1.get? a = some o -> h2.get? a = some o) -> φ h2) :
  H a = none /\ L2.Inv X [] σ (upd H a (.ext φ)) { s' with heap:=h2 }:=by
 refine x2_4 fl.first fun oe vs he hc hd _=>?_
 have fr:∀ b,b ∈ frs X.stack -> ∃ o,h.get? b = some o /\ ∀ vs,o.data ≠ .fields vs:=fun b hb=>(I.stack.mem hb).2
 have nh:h.get? a = none:=by
  cases hq:h.get? a with
  | none=>rfl
  | some o =>
   by_cases hf:a ∈ frs X.stack
   ·refine x1_2 (fr a hf) fun o' ho' hn=>?_
    obtain ⟨sl,e2⟩:=up a o' ho' hn
    rw [he] at e2; cases e2
    exact absurd hd (hn vs)
   ·have:=cv a o hq hf
    rw [fl.2.1] at this; cases this
 have nH:H a = none:=by
  cases hq:H a with
  | none=>rfl
  | some o =>
   have:=I.hok.lt hq
   have he':(∃ o,h.get? a = some o):=by
    have z:=(I.hok a o hq)
    cases o with
    | lst xs=>obtain ⟨_,_,_,_,e⟩:=z; exact ⟨_,e⟩
    | tup xs=>obtain ⟨_,_,_,o,e,_⟩:=z; exact ⟨_,e⟩
    | dK kvs=>obtain ⟨_,_,_,_,o,_,_,e,_⟩:=z; exact ⟨_,e⟩
    | dT kvs=>obtain ⟨_,_,_,_,o,_,_,e,_⟩:=z; exact ⟨_,e⟩
    | set S n=>obtain ⟨o,_,_,_,e,_⟩:=z; exact ⟨_,e⟩
    | ins C dx fs=>obtain ⟨_,_,_,e,_⟩:=z; exact ⟨_,e⟩
    | own y=>obtain ⟨_,e⟩:=z; exact ⟨_,e⟩
    | xd fs=>obtain ⟨_,⟨_,_,_,e,_⟩,_⟩:=z; exact ⟨_,e⟩
    | rng lo hi=>obtain ⟨_,_,_,e⟩:=z; exact ⟨_,e⟩
    | frz ob u=>obtain ⟨e,_⟩:=z; exact ⟨_,e⟩
    | tbl ps=>exact ⟨_,z⟩
    | met f y=>exact ⟨_,z⟩
    | ext φ=>obtain ⟨_,⟨_,e⟩,_⟩:=z; exact ⟨_,e⟩
   obtain ⟨o',ho'⟩:=he'
   rw [nh] at ho'; cases ho'
 have keep:∀ b o,h.get? b = some o -> b ∉ frs X.stack -> h2.get? b = some o:=fun b o e nf=>fl.1 b o (cv b o e nf)
 have nfr:∀ b o,H b = some o -> b ∉ frs X.stack:=fun b o e hb=>by rw [I.stkFree b hb] at e; cases e
 have hok:HOk X.prog X.w (upd H a (.ext φ)) h2:=fun b u e=>by
  by_cases hb:b = a
  ·subst hb
   rw [J1] at e; cases e
   exact ⟨hφ,⟨oe,he⟩,hst⟩
  ·rw [v7 hb] at e
   refine (I.hok b u e).stay (fun c v hc' q=>keep c v q ?_) (fun c q=>by rw [v7 (y1 q nH)]; exact q) fun c xs q=>by rw [v7 (y1 q nH)]; exact q
   rcases hc' with rfl | hc'
   ·exact nfr _ _ e
   ·exact nfr _ _ hc'
 refine ⟨nH,Inv.call' I (s':={ s' with heap:=h2 }) (ch:=[]) rfl ⟨fun b o e n nf nx=>keep b o e nf,fun b o e n hf nx=>?_,fun b o e n nx=>?_,fun b o e nx=>?_,fun b xs q=>by rw [v7 (y1 q nH)]; exact q,fun b o u q=>by rw [v7 (y1 q nH)]; exact q,fun b ps q=>⟨#[],by rw [v7 (y1 q nH),q]; simp⟩⟩ hok I.bare (fun b z=>absurd z (by simp))⟩
 ·refine x1_2 (fr b hf) fun o' ho' hn=>?_
  have e':h.get? b = some o:=e
  rw [ho'] at e'; cases e'
  exact up b _ ho' hn
 ·have:b ≠ a:=fun z=>by subst z; have e':h.get? b = some o:=e; rw [nh] at e'; cases e'
  rw [v7 this]; exact n
 ·by_cases hf:b ∈ frs X.stack
  ·refine x1_2 (fr b hf) fun o' ho' hn=>?_
   obtain ⟨sl,e2⟩:=up b o' ho' hn
   exact ⟨_,e2⟩
  ·exact ⟨o,keep b o e hf⟩
theorem gone {h':Heap} {m:Str -> Option Value} {t:Nat} (I:L2.Inv X [] σ H s) (hn:h'.Ns X.env.locals m) (hs:Heap.SameBut X.env.locals s.heap h'):L2.Inv X [] (List.replicate X.N.length none) H { s with heap:=h',toks:=t }:=by
 have cne:=I.cne
 have nl:∀ b o,H b = some o -> b ≠ X.env.locals:=fun b o e z=>by subst z; rw [I.free] at e; cases e
 refine ⟨I.ok,I.os,I.bare,⟨fun b o e n hb hx=>?_,fun b o e n hb hx=>?_,I.base.free,fun b o e hx=>?_,I.base.tups,I.base.frzs,I.base.tbls⟩,⟨m,hn,fun i x v e1 e2 e3=>?_⟩,fun y c e=>?_,I.free,I.freeC,fun p hp=>?_,fun b u e=>?_,by simp⟩
 ·exact (hs.2 b (Nat.ne_of_lt (Nat.lt_of_lt_of_le (Heap.lt_size e) I.ok.above))).trans (I.base.keep b o e n hb hx)
 ·obtain ⟨sl,e1⟩:=I.base.slot b o e n hb hx
  exact ⟨sl,(hs.2 b (Nat.ne_of_lt (Nat.lt_of_lt_of_le (Heap.lt_size e) I.ok.above))).trans e1⟩
 ·obtain ⟨o',e1⟩:=I.base.there b o e hx
  exact ⟨o',(hs.2 b (Nat.ne_of_lt (Nat.lt_of_lt_of_le (Heap.lt_size e) I.ok.above))).trans e1⟩
 ·rw [List.getElem?_replicate] at e2
  split at e2 <;> cases e2
 ·obtain ⟨w',z⟩:=I.cell y c e
  exact ⟨w',z.sameBut hs (cne y c e)⟩
 ·refine x0_5 (I.pin p hp) fun e n ne nf d=>?_
  exact ⟨(hs.2 p.1 ne).trans e,n,ne,nf,d⟩
 ·refine (I.hok b u e).stay (fun c v hc q=>(hs.2 c ?_).trans q) (fun _ q=>q) fun _ _ q=>q
  rcases hc with rfl | hc
  ·exact nl _ _ e
  ·exact nl _ _ hc
end
noncomputable def xTag (c:Addr):Nat:=c + 2
noncomputable def pay (p:Option Int):List D:=match p with | none=>[] | some n=>[.int n]
noncomputable def ObX (c:Addr) (p:Option Int) (H:Hp) (a:Addr):Prop:=match p with
 | none=>H a = some (.ext (ClsAt a (.ref c)))
 | some n=>∃ dx,H a = some (.ext (ClsX a c dx)) /\ H dx = some (.xd [("at",.int n)])
noncomputable def payV (p:Option Int):List V:=match p with | none=>[] | some n=>[.int n]
theorem qe3 {K:PySem.W.Frag} {C:Cfg} {H:Hp} (p:Option Int):Reps K C H (pay p) (payV p):=by
 cases p with
 | none=>exact .nil
 | some n=>exact .cons (by rw [Rep]) .nil
noncomputable def dTry (F:DS) (hit:Addr -> Bool) (j:Option Nat) (G:DS):DS:=fun st=>match F st with
 | .ex c p st'=>if hit c = true then (match G (match j with | some j=>st'.set j (some (.brd (xTag c) (pay p))) | none=>st') with | .rt d=>.rt d | _=>.bad) else .bad
 | o=>o
noncomputable def IsX (h:Heap) (Ch:Addr):Prop:=∃ nm q N bs bm hdct sn sub ab col dd k0 k1 k2 k3 k5 newId,h.get? Ch = some (excClassObj nm q Ch N bs bm hdct sn sub ab col dd k0 k1 k2 k3 k5 newId) /\ bm.contains (.type "BaseException") = true
theorem qr2 {M:Model} {A:Around} {E:Value -> Shared -> Prop} {s:Shared} {B:Heap} {l:List Env} {a L:Addr} {cls a0:Value} {dx:Option Addr} {Q:Unit -> Shared -> Prop} (hd:Heap.HeldW B l a cls a0 L s.heap) (xd:XD dx a s.heap)
  (hQ:∀ h',Heap.FlyingW B l a cls a0 h' -> s.heap.UpToSlots h' -> XD dx a h' -> Q () { s with heap:=h' }):wpAny M A (setFlight (.ref a) none) Q E s :=
 wpAny_mono (jq2 (Q:=fun u s1=>XD dx a s1.heap -> Q u s1) (E:=E) (ji1 _ _) (wpAny_landsW hd fun h' f u x=>hQ h' f u x) xd) (fun _ _ h=>h.1 h.2) fun _ _ h=>h.1
theorem qm2 {M:Model} {A:Around} {E:Value -> Shared -> Prop} {s:Shared} {B:Heap} {l:List Env} {a:Addr} {cls a0:Value} {dx:Option Addr} {Q:Unit -> Shared -> Prop} (hd:Heap.FlyingW B l a cls a0 s.heap) (xd:XD dx a s.heap)
  (hQ:∀ h',Heap.FlyingW B l a cls a0 h' -> s.heap.UpToSlots h' -> XD dx a h' -> Q () { s with heap:=h' }):wpAny M A (setFlight (.ref a) none) Q E s :=
 wpAny_mono (jq2 (Q:=fun u s1=>XD dx a s1.heap -> Q u s1) (E:=E) (ji1 _ _) (lands_againW hd fun h' f u x=>hQ h' f u x) xd) (fun _ _ h=>h.1 h.2) fun _ _ h=>h.1
section
variable {X:Cx} {C:Cfg} {G0:Hp} {Γ:List SK} {E E0:L2.St -> XK} {κr:Bool} {F G:DS} {pos np hpos:Pos}
theorem kt8 {s:Stmt} {ss:List Stmt} (h1:PS0 X s (tDS X.K C G0 Γ E κr F)) (h2:PSs0 X ss (tDS X.K C G0 Γ E κr G)):PSs0 X (s :: ss) (tDS X.K C G0 Γ E κr (dSeq F G)):=fun s0 σ H D I zz=>by
 refine x2_2 zz fun A st r q=>?_
 clear zz
 refine wpAny_execs_cons (thn (h1 s0 σ H { D with nx:=tDS X.K C G0 Γ E κr G D } I ⟨A,st,r,?_⟩) fun f s1 q1=>?_)
 ·unfold dSeq at q
  cases hf:F st with
  | nx st' =>
   rw [hf] at q
   intro σ' H' A' r' e'
   refine ⟨A',st',r',?_⟩
   dsimp only at q
   cases hg:G st' with
   | nx st2=>rw [hg] at q; exact fun σ2 H2 A2 r2 e2=>q σ2 H2 A2 r2 (e'.trans e2)
   | bk st2=>rw [hg] at q; exact fun σ2 H2 A2 r2 e2=>q σ2 H2 A2 r2 (e'.trans e2)
   | ct st2=>rw [hg] at q; exact fun σ2 H2 A2 r2 e2=>q σ2 H2 A2 r2 (e'.trans e2)
   | rt d=>rw [hg] at q; exact q
   | ex c p st2=>rw [hg] at q; exact fun σ2 H2 A2 r2 e2=>q σ2 H2 A2 r2 (e'.trans e2)
   | bad=>rw [hg] at q; exact q
  | bk st'=>rw [hf] at q; exact q
  | ct st'=>rw [hf] at q; exact q
  | rt d=>rw [hf] at q; exact q
  | ex c p st'=>rw [hf] at q; exact q
  | bad=>rw [hf] at q; exact q
 ·cases f with
  | next =>
   refine x2_2 q1 fun σ' H' I' q=>?_
   clear q1
   exact h2 s1 σ' H' D I' q
  | ret v=>exact q1
  | brk=>exact q1
  | cont=>exact q1
theorem qy5 {cn n:Str} {Ch:Addr} {j:Nat} {body suite:List Stmt} {b₀:Stmt} {hit:Addr -> Bool} (O:Own1 X) (hcalm:X.calm = true) (hN:X.N.Nodup) (hm:X.mg cn = some (.ref Ch)) (hE:∀ h,X.K.In h -> IsX h Ch)
  (hob:∀ (c:Addr) (p:Option Int) (K:Frag) (H:Hp) (a:Addr),ObX c p H a -> C.ob (xTag c) K H a (payV p)) (hhit:∀ c,hit c = true -> kitCls X.K (.ref c) (.ref Ch) = some true) (hk:Γ[j]? = some .par)
  (hb:∀ E,PSs (X.wish (Fly X E)) body (tDS X.K C G0 Γ E κr F)) (hG:∀ a,PSs (inH X (.ref a)) (b₀ :: suite) (tDS X.K C G0 Γ (fun _ _ _ _=>False) κr G))
  (hi:X.N[j]? = some n) (hl:X.env.scope.names.lookup n = some .local) (hg:Gl X cn) (hdb:(cn == ("__debug__" : Str)) = false:=by decide) :
  PS0 (X.wish (Fly X E0)) (.Try body [.ExceptHandler (some (.Name cn np)) (some n) (b₀ :: suite) hpos] [] [] pos) (tDS X.K C G0 Γ E0 κr (dTry F hit (some j) G)):=fun s σ H D I zz=>by
 refine x2_2 zz fun A st r q=>?_
 clear zz
 have ok:X.Ok:=I.ok.unwish
 let E1:L2.St -> XK:=fun σ' cls dx H'=>∃ c p st' A',F st = .ex c p st' /\ cls = .ref c /\ (∀ n,p = some n -> ∃ d,dx = some d /\ H' d = some (.xd [("at",.int n)])) /\ RS X.K C G0 Γ σ' H' A' st'
 have hbody:tDS X.K C G0 Γ E1 κr F { nx:=D.nx,rt:=D.rt,bk:=D.bk,ct:=D.ct } σ H:=by
  refine ⟨A,st,r,?_⟩
  unfold dTry at q
  cases hf:F st with
  | nx st'=>rw [hf] at q; exact q
  | bk st'=>rw [hf] at q; exact q
  | ct st'=>rw [hf] at q; exact q
  | rt d=>rw [hf] at q; exact q
  | bad=>rw [hf] at q; exact q
  | ex c p st' =>
   rw [hf] at q
   cases p with
   | some k=>exact fun σ' H' A' r' e' dx hdx=>⟨c,some k,st',A',hf,rfl,fun n z=>by cases z; exact ⟨dx,rfl,hdx⟩,r'⟩
   | none=>exact fun σ' H' A' r' e'=>⟨c,none,st',A',hf,rfl,fun n z=>(nomatch z),r'⟩
 refine wpAny_Try_except (wpAny_mono (hb E1 [] s σ H _ (I.unwish.wish _) hbody) (fun f s1 q1=>?_) fun ev s1 fly=>?_)
 ·have q1:SP (X.wish (Fly X E1)) [] D f s1:=q1
  have q2:SP (X.wish (Fly X E0)) [] D f s1:=by
   have:=SP.unwish q1
   cases f with
   | next=>obtain ⟨σ',H',I',z⟩:=this; exact ⟨σ',H',I'.wish _,z⟩
   | brk=>obtain ⟨σ',H',I',z⟩:=this; exact ⟨σ',H',I'.wish _,z⟩
   | cont=>obtain ⟨σ',H',I',z⟩:=this; exact ⟨σ',H',I'.wish _,z⟩
   | ret u=>obtain ⟨v,σ',H',I',r',z⟩:=this; exact ⟨v,σ',H',I'.wish _,r',z⟩
  cases f with
  | next=>exact wpAny_execs_nil q2
  | brk=>exact q2
  | cont=>exact q2
  | ret u=>exact q2
 ·refine jy4 (X:=X) O fly fun a cls dx a0 σ1 H1 h B h1 ea I1 e1 xd cv up hd=>?_
  subst ea
  refine qr2 hd xd fun h2 fl2 us2 xd2=>?_
  obtain ⟨c,p,st',A',hf,rfl,hp,r'⟩:=e1
  obtain ⟨φ,hst,hφ,hX⟩ : ∃ φ:Heap -> Prop,(∀ h1 h2,φ h1 -> (∀ o,h1.get? a = some o -> h2.get? a = some o) -> φ h2) /\ (∀ h',Heap.FlyingW B X.stack a (.ref c) a0 h' -> XD dx a h' -> φ h') /\ ∀ H':Hp,H' a = some (.ext φ) -> (∀ d fs,H1 d = some (.xd fs) -> H' d = some (.xd fs)) -> ObX c p H' a:=by
   cases p with
   | none =>
    refine ⟨ClsAt a (.ref c),fun h1 h2 ⟨o,h3,h4⟩ k=>⟨o,k o h3,h4⟩,fun h' f _=>f.there,fun H' z _=>z⟩
   | some n =>
    obtain ⟨d,rfl,hd⟩:=hp n rfl
    refine ⟨ClsX a c d,fun h1 h2 ⟨o,h3,h4⟩ k=>⟨o,k o h3,h4⟩,fun h' f x=>?_,fun H' z k=>⟨d,z,k d _ hd⟩⟩
    obtain ⟨oe,vs,g1,g2,g3,_⟩:=f.first
    obtain ⟨o,g4,g5⟩:=x d rfl
    rw [g1] at g4
    cases g4
    exact ⟨oe,g1,g2,g5,vs,g3⟩
  unfold dTry at q
  rw [hf] at q
  dsimp only at q
  by_cases hc:hit c = true
  ·rw [if_pos hc] at q
   have up2:=up.trans us2
   have In:L2.Inv X [] σ1 _ { s1 with heap:=h2 }:=(qm0 I1 cv up2 fl2 (hφ h2 fl2 xd2) hst).2
   obtain ⟨nm,qn,N,bs,tl,hdct,sn,sub,ab,col,dd,k0,k1,k2,k3,k5,newId,hC,hbE⟩:=hE X.base ok.mod.kin
   refine x1_2 fl2.there fun oe he hec=>?_
   have Ih:L2.Inv (inH X (.ref a)) [] σ1 _ { s1 with heap:=h2 }:=kr2 In
   refine wpAny_handleBy_cons (codeAny_handlers_test (ji3 Ih hg hm (ju7 Ih.kIn (In.bk _ _ hC) hbE he hec (hhit c hc) ?_) hdb)) (by intro z; cases z)
   dsimp only
   refine codeAny_handlers_suite_as ?_
   refine qm2 fl2 xd2 fun h3 fl3 us3 xd3=>?_
   obtain ⟨nH,In3⟩:=qm0 I1 cv (up2.trans us3) fl3 (hφ h3 fl3 xd3) hst
   have r3:RS X.K C G0 Γ σ1 (upd H1 a (.ext φ)) A' st':=r'.mono (Z7 nH)
   have aA:a ∉ A':=fun m=>by obtain ⟨xs,z⟩:=r'.lists a m; rw [nH] at z; cases z
   have w:Val X.K C .old G0 A' (upd H1 a (.ext φ)) (upd H1 a (.ext φ)) (.brd (xTag c) (pay p)) (.ref a):=by
    show Rep X.K C (er _ A') _ _
    rw [Rep]
    refine ⟨a,payV p,rfl,hob c p _ _ a (hX _ (by rw [v8 aA]; exact J1) fun d fs z=>?_),qe3 p⟩
    have da:d ≠ a:=fun w=>by rw [w,nH] at z; cases z
    rw [v8 (fun m=>by obtain ⟨xs,y⟩:=r'.lists d m; rw [z] at y; cases y),v7 da]
    exact z
   refine x1_3 (r3.set (.refl _) hk rfl w) fun A4 r4 e4 _=>?_
   refine jm1 (v:=.ref a) In3 hN hi (.inl hl) rfl (fun s4 I4=>?_) (.inr hl)
   have hsuite:tDS X.K C G0 Γ (fun _ _ _ _=>False) κr G { nx:=fun _ _=>False,rt:=D.rt } (σ1.set j (some (.ref a))) (upd H1 a (.ext φ)):=by
    refine ⟨A4,_,r4,?_⟩
    cases hgG:G (st'.set j (some (.brd (xTag c) (pay p)))) with
    | rt d=>rw [hgG] at q; exact q
    | nx st5=>rw [hgG] at q; exact q.elim
    | bk st5=>rw [hgG] at q; exact q.elim
    | ct st5=>rw [hgG] at q; exact q.elim
    | ex c p st5=>rw [hgG] at q; exact q.elim
    | bad=>rw [hgG] at q; exact q.elim
   refine wpAny_mono (hG a [] s4 _ _ _ (kr2 I4) hsuite) (fun f s5 q5=>?_) fun x s5 z=>False.elim z
   cases f with
   | next=>obtain ⟨_,_,_,z⟩:=q5; exact z.elim
   | brk=>obtain ⟨_,_,_,z⟩:=q5; exact z.elim
   | cont=>obtain ⟨_,_,_,z⟩:=q5; exact z.elim
   | ret u =>
    refine x3_3 q5 fun v σ5 H5 I5 r5 z=>?_
    clear q5
    dsimp only
    have I5':=qd0 ok I5
    refine x1_2 I5'.loc fun m hn _=>?_
    refine wpAny_nameGoes hl hn (by rw [ok.kind]; rfl) fun h6 m6 hn6 hs6=>?_
    exact ⟨v,_,H5,(gone I5' hn6 hs6).wish _,r5,z⟩
  ·rw [if_neg hc] at q; exact q.elim
end
end Dm
end T_Tr
section T_Lc
namespace Dm
open PySem PySem.Spec PyProof.Rows L2
noncomputable abbrev cCx (X:Cx) (scope:Scope) (cl:List (Str × Addr)) (N':List Str) (fp:List Addr) (s:Shared) (H:Hp) (L:Addr):Cx :=
 { X with N:=N',s₀:=s,H₀:=H,env:=compEnvC scope cl L X.env,outer:=X.stack,ex:=fp,fn:=fun _=>false,pn:=[],xe:=fun _ _=>False }
noncomputable def Cap (X:Cx) (scope:Scope) (cl:List (Str × Addr)):List (Nat × Str) -> Prop
 | []=>True
 | (i,x) :: r=>(X.N[i]? = some x /\ X.env.kindOf x = some .cell /\ cl.lookup x = X.env.cells.lookup x /\ (relabel scope X.env).names.lookup x = some .cell) /\ Cap X scope cl r
theorem Cap.get {X:Cx} {scope:Scope} {cl:List (Str × Addr)}:∀ {l:List (Nat × Str)} {p:Nat × Str},Cap X scope cl l -> p ∈ l -> X.N[p.1]? = some p.2 /\ X.env.kindOf p.2 = some .cell /\ cl.lookup p.2 = X.env.cells.lookup p.2 /\ (relabel scope X.env).names.lookup p.2 = some .cell
 | _ :: _,_,h,.head _=>h.1
 | _ :: _,_,h,.tail _ m=>h.2.get m
section
variable {X:Cx} {pins:List (Addr × Obj)} {σ:L2.St} {H:Hp} {s:Shared} {scope:Scope} {cl:List (Str × Addr)} {N':List Str} {fp:List Addr} {L:Addr}
theorem qy2 (I:L2.Inv X pins σ H s) (hk:scope.kind = .function) (hL:s.heap.objs.size <= L) (hcl:∀ x c,cl.lookup x = some c -> X.env.cells.lookup x = some c) (hhas:∀ x,((relabel scope X.env).names.lookup x = some .cell \/ (relabel scope X.env).names.lookup x = some .free) -> ∃ c,cl.lookup x = some c)
  (hf:∀ b ∈ fp,FpOk X pins H b) (hfs:∀ b ∈ fp,b < s.heap.objs.size):(cCx X scope cl N' fp s H L).Ok where
 mod:=I.ok.mod
 kind:=hk
 glob:=I.ok.glob
 blt:=I.ok.blt
 above:=hL
 inj:=fun x y c h1 h2=>I.ok.inj x y c (hcl _ _ h1) (hcl _ _ h2)
 has:=hhas
 cab:=fun x c z=>(nomatch z)
 hd:=I.ok.hd
 frames:=I.ok.frames
 stk:=.inl rfl
 exf:=fun b hb=>⟨Nat.ne_of_lt (Nat.lt_of_lt_of_le (hfs b hb) hL),fun x c h=>(hf b hb).2.2.2.2.1 x c (hcl _ _ h)⟩
 bs:=I.bs
 bsz:=Nat.le_trans I.ok.bsz I.sz
 noex:=fun b o e hb=>by
  rcases (hf b hb).2.2.2.1 with z | z
  ·exact I.ok.noex b o e z
  ·exact absurd (Nat.lt_of_lt_of_le (Heap.lt_size e) (Nat.le_trans I.ok.bsz z)) (Nat.lt_irrefl _)
 exfs:=fun b hb z=>by
  rcases List.mem_cons.mp (I.stkSub b z) with e | e
  ·exact (hf b hb).2.1 e
  ·exact (hf b hb).2.2.1 e
 funs:=I.stack
 frf:=I.stkFree
noncomputable def inσ {α:Type} (k:Nat) (fr:List Nat) (σ:List (Option α)):List (Option α):=List.replicate k none ++ fr.map fun i=>(σ[i]?).join
theorem ks3 {α:Type} {k:Nat} {fr:List Nat} {σ:List (Option α)} {j:Nat} {v:α} (h:(inσ k fr σ)[j]? = some (some v)):∃ i,k <= j /\ fr[j - k]? = some i /\ σ[i]? = some (some v):=by
 unfold inσ at h
 by_cases hj:j < k
 ·rw [List.getElem?_append_left (by simpa using hj),List.getElem?_replicate,if_pos hj] at h; cases h
 ·rw [List.getElem?_append_right (by simpa using Nat.le_of_not_lt hj),List.length_replicate,List.getElem?_map] at h
  cases hi:fr[j - k]? with
  | none=>rw [hi] at h; cases h
  | some i =>
   rw [hi] at h
   have h':(σ[i]?).join = some v:=Option.some.inj h
   refine ⟨i,Nat.le_of_not_lt hj,rfl,?_⟩
   cases hs:σ[i]? with
   | none=>rw [hs] at h'; cases h'
   | some o=>rw [hs] at h'; rw [show o = some v from h']
theorem qr5 {α:Type} {k:Nat} {fr:List Nat} {σ:List (Option α)} {j i:Nat} {v:α} (hj:k <= j) (hi:fr[j - k]? = some i) (h:σ[i]? = some (some v)):(inσ k fr σ)[j]? = some (some v):=by
 unfold inσ
 rw [List.getElem?_append_right (by simpa using hj),List.length_replicate,List.getElem?_map,hi]
 show some ((σ[i]?).join) = _
 rw [h]; rfl
theorem qq0 {s1:Shared} {H1:Hp} {tgs:List Str} {caps:List (Nat × Str)} {m:Str -> Option Value} (I:L2.Inv X pins σ H s) (ok:(cCx X scope cl (tgs ++ caps.map (·.2)) fp s H L).Ok) (hcap:Cap X scope cl caps) (hcl:∀ x c,cl.lookup x = some c -> X.env.cells.lookup x = some c)
  (ho:s1.os = s.os) (hb:AllBare s1.gens) (un:Un (frs X.stack) fp H H1 s.heap s1.heap) (kc:∀ b o,s.heap.get? b = some o -> s1.heap.get? b = some o) (hn:s1.heap.Ns L m) (hL:H1 L = none) (hfree:∀ x c,cl.lookup x = some c -> H1 c = none) (hok:HOk X.prog X.w H1 s1.heap) :
  L2.Inv (cCx X scope cl (tgs ++ caps.map (·.2)) fp s H L) [] (inσ tgs.length (caps.map (·.1)) σ) H1 s1:=by
 refine ⟨ok,ho,hb,un,⟨m,hn,fun j x v h1 h2 h3=>?_⟩,fun x c h=>?_,hL,hfree,fun p hp=>(by cases hp),hok,(by unfold inσ; simp)⟩
 ·refine x1_3 (ks3 h2) fun i hj hi hs=>?_
  rw [List.getElem?_append_right hj,List.getElem?_map] at h1
  rw [List.getElem?_map] at hi
  cases hc:caps[j - tgs.length]? with
  | none=>rw [hc] at h1; cases h1
  | some p =>
   rw [hc] at h1 hi
   cases h1; cases hi
   refine x0_4 (hcap.get (List.mem_of_getElem? hc)) fun c1 c2 c3 c4=>?_
   refine x1_2 I.loc fun m0 hn0 hl0=>?_
   refine x1_2 (hl0 p.1 p.2 v c1 hs (.inr (.inl c2))) fun u ru lk=>?_
   refine ⟨u,ru,.inr ⟨.inl c4,?_⟩⟩
   rcases lk with ⟨z,_⟩ | ⟨_,c,e1,e2⟩
   ·rw [c2] at z; cases z
   ·refine x1_2 e2 fun o e3 e4=>?_
    clear e2
    exact ⟨c,c3.trans e1,o,kc _ _ e3,e4⟩
 ·obtain ⟨v,q⟩:=I.cell x c (hcl _ _ h)
  refine x1_2 q fun o e3 e4=>?_
  clear q
  exact ⟨v,o,kc _ _ e3,e4⟩
end
end Dm
end T_Lc
section T_Lc2
namespace Dm
open PySem PySem.Spec PyProof.Rows L2
noncomputable abbrev Eno:L2.St -> XK:=fun _ _ _ _=>False
theorem jz8 {X:Cx} {e:Value} {s:Shared} (h:Fly X Eno e s):False:=by
 obtain ⟨_,_,_,_,_,_,_,_,q,_⟩:=h
 exact q
noncomputable def jd7 (bind:DB) (test elt:DF):List D -> DSt -> R (List D)
 | [],_=>.ok []
 | d :: ds,st=>match bind d st with
  | none=>.bad
  | some st1=>match test st1 with
   | .ok (.bl true)=>(match elt st1 with
    | .ok e=>(match jd7 bind test elt ds st1 with | .ok r=>.ok (e :: r) | _=>.bad)
    | _=>.bad)
   | .ok (.bl false)=>jd7 bind test elt ds st1
   | _=>.bad
noncomputable def kj5 (Γ:List SK):Prop:=∀ (i:Nat) (k:SK),Γ[i]? = some k -> k = SK.par
section
variable {K:PySem.W.Frag} {C:Cfg} {G0:Hp} {Γ:List SK} {σ:L2.St} {H H':Hp} {A B:List Addr} {st:DSt}
theorem kr1 {A B:List Addr} (h:∀ a ∈ B,a ∈ A):Same (er H A) (er H B):=fun b o e=>by
 by_cases ha:b ∈ A
 ·rw [jc4 ha] at e; cases e
 ·rw [v8 ha] at e
  rw [v8 fun z=>ha (h b z)]; exact e
theorem RS.fewer (r:RS K C G0 Γ σ H A st) (hΓ:kj5 Γ) (sub:∀ a ∈ B,a ∈ A):RS K C G0 Γ σ H B st where
 base:=r.base.trans (kr1 sub)
 lists:=fun a m=>r.lists a (sub a m)
 len:=r.len
 slot:=fun i d h=>by
  refine x2_3 (r.slot i d h) fun k v h1 h2 h3=>?_
  obtain rfl:=hΓ i k h1
  exact ⟨.par,v,h1,h2,Rep.same (kr1 sub) _ h3⟩
 apart:=fun i j n m p ds es hij g1=>by have:=hΓ i _ g1; cases this
theorem RS.accUpd (r:RS K C G0 Γ σ H A st) (hΓ:kj5 Γ) {a:Addr} {ys:List V} (ha:a ∈ A):RS K C G0 Γ σ (upd H a (.lst ys)) A st:=by
 have ee:er (upd H a (.lst ys)) A = er H A:=by
  funext b
  by_cases mb:b ∈ A
  ·rw [jc4 mb,jc4 mb]
  ·rw [v8 mb,v8 mb,v7 (fun z:b = a=>mb (by rw [z]; exact ha))]
 refine ⟨by rw [ee]; exact r.base,fun b m=>?_,r.len,fun i d h=>?_,fun i j n m p ds es hij g1=>by have:=hΓ i _ g1; cases this⟩
 ·by_cases hb:b = a
  ·subst hb; exact ⟨ys,J1⟩
  ·rw [v7 hb]; exact r.lists b m
 ·refine x2_3 (r.slot i d h) fun k v h1 h2 h3=>?_
  obtain rfl:=hΓ i k h1
  exact ⟨.par,v,h1,h2,by show Rep K C (er _ A) d v; rw [ee]; exact h3⟩
end
noncomputable def part (n:Bool) (H2:Hp) (acc:Addr) (B:List Addr) (H:Hp):Hp:=if n = true then nw H2 (er H [acc]) else er H (acc :: B)
theorem kc5 {n:Bool} {H2 H H':Hp} {acc:Addr} {B:List Addr} (e:Same H H'):Same (part n H2 acc B H) (part n H2 acc B H'):=by
 unfold part; cases n
 ·exact q8 e
 ·exact Q1 (q8 e)
theorem qh5 {n:Bool} {H2 H:Hp} {acc:Addr} {B:List Addr} {o:HO}:part n H2 acc B (upd H acc o) = part n H2 acc B H:=by
 have e:∀ A:List Addr,acc ∈ A -> er (upd H acc o) A = er H A:=fun A m=>by
  funext b
  by_cases mb:b ∈ A
  ·rw [jc4 mb,jc4 mb]
  ·rw [v8 mb,v8 mb,v7 (fun z:b = acc=>mb (by rw [z]; exact m))]
 unfold part
 rw [e [acc] (.head _),e (acc :: B) (.head _)]
theorem qa0 {X:Cx} {ft:DF} {C:Cfg} {G0:Hp} {Γ:List SK} {E:L2.St -> XK}:∀ (pins:List (Addr × Obj)) (s:Shared) (σ:L2.St) (H:Hp) (Q:Bool -> Hp -> Prop),L2.Inv X pins σ H s -> tDT X.K C G0 Γ E (dC (.bl true)) σ H Q ->
  wpAny (model X.prog X.w) X.A (forIn ([]:List Expr) true fun c r=>if r = true then do let ok <- isTrue c X.env (eval c X.env); pure (ForInStep.yield ok) else pure (ForInStep.yield r)) (TP X pins σ Q) X.xe s:=fun pins s σ H Q I zz1=>zz1.elim fun A zz2=>zz2.elim fun st zz3=>zz3.elim fun r q=>wpAny_tests_nil ⟨H,I,q H (.refl _)⟩
theorem js7 {X:Cx} {c:Expr} {ft:DF} {C:Cfg} {G0:Hp} {Γ:List SK} {E:L2.St -> XK} (h:PT X c (tDT X.K C G0 Γ E ft)):∀ (pins:List (Addr × Obj)) (s:Shared) (σ:L2.St) (H:Hp) (Q:Bool -> Hp -> Prop),L2.Inv X pins σ H s -> tDT X.K C G0 Γ E ft σ H Q ->
  wpAny (model X.prog X.w) X.A (forIn [c] true fun c r=>if r = true then do let ok <- isTrue c X.env (eval c X.env); pure (ForInStep.yield ok) else pure (ForInStep.yield r)) (TP X pins σ Q) X.xe s:=fun pins s σ H Q I q=>wpAny_tests_one (h pins s σ H Q I q)
section
variable {X:Cx} {C:Cfg} {G0:Hp} {Γ:List SK} {tg iter elt:Expr} {ifs:List Expr} {scope:Scope} {pos:Pos} {fp:List Addr} {it acc:Addr} {tn:Nat -> Heap -> Prop} {J:It} {g:TG} {bind:DB} {ft fe:DF} {κe:Kd} {n:Bool} {H2:Hp} {B:List Addr} {ds total:List D} {R:Result -> Shared -> Prop}
noncomputable def kd7 (X:Cx) (C:Cfg) (G0:Hp) (Γ:List SK) (acc:Addr) (bind:DB) (ft fe:DF) (n:Bool) (H2:Hp) (B:List Addr) (ds total:List D) (i:Nat) (s:Shared) (σ:L2.St) (H:Hp):Prop :=
 ∃ st ys es,L2.Inv X [] σ H s /\ H acc = some (.lst ys) /\ RS X.K C G0 Γ σ H (acc :: B) st /\ Same H2 (er H [acc]) /\ Reps X.K C (part n H2 acc B H) es ys /\ es.length <= i /\
  ∃ rest,jd7 bind ft fe (ds.drop i) st = .ok rest /\ es ++ rest = total
theorem kv8 (T:Turn X.prog X.w X.K tg J fp it tn) (hcalm:X.calm = true) (hfp:∀ b ∈ fp,b ∈ X.ex /\ b ≠ X.env.locals /\ b ∉ X.fs /\ (∀ x c,X.env.cells.lookup x = some c -> c ≠ b)) (hpn:X.pn = []) (hΓ:kj5 Γ) (hJ:ItOk X.K C B H2 J ds) (hB:jv4 X.K C G0 Γ g bind) (hG:PG (X.wish (Fly X Eno)) tg g)
  (hT:∀ (pins:List (Addr × Obj)) (s:Shared) (σ:L2.St) (H:Hp) (Q:Bool -> Hp -> Prop),L2.Inv (X.wish (Fly X Eno)) pins σ H s -> tDT X.K C G0 Γ Eno ft σ H Q ->
   wpAny (model X.prog X.w) X.A (forIn ifs true fun c r=>if r = true then do let ok <- isTrue c X.env (eval c X.env); pure (ForInStep.yield ok) else pure (ForInStep.yield r)) (TP (X.wish (Fly X Eno)) pins σ Q) (Fly X Eno) s)
  (hE:PE (X.wish (Fly X Eno)) elt (tD X.K C G0 Γ Eno fe κe)) (hn:n = true -> κe = .new) (hn':n = false -> κe.le .old = true) (hacc:H2 acc = none) (few:ds.length <= 1000)
  (fin:∀ s σ H,kd7 X C G0 Γ acc bind ft fe n H2 B ds total ds.length s σ H -> R (.ok .next) s) :
  ∀ s σ H,kd7 X C G0 Γ acc bind ft fe n H2 B ds total 0 s σ H -> tn 0 s.heap -> (∀ b ∈ fp,H b = none) -> codeAny (model X.prog X.w) X.A (.compLoop (.ListComp elt [⟨tg,iter,ifs,0⟩] scope pos) 0 (.ref it) (.ref acc) X.env) R s:=fun s0 σ0 H0 h0 t0 f0=>by
 refine codeAny_loop rfl (fun m s=>∃ i σ H,m = ds.length - i /\ i <= ds.length /\ kd7 X C G0 Γ acc bind ft fe n H2 B ds total i s σ H /\ tn i s.heap /\ ∀ b ∈ fp,H b = none) (fun m s zz4=>?_) ds.length ⟨0,σ0,H0,rfl,Nat.zero_le _,h0,t0,f0⟩
 refine x3_5 zz4 fun i σ H hm hi iv htn hfn=>?_
 clear zz4
 subst hm
 show wpAny _ X.A ((compTurn (.ListComp elt [⟨tg,iter,ifs,0⟩] scope pos) 0 (.ref it) (.ref acc) X.env).onRaise (fun x=>do noteFrame x X.env; theTreesLotGoes x)) _ _ s
 refine wpAny_noted ?_
 rw [compTurn_list]
 obtain ⟨st,ys,es,I,hH,r,e2,rp,hl,rest,hgo,htot⟩:=id iv
 have fpok:∀ {H':Hp},(∀ b ∈ fp,H' b = none) -> ∀ b ∈ fp,FpOk X [] H' b:=fun hn b hb=>⟨hn b hb,(hfp b hb).2.1,(hfp b hb).2.2.1,.inl (hfp b hb).1,(hfp b hb).2.2.2,fun p hp=>by rw [hpn] at hp; cases hp⟩
 have hJi:=hJ i H (acc :: B) (fun b o e=>by
  by_cases hb:b ∈ B
  ·rw [jc4 hb] at e; cases e
  ·rw [v8 hb] at e
   have z:=e2 b o e
   by_cases ha:b = acc
   ·subst ha; rw [hacc] at e; cases e
   ·rw [v8 (by simpa using ha)] at z
    rw [v8 (by simp [ha,hb])]; exact z) (fun a m=>by obtain ⟨xs,q⟩:=r.lists a m; rw [q]; simp)
 cases hd:ds[i]? with
 | none =>
  have hge:=List.getElem?_eq_none_iff.mp hd
  obtain rfl:i = ds.length:=Nat.le_antisymm hi hge
  refine wpAny_bind (wpAny_standAt (wpAny_bind (wpAny_mono (T.done X rfl rfl rfl hcalm _ [] s σ H _ I (fpok hfn) htn (hJi.2 hd)) (fun rr s1 zz5=>?_) fun _ _ h=>h)))
  obtain ⟨hr,I1⟩:=zz5
  subst hr
  exact wpAny_pure (fin s1 σ H ⟨st,ys,es,I1,hH,r,e2,rp,hl,rest,hgo,htot⟩)
 | some d =>
  have hlt:i < ds.length:=(List.getElem?_eq_some_iff.mp hd).1
  have hdr:ds.drop i = d :: ds.drop (i + 1):=by
   rw [List.drop_eq_getElem_cons hlt]
   congr 1
   exact (List.getElem?_eq_some_iff.mp hd).2
  rw [hdr,jd7] at hgo
  obtain ⟨go,yl⟩:=hJi.1 d hd
  refine wpAny_bind (wpAny_standAt (wpAny_bind (wpAny_mono (T.item X rfl rfl rfl hcalm i [] s σ H _ I (fpok hfn) htn go) (fun rr s1 zz6=>?_) fun _ _ h=>h)))
  refine x1_2 zz6 fun u hr h1=>?_
  clear zz6
  subst hr
  refine wpAny_bind (wpAny_mono h1 (fun _ s3 zz7=>?_) fun _ _ h=>h)
  refine x2_5 zz7 fun x H3 I3 rx hy tn3 fn3=>?_
  clear zz7
  obtain ⟨e3,wx⟩:=yl x H3 hy
  have I3p:=I3.pinned (fpok fn3) (T.obj _ _ tn3)
  cases hb:bind d st with
  | none=>rw [hb] at hgo; cases hgo
  | some st1 =>
   rw [hb] at hgo
   dsimp only at hgo
   have r3:=r.mono e3
   refine wpAny_bind (wpAny_mono (hG _ s3 σ H3 x u (fun σ4 H4=>H4 = H3 /\ ∃ A4,RS X.K C G0 Γ σ4 H3 A4 st1 /\ ∀ a ∈ acc :: B,a ∈ A4) (I3p.wish _) rx (hB σ H3 (acc :: B) st st1 d x _ r3 wx hb fun σ4 A4 r4 _ sb=>⟨rfl,A4,r4,sb⟩)) (fun _ s4 zz8=>?_) fun _ _ h=>(jz8 h).elim)
   obtain ⟨σ4,H4,I4,hH4,A4,r4,sb⟩:=zz8
   subst hH4
   have r4':=r4.fewer hΓ sb
   have hH3:H4 acc = some (.lst ys):=e3 _ _ hH
   have again:∀ {s9:Shared} {σ9:L2.St} {H9:Hp},L2.Inv X ([] ++ kf3 fp s3.heap) σ9 H9 s9 -> kd7 X C G0 Γ acc bind ft fe n H2 B ds total (i + 1) s9 σ9 H9 -> ∃ m,m < ds.length - i /\ ∃ i' σ' H',m = ds.length - i' /\ i' <= ds.length /\ kd7 X C G0 Γ acc bind ft fe n H2 B ds total i' s9 σ' H' /\ tn i' s9.heap /\ ∀ b ∈ fp,H' b = none:=fun {s9 σ9 H9} I9 c9=>by
    refine ⟨ds.length - (i + 1),by lia,i + 1,σ9,H9,rfl,hlt,c9,T.keep _ _ _ tn3 fun b hb o e=>(I9.pin (b,o) (List.mem_append_right _ (List.mem_append_right _ (jk2 hb e)))).1,fun b hb=>?_⟩
    refine x1_2 (T.obj _ _ tn3 b hb) fun o e _=>?_
    exact (I9.pin (b,o) (List.mem_append_right _ (List.mem_append_right _ (jk2 hb e)))).2.1
   have ep:Same H2 (er H4 [acc]):=e2.trans (q8 e3)
   refine wpAny_bind (wpAny_mono (hT _ s4 σ4 H4 (fun b H5=>Same H4 H5 /\ ft st1 = .ok (.bl b)) I4 ⟨acc :: B,st1,r4',?_⟩) (fun ok s5 zz9=>zz9.elim fun H5 zz10=>zz10.elim fun I5 zz11=>zz11.elim fun e5 hok=>?_) fun _ _ h=>(jz8 h).elim)
   ·cases hf:ft st1 with
    | bad=>rw [hf] at hgo; cases hgo
    | ex c p=>rw [hf] at hgo; cases hgo
    | ok t =>
     rw [hf] at hgo
     cases t with
     | bl b=>exact fun H' e'=>⟨e',rfl⟩
     | _=>cases hgo
   ·rw [hok] at hgo
    have ep5:=ep.trans (q8 e5)
    cases ok with
    | false =>
     dsimp only at hgo
     exact wpAny_pure ⟨rfl,again I5.unwish ⟨st1,ys,es,(I5.unwish).pins_of (fun p hp=>by cases hp),e5 _ _ hH3,r4'.mono e5,ep5,rp.same (kc5 (e3.trans e5)) _,by lia,rest,hgo,htot⟩⟩
    | true =>
     dsimp only at hgo
     cases hfe:fe st1 with
     | bad=>rw [hfe] at hgo; cases hgo
     | ex c p=>rw [hfe] at hgo; cases hgo
     | ok de =>
      rw [hfe] at hgo
      dsimp only at hgo
      refine wpAny_bind (wpAny_bind (wpAny_mono (hE _ s5 σ4 H5 (fun v H6=>Same H5 H6 /\ Val X.K C κe G0 (acc :: B) H5 H6 de v) I5 ⟨acc :: B,st1,r4'.mono e5,?_⟩) (fun ue s6 zz12=>zz12.elim fun v zz13=>zz13.elim fun H6 zz14=>zz14.elim fun I6 zz15=>zz15.elim fun rv zz16=>zz16.elim fun e6 wv=>?_) fun _ _ h=>(jz8 h).elim))
      ·rw [hfe]; exact fun v H' e' w=>⟨e',w⟩
      ·have e56:=e5.trans e6
       have hH6:H6 acc = some (.lst ys):=e56 _ _ hH3
       have wp:Rep X.K C (part n H2 acc B H6) de v:=by
        cases n with
        | true =>
         obtain rfl:=hn rfl
         refine wv.1.same (fun b o z=>?_) _
         unfold nw at z
         split at z
         ·rename_i kk
          have hb:b ≠ acc:=fun w=>by subst w; rw [e5 _ _ hH3] at kk; cases kk
          show nw H2 (er H6 [acc]) b = _
          unfold nw
          rw [if_pos (jo1 (ep5.trans (v4 _ _)) kk),v8 (by simpa using hb)]
          exact z
         ·cases z
        | false=>exact Val.le (r4'.mono e5) e6 (κ':=.old) (hn' rfl) wv
       refine wpAny_bind (wpAny_mono (je0 (X:=X.wish (Fly X Eno)) _ s6 σ4 H6 (.ref acc) [v] (.ref acc) [ue] (fun z H7=>H7 = upd H6 acc (.lst (ys ++ [v]))) I6 rfl (.cons rv .nil) ⟨acc,ys,v,rfl,rfl,hH6,?_,rfl⟩) (fun _ s7 zz17=>zz17.elim fun z zz18=>zz18.elim fun H7 zz19=>zz19.elim fun I7w zz20=>zz20.elim fun _ hH7=>?_) fun _ _ h=>(jz8 h).elim)
       ·rw [rp.len]
        have:1001 <= sizeLine:=by rw [sizeLine_eq]; decide
        lia
       ·subst hH7
        have I7:=I7w.unwish
        refine wpAny_pure (wpAny_pure ⟨rfl,again I7 ?_⟩)
        cases hgr:jd7 bind ft fe (ds.drop (i + 1)) st1 with
        | bad=>rw [hgr] at hgo; cases hgo
        | ex c p=>rw [hgr] at hgo; cases hgo
        | ok rest2 =>
         rw [hgr] at hgo
         cases hgo
         refine ⟨st1,ys ++ [v],es ++ [de],I7.pins_of (fun p hp=>by cases hp),J1,((r4'.mono e56)).accUpd hΓ (.head _),?_,?_,by simp; lia,rest2,hgr,by simpa using htot⟩
         ·have:er (upd H6 acc (.lst (ys ++ [v]))) [acc] = er H6 [acc]:=by
           funext b
           by_cases mb:b ∈ [acc]
           ·rw [jc4 mb,jc4 mb]
           ·rw [v8 mb,v8 mb,v7 (by simpa using mb)]
          rw [this]
          exact ep.trans (q8 e56)
         ·rw [qh5]
          exact (rp.same (kc5 (e3.trans e56)) _).app (.cons wp .nil)
end
end Dm
end T_Lc2
section T_Lc3
namespace Dm
open PySem PySem.Spec PyProof.Rows L2
noncomputable def zB (z:Bool) (A:List Addr):List Addr:=if z = true then A else []
noncomputable def tDI (K:PySem.W.Frag) (C:Cfg) (G0:Hp) (Γ:List SK) (E:L2.St -> XK) (z:Bool) (gi:DI):TI:=fun σ H Rr=>∃ A st,RS K C G0 Γ σ H A st /\ match gi st with
 | .ok ds=>∀ J H',Same H H' -> ItOk K C (zB z A) H' J ds -> Rr J H'
 | .ex c p=>∀ H',Same H H' -> exP (E σ) c p H'
 | .bad=>False
theorem _root_.L2.PI.imp {X:Cx} {tg e:Expr} {t t':TI} (h:PI X tg e t) (i:∀ σ H Q,t' σ H Q -> t σ H Q):PI X tg e t':=fun pins s σ H Q I q=>h pins s σ H Q I (i σ H Q q)
section
variable {X:Cx} {C:Cfg} {G0:Hp} {Γ:List SK} {E:L2.St -> XK} {tg iter elt a:Expr} {f:DF} {fs:DA} {κ:Kd} {pos:Pos} {z:Bool}
theorem qk5 {A:List Addr}:∀ a ∈ zB z A,a ∈ A:=fun a h=>by unfold zB at h; cases z with | true=>exact h | false=>cases h
theorem kg9 (he:PE X iter (tD X.K C G0 Γ E f κ)) (l:z = true -> κ.le .old = true):PI X tg iter (tDI X.K C G0 Γ E z (iLst f)):=(ku2 he).imp fun σ H Q zz=>by
 refine x2_2 zz fun A st r q=>?_
 clear zz
 refine ⟨A,st,r,?_⟩
 unfold iLst at q
 cases hf:f st with
 | bad=>rw [hf] at q; exact q
 | ex c p=>rw [hf] at q; exact q
 | ok d =>
  rw [hf] at q
  cases d with
  | lst ds =>
   dsimp only at q
   intro v H1 e1 w
   have w':Rep X.K C (er H1 (zB z A)) (.lst ds) v:=by
    unfold zB
    cases z with
    | true=>exact w.le r e1 (κ':=.old) (l rfl)
    | false=>rw [if_neg (by decide),jr9]; exact w.rep
   rw [Rep] at w'
   refine x2_3 w' fun a xs zo2 h2 h3=>?_
   clear w'
   obtain rfl:=zo2
   refine ⟨a,rfl,⟨xs,(v4 _ _).seq h2⟩,q _ _ e1 fun i H3 A3 e3 _=>⟨fun d hd=>?_,fun hd=>?_⟩⟩
   ·refine x1_2 (h3.get' hd) fun v hv rv=>?_
    have s3:SqL X.K H3 a xs:=(e3.trans (v4 _ _)).seq h2
    refine ⟨⟨xs,v,s3,hv⟩,fun x H' zz1=>?_⟩
    obtain ⟨hH,hx⟩:=zz1
    subst hH
    have:=hx xs s3
    rw [hv] at this; cases this
    exact ⟨.refl _,rv.same ((v4 _ _).trans e3) _⟩
   ·exact ⟨xs,(e3.trans (v4 _ _)).seq h2,by rw [h3.len]; exact List.getElem?_eq_none_iff.mp hd⟩
  | _=>exact q.elim
theorem km1 {pins:List (Addr × Obj)} {σ:L2.St} {H:Hp} {s:Shared} {L:Addr} {h':Heap} (I:L2.Inv X pins σ H s) (hH:H L = none) (hL:L ≠ X.env.locals) (hS:X.s₀.heap.objs.size <= L) (hc:∀ x c,X.env.cells.lookup x = some c -> c ≠ L) (hp:∀ p ∈ X.pn ++ pins,p.1 ≠ L) (hs:Heap.SameBut L s.heap h'):L2.Inv X pins σ H { s with heap:=h' }:=by
 have kp:∀ b o,b ≠ L -> s.heap.get? b = some o -> h'.get? b = some o:=fun b o hb e=>(hs.2 b hb).trans e
 refine Inv.call' I (s':={ s with heap:=h' }) (ch:=[L]) rfl ⟨fun b o e n nf nx=>kp b o (by simpa using nx) e,fun b o e n nf nx=>⟨o.slots,kp b o (by simpa using nx) e⟩,fun b o e n nx=>n,fun b o e nx=>⟨o,kp b o (by simpa using nx) e⟩,fun b xs q=>q,fun b o u q=>q,fun b ps q=>⟨#[],by rw [q]; simp⟩⟩ (fun b u e=>?_) I.bare (fun b hb=>?_)
 ·refine (I.hok b u e).stay (fun c v hc' q=>kp c v ?_ q) (fun _ q=>q) fun _ _ q=>q
  rintro rfl
  rcases hc' with rfl | hc'
  ·rw [hH] at e; cases e
  ·rw [hH] at hc'; cases hc'
 ·obtain rfl:b = L:=by simpa using hb
  exact ⟨.inr hS,hL,hc,hp⟩
end
section
variable {X:Cx} {C:Cfg} {G0:Hp} {Γ:List SK} {E0:Value -> Shared -> Prop} {pins:List (Addr × Obj)} {σ:L2.St} {H2:Hp} {s2:Shared} {A:List Addr} {st:DSt} {tg iter elt:Expr} {ifs:List Expr} {scope:Scope} {cl:List (Str × Addr)} {pos:Pos} {fp:List Addr} {it:Addr} {tn:Nat -> Heap -> Prop} {J:It} {g:TG} {bind:DB} {ft fe:DF} {κe:Kd} {n z:Bool} {ds total:List D}
 {tgs:List Str} {caps:List (Nat × Str)} {RR:Value -> Addr -> Result -> Shared -> Prop}
noncomputable def parΓ (m:Nat):List SK:=List.replicate m .par
theorem kn1 (m:Nat):kj5 (parΓ m):=fun i k h=>by unfold parΓ at h; rw [List.getElem?_replicate] at h; split at h <;> cases h; rfl
structure BlockEnd (X:Cx) (C:Cfg) (pins:List (Addr × Obj)) (σ:L2.St) (n:Bool) (H2:Hp) (B:List Addr) (total:List D) (acc L:Addr) (s':Shared) (H':Hp) (ys:List V):Prop where
 inv:L2.Inv X pins σ H' s'
 ns:∃ m,s'.heap.Ns L m
 hL:H' L = none
 lL:L ≠ X.env.locals
 sL:X.s₀.heap.objs.size <= L
 cL:∀ x c,X.env.cells.lookup x = some c -> c ≠ L
 pL:∀ p ∈ X.pn ++ pins,p.1 ≠ L
 new:H2 acc = none
 at':H' acc = some (.lst ys)
 same:Same H2 (er H' [acc])
 reps:Reps X.K C (part n H2 acc B H') total ys
theorem jx4 (I2:L2.Inv X pins σ H2 s2) (hcalm:X.calm = true) (r2:RS X.K C G0 Γ σ H2 A st) (T:Turn X.prog X.w X.K tg J fp it tn) (htn:tn 0 s2.heap) (hf:∀ b ∈ fp,FpOk X pins H2 b) (hJ:ItOk X.K C (zB z A) H2 J ds) (hz:z = true -> ∀ p ∈ caps,Γ[p.1]? = some .par \/ Γ[p.1]? = some .loc)
  (hgo:jd7 bind ft fe ds (inσ tgs.length (caps.map (·.1)) st) = .ok total) (few:ds.length <= 1000) (hk:scope.kind = .function) (hcell:∀ y ∈ scope.names,y.2 ≠ .cell) (hcl:∀ x c,cl.lookup x = some c -> X.env.cells.lookup x = some c)
  (hhas:∀ x,((relabel scope X.env).names.lookup x = some .cell \/ (relabel scope X.env).names.lookup x = some .free) -> ∃ c,cl.lookup x = some c) (hcap:Cap X scope cl caps)
  (hB:jv4 X.K C G0 (parΓ (tgs.length + caps.length)) g bind)
  (hG:∀ s H L,PG ((cCx X scope cl (tgs ++ caps.map (·.2)) fp s H L).wish (Fly (cCx X scope cl (tgs ++ caps.map (·.2)) fp s H L) Eno)) tg g)
  (hT:∀ s0 H0 L (pins:List (Addr × Obj)) (s:Shared) (σ:L2.St) (H:Hp) (Q:Bool -> Hp -> Prop),L2.Inv ((cCx X scope cl (tgs ++ caps.map (·.2)) fp s0 H0 L).wish (Fly (cCx X scope cl (tgs ++ caps.map (·.2)) fp s0 H0 L) Eno)) pins σ H s -> tDT X.K C G0 (parΓ (tgs.length + caps.length)) Eno ft σ H Q ->
   wpAny (model X.prog X.w) X.A (forIn ifs true fun c r=>if r = true then do let ok <- isTrue c (compEnvC scope cl L X.env) (eval c (compEnvC scope cl L X.env)); pure (ForInStep.yield ok) else pure (ForInStep.yield r)) (TP ((cCx X scope cl (tgs ++ caps.map (·.2)) fp s0 H0 L).wish (Fly (cCx X scope cl (tgs ++ caps.map (·.2)) fp s0 H0 L) Eno)) pins σ Q) (Fly (cCx X scope cl (tgs ++ caps.map (·.2)) fp s0 H0 L) Eno) s)
  (hE:∀ s H L,PE ((cCx X scope cl (tgs ++ caps.map (·.2)) fp s H L).wish (Fly (cCx X scope cl (tgs ++ caps.map (·.2)) fp s H L) Eno)) elt (tD X.K C G0 (parΓ (tgs.length + caps.length)) Eno fe κe)) (hn:n = true -> κe = .new) (hn':n = false -> κe.le .old = true)
  (hRR:∀ acc L s' H' ys,BlockEnd X C pins σ n H2 (zB z A) total acc L s' H' ys -> RR (.ref acc) L (.ok .next) s') :
  wpAny (model X.prog X.w) X.A (newList []) (fun acc s₃=>wpAny (model X.prog X.w) X.A (newFunctionEnv scope X.env.globals cl [] X.env.qual none .none (some X.env)) (fun cenv s₄ =>
   codeAny (model X.prog X.w) X.A (.compStart (.ListComp elt [⟨tg,iter,ifs,0⟩] scope pos) 0 (.ref it) acc { cenv with scope:=relabel scope X.env }) (RR acc cenv.locals) s₄) E0 s₃) E0 s2:=by
 refine wpAny_newObj_type (wpAny_newFunctionEnv hcell (by intro y hy; simp at hy) (fun h₁ hns₁ hsb₁=>?_) hk)
 dsimp only at hns₁ hsb₁ ⊢
 generalize hH2:s2.heap.push { cls:=.type "list",dict:=none,data:=.seq ([]:List Value).toArray } = G2 at hns₁ hsb₁ ⊢
 have hC:G2.objs.size = s2.heap.objs.size + 1:=by rw [<- hH2,Heap.size_push]
 have hDC:s2.heap.objs.size ≠ G2.objs.size:=by rw [hC]; exact Nat.ne_of_lt (Nat.lt_succ_self _)
 have below:∀ b,b < s2.heap.objs.size -> b ≠ G2.objs.size /\ b ≠ s2.heap.objs.size:=fun b hb=>⟨by rw [hC]; exact Nat.ne_of_lt (Nat.lt_succ_of_lt hb),Nat.ne_of_lt hb⟩
 have old:∀ b o,s2.heap.get? b = some o -> h₁.get? b = some o:=fun b o e=>hsb₁.extBut b o (below b (Heap.lt_size e)).1 (Heap.get?_push_of_some _ (hH2 ▸ Heap.get?_push_of_some _ e))
 have hacc:h₁.get? s2.heap.objs.size = some { cls:=.type "list",data:=.seq ([]:List Value).toArray 0 }:=hsb₁.extBut _ _ hDC (Heap.get?_push_of_some _ (hH2 ▸ Heap.get?_push_size _ rfl))
 have nacc:H2 s2.heap.objs.size = none:=I2.hok.fresh (Nat.le_refl _)
 have hLle:s2.heap.objs.size <= G2.objs.size:=by rw [hC]; exact Nat.le_succ _
 have nL:H2 G2.objs.size = none:=I2.hok.fresh hLle
 have hfs:∀ b ∈ fp,b < s2.heap.objs.size:=fun b hb=>by obtain ⟨o,e,_⟩:=T.obj _ _ htn b hb; exact Heap.lt_size e
 have ok:=qy2 (N':=tgs ++ caps.map (·.2)) (L:=G2.objs.size) I2 hk hLle hcl hhas hf hfs
 have un:Un (frs X.stack) fp H2 (upd H2 s2.heap.objs.size (.lst [])) s2.heap h₁:=Un.laid old (Nat.le_refl _) nacc
 have hok:HOk X.prog X.w (upd H2 s2.heap.objs.size (.lst [])) h₁:=I2.hok.laid old (Nat.le_refl _) ⟨Nat.zero_le _,[],0,.nil,hacc⟩
 have inn:L2.Inv (cCx X scope cl (tgs ++ caps.map (·.2)) fp s2 H2 G2.objs.size) [] (inσ tgs.length (caps.map (·.1)) σ) (upd H2 s2.heap.objs.size (.lst [])) { s2 with heap:=h₁,toks:=s2.toks + ([]:List (Str × Value)).length }:=by
  refine qq0 I2 ok hcap hcl rfl I2.bare un old hns₁ (by rw [v7 (Ne.symm hDC)]; exact nL) (fun x c h=>?_) hok
  have hc:=I2.freeC x c (hcl _ _ h)
  have hc2:c ≠ s2.heap.objs.size:=fun w=>by
   obtain ⟨v,q⟩:=I2.cell x c (hcl _ _ h)
   exact absurd q.lt (by rw [w]; exact Nat.lt_irrefl _)
  rw [v7 hc2]; exact hc
 have e2:Same H2 (upd H2 s2.heap.objs.size (.lst [])):=Z7 nacc
 have ee:Same H2 (er (upd H2 s2.heap.objs.size (.lst [])) [s2.heap.objs.size]):=fun b o e=>by
  have:b ≠ s2.heap.objs.size:=fun w=>by rw [w,nacc] at e; cases e
  rw [v8 (by simpa using this)]; exact e2 b o e
 have eB:Same (er H2 (zB z A)) (er (upd H2 s2.heap.objs.size (.lst [])) (s2.heap.objs.size :: zB z A)):=fun b o e=>by
  by_cases mb:b ∈ zB z A
  ·rw [jc4 mb] at e; cases e
  ·rw [v8 mb] at e
   have:b ≠ s2.heap.objs.size:=fun w=>by rw [w,nacc] at e; cases e
   rw [v8 (by simp [this,mb])]; exact e2 b o e
 have rin:RS X.K C G0 (parΓ (tgs.length + caps.length)) (inσ tgs.length (caps.map (·.1)) σ) (upd H2 s2.heap.objs.size (.lst [])) (s2.heap.objs.size :: zB z A) (inσ tgs.length (caps.map (·.1)) st):=by
  refine ⟨(r2.base.trans (kr1 qk5)).trans eB,fun a m=>?_,by unfold inσ; simp,fun j d h=>?_,fun i j n' m' p ds' es hij g1=>by have:=kn1 _ i _ g1; cases this⟩
  ·rcases List.mem_cons.mp m with rfl | m
   ·exact ⟨[],J1⟩
   ·obtain ⟨xs,q⟩:=r2.lists a (qk5 a m)
    exact ⟨xs,e2 _ _ q⟩
  ·refine x1_3 (ks3 h) fun i hj hi hs=>?_
   refine x2_3 (r2.slot i d hs) fun k v h1 h2 h3=>?_
   have hlt:j - tgs.length < caps.length:=by have:=(List.getElem?_eq_some_iff.mp hi).1; simpa using this
   refine ⟨.par,v,?_,qr5 hj hi h2,?_⟩
   ·unfold parΓ; rw [List.getElem?_replicate,if_pos (by lia)]
   ·refine Rep.same eB _ ?_
    refine x1_2 (r2.read h1 hs) fun v' w1 w2=>?_
    rw [h2] at w1; cases w1
    unfold zB
    cases z with
    | false=>rw [if_neg (by decide),jr9]; exact w2.rep
    | true =>
     rw [List.getElem?_map] at hi
     cases hc:caps[j - tgs.length]? with
     | none=>rw [hc] at hi; cases hi
     | some p =>
      rw [hc] at hi; cases hi
      rcases hz rfl p (List.mem_of_getElem? hc) with q | q
      ·rw [h1] at q; cases q; exact h3
      ·rw [h1] at q; cases q; exact h3.1.same (jb1 _ _) _
 have loop:∀ s3:Shared,s3 = { s2 with heap:=h₁,toks:=s2.toks + ([]:List (Str × Value)).length } ->
   codeAny (model X.prog X.w) X.A (.compLoop (.ListComp elt [⟨tg,iter,ifs,0⟩] scope pos) 0 (.ref it) (.ref s2.heap.objs.size) (compEnvC scope cl G2.objs.size X.env)) (RR (.ref s2.heap.objs.size) G2.objs.size) s3:=by
  rintro s3 rfl
  refine kv8 (X:=cCx X scope cl (tgs ++ caps.map (·.2)) fp s2 H2 G2.objs.size) (C:=C) (G0:=G0) (B:=zB z A) (H2:=H2) (total:=total) T hcalm (fun b hb=>⟨hb,(ok.exf b hb).1,ok.exfs b hb,(ok.exf b hb).2⟩) rfl (kn1 _) hJ hB (hG _ _ _) (hT _ _ _) (hE _ _ _) hn hn' nacc few
   (fun s' σ' H' zz3=>zz3.elim fun st' zz4=>zz4.elim fun ys zz5=>zz5.elim fun es zz6=>zz6.elim fun I' zz7=>zz7.elim fun hy zz8=>zz8.elim fun r' zz9=>zz9.elim fun e' zz10=>zz10.elim fun rp zz11=>zz11.elim fun hl zz12=>zz12.elim fun rest zz13=>zz13.elim fun hg ht=>?_) _ _ _ ⟨_,[],[],inn,J1,rin,ee,.nil,Nat.zero_le _,total,by simpa using hgo,rfl⟩ (T.keep _ _ _ htn fun b hb o e=>old b o e) (fun b hb=>by rw [v7 (below b (hfs b hb)).2]; exact (hf b hb).1)
  have hr:rest = []:=by
   rw [List.drop_length] at hg
   exact (R.ok.inj hg).symm
  subst hr
  rw [List.append_nil] at ht
  subst ht
  have Iout:L2.Inv X pins σ H' s':=Inv.call' I2 I'.os I'.base I'.hok I'.bare fun b hb=>⟨(hf b hb).2.2.2.1,(hf b hb).2.1,(hf b hb).2.2.2.2.1,(hf b hb).2.2.2.2.2⟩
  refine hRR _ _ s' H' ys ⟨Iout,I'.loc.imp fun m h=>h.1,I'.free,?_,Nat.le_trans I2.sz hLle,fun x c h w=>?_,fun p hp w=>?_,nacc,hy,e',rp⟩
  ·exact Ne.symm (below _ I2.lt).1
  ·obtain ⟨v,q⟩:=I2.cell x c h
   exact (below _ q.lt).1 w
  ·exact (below _ (Heap.lt_size (I2.pin p hp).1)).1 w
 exact codeAny_compStart_list (loop _ rfl) (T.self X.A 0 _ _ _ (T.keep _ _ _ htn fun b hb o e=>old b o e) (loop _ rfl))
end
end Dm
end T_Lc3
section T_Lc4
namespace Dm
open PySem PySem.Spec PyProof.Rows L2
noncomputable def ki2 (z n:Bool):Kd:=if n = true then .new else if z = true then .nwo else .tmp
noncomputable def jm7 (gi:DI) (k:Nat) (fr:List Nat) (bind:DB) (ft fe:DF):DF:=fun st=>match gi st with
 | .ok ds=>if ds.length <= 1000 then (match jd7 bind ft fe ds (inσ k fr st) with | .ok es=>.ok (.lst es) | _=>.bad) else .bad
 | .ex c p=>.ex c p
 | .bad=>.bad
section
variable {X:Cx} {C:Cfg} {G0:Hp} {Γ:List SK} {E:L2.St -> XK} {κr:Bool} {tg iter elt:Expr} {ifs:List Expr} {scope:Scope} {cl:List (Str × Addr)} {pos:Pos} {g:TG} {bind:DB} {gi:DI} {ft fe:DF} {κe:Kd} {n z:Bool} {tgs:List Str} {caps:List (Nat × Str)}
theorem BlockEnd.val {pins:List (Addr × Obj)} {σ:L2.St} {H H2:Hp} {A:List Addr} {total:List D} {acc L:Addr} {s':Shared} {H':Hp} {ys:List V} {st:DSt} (b:BlockEnd X C pins σ n H2 (zB z A) total acc L s' H' ys) (r:RS X.K C G0 Γ σ H A st) (e:Same H H2):Same H H' /\ Val X.K C (ki2 z n) G0 A H H' (.lst total) (.ref acc):=by
 have e2:Same H2 H':=b.same.trans (v4 _ _)
 have eH:=e.trans e2
 refine ⟨eH,?_⟩
 have h0:H acc = none:=e.free b.new
 have rp:=b.reps
 unfold ki2
 cases n with
 | true =>
  rw [if_pos rfl]
  have R0:Reps X.K C (er (nw H H') [acc]) total ys:=rp.same (fun c o z=>by
   unfold part at z
   rw [if_pos rfl] at z
   by_cases hc:c = acc
   ·subst hc
    have:=jb1 _ _ _ _ z
    rw [jc4 (.head _)] at this; cases this
   ·rw [v8 (by simpa using hc)]
    exact jz9 e _ _ (Q1 (v4 _ _) _ _ z)) _
  have ha:nw H H' acc = some (.lst ys):=by rw [jo7 h0]; exact b.at'
  exact ⟨by rw [Rep]; exact ⟨acc,ys,rfl,.of ha,R0⟩,fun ds z=>by cases z; exact ⟨acc,ys,rfl,h0,ha,R0⟩⟩
 | false =>
  rw [if_neg (by decide)]
  cases z with
  | true =>
   rw [if_pos rfl]
   have hA:acc ∉ A:=fun m=>by obtain ⟨xs,q⟩:=r.lists acc m; rw [h0] at q; cases q
   have R0:Reps X.K C (er (er H' A) [acc]) total ys:=rp.same (fun c o z=>by
    unfold part zB at z
    rw [if_neg (by decide),if_pos rfl] at z
    by_cases hc:c ∈ acc :: A
    ·rw [jc4 hc] at z; cases z
    ·rw [v8 hc] at z
     have h1:c ≠ acc:=fun w=>hc (by rw [w]; exact .head _)
     have h2:c ∉ A:=fun w=>hc (.tail _ w)
     rw [v8 (by simpa using h1),v8 h2]; exact z) _
   have ha:er H' A acc = some (.lst ys):=by rw [v8 hA]; exact b.at'
   exact ⟨by rw [Rep]; exact ⟨acc,ys,rfl,.of ha,R0⟩,fun ds z=>by cases z; exact ⟨acc,ys,rfl,h0,ha,R0⟩⟩
  | false =>
   rw [if_neg (by decide)]
   show Rep X.K C H' _ _
   rw [Rep]
   refine ⟨acc,ys,rfl,.of b.at',rp.same (fun c o z=>?_) _⟩
   unfold part zB at z
   rw [if_neg (by decide),if_neg (by decide)] at z
   exact z
structure Blk (X:Cx) (C:Cfg) (G0:Hp) (Γ:List SK) (tg elt:Expr) (ifs:List Expr) (scope:Scope) (cl:List (Str × Addr)) (g:TG) (bind:DB) (ft fe:DF) (κe:Kd) (n z:Bool) (tgs:List Str) (caps:List (Nat × Str)):Prop where
 calm:X.calm = true
 hk:scope.kind = .function
 hcell:∀ y ∈ scope.names,y.2 ≠ .cell
 hcl:∀ x c,cl.lookup x = some c -> X.env.cells.lookup x = some c
 hhas:∀ x,((relabel scope X.env).names.lookup x = some .cell \/ (relabel scope X.env).names.lookup x = some .free) -> ∃ c,cl.lookup x = some c
 hclos:closureFor scope X.env = pure cl
 hnames:∀ y ∈ scope.names,y.2 = .local -> scope.names.lookup y.1 = some .local
 hcap:Cap X scope cl caps
 hz:z = true -> ∀ p ∈ caps,Γ[p.1]? = some .par \/ Γ[p.1]? = some .loc
 hB:jv4 X.K C G0 (parΓ (tgs.length + caps.length)) g bind
 hG:∀ fp s H L,PG ((cCx X scope cl (tgs ++ caps.map (·.2)) fp s H L).wish (Fly (cCx X scope cl (tgs ++ caps.map (·.2)) fp s H L) Eno)) tg g
 hT:∀ fp s0 H0 L (pins:List (Addr × Obj)) (s:Shared) (σ:L2.St) (H:Hp) (Q:Bool -> Hp -> Prop),L2.Inv ((cCx X scope cl (tgs ++ caps.map (·.2)) fp s0 H0 L).wish (Fly (cCx X scope cl (tgs ++ caps.map (·.2)) fp s0 H0 L) Eno)) pins σ H s -> tDT X.K C G0 (parΓ (tgs.length + caps.length)) Eno ft σ H Q ->
   wpAny (model X.prog X.w) X.A (forIn ifs true fun c r=>if r = true then do let ok <- isTrue c (compEnvC scope cl L X.env) (eval c (compEnvC scope cl L X.env)); pure (ForInStep.yield ok) else pure (ForInStep.yield r)) (TP ((cCx X scope cl (tgs ++ caps.map (·.2)) fp s0 H0 L).wish (Fly (cCx X scope cl (tgs ++ caps.map (·.2)) fp s0 H0 L) Eno)) pins σ Q) (Fly (cCx X scope cl (tgs ++ caps.map (·.2)) fp s0 H0 L) Eno) s
 hE:∀ fp s H L,PE ((cCx X scope cl (tgs ++ caps.map (·.2)) fp s H L).wish (Fly (cCx X scope cl (tgs ++ caps.map (·.2)) fp s H L) Eno)) elt (tD X.K C G0 (parΓ (tgs.length + caps.length)) Eno fe κe)
 hn:n = true -> κe = .new
 hn':n = false -> κe.le .old = true
theorem qu5 (hsrc:PI X tg iter (tDI X.K C G0 Γ E z gi)) (b:Blk X C G0 Γ tg elt ifs scope cl g bind ft fe κe n z tgs caps) (hs:∀ x,foldedSetIterable iter X.env x = pure x:=by intro _; rfl) :
  PE X (.ListComp elt [⟨tg,iter,ifs,0⟩] scope pos) (tD X.K C G0 Γ E (jm7 gi tgs.length (caps.map (·.1)) bind ft fe) (ki2 z n)):=fun pins s σ H Q I zz=>by
 refine x2_2 zz fun A st r q=>?_
 clear zz
 rw [eval_ListComp]
 unfold jm7 at q
 refine wpAny_comprehension_free (use:=none) rfl hs b.hclos b.hk b.hnames (wpAny_mono (hsrc pins s σ H (fun J H'=>∃ ds total,Same H H' /\ ItOk X.K C (zB z A) H' J ds /\ ds.length <= 1000 /\ jd7 bind ft fe ds (inσ tgs.length (caps.map (·.1)) st) = .ok total /\ ∀ v H',Same H H' -> Val X.K C (ki2 z n) G0 A H H' (.lst total) v -> Q v H') I ⟨A,st,r,?_⟩) (fun xv s1 h1=>wpAny_mono h1 (fun itv s2 h2=>?_) fun _ _ e=>e) fun _ _ e=>e)
 ·cases hg:gi st with
  | bad=>rw [hg] at q; exact q
  | ex c p=>rw [hg] at q; exact q
  | ok ds =>
   rw [hg] at q
   dsimp only at q
   by_cases hl:ds.length <= 1000
   ·rw [if_pos hl] at q
    cases hc:jd7 bind ft fe ds (inσ tgs.length (caps.map (·.1)) st) with
    | bad=>rw [hc] at q; exact q.elim
    | ex c p=>rw [hc] at q; exact q.elim
    | ok total=>rw [hc] at q; exact fun J H' e' hJ=>⟨ds,total,e',hJ,hl,hc,q⟩
   ·rw [if_neg hl] at q; exact q.elim
 ·obtain ⟨it,fp,tn,J,H2,rfl,I2,T,t0,f0,ds,total,e2,hJ,hl,hgo,hq⟩:=h2
  refine jx4 (RR:=fun acc L=>compPost (model X.prog X.w) X.A X.xe none (EP X pins σ Q) acc L) I2 b.calm (r.mono e2) T t0 f0 hJ b.hz hgo hl b.hk b.hcell b.hcl b.hhas b.hcap b.hB (b.hG fp) (b.hT fp) (b.hE fp) b.hn b.hn' fun acc L s' H' ys be=>?_
  obtain ⟨e',w⟩:=be.val r e2
  obtain ⟨m,hm⟩:=be.ns
  exact ⟨m,hm,fun h' hsb=>⟨.ref acc,H',km1 be.inv be.hL be.lL be.sL be.cL be.pL hsb,rfl,hq _ _ e' w⟩⟩
theorem qt3 {i:Nat} {k:SK} {x:Str} {pos' spos:Pos} (hN:X.N.Nodup) (hsrc:PI X tg iter (tDI X.K C G0 Γ E z gi)) (b:Blk X C G0 Γ tg elt ifs scope cl g bind ft fe κe n z tgs caps) (hk:Γ[i]? = some k:=by rfl) (hl:k.takes (ki2 z n) = true:=by rfl) (hi:X.N[i]? = some x:=by rfl) (hx:X.env.scope.names.lookup x = some .local:=by rfl)
  (hsw:swapsWith (.ListComp elt [⟨tg,iter,ifs,0⟩] scope pos) (some (.Name x pos')) spos.line X.env = pure true:=by rfl) (hs:∀ x,foldedSetIterable iter X.env x = pure x:=by intro _; rfl) :
  PS X (.Assign [.Name x pos'] (.ListComp elt [⟨tg,iter,ifs,0⟩] scope pos) spos) (tDS X.K C G0 Γ E κr (dAsg i (jm7 gi tgs.length (caps.map (·.1)) bind ft fe))):=fun pins s σ H D I zz=>by
 refine x2_2 zz fun A st r q=>?_
 clear zz
 rw [exec_Assign_Name_used _ _ _ _ hsw]
 refine wpAny_bind (wpAny_standAt (wpAny_bind ?_))
 show wpAny _ X.A (do let _ <- comprehension (.ListComp elt [⟨tg,iter,ifs,0⟩] scope pos) scope X.env _ (newList []) false (eval iter X.env) (some (assign (.Name x pos') X.env))) _ _ s
 unfold dAsg jm7 at q
 refine wpAny_bind (wpAny_mono (wpAny_comprehension_free (use:=some (assign (.Name x pos') X.env)) (Q:=fun _ s'=>SP X pins D .next s') rfl hs b.hclos b.hk b.hnames (wpAny_mono (hsrc pins s σ H (fun J H'=>∃ ds total,Same H H' /\ ItOk X.K C (zB z A) H' J ds /\ ds.length <= 1000 /\ jd7 bind ft fe ds (inσ tgs.length (caps.map (·.1)) st) = .ok total /\ ∀ σ' H' A',RS X.K C G0 Γ σ' H' A' (st.set i (some (.lst total))) -> Same (er H A) (er H' A') -> D.nx σ' H') I ⟨A,st,r,?_⟩) (fun xv s1 h1=>wpAny_mono h1 (fun itv s2 h2=>?_) fun _ _ e=>e) fun _ _ e=>e))
  (fun _ s' hq=>wpAny_pure (wpAny_pure hq)) fun _ _ e=>e)
 ·cases hg:gi st with
  | bad=>rw [hg] at q; exact q
  | ex c p=>rw [hg] at q; exact fun H' e'=>q σ H' A (r.mono e') (q8 e')
  | ok ds =>
   rw [hg] at q
   dsimp only at q
   by_cases hl:ds.length <= 1000
   ·rw [if_pos hl] at q
    cases hc:jd7 bind ft fe ds (inσ tgs.length (caps.map (·.1)) st) with
    | bad=>rw [hc] at q; exact q.elim
    | ex c p=>rw [hc] at q; exact q.elim
    | ok total=>rw [hc] at q; exact fun J H' e' hJ=>⟨ds,total,e',hJ,hl,hc,q⟩
   ·rw [if_neg hl] at q; exact q.elim
 ·obtain ⟨it,fp,tn,J,H2,rfl,I2,T,t0,f0,ds,total,e2,hJ,hlen,hgo,hq⟩:=h2
  refine jx4 (RR:=fun acc L=>compPost (model X.prog X.w) X.A X.xe (some (assign (.Name x pos') X.env)) (fun _ s'=>SP X pins D .next s') acc L) I2 b.calm (r.mono e2) T t0 f0 hJ b.hz hgo hlen b.hk b.hcell b.hcl b.hhas b.hcap b.hB (b.hG fp) (b.hT fp) (b.hE fp) b.hn b.hn' fun acc L s' H' ys be=>?_
  obtain ⟨e',w⟩:=be.val r e2
  obtain ⟨m,hm⟩:=be.ns
  refine x1_3 (r.set e' hk hl w) fun A' r' ea _=>?_
  refine wpAny_assign_Name (ke8 be.inv hN hi (.inl hx) (v:=.ref acc) rfl (fun s3 I3 zz1=>?_) (.inr hx))
  refine x1_2 zz1 fun c hsb hc=>?_
  clear zz1
  have hcL:L ≠ c:=by
   rcases hc with rfl | hc
   ·exact be.lL
   ·exact fun z=>be.cL x c hc z.symm
  exact ⟨m,hm.sameBut hsb hcL,fun h' hs'=>⟨_,H',km1 I3 be.hL be.lL be.sL be.cL be.pL hs',hq _ _ A' r' ea⟩⟩
end
end Dm
end T_Lc4
section T_Dz
namespace Dz
open PySem PyProof.Rows
noncomputable abbrev qw3 (h:Heap) (z TI TO T:Addr) (b:Bool):Prop :=
 h.get? z = some { cls:=.type "zip",dict:=none,data:=.fields #[rawInt T,.bool b,.bool false,.ref TI,.ref TO],slots:=#[] }
section
variable {prog:Program} {w:World} {A:Around} {E:Value -> Shared -> Prop} {s:Shared}
end
end Dz
end T_Dz
section T_Dz2
namespace Dz
open PySem PyProof.Rows
structure ZSt (z TI TO i1 i2 l1 l2:Addr) (xs ys:Array Value) (k:Nat) (h:Heap):Prop where
 ti:IsPair h TI (.ref i1) (.ref i2)
 it1:h.IsListIter i1 l1 k
 it2:h.IsListIter i2 l2 k
 ls1:h.IsList l1 xs
 ls2:h.IsList l2 ys
 zp:(IsZip h z TI TO .none /\ ∃ a b,IsPair h TO a b) \/ ∃ T b oT,qw3 h z TI TO T b /\ h.get? T = some oT
section
variable {prog:Program} {w:World} {A:Around} {E:Value -> Shared -> Prop} {s:Shared} {z TI TO i1 i2 l1 l2:Addr} {xs ys:Array Value} {k:Nat}
end
theorem jo2:entryFor table "dict.update.loop" = some Builtin.«dict.update.loop»:=entryFor_of_tree (by kernel_rfl)
theorem jj5:plainId "dict.update.loop" = true:=by decide +kernel
section
variable {prog:Program} {w:World} {K:Type} [DecidableEq K] {kd:KeyKind prog w K} {A:Around} {s:Shared} {z TI TO i1 i2 l1 l2 d:Addr} {xs ys:Array Value}
theorem ZSt.same {k:Nat} {h h':Heap} (st:ZSt z TI TO i1 i2 l1 l2 xs ys k h) (hs:Heap.SameBut d h h') (hd:∃ o,h'.get? d = some o) (n1:z ≠ d) (n2:TI ≠ d) (n3:TO ≠ d) (n4:i1 ≠ d) (n5:i2 ≠ d) (n6:l1 ≠ d) (n7:l2 ≠ d):ZSt z TI TO i1 i2 l1 l2 xs ys k h':=by
 obtain ⟨ti,it1,it2,ls1,ls2,zp⟩:=st
 have kp:∀ b o,b ≠ d -> h.get? b = some o -> h'.get? b = some o:=fun b o nb e=>(hs.2 b nb).trans e
 refine ⟨kp _ _ n2 ti,it1.at fun o e=>kp _ _ n4 e,it2.at fun o e=>kp _ _ n5 e,ls1.at fun o e=>kp _ _ n6 e,ls2.at fun o e=>kp _ _ n7 e,?_⟩
 rcases zp with ⟨hz,a,b,hTO⟩ | ⟨T,b,oT,hz,hT⟩
 ·exact .inl ⟨kp _ _ n1 hz,a,b,kp _ _ n3 hTO⟩
 ·by_cases q:T = d
  ·obtain ⟨o,e⟩:=hd
   exact .inr ⟨T,b,o,kp _ _ n1 hz,by rw [q]; exact e⟩
  ·exact .inr ⟨T,b,oT,kp _ _ n1 hz,kp _ _ q hT⟩
end
end Dz
end T_Dz2
section T_Dw0
namespace Dm
open PySem PySem.Spec PyProof.Rows L2
noncomputable abbrev DP:=(Int × Int) × Addr × Int × Tok
noncomputable def dxs (ps:List DP):List (List Int × Addr × Value):=ps.map fun p=>([p.1.1,p.1.2],p.2.1,.int p.2.2.1 p.2.2.2)
noncomputable def DX (a:Addr) (ps:List DP) (h:Heap):Prop:=∃ o es ep,h.get? a = some o /\ o.ExactDict /\ o.data = .dict es ep /\ (∀ (P:Program) (w:World),es.toList = (dxs ps).map (entryOfKey (tupleKind (intKind P w)))) /\ ((dxs ps).map (·.1)).Nodup
noncomputable def dvs (ps:List DP):List V:=ps.flatMap fun p=>[.int p.1.1,.int p.1.2,.int p.2.2.1]
noncomputable def DAtD (K:PySem.W.Frag) (H:Hp) (a:Addr) (vs:List V):Prop:=∃ ps,vs = dvs ps /\ H a = some (.ext (DX a ps)) /\ ∀ p ∈ ps,SqT K H p.2.1 [.int p.1.1,.int p.1.2]
theorem DAtD.mono {K:PySem.W.Frag} {H H':Hp} {a:Addr} {vs:List V} (e:Same H H') (h:DAtD K H a vs):DAtD K H' a vs:=by
 refine x1_3 h fun ps h1 h2 h3=>?_
 clear h
 exact ⟨ps,h1,e _ _ h2,fun p hp=>Same.tup e (h3 p hp)⟩
theorem DX.of {P:Program} {w:World} {a:Addr} {ps:List DP} {h:Heap} (q:h.DictOfH (tupleKind (intKind P w)) a (dxs ps)):DX a ps h:=by
 refine x3_6 q fun o es ep h1 h2 h3 h4 _ h6=>?_
 clear q
 exact ⟨o,es,ep,h1,h2,h3,fun P' w'=>h4,h6⟩
theorem DX.dict {P:Program} {w:World} {a:Addr} {ps:List DP} {h:Heap} (q:DX a ps h) (k:∀ p ∈ ps,(tupleKind (intKind P w)).is h [p.1.1,p.1.2] p.2.1):h.DictOfH (tupleKind (intKind P w)) a (dxs ps):=by
 refine x3_5 q fun o es ep h1 h2 h3 h4 h6=>?_
 clear q
 refine ⟨o,es,ep,h1,h2,h3,h4 P w,fun x hx=>?_,h6⟩
 refine x1_2 (List.mem_map.mp hx) fun p hp zo2=>?_
 obtain rfl:=zo2
 exact k p hp
theorem DX.keep {a:Addr} {ps:List DP} {h h':Heap} (q:DX a ps h) (e:∀ o,h.get? a = some o -> h'.get? a = some o):DX a ps h':=by
 refine x3_2 q fun o es ep h1 h2=>?_
 clear q
 exact ⟨o,es,ep,e o h1,h2⟩
section
variable {X:Cx} {pins:List (Addr × Obj)} {σ:L2.St} {H:Hp} {s:Shared} {a:Addr}
end
section
variable {X:Cx} {a b:Expr} {ta:TA} {p1 p2 pos pos2:Pos}
end
end Dm
end T_Dw0
section T_Bd
namespace Dm
open PySem PySem.Spec PyProof.Rows L2 PySem.W
noncomputable def cfgB (Cb:Addr):Cfg where
 ob:=fun t K H a vs=>((t = 0 /\ ∃ dx fs l,H a = some (.ins Cb dx fs) /\ fs.lookup ("cells" : Str) = some (.ref l) /\ H l = some (.lst vs)) \/ (∃ c,t = xTag c /\ ((vs = [] /\ H a = some (.ext (ClsAt a (.ref c)))) \/ ∃ n dx,vs = [.int n] /\ H a = some (.ext (ClsX a c dx)) /\ H dx = some (.xd [("at",.int n)])))) \/ (t = 1 /\ DAtD K H a vs)
 mono:=fun {t K H H' a vs} e h=>by
  rcases h with (⟨h0,dx,fs,l,h1,h2,h3⟩ | ⟨c,h0,⟨h1,h2⟩ | ⟨n,dx,h1,h2,h3⟩⟩) | ⟨h0,h1⟩
  ·exact .inl (.inl ⟨h0,dx,fs,l,e _ _ h1,h2,e _ _ h3⟩)
  ·exact .inl (.inr ⟨c,h0,.inl ⟨h1,e _ _ h2⟩⟩)
  ·exact .inl (.inr ⟨c,h0,.inr ⟨n,dx,h1,e _ _ h2,e _ _ h3⟩⟩)
  ·exact .inr ⟨h0,h1.mono e⟩
section
variable {X:Cx} {Cb:Addr} {G0:Hp} {Γ:List SK} {E:L2.St -> XK} {κr:Bool} {e a b c:Expr} {f fa fb fc:DF} {κ κ' κa κb κc:Kd} {es rest:List Expr} {fs:DA} {pos:Pos} {s:Stmt} {ss:List Stmt} {F G:DS}
noncomputable def Y1:D -> R D:=fun a=>match a with | .brd 0 ds=>if noLs ds = true then .ok (.lst ds) else .bad | _=>.bad
theorem ku5 {a d:D} (h:Y1 a = .ok d):∃ ds,a = .brd 0 ds /\ noLs ds = true /\ d = .lst ds:=by
 unfold Y1 at h
 split at h
 ·split at h
  ·rename_i n; cases h; exact ⟨_,rfl,n,rfl⟩
  ·cases h
 ·cases h
theorem kx5 {a:D} {c:Addr} {p:Option Int}:Y1 a ≠ .ex c p:=by
 unfold Y1
 split
 ·split <;> exact fun h=>(by cases h)
 ·exact fun h=>(by cases h)
theorem kq5 {K:Frag} {H:Hp} {ds:List D} {x:V} (n:noLs ds = true) (q:Rep K (cfgB Cb) H (.brd 0 ds) x):∃ a dx fs l,x = .ref a /\ H a = some (.ins Cb dx fs) /\ fs.lookup ("cells" : Str) = some (.ref l) /\ Rep K (cfgB Cb) H (.lst ds) (.ref l):=by
 rw [Rep] at q
 refine x2_3 q fun a xs zo2 h2 h3=>?_
 clear q
 obtain rfl:=zo2
 rcases h2 with (⟨_,dx,fs,l,h4,h5,h6⟩ | ⟨c,z,_⟩) | ⟨z,_⟩
 ·refine ⟨a,dx,fs,l,rfl,h4,h5,?_⟩
  rw [Rep]
  exact ⟨l,xs,rfl,.of h6,h3.part (.er fun b m=>by rw [List.mem_singleton.mp m]; exact ⟨xs,h6⟩) _ n⟩
 ·unfold xTag at z; lia
 ·cases z
theorem qc2 (hC:Cls X.K Cb) (hA:NoAttr X.K Cb "cells") (ha:PE X a (tD X.K (cfgB Cb) G0 Γ E fa κa)) (hb:attributeBase a ("cells" : Str) X.env (eval a X.env) = eval a X.env:=by rfl):PE X (.Attribute a "cells" pos) (tD X.K (cfgB Cb) G0 Γ E (dUn Y1 fa) κa.item):=(va5 ha hb).imp fun σ H Q zz=>by
 refine x2_2 zz fun A st r q=>?_
 clear zz
 refine ⟨A,st,r,?_⟩
 unfold dUn R.bind at q
 cases ha:fa st with
 | bad=>rw [ha] at q; exact q
 | ex c p=>rw [ha] at q; exact q
 | ok a =>
  rw [ha] at q
  dsimp only at q
  intro x H1 e1 w1
  cases hg:Y1 a with
  | bad=>rw [hg] at q; exact q.elim
  | ex c p=>exact absurd hg kx5
  | ok d =>
   rw [hg] at q
   refine x1_3 (ku5 hg) fun ds zo1 n zo3=>?_
   obtain rfl:=zo1
   obtain rfl:=zo3
   have fin:∀ G:Hp,Same G H1 -> Rep X.K (cfgB Cb) G (.brd 0 ds) x -> (∀ v,Rep X.K (cfgB Cb) G (.lst ds) v -> Val X.K (cfgB Cb) κa.item G0 A H H1 (.lst ds) v) -> ∃ a C dx fs v,x = .ref a /\ H1 a = some (.ins C dx fs) /\ Cls X.K C /\ NoAttr X.K C "cells" /\ fs.lookup ("cells" : Str) = some v /\ Q v H1:=fun G e qa k=>by
    refine x4_4 (kq5 n qa) fun a dx fs l zo4 h1 h2 h3=>?_
    obtain rfl:=zo4
    exact ⟨a,Cb,dx,fs,.ref l,rfl,e _ _ h1,hC,hA,h2,q _ _ e1 (k _ h3)⟩
   cases κa with
   | new=>exact fin _ (v4 _ _) (w1.le r e1 (κ':=.old) rfl) fun v z=>z
   | nwo=>exact fin _ (v4 _ _) (w1.le r e1 (κ':=.old) rfl) fun v z=>z
   | loc=>exact fin _ (v4 _ _) (w1.le r e1 (κ':=.old) rfl) fun v z=>z
   | old=>exact fin _ (v4 _ _) w1 fun v z=>z
   | tmn=>exact fin _ (.refl _) w1.rep fun v z=>z
   | tmp=>exact fin _ (.refl _) w1 fun v z=>z
noncomputable def kk3 (K:Frag) (Cb:Addr) (Fc:List D -> R D):Sp:=fun vs H Q E=>∃ x dx ds v,vs = [.ref x,v] /\ H x = some (.ins Cb dx []) /\ Rep K (cfgB Cb) H (.lst ds) v /\ match Fc [.lst ds] with
 | .ok _=>noLs ds = true /\ ∀ l H' ys,H l = none -> (∀ b o,b ≠ x -> H b = some o -> H' b = some o) -> H' x = some (.ins Cb dx [("cells",.ref l)]) -> H' l = some (.lst ys) -> Reps K (cfgB Cb) H' ds ys -> Q .non H'
 | .ex c p=>∀ H',Same H H' -> exP E c p H'
 | .bad=>False
theorem qo7 {P:Program} {w:World} {K:Frag} {mg:Str -> Option Value} {base:Heap} {x qual:Str} {st:Stmt} {f:Addr} {fd:FuncData} {k:Nat} {Fc:List D -> R D} (F:Fun K x qual st f fd) (S:FnScope ["self","cells"] ["self","cells"] (j4 st)) (hC:Cls K Cb) (hA:NoAttr K Cb "cells")
  (hbody:∀ (cdv:Value) (A:Around) (outer:List Env) (s:Shared) (H:Hp) (E:XK),Room k (A.deeper (envOfC qual (j4 st) s.heap.objs.size f cdv)) ->
   PSs ((cxOf (CXr P w) P w K mg base ["self","cells"] qual (j4 st) f cdv A outer s H E).wish (Fly (cxOf (CXr P w) P w K mg base ["self","cells"] qual (j4 st) f cdv A outer s H E) fun _=>E)) (v6 st)
    (tSeq (qn7 (tD K (cfgB Cb) H [.par,.par] (fun _=>E) (dFn Fc (j0 (dVar 1) aNil)) κ)) (sFld K (tVar 0) (tD K (cfgB Cb) H [.par,.par] (fun _=>E) (dFn je5 (j0 (dVar 1) aNil)) .new) "cells"))) :
  FnOk P w K mg base (CXr P w) (k + 1) f fd ["self","cells"] (kk3 K Cb Fc):=by
 refine jq9 F S (fun vs H Q E zz1=>by obtain ⟨x,dx,ds,v,h,_⟩:=zz1; rw [h]; rfl) fun cdv A outer s H vs Q E hr zz2=>?_
 refine x4_4 zz2 fun x dx ds v hvs hx hd q=>?_
 clear zz2
 subst hvs
 have r0:RS K (cfgB Cb) H [.par,.par] [some (.ref x),some v] H [] [none,some (.lst ds)]:=⟨by rw [jr9]; exact .refl _,fun a m=>(by cases m),rfl,fun i d h=>(by
  match i,h with
  | 1,h =>
   cases h
   exact ⟨.par,v,rfl,rfl,by show Rep _ _ (er H []) _ _; rw [jr9]; exact hd⟩),fun i j n m p ds es hij g1=>(by
  match i,g1 with
  | 0,g1=>cases g1
  | 1,g1=>cases g1)⟩
 refine ⟨_,hbody cdv A outer s H E hr,[],[none,some (.lst ds)],r0,?_⟩
 have hf:dFn Fc (j0 (dVar 1) aNil) [none,some (.lst ds)] = Fc [.lst ds]:=rfl
 rw [hf]
 cases hF:Fc [.lst ds] with
 | bad=>rw [hF] at q; exact q
 | ex c p=>rw [hF] at q; exact q
 | ok d0 =>
  rw [hF] at q
  obtain ⟨n,q⟩:=q
  intro v1 H1 e1 w1
  refine ⟨[],[none,some (.lst ds)],r0.mono e1,?_⟩
  have hg:dFn je5 (j0 (dVar 1) aNil) [none,some (.lst ds)] = .ok (.lst ds):=by
   show je5 [.lst ds] = _
   unfold je5
   dsimp only
   rw [if_pos n]
  rw [hg]
  intro y H2 e2 w2
  refine x2_4 (w2.2 ds rfl) fun l ys zo2 nl hl rl=>?_
  obtain rfl:=zo2
  have hl2:H2 l = some (.lst ys):=jb1 _ _ _ _ hl
  have e12:=e1.trans e2
  have hx2:H2 x = some (.ins Cb dx []):=e12 _ _ hx
  have nlx:l ≠ x:=fun z=>by rw [z,e1 _ _ hx] at nl; cases nl
  refine ⟨.ref x,rfl,x,Cb,dx,[],rfl,hx2,hC,hA,by show 0 < 1000; decide,?_⟩
  have keep:Same (er H2 [x]) (upd H2 x (.ins Cb dx (putF "cells" (.ref l) []))):=fun b o z=>by
   by_cases hb:b = x
   ·rw [hb,jc4 (.head _)] at z; cases z
   ·rw [v7 hb]
    rw [v8 (by simpa using hb)] at z; exact z
  refine q l _ ys (e1.free nl) (fun b o hb z=>by rw [v7 hb]; exact e12 _ _ z) J1 (by rw [v7 nlx]; exact hl2) ?_
  have rl2:Reps K (cfgB Cb) H2 ds ys:=rl.same ((v4 _ _).trans (jb1 _ _)) _
  refine Reps.same keep _ (rl2.part ⟨v4 _ _,fun b xs z=>?_⟩ _ n)
  unfold Rd
  have:b ≠ x:=fun w=>by
   subst w
   rcases z with z | ⟨o,z⟩
   ·rw [hx2] at z; cases z
   ·rw [hx2] at z; cases z
  rw [v8 (by simpa using this)]; exact z
noncomputable def jq7 (Fc:List D -> R D):List D -> R D:=fun ds=>match ds with
 | [.lst es]=>(match Fc [.lst es] with | .ok _=>if noLs es = true then .ok (.brd 0 es) else .bad | .ex c p=>.ex c p | .bad=>.bad)
 | _=>.bad
theorem qh1 {X:Cx} {x:Str} {k:Nat} {fi:Addr} {fd:FuncData} {Fc:List D -> R D} {p:Pos} (M:Mk X.K Cb fi) (Fn:FnOk X.prog X.w X.K X.mg X.base (CXr X.prog X.w) k fi fd ["self","cells"] (kk3 X.K Cb Fc)) (hr:Room (k + 1) X.A) (hm:X.mg x = some (.ref Cb)) (hb:Binds X.K fd ["self","cells"] [])
  (ha:PA (X.wish (Fly X E)) [e] (tDA X.K (cfgB Cb) G0 Γ E fs κ)) (hg:Gl X x:=by rfl) (hdb:(x == ("__debug__" : Str)) = false:=by decide) (he:starEach [e] X.env = [(false,eval e X.env)]:=by rfl) :
  PE (X.wish (Fly X E)) (.Call (.Name x p) [e] [] pos) (tD X.K (cfgB Cb) G0 Γ E (dFn (jq7 Fc) fs) .new):=(qe4 M Fn hr hg hm hb ha hdb he).imp fun σ H Q zz=>by
 refine x2_2 zz fun A st r q=>?_
 clear zz
 refine ⟨A,st,r,?_⟩
 unfold dFn R.bind at q
 cases hf:fs st with
 | bad=>rw [hf] at q; exact q
 | ex c p=>rw [hf] at q; exact q
 | ok ds =>
  rw [hf] at q
  dsimp only at q
  intro vs H1 e1 w1 y dx hy hdx hne
  have s0:Same H1 (upd (upd H1 dx (.own y)) y (.ins Cb dx [])):=fun b o z=>by
   rw [v7 (y1 z hy),v7 (y1 z hdx)]; exact z
  match ds,q,w1 with
  | [.lst es],q,w1 =>
   refine x1_2 (js4 w1) fun v zo1 wv=>?_
   obtain rfl:=zo1
   refine ⟨y,dx,es,v,rfl,J1,(wv.same Kd.hp_all _).same s0 _,?_⟩
   unfold jq7 at q
   dsimp only at q
   cases hF:Fc [.lst es] with
   | bad=>rw [hF] at q; exact q
   | ex c p=>rw [hF] at q; exact fun H' e'=>q H' ((e1.trans s0).trans e')
   | ok d0 =>
    rw [hF] at q
    dsimp only at q
    by_cases n:noLs es = true
    ·rw [if_pos n] at q
     refine ⟨n,fun l H' ys nl kp hx' hl' rp=>⟨rfl,?_⟩⟩
     have e':Same H1 H':=fun b o z=>kp b o (y1 z hy) (s0 b o z)
     have eH:=e1.trans e'
     have hy0:H y = none:=e1.free hy
     have hl0:H l = none:=e1.free (s0.free nl)
     refine q _ _ eH ⟨?_,fun ds' z=>by cases z⟩
     rw [Rep]
     refine ⟨y,ys,rfl,.inl (.inl ⟨rfl,dx,_,l,by rw [jo7 hy0]; exact hx',rfl,by rw [jo7 hl0]; exact hl'⟩),rp.part (.nw eH) _ n⟩
    ·rw [if_neg n] at q; exact q.elim
  | [],q,_=>exact q.elim
  | [.non],q,_=>exact q.elim
  | [.bl _],q,_=>exact q.elim
  | [.int _],q,_=>exact q.elim
  | [.str _],q,_=>exact q.elim
  | [.tup _],q,_=>exact q.elim
  | [.brd _ _],q,_=>exact q.elim
  | d1 :: d2 :: dr,q,_ =>
   have:jq7 Fc (d1 :: d2 :: dr) = .bad:=by unfold jq7; cases d1 <;> rfl
   rw [this] at q; exact q.elim
end
end Dm
end T_Bd
section T_Bt
namespace Dm
open PySem PySem.Spec PyProof.Rows L2 PySem.W
section
variable {X:Cx} {C:Cfg} {Cb:Addr} {G0:Hp} {Γ:List SK} {E:L2.St -> XK} {κr:Bool} {e a b c:Expr} {f fa fb fc:DF} {κ κ' κa κb κc:Kd} {es rest:List Expr} {fs:DA} {pos:Pos} {s:Stmt} {ss:List Stmt} {F G:DS}
theorem jw3 {P:L2.St -> Prop} {n:Nat}:∀ (es:List Expr) (out:Str) (m:Nat),(∀ e ∈ es,PStr X P n e) -> out.length + es.length * n <= m -> m <= 100000 -> ∀ (pins:List (Addr × Obj)) (s:Shared) (σ:L2.St) (H:Hp) (Q:Value -> Shared -> Prop) (Ex:Value -> Shared -> Prop),L2.Inv X pins σ H s -> P σ -> (∀ x t s',L2.Inv X pins σ H s' -> x.length <= m -> Q (.str x t) s') -> wpAny (model X.prog X.w) X.A (joinParts out (evalEach es X.env)) Q Ex s
 | [],out,m,_,hl,hm,pins,s,σ,H,Q,Ex,I,p,q=>joinParts_nil (q _ _ _ (I.tok _) (by simp at hl; lia)) (by rw [sizeLine_eq]; simp at hl; lia)
 | e :: es,out,m,h,hl,hm,pins,s,σ,H,Q,Ex,I,p,q=>by
  show wpAny _ _ (joinParts out (eval e X.env :: evalEach es X.env)) Q Ex s
  refine joinParts_cons (h e (.head _) pins s σ H _ Ex I p fun x t s' I' hx=>?_)
  have hlen:(out ++ x).length = out.length + x.length:=strLen_append out x
  rw [List.length_cons,Nat.add_mul,Nat.one_mul] at hl
  refine ⟨by rw [hlen,sizeLine_eq]; lia,?_⟩
  exact jw3 es (out ++ x) m (fun e' m'=>h e' (.tail _ m')) (by rw [hlen]; lia) hm pins s' σ H Q Ex I' p q
theorem ka5 {P:L2.St -> Prop} {n:Nat} {v1 v2:Expr} {rest:List Expr} (h:∀ e ∈ v1 :: v2 :: rest,PStr X P n e) (hm:(v1 :: v2 :: rest).length * n <= 100000):PStr X P ((v1 :: v2 :: rest).length * n) (.JoinedStr (v1 :: v2 :: rest) pos):=fun pins s σ H Q Ex I p q =>
 JoinedStr_many (jw3 (v1 :: v2 :: rest) Str.empty _ h (by show 0 + _ <= _; lia) hm pins s σ H Q Ex I p q)
theorem kh0 {P:L2.St -> Prop} {n:Nat}:∀ e ∈ ([]:List Expr),PStr X P n e:=fun e h=>by cases h
theorem all_cons {P:L2.St -> Prop} {n:Nat} {e:Expr} {es:List Expr} (h:PStr X P n e) (t:∀ e ∈ es,PStr X P n e):∀ e' ∈ e :: es,PStr X P n e':=fun e' m=>by
 rcases List.mem_cons.mp m with rfl | m
 ·exact h
 ·exact t e' m
noncomputable def jc6 (c:Addr):DS:=fun st=>.ex c none st
theorem jj0 {x:Str} {K0:Addr} {B newId initId:String} {bm:List Value} {np cpos:Pos} {e₀:Expr} {X:Cx} {n:Nat} (FB:ExcBaseFacts B newId initId bm) (hh:X.A.handled = none) (hm:X.mg x = some (.ref K0)) (hc:exB X.K K0 bm newId = true) (ha:PStr (X.wish (Fly X E)) (fun _=>True) n e₀) (hg:Gl X x:=by rfl)
  (he:starEach [e₀] X.env = [(false,eval e₀ X.env)]:=by rfl) (hd:(x == ("__debug__" : Str)) = false:=by decide) :
  PS (X.wish (Fly X E)) (.Raise (some (.Call (.Name x np) [e₀] [] cpos)) none pos) (tDS X.K C G0 Γ E κr (jc6 K0)):=by
 have P1:PE (X.wish (Fly X E)) e₀ (fun σ H Q=>∀ x:Str,Q (.str x) H):=fun pins s σ H Q I q=>ha pins s σ H _ _ I trivial fun x t s' I' _=>⟨.str x,H,I',⟨t,rfl⟩,q x⟩
 refine (qj3 FB hh hm hc hg (W7 P1 jd5 he) he rfl hd).imp fun D σ H zz1=>?_
 refine x2_2 zz1 fun A st r q=>?_
 clear zz1
 intro x
 exact ⟨jy2 (by show 1 <= 100; decide),q σ H A r (.refl _)⟩
noncomputable def tyD:D -> Option String
 | .non=>some "NoneType" | .bl _=>some "bool" | .int _=>some "int" | .str _=>some "str" | .tup _=>some "tuple" | .lst _=>some "list" | .brd _ _=>none
theorem vf2 {pins:List (Addr × Obj)} {σ:L2.St} {H:Hp} {s:Shared} {d:D} {x:V} {u c:Value} {t:String} {b:Bool} {Q:Value -> Shared -> Prop} {Ex:Value -> Shared -> Prop} (I:L2.Inv X pins σ H s) (q:Rep X.K C H d x) (rx:RelV x u) (ht:tyD d = some t) (e:kitOne X.K (.type t) c = some b) (h:∀ tk,Q (.bool b) { s with toks:=tk }) :
  wpAny (model X.prog X.w) X.A (call (.builtin "isinstance") [u,c]) Q Ex s:=by
 cases d with
 | non=>rw [Rep] at q; subst q; cases ht; cases (show u = Value.none from rx); exact kia_one kitx_none I.kIn True.intro e (fun z=>nomatch z) h
 | bl y=>rw [Rep] at q; subst q; cases ht; cases (show u = Value.bool y from rx); exact kia_one kitx_bool I.kIn True.intro e (fun z=>nomatch z) h
 | int i=>rw [Rep] at q; subst q; cases ht; obtain ⟨t,q⟩:=(show ∃ t,u = Value.int i t from rx); cases q; exact kia_one kitx_int I.kIn True.intro e (fun z=>nomatch z) h
 | str y=>rw [Rep] at q; subst q; cases ht; obtain ⟨t,q⟩:=(show ∃ t,u = Value.str y t from rx); cases q; exact kia_one kitx_str I.kIn True.intro e (fun z=>nomatch z) h
 | tup ds =>
  rw [Rep] at q
  refine x2_3 q fun a xs zo2 h2 _=>?_
  clear q
  obtain rfl:=zo2
  cases ht
  cases (show u = Value.ref a from rx)
  refine x1_3 (I.tuple h2) fun its _ zo2 _=>?_
  obtain ⟨o,h1,h3,_⟩:=zo2
  exact kia_one kitx_tuple I.kIn ⟨o,h1,h3⟩ e (fun z=>nomatch z) h
 | lst ds =>
  refine x2_3 q.items fun a xs zo2 h2 _=>?_
  obtain rfl:=zo2
  cases ht
  cases (show u = Value.ref a from rx)
  refine x1_3 (I.list h2) fun its _ zo2 _=>?_
  obtain ⟨o,n,h1,h3,_⟩:=zo2
  exact kia_one kitx_list I.kIn ⟨o,h1,h3⟩ e (fun z=>nomatch z) h
 | brd _ _=>cases ht
noncomputable def gIsi (ans:String -> Option Bool):D -> R D:=fun d=>match tyD d with | some t=>(match ans t with | some b=>.ok (.bl b) | none=>.bad) | none=>.bad
theorem jq5 {T:String} {tx:Str} {p1 p2:Pos} {ans:String -> Option Bool} (hans:∀ t b,ans t = some b -> kitOne X.K (.type t) (.type T) = some b) (hm:X.mg "isinstance" = none) (hmT:X.mg tx = none) (hvT:bootBuiltins tx = some (.type T)) (ha:PE X a (tD X.K C G0 Γ E fa κa))
  (hg:Gl X "isinstance":=by rfl) (hgT:Gl X tx:=by rfl) (hnT:tx ≠ "__name__":=by decide) (hdT:(tx == ("__debug__" : Str)) = false:=by decide)
  (h1:starEach [a,Expr.Name tx p2] X.env = [(false,eval a X.env),(false,eval (.Name tx p2) X.env)]:=by rfl) (h2:starEach [Expr.Name tx p2] X.env = [(false,eval (.Name tx p2) X.env)]:=by rfl) :
  PE X (.Call (.Name "isinstance" p1) [a,.Name tx p2] [] pos) (tD X.K C G0 Γ E (dUn (gIsi ans) fa) .new):=by
 have hcall:CallR X (.builtin "isinstance") (fun xs H Q=>∃ x d t b,xs = [x,.ty T] /\ Rep X.K C H d x /\ tyD d = some t /\ ans t = some b /\ Q (.bl b) H):=fun pins s σ H xs us Q I r zz2=>by
  refine x4_5 zz2 fun x d t b hx hr ht hb q=>?_
  clear zz2
  subst hx
  refine x2_3 (qo3 r) fun u w' zo2 ru rw'=>?_
  obtain rfl:=zo2
  cases (show w' = Value.type T from rw')
  exact vf2 I hr ru ht (hans t b hb) fun tk=>⟨.bl b,H,I.tok _,rfl,q⟩
 have P2:PE X (.Name tx p2) (tC (.ty T)):=qr3 hgT hmT hvT rfl hnT hdT
 refine (J5 hcall hg hm (by decide +kernel) (W7 ha (W7 P2 jd5 h2) (by rw [h1,h2])) (by decide) (by decide) (by rw [h1,h2]) (by rw [h2]; rfl)).imp fun σ H Q zz3=>zz3.elim fun A zz4=>zz4.elim fun st zz5=>zz5.elim fun r q=>⟨A,st,r,?_⟩
 unfold dUn R.bind at q
 cases hf:fa st with
 | bad=>rw [hf] at q; exact q
 | ex c p=>rw [hf] at q; exact q
 | ok d =>
  rw [hf] at q
  dsimp only at q
  intro x H1 e1 w1
  unfold gIsi at q
  cases ht:tyD d with
  | none=>rw [ht] at q; exact q.elim
  | some t =>
   rw [ht] at q
   dsimp only at q
   cases hb:ans t with
   | none=>rw [hb] at q; exact q.elim
   | some b =>
    rw [hb] at q
    exact ⟨x,d,t,b,rfl,w1.rep,ht,hb,q _ H1 e1 (.flat r e1 (by rw [noL] <;> simp) repB _)⟩
end
end Dm
end T_Bt
section T_Gx
namespace Dm
open PySem PySem.Spec PyProof.Rows L2 PySem.W
theorem j2 {X:Cx} {C:Cfg} {G0:Hp} {Γ:List SK} {E:L2.St -> XK} {e:Expr} (i:Nat) (h:PE X e (tVar i)) (hk:Γ[i]? = some .par:=by rfl):PE X e (tD X.K C G0 Γ E (dVar i) .old):=qa9 i h hk
theorem jg6 {X:Cx} {C:Cfg} {G0:Hp} {Γ:List SK} {E:L2.St -> XK} {e:Expr} (i:Nat) (h:PE X e (tVar i)) (hk:Γ[i]? = some .loc:=by rfl):PE X e (tD X.K C G0 Γ E (dVar i) .loc):=qa9 i h hk
theorem jg3 {X:Cx} {C:Cfg} {G0:Hp} {Γ:List SK} {E:L2.St -> XK} {e:Expr} (i:Nat) (h:PE X e (tVar i)) (hk:Γ[i]? = some (.own true):=by rfl):PE X e (tD X.K C G0 Γ E (dVar i) .tmn):=qa9 i h hk
theorem w5 {X:Cx} {C:Cfg} {G0:Hp} {Γ:List SK} {E:L2.St -> XK} {a b:Expr} {fa fb:DF} {κa κb:Kd} {pos:Pos} (ha:PE X a (tD X.K C G0 Γ E fa κa)) (hb:PE X b (tD X.K C G0 Γ E fb κb)) (hs:kh6 b) (hk:κa.item = .old:=by rfl):PE X (.Subscript a b pos) (tD X.K C G0 Γ E (dOp gIx fa fb) .old):=hk ▸ va9 ha hb hs
theorem jl8 {X:Cx} {Cb:Addr} {G0:Hp} {Γ:List SK} {E:L2.St -> XK} {a:Expr} {fa:DF} {κa:Kd} {pos:Pos} (hC:Cls X.K Cb) (hA:NoAttr X.K Cb "cells") (ha:PE X a (tD X.K (cfgB Cb) G0 Γ E fa κa)) (hb:attributeBase a ("cells" : Str) X.env (eval a X.env) = eval a X.env:=by rfl) (hk:κa.item = .old:=by rfl):PE X (.Attribute a "cells" pos) (tD X.K (cfgB Cb) G0 Γ E (dUn Y1 fa) .old):=hk ▸ qc2 hC hA ha hb
noncomputable def Fn1 (K:Frag) (mg:Str -> Option Value) (x qual:Str) (st:Stmt) (ps:List Str):Prop:=∃ a fd,Fun K x qual st a fd /\ mg x = some (.ref a) /\ Binds K fd ps []
noncomputable def AllL (n:Nat) (P:List Value -> Prop):Prop:=match n with | 0=>P [] | n + 1=>∀ u,AllL n fun us=>P (u :: us)
theorem allL {n:Nat} {P:List Value -> Prop} (h:AllL n P) {us:List Value} (hl:us.length = n):P us:=by
 subst hl
 induction us generalizing P with
 | nil=>exact h
 | cons u us ih=>exact ih (h u)
theorem jt0 {K:Frag} {x qual:Str} {st:Stmt} {f:Addr} {fd:FuncData} {ps:List Str} (F:Fun K x qual st f fd) (h:∀ (kV doc pm:Value) (an:Option Addr) (cdv ct:Value),AllL ps.length fun us=>bindArgs (PySem.W.fnOf x qual (w6 st) (v6 st) (j4 st) .none kV doc pm an cdv ct) ⟨us,[]⟩ = pure (ps.zip us)):Binds K fd ps []:=F.binds fun kV doc pm an cdv ct us hl=>allL (h kV doc pm an cdv ct) hl
theorem U9 {K:Frag} {h:Heap} {mg:Str -> Option Value} {x:Str} {st:Stmt} {ps:List Str} {f:Addr} {oc:Value} {od an:Option Addr} {osl:Array (Option Value)} {kV doc pm cdv ct:Value} (X:K.In h) (G:h.Ns mainGlobals mg) (a:nsIn K mainGlobals x = some (some (.ref f))) (l:K.lookup f = some ⟨oc,od,.func (PySem.W.fnOf x x (w6 st) (v6 st) (j4 st) .none kV doc pm an cdv ct),osl⟩)
  (c:PySem.W.codeIn K cdv x = true) (k:PySem.W.keepIn K (.ref f) = true) (hb:∀ (kV doc pm:Value) (an:Option Addr) (cdv ct:Value),AllL ps.length fun us=>bindArgs (PySem.W.fnOf x x (w6 st) (v6 st) (j4 st) .none kV doc pm an cdv ct) ⟨us,[]⟩ = pure (ps.zip us)):Fn1 K mg x x st ps :=
 ⟨_,_,jx2 (st:=st) l c k,mg_of X G a,jt0 (jx2 (st:=st) l c k) hb⟩
structure FD (P:Program) (w:World) (K:Frag) (mg:Str -> Option Value) (base:Heap) (C:Cfg) (k:Nat) (x:Str) (ps:List Str) (n:Nat) (F:List D -> R D) (κ:Bool):Prop where
 ex:∃ a fd,FnOk P w K mg base (CXr P w) k a fd ps (spD K C n F κ) /\ mg x = some (.ref a) /\ keepIn K (.ref a) = true /\ Binds K fd ps [] /\ ∃ o,K.lookup a = some o /\ o.data = .func fd
theorem kb1 {K:Frag} {x qual:Str} {st:Stmt} {a:Addr} {fd:FuncData} (F:Fun K x qual st a fd):∃ o,K.lookup a = some o /\ o.data = .func fd:=by
 refine x9_3 F.ex fun oc od kV doc pm an cdv ct osl e lk hcd=>?_
 exact ⟨_,lk,rfl⟩
theorem jc3 {P:Program} {w:World} {K:Frag} {mg:Str -> Option Value} {base:Heap} {C:Cfg} {x qual:Str} {st:Stmt} {N ps:List Str} {Γ:List SK} {k n:Nat} {κr:Bool} {Fb:DS} (T:Fn1 K mg x qual st ps) (S:FnScope N ps (j4 st)) (hn:ps.length = n) (hΓ:∀ i,i < n -> Γ[i]? = some .par)
  (body:∀ (f:Addr) (cdv:Value) (A:Around) (outer:List Env) (s:Shared) (H:Hp) (E:XK),Room k (A.deeper (envOfC qual (j4 st) s.heap.objs.size f cdv)) ->
   PSs ((cxOf (CXr P w) P w K mg base N qual (j4 st) f cdv A outer s H E).wish (Fly (cxOf (CXr P w) P w K mg base N qual (j4 st) f cdv A outer s H E) fun _=>E)) (v6 st) (tDS K C H Γ (fun _=>E) κr Fb)) :
  FD P w K mg base C (k + 1) x ps n (J9 N.length Fb) κr:=by
 refine x2_3 T fun a fd Fu hm hb=>?_
 clear T
 exact ⟨a,fd,vc9 Fu S hn hΓ (body a),hm,Fu.kp,hb,kb1 Fu⟩
theorem j8 {X:Cx} {C:Cfg} {G0:Hp} {Γ:List SK} {E:L2.St -> XK} {e:Expr} {es:List Expr} {fs:DA} {κ:Kd} {pos p:Pos} {x:Str} {k j n:Nat} {ps:List Str} {F:List D -> R D} {κc:Bool} {κc':Kd} (Fn:FD X.prog X.w X.K X.mg X.base C k x ps n F κc) (hr:Room j X.A) (hj:k <= j)
  (ha:PA (X.wish (Fly X E)) (e :: es) (tDA X.K C G0 Γ E fs κ)) (hlen:∀ st ds,fs st = .ok ds -> ds.length = n) (hkc:qm9 κc = κc':=by rfl) (hg:Gl X x:=by rfl) (hdb:(x == ("__debug__" : Str)) = false:=by decide) (he:starEach (e :: es) X.env = (false,eval e X.env) :: starEach es X.env:=by rfl) (hpl:(backTo pos (starEach es X.env)).any (·.1) = false:=by rfl) :
  PE (X.wish (Fly X E)) (.Call (.Name x p) (e :: es) [] pos) (tD X.K C G0 Γ E (dFn F fs) κc'):=by
 refine x2_5 Fn.ex fun a fd h1 h2 h3 h4 _=>?_
 subst hkc
 exact qr8 h1 (hr.mono hj) h2 h3 h4 ha hlen hg hdb he hpl
theorem kq1 {P:Program} {w:World} {K:Frag} {mg:Str -> Option Value} {base:Heap} {x qual:Str} {st:Stmt} {f:Addr} {fd:FuncData} {N ps:List Str} {k:Nat} {sp:Sp} (F:Fun K x qual st f fd) (S:FnScope N ps (j4 st)) (len:∀ vs H Q E,sp vs H Q E -> vs.length = ps.length)
  (hbody:∀ (cdv:Value) (A:Around) (outer:List Env) (s:Shared) (H:Hp) (vs:List V) (Q:VK) (E:XK),Room k (A.deeper (envOfC qual (j4 st) s.heap.objs.size f cdv)) -> sp vs H Q E ->
   ∃ t,PSs0 ((cxOf (CXr P w) P w K mg base N qual (j4 st) f cdv A outer s H E).wish (Fly (cxOf (CXr P w) P w K mg base N qual (j4 st) f cdv A outer s H E) fun _=>E)) (v6 st) t /\ t { nx:=fun _ H'=>Q .non H',rt:=Q } (L2.start N vs) H) :
  FnOk P w K mg base (CXr P w) (k + 1) f fd ps sp:=by
 refine x9_3 F.ex fun oc od kV doc pm an cdv ct osl zo9 lk hcd=>?_
 obtain rfl:=zo9
 refine ⟨len,fun A outer s H args us vs Q E hr e0 hb r hsp=>?_⟩
 have hl:=len _ _ _ _ hsp
 have KX:K.In s.heap:=e0.mod.kin.keeps fun b o e=>(e0.bs b o e).1
 have lim:s.heap.NoLimit:=e0.mod.nolimit.keeps fun b o e=>(e0.bs b o e).1
 have hkind:∀ y ∈ ps.zip us,(j4 st).names.lookup y.1 = some .local \/ ((j4 st).names.lookup y.1 = some .cell /\ ((cellsFrom (s.heap.objs.size + 1) (j4 st).names []).lookup y.1).isSome = true):=fun zz1 hy=>by
  obtain ⟨n,v⟩:=zz1
  rcases S.par n (List.of_mem_zip hy).1 with q | q
  ·exact .inl q
  ·exact .inr ⟨q,PySem.W.cellsFrom_some _ _ _ (.inl q)⟩
 refine codeAny_call_function hr.depth (KX _ _ lk) rfl S.co S.gen rfl (PySem.W.codeRec_of KX hcd) (hb _ _ _ _ ?_)
 refine wpAny_newFunctionEnv_cells S.kind hkind fun env he s1 x=>?_
 subst he
 refine ⟨lim.keeps x.toInCall.keep,codeAny_func ?_⟩
 refine x1_2 (hbody cdv A outer s H vs Q E (hr.deeper _) hsp) fun t ht hq=>?_
 have I:L2.Inv (cxOf (CXr P w) P w K mg base N qual (j4 st) f cdv A outer s H E) [] (L2.start N vs) H s1:=ke5 S hr.hd e0 hl r x
 refine wpAny_mono (ht s1 (L2.start N vs) H _ (I.wish _) hq) (fun fl s' hs=>?_) fun e s' hs=>kf7 hs
 have hs:=SP.unwish hs
 have fin:∀ {σ':L2.St} {H':Hp} {v:V} {u:Value},L2.Inv (cxOf (CXr P w) P w K mg base N qual (j4 st) f cdv A outer s H E) [] σ' H' s' -> RelV v u -> Q v H' -> CE outer P w H s Q u s' :=
  fun {σ' H' v u} J rv q=>⟨v,H',J.os,J.bare,J.base,J.hok,rv,q⟩
 cases fl with
 | ret u =>
  refine x3_3 hs fun v σ' H' J rv q=>?_
  clear hs
  exact fin J rv q
 | next =>
  refine x2_2 hs fun σ' H' J q=>?_
  clear hs
  exact fin (v:=V.non) (u:=Value.none) J rfl q
 | brk =>
  refine x2_2 hs fun _ _ _ q=>?_
  clear hs
  exact False.elim q
 | cont =>
  refine x2_2 hs fun _ _ _ q=>?_
  clear hs
  exact False.elim q
theorem qq4 {P:Program} {w:World} {K:Frag} {C:Cfg} {Γ:List SK} {mg:Str -> Option Value} {base:Heap} {x qual:Str} {st:Stmt} {f:Addr} {fd:FuncData} {N ps:List Str} {k n:Nat} {κr:Bool} {Fb:DS} (F:Fun K x qual st f fd) (S:FnScope N ps (j4 st)) (hn:ps.length = n) (hΓ:∀ i,i < n -> Γ[i]? = some .par)
  (body:∀ (cdv:Value) (A:Around) (outer:List Env) (s:Shared) (H:Hp) (E:XK),Room k (A.deeper (envOfC qual (j4 st) s.heap.objs.size f cdv)) ->
   PSs0 ((cxOf (CXr P w) P w K mg base N qual (j4 st) f cdv A outer s H E).wish (Fly (cxOf (CXr P w) P w K mg base N qual (j4 st) f cdv A outer s H E) fun _=>E)) (v6 st) (tDS K C H Γ (fun _=>E) κr Fb)) :
  FnOk P w K mg base (CXr P w) (k + 1) f fd ps (spD K C n (J9 N.length Fb) κr):=by
 refine kq1 F S (fun vs H Q E zz2=>by obtain ⟨ds,h1,h2,_⟩:=zz2; rw [h2.len,h1,hn]) fun cdv A outer s H vs Q E hr zz3=>?_
 refine x1_3 zz3 fun ds h1 h2 q=>?_
 clear zz3
 refine ⟨_,body cdv A outer s H E hr,[],_,kl2 h1 hΓ h2,?_⟩
 unfold J9 at q
 cases hf:Fb (ds.map some ++ List.replicate (N.length - ds.length) none) with
 | nx st' =>
  rw [hf] at q
  intro σ' H' A' r' e'
  refine q .non H' (r'.g0) ?_
  have R:∀ H:Hp,Rep K C H .non .non:=fun H=>by rw [Rep]
  cases κr with
  | true=>exact ⟨R (nw H H'),fun ds z=>by cases z⟩
  | false=>exact R H'
 | bk st'=>rw [hf] at q; exact q.elim
 | ct st'=>rw [hf] at q; exact q.elim
 | rt d=>rw [hf] at q; exact q
 | ex c p st'=>rw [hf] at q; exact fun σ' H' A' r' e'=>q H' r'.g0
 | bad=>rw [hf] at q; exact q.elim
theorem qw6 {P:Program} {w:World} {K:Frag} {mg:Str -> Option Value} {base:Heap} {C:Cfg} {x qual:Str} {st:Stmt} {N ps:List Str} {Γ:List SK} {k n:Nat} {κr:Bool} {Fb:DS} (T:Fn1 K mg x qual st ps) (S:FnScope N ps (j4 st)) (hn:ps.length = n) (hΓ:∀ i,i < n -> Γ[i]? = some .par)
  (body:∀ (f:Addr) (cdv:Value) (A:Around) (outer:List Env) (s:Shared) (H:Hp) (E:XK),Room k (A.deeper (envOfC qual (j4 st) s.heap.objs.size f cdv)) ->
   PSs0 ((cxOf (CXr P w) P w K mg base N qual (j4 st) f cdv A outer s H E).wish (Fly (cxOf (CXr P w) P w K mg base N qual (j4 st) f cdv A outer s H E) fun _=>E)) (v6 st) (tDS K C H Γ (fun _=>E) κr Fb)) :
  FD P w K mg base C (k + 1) x ps n (J9 N.length Fb) κr:=by
 refine x2_3 T fun a fd Fu hm hb=>?_
 clear T
 exact ⟨a,fd,qq4 Fu S hn hΓ (body a),hm,Fu.kp,hb,kb1 Fu⟩
theorem km0 {cl cs:List (Str × Addr)} (h:∀ p ∈ cl,cs.lookup p.1 = some p.2):∀ x c,cl.lookup x = some c -> cs.lookup x = some c:=fun x c e=>by
 induction cl with
 | nil=>cases e
 | cons p cl ih =>
  obtain ⟨n,a⟩:=p
  rw [List.lookup_cons] at e
  by_cases hx:(x == n) = true
  ·rw [hx] at e
   cases e
   rw [beq_iff_eq.mp hx]
   exact h (n,c) (.head _)
  ·rw [Bool.not_eq_true] at hx
   rw [hx] at e
   exact ih (fun q m=>h q (.tail _ m)) e
theorem jx3 {β:Type} {x:Str} {k:β}:∀ {names:List (Str × β)},names.lookup x = some k -> (x,k) ∈ names
 | [],e=>by cases e
 | (n,k') :: ns,e=>by
  rw [List.lookup_cons] at e
  by_cases hx:(x == n) = true
  ·rw [hx] at e
   cases e
   rw [beq_iff_eq.mp hx]; exact .head _
  ·rw [Bool.not_eq_true] at hx
   rw [hx] at e
   exact .tail _ (jx3 e)
theorem ka4 {names:List (Str × NameKind)} {cl:List (Str × Addr)} (h:(names.all fun p=>(p.2 != .cell && p.2 != .free) || (cl.lookup p.1).isSome) = true):∀ x,(names.lookup x = some .cell \/ names.lookup x = some .free) -> ∃ c,cl.lookup x = some c:=fun x e=>by
 have go:∀ {k:NameKind},names.lookup x = some k -> (k != .cell && k != .free) = false -> ∃ c,cl.lookup x = some c:=fun {k} e hk=>by
  have:=List.all_eq_true.mp h _ (jx3 e)
  dsimp only at this
  rw [hk,Bool.false_or] at this
  exact Option.isSome_iff_exists.mp this
 rcases e with e | e
 ·exact go e rfl
 ·exact go e rfl
theorem kb4 {X:Cx} {C:Cfg} {G0:Hp} {Γ:List SK} {E:L2.St -> XK} {tg iter elt:Expr} {ifs:List Expr} {scope:Scope} {cl:List (Str × Addr)} {pos:Pos} {g:TG} {bind:DB} {gi:DI} {ft fe:DF} {κe κc:Kd} {n z:Bool} {tgs:List Str} {caps:List (Nat × Str)} {kk:Nat} {fr:List Nat}
  (hsrc:PI X tg iter (tDI X.K C G0 Γ E z gi)) (b:Blk X C G0 Γ tg elt ifs scope cl g bind ft fe κe n z tgs caps) (hs:∀ x,foldedSetIterable iter X.env x = pure x:=by intro _; rfl) (hk:ki2 z n = κc:=by rfl) (h1:tgs.length = kk:=by rfl) (h2:caps.map (·.1) = fr:=by rfl) :
  PE X (.ListComp elt [⟨tg,iter,ifs,0⟩] scope pos) (tD X.K C G0 Γ E (jm7 gi kk fr bind ft fe) κc):=by
 subst hk; subst h1; subst h2
 exact qu5 hsrc b hs
theorem qi7 {X:Cx} {C:Cfg} {G0:Hp} {Γ:List SK} {E:L2.St -> XK} {κr:Bool} {tg iter elt:Expr} {ifs:List Expr} {scope:Scope} {cl:List (Str × Addr)} {pos:Pos} {g:TG} {bind:DB} {gi:DI} {ft fe:DF} {κe:Kd} {n z:Bool} {tgs:List Str} {caps:List (Nat × Str)} {kk:Nat} {fr:List Nat}
  {i:Nat} {k:SK} {x:Str} {pos' spos:Pos} (hN:X.N.Nodup) (hsrc:PI X tg iter (tDI X.K C G0 Γ E z gi)) (b:Blk X C G0 Γ tg elt ifs scope cl g bind ft fe κe n z tgs caps) (hk:Γ[i]? = some k:=by rfl) (hl:k.takes (ki2 z n) = true:=by rfl) (hi:X.N[i]? = some x:=by rfl) (hx:X.env.scope.names.lookup x = some .local:=by rfl)
  (hsw:swapsWith (.ListComp elt [⟨tg,iter,ifs,0⟩] scope pos) (some (.Name x pos')) spos.line X.env = pure true:=by rfl) (hs:∀ x,foldedSetIterable iter X.env x = pure x:=by intro _; rfl) (h1:tgs.length = kk:=by rfl) (h2:caps.map (·.1) = fr:=by rfl) :
  PS X (.Assign [.Name x pos'] (.ListComp elt [⟨tg,iter,ifs,0⟩] scope pos) spos) (tDS X.K C G0 Γ E κr (dAsg i (jm7 gi kk fr bind ft fe))):=by
 subst h1; subst h2
 exact qt3 hN hsrc b hk hl hi hx hsw hs
theorem hobB {Cb:Addr} (c:Addr) (p:Option Int) (K:Frag) (H:Hp) (a:Addr) (h:ObX c p H a):(cfgB Cb).ob (xTag c) K H a (payV p):=by
 cases p with
 | none=>exact .inl (.inr ⟨c,rfl,.inl ⟨rfl,h⟩⟩)
 | some n =>
  obtain ⟨dx,h1,h2⟩:=h
  exact .inl (.inr ⟨c,rfl,.inr ⟨n,dx,rfl,h1,h2⟩⟩)
end Dm
end T_Gx
section T_En
namespace Dm
open PySem PySem.Spec PyProof.Rows L2
noncomputable def Ite (K:PySem.W.Frag) (a:Addr):It :=
 ⟨fun i H=>∃ xs x,SqL K H a xs /\ xs[i]? = some x,fun i H x H'=>∃ T y,H T = none /\ H' = upd H T (.tup [.int i,y]) /\ x = .ref T /\ ∀ xs,SqL K H a xs -> xs[i]? = some y,fun i H=>∃ xs,SqL K H a xs /\ xs.length <= i⟩
theorem kv4 {P:Program} {w:World} {K:PySem.W.Frag} {elts:List Expr} {x1} {pos:Pos} (a e it:Addr) (hei:e ≠ it):Turn P w K (.Tuple elts x1 pos) (Ite K a) [e,it] e (fun i h=>(∃ old,IsEnum h e it i old) /\ h.IsListIter it a i) where
 mem:=by simp
 obj:=fun i h st b hb=>by
  obtain ⟨⟨old,he⟩,o,ho,c,d⟩:=st
  rcases List.mem_cons.mp hb with rfl | hb
  ·exact ⟨_,he,fun v z=>by cases z⟩
  ·obtain rfl:b = it:=by simpa using hb
   exact ⟨o,ho,fun v z=>by rw [d] at z; cases z⟩
 keep:=fun i h h' st k=>⟨st.1.imp fun old he=>k e (by simp) _ he,st.2.at fun o z=>k it (by simp) o z⟩
 item:=by
  intro X hP hw hK hc i pins s σ H E I hf st hg
  subst hP hw hK
  obtain ⟨⟨old,he⟩,hit⟩:=st
  refine x2_2 hg fun xs x hq hx=>?_
  clear hg
  refine x1_3 (I.list hq) fun its rv p hz=>?_
  refine x1_2 (rv.get hx) fun u hu ru=>?_
  have fe:=hf e (by simp)
  have fi:=hf it (by simp)
  have hn:H s.heap.objs.size = none:=I.hok.fresh (Nat.le_refl _)
  refine wpAny_pyNext_enum_item he hit p.isList (x:=u) (by simpa using hu) hei fun h' ho hit' hT hsz hk=>⟨_,rfl,?_⟩
  have kp:∀ b o,b ∉ [e,it] -> s.heap.get? b = some o -> h'.get? b = some o:=fun b o hb q=>hk b o (fun z=>hb (by simp [z])) (fun z=>hb (by simp [z])) q
  have lt:∀ b o,s.heap.get? b = some o -> b ≠ s.heap.objs.size:=fun b o q=>Nat.ne_of_lt (Heap.lt_size q)
  have I1:L2.Inv X pins σ (upd H s.heap.objs.size (.tup [.int i,x])) { s with heap:=h',toks:=s.toks + 1 }:=by
   refine Inv.call' I (s':={ s with heap:=h',toks:=s.toks + 1 }) (ch:=[e,it]) rfl ⟨fun b o q n nf nx=>kp b o nx q,fun b o q n nf nx=>⟨o.slots,kp b o nx q⟩,fun b o q n nx=>?_,fun b o q nx=>⟨o,kp b o nx q⟩,fun b ys q=>?_,fun b o u' q=>?_,fun b ps q=>⟨#[],?_⟩⟩ (fun b o q=>?_) I.bare (fun b hb=>?_)
   ·rw [v7 (lt b o q)]; exact n
   ·rw [v7 (y1 q hn)]; exact q
   ·rw [v7 (y1 q hn)]; exact q
   ·rw [v7 (y1 q hn),q]; simp
   ·by_cases hb:b = s.heap.objs.size
    ·subst hb
     rw [J1] at q; cases q
     exact ⟨by simp only [List.length_cons,List.length_nil]; rw [sizeLine_eq]; decide,[.int i s.toks,u],.cons ⟨_,rfl⟩ (.cons ru .nil),⟨_,hT,rfl,0,rfl⟩⟩
    ·rw [v7 hb] at q
     refine (I.hok b o q).stay (fun c v hc' z=>kp c v ?_ z) (fun c z=>by rw [v7 (y1 z hn)]; exact z) fun c ys z=>by rw [v7 (y1 z hn)]; exact z
     intro hm
     rcases List.mem_cons.mp hm with rfl | hm
     ·rcases hc' with rfl | hc'
      ·rw [fe.1] at q; cases q
      ·rw [fe.1] at hc'; cases hc'
     ·obtain rfl:c = it:=by simpa using hm
      rcases hc' with rfl | hc'
      ·rw [fi.1] at q; cases q
      ·rw [fi.1] at hc'; cases hc'
   ·refine x0_6 (hf b hb) fun f0 f1 f2 f3 f4 f5=>?_
    exact ⟨f3,f1,f4,f5⟩
  have ne:e ≠ s.heap.objs.size:=lt e _ he
  have ni:it ≠ s.heap.objs.size:=by obtain ⟨o,z,_⟩:=hit; exact lt it _ z
  refine x0_6 fe fun f0 f1 f2 f3 f4 f5=>?_
  clear fe
  refine wpAny_letOwnedTupleGo_enum ho fun h2 he2 hs2=>?_
  have I2:L2.Inv X pins σ (upd H s.heap.objs.size (.tup [.int i,x])) { s with heap:=h2,toks:=s.toks + 1 }:=I1.turned (t':=s.toks + 1) (fun b o hb q=>(hs2.2 b hb).trans q) (by rw [v7 ne]; exact f0) f1 f3 f4 f5
  refine ⟨.ref s.heap.objs.size,_,I2,rfl,⟨_,x,hn,rfl,rfl,fun ys hy=>by rw [I.list_inj hy hq]; exact hx⟩,⟨⟨u,by simpa using he2⟩,hit'.at fun o z=>(hs2.2 it (Ne.symm hei)).trans z⟩,fun b hb=>?_⟩
  rcases List.mem_cons.mp hb with rfl | hb
  ·rw [v7 ne]; exact f0
  ·obtain rfl:b = it:=by simpa using hb
   rw [v7 ni]; exact fi.1
 done:=by
  intro X hP hw hK hc i pins s σ H E I hf st hg
  subst hP hw hK
  obtain ⟨⟨old,he⟩,hit⟩:=st
  refine x1_2 hg fun xs hq hx=>?_
  clear hg
  refine x1_3 (I.list hq) fun its rv p hz=>?_
  refine x0_6 (hf it (by simp)) fun f0 f1 f2 f3 f4 f5=>?_
  have hl:=rv.length
  exact wpAny_pyNext_enum_end (I.ok.hd hc) he hit p.isList (Array.getElem?_eq_none (by simp; lia)) fun h' eb=>⟨rfl,I.turned (t':=s.toks) (fun b o hb e=>eb b o hb e) f0 f1 f3 f4 f5⟩
 self:=fun _ _ _ _ _ st h=>by
  obtain ⟨⟨old,he⟩,_⟩:=st
  exact wpAny_pyIter_enum he h
noncomputable def iEn (K:PySem.W.Frag) (ta:TA):TI:=fun σ H R=>ta σ H fun vs H1=>∃ a,vs = [.ref a] /\ (∃ xs,SqL K H1 a xs) /\ R (Ite K a) H1
theorem kt6:bootBuiltins "enumerate" = some (.type "enumerate"):=by decide +kernel
section
variable {X:Cx} {C:Cfg} {G0:Hp} {Γ:List SK} {E:L2.St -> XK} {iter elt a tg:Expr} {f:DF} {fs:DA} {κ:Kd} {pos:Pos} {z:Bool} {elts:List Expr} {x1:Nat} {F:DS} {κr:Bool} {ss:List Stmt}
theorem qm3 {p pos tp:Pos} {ta:TA} (hg:Gl X "enumerate") (hm:X.mg "enumerate" = none) (ha:PA X [a] ta) (hs:starEach [a] X.env = [(false,eval a X.env)]:=by rfl):PI X (.Tuple elts x1 tp) (.Call (.Name "enumerate" p) [a] [] pos) (iEn X.K ta):=by
 intro pins s σ H R I h
 refine Call_ (kc3 I hg hm kt6 (PyProof.Rows.callWith_type1 (thn (ha pos pins s σ H _ I h) fun us s1 zz1=>?_) hs rfl))
 refine x2_3 zz1 fun vs H1 I1 r1 q1=>?_
 clear zz1
 refine x1_3 q1 fun a e zo2 q=>?_
 clear q1
 obtain ⟨xs,hq⟩:=zo2
 subst e
 cases r1 with
 | cons r rr =>
  cases rr
  cases r
  refine x1_3 (I1.list hq) fun its rv p hz=>?_
  refine call_enumerate_list p.isList fun h' he hit hsz hk=>wpAny_pyIter_enum he ?_
  have I2:L2.Inv X pins σ H1 { s1 with heap:=h' }:=I1.kept (t':=s1.toks) hk
  refine ⟨s1.heap.objs.size + 1,[s1.heap.objs.size + 1,s1.heap.objs.size],_,_,H1,rfl,I2,kv4 a _ _ (Nat.succ_ne_self _),⟨⟨.none,he⟩,hit⟩,fun b hb=>?_,q⟩
  have hb':s1.heap.objs.size <= b:=by
   rcases List.mem_cons.mp hb with rfl | hb
   ·exact Nat.le_succ _
   ·obtain rfl:b = s1.heap.objs.size:=by simpa using hb
    exact Nat.le_refl _
  exact I1.fpOk hb' (I1.hok.fresh hb')
noncomputable def enD (ds:List D):List D:=ds.mapIdx fun i d=>.tup [.int i,d]
noncomputable def iEnu (f:DF):DI:=fun st=>match f st with | .ok (.lst ds)=>.ok (enD ds) | .ok _=>.bad | .ex c p=>.ex c p | .bad=>.bad
theorem kg7 {p tp:Pos} (hm:X.mg "enumerate" = none) (ha:PE X a (tD X.K C G0 Γ E f κ)) (l:z = true -> κ.le .old = true) (hgl:Gl X "enumerate":=by rfl) (hs1:starEach [a] X.env = [(false,eval a X.env)]:=by rfl):PI X (.Tuple elts x1 tp) (.Call (.Name "enumerate" p) [a] [] pos) (tDI X.K C G0 Γ E z (iEnu f)):=(qm3 hgl hm (W7 ha jd5 hs1) hs1).imp fun σ H Q zz=>by
 refine x2_2 zz fun A st r q=>?_
 clear zz
 refine ⟨A,st,r,?_⟩
 unfold iEnu at q
 cases hf:f st with
 | bad=>rw [hf] at q; exact q
 | ex c p=>rw [hf] at q; exact q
 | ok d =>
  rw [hf] at q
  cases d with
  | lst ds =>
   dsimp only at q
   intro v H1 e1 w
   have w':Rep X.K C (er H1 (zB z A)) (.lst ds) v:=by
    unfold zB
    cases z with
    | true=>exact w.le r e1 (κ':=.old) (l rfl)
    | false=>rw [if_neg (by decide),jr9]; exact w.rep
   rw [Rep] at w'
   refine x2_3 w' fun a xs zo2 h2 h3=>?_
   clear w'
   obtain rfl:=zo2
   refine ⟨a,rfl,⟨xs,(v4 _ _).seq h2⟩,q _ _ e1 fun i H3 A3 e3 nA=>⟨fun d hd=>?_,fun hd=>?_⟩⟩
   ·unfold enD at hd
    rw [List.getElem?_mapIdx] at hd
    cases hd0:ds[i]? with
    | none=>rw [hd0] at hd; cases hd
    | some d0 =>
     rw [hd0] at hd; cases hd
     refine x1_2 (h3.get' hd0) fun v hv rv=>?_
     have s3:SqL X.K H3 a xs:=(e3.trans (v4 _ _)).seq h2
     refine ⟨⟨xs,v,s3,hv⟩,fun x H' zz2=>?_⟩
     refine x2_4 zz2 fun T y hT hH ex hx=>?_
     clear zz2
     subst hH ex
     have:=hx xs s3
     rw [hv] at this; cases this
     have nT:T ∉ A3:=fun m=>nA T m hT
     refine ⟨Z7 hT,?_⟩
     have up:Same (er H3 A3) (er (upd H3 T (.tup [.int i,v])) A3):=q8 (Z7 hT)
     rw [Rep]
     refine ⟨T,_,rfl,.inl (.inl (by rw [v8 nT,J1])),?_⟩
     rw [Reps]
     refine ⟨.int i,[v],rfl,repI,?_⟩
     rw [Reps]
     refine ⟨v,[],rfl,rv.same ((v4 _ _).trans (e3.trans up)) _,?_⟩
     rw [Reps]
   ·unfold enD at hd
    rw [List.getElem?_mapIdx] at hd
    refine ⟨xs,(e3.trans (v4 _ _)).seq h2,by rw [h3.len]; exact List.getElem?_eq_none_iff.mp (by cases hd0:ds[i]? with | none=>rfl | some d=>rw [hd0] at hd; cases hd)⟩
  | _=>exact q.elim
theorem kr6 {bind:DB} {g:TG} {gi:DI} (hp:PassesOwn (model X.prog X.w) X.A X.env X.xe) (hc:X.calm = true) (hI:PI X tg iter (tDI X.K C G0 Γ E true gi)) (hg:PG X tg g) (hB:jv4 X.K C G0 Γ g bind) (hb:PSs X ss (tDS X.K C G0 Γ E κr F)) (hs:∀ x,foldedSetIterable iter X.env x = pure x:=by intro _; rfl) :
  PS X (.For tg iter ss [] pos) (tDS X.K C G0 Γ E κr (dFor gi bind F)):=(kt5 hp hc hI hg hb hs).imp fun D σ H zz=>by
 refine x2_2 zz fun A st r q=>?_
 clear zz
 refine ⟨A,st,r,?_⟩
 unfold dFor at q
 cases hg:gi st with
 | bad=>rw [hg] at q; exact q.elim
 | ex c p=>rw [hg] at q; exact fun H' e'=>q σ H' A (r.mono e') (q8 e')
 | ok ds =>
  rw [hg] at q
  intro J H1 e1 hJ
  exact jt5 hB hJ r e1 q
end
end Dm
end T_En
section T_Ru
namespace Dm
open PySem PySem.Spec PyProof.Rows L2 PySem.W
section
variable {X:Cx} {C:Cfg} {G0:Hp} {Γ:List SK} {E:L2.St -> XK} {κr:Bool} {ss:List Stmt} {a b e:Expr} {fa fb:DF} {κa κb κ:Kd} {pos:Pos} {Cb:Addr}
noncomputable def gIsy (ans:Addr -> Option Bool):D -> R D:=fun d=>match d with
 | .brd t _=>if 2 <= t then (match ans (t - 2) with | some b=>.ok (.bl b) | none=>.bad) else .bad
 | _=>.bad
theorem qq2 {ans:Addr -> Option Bool} {d z:D} (h:gIsy ans d = .ok z):∃ t ds b,d = .brd t ds /\ 2 <= t /\ ans (t - 2) = some b /\ z = .bl b:=by
 unfold gIsy at h
 split at h
 ·rename_i t ds
  split at h
  ·rename_i h2
   split at h
   ·rename_i b hb; cases h; exact ⟨t,_,b,rfl,h2,hb,rfl⟩
   ·cases h
  ·cases h
 ·cases h
theorem qo4 {ans:Addr -> Option Bool} {d:D} {c:Addr} {p:Option Int}:gIsy ans d ≠ .ex c p:=by
 unfold gIsy
 split
 ·split
  ·split <;> exact fun h=>by cases h
  ·exact fun h=>by cases h
 ·exact fun h=>by cases h
theorem qn2 {tv:V} {u cv:Value} {K:Frag} {c:Addr} {b:Bool} (h1:RelV tv u) (h2:RelV tv cv) (k:kitOne K (.ref c) cv = some b):u = cv:=by
 cases tv with
 | ty n=>exact (show u = Value.type n from h1).trans (show cv = Value.type n from h2).symm
 | ref n=>exact (show u = Value.ref n from h1).trans (show cv = Value.ref n from h2).symm
 | non=>exact (show u = Value.none from h1).trans (show cv = Value.none from h2).symm
 | bl n=>exact (show u = Value.bool n from h1).trans (show cv = Value.bool n from h2).symm
 | int n=>exact absurd k (by obtain ⟨t,ht⟩:=(show ∃ t,cv = Value.int n t from h2); rw [ht]; simp [kitOne,kitCls])
 | str n=>exact absurd k (by obtain ⟨t,ht⟩:=(show ∃ t,cv = Value.str n t from h2); rw [ht]; simp [kitOne,kitCls])
 | byt n=>exact absurd k (by obtain ⟨t,ht⟩:=(show ∃ t,cv = Value.bytes n t from h2); rw [ht]; simp [kitOne,kitCls])
 | flt n=>exact absurd k (by obtain ⟨t,ht⟩:=(show ∃ t,cv = Value.float n t from h2); rw [ht]; simp [kitOne,kitCls])
theorem qv8 {tv:V} {cv:Value} {pc:Expr} {p1:Pos} {ans:Addr -> Option Bool} (hans:∀ c b,ans c = some b -> kitOne X.K (.ref c) cv = some b /\ ExC X.K c) (hrel:RelV tv cv) (hP:PE X pc (tC tv)) (hm:X.mg "isinstance" = none) (ha:PE X a (tD X.K (cfgB Cb) G0 Γ E fa κa))
  (hg:Gl X "isinstance":=by rfl) (h1:starEach [a,pc] X.env = [(false,eval a X.env),(false,eval pc X.env)]:=by rfl) (h2:starEach [pc] X.env = [(false,eval pc X.env)]:=by rfl) :
  PE X (.Call (.Name "isinstance" p1) [a,pc] [] pos) (tD X.K (cfgB Cb) G0 Γ E (dUn (gIsy ans) fa) .new):=by
 have hcall:CallR X (.builtin "isinstance") (fun xs H Q=>∃ p c b,xs = [.ref p,tv] /\ (H p = some (.ext (ClsAt p (.ref c))) \/ ∃ dx,H p = some (.ext (ClsX p c dx))) /\ ans c = some b /\ Q (.bl b) H):=fun pins s σ H xs us Q I r zz4=>by
  refine x3_4 zz4 fun p c b hx hH hc q=>?_
  clear zz4
  subst hx
  refine x2_3 (qo3 r) fun u w' zo2 ru rw'=>?_
  obtain rfl:=zo2
  cases (show u = Value.ref p from ru)
  obtain ⟨hk,hx⟩:=hans c b hc
  have hw:w' = cv:=qn2 rw' hrel hk
  subst hw
  have ca:ClsAt p (.ref c) s.heap:=by
   rcases hH with hH | ⟨dx,hH⟩
   ·exact (I.hok p _ hH).1
   ·exact ClsX.at_ (I.hok p _ hH).1
  exact qs6 hx I.kIn ca hk fun tk=>⟨.bl b,H,I.tok _,rfl,q⟩
 refine (J5 hcall hg hm (by decide +kernel) (W7 ha (W7 hP jd5 h2) (by rw [h1,h2])) (by decide) (by decide) (by rw [h1,h2]) (by rw [h2]; rfl)).imp fun σ H Q zz5=>zz5.elim fun A zz6=>zz6.elim fun st zz7=>zz7.elim fun r q=>⟨A,st,r,?_⟩
 unfold dUn R.bind at q
 cases hf:fa st with
 | bad=>rw [hf] at q; exact q
 | ex c p=>rw [hf] at q; exact q
 | ok d =>
  rw [hf] at q
  dsimp only at q
  intro x H1 e1 w1
  cases hz:gIsy ans d with
  | bad=>rw [hz] at q; exact q.elim
  | ex c p=>exact absurd hz qo4
  | ok z =>
   rw [hz] at q
   obtain ⟨t,ds,b,rfl,h0,hb,rfl⟩:=qq2 hz
   have w:=w1.rep
   rw [Rep] at w
   refine x2_3 w fun a xs zo2 h2 _=>?_
   clear w
   obtain rfl:=zo2
   rcases h2 with (⟨h0',_⟩ | ⟨c,h3,h4⟩) | ⟨h0',_⟩
   ·lia
   rotate_left
   ·lia
   ·have:t - 2 = c:=by rw [h3]; rfl
    exact ⟨a,c,b,rfl,h4.elim (fun z=>.inl z.2) fun ⟨_,dx,_,z,_⟩=>.inr ⟨dx,z⟩,by rw [<- this]; exact hb,q _ H1 e1 (.flat r e1 (by rw [noL] <;> simp) repB _)⟩
noncomputable def gAbs:List D -> R D:=fun ds=>match ds with | [.int i]=>.ok (.int (if i < 0 then -i else i)) | _=>.bad
theorem qk9:bootBuiltins "abs" = some (.builtin "abs"):=by decide +kernel
theorem kx0 {K:Frag}:FnD K C (fun xs H Q=>∃ i,xs = [.int i] /\ Q (.int (if i < 0 then -i else i)) H) gAbs .new:=fun G0 Γ E σ A st H ds xs Q r w q=>by
 unfold gAbs at q
 split at q
 ·rename_i z
  split at z
  ·rename_i i
   cases z
   refine x1_2 (js4 w) fun v zo1 w1=>?_
   obtain rfl:=zo1
   rw [Rep] at w1
   subst w1
   exact ⟨i,rfl,q _ H (.refl _) (.flat r (.refl _) (by rw [noL] <;> simp) repI _)⟩
  ·cases z
 ·rename_i z; split at z <;> cases z
 ·exact q.elim
noncomputable def isI:D -> Bool | .int _=>true | _=>false
noncomputable def isTI:D -> Bool | .tup (.int _ :: _)=>true | _=>false
noncomputable def isTT:D -> Bool | .tup (.tup _ :: _)=>true | _=>false
noncomputable def ju4 (ds:List D):Bool:=decide (ds.length < 64) && noLs ds && ds.all (fun d=>nl d && decide (dep d <= 50)) && ds.all (fun a=>ds.all fun b=>shp a b) && (ds.all isI || ds.all isTI || ds.all isTT)
theorem qi8 {ds:List D} (h:ju4 ds = true):Sortable ds:=by
 unfold ju4 at h
 simp only [Bool.and_eq_true,Bool.or_eq_true,decide_eq_true_eq,List.all_eq_true] at h
 obtain ⟨⟨⟨⟨h1,h2⟩,h3⟩,h4⟩,h5⟩:=h
 refine ⟨?_,h1,fun a ha b hb=>h4 a ha b hb,fun a ha=>(h3 a ha).1,fun a ha=>(h3 a ha).2⟩
 rcases h5 with (h5 | h5) | h5
 ·exact ⟨_,.nums fun d hd=>by have:=h5 d hd; unfold isI at this; split at this; exact ⟨_,rfl⟩; cases this⟩
 ·exact ⟨_,.tups fun d hd=>by have:=h5 d hd; unfold isTI at this; split at this; exact ⟨_,_,rfl⟩; cases this⟩
 ·exact ⟨_,.tupt fun d hd=>by have:=h5 d hd; unfold isTT at this; split at this; exact ⟨_,_,rfl⟩; cases this⟩
noncomputable def ja7:List D -> R D:=fun ds=>match ds with
 | [.lst es]=>if ju4 es = true then .ok (.lst (je2 es)) else .bad
 | _=>.bad
theorem jl7 {K:Frag}:FnD K C (qj7 K C) ja7 .new:=fun G0 Γ E σ A st H ds xs Q r w q=>by
 cases hg:ja7 ds with
 | bad=>rw [hg] at q; exact q.elim
 | ex c p=>unfold ja7 at hg; split at hg <;> (try split at hg) <;> cases hg
 | ok d =>
  rw [hg] at q
  unfold ja7 at hg
  split at hg
  ·rename_i es
   split at hg
   ·rename_i hc
    cases hg
    refine x1_2 (js4 w) fun v zo1 w1=>?_
    obtain rfl:=zo1
    have n:noLs es = true:=by unfold ju4 at hc; simp only [Bool.and_eq_true] at hc; exact hc.1.1.1.2
    refine ⟨v,es,rfl,w1,qi8 hc,fun p ws hp rw'=>q _ _ (Z7 hp) (.lst r (.refl _) hp (rw'.part (.nw (.refl _)) _ ?_))⟩
    exact jf1 fun d hd=>jh4 n ((W5 es).mem_iff.mp hd)
   ·cases hg
  ·cases hg
end
end Dm
end T_Ru
section T_Rv
namespace Dm
open PySem PySem.Spec PyProof.Rows L2 PySem.W
theorem km4 {K:Frag} {a b:String} {r:Bool} (h0:(Value.type a == Value.type b) = false) (h1:kitMeta b = true) (h2:(fastBuiltinMro a).map (·.contains (.type b)) = some r):kitOne K (.type a) (.type b) = some r:=by
 unfold kitOne
 rw [if_neg (by rw [h0]; exact Bool.false_ne_true)]
 unfold kitCls
 dsimp only
 rw [if_pos h1]
 exact h2
section
variable {X:Cx} {C:Cfg} {G0:Hp} {Γ:List SK} {E:L2.St -> XK} {κr:Bool} {ss:List Stmt} {a b e iter tg:Expr} {f fa fb:DF} {κa κb κ:Kd} {pos:Pos} {Cb:Addr} {z:Bool}
theorem qa7 (bs:List Bool) (n:Nat) (hn:n = bs.length):(List.range n).all (fun i=>bs.getD i false) = bs.all id:=by
 subst hn
 rw [Bool.eq_iff_iff,List.all_eq_true,List.all_eq_true]
 constructor
 ·intro h b hb
  obtain ⟨i,hi,rfl⟩:=List.mem_iff_getElem.mp hb
  have:=h i (List.mem_range.mpr hi)
  simpa [hi] using this
 ·intro h i hi
  have hi:=List.mem_range.mp hi
  have:=h bs[i] (List.getElem_mem hi)
  simpa [hi] using this
theorem qi3 (hh:X.A.handled = none):CallR X (.builtin "all") (fun xs H Q=>∃ (p:Addr) (bs:List Bool),xs = [.ref p] /\ SqL X.K H p (bs.map V.bl) /\ Q (.bl (bs.all id)) H):=by
 intro pins s σ H xs us Q I r ⟨p,bs,e,hq,q⟩
 subst e
 refine x1_2 (jz5 r) fun u zo1 rx=>?_
 obtain rfl:=zo1
 cases rx
 refine x1_3 (I.list hq) fun its rv pl hz=>?_
 have hl:its.length = bs.length:=by rw [<- rv.length,List.length_map]
 have hlt:p < s.heap.objs.size:=by obtain ⟨o,h1,_⟩:=pl.isList; exact Heap.lt_size h1
 have keep:∀ b o,s.heap.get? b = some o -> (s.heap.push { cls:=.type "list_iterator",data:=.fields #[.ref p,.int 0 0] }).get? b = some o:=fun b o e=>Heap.get?_push_of_some _ e
 refine call_all_walk (wpAny_pyIter_list pl.isList ?_)
 refine ⟨s.heap.objs.size,_,_,_,_,_,fun i=>bs.getD i false,rfl,Walks.list (A:=X.A.in1) hh _ p (Nat.ne_of_lt hlt) its.toArray,⟨⟨_,Heap.get?_push_size _ rfl,rfl,rfl⟩,pl.isList.at fun o e=>keep p o e⟩,fun i v s' Q' E' hP hQ'=>?_,fun h' tk hk=>?_⟩
 ·have hi:i < its.length:=by
   have:its[i]? = some v:=by simpa using hP
   exact (List.getElem?_eq_some_iff.mp this).1
  have hb:(bs.map V.bl)[i]? = some (.bl (bs.getD i false)):=by
   rw [List.getElem?_map,List.getElem?_eq_getElem (by lia)]
   have:i < bs.length:=by lia
   simp [this]
  refine x1_2 (rv.get hb) fun u h1 h2=>?_
  have h3:its[i]? = some v:=by simpa using hP
  rw [h1] at h3
  cases h3
  cases (show v = Value.bool _ from h2)
  exact wpAny_pure hQ'
 ·rw [qa7 bs _ (by simp [hl])]
  exact ⟨.bl (bs.all id),H,I.kept fun b o e=>hk b o (by simpa using Nat.ne_of_lt (Heap.lt_size e)) (keep b o e),rfl,q⟩
noncomputable def jg8:List D -> Option (List Bool)
 | []=>some []
 | .bl b :: ds=>(jg8 ds).map (b :: ·)
 | _ :: _=>none
theorem jx6:∀ {ds:List D} {bs:List Bool},jg8 ds = some bs -> ds = bs.map D.bl
 | [],bs,h=>by cases h; rfl
 | .bl b :: ds,bs,h=>by
  rw [jg8] at h
  cases hb:jg8 ds with
  | none=>rw [hb] at h; cases h
  | some cs =>
   rw [hb] at h
   cases h
   rw [List.map_cons,<- jx6 hb]
 | .non :: _,bs,h=>by cases h
 | .int _ :: _,bs,h=>by cases h
 | .str _ :: _,bs,h=>by cases h
 | .tup _ :: _,bs,h=>by cases h
 | .lst _ :: _,bs,h=>by cases h
 | .brd _ _ :: _,bs,h=>by cases h
@[simp] theorem boolsOf_map:∀ bs:List Bool,jg8 (bs.map D.bl) = some bs
 | []=>rfl
 | b :: bs=>by rw [List.map_cons,jg8,boolsOf_map bs]; rfl
noncomputable def gAll:List D -> R D:=fun ds=>match ds with | [.lst es]=>(match jg8 es with | some bs=>.ok (.bl (bs.all id)) | none=>.bad) | _=>.bad
theorem qz2:bootBuiltins "all" = some (.builtin "all"):=by decide +kernel
theorem kz8 {K:Frag} {H:Hp}:∀ {bs:List Bool} {xs:List V},Reps K C H (bs.map D.bl) xs -> xs = bs.map V.bl
 | [],xs,h=>by rw [List.map_nil,Reps] at h; exact h
 | b :: bs,xs,h=>by
  rw [List.map_cons,Reps] at h
  refine x2_3 h fun v r zo2 q t=>?_
  clear h
  obtain rfl:=zo2
  rw [Rep] at q
  subst q
  rw [kz8 t]; rfl
theorem qq3 {K:Frag}:FnD K C (fun xs H Q=>∃ (p:Addr) (bs:List Bool),xs = [.ref p] /\ SqL K H p (bs.map V.bl) /\ Q (.bl (bs.all id)) H) gAll .new:=fun G0 Γ E σ A st H ds xs Q r w q=>by
 unfold gAll at q
 split at q
 ·rename_i zz
  split at zz
  ·rename_i es
   split at zz
   ·rename_i bs hb
    cases zz
    refine x1_2 (js4 w) fun v zo1 w1=>?_
    obtain rfl:=zo1
    refine x2_3 w1.items fun p ys zo2 s t=>?_
    obtain rfl:=zo2
    rw [jx6 hb] at t
    have:=kz8 t
    subst this
    exact ⟨p,bs,rfl,s,q _ H (.refl _) (.flat r (.refl _) (by rw [noL] <;> simp) repB _)⟩
   ·cases zz
  ·cases zz
 ·rename_i zz
  split at zz
  ·split at zz <;> cases zz
  ·cases zz
 ·exact q.elim
end
end Dm
end T_Rv
section T_Rw
namespace Dm
open PySem PySem.Spec PyProof.Rows L2
inductive ValsN (K:PySem.W.Frag) (C:Cfg) (G0:Hp) (A:List Addr) (H H':Hp):List D -> List V -> Prop
 | nil:ValsN K C G0 A H H' [] []
 | cons {d:D} {v:V} {ds:List D} {vs:List V}:Val K C .new G0 A H H' d v -> ValsN K C G0 A H H' ds vs -> ValsN K C G0 A H H' (d :: ds) (v :: vs)
section
variable {K:PySem.W.Frag} {C:Cfg} {G0:Hp} {A:List Addr} {H H' H'' H1:Hp}
theorem ValsN.len:∀ {ds:List D} {vs:List V},ValsN K C G0 A H H' ds vs -> vs.length = ds.length
 | _,_,.nil=>rfl
 | _,_,.cons _ t=>by rw [List.length_cons,List.length_cons,t.len]
theorem ValsN.early (e:Same H H1):∀ {ds:List D} {vs:List V},ValsN K C G0 A H1 H' ds vs -> ValsN K C G0 A H H' ds vs
 | _,_,.nil=>.nil
 | _,_,.cons q t=>.cons (q.early e) (t.early e)
theorem ValsN.get:∀ {ds:List D} {vs:List V} {j:Nat} {d:D},ValsN K C G0 A H H' ds vs -> ds[j]? = some d -> ∃ v,vs[j]? = some v /\ Val K C .new G0 A H H' d v
 | _,_,_,_,.nil,h=>by simp at h
 | _,_,0,_,.cons q t,h=>by simp at h; subst h; exact ⟨_,rfl,q⟩
 | _,_,j + 1,_,.cons q t,h=>by
  rw [List.getElem?_cons_succ] at h ⊢
  exact t.get h
theorem ValsN.at {ds:List D} {vs:List V} {i:Int} {d:D} (q:ValsN K C G0 A H H' ds vs) (h:atI ds i = some d):∃ v,atI vs i = some v /\ Val K C .new G0 A H H' d v:=by
 unfold atI at h ⊢
 rw [q.len]
 cases hj:ixN ds.length i with
 | none=>rw [hj] at h; cases h
 | some j =>
  rw [hj] at h
  exact q.get h
end
section
variable {X:Cx} {C:Cfg} {G0:Hp} {Γ:List SK} {E:L2.St -> XK} {e a b c:Expr} {f fa fb fc:DF} {κ κ' κa κb:Kd} {es rest:List Expr} {fs:DA} {pos pos':Pos}
end
end Dm
end T_Rw
section T_Nl
namespace Nl
open PySem
section
variable {prog:Program} {w:World} {A:Around} {E:Value -> Shared -> Prop} {h:Heap} {g:Array GenState} {d:Drawn} {t:Nat} {os:OsState}
variable {nm q:Str} {C N:Addr} {bs bm bmB:List Value} {hdct:Bool} {sn:List Str} {sub:List Value} {ab:Bool} {col:Option Bool} {dd:Option Addr} {k0 k1 k2 k3 k5:Option Value} {B newId initId:String}
theorem ju6 (F:ExcBaseFacts B newId initId bmB) (T:OwnTail h bmB bm) {mN:Str -> Option Value} {rest:List Value} {fI:Addr} {oI:Obj} {Q:Fin -> Shared -> Prop}
  (hC:h.get? C = some (excClassObj nm q C N bs bm hdct sn sub ab col dd k0 k1 k2 k3 k5 newId)) (hn:h.Ns N mN) (hi:mN "__init__" = some (.ref fI)) (hfI:h.get? fI = some oI) (hfc:oI.cls = .type "function")
  (hq:∀ h' e,Heap.MadeExcOf h h' e (.ref C) rest -> h.objs.size <= e -> wpAny (model prog w) A (call (.ref fI) (.ref e :: rest)) (fun r s'=>r = .none /\ Q (.done (.ret (.ref e))) s') E ⟨h',g,d,t,os⟩) (hrest:rest.length <= sizeLine:=by size_fits) :
  wpAny (model prog w) A (Builtin.«type.__call__» ⟨.ref C :: rest,[]⟩) Q E ⟨h,g,d,t,os⟩:=by
 repeat (first | with_reducible refine wpAny_loadPart_at hC ?_ | with_reducible refine wpAny_madeBy_exc hC ?_ | wp_step)
 refine codeAny_call_builtin_code (Code.quiet_builtin _ F.quiet) (wpAny_check_new_subU F F.hasB T hC ?_)
 refine codeAny_exc_new_subU F F.hasB F T hC ?_ hrest
 show wpAny _ _ _ _ _ _
 have hC₁:=Heap.get?_push_of_some { cls:=.ref C,data:=.fields #[.ref h.objs.size,.none,.none,.none,.bool false,.none] }
  (Heap.get?_push_of_some { cls:=.type "tuple",data:=.seq rest.toArray } hC)
 have hfI₁:=Heap.get?_push_of_some { cls:=.ref C,data:=.fields #[.ref h.objs.size,.none,.none,.none,.bool false,.none] }
  (Heap.get?_push_of_some { cls:=.type "tuple",data:=.seq rest.toArray } hfI)
 have hn₁:((h.push { cls:=.type "tuple",data:=.seq rest.toArray }).push { cls:=.ref C,data:=.fields #[.ref h.objs.size,.none,.none,.none,.bool false,.none] }).Ns N mN :=
  let ⟨o,es,ep,e,r⟩:=hn; ⟨o,es,ep,Heap.get?_push_of_some _ (Heap.get?_push_of_some _ e),r⟩
 have hget:((h.push { cls:=.type "tuple",data:=.seq rest.toArray }).push
   { cls:=.ref C,data:=.fields #[.ref h.objs.size,.none,.none,.none,.bool false,.none] }).get? (h.objs.size + 1) = some
   { cls:=.ref C,data:=.fields #[.ref h.objs.size,.none,.none,.none,.bool false,.none] }:=by heap_get
 have hcC:(Value.ref C :: bm).contains (.ref C) = true:=by simp
 have T₁:=T.keeps (h':=(h.push { cls:=.type "tuple",data:=.seq rest.toArray }).push { cls:=.ref C,data:=.fields #[.ref h.objs.size,.none,.none,.none,.bool false,.none] })
  fun b o e=>Heap.get?_push_of_some _ (Heap.get?_push_of_some _ e)
 unfold isInstance
 repeat (first | with_reducible refine wpAny_loadPart_at hget ?_ | (with_reducible refine wpAny_isSubtype_exc hC₁ ?_; rw [hcC]) | wp_step)
 show wpAny _ _ (typeLookup (.ref C) _) _ _ _
 refine wpAny_typeLookup_tail hC₁ hn₁ T₁ F.mroIs F.init.lookup ?_
 rw [hi]
 refine wpAny_holding (wpAny_bind ?_)
 unfold bindSpecial
 refine wpAny_bind (wpAny_typeOf (T:="function") ⟨_,hfI₁,hfc⟩ ?_)
 rw [if_pos (by decide)]
 refine wpAny_pure (wpAny_bind (wpAny_mono (hq _ (h.objs.size + 1) ⟨fun b o hb=>Heap.get?_push_of_some _ (Heap.get?_push_of_some _ hb),Heap.get?_none_of_le (Nat.le_succ _),h.objs.size,hget,Heap.get?_none_of_le (Nat.le_refl _),?_⟩ (Nat.le_succ _)) (fun r s' hr=>?_) fun _ _ x=>x))
 ·exact Heap.get?_push_of_some _ (Heap.get?_push_at rfl rfl)
 ·obtain ⟨rfl,hQ⟩:=hr
  wp_walk
  exact hQ
theorem qb2 (F:ExcBaseFacts B newId initId bmB) (T:OwnTail h bmB bm) {mN:Str -> Option Value} {rest:List Value} {fI:Addr} {oI:Obj} {Q:Value -> Shared -> Prop}
  (hC:h.get? C = some (excClassObj nm q C N bs bm hdct sn sub ab col dd k0 k1 k2 k3 k5 newId)) (hn:h.Ns N mN) (hi:mN "__init__" = some (.ref fI)) (hfI:h.get? fI = some oI) (hfc:oI.cls = .type "function")
  (hq:∀ h' e,Heap.MadeExcOf h h' e (.ref C) rest -> h.objs.size <= e -> wpAny (model prog w) (A.under (.builtin "type.__call__" ⟨.ref C :: rest,[]⟩)) (call (.ref fI) (.ref e :: rest)) (fun r s'=>r = .none /\ Q (.ref e) s') E ⟨h',g,d,t,os⟩) (hrest:rest.length <= sizeLine:=by size_fits) :
  wpAny (model prog w) A (call (.ref C) rest) Q E ⟨h,g,d,t,os⟩:=by
 have f1:=tc_lookup
 have f2:=tc_bind (.ref C)
 have hT:(⟨h,g,d,t,os⟩ : Shared).TypeIs (.ref C) "type":=⟨_,hC,rfl⟩
 refine wpAny_call (codeAny_of_tree ?_)
 show wpAny _ _ (callAny (.ref C) _) _ _ _
 repeat (any_goals (first | assumption | with_reducible refine wpAny_loadPart_at hC ?_ | wp_step))
 refine ⟨rfl,?_⟩
 refine codeAny_call_builtin_at (Code.quiet_builtin _ (by decide +kernel)) entry_typeCall (wpAny_check_type_call_sub hC (ju6 (hrest:=hrest) F T hC hn hi hfI hfc fun h' e hm hz=>?_))
 exact hq h' e hm hz
end
end Nl
end T_Nl
section T_Nl1
namespace Nl
open PySem
noncomputable def ExAt (e:Addr) (C:Addr) (dc:Option Addr) (h:Heap):Prop:=∃ (a0:Value) (sl:Array (Option Value)),h.get? e = some { cls:=.ref C,dict:=dc,data:=.fields #[a0,.none,.none,.none,.bool false,.none],slots:=sl }
section
variable {prog:Program} {w:World} {A:Around} {E:Value -> Shared -> Prop} {h:Heap} {g:Array GenState} {d:Drawn} {t:Nat} {os:OsState}
variable {nm q:Str} {C N:Addr} {bs bm bmB:List Value} {hdct:Bool} {sn:List Str} {sub:List Value} {ab:Bool} {col:Option Bool} {dd:Option Addr} {k0 k1 k2 k3 k5:Option Value} {B newId initId:String}
theorem kt9 (F:ExcBaseFacts B newId initId bmB) (T:OwnTail h bmB bm) {e:Addr} {dc:Option Addr} {v:Value} {Q:Value -> Shared -> Prop} (hC:h.get? C = some (excClassObj nm q C N bs bm hdct sn sub ab col dd k0 k1 k2 k3 k5 newId)) (he:ExAt e C dc h)
  (hq:∀ h' t',(∀ b o,b ≠ e -> h.get? b = some o -> h'.get? b = some o) -> ExAt e C dc h' -> Q .none ⟨h',g,d,t',os⟩) :
  wpAny (model prog w) A (call (.builtin initId) [.ref e,v]) Q E ⟨h,g,d,t,os⟩:=by
 obtain ⟨a0,sl,he⟩:=he
 refine wpAny_call (codeAny_call_builtin F.init.plain F.initEntry (wpAny_check_init_subU F T hC he rfl ?_))
 wp_walk
 have fin:Q .none ⟨(h.push { cls:=.type "tuple",data:=.seq #[v] }).update e (Obj.mapFields fun x=>x.setIfInBounds 0 (.ref h.objs.size)),g,d,t,os⟩:=by
  refine hq _ _ (fun b o hb e1=>?_) ⟨.ref h.objs.size,sl,?_⟩
  ·rw [Heap.get?_update_other _ _ (Ne.symm hb)]
   exact Heap.get?_push_of_some _ e1
  ·rw [Heap.get?_update_self _ (Heap.get?_push_of_some _ he) rfl]
   rfl
 cases a0 <;> first | exact wpAny_pure (wpAny_pure fin) | exact wpAny_letGo (wpAny_pure fin)
end
theorem ky3:Slot "ValueError" "__setattr__" "object.__setattr__" :=
 .of (owner:="object") (n:="__setattr__") (by rw [typeLookup_type,builtinLookup_eq_fast]; kernel_rfl) (by decide +kernel) (by decide +kernel) (by decide +kernel)
  (by first | exact .inl (by decide +kernel) | exact .inr (by decide +kernel)) (by rw [isSubtype_type]; kernel_rfl)
theorem qg1:entryFor table "object.__setattr__" = some Builtin.«object.__setattr__»:=entryFor_of_tree (by kernel_rfl)
theorem qv5:classOwn (.type "ValueError") "__setattr__" = pure none:=by kernel_rfl
theorem qy9:classOwn (.type "Exception") "__setattr__" = pure none:=by kernel_rfl
theorem qx0:classOwn (.type "BaseException") "__setattr__" = pure none:=by kernel_rfl
theorem qy0:classOwn (.type "object") "__setattr__" = pure (some (.builtin "object.__setattr__")):=by kernel_rfl
noncomputable abbrev ju1 (P:Addr):List Value:=[.ref P,.type "ValueError",.type "Exception",.type "BaseException",.type "object"]
section
variable {prog:Program} {w:World} {A:Around} {E:Value -> Shared -> Prop} {h:Heap} {g:Array GenState} {d:Drawn} {t:Nat} {os:OsState}
variable {nm q:Str} {C N P:Addr} {bs bmB:List Value} {sn:List Str} {sub:List Value} {ab:Bool} {col:Option Bool} {dd:Option Addr} {k0 k1 k2 k3 k5:Option Value} {newId initId:String}
theorem kw7 (F:ExcBaseFacts "ValueError" newId initId bmB) (T:OwnTail h bmB (ju1 P)) {e:Addr} {v:Value} {tk:Tok} {K:PySem.W.Frag} {Q:Fin -> Shared -> Prop} (hC:h.get? C = some (excClassObj nm q C N bs (ju1 P) true sn sub ab col dd k0 k1 k2 k3 k5 newId)) (Y:K.In h) (hna:PySem.W.findIn K (.ref C) "at" = some none) (he:ExAt e C none h)
  (hq:∀ h' t' dx,(∀ b o,b ≠ e -> h.get? b = some o -> h'.get? b = some o) -> h.objs.size <= dx -> ExAt e C (some dx) h' -> h'.Ns1 dx (fun x=>if x = "at" then some v else none) -> Q (.done (.ret .none)) ⟨h',g,d,t',os⟩) :
  wpAny (model prog w) A (Builtin.«object.__setattr__» ⟨[.ref e,.str "at" tk,v],[]⟩) Q E ⟨h,g,d,t,os⟩:=by
 obtain ⟨a0,sl,he⟩:=he
 have o1:=qv5
 have o2:=qy9
 have o3:=qx0
 have o4:=qy0
 unfold Builtin.«object.__setattr__»
 repeat (any_goals (first | assumption | with_reducible refine wpAny_loadPart_at he ?_ | with_reducible refine wpAny_loadPart_at hC ?_ | wp_step))
 show wpAny _ _ (typeLookup (.ref C) "at") _ _ _
 refine (PySem.W.looks_findIn (M:=model prog w) Y hna).at ?_
 have ne:e ≠ h.objs.size:=Nat.ne_of_lt (Heap.lt_size he)
 have nsN:((h.push { cls:=.type "dict",data:=.dict #[] }).update e fun o=>{ o with dict:=some h.objs.size }).Ns1 h.objs.size (fun _=>none):=by
  refine ⟨{ cls:=.type "dict",data:=.dict #[] },#[],0,?_,rfl,?_,?_,?_⟩
  ·rw [Heap.get?_update_other _ _ ne]
   exact Heap.get?_push_size _ rfl
  ·intro x hx; simp at hx
  ·exact List.Pairwise.nil
  ·intro name; rfl
 repeat (any_goals (first | assumption | with_reducible refine wpAny_nsSet1 nsN fun h2 n2 s2=>?_ | with_reducible refine wpAny_loadPart_at he ?_ | with_reducible refine wpAny_loadPart_at hC ?_ | wp_step))
 obtain ⟨o2,es,ep,g2,d2,cnt⟩:=n2.count ((PySem.Within.nil).cons "at" v)
 refine wpAny_loadPart g2 ?_
 rw [d2,pastItsLine_dict (Nat.le_trans cnt (by show 1 <= sizeLine + 1; lia))]
 refine wpAny_pure (wpAny_pure ?_)
 refine hq h2 _ h.objs.size (fun b o hb e1=>?_) (Nat.le_refl _) ⟨a0,sl,?_⟩ n2
 ·rw [s2.2 b (Nat.ne_of_lt (Heap.lt_size e1)),Heap.get?_update_other _ _ (Ne.symm hb)]
  exact Heap.get?_push_of_some _ e1
 ·rw [s2.2 e ne,Heap.get?_update_self _ (Heap.get?_push_of_some _ he) rfl]
end
end Nl
end T_Nl1
section T_Nl2
namespace Nl
open PySem PySem.W
theorem qv0 (a b c:Value):argsOk "object.__setattr__" ⟨[a,b,c],[]⟩:=by
 unfold argsOk
 first
  | kernel_rfl
  | (rw [signature?_of (id:="object.__setattr__") (n:=['_','_','r','t','t','a','t','e','s','_','_']) (o:=['t','c','e','j','b','o']) (by kernel_rfl) F.owner_object]; kernel_rfl)
structure NlC (K:Frag) (C:Addr):Prop where
 sa:findIn K (.ref C) "__setattr__" = some (some (.builtin "object.__setattr__"))
 na:findIn K (.ref C) "at" = some none
 mr:mroIn K C (.type "object") = some true
section
variable {prog:Program} {w:World} {A:Around} {E:Value -> Shared -> Prop} {h:Heap} {g:Array GenState} {d:Drawn} {t:Nat} {os:OsState} {K:Frag}
variable {nm q:Str} {C N P:Addr} {bs bmB:List Value} {sn:List Str} {sub:List Value} {ab:Bool} {col:Option Bool} {dd:Option Addr} {k0 k1 k2 k3 k5:Option Value} {newId initId:String}
theorem kq4 {e:Addr} {nv v:Value} {Q:Unit -> Shared -> Prop} (Y:K.In h) (p:Dm.ClsAt e (.ref C) h) (S:NlC K C) (q:Q () ⟨h,g,d,t,os⟩):wpAny (model prog w) A (checkBuiltinCall "object.__setattr__" ⟨[.ref e,nv,v],[]⟩) Q E ⟨h,g,d,t,os⟩:=by
 have b0:=p.looks (M:=model prog w)
 have b1:=looks_mroIn (M:=model prog w) Y S.mr
 have k1:builtinKind "object.__setattr__" = some .slot:=by decide +kernel
 have k2:splitId "object.__setattr__" = some ("object","__setattr__"):=by decide +kernel
 have k3:=qv0 (.ref e) nv v
 have b2:Looks (model prog w) h (isInstance (.ref e) (.type "object")) true:=b0.andThen b1
 simp only [checkBuiltinCall,k1,k2]
 refine wpAny_bind (b2.at ?_)
 repeat (any_goals (first | assumption | wp_step))
theorem qz8 (F:ExcBaseFacts "ValueError" newId initId bmB) (T:OwnTail h bmB (ju1 P)) {e:Addr} {v:Value} {Q:Unit -> Shared -> Prop} (hC:h.get? C = some (excClassObj nm q C N bs (ju1 P) true sn sub ab col dd k0 k1 k2 k3 k5 newId)) (Y:K.In h) (S:NlC K C) (he:ExAt e C none h)
  (hq:∀ h' t' dx,(∀ b o,b ≠ e -> h.get? b = some o -> h'.get? b = some o) -> h.objs.size <= dx -> ExAt e C (some dx) h' -> h'.Ns1 dx (fun x=>if x = "at" then some v else none) -> Q () ⟨h',g,d,t',os⟩) :
  wpAny (model prog w) A (setAttr (.ref e) "at" v) Q E ⟨h,g,d,t,os⟩:=by
 have he':=he
 obtain ⟨a0,sl,he'⟩:=he'
 have kb:=ky3.bind (.ref e)
 unfold setAttr
 wp_walk
 show wpAny _ _ (typeLookup (.ref C) "__setattr__") _ _ _
 refine (looks_findIn (M:=model prog w) Y S.sa).at ?_
 repeat (any_goals (first | assumption | wp_step))
 refine codeAny_call_builtin ky3.plain qg1 (kq4 Y ⟨_,he',rfl⟩ S (kw7 F T hC Y S.na he fun h' t' dx a b c n=>?_))
 exact wpAny_pure (wpAny_pure (hq h' t' dx a b c n))
end
end Nl
end T_Nl2
section T_Nl3
namespace Nl
open PySem PySem.W
noncomputable abbrev vE:List Value:=[.type "ValueError",.type "Exception",.type "BaseException",.type "object"]
noncomputable def nlIn (K:Frag) (C P fI:Addr):Bool:=match K.lookup C with
 | some ⟨.type "type",_,.cls cd,sl⟩=>(match cd.mro,sl.toList with
  | .ref C' :: bm,[_,_,_,_,some (.builtin n),_]=>C' == C && n == "ValueError.__new__" && !cd.hasDel && cd.hasDict && bm == ju1 P && tailIn K vE bm && nsOkIn K cd.ns && nsIn K cd.ns "__init__" == some (some (.ref fI))
  | _,_=>false)
 | _=>false
theorem vd7 {K:Frag} {h:Heap} {N:Addr} {m:Str -> Option Value} {n:Str} {v:Value} (X:K.In h) (G:h.Ns N m) (e:nsIn K N n = some (some v)):m n = some v:=by
 obtain ⟨o,es,ep,ho,hd,_,hf⟩:=G
 unfold nsIn at e
 split at e
 ·rename_i c d es' n' sl q
  have:=X _ _ q
  rw [ho] at this
  cases this
  cases hd
  split at e
  ·rename_i en he
   cases e
   rw [<- hf]
   unfold nsFind findBy
   rw [<- Array.find?_toList,he]
   rfl
  ·split at e <;> cases e
 ·cases e
theorem kp4 {K:Frag} {h:Heap} {C P fI:Addr} (X:K.In h) (q:nlIn K C P fI = true):∃ nm qn N bs sn sub ab col dd k0 k1 k2 k3 k5 mN,h.get? C = some (excClassObj nm qn C N bs (ju1 P) true sn sub ab col dd k0 k1 k2 k3 k5 "ValueError.__new__") /\ h.Ns N mN /\ mN "__init__" = some (.ref fI) /\ OwnTail h vE (ju1 P):=by
 unfold nlIn at q
 split at q
 next dd cd sl ho =>
  split at q
  next C' bm k0 k1 k2 k3 n k5 hm hs =>
   simp only [Bool.and_eq_true,beq_iff_eq,Bool.not_eq_true'] at q
   obtain ⟨⟨⟨⟨⟨⟨⟨rfl,rfl⟩,q1⟩,qd⟩,qb⟩,q2⟩,q3⟩,q4⟩:=q
   subst qb
   obtain ⟨nm,bs,mro,ns,qn,hd,sn,sub,ab,col,del⟩:=cd
   dsimp only at hm q1 q3 q4 qd
   subst hm q1 qd
   have es:sl = #[k0,k1,k2,k3,some (.builtin "ValueError.__new__"),k5]:=by
    cases sl with
    | mk l=>simp only at hs; rw [hs]
   subst es
   have hN:h.Ns ns (h.nsMap ns):=.of_isNs (isNs_of_in X q3)
   exact ⟨nm,qn,ns,bs,sn,sub,ab,col,dd,k0,k1,k2,k3,k5,_,X _ _ ho,hN,vd7 X hN q4,tail_of_in X q2⟩
  next=>cases q
 next=>cases q
end Nl
end T_Nl3
section T_Nl4
namespace Nl
open PySem PySem.W PySem.Spec PyProof.Rows L2 Dm
theorem ExAt.keep {e C:Addr} {dc:Option Addr} {h h':Heap} (q:ExAt e C dc h) (k:∀ o,h.get? e = some o -> h'.get? e = some o):ExAt e C dc h':=by
 obtain ⟨a0,sl,he⟩:=q
 exact ⟨a0,sl,k _ he⟩
theorem ExAt.obj {P:Program} {w:World} {H:Hp} {e C:Addr} {dc:Option Addr} {h:Heap} (q:ExAt e C dc h):ObjOk P w H h e (.ext (ExAt e C dc)):=⟨q,by obtain ⟨a0,sl,he⟩:=q; exact ⟨_,he⟩,fun h1 h2 a k=>a.keep k⟩
theorem kf4:ExcBaseFacts "ValueError" "ValueError.__new__" "ValueError.__init__" vE:=PySem.F.excBase_ValueError
noncomputable def sAt (C:Addr) (ta tv:TE):TS:=fun D σ H=>tv σ H fun y H1=>ta σ H1 fun x H2=>∃ e,x = .ref e /\ H2 e = some (.ext (ExAt e C none)) /\ ∀ dx,H2 dx = none -> D.nx σ (upd (upd H2 dx (.xd [("at",y)])) e (.ext (ExAt e C (some dx))))
section
variable {X:Cx} {o value:Expr} {pos pos':Pos} {ta tv:TE} {C P fI:Addr}
theorem vh3 (hk:nlIn X.K C P fI = true) (S:NlC X.K C) (ha:PE X o ta) (hv:PE X value tv) (hs:swapsWith value (some (.Attribute o "at" pos')) pos.line X.env = pure false):PS X (.Assign [.Attribute o "at" pos'] value pos) (sAt C ta tv):=by
 intro pins s σ H D I h
 refine plainObj_wpAny_Assign_Attribute (thn (hv pins s σ H _ I h) fun u s1 zz1=>zz1.elim fun y zz2=>zz2.elim fun H1 zz3=>zz3.elim fun I1 zz4=>zz4.elim fun ry q=>thn (ha pins s1 σ H1 _ I1 q) fun ov s2 zz5=>?_) hs
 obtain ⟨x,H2,I2,rx,e,ex,ee,q2⟩:=zz5
 subst ex
 obtain rfl:ov = Value.ref e:=rx
 obtain ⟨nm,qn,N,bs,sn,sub,ab,col,dd,k0,k1,k2,k3,k5,mN,hC,hn,hi,T⟩:=kp4 I2.kIn hk
 obtain ⟨he,_,_⟩:=(show ObjOk X.prog X.w H2 s2.heap e (.ext (ExAt e C none)) from I2.hok e _ ee)
 obtain ⟨hp,g,d,tk,os⟩:=s2
 refine qz8 kf4 T hC I2.kIn S he fun h' t' dx kp nd ex' ns=>?_
 obtain ⟨oe0,he'⟩ : ∃ o,hp.get? e = some o:=by obtain ⟨a0,sl,z⟩:=he; exact ⟨_,z⟩
 have ge:∃ o,h'.get? e = some o:=by obtain ⟨a0,sl,z⟩:=ex'; exact ⟨_,z⟩
 obtain ⟨o1,ge⟩:=ge
 have ne:e ≠ dx:=Nat.ne_of_lt (Nat.lt_of_lt_of_le (Heap.lt_size he') nd)
 have gs:=Heap.get?_update_self (fun _=>oe0) ge (Heap.get?_some_iff.mp he').2
 have go:∀ b,e ≠ b -> (h'.update e fun _=>oe0).get? b = h'.get? b:=fun b hb=>Heap.get?_update_other h' (fun _=>oe0) hb
 have I3:=I2.laid (a:=dx) (o:=.xd [("at",y)]) (h':=h'.update e fun _=>oe0) (t':=t') (fun b o hb=>by
  by_cases z:e = b
  ·subst z
   have hb:hp.get? e = some o:=hb
   rw [he'] at hb
   cases hb
   exact gs
  ·exact (go b z).trans (kp b o (fun w=>z w.symm) hb)) nd ⟨_,ns.at fun o z=>(go dx ne).trans z,fun f=>by
   by_cases z:f = "at"
   ·subst z
    rw [if_pos rfl]
    exact ry
   ·rw [if_neg z]
    have:List.lookup f [(("at" : Str),y)] = none:=by
     rw [List.lookup_cons]
     rw [show (f == ("at" : Str)) = false from beq_eq_false_iff_ne.mpr z]
     rfl
    rw [this]
    trivial⟩
 have I4:=I3.write (x:=e) (e:=e) (o:=.ext (ExAt e C (some dx))) (h':=h') (t':=t') (by rw [v7 ne,ee]; exact True.intro) (.inl rfl) (fun b o hb e1=>by
  have e1:(h'.update e fun _=>oe0).get? b = some o:=e1
  rw [go b (fun w=>hb w.symm)] at e1
  exact e1) ⟨o1,ge⟩ ex'.obj
 exact ⟨σ,_,I4,q2 dx (I2.hok.fresh nd)⟩
end
end Nl
end T_Nl4
section T_Nl5
namespace Nl
open PySem PySem.W PySem.Spec PyProof.Rows L2 Dm
structure UpC (K:Frag) (P:Addr):Prop where
 sp:specialIn K (.ref P) "__getattribute__" = some (some (.builtin "type.__getattribute__"))
 rd:readsIn K P (.type "type") = true
 fd:findCls K (.ref P) (.type "type") "__init__" = some (.val (.builtin "ValueError.__init__"))
noncomputable def tUp (C:Addr) (ta:TA):TE:=fun σ H Q=>ta σ H fun vs H1=>∃ e y,vs = [.ref e,y] /\ H1 e = some (.ext (ExAt e C none)) /\ Q .non (upd H1 e (.ext (ExAt e C none)))
section
variable {X:Cx} {C P fI:Addr} {x:Str} {p ap pos:Pos} {e₀:Expr} {es:List Expr} {ta:TA}
theorem vg3 (pl:Sem Bool) (hk:nlIn X.K C P fI = true) (U:UpC X.K P) (hm:X.mg x = some (.ref P)) (hg:Gl X x) (ha:PA X (e₀ :: es) ta) (hd:(x == ("__debug__" : Str)) = false) (he:starEach (e₀ :: es) X.env = (false,eval e₀ X.env) :: starEach es X.env) (hpl:(backTo pos (starEach es X.env)).any (·.1) = false)
  (ht:eval (.Call (.Attribute (.Name x p) "__init__" ap) (e₀ :: es) [] pos) X.env = do
     let ov <- eval (.Name x p) X.env
     standAt ap.atName
     let __x <- holding [ov] (getMethod ov "__init__" pl)
     match __x with
      | (f,first)=>callWith pos f first (backTo pos (starEach (e₀ :: es) X.env)) (backToKw pos (keywordEach [] X.env))) :
  PE X (.Call (.Attribute (.Name x p) "__init__" ap) (e₀ :: es) [] pos) (tUp C ta):=by
 intro pins s σ H Q I h
 refine methodCall_KW (pl:=pl) (ji3 I hg hm (method_cls I.kIn U.sp (cls_value I.kIn U.rd U.fd rfl ?_)) hd) ht
 have hp:=ha pos pins _ σ H _ (I.tok (s.toks + 1)) h
 rw [he] at hp ⊢
 refine Calls.callWith_builtin (by show (false || (backTo pos (starEach es X.env)).any (·.1)) = false; rw [hpl]; rfl) (Calls.evalArgs_plain (thn hp fun us s1 zz1=>?_))
 obtain ⟨vs,H1,I1,r,e,y,ev,ee,q⟩:=zz1
 subst ev
 obtain ⟨u,w',rfl,ru,rw'⟩:=qo3 r
 obtain rfl:u = Value.ref e:=ru
 obtain ⟨nm,qn,N,bs,sn,sub,ab,col,dd,k0,k1,k2,k3,k5,mN,hC,hn,hi,T⟩:=kp4 I1.kIn hk
 obtain ⟨hx,_,_⟩:=(show ObjOk X.prog X.w H1 s1.heap e (.ext (ExAt e C none)) from I1.hok e _ ee)
 obtain ⟨hp,g,d,tk,os⟩:=s1
 refine kt9 kf4 T hC hx fun h' t' kp ex'=>?_
 exact ⟨.non,_,I1.write (x:=e) (e:=e) (o:=.ext (ExAt e C none)) (h':=h') (t':=t') (by rw [ee]; exact True.intro) (.inl rfl) (fun b o hb e1=>kp b o hb e1) (by obtain ⟨a0,sl,z⟩:=ex'; exact ⟨_,z⟩) ex'.obj,rfl,q⟩
theorem qu4 {i:Nat} {y:Str} {q pos:Pos} {n:Nat} (hN:X.N[i]? = some y) (hv:Vis X.env.scope y) (hd:(y == ("__debug__" : Str)) = false:=by decide) (hcd:(y == ("__classdict__" : Str)) = false:=by decide) :
  PStr X (fun σ=>∃ j:Int,σ[i]? = some (some (.int j)) /\ j.natAbs.log2 < 1920 /\ (toString j:Str).length <= n) n (.FormattedValue (.Name y q) (-1) none pos):=by
 intro pins s σ H Q Ex I ⟨j,ej,l1,l2⟩ k
 obtain ⟨m,hn,hl⟩:=I.loc
 obtain ⟨u,r,l⟩:=hl i y _ hN ej hv
 obtain ⟨t,rfl⟩:=(show ∃ t,u = Value.int j t from r)
 refine FormattedValue_plain ?_
 have fin:=formatField_int_small (prog:=X.prog) (w:=X.w) (A:=X.A) (E:=Ex) (s:=s) (t:=t) l1 (k _ _ _ (I.tok _) l2)
 rcases l with ⟨hk,hm⟩ | ⟨hk,c,hc,hcell⟩
 ·exact wpAny_Name (wpAny_loadName_local I.ok.kind hk hn hm fin) hd
 ·rcases hk with hk | hk
  ·exact wpAny_Name (wpAny_loadName_cell I.ok.kind hk hc hcell fin) hd
  ·exact wpAny_Name (wpAny_loadName_free I.ok.kind hk hc hcell fin hcd) hd
end
end Nl
end T_Nl5
section T_Nl6
namespace Nl
open PySem PySem.W PySem.Spec PyProof.Rows L2 Dm
section
variable {M:Model} {A:Around} {E:Value -> Shared -> Prop} {env:Env} {s:Shared}
variable {nm q:Str} {C N:Addr} {bs bm:List Value} {hdct:Bool} {sn:List Str} {sub:List Value} {ab:Bool} {col:Option Bool} {dd:Option Addr} {k0 k1 k2 k3 k5:Option Value} {newId:String}
theorem qh2 {x:Sem Value} {Q:Flow -> Shared -> Prop} (hb:bm.contains (.type "BaseException") = true) (hh:A.handled = none)
  (h:wpAny M A x (fun v s₁=>∃ e dc,v = .ref e /\ s₁.heap.get? C = some (excClassObj nm q C N bs bm hdct sn sub ab col dd k0 k1 k2 k3 k5 newId) /\ ExAt e C dc s₁.heap /\ E (.ref e) s₁) E s):wpAny M A (raiseStmt env (some x) none) Q E s:=by
 unfold raiseStmt
 dsimp only
 refine wpAny_bind (thn h fun v s1 zz1=>?_)
 obtain ⟨e,dc,ev,hC,⟨a0,sl,he⟩,q⟩:=zz1
 subst ev
 have hcB:(Value.ref C :: bm).contains (.type "BaseException") = true:=by rw [List.contains_cons,hb,Bool.or_true]
 obtain ⟨hp,g,d,tk,os⟩:=s1
 unfold excFromValue
 repeat (first | with_reducible refine wpAny_loadPart_at he ?_ | with_reducible refine wpAny_loadPart_at hC ?_ | (with_reducible refine wpAny_isSubtype_exc hC ?_; rw [hcB]) | wp_step)
 unfold raiseNew
 repeat (first | assumption | wp_step)
theorem qd5 {x:Expr} {pos:Pos} {Q:Flow -> Shared -> Prop} (hb:bm.contains (.type "BaseException") = true) (hh:A.handled = none)
  (h:wpAny M A (eval x env) (fun v s₁=>∃ e dc,v = .ref e /\ s₁.heap.get? C = some (excClassObj nm q C N bs bm hdct sn sub ab col dd k0 k1 k2 k3 k5 newId) /\ ExAt e C dc s₁.heap /\ E (.ref e) s₁) E s):wpAny M A (exec (.Raise (some x) none pos) env) Q E s:=by
 unfold exec
 wp_step
 wp_step
 refine qh2 (nm:=nm) (q:=q) (N:=N) (bs:=bs) (hdct:=hdct) (sn:=sn) (sub:=sub) (ab:=ab) (col:=col) (dd:=dd) (k0:=k0) (k1:=k1) (k2:=k2) (k3:=k3) (k5:=k5) (newId:=newId) (C:=C) hb hh ?_
 refine wpAny_bind (thn h fun v s1 q=>?_)
 wp_walk
 exact q
end
section
variable {X:Cx} {C P fI:Addr}
theorem hide {pins:List (Addr × Obj)} {σ:L2.St} {H:Hp} {s:Shared} {e:Addr} {p:Heap -> Prop} (I:L2.Inv X pins σ H s) (he:H e = some (.ext p)) (hn:X.s₀.heap.get? e = none):L2.Inv X [] σ (er H [e]) { s with heap:=hideAll s.heap [e] }:=by
 have ne:∀ {b:Addr},b ≠ e -> b ∉ [e]:=fun h=>by simpa using h
 have get:∀ b o,b ≠ e -> s.heap.get? b = some o -> (hideAll s.heap [e]).get? b = some o:=fun b o n z=>hideAll_get _ z (ne n)
 have n0:∀ b,H b = none -> b ≠ e:=fun b z y=>by rw [y,he] at z; cases z
 have e0:∀ b,H b = none -> er H [e] b = none:=fun b z=>by rw [v8 (ne (n0 b z))]; exact z
 have ns:∀ b o,X.s₀.heap.get? b = some o -> b ≠ e:=fun b o z y=>by rw [y,hn] at z; cases z
 have u:=I.base
 have I:=jo6 I
 refine ⟨I.ok,I.os,I.bare,⟨fun b o z h0 hf hx=>get b o (ns b o z) (u.keep b o z h0 hf hx),fun b o z h0 hf hx=>?_,fun b o z h0 hx=>e0 b (u.free b o z h0 hx),fun b o z hx=>?_,fun b xs z=>?_,fun b o w z=>?_,fun b ps z=>?_⟩,?_,fun x c z=>?_,e0 _ I.free,fun x c z=>e0 _ (I.freeC x c z),fun p hp=>?_,fun b o z=>?_,I.len⟩
 ·obtain ⟨sl,y⟩:=u.slot b o z h0 hf hx
  exact ⟨sl,get b _ (ns b o z) y⟩
 ·obtain ⟨o',y⟩:=u.there b o z hx
  exact ⟨o',get b _ (ns b o z) y⟩
 ·have y:=u.tups b xs z
  rw [v8 (ne fun w=>by rw [w,he] at y; cases y)]; exact y
 ·have y:=u.frzs b o w z
  rw [v8 (ne fun w=>by rw [w,he] at y; cases y)]; exact y
 ·obtain ⟨m,y⟩:=u.tbls b ps z
  exact ⟨m,by rw [v8 (ne fun w=>by rw [w,he] at y; cases y)]; exact y⟩
 ·obtain ⟨m,hN,hl⟩:=I.loc
  refine ⟨m,?_,fun i x v e1 e2 e3=>?_⟩
  ·obtain ⟨o,es,ep,g1,r⟩:=hN
   exact ⟨o,es,ep,get _ _ (n0 _ I.free) g1,r⟩
  ·obtain ⟨u',r,l⟩:=hl i x v e1 e2 e3
   refine ⟨u',r,?_⟩
   rcases l with l | ⟨hk,c,hc,o,ho,hd⟩
   ·exact .inl l
   ·exact .inr ⟨hk,c,hc,o,get _ _ (n0 _ (I.freeC x c hc)) ho,hd⟩
 ·obtain ⟨v,o,ho,hd⟩:=I.cell x c z
  exact ⟨v,o,get _ _ (n0 _ (I.freeC x c z)) ho,hd⟩
 ·obtain ⟨h1,h2,h3⟩:=I.pin p hp
  exact ⟨get _ _ (n0 _ h2) h1,e0 _ h2,h3⟩
 ·by_cases hb:b = e
  ·rw [hb,jc4 (.head _)] at z; cases z
  ·rw [v8 (ne hb)] at z
   have back:∀ c v,c ≠ e -> H c = some v -> er H [e] c = some v:=fun c v n y=>by rw [v8 (ne n)]; exact y
   refine (I.hok b o z).stay (fun c v hc y=>get c v ?_ y) (fun c y=>back c _ (fun w=>by rw [w,he] at y; cases y) y) fun c xs y=>back c _ (fun w=>by rw [w,he] at y; cases y) y
   rcases hc with rfl | hc
   ·exact hb
   ·exact fun w=>by rw [w,he] at hc; cases hc
noncomputable def spNl (C:Addr):Sp:=fun vs H Q _=>∃ e i,vs = [.ref e,.int i] /\ H e = some (.ext (ExAt e C none)) /\ 0 <= i /\ i < 1000 /\ ∀ dx,upd H e (.ext (ExAt e C none)) dx = none -> Q .non (upd (upd (upd H e (.ext (ExAt e C none))) dx (.xd [("at",.int i)])) e (.ext (ExAt e C (some dx))))
theorem qo1 {P0:Program} {w:World} {K:Frag} {mg:Str -> Option Value} {base:Heap} {x qual:Str} {st:Stmt} {f:Addr} {fd:FuncData} {k:Nat} {tx:TE} (F:Fun K x qual st f fd) (S:FnScope ["self","at"] ["self","at"] (j4 st))
  (htx:∀ (e:Addr) (i:Int) (H:Hp) (Q:VK),0 <= i -> i < 1000 -> (∀ y,Q (.str y) H) -> tx [some (.ref e),some (.int i)] H Q)
  (hbody:∀ (cdv:Value) (A:Around) (outer:List Env) (s:Shared) (H:Hp) (E:XK),Room k (A.deeper (envOfC qual (j4 st) s.heap.objs.size f cdv)) ->
   PSs ((cxOf (CXr P0 w) P0 w K mg base ["self","at"] qual (j4 st) f cdv A outer s H E).wish (Fly (cxOf (CXr P0 w) P0 w K mg base ["self","at"] qual (j4 st) f cdv A outer s H E) fun _=>E)) (v6 st)
    (tSeq (qn7 (tUp C (kh3 (tVar 0) (kh3 tx tNil)))) (sAt C (tVar 0) (tVar 1)))) :
  FnOk P0 w K mg base (CXr P0 w) (k + 1) f fd ["self","at"] (spNl C):=by
 refine jq9 F S (fun vs H Q E zz2=>by obtain ⟨e,i,h,_⟩:=zz2; rw [h]; rfl) fun cdv A outer s H vs Q E hr zz3=>?_
 obtain ⟨e,i,hvs,he,i0,i1,q⟩:=zz3
 subst hvs
 refine ⟨_,hbody cdv A outer s H E hr,.ref e,rfl,htx e i _ _ i0 i1 fun y=>⟨e,.str y,rfl,he,?_⟩⟩
 exact ⟨.int i,rfl,.ref e,rfl,e,rfl,J1,fun dx z=>q dx z⟩
section
variable {X:Cx} {E:L2.St -> XK} {a:Expr} {fa:DF} {κa:Kd} {Cf:Cfg} {G0:Hp} {Γ:List SK} {κr:Bool} {pos cpos np:Pos} {x:Str} {k:Nat} {fd:FuncData}
noncomputable def jl4 (c:Addr) (fa:DF):DS:=fun st=>match fa st with | .ok (.int i)=>if 0 <= i /\ i < 1000 then .ex c (some i) st else .bad | .ok _=>.bad | .ex c p=>.ex c p st | .bad=>.bad
theorem kt4 {oI:Obj} (hk:nlIn X.K C P fI = true) (hf:X.K.lookup fI = some oI) (hfc:oI.cls = .type "function") (Fn:FnOk X.prog X.w X.K X.mg X.base (CXr X.prog X.w) k fI fd ["self","at"] (spNl C)) (hb:Binds X.K fd ["self","at"] []) (hr:Room (k + 1) X.A) (hex:X.ex = []) (hm:X.mg x = some (.ref C)) (hkp:keepIn X.K (.ref C) = true) (ha:PE (X.wish (Fly X E)) a (tD X.K Cf G0 Γ E fa κa)) (hg:Gl X x:=by rfl)
  (he:starEach [a] X.env = [(false,eval a X.env)]:=by rfl) (hd:(x == ("__debug__" : Str)) = false:=by decide) :
  PS (X.wish (Fly X E)) (.Raise (some (.Call (.Name x np) [a] [] cpos)) none pos) (tDS X.K Cf G0 Γ E κr (jl4 C fa)):=by
 intro pins s σ H D I ⟨A,st,r,q⟩
 have hx:=(kp4 I.kIn hk)
 obtain ⟨nm,qn,N,bs,sn,sub,ab,col,dd,k0,k1,k2,k3,k5,mN,hC0,_,_,_⟩:=kp4 I.ok.mod.kin hk
 refine qd5 (nm:=nm) (q:=qn) (N:=N) (bs:=bs) (bm:=ju1 P) (hdct:=true) (sn:=sn) (sub:=sub) (ab:=ab) (col:=col) (dd:=dd) (k0:=k0) (k1:=k1) (k2:=k2) (k3:=k3) (k5:=k5) (newId:="ValueError.__new__") (C:=C) (by simp [ju1]) hr.hd ?_
 refine wpAny_Call_Name_kw (ji3 I hg hm ?_ hd)
 have pa:=W7 ha jd5 he
 refine callWith_K (h₀:=X.base) I.ok.mod.kin hkp (thn (pa cpos pins s σ H (fun vs H1=>∃ i:Int,vs = [.int i] /\ 0 <= i /\ i < 1000 /\ ∀ H2,Same H1 H2 -> ∀ dx,H2 dx = some (.xd [("at",.int i)]) -> E σ (.ref C) (some dx) H2) I ⟨A,st,r,?_⟩) fun us s1 zz4=>zz4.elim fun vs zz5=>zz5.elim fun H1 zz6=>zz6.elim fun I1 zz7=>zz7.elim fun rv zz8=>zz8.elim fun i zz9=>zz9.elim fun ev zz10=>zz10.elim fun i0 zz11=>zz11.elim fun i1 q1=>⟨I1.kIn,?_⟩) he rfl
 ·unfold jl4 at q
  cases hf:fa st with
  | bad=>rw [hf] at q; exact q
  | ex c p=>rw [hf] at q; exact fun H' e=>q σ H' A (r.mono e) (q8 e)
  | ok d =>
   rw [hf] at q
   dsimp only at q ⊢
   intro v H' e w
   cases d with
   | int i =>
    dsimp only at q
    by_cases c:0 <= i /\ i < 1000
    ·rw [if_pos c] at q
     have w':=w.rep
     rw [Rep] at w'
     exact ⟨i,by rw [w'],c.1,c.2,fun H2 e2=>q σ H2 A (r.mono (e.trans e2)) (q8 (e.trans e2))⟩
    ·rw [if_neg c] at q; exact q.elim
   | _=>exact q.elim
 ·subst ev
  obtain ⟨u,rfl,ru⟩:=jz5 rv
  have I1:=I1.unwish
  obtain ⟨nm,qn,N,bs,sn,sub,ab,col,dd,k0,k1,k2,k3,k5,mN,hC,hn,hi,T⟩:=kp4 I1.kIn hk
  obtain ⟨hp,g,d,tk,os⟩:=s1
  refine qb2 kf4 T hC hn hi (I1.kIn _ _ hf) hfc (fun h' e hm hz=>?_)
  obtain ⟨t0,he0,_⟩:=hm.there
  have ex0:ExAt e C none h':=⟨_,_,he0⟩
  have I2:=I1.laid (a:=e) (o:=.ext (ExAt e C none)) (h':=h') (t':=tk) hm.keeps hz ex0.obj
  have r2:Vals [V.ref e,V.int i] [Value.ref e,u]:=.cons rfl (.cons ru .nil)
  have hbd:=hb _ [Value.ref e,u] I2.kIn rfl
  have hq:spNl C [V.ref e,V.int i] (upd H1 e (.ext (ExAt e C none))) (fun v H2=>v = .non /\ ∃ dx,dx ≠ e /\ H1 dx = none /\ H2 = upd (upd (upd (upd H1 e (.ext (ExAt e C none))) e (.ext (ExAt e C none))) dx (.xd [("at",.int i)])) e (.ext (ExAt e C (some dx)))) (E σ):=⟨e,i,rfl,J1,i0,i1,fun dx z=>by
   have ne:dx ≠ e:=fun w=>by rw [w,J1] at z; cases z
   rw [v7 ne,v7 ne] at z
   exact ⟨rfl,dx,ne,z,rfl⟩⟩
  refine wpAny_call (codeAny_mono (Fn.run _ X.stack _ _ ⟨[Value.ref e,u],[]⟩ [Value.ref e,u] _ _ (E σ) (hr.make C [u] []) (I2.env0.make C [u] []) hbd r2 hq) fun r s' hq'=>?_)
  cases r with
  | error e'=>exact jz3 I2 hq'
  | ok fl =>
   cases fl with
   | next=>exact False.elim hq'
   | brk=>exact False.elim hq'
   | cont=>exact False.elim hq'
   | ret u' =>
    obtain ⟨v,H',I3,rv3,ev3,dx,nd,hd1,eH⟩:=I2.after hq'
    subst ev3
    have hH:H' e = some (.ext (ExAt e C (some dx))):=by rw [eH]; exact J1
    have hE:er H' [e] = upd H1 dx (.xd [("at",.int i)]):=by
     funext b
     by_cases hb':b = e
     ·rw [hb',jc4 (.head _),v7 (Ne.symm nd)]; exact (I1.hok.fresh hz).symm
     ·rw [v8 (by simpa using hb'),eH,v7 hb']
      by_cases hd':b = dx
      ·rw [hd',J1,J1]
      ·rw [v7 hd',v7 hb',v7 hb',v7 hd']
    have hx3:ExAt e C (some dx) s'.heap:=(I3.hok e _ hH).1
    have hs0:X.s₀.heap.get? e = none:=by
     cases z:X.s₀.heap.get? e with
     | none=>rfl
     | some o =>
      obtain ⟨o',z'⟩:=I1.base.there e o z (by rw [hex]; simp)
      have:hp.get? e = some o':=z'
      rw [hm.new] at this; cases this
    refine ⟨rv3,e,some dx,rfl,I3.bk _ _ hC0,hx3,e,.ref C,some dx,σ,upd H1 dx (.xd [("at",.int i)]),hideAll s'.heap [e],rfl,hE ▸ hide I3 hH hs0,q1 _ (Z7 hd1) dx J1,fun d z=>?_,.inl ⟨fun b o z=>of_hideAll _ z,hideAll_none _ (.head _),?_⟩⟩
    ·cases z
     obtain ⟨a0,sl,z⟩:=hx3
     exact ⟨_,z,rfl⟩
    ·obtain ⟨a0,sl,z⟩:=hx3
     exact ⟨_,a0,z,rfl,rfl⟩
end
end
end Nl
end T_Nl6
section T_Nl7
namespace Nl
open PySem PySem.W PySem.Spec PyProof.Rows L2 Dm
structure NlF (P:Program) (w:World) (K:Frag) (mg:Str -> Option Value) (base:Heap) (C Pg:Addr) (k:Nat):Prop where
 ex:∃ fI oI fd,nlIn K C Pg fI = true /\ K.lookup fI = some oI /\ oI.cls = .type "function" /\ FnOk P w K mg base (CXr P w) k fI fd ["self","at"] (spNl C) /\ Binds K fd ["self","at"] [] /\ keepIn K (.ref C) = true
theorem kv3 {X:Cx} {C Pg:Addr} {E:L2.St -> XK} {a:Expr} {fa:DF} {κa:Kd} {Cf:Cfg} {G0:Hp} {Γ:List SK} {κr:Bool} {pos cpos np:Pos} {x:Str} {k j:Nat} (Fn:NlF X.prog X.w X.K X.mg X.base C Pg k) (hr:Room j X.A) (hj:k + 1 <= j) (hm:X.mg x = some (.ref C)) (ha:PE (X.wish (Fly X E)) a (tD X.K Cf G0 Γ E fa κa)) (hex:X.ex = []:=by rfl) (hg:Gl X x:=by rfl)
  (he:starEach [a] X.env = [(false,eval a X.env)]:=by rfl) (hd:(x == ("__debug__" : Str)) = false:=by decide) :
  PS (X.wish (Fly X E)) (.Raise (some (.Call (.Name x np) [a] [] cpos)) none pos) (tDS X.K Cf G0 Γ E κr (jl4 C fa)):=by
 obtain ⟨fI,oI,fd,h1,h2,h3,h4,h5,h6⟩:=Fn.ex
 exact kt4 h1 h2 h3 h4 h5 (hr.mono hj) hex hm h6 ha hg he hd
noncomputable def tTx:TE:=fun σ H Q=>(∃ j:Int,σ[1]? = some (some (.int j)) /\ j.natAbs.log2 < 1920 /\ (toString j:Str).length <= 500) /\ ∀ y,Q (.str y) H
theorem kn5:∀ i:Fin 1000,(Str.ofString (toString ((i.1:Nat):Int))).length <= 500:=by decide +kernel
theorem htx (e:Addr) (i:Int) (H:Hp) (Q:VK) (i0:0 <= i) (i1:i < 1000) (q:∀ y,Q (.str y) H):tTx [some (.ref e),some (.int i)] H Q:=by
 refine ⟨⟨i,rfl,?_,?_⟩,q⟩
 ·have h:i.natAbs < 2 ^ 10:=by lia
  by_cases z:i.natAbs = 0
  ·rw [z]; decide
  ·have:=(Nat.log2_lt z).mpr h
   lia
 ·have h:=kn5 ⟨i.toNat,by lia⟩
  have e:((i.toNat:Nat):Int) = i:=by lia
  dsimp only at h
  rw [e] at h
  exact h
theorem vh0 {X:Cx} {e:Expr} {n:Nat} (h:PStr X (fun σ=>∃ j:Int,σ[1]? = some (some (.int j)) /\ j.natAbs.log2 < 1920 /\ (toString j:Str).length <= 500) n e):PE X e tTx:=fun pins s σ H Q I zz1=>zz1.elim fun p q=>h pins s σ H _ _ I p fun x t s' I' _=>⟨.str x,H,I',⟨t,rfl⟩,q x⟩
end Nl
end T_Nl7
section T_Nl8
namespace Nl
open PySem PySem.W PySem.Spec PyProof.Rows L2 Dm
noncomputable def gAt (ok:Addr -> Bool):D -> R D:=fun d=>match d with
 | .brd t [.int n]=>if 2 <= t /\ ok (t - 2) = true then .ok (.int n) else .bad
 | _=>.bad
theorem vb4 {ok:Addr -> Bool} {d z:D} (h:gAt ok d = .ok z):∃ t n,d = .brd t [.int n] /\ 2 <= t /\ ok (t - 2) = true /\ z = .int n:=by
 unfold gAt at h
 split at h
 ·rename_i t n
  split at h
  ·rename_i c; cases h; exact ⟨t,n,rfl,c.1,c.2,rfl⟩
  ·cases h
 ·cases h
theorem qx6 {ok:Addr -> Bool} {d:D} {c:Addr} {p:Option Int}:gAt ok d ≠ .ex c p:=by
 unfold gAt
 split
 ·split <;> exact fun h=>by cases h
 ·exact fun h=>by cases h
theorem vh1 {X:Cx} {Cb:Addr} {G0:Hp} {Γ:List SK} {E:L2.St -> XK} {a:Expr} {fa:DF} {κa:Kd} {pos:Pos} {ok:Addr -> Bool} (hA:∀ c,ok c = true -> ExC X.K c /\ findIn X.K (.ref c) "at" = some none) (ha:PE X a (tD X.K (cfgB Cb) G0 Γ E fa κa))
  (hb:attributeBase a ("at" : Str) X.env (eval a X.env) = eval a X.env:=by rfl):PE X (.Attribute a "at" pos) (tD X.K (cfgB Cb) G0 Γ E (dUn (gAt ok) fa) .new):=by
 intro pins s σ H Q I zz
 obtain ⟨A,st,r,q⟩:=zz
 refine kx6 hb (thn (ha pins s σ H (fun x H1=>∃ p c dx n,x = .ref p /\ H1 p = some (.ext (ClsX p c dx)) /\ H1 dx = some (.xd [("at",.int n)]) /\ ok c = true /\ Q (.int n) H1) I ⟨A,st,r,?_⟩) fun u s1 zz1=>?_)
 ·unfold dUn R.bind at q
  cases hf:fa st with
  | bad=>rw [hf] at q; exact q
  | ex c p=>rw [hf] at q; exact q
  | ok d =>
   rw [hf] at q
   dsimp only at q
   intro x H1 e1 w1
   cases hz:gAt ok d with
   | bad=>rw [hz] at q; exact q.elim
   | ex c p=>exact absurd hz qx6
   | ok z =>
    rw [hz] at q
    obtain ⟨t,n,rfl,h0,hk,rfl⟩:=vb4 hz
    have w:=w1.rep
    rw [Rep] at w
    obtain ⟨a,xs,rfl,h2,h3⟩:=w
    rw [Reps] at h3
    obtain ⟨v,l,rfl,h4,h5⟩:=h3
    rw [Reps] at h5
    subst h5
    rw [Rep] at h4
    subst h4
    rcases h2 with (⟨h0',_⟩ | ⟨c,h6,⟨h7,_⟩ | ⟨m,dx,h7,h8,h9⟩⟩) | ⟨h0',_⟩
    ·lia
    ·cases h7
    ·cases h7
     have:t - 2 = c:=by rw [h6]; rfl
     exact ⟨a,c,dx,n,rfl,h8,h9,by rw [<- this]; exact hk,q _ H1 e1 (.flat r e1 (by rw [noL] <;> simp) (by rw [Rep]) _)⟩
    ·lia
 ·obtain ⟨x,H1,I1,rx,p,c,dx,n,ex,h1,h2,hk,q1⟩:=zz1
  subst ex
  obtain rfl:u = Value.ref p:=rx
  obtain ⟨S,na⟩:=hA c hk
  obtain ⟨mA,ns,rel⟩:=(show ObjOk X.prog X.w H1 s1.heap dx (.xd [("at",.int n)]) from I1.hok dx _ h2)
  obtain ⟨u,hu,ru⟩:=RelO.some_of (v:=.int n) (o:=mA "at") (rel "at")
  exact qz4 I1.kIn (I1.hok p _ h1).1 S na ns hu (handedOut_of (kd5 ru)) ⟨.int n,H1,I1.tok _,ru,q1⟩
theorem kr5 {X:Cx}:CallR X (.type "int") (fun xs H Q=>∃ b,xs = [.bl b] /\ Q (.int (if b = true then 1 else 0)) H):=by
 intro pins s σ H xs us Q I r h
 obtain ⟨b,rfl,q⟩:=h
 obtain ⟨u,rfl,ru⟩:=jz5 r
 cases (show u = Value.bool b from ru)
 exact call_int_bool ⟨.int (if b = true then 1 else 0),H,I.tok _,⟨_,rfl⟩,q⟩
noncomputable def gInt:List D -> R D:=fun ds=>match ds with | [.bl b]=>.ok (.int (if b = true then 1 else 0)) | _=>.bad
theorem vb7:bootBuiltins "int" = some (.type "int"):=by decide +kernel
theorem qv1 {K:Frag} {C:Cfg}:FnD K C (fun xs H Q=>∃ b,xs = [.bl b] /\ Q (.int (if b = true then 1 else 0)) H) gInt .new:=fun G0 Γ E σ A st H ds xs Q r w q=>by
 unfold gInt at q
 split at q
 ·rename_i z
  split at z
  ·rename_i b
   cases z
   obtain ⟨v,rfl,w1⟩:=js4 w
   rw [Rep] at w1
   subst w1
   exact ⟨b,rfl,q _ H (.refl _) (.flat r (.refl _) (by rw [noL] <;> simp) repI _)⟩
  ·cases z
 ·rename_i z; split at z <;> cases z
 ·exact q.elim
theorem qv9 {K:Frag} {C P fI:Addr} (hk:nlIn K C P fI = true) (h:Heap) (Y:K.In h):IsX h C:=by
 obtain ⟨nm,qn,N,bs,sn,sub,ab,col,dd,k0,k1,k2,k3,k5,mN,hC,_,_,_⟩:=kp4 Y hk
 exact ⟨nm,qn,N,bs,ju1 P,true,sn,sub,ab,col,dd,k0,k1,k2,k3,k5,"ValueError.__new__",hC,by simp [ju1]⟩
theorem ve3:Kd.new.item = .old:=rfl
end Nl
end T_Nl8
section T_K04
namespace Pk
open PySem PySem.Spec PyProof.Rows L2 PySem.W Dm Nl
noncomputable def top (i:Nat):Stmt:=PySem.Challenge.pw_pegleap_k04_rows_walked.main.body.getD i (.Pass ⟨0,0,0,0⟩)
noncomputable abbrev jd9:Stmt:=top 8
noncomputable abbrev ji9:Stmt:=top 9
noncomputable abbrev ja2:Stmt:=top 10
noncomputable abbrev jj2:Stmt:=ky2 (top 11) 0
noncomputable abbrev jb8:Stmt:=top 12
noncomputable abbrev jd8:Stmt:=top 13
noncomputable abbrev jj4:Stmt:=top 14
noncomputable abbrev js3:Stmt:=top 15
noncomputable abbrev jb0:Stmt:=top 17
noncomputable abbrev ja8:Stmt:=top 18
noncomputable abbrev jm5:Stmt:=top 19
noncomputable abbrev js8:Stmt:=top 20
noncomputable abbrev Z0:Stmt:=top 22
noncomputable abbrev jf4:Stmt:=top 23
noncomputable abbrev jb7:Stmt:=top 24
noncomputable abbrev Y3:Stmt:=top 25
noncomputable abbrev Z1:Stmt:=top 26
noncomputable abbrev Z4:Stmt:=top 27
noncomputable abbrev jc1:Stmt:=top 28
noncomputable abbrev jd3:Stmt:=top 29
noncomputable abbrev ja6:Stmt:=top 30
noncomputable abbrev jd2:Stmt:=top 31
noncomputable abbrev ja4:Stmt:=top 32
noncomputable abbrev jg2:Stmt:=top 33
noncomputable abbrev jg0:Stmt:=top 34
noncomputable abbrev jf8:Stmt:=top 35
noncomputable abbrev qa3:Stmt:=top 36
noncomputable abbrev jh0:Stmt:=ky2 (top 4) 0
structure Adr where
 c_PegError:Addr
 c_BadBoard:Addr
 c_BadPegs:Addr
 c_NoLeap:Addr
 c_Board:Addr
 k_LAST:Tok
 k_MOST_CELLS:Tok
noncomputable def jo5 (t:Adr):Addr -> Bool:=fun c=>c == t.c_NoLeap
noncomputable def okAt (t:Adr):Addr -> Bool:=fun c=>c == t.c_NoLeap
noncomputable abbrev jh5 (t:Adr):Addr -> Bool:=jo5 t
noncomputable def jf0 (t:Adr):Addr -> Option Bool:=fun c=>if c = t.c_NoLeap then some true else none
structure Txt (K:Frag) (mg:Str -> Option Value) (t:Adr):Prop where
 f_is_rising:Fn1 K mg "is_rising" "is_rising" jd9 ["cells"]
 f_is_cell:Fn1 K mg "is_cell" "is_cell" ji9 ["cell"]
 f_check_cells:Fn1 K mg "check_cells" "check_cells" ja2 ["cells"]
 f_check_pegs:Fn1 K mg "check_pegs" "check_pegs" jb8 ["board","pegs"]
 f_two_apart:Fn1 K mg "two_apart" "two_apart" jd8 ["cell"]
 f_between:Fn1 K mg "between" "between" jj4 ["cell","other"]
 f_leaps:Fn1 K mg "leaps" "leaps" js3 ["board"]
 f_can_be_done:Fn1 K mg "can_be_done" "can_be_done" jb0 ["pegs","leap"]
 f_pegs_behind:Fn1 K mg "pegs_behind" "pegs_behind" ja8 ["pegs","leap"]
 f_walked:Fn1 K mg "walked" "walked" jm5 ["board","pegs","row"]
 f_leapt:Fn1 K mg "leapt" "leapt" js8 ["board","pegs","leap"]
 f__law_cell_at:Fn1 K mg "_law_cell_at" "_law_cell_at" Z0 ["script","k"]
 f__law_mix:Fn1 K mg "_law_mix" "_law_mix" jf4 ["cell","k","many"]
 f__law_whole:Fn1 K mg "_law_whole" "_law_whole" jb7 ["found"]
 f__law_cells_by:Fn1 K mg "_law_cells_by" "_law_cells_by" Y3 ["script","most"]
 f__law_pegs_by:Fn1 K mg "_law_pegs_by" "_law_pegs_by" Z1 ["cell","cells"]
 f__law_between:Fn1 K mg "_law_between" "_law_between" Z4 ["leap"]
 f__law_leaps:Fn1 K mg "_law_leaps" "_law_leaps" jc1 ["cells"]
 f__law_open:Fn1 K mg "_law_open" "_law_open" jd3 ["cells","pegs"]
 f__law_behind:Fn1 K mg "_law_behind" "_law_behind" ja6 ["pegs","leap"]
 f__law_gone:Fn1 K mg "_law_gone" "_law_gone" jd2 ["cells","pegs","cell","most"]
 f__law_places:Fn1 K mg "_law_places" "_law_places" ja4 ["found","due"]
 f__law_odd:Fn1 K mg "_law_odd" "_law_odd" jg2 ["cells","cell"]
 f__law_due:Fn1 K mg "_law_due" "_law_due" jg0 ["cells","pegs","row"]
 f__law_met:Fn1 K mg "_law_met" "_law_met" jf8 ["board","pegs","row","way"]
 f_law:Fn1 K mg "law" "law" qa3 ["script"]
 n_abs:mg "abs" = none
 n_all:mg "all" = none
 n_bool:mg "bool" = none
 n_enumerate:mg "enumerate" = none
 n_int:mg "int" = none
 n_isinstance:mg "isinstance" = none
 n_len:mg "len" = none
 n_list:mg "list" = none
 n_range:mg "range" = none
 n_set:mg "set" = none
 n_sorted:mg "sorted" = none
 n_tuple:mg "tuple" = none
 g_LAST:mg "LAST" = some (.int (7) t.k_LAST)
 g_MOST_CELLS:mg "MOST_CELLS" = some (.int (24) t.k_MOST_CELLS)
 m_PegError:mg "PegError" = some (.ref t.c_PegError)
 m_BadBoard:mg "BadBoard" = some (.ref t.c_BadBoard)
 m_BadPegs:mg "BadPegs" = some (.ref t.c_BadPegs)
 m_NoLeap:mg "NoLeap" = some (.ref t.c_NoLeap)
 m_Board:mg "Board" = some (.ref t.c_Board)
 e_BadBoard:exB K t.c_BadBoard [.type "ValueError",.type "Exception",.type "BaseException",.type "object"] "ValueError.__new__" = true
 e_BadPegs:exB K t.c_BadPegs [.type "ValueError",.type "Exception",.type "BaseException",.type "object"] "ValueError.__new__" = true
 k_NoLeap:∀ c,jh5 t c = true -> kitCls K (.ref c) (.ref t.c_NoLeap) = some true
 y_PegError:∀ c b,jf0 t c = some b -> kitOne K (.ref c) (.ref t.c_PegError) = some b /\ ExC K c
 clB:Cls K t.c_Board
 naB:NoAttr K t.c_Board "cells"
 iB:∃ a fd,Fun K "__init__" "Board.__init__" jj2 a fd /\ Mk K t.c_Board a /\ Binds K fd ["self","cells"] []
 atN:∀ c,okAt t c = true -> ExC K c /\ findIn K (.ref c) "at" = some none
 iN:∃ a o fd,Fun K "__init__" "NoLeap.__init__" jh0 a fd /\ nlIn K t.c_NoLeap t.c_PegError a = true /\ K.lookup a = some o /\ o.cls = .type "function" /\ Binds K fd ["self","at"] [] /\ keepIn K (.ref t.c_NoLeap) = true
 nlC:NlC K t.c_NoLeap
 upC:UpC K t.c_PegError
theorem isN {K:Frag} {mg:Str -> Option Value} {t:Adr} (T:Txt K mg t):∀ h,K.In h -> IsX h t.c_NoLeap:=by
 obtain ⟨a,o,fd,_,h1,_⟩:=T.iN
 exact qv9 h1
theorem ji6:bootBuiltins "len" = some (.builtin "len"):=by decide +kernel
theorem jl3:bootBuiltins "list" = some (.type "list"):=by decide +kernel
noncomputable def jp9:String -> Option Bool:=fun x=>if x = "bool" then some true else if x = "int" then some false else if x = "tuple" then some false else if x = "list" then some false else if x = "str" then some false else if x = "NoneType" then some false else none
theorem kg1 {K:Frag}:∀ x b,jp9 x = some b -> kitOne K (.type x) (.type "bool") = some b:=fun x b h=>by
 unfold jp9 at h
 repeat' (split at h)
 all_goals (first | cases h; done | (rename_i e; subst e; cases h; first | (unfold kitOne; rw [if_pos (by decide)]) | exact km4 (by decide) (by decide +kernel) (by decide +kernel)))
noncomputable def jy5:String -> Option Bool:=fun x=>if x = "int" then some true else if x = "bool" then some true else if x = "tuple" then some false else if x = "list" then some false else if x = "str" then some false else if x = "NoneType" then some false else none
theorem ko4 {K:Frag}:∀ x b,jy5 x = some b -> kitOne K (.type x) (.type "int") = some b:=fun x b h=>by
 unfold jy5 at h
 repeat' (split at h)
 all_goals (first | cases h; done | (rename_i e; subst e; cases h; first | (unfold kitOne; rw [if_pos (by decide)]) | exact km4 (by decide) (by decide +kernel) (by decide +kernel)))
noncomputable def W8:String -> Option Bool:=fun x=>if x = "list" then some true else if x = "int" then some false else if x = "bool" then some false else if x = "tuple" then some false else if x = "str" then some false else if x = "NoneType" then some false else none
theorem jh3 {K:Frag}:∀ x b,W8 x = some b -> kitOne K (.type x) (.type "list") = some b:=fun x b h=>by
 unfold W8 at h
 repeat' (split at h)
 all_goals (first | cases h; done | (rename_i e; subst e; cases h; first | (unfold kitOne; rw [if_pos (by decide)]) | exact km4 (by decide) (by decide +kernel) (by decide +kernel)))
noncomputable def jl9:String -> Option Bool:=fun x=>if x = "tuple" then some true else if x = "int" then some false else if x = "bool" then some false else if x = "list" then some false else if x = "str" then some false else if x = "NoneType" then some false else none
theorem ke7 {K:Frag}:∀ x b,jl9 x = some b -> kitOne K (.type x) (.type "tuple") = some b:=fun x b h=>by
 unfold jl9 at h
 repeat' (split at h)
 all_goals (first | cases h; done | (rename_i e; subst e; cases h; first | (unfold kitOne; rw [if_pos (by decide)]) | exact km4 (by decide) (by decide +kernel) (by decide +kernel)))
noncomputable def Q6 (t:Adr):List D -> R D:=J9 1 (dRet (dOp (gEq false) (dVar 0) (dUn jg9 (dVar 0))))
noncomputable def jg1 (t:Adr):List D -> R D:=J9 1 (dRet (dAnd (jm6 gLe gLe (dC (.int 0)) (dOp gIx (dVar 0) (dC (.int 0))) (dC (.int (7)))) (jm6 gLe gLe (dC (.int 0)) (dOp gIx (dVar 0) (dC (.int 1))) (dC (.int (7))))))
noncomputable def w8 (t:Adr):List D -> R D:=J9 2 (dSeq (dIfS (dNot (jm6 gLe gLe (dC (.int 1)) (dFn gLen (j0 (dVar 0) aNil)) (dC (.int (24)))))
 (jc6 t.c_BadBoard)
 J3)
 (dSeq (dIfS (dNot (dFn (Q6 t) (j0 (dVar 0) aNil)))
 (jc6 t.c_BadBoard)
 J3)
 (dFor (iLst (dVar 0)) (Y9 1)
 (dIfS (dNot (dFn (jg1 t) (j0 (dVar 1) aNil)))
 (jc6 t.c_BadBoard)
 J3))))
noncomputable def U8 (t:Adr):List D -> R D:=J9 3 (dSeq (dIfS (dNot (dFn (Q6 t) (j0 (dVar 1) aNil)))
 (jc6 t.c_BadPegs)
 J3)
 (dFor (iLst (dVar 1)) (Y9 2)
 (dIfS (dOp (gIn true) (dVar 2) (dUn Y1 (dVar 0)))
 (jc6 t.c_BadPegs)
 J3)))
noncomputable def Z8 (t:Adr):List D -> R D:=J9 3 (dSeq (dAsg 1 (v9 (dOp gIx (dVar 0) (dC (.int 0)))))
 (dSeq (dAsg 2 (v9 (dOp gIx (dVar 0) (dC (.int 1)))))
 (dRet (Q5 100 (j0 (Q0 100 (j0 (dOp gSub (dVar 1) (dC (.int 2))) (j0 (v9 (dVar 2)) aNil))) (j0 (Q0 100 (j0 (v9 (dVar 1)) (j0 (dOp gSub (dVar 2) (dC (.int 2))) aNil))) (j0 (Q0 100 (j0 (v9 (dVar 1)) (j0 (dOp gAdd (dVar 2) (dC (.int 2))) aNil))) (j0 (Q0 100 (j0 (dOp gAdd (dVar 1) (dC (.int 2))) (j0 (v9 (dVar 2)) aNil))) aNil))))))))
noncomputable def W3 (t:Adr):List D -> R D:=J9 2 (dRet (Q0 100 (j0 (dOp gDiv (dOp gAdd (dOp gIx (dVar 0) (dC (.int 0))) (dOp gIx (dVar 1) (dC (.int 0)))) (dC (.int 2))) (j0 (dOp gDiv (dOp gAdd (dOp gIx (dVar 0) (dC (.int 1))) (dOp gIx (dVar 1) (dC (.int 1)))) (dC (.int 2))) aNil))))
noncomputable def jo0 (t:Adr):List D -> R D:=J9 4 (dSeq (dAsg 1 (Q5 100 aNil))
 (dSeq (dFor (iLst (dUn Y1 (dVar 0))) (Y9 2)
 (dFor (iLst (dFn (Z8 t) (j0 (dVar 2) aNil))) (Y9 3)
 (dIfS (dAnd (dOp (gIn false) (dVar 3) (dUn Y1 (dVar 0))) (dOp (gIn false) (dFn (W3 t) (j0 (dVar 2) (j0 (dVar 3) aNil))) (dUn Y1 (dVar 0))))
 (dApp 1 (Q0 100 (j0 (v9 (dVar 2)) (j0 (v9 (dVar 3)) aNil))))
 J3)))
 (dRet (dVar 1))))
noncomputable def U0 (t:Adr):List D -> R D:=J9 2 (dRet (dAnd (dOp (gIn false) (dOp gIx (dVar 1) (dC (.int 0))) (dVar 0)) (dAnd (dOp (gIn true) (dOp gIx (dVar 1) (dC (.int 1))) (dVar 0)) (dOp (gIn false) (dFn (W3 t) (j0 (dOp gIx (dVar 1) (dC (.int 0))) (j0 (dOp gIx (dVar 1) (dC (.int 1))) aNil))) (dVar 0)))))
noncomputable def Y6 (t:Adr):List D -> R D:=J9 3 (dSeq (dAsg 2 (Q0 100 (j0 (v9 (dOp gIx (dVar 1) (dC (.int 0)))) (j0 (dFn (W3 t) (j0 (dOp gIx (dVar 1) (dC (.int 0))) (j0 (dOp gIx (dVar 1) (dC (.int 1))) aNil))) aNil))))
 (dRet (dFn ja7 (j0 (dOp gCat (jm7 (iLst (dVar 0)) 1 [2] (Y9 0) (dOp (gIn true) (dVar 0) (dVar 1)) (v9 (dVar 0))) (Q5 100 (j0 (v9 (dOp gIx (dVar 1) (dC (.int 1)))) aNil))) aNil))))
noncomputable def Z6 (t:Adr):List D -> R D:=J9 7 (dSeq (ks0 (dFn (U8 t) (j0 (dVar 0) (j0 (dVar 1) aNil))))
 (dSeq (dAsg 3 (dFn je5 (j0 (dVar 1) aNil)))
 (dSeq (dAsg 4 (dFn (jo0 t) (j0 (dVar 0) aNil)))
 (dSeq (dFor (iEnu (dVar 2)) (jj1 5 6)
 (dSeq (dIfS (dOr (dOp (gIn true) (dVar 6) (dVar 4)) (dNot (dFn (U0 t) (j0 (dVar 3) (j0 (dVar 6) aNil)))))
 (jl4 t.c_NoLeap (dVar 5))
 J3)
 (dAsg 3 (dFn (Y6 t) (j0 (dVar 3) (j0 (dVar 6) aNil))))))
 (dRet (dVar 3))))))
noncomputable def jn7 (t:Adr):List D -> R D:=J9 3 (dRet (dFn (Z6 t) (j0 (dVar 0) (j0 (dVar 1) (j0 (Q5 100 (j0 (v9 (dVar 2)) aNil)) aNil)))))
noncomputable def k6 (t:Adr):List D -> R D:=J9 2 (dSeq (dIfS (dOp gLt (dVar 1) (dFn gLen (j0 (dVar 0) aNil)))
 (dRet (v9 (dOp gIx (dVar 0) (dVar 1))))
 J3)
 (dRet (dC (.int 0))))
noncomputable def j7 (t:Adr):List D -> R D:=J9 5 (dSeq (dAsg 3 (Q5 100 (j0 (dC (.int 48271)) (j0 (dC (.int 69621)) (j0 (dC (.int 16807)) (j0 (dC (.int 39373)) (j0 (dC (.int 30269)) (j0 (dC (.int 40014)) (j0 (dC (.int 40692)) (j0 (dC (.int 50021)) (j0 (dC (.int 61687)) (j0 (dC (.int 71993)) (j0 (dC (.int 83869)) (j0 (dC (.int 95561)) (j0 (dC (.int 30307)) aNil)))))))))))))))
 (dSeq (dAsg 4 (dOp gMul (dOp gAdd (dOp gMod (dVar 0) (dC (.int 2147483647))) (dC (.int 12345))) (dOp gIx (dVar 3) (dOp gMod (dVar 1) (dC (.int 13))))))
 (dSeq (dAsg 4 (dOp gAdd (dOp gMul (dVar 4) (dOp gAdd (dOp gMul (dC (.int 2)) (dOp gDiv (dVar 1) (dC (.int 13)))) (dC (.int 1)))) (dOp gMul (dC (.int 977)) (dVar 1))))
 (dRet (dOp gMod (dOp gDiv (dOp gMod (dVar 4) (dC (.int 1000000007))) (dC (.int 7))) (dVar 2))))))
noncomputable def U1 (t:Adr):List D -> R D:=J9 1 (dRet (dAnd (dUn (gIsi jy5) (dVar 0)) (dNot (dUn (gIsi jp9) (dVar 0)))))
noncomputable def J8 (t:Adr):List D -> R D:=J9 9 (dSeq (dAsg 2 (dFn (k6 t) (j0 (dVar 0) (j0 (dC (.int 0)) aNil))))
 (dSeq (dPar 3 4 (j0 (dOp gAdd (dC (.int 1)) (dFn (j7 t) (j0 (dVar 2) (j0 (dC (.int 1)) (j0 (dC (.int 4)) aNil))))) (j0 (dOp gAdd (dC (.int 1)) (dFn (j7 t) (j0 (dVar 2) (j0 (dC (.int 2)) (j0 (dC (.int 6)) aNil))))) aNil)))
 (dSeq (dIfS (dOp (gEq false) (dOp gMod (dVar 2) (dC (.int 4))) (dC (.int 1)))
 (kp9 (jj1 3 4) (v9 (dOp gIx (Q5 100 (j0 (Q0 100 (j0 (dOp gAdd (dC (.int 1)) (dOp gMod (dVar 3) (dC (.int 3)))) (j0 (dC (.int 8)) aNil))) (j0 (Q0 100 (j0 (dC (.int 8)) (j0 (dOp gAdd (dC (.int 1)) (dOp gMod (dVar 4) (dC (.int 3)))) aNil))) aNil))) (dOp gMod (dOp gDiv (dVar 2) (dC (.int 4))) (dC (.int 2))))))
 J3)
 (dSeq (dPar 5 6 (j0 (dFn (j7 t) (j0 (dVar 2) (j0 (dC (.int 3)) (j0 (dOp gSub (dC (.int 9)) (dVar 3)) aNil)))) (j0 (dFn (j7 t) (j0 (dVar 2) (j0 (dC (.int 4)) (j0 (dOp gSub (dC (.int 9)) (dVar 4)) aNil)))) aNil)))
 (dSeq (dAsg 7 (Q5 100 aNil))
 (dSeq (dFor (iRng (j0 (dOp gMul (dVar 3) (dVar 4)) aNil)) (Y9 8)
 (dIfS (dOp gGt (dFn (j7 t) (j0 (dFn (k6 t) (j0 (dVar 0) (j0 (dC (.int 1)) aNil))) (j0 (dVar 8) (j0 (dC (.int 7)) aNil)))) (dC (.int 0)))
 (dApp 7 (Q0 100 (j0 (dOp gAdd (dVar 5) (dOp gDiv (dVar 8) (dVar 4))) (j0 (dOp gAdd (dVar 6) (dOp gMod (dVar 8) (dVar 4))) aNil))))
 J3))
 (dSeq (dIfS (dOp (gEq false) (dFn gLen (j0 (dVar 7) aNil)) (dC (.int 0)))
 (dAsg 7 (Q5 100 (j0 (Q0 100 (j0 (v9 (dVar 5)) (j0 (v9 (dVar 6)) aNil))) aNil)))
 J3)
 (dRet (dSl (dVar 7) none (some (dVar 1)))))))))))
noncomputable def W4 (t:Adr):List D -> R D:=J9 4 (dSeq (dAsg 2 (dFn (j7 t) (j0 (dVar 0) (j0 (dC (.int 40)) (j0 (dC (.int 4)) aNil)))))
 (dSeq (dIfS (dOp (gEq false) (dVar 2) (dC (.int 0)))
 (dSeq (dAsg 3 (dFn (j7 t) (j0 (dVar 0) (j0 (dC (.int 41)) (j0 (dFn gLen (j0 (dVar 1) aNil)) aNil)))))
 (dRet (dOp gCat (dSl (dVar 1) none (some (dVar 3))) (dSl (dVar 1) (some (dOp gAdd (dVar 3) (dC (.int 1)))) none))))
 J3)
 (dRet (jm7 (iEnu (dVar 1)) 2 [0,2] (jj1 0 1) (dOp gGt (dFn (j7 t) (j0 (dVar 2) (j0 (dVar 0) (j0 (dOp gIx (Q5 100 (j0 (dC (.int 0)) (j0 (dC (.int 2)) (j0 (dC (.int 3)) (j0 (dC (.int 4)) aNil))))) (dVar 3)) aNil)))) (dC (.int 0))) (v9 (dVar 1))))))
noncomputable def v5 (t:Adr):List D -> R D:=J9 1 (dRet (Q0 100 (j0 (dOp gDiv (dOp gAdd (dOp gIx (dOp gIx (dVar 0) (dC (.int 0))) (dC (.int 0))) (dOp gIx (dOp gIx (dVar 0) (dC (.int 1))) (dC (.int 0)))) (dC (.int 2))) (j0 (dOp gDiv (dOp gAdd (dOp gIx (dOp gIx (dVar 0) (dC (.int 0))) (dC (.int 1))) (dOp gIx (dOp gIx (dVar 0) (dC (.int 1))) (dC (.int 1)))) (dC (.int 2))) aNil))))
noncomputable def U2 (t:Adr):List D -> R D:=J9 5 (dSeq (dAsg 1 (Q5 100 aNil))
 (dSeq (dFor (iLst (dVar 0)) (Y9 2)
 (dFor (iLst (dVar 0)) (Y9 3)
 (dSeq (dAsg 4 (dFn ja7 (j0 (Q5 100 (j0 (dFn gAbs (j0 (dOp gSub (dOp gIx (dVar 2) (dC (.int 0))) (dOp gIx (dVar 3) (dC (.int 0)))) aNil)) (j0 (dFn gAbs (j0 (dOp gSub (dOp gIx (dVar 2) (dC (.int 1))) (dOp gIx (dVar 3) (dC (.int 1)))) aNil)) aNil))) aNil)))
 (dIfS (dAnd (dOp (gEq false) (dVar 4) (Q5 100 (j0 (dC (.int 0)) (j0 (dC (.int 2)) aNil)))) (dOp (gIn false) (dFn (v5 t) (j0 (Q0 100 (j0 (v9 (dVar 2)) (j0 (v9 (dVar 3)) aNil))) aNil)) (dVar 0)))
 (dApp 1 (Q0 100 (j0 (v9 (dVar 2)) (j0 (v9 (dVar 3)) aNil))))
 J3))))
 (dRet (dFn ja7 (j0 (dVar 1) aNil)))))
noncomputable def Q4 (t:Adr):List D -> R D:=J9 5 (dSeq (dAsg 2 (Q5 100 aNil))
 (dSeq (dFor (iLst (dFn (U2 t) (j0 (dVar 0) aNil))) (jj1 3 4)
 (dIfS (dAnd (dOp (gIn false) (dVar 3) (dVar 1)) (dAnd (dOp (gIn false) (dFn (v5 t) (j0 (Q0 100 (j0 (v9 (dVar 3)) (j0 (v9 (dVar 4)) aNil))) aNil)) (dVar 1)) (dOp (gIn true) (dVar 4) (dVar 1))))
 (dApp 2 (Q0 100 (j0 (v9 (dVar 3)) (j0 (v9 (dVar 4)) aNil))))
 J3))
 (dRet (dVar 2))))
noncomputable def Q3 (t:Adr):List D -> R D:=J9 3 (dSeq (dAsg 2 (jm7 (iLst (dVar 0)) 1 [1] (Y9 0) (dAnd (dOp (gEq true) (dVar 0) (dOp gIx (dVar 1) (dC (.int 0)))) (dOp (gEq true) (dVar 0) (dFn (v5 t) (j0 (dVar 1) aNil)))) (v9 (dVar 0))))
 (dRet (dFn ja7 (j0 (dOp gCat (dVar 2) (Q5 100 (j0 (v9 (dOp gIx (dVar 1) (dC (.int 1)))) aNil))) aNil))))
noncomputable def je1 (t:Adr):List D -> R D:=J9 9 (dSeq (dAsg 4 (Q5 100 aNil))
 (dSeq (dAsg 5 (dFn je5 (j0 (dVar 1) aNil)))
 (dSeq (dFor (iRng (j0 (dFn (j7 t) (j0 (dVar 2) (j0 (dC (.int 60)) (j0 (dOp gAdd (dVar 3) (dC (.int 1))) aNil)))) aNil)) (Y9 6)
 (dSeq (dAsg 7 (dFn (Q4 t) (j0 (dVar 0) (j0 (dVar 5) aNil))))
 (dIfS (dOp gGt (dFn gLen (j0 (dVar 7) aNil)) (dC (.int 0)))
 (dSeq (dAsg 8 (v9 (dOp gIx (dVar 7) (dFn (j7 t) (j0 (dVar 2) (j0 (dOp gAdd (dC (.int 61)) (dVar 6)) (j0 (dFn gLen (j0 (dVar 7) aNil)) aNil)))))))
 (dSeq (dApp 4 (v9 (dVar 8)))
 (dAsg 5 (dFn (Q3 t) (j0 (dVar 5) (j0 (dVar 8) aNil))))))
 J3)))
 (dRet (Q0 100 (j0 (dVar 4) (j0 (dVar 5) aNil)))))))
noncomputable def Y7 (t:Adr):List D -> R D:=J9 2 (dSeq (dIfS (dOr (dNot (dUn (gIsi W8) (dVar 0))) (dOp (gEq true) (dVar 0) (dVar 1)))
 (dRet (dC (.bl false)))
 J3)
 (dRet (dFn gAll (j0 (jm7 (iLst (dVar 0)) 1 [] (Y9 0) (dC (.bl true)) (dAnd (dUn (gIsi jl9) (dVar 0)) (dAnd (dFn (U1 t) (j0 (dOp gIx (dVar 0) (dC (.int 0))) aNil)) (dFn (U1 t) (j0 (dOp gIx (dVar 0) (dC (.int 1))) aNil))))) aNil))))
noncomputable def jb3 (t:Adr):List D -> R D:=J9 5 (dSeq (dAsg 2 (v9 (dOp gIx (dVar 0) (dFn (j7 t) (j0 (dVar 1) (j0 (dC (.int 70)) (j0 (dFn gLen (j0 (dVar 0) aNil)) aNil)))))))
 (dSeq (dAsg 3 (dFn (U2 t) (j0 (dVar 0) aNil)))
 (dSeq (dIfS (dAnd (dOp (gEq false) (dFn (j7 t) (j0 (dVar 1) (j0 (dC (.int 71)) (j0 (dC (.int 2)) aNil)))) (dC (.int 0))) (dOp gGt (dFn gLen (j0 (dVar 3) aNil)) (dC (.int 0))))
 (dRet (v9 (dOp gIx (dVar 3) (dFn (j7 t) (j0 (dVar 1) (j0 (dC (.int 72)) (j0 (dFn gLen (j0 (dVar 3) aNil)) aNil)))))))
 J3)
 (dSeq (dAsg 4 (v9 (dOp gIx (Q5 100 (j0 (Q0 100 (j0 (dC (.int 0)) (j0 (dC (.int 3)) aNil))) (j0 (Q0 100 (j0 (dC (.int 2)) (j0 (dC (.int 2)) aNil))) (j0 (Q0 100 (j0 (dC (.int 1)) (j0 (dC (.int 0)) aNil))) (j0 (Q0 100 (j0 (dC (.int 0)) (j0 (dC (.int 0)) aNil))) (j0 (Q0 100 (j0 (dC (.int 0)) (j0 (dC (.int 2)) aNil))) (j0 (Q0 100 (j0 (dUn gNeg (dC (.int 2))) (j0 (dC (.int 0)) aNil))) (j0 (Q0 100 (j0 (dC (.int 0)) (j0 (dC (.int 9)) aNil))) (j0 (Q0 100 (j0 (dC (.int 1)) (j0 (dC (.int 1)) aNil))) aNil))))))))) (dFn (j7 t) (j0 (dVar 1) (j0 (dC (.int 73)) (j0 (dC (.int 8)) aNil)))))))
 (dRet (Q0 100 (j0 (v9 (dVar 2)) (j0 (Q0 100 (j0 (dOp gAdd (dOp gIx (dVar 2) (dC (.int 0))) (dOp gIx (dVar 4) (dC (.int 0)))) (j0 (dOp gAdd (dOp gIx (dVar 2) (dC (.int 1))) (dOp gIx (dVar 4) (dC (.int 1)))) aNil))) aNil))))))))
noncomputable def jb4 (t:Adr):List D -> R D:=J9 6 (dSeq (dAsg 3 (dFn je5 (j0 (dVar 1) aNil)))
 (dSeq (dFor (iEnu (dVar 2)) (jj1 4 5)
 (dSeq (dIfS (dOp (gIn true) (dVar 5) (dFn (Q4 t) (j0 (dVar 0) (j0 (dVar 3) aNil))))
 (dRet (v9 (dVar 4)))
 J3)
 (dAsg 3 (dFn (Q3 t) (j0 (dVar 3) (j0 (dVar 5) aNil))))))
 (dRet (dVar 3))))
noncomputable def jb2 (t:Adr):List D -> R D:=J9 5 (dSeq (dTry (dSeq (dIfS (dOp (gEq false) (dVar 3) (dC (.int 0)))
 (dRet (dFn (Z6 t) (j0 (dVar 0) (j0 (dVar 1) (j0 (dVar 2) aNil)))))
 J3)
 (dRet (dFn (jn7 t) (j0 (dVar 0) (j0 (dVar 1) (j0 (dOp gIx (dVar 2) (dC (.int 0))) aNil)))))) (jh5 t) (some 4)
 (dRet (dIf (dUn (gIsy (jf0 t)) (dVar 4)) (dUn (gAt (okAt t)) (dVar 4)) (dUn gNeg (dC (.int 1))))))
 J3)
noncomputable def kp0 (t:Adr):List D -> R D:=J9 11 (dSeq (dAsg 1 (dFn (J8 t) (j0 (dVar 0) (j0 (dC (.int 24)) aNil))))
 (dSeq (dAsg 2 (dFn (jq7 (w8 t)) (j0 (dFn je5 (j0 (dVar 1) aNil)) aNil)))
 (dSeq (dAsg 3 (dFn (W4 t) (j0 (dFn (k6 t) (j0 (dVar 0) (j0 (dC (.int 2)) aNil))) (j0 (dVar 1) aNil))))
 (dSeq (dAsg 4 (dFn (k6 t) (j0 (dVar 0) (j0 (dC (.int 3)) aNil))))
 (dSeq (dAsg 5 (dOp gIx (dFn (je1 t) (j0 (dVar 1) (j0 (dVar 3) (j0 (dVar 4) (j0 (dC (.int 12)) aNil))))) (dC (.int 0))))
 (dSeq (dIfS (dOp (gEq false) (dOp gMod (dFn (k6 t) (j0 (dVar 0) (j0 (dC (.int 4)) aNil))) (dC (.int 2))) (dC (.int 1)))
 (dSeq (dAsg 6 (dFn (j7 t) (j0 (dVar 4) (j0 (dC (.int 90)) (j0 (dOp gAdd (dFn gLen (j0 (dVar 5) aNil)) (dC (.int 1))) aNil)))))
 (dAsg 5 (dOp gCat (dOp gCat (dSl (dVar 5) none (some (dVar 6))) (Q5 100 (j0 (dFn (jb3 t) (j0 (dVar 1) (j0 (dFn (k6 t) (j0 (dVar 0) (j0 (dC (.int 4)) aNil))) aNil))) aNil))) (dSl (dVar 5) (some (dVar 6)) none))))
 J3)
 (dSeq (dFor (iRng (j0 (dOp gAdd (dC (.int 1)) (dFn gInt (j0 (dOp gGt (dFn gLen (j0 (dVar 5) aNil)) (dC (.int 0))) aNil))) aNil)) (Y9 7)
 (dSeq (dAsg 8 (dFn (jb4 t) (j0 (dVar 1) (j0 (dVar 3) (j0 (dOp gIx (Q5 100 (j0 (dVar 5) (j0 (dSl (dVar 5) none (some (dC (.int 1)))) aNil))) (dVar 7)) aNil)))))
 (dSeq (dAsg 9 (Q5 100 (j0 (dFn je5 (j0 (dVar 3) aNil)) (j0 (dFn je5 (j0 (dVar 5) aNil)) aNil))))
 (dSeq (dAsg 10 (dFn (jb2 t) (j0 (dVar 2) (j0 (dOp gIx (dVar 9) (dC (.int 0))) (j0 (dOp gIx (dVar 9) (dC (.int 1))) (j0 (dVar 7) aNil))))))
 (dSeq (dIfS (dOp (gEq true) (dVar 9) (Q5 100 (j0 (dVar 3) (j0 (dVar 5) aNil))))
 (dRet (dC (.bl false)))
 J3)
 (dSeq (dIfS (dAnd (dUn (gIsi W8) (dVar 8)) (dNot (dFn (Y7 t) (j0 (dVar 10) (j0 (dVar 8) aNil)))))
 (dRet (dC (.bl false)))
 J3)
 (dSeq (dIfS (dAnd (dNot (dUn (gIsi W8) (dVar 8))) (dOr (dNot (dFn (U1 t) (j0 (dVar 10) aNil))) (dOp (gEq true) (dVar 10) (dVar 8))))
 (dRet (dC (.bl false)))
 J3)
 (dSeq (dIfS (dUn (gIsi W8) (dVar 8))
 (dApp 10 (Q0 100 (j0 (dC (.int 9)) (j0 (dC (.int 9)) aNil))))
 J3)
 (dIfS (dOp (gEq true) (dVar 9) (Q5 100 (j0 (dVar 3) (j0 (dVar 5) aNil))))
 (dRet (dC (.bl false)))
 J3)))))))))
 (dRet (dOp (gEq false) (dUn Y1 (dVar 2)) (dVar 1))))))))))
section
variable {P:Program} {w:World} {K:Frag} {mg:Str -> Option Value} {base:Heap} {t:Adr}
theorem kc8:FnScope ["cells"] ["cells"] (j4 jd9):=⟨rfl,rfl,rfl,by decide +kernel,rfl,by decide +kernel,by decide +kernel⟩
theorem kd1 (T:Txt K mg t):FD P w K mg base (cfgB t.c_Board) 1 "is_rising" ["cells"] 1 (Q6 t) true :=
 jc3 (Γ:=[.par]) T.f_is_rising kc8 rfl (fun i h=>by match i,h with | 0,_=>rfl) fun f cdv A outer s H E hr =>
 by
 refine v3 ?_
 refine J6 (κ:=.new) ?_
 refine jw4 (κa:=.old) (κb:=.new) (jm4 hr.units) je3 ?_ ?_ (Z3 _)
 exact j2 0 (pv 0)
 refine kn4 (κ:=.old) hr.hd hr.units T.n_sorted T.n_set ?_
 exact j2 0 (pv 0)
theorem kq2:FnScope ["cell"] ["cell"] (j4 ji9):=⟨rfl,rfl,rfl,by decide +kernel,rfl,by decide +kernel,by decide +kernel⟩
theorem kn6 (T:Txt K mg t):FD P w K mg base (cfgB t.c_Board) 1 "is_cell" ["cell"] 1 (jg1 t) true :=
 jc3 (Γ:=[.par]) T.f_is_cell kq2 rfl (fun i h=>by match i,h with | 0,_=>rfl) fun f cdv A outer s H E hr =>
 by
 refine v3 ?_
 refine J6 (κ:=.new) ?_
 refine jw0 (κa:=.new) ?_ ?_
 refine km5 (κa:=.new) (κb:=.old) (κc:=.new) kp1 kp1 jw8 jw8 ?_ ?_ ?_
 exact j5
 refine w5 (κa:=.old) (κb:=.new) ?_ ?_ (fun _ _=>rfl)
 exact j2 0 (pv 0)
 exact j5
 exact kg8 rfl T.g_LAST
 refine kj9 ?_
 refine km5 (κa:=.new) (κb:=.old) (κc:=.new) kp1 kp1 jw8 jw8 ?_ ?_ ?_
 exact j5
 refine w5 (κa:=.old) (κb:=.new) ?_ ?_ (fun _ _=>rfl)
 exact j2 0 (pv 0)
 exact j5
 exact kg8 rfl T.g_LAST
theorem jk4:FnScope ["cells","cell"] ["cells"] (j4 ja2):=⟨rfl,rfl,rfl,by decide +kernel,rfl,by decide +kernel,by decide +kernel⟩
theorem jv0 (T:Txt K mg t) (G_is_rising:FD P w K mg base (cfgB t.c_Board) 1 "is_rising" ["cells"] 1 (Q6 t) true) (G_is_cell:FD P w K mg base (cfgB t.c_Board) 1 "is_cell" ["cell"] 1 (jg1 t) true):FD P w K mg base (cfgB t.c_Board) 2 "check_cells" ["cells"] 1 (w8 t) true :=
 jc3 (Γ:=[.par,.par]) T.f_check_cells jk4 rfl (fun i h=>by match i,h with | 0,_=>rfl) fun f cdv A outer s H E hr =>
 by
 refine k7 ?_ ?_
 refine jc2 ?_   ?_   W0
 refine jm8 ?_
 refine qi1 (κa:=.new) (κb:=.new) (κc:=.new) kp1 kp1 jw8 jw8 ?_ ?_ ?_
 exact j5
 refine jb6 (κa:=.tmp) je4 ?_
 refine J5 J7 rfl T.n_len ji6 ?_
 refine j1 (κ:=.tmp) (κa:=.old) ?_ ?_
 exact j2 0 (pv 0)
 exact j6 (κ:=.tmp)
 exact kg8 rfl T.g_MOST_CELLS
 refine v3 ?_
 exact jj0 kf4 hr.hd T.m_BadBoard T.e_BadBoard (ka5 (all_cons (jb9 (n:=500) (by decide +kernel)) (all_cons (kj6 (n:=500) T.g_MOST_CELLS (by decide) (by decide +kernel)) (all_cons (jb9 (n:=500) (by decide +kernel)) kh0))) (by decide))
 refine k7 ?_ ?_
 refine jc2 ?_   ?_   W0
 refine jm8 ?_
 refine jr5 (κ:=.new) ?_
 refine j8 (κ:=.tmp) G_is_rising hr (by decide) ?_ (j3 k8)
 refine j1 (κ:=.tmp) (κa:=.old) ?_ ?_
 exact j2 0 (pv 0)
 exact j6 (κ:=.tmp)
 refine v3 ?_
 exact jj0 kf4 hr.hd T.m_BadBoard T.e_BadBoard (jb9 (n:=500) (by decide +kernel))
 refine v3 ?_
 refine Z9 (κ:=.old) (y3 ⟨rfl,rfl⟩) rfl ?_ rfl (Q8 (i:=1) (by exact jk4.nd) rfl (Or.inl rfl)) (jc7 (i:=1) (k:=.par))   ?_
 exact j2 0 (pv 0)
 refine v3 ?_
 refine jc2 ?_   ?_   W0
 refine jm8 ?_
 refine jr5 (κ:=.new) ?_
 refine j8 (κ:=.tmp) G_is_cell hr (by decide) ?_ (j3 k8)
 refine j1 (κ:=.tmp) (κa:=.old) ?_ ?_
 exact j2 1 (pv 1)
 exact j6 (κ:=.tmp)
 refine v3 ?_
 exact jj0 kf4 hr.hd T.m_BadBoard T.e_BadBoard (ka5 (all_cons (jb9 (n:=500) (by decide +kernel)) (all_cons (kj6 (n:=500) T.g_LAST (by decide) (by decide +kernel)) kh0)) (by decide))
theorem jm0:FnScope ["board","pegs","cell"] ["board","pegs"] (j4 jb8):=⟨rfl,rfl,rfl,by decide +kernel,rfl,by decide +kernel,by decide +kernel⟩
theorem jz0 (T:Txt K mg t) (G_is_rising:FD P w K mg base (cfgB t.c_Board) 1 "is_rising" ["cells"] 1 (Q6 t) true):FD P w K mg base (cfgB t.c_Board) 2 "check_pegs" ["board","pegs"] 2 (U8 t) true :=
 jc3 (Γ:=[.par,.par,.par]) T.f_check_pegs jm0 rfl (fun i h=>by match i,h with | 0,_=>rfl | 1,_=>rfl) fun f cdv A outer s H E hr =>
 by
 refine k7 ?_ ?_
 refine jc2 ?_   ?_   W0
 refine jm8 ?_
 refine jr5 (κ:=.new) ?_
 refine j8 (κ:=.tmp) G_is_rising hr (by decide) ?_ (j3 k8)
 refine j1 (κ:=.tmp) (κa:=.old) ?_ ?_
 exact j2 1 (pv 1)
 exact j6 (κ:=.tmp)
 refine v3 ?_
 exact jj0 kf4 hr.hd T.m_BadPegs T.e_BadPegs (jb9 (n:=500) (by decide +kernel))
 refine v3 ?_
 refine Z9 (κ:=.old) (y3 ⟨rfl,rfl⟩) rfl ?_ rfl (Q8 (i:=2) (by exact jm0.nd) rfl (Or.inl rfl)) (jc7 (i:=2) (k:=.par))   ?_
 exact j2 1 (pv 1)
 refine v3 ?_
 refine jc2 ?_   ?_   W0
 refine U3 (κa:=.old) (κb:=.old) (jf6 hr.units) jf9 ?_ ?_ (by with_unfolding_all rfl)
 exact j2 2 (pv 2)
 refine jl8 (κa:=.old) T.clB T.naB ?_
 exact j2 0 (pv 0)
 refine v3 ?_
 exact jj0 kf4 hr.hd T.m_BadPegs T.e_BadPegs (jb9 (n:=500) (by decide +kernel))
theorem jh9:FnScope ["cell","row","column"] ["cell"] (j4 jd8):=⟨rfl,rfl,rfl,by decide +kernel,rfl,by decide +kernel,by decide +kernel⟩
theorem ke4 (T:Txt K mg t):FD P w K mg base (cfgB t.c_Board) 1 "two_apart" ["cell"] 1 (Z8 t) true :=
 jc3 (Γ:=[.par,.par,.par]) T.f_two_apart jh9 rfl (fun i h=>by match i,h with | 0,_=>rfl) fun f cdv A outer s H E hr =>
 by
 refine k7 ?_ ?_
 refine J2 (i:=1) (k:=.par) (κ:=.new) ?_ ?_
 exact jh9.nd
 refine w9 (κ:=.old) ?_
 refine w5 (κa:=.old) (κb:=.new) ?_ ?_ (fun _ _=>rfl)
 exact j2 0 (pv 0)
 exact j5
 refine k7 ?_ ?_
 refine J2 (i:=2) (k:=.par) (κ:=.new) ?_ ?_
 exact jh9.nd
 refine w9 (κ:=.old) ?_
 refine w5 (κa:=.old) (κb:=.new) ?_ ?_ (fun _ _=>rfl)
 exact j2 0 (pv 0)
 exact j5
 refine v3 ?_
 refine J6 (κ:=.new) ?_
 refine Z5 ?_
 refine j1 (κ:=.new) (κa:=.new) ?_ ?_
 refine U4 ?_
 refine j1 (κ:=.new) (κa:=.new) ?_ ?_
 refine J4 (κa:=.old) (κb:=.new) jw5 jn8 ?_ ?_
 exact j2 1 (pv 1)
 exact j5
 refine j1 (κ:=.new) (κa:=.new) ?_ ?_
 refine w9 (κ:=.old) ?_
 exact j2 2 (pv 2)
 exact j6 (κ:=.new)
 refine j1 (κ:=.new) (κa:=.new) ?_ ?_
 refine U4 ?_
 refine j1 (κ:=.new) (κa:=.new) ?_ ?_
 refine w9 (κ:=.old) ?_
 exact j2 1 (pv 1)
 refine j1 (κ:=.new) (κa:=.new) ?_ ?_
 refine J4 (κa:=.old) (κb:=.new) jw5 jn8 ?_ ?_
 exact j2 2 (pv 2)
 exact j5
 exact j6 (κ:=.new)
 refine j1 (κ:=.new) (κa:=.new) ?_ ?_
 refine U4 ?_
 refine j1 (κ:=.new) (κa:=.new) ?_ ?_
 refine w9 (κ:=.old) ?_
 exact j2 1 (pv 1)
 refine j1 (κ:=.new) (κa:=.new) ?_ ?_
 refine J4 (κa:=.old) (κb:=.new) Y8 Q7 ?_ ?_
 exact j2 2 (pv 2)
 exact j5
 exact j6 (κ:=.new)
 refine j1 (κ:=.new) (κa:=.new) ?_ ?_
 refine U4 ?_
 refine j1 (κ:=.new) (κa:=.new) ?_ ?_
 refine J4 (κa:=.old) (κb:=.new) Y8 Q7 ?_ ?_
 exact j2 1 (pv 1)
 exact j5
 refine j1 (κ:=.new) (κa:=.new) ?_ ?_
 refine w9 (κ:=.old) ?_
 exact j2 2 (pv 2)
 exact j6 (κ:=.new)
 exact j6 (κ:=.new)
theorem ko9:FnScope ["cell","other"] ["cell","other"] (j4 jj4):=⟨rfl,rfl,rfl,by decide +kernel,rfl,by decide +kernel,by decide +kernel⟩
theorem ko8 (T:Txt K mg t):FD P w K mg base (cfgB t.c_Board) 1 "between" ["cell","other"] 2 (W3 t) true :=
 jc3 (Γ:=[.par,.par]) T.f_between ko9 rfl (fun i h=>by match i,h with | 0,_=>rfl | 1,_=>rfl) fun f cdv A outer s H E hr =>
 by
 refine v3 ?_
 refine J6 (κ:=.new) ?_
 refine U4 ?_
 refine j1 (κ:=.new) (κa:=.new) ?_ ?_
 refine J4 (κa:=.new) (κb:=.new) jj3 ji2 ?_ ?_
 refine J4 (κa:=.old) (κb:=.old) Y8 Q7 ?_ ?_
 refine w5 (κa:=.old) (κb:=.new) ?_ ?_ (fun _ _=>rfl)
 exact j2 0 (pv 0)
 exact j5
 refine w5 (κa:=.old) (κb:=.new) ?_ ?_ (fun _ _=>rfl)
 exact j2 1 (pv 1)
 exact j5
 exact j5
 refine j1 (κ:=.new) (κa:=.new) ?_ ?_
 refine J4 (κa:=.new) (κb:=.new) jj3 ji2 ?_ ?_
 refine J4 (κa:=.old) (κb:=.old) Y8 Q7 ?_ ?_
 refine w5 (κa:=.old) (κb:=.new) ?_ ?_ (fun _ _=>rfl)
 exact j2 0 (pv 0)
 exact j5
 refine w5 (κa:=.old) (κb:=.new) ?_ ?_ (fun _ _=>rfl)
 exact j2 1 (pv 1)
 exact j5
 exact j5
 exact j6 (κ:=.new)
theorem jq3:FnScope ["board","found","first","second"] ["board"] (j4 js3):=⟨rfl,rfl,rfl,by decide +kernel,rfl,by decide +kernel,by decide +kernel⟩
theorem qj1 (T:Txt K mg t) (G_two_apart:FD P w K mg base (cfgB t.c_Board) 1 "two_apart" ["cell"] 1 (Z8 t) true) (G_between:FD P w K mg base (cfgB t.c_Board) 1 "between" ["cell","other"] 2 (W3 t) true):FD P w K mg base (cfgB t.c_Board) 2 "leaps" ["board"] 1 (jo0 t) true :=
 jc3 (Γ:=[.par,.own true,.par,.par]) T.f_leaps jq3 rfl (fun i h=>by match i,h with | 0,_=>rfl) fun f cdv A outer s H E hr =>
 by
 refine k7 ?_ ?_
 refine J2 (i:=1) (k:=(.own true)) (κ:=.new) ?_ ?_
 exact jq3.nd
 refine Z5 ?_
 exact j6 (κ:=.new)
 refine k7 ?_ ?_
 refine Z9 (κ:=.old) (y3 ⟨rfl,rfl⟩) rfl ?_ rfl (Q8 (i:=2) (by exact jq3.nd) rfl (Or.inl rfl)) (jc7 (i:=2) (k:=.par))   ?_
 refine jl8 (κa:=.old) T.clB T.naB ?_
 exact j2 0 (pv 0)
 refine v3 ?_
 refine Z9 (κ:=.new) (y3 ⟨rfl,rfl⟩) rfl ?_ rfl (Q8 (i:=3) (by exact jq3.nd) rfl (Or.inl rfl)) (jc7 (i:=3) (k:=.par))   ?_
 refine j8 (κ:=.tmp) G_two_apart hr (by decide) ?_ (j3 k8)
 refine j1 (κ:=.tmp) (κa:=.old) ?_ ?_
 exact j2 2 (pv 2)
 exact j6 (κ:=.tmp)
 refine v3 ?_
 refine jc2 ?_   ?_   W0
 refine PW.pt ?_
 refine jo9 ?_ ?_
 refine U3 (κa:=.old) (κb:=.old) (jt2 hr.units) jf9 ?_ ?_ (by with_unfolding_all rfl)
 exact j2 3 (pv 3)
 refine jl8 (κa:=.old) T.clB T.naB ?_
 exact j2 0 (pv 0)
 refine jl5 ?_
 refine U3 (κa:=.new) (κb:=.old) (jt2 hr.units) jf9 ?_ ?_ (by with_unfolding_all rfl)
 refine j8 (κ:=.tmp) G_between hr (by decide) ?_ (j3 (j3 k8))
 refine j1 (κ:=.tmp) (κa:=.old) ?_ ?_
 exact j2 2 (pv 2)
 refine j1 (κ:=.tmp) (κa:=.old) ?_ ?_
 exact j2 3 (pv 3)
 exact j6 (κ:=.tmp)
 refine jl8 (κa:=.old) T.clB T.naB ?_
 exact j2 0 (pv 0)
 refine v3 ?_
 refine jx7 (i:=1) (κ:=.new) (to:=tVar 1) ?_ rfl
 refine kp2 PySem.F.plainAttrs_list PySem.F.slot_list_append PySem.F.type_list_append je0 (pv 1) ?_
 refine W7 ?_ jd5
 refine U4 ?_
 refine j1 (κ:=.new) (κa:=.new) ?_ ?_
 refine w9 (κ:=.old) ?_
 exact j2 2 (pv 2)
 refine j1 (κ:=.new) (κa:=.new) ?_ ?_
 refine w9 (κ:=.old) ?_
 exact j2 3 (pv 3)
 exact j6 (κ:=.new)
 refine v3 ?_
 refine J6 (κ:=.tmn) ?_
 exact jg3 1 (pv 1)
theorem jv1:FnScope ["pegs","leap"] ["pegs","leap"] (j4 jb0):=⟨rfl,rfl,rfl,by decide +kernel,rfl,by decide +kernel,by decide +kernel⟩
theorem ju5 (T:Txt K mg t) (G_between:FD P w K mg base (cfgB t.c_Board) 1 "between" ["cell","other"] 2 (W3 t) true):FD P w K mg base (cfgB t.c_Board) 2 "can_be_done" ["pegs","leap"] 2 (U0 t) true :=
 jc3 (Γ:=[.par,.par]) T.f_can_be_done jv1 rfl (fun i h=>by match i,h with | 0,_=>rfl | 1,_=>rfl) fun f cdv A outer s H E hr =>
 by
 refine v3 ?_
 refine J6 (κ:=.new) ?_
 refine jw0 (κa:=.new) ?_ ?_
 refine jw4 (κa:=.old) (κb:=.old) (jt2 hr.units) jf9 ?_ ?_ (by with_unfolding_all rfl)
 refine w5 (κa:=.old) (κb:=.new) ?_ ?_ (fun _ _=>rfl)
 exact j2 1 (pv 1)
 exact j5
 exact j2 0 (pv 0)
 refine jw0 (κa:=.new) ?_ ?_
 refine jw4 (κa:=.old) (κb:=.old) (jf6 hr.units) jf9 ?_ ?_ (by with_unfolding_all rfl)
 refine w5 (κa:=.old) (κb:=.new) ?_ ?_ (fun _ _=>rfl)
 exact j2 1 (pv 1)
 exact j5
 exact j2 0 (pv 0)
 refine kj9 ?_
 refine jw4 (κa:=.new) (κb:=.old) (jt2 hr.units) jf9 ?_ ?_ (by with_unfolding_all rfl)
 refine j8 (κ:=.tmp) G_between hr (by decide) ?_ (j3 (j3 k8))
 refine j1 (κ:=.tmp) (κa:=.old) ?_ ?_
 refine w5 (κa:=.old) (κb:=.new) ?_ ?_ (fun _ _=>rfl)
 exact j2 1 (pv 1)
 exact j5
 refine j1 (κ:=.tmp) (κa:=.old) ?_ ?_
 refine w5 (κa:=.old) (κb:=.new) ?_ ?_ (fun _ _=>rfl)
 exact j2 1 (pv 1)
 exact j5
 exact j6 (κ:=.tmp)
 exact j2 0 (pv 0)
theorem jk8:FnScope ["pegs","leap","taken"] ["pegs","leap"] (j4 ja8):=⟨rfl,rfl,rfl,by decide +kernel,rfl,by decide +kernel,by decide +kernel⟩
theorem ju3 (T:Txt K mg t) (G_between:FD P w K mg base (cfgB t.c_Board) 1 "between" ["cell","other"] 2 (W3 t) true):FD P w K mg base (cfgB t.c_Board) 2 "pegs_behind" ["pegs","leap"] 2 (Y6 t) true :=
 jc3 (Γ:=[.par,.par,.par]) T.f_pegs_behind jk8 rfl (fun i h=>by match i,h with | 0,_=>rfl | 1,_=>rfl) fun f cdv A outer s H E hr =>
 by
 refine k7 ?_ ?_
 refine J2 (i:=2) (k:=.par) (κ:=.new) ?_ ?_
 exact jk8.nd
 refine U4 ?_
 refine j1 (κ:=.new) (κa:=.new) ?_ ?_
 refine w9 (κ:=.old) ?_
 refine w5 (κa:=.old) (κb:=.new) ?_ ?_ (fun _ _=>rfl)
 exact j2 1 (pv 1)
 exact j5
 refine j1 (κ:=.new) (κa:=.new) ?_ ?_
 refine j8 (κ:=.tmp) G_between hr (by decide) ?_ (j3 (j3 k8))
 refine j1 (κ:=.tmp) (κa:=.old) ?_ ?_
 refine w5 (κa:=.old) (κb:=.new) ?_ ?_ (fun _ _=>rfl)
 exact j2 1 (pv 1)
 exact j5
 refine j1 (κ:=.tmp) (κa:=.old) ?_ ?_
 refine w5 (κa:=.old) (κb:=.new) ?_ ?_ (fun _ _=>rfl)
 exact j2 1 (pv 1)
 exact j5
 exact j6 (κ:=.tmp)
 exact j6 (κ:=.new)
 refine v3 ?_
 refine J6 (κ:=.new) ?_
 refine jb6 (κa:=.tmp) jl7 ?_
 refine J5 (je6 hr.units) rfl T.n_sorted ji7 ?_
 refine j1 (κ:=.tmp) (κa:=.new) ?_ ?_
 refine J4 (κa:=.new) (κb:=.new) jr7 js5 ?_ ?_
 refine kb4 (n:=true) (z:=true) (tgs:=["cell"]) (caps:=[(2,"taken")]) ?_ (Blk.mk (κe:=.new) (n:=true) (z:=true) (tgs:=["cell"]) (caps:=[(2,"taken")]) rfl rfl (by decide +kernel) ?_ ?_ (by with_unfolding_all rfl) (by decide +kernel) ?_ (fun _ p hp=>by simp only [List.mem_cons,List.not_mem_nil,or_false] at hp; rcases hp with rfl <;> first | exact Or.inl rfl | exact Or.inr rfl) (jc7 (i:=0) (k:=.par)) (fun fp s0 H0 L=>Q8 (i:=0) (by exact (show List.Nodup (["cell","taken"]:List Str) from by decide +kernel)) rfl (Or.inl rfl) (Or.inr rfl)) (fun fp s0 H0 L=>js7 ?_) (fun fp s0 H0 L=>?_) (fun _=>rfl) (fun h=>nomatch h))
 refine kg9 (κ:=.old) ?_ (fun _=>rfl)
 exact j2 0 (pv 0)
 exact km0 (by intro p hp; simp only [List.mem_cons,List.not_mem_nil,or_false] at hp; rcases hp with rfl <;> rfl)
 exact ka4 (by rfl)
 exact ⟨⟨rfl,rfl,rfl,rfl⟩,trivial⟩
 refine U3 (κa:=.old) (κb:=.old) (jf6 hr.units) jf9 ?_ ?_ (by with_unfolding_all rfl)
 exact j2 0 (pv 0)
 exact j2 1 (pv 1)
 refine w9 (κ:=.old) ?_
 exact j2 0 (pv 0)
 refine Z5 ?_
 refine j1 (κ:=.new) (κa:=.new) ?_ ?_
 refine w9 (κ:=.old) ?_
 refine w5 (κa:=.old) (κb:=.new) ?_ ?_ (fun _ _=>rfl)
 exact j2 1 (pv 1)
 exact j5
 exact j6 (κ:=.new)
 exact j6 (κ:=.tmp)
theorem jf5:FnScope ["board","pegs","row","standing","all_leaps","at","leap"] ["board","pegs","row"] (j4 jm5):=⟨rfl,rfl,rfl,by decide +kernel,rfl,by decide +kernel,by decide +kernel⟩
theorem ky5 (T:Txt K mg t) (G_check_pegs:FD P w K mg base (cfgB t.c_Board) 2 "check_pegs" ["board","pegs"] 2 (U8 t) true) (G_leaps:FD P w K mg base (cfgB t.c_Board) 2 "leaps" ["board"] 1 (jo0 t) true) (G_can_be_done:FD P w K mg base (cfgB t.c_Board) 2 "can_be_done" ["pegs","leap"] 2 (U0 t) true) (G_NoLeap:NlF P w K mg base t.c_NoLeap t.c_PegError 1) (G_pegs_behind:FD P w K mg base (cfgB t.c_Board) 2 "pegs_behind" ["pegs","leap"] 2 (Y6 t) true):FD P w K mg base (cfgB t.c_Board) 3 "walked" ["board","pegs","row"] 3 (Z6 t) true :=
 jc3 (Γ:=[.par,.par,.par,.loc,.par,.par,.par]) T.f_walked jf5 rfl (fun i h=>by match i,h with | 0,_=>rfl | 1,_=>rfl | 2,_=>rfl) fun f cdv A outer s H E hr =>
 by
 refine k7 ?_ ?_
 refine qv2 (κ:=.new) ?_
 refine j8 (κ:=.tmp) G_check_pegs hr (by decide) ?_ (j3 (j3 k8))
 refine j1 (κ:=.tmp) (κa:=.old) ?_ ?_
 exact j2 0 (pv 0)
 refine j1 (κ:=.tmp) (κa:=.old) ?_ ?_
 exact j2 1 (pv 1)
 exact j6 (κ:=.tmp)
 refine k7 ?_ ?_
 refine J2 (i:=3) (k:=.loc) (κ:=.new) ?_ ?_
 exact jf5.nd
 refine jb6 (κa:=.tmp) jg5 ?_
 refine ja5 W9 rfl T.n_list jl3 ?_
 refine j1 (κ:=.tmp) (κa:=.old) ?_ ?_
 exact j2 1 (pv 1)
 exact j6 (κ:=.tmp)
 refine k7 ?_ ?_
 refine J2 (i:=4) (k:=.par) (κ:=.new) ?_ ?_
 exact jf5.nd
 refine j8 (κ:=.tmp) G_leaps hr (by decide) ?_ (j3 k8)
 refine j1 (κ:=.tmp) (κa:=.old) ?_ ?_
 exact j2 0 (pv 0)
 exact j6 (κ:=.tmp)
 refine k7 ?_ ?_
 refine kr6 (y3 ⟨rfl,rfl⟩) rfl ?_ (kf5 rfl (jb5 (Q8 (i:=5) (by exact jf5.nd) rfl (Or.inl rfl)) (jb5 (Q8 (i:=6) (by exact jf5.nd) rfl (Or.inl rfl)) jt3))) (jr3 (i:=5) (j:=6) (k:=.par) (k':=.par))   ?_
 refine kg7 (κ:=.old) T.n_enumerate ?_ (fun _=>rfl)
 exact j2 2 (pv 2)
 refine k7 ?_ ?_
 refine jc2 ?_   ?_   W0
 refine PW.pt ?_
 refine qu3 ?_ ?_
 refine U3 (κa:=.old) (κb:=.old) (jf6 hr.units) jf9 ?_ ?_ (by with_unfolding_all rfl)
 exact j2 6 (pv 6)
 exact j2 4 (pv 4)
 refine qa5 ?_
 refine jm8 ?_
 refine jr5 (κ:=.new) ?_
 refine j8 (κ:=.tmp) G_can_be_done hr (by decide) ?_ (j3 (j3 k8))
 refine j1 (κ:=.tmp) (κa:=.loc) ?_ ?_
 exact jg6 3 (pv 3)
 refine j1 (κ:=.tmp) (κa:=.old) ?_ ?_
 exact j2 6 (pv 6)
 exact j6 (κ:=.tmp)
 refine v3 ?_
 refine kv3 (κa:=.old) G_NoLeap hr (by decide) T.m_NoLeap ?_
 exact j2 5 (pv 5)
 refine v3 ?_
 refine J2 (i:=3) (k:=.loc) (κ:=.new) ?_ ?_
 exact jf5.nd
 refine j8 (κ:=.tmp) G_pegs_behind hr (by decide) ?_ (j3 (j3 k8))
 refine j1 (κ:=.tmp) (κa:=.loc) ?_ ?_
 exact jg6 3 (pv 3)
 refine j1 (κ:=.tmp) (κa:=.old) ?_ ?_
 exact j2 6 (pv 6)
 exact j6 (κ:=.tmp)
 refine v3 ?_
 refine J6 (κ:=.loc) ?_
 exact jg6 3 (pv 3)
theorem qd3:FnScope ["board","pegs","leap"] ["board","pegs","leap"] (j4 js8):=⟨rfl,rfl,rfl,by decide +kernel,rfl,by decide +kernel,by decide +kernel⟩
theorem qe7 (T:Txt K mg t) (G_walked:FD P w K mg base (cfgB t.c_Board) 3 "walked" ["board","pegs","row"] 3 (Z6 t) true):FD P w K mg base (cfgB t.c_Board) 4 "leapt" ["board","pegs","leap"] 3 (jn7 t) true :=
 jc3 (Γ:=[.par,.par,.par]) T.f_leapt qd3 rfl (fun i h=>by match i,h with | 0,_=>rfl | 1,_=>rfl | 2,_=>rfl) fun f cdv A outer s H E hr =>
 by
 refine v3 ?_
 refine J6 (κ:=.new) ?_
 refine j8 (κ:=.tmp) G_walked hr (by decide) ?_ (j3 (j3 (j3 k8)))
 refine j1 (κ:=.tmp) (κa:=.old) ?_ ?_
 exact j2 0 (pv 0)
 refine j1 (κ:=.tmp) (κa:=.old) ?_ ?_
 exact j2 1 (pv 1)
 refine j1 (κ:=.tmp) (κa:=.new) ?_ ?_
 refine Z5 ?_
 refine j1 (κ:=.new) (κa:=.new) ?_ ?_
 refine w9 (κ:=.old) ?_
 exact j2 2 (pv 2)
 exact j6 (κ:=.new)
 exact j6 (κ:=.tmp)
theorem jr8:FnScope ["script","k"] ["script","k"] (j4 Z0):=⟨rfl,rfl,rfl,by decide +kernel,rfl,by decide +kernel,by decide +kernel⟩
theorem jr2 (T:Txt K mg t):FD P w K mg base (cfgB t.c_Board) 1 "_law_cell_at" ["script","k"] 2 (k6 t) true :=
 jc3 (Γ:=[.par,.par]) T.f__law_cell_at jr8 rfl (fun i h=>by match i,h with | 0,_=>rfl | 1,_=>rfl) fun f cdv A outer s H E hr =>
 by
 refine k7 ?_ ?_
 refine jc2 ?_   ?_   W0
 refine U3 (κa:=.old) (κb:=.new) vf1 va6 ?_ ?_ (Z3 _)
 exact j2 1 (pv 1)
 refine jb6 (κa:=.tmp) je4 ?_
 refine J5 J7 rfl T.n_len ji6 ?_
 refine j1 (κ:=.tmp) (κa:=.old) ?_ ?_
 exact j2 0 (pv 0)
 exact j6 (κ:=.tmp)
 refine v3 ?_
 refine J6 (κ:=.new) ?_
 refine w9 (κ:=.old) ?_
 refine w5 (κa:=.old) (κb:=.old) ?_ ?_ (fun _ _=>rfl)
 exact j2 0 (pv 0)
 exact j2 1 (pv 1)
 refine v3 ?_
 refine J6 (κ:=.new) ?_
 exact j5
theorem jh2:FnScope ["cell","k","many","some","number"] ["cell","k","many"] (j4 jf4):=⟨rfl,rfl,rfl,by decide +kernel,rfl,by decide +kernel,by decide +kernel⟩
theorem ki3 (T:Txt K mg t):FD P w K mg base (cfgB t.c_Board) 1 "_law_mix" ["cell","k","many"] 3 (j7 t) true :=
 jc3 (Γ:=[.par,.par,.par,.par,.par]) T.f__law_mix jh2 rfl (fun i h=>by match i,h with | 0,_=>rfl | 1,_=>rfl | 2,_=>rfl) fun f cdv A outer s H E hr =>
 by
 refine k7 ?_ ?_
 refine J2 (i:=3) (k:=.par) (κ:=.new) ?_ ?_
 exact jh2.nd
 refine Z5 ?_
 refine j1 (κ:=.new) (κa:=.new) ?_ ?_
 exact j5
 refine j1 (κ:=.new) (κa:=.new) ?_ ?_
 exact j5
 refine j1 (κ:=.new) (κa:=.new) ?_ ?_
 exact j5
 refine j1 (κ:=.new) (κa:=.new) ?_ ?_
 exact j5
 refine j1 (κ:=.new) (κa:=.new) ?_ ?_
 exact j5
 refine j1 (κ:=.new) (κa:=.new) ?_ ?_
 exact j5
 refine j1 (κ:=.new) (κa:=.new) ?_ ?_
 exact j5
 refine j1 (κ:=.new) (κa:=.new) ?_ ?_
 exact j5
 refine j1 (κ:=.new) (κa:=.new) ?_ ?_
 exact j5
 refine j1 (κ:=.new) (κa:=.new) ?_ ?_
 exact j5
 refine j1 (κ:=.new) (κa:=.new) ?_ ?_
 exact j5
 refine j1 (κ:=.new) (κa:=.new) ?_ ?_
 exact j5
 refine j1 (κ:=.new) (κa:=.new) ?_ ?_
 exact j5
 exact j6 (κ:=.new)
 refine k7 ?_ ?_
 refine J2 (i:=4) (k:=.par) (κ:=.new) ?_ ?_
 exact jh2.nd
 refine J4 (κa:=.new) (κb:=.old) kd2 jt9 ?_ ?_
 refine J4 (κa:=.new) (κb:=.new) Y8 Q7 ?_ ?_
 refine J4 (κa:=.old) (κb:=.new) jk9 jf3 ?_ ?_
 exact j2 0 (pv 0)
 exact j5
 exact j5
 refine w5 (κa:=.old) (κb:=.new) ?_ ?_ (fun _ _=>rfl)
 exact j2 3 (pv 3)
 refine J4 (κa:=.old) (κb:=.new) jk9 jf3 ?_ ?_
 exact j2 1 (pv 1)
 exact j5
 refine k7 ?_ ?_
 refine J2 (i:=4) (k:=.par) (κ:=.new) ?_ ?_
 exact jh2.nd
 refine J4 (κa:=.new) (κb:=.new) Y8 Q7 ?_ ?_
 refine J4 (κa:=.old) (κb:=.new) kd2 jt9 ?_ ?_
 exact j2 4 (pv 4)
 refine J4 (κa:=.new) (κb:=.new) Y8 Q7 ?_ ?_
 refine J4 (κa:=.new) (κb:=.new) kd2 jt9 ?_ ?_
 exact j5
 refine J4 (κa:=.old) (κb:=.new) jj3 ji2 ?_ ?_
 exact j2 1 (pv 1)
 exact j5
 exact j5
 refine J4 (κa:=.new) (κb:=.old) kd2 jt9 ?_ ?_
 exact j5
 exact j2 1 (pv 1)
 refine v3 ?_
 refine J6 (κ:=.new) ?_
 refine J4 (κa:=.new) (κb:=.old) jk9 jf3 ?_ ?_
 refine J4 (κa:=.new) (κb:=.new) jj3 ji2 ?_ ?_
 refine J4 (κa:=.old) (κb:=.new) jk9 jf3 ?_ ?_
 exact j2 4 (pv 4)
 exact j5
 exact j5
 exact j2 2 (pv 2)
theorem jz4:FnScope ["found"] ["found"] (j4 jb7):=⟨rfl,rfl,rfl,by decide +kernel,rfl,by decide +kernel,by decide +kernel⟩
theorem jy8 (T:Txt K mg t):FD P w K mg base (cfgB t.c_Board) 1 "_law_whole" ["found"] 1 (U1 t) true :=
 jc3 (Γ:=[.par]) T.f__law_whole jz4 rfl (fun i h=>by match i,h with | 0,_=>rfl) fun f cdv A outer s H E hr =>
 by
 refine v3 ?_
 refine J6 (κ:=.new) ?_
 refine jw0 (κa:=.new) ?_ ?_
 refine jq5 (κa:=.old) (T:="int") ko4 T.n_isinstance T.n_int (by decide +kernel) ?_
 exact j2 0 (pv 0)
 refine kj9 ?_
 refine qy4 (κa:=.new) ?_
 refine jq5 (κa:=.old) (T:="bool") kg1 T.n_isinstance T.n_bool (by decide +kernel) ?_
 exact j2 0 (pv 0)
theorem J0:FnScope ["script","most","cell","height","width","down","across","some","k"] ["script","most"] (j4 Y3):=⟨rfl,rfl,rfl,by decide +kernel,rfl,by decide +kernel,by decide +kernel⟩
theorem jp5 (T:Txt K mg t) (G__law_cell_at:FD P w K mg base (cfgB t.c_Board) 1 "_law_cell_at" ["script","k"] 2 (k6 t) true) (G__law_mix:FD P w K mg base (cfgB t.c_Board) 1 "_law_mix" ["cell","k","many"] 3 (j7 t) true):FD P w K mg base (cfgB t.c_Board) 2 "_law_cells_by" ["script","most"] 2 (J8 t) true :=
 jc3 (Γ:=[.par,.par,.par,.par,.par,.par,.par,.own true,.par]) T.f__law_cells_by J0 rfl (fun i h=>by match i,h with | 0,_=>rfl | 1,_=>rfl) fun f cdv A outer s H E hr =>
 by
 refine k7 ?_ ?_
 refine J2 (i:=2) (k:=.par) (κ:=.new) ?_ ?_
 exact J0.nd
 refine j8 (κ:=.tmp) G__law_cell_at hr (by decide) ?_ (j3 (j3 k8))
 refine j1 (κ:=.tmp) (κa:=.old) ?_ ?_
 exact j2 0 (pv 0)
 refine j1 (κ:=.tmp) (κa:=.new) ?_ ?_
 exact j5
 exact j6 (κ:=.tmp)
 refine k7 ?_ ?_
 refine qk4 (i:=3) (j:=4) (k:=.par) (k':=.par) rfl ?_ ?_ (by decide)
 exact J0.nd
 refine j1 (κ:=.new) (κa:=.new) ?_ ?_
 refine J4 (κa:=.new) (κb:=.new) Y8 Q7 ?_ ?_
 exact j5
 refine j8 (κ:=.tmp) G__law_mix hr (by decide) ?_ (j3 (j3 (j3 k8)))
 refine j1 (κ:=.tmp) (κa:=.old) ?_ ?_
 exact j2 2 (pv 2)
 refine j1 (κ:=.tmp) (κa:=.new) ?_ ?_
 exact j5
 refine j1 (κ:=.tmp) (κa:=.new) ?_ ?_
 exact j5
 exact j6 (κ:=.tmp)
 refine j1 (κ:=.new) (κa:=.new) ?_ ?_
 refine J4 (κa:=.new) (κb:=.new) Y8 Q7 ?_ ?_
 exact j5
 refine j8 (κ:=.tmp) G__law_mix hr (by decide) ?_ (j3 (j3 (j3 k8)))
 refine j1 (κ:=.tmp) (κa:=.old) ?_ ?_
 exact j2 2 (pv 2)
 refine j1 (κ:=.tmp) (κa:=.new) ?_ ?_
 exact j5
 refine j1 (κ:=.tmp) (κa:=.new) ?_ ?_
 exact j5
 exact j6 (κ:=.tmp)
 exact j6 (κ:=.new)
 refine k7 ?_ ?_
 refine jc2 ?_   ?_   W0
 refine U3 (κa:=.new) (κb:=.new) (jm4 hr.units) je3 ?_ ?_ (Z3 _)
 refine J4 (κa:=.old) (κb:=.new) jk9 jf3 ?_ ?_
 exact j2 2 (pv 2)
 exact j5
 exact j5
 refine v3 ?_
 refine qu7 (κ:=.new) ?_ rfl (kf5 rfl (jb5 (Q8 (i:=3) (by exact J0.nd) rfl (Or.inl rfl)) (jb5 (Q8 (i:=4) (by exact J0.nd) rfl (Or.inl rfl)) jt3))) (jr3 (i:=3) (j:=4) (k:=.par) (k':=.par))
 refine w9 (κ:=.old) ?_
 refine w5 (κa:=.new) (κb:=.new) ?_ ?_ (fun _ _=>rfl)
 refine Z5 ?_
 refine j1 (κ:=.new) (κa:=.new) ?_ ?_
 refine U4 ?_
 refine j1 (κ:=.new) (κa:=.new) ?_ ?_
 refine J4 (κa:=.new) (κb:=.new) Y8 Q7 ?_ ?_
 exact j5
 refine J4 (κa:=.old) (κb:=.new) jk9 jf3 ?_ ?_
 exact j2 3 (pv 3)
 exact j5
 refine j1 (κ:=.new) (κa:=.new) ?_ ?_
 exact j5
 exact j6 (κ:=.new)
 refine j1 (κ:=.new) (κa:=.new) ?_ ?_
 refine U4 ?_
 refine j1 (κ:=.new) (κa:=.new) ?_ ?_
 exact j5
 refine j1 (κ:=.new) (κa:=.new) ?_ ?_
 refine J4 (κa:=.new) (κb:=.new) Y8 Q7 ?_ ?_
 exact j5
 refine J4 (κa:=.old) (κb:=.new) jk9 jf3 ?_ ?_
 exact j2 4 (pv 4)
 exact j5
 exact j6 (κ:=.new)
 exact j6 (κ:=.new)
 refine J4 (κa:=.new) (κb:=.new) jk9 jf3 ?_ ?_
 refine J4 (κa:=.old) (κb:=.new) jj3 ji2 ?_ ?_
 exact j2 2 (pv 2)
 exact j5
 exact j5
 refine k7 ?_ ?_
 refine qk4 (i:=5) (j:=6) (k:=.par) (k':=.par) rfl ?_ ?_ (by decide)
 exact J0.nd
 refine j1 (κ:=.new) (κa:=.new) ?_ ?_
 refine j8 (κ:=.tmp) G__law_mix hr (by decide) ?_ (j3 (j3 (j3 k8)))
 refine j1 (κ:=.tmp) (κa:=.old) ?_ ?_
 exact j2 2 (pv 2)
 refine j1 (κ:=.tmp) (κa:=.new) ?_ ?_
 exact j5
 refine j1 (κ:=.tmp) (κa:=.new) ?_ ?_
 refine J4 (κa:=.new) (κb:=.old) jw5 jn8 ?_ ?_
 exact j5
 exact j2 3 (pv 3)
 exact j6 (κ:=.tmp)
 refine j1 (κ:=.new) (κa:=.new) ?_ ?_
 refine j8 (κ:=.tmp) G__law_mix hr (by decide) ?_ (j3 (j3 (j3 k8)))
 refine j1 (κ:=.tmp) (κa:=.old) ?_ ?_
 exact j2 2 (pv 2)
 refine j1 (κ:=.tmp) (κa:=.new) ?_ ?_
 exact j5
 refine j1 (κ:=.tmp) (κa:=.new) ?_ ?_
 refine J4 (κa:=.new) (κb:=.old) jw5 jn8 ?_ ?_
 exact j5
 exact j2 4 (pv 4)
 exact j6 (κ:=.tmp)
 exact j6 (κ:=.new)
 refine k7 ?_ ?_
 refine J2 (i:=7) (k:=(.own true)) (κ:=.new) ?_ ?_
 exact J0.nd
 refine Z5 ?_
 exact j6 (κ:=.new)
 refine k7 ?_ ?_
 refine ji4 (κ:=.tmp) (y3 ⟨rfl,rfl⟩) rfl T.n_range ?_ (Q8 (i:=8) (by exact J0.nd) rfl (Or.inl rfl)) (jc7 (i:=8) (k:=.par))   ?_
 refine j1 (κ:=.tmp) (κa:=.new) ?_ ?_
 refine J4 (κa:=.old) (κb:=.old) kd2 jt9 ?_ ?_
 exact j2 3 (pv 3)
 exact j2 4 (pv 4)
 exact j6 (κ:=.tmp)
 refine v3 ?_
 refine jc2 ?_   ?_   W0
 refine U3 (κa:=.new) (κb:=.new) kw1 kf2 ?_ ?_ (Z3 _)
 refine j8 (κ:=.tmp) G__law_mix hr (by decide) ?_ (j3 (j3 (j3 k8)))
 refine j1 (κ:=.tmp) (κa:=.new) ?_ ?_
 refine j8 (κ:=.tmp) G__law_cell_at hr (by decide) ?_ (j3 (j3 k8))
 refine j1 (κ:=.tmp) (κa:=.old) ?_ ?_
 exact j2 0 (pv 0)
 refine j1 (κ:=.tmp) (κa:=.new) ?_ ?_
 exact j5
 exact j6 (κ:=.tmp)
 refine j1 (κ:=.tmp) (κa:=.old) ?_ ?_
 exact j2 8 (pv 8)
 refine j1 (κ:=.tmp) (κa:=.new) ?_ ?_
 exact j5
 exact j6 (κ:=.tmp)
 exact j5
 refine v3 ?_
 refine jx7 (i:=7) (κ:=.new) (to:=tVar 7) ?_ rfl
 refine kp2 PySem.F.plainAttrs_list PySem.F.slot_list_append PySem.F.type_list_append je0 (pv 7) ?_
 refine W7 ?_ jd5
 refine U4 ?_
 refine j1 (κ:=.new) (κa:=.new) ?_ ?_
 refine J4 (κa:=.old) (κb:=.new) Y8 Q7 ?_ ?_
 exact j2 5 (pv 5)
 refine J4 (κa:=.old) (κb:=.old) jj3 ji2 ?_ ?_
 exact j2 8 (pv 8)
 exact j2 4 (pv 4)
 refine j1 (κ:=.new) (κa:=.new) ?_ ?_
 refine J4 (κa:=.old) (κb:=.new) Y8 Q7 ?_ ?_
 exact j2 6 (pv 6)
 refine J4 (κa:=.old) (κb:=.old) jk9 jf3 ?_ ?_
 exact j2 8 (pv 8)
 exact j2 4 (pv 4)
 exact j6 (κ:=.new)
 refine k7 ?_ ?_
 refine jc2 ?_   ?_   W0
 refine U3 (κa:=.new) (κb:=.new) (jm4 hr.units) je3 ?_ ?_ (Z3 _)
 refine jb6 (κa:=.tmp) je4 ?_
 refine J5 J7 rfl T.n_len ji6 ?_
 refine j1 (κ:=.tmp) (κa:=.tmn) ?_ ?_
 exact jg3 7 (pv 7)
 exact j6 (κ:=.tmp)
 exact j5
 refine v3 ?_
 refine J2 (i:=7) (k:=(.own true)) (κ:=.new) ?_ ?_
 exact J0.nd
 refine Z5 ?_
 refine j1 (κ:=.new) (κa:=.new) ?_ ?_
 refine U4 ?_
 refine j1 (κ:=.new) (κa:=.new) ?_ ?_
 refine w9 (κ:=.old) ?_
 exact j2 5 (pv 5)
 refine j1 (κ:=.new) (κa:=.new) ?_ ?_
 refine w9 (κ:=.old) ?_
 exact j2 6 (pv 6)
 exact j6 (κ:=.new)
 exact j6 (κ:=.new)
 refine v3 ?_
 refine J6 (κ:=.new) ?_
 refine jj9 (κa:=.tmn) ?_ jn6 ?_
 exact jg3 7 (pv 7)
 refine jn4 (κ:=.old) ?_
 exact j2 1 (pv 1)
theorem jd4:FnScope ["cell","cells","way","gone"] ["cell","cells"] (j4 Z1):=⟨rfl,rfl,rfl,by decide +kernel,rfl,by decide +kernel,by decide +kernel⟩
theorem js2 (T:Txt K mg t) (G__law_mix:FD P w K mg base (cfgB t.c_Board) 1 "_law_mix" ["cell","k","many"] 3 (j7 t) true):FD P w K mg base (cfgB t.c_Board) 2 "_law_pegs_by" ["cell","cells"] 2 (W4 t) true :=
 jc3 (Γ:=[.par,.par,.par,.par]) T.f__law_pegs_by jd4 rfl (fun i h=>by match i,h with | 0,_=>rfl | 1,_=>rfl) fun f cdv A outer s H E hr =>
 by
 refine k7 ?_ ?_
 refine J2 (i:=2) (k:=.par) (κ:=.new) ?_ ?_
 exact jd4.nd
 refine j8 (κ:=.tmp) G__law_mix hr (by decide) ?_ (j3 (j3 (j3 k8)))
 refine j1 (κ:=.tmp) (κa:=.old) ?_ ?_
 exact j2 0 (pv 0)
 refine j1 (κ:=.tmp) (κa:=.new) ?_ ?_
 exact j5
 refine j1 (κ:=.tmp) (κa:=.new) ?_ ?_
 exact j5
 exact j6 (κ:=.tmp)
 refine k7 ?_ ?_
 refine jc2 ?_   ?_   W0
 refine U3 (κa:=.old) (κb:=.new) (jm4 hr.units) je3 ?_ ?_ (Z3 _)
 exact j2 2 (pv 2)
 exact j5
 refine k7 ?_ ?_
 refine J2 (i:=3) (k:=.par) (κ:=.new) ?_ ?_
 exact jd4.nd
 refine j8 (κ:=.tmp) G__law_mix hr (by decide) ?_ (j3 (j3 (j3 k8)))
 refine j1 (κ:=.tmp) (κa:=.old) ?_ ?_
 exact j2 0 (pv 0)
 refine j1 (κ:=.tmp) (κa:=.new) ?_ ?_
 exact j5
 refine j1 (κ:=.tmp) (κa:=.new) ?_ ?_
 refine jb6 (κa:=.tmp) je4 ?_
 refine J5 J7 rfl T.n_len ji6 ?_
 refine j1 (κ:=.tmp) (κa:=.old) ?_ ?_
 exact j2 1 (pv 1)
 exact j6 (κ:=.tmp)
 exact j6 (κ:=.tmp)
 refine v3 ?_
 refine J6 (κ:=.new) ?_
 refine J4 (κa:=.new) (κb:=.new) jr7 js5 ?_ ?_
 refine jj9 (κa:=.old) ?_ jn6 ?_
 exact j2 1 (pv 1)
 refine jn4 (κ:=.old) ?_
 exact j2 3 (pv 3)
 refine jj9 (κa:=.old) ?_ ?_ jn6
 exact j2 1 (pv 1)
 refine jn4 (κ:=.new) ?_
 refine J4 (κa:=.old) (κb:=.new) Y8 Q7 ?_ ?_
 exact j2 3 (pv 3)
 exact j5
 refine v3 ?_
 refine J6 (κ:=.new) ?_
 refine kb4 (n:=true) (z:=true) (tgs:=["k","one"]) (caps:=[(0,"cell"),(2,"way")]) ?_ (Blk.mk (κe:=.new) (n:=true) (z:=true) (tgs:=["k","one"]) (caps:=[(0,"cell"),(2,"way")]) rfl rfl (by decide +kernel) ?_ ?_ (by with_unfolding_all rfl) (by decide +kernel) ?_ (fun _ p hp=>by simp only [List.mem_cons,List.not_mem_nil,or_false] at hp; rcases hp with rfl | rfl <;> first | exact Or.inl rfl | exact Or.inr rfl) (jr3 (i:=0) (j:=1) (k:=.par) (k':=.par)) (fun fp s0 H0 L=>kf5 rfl (jb5 (Q8 (i:=0) (by exact (show List.Nodup (["k","one","cell","way"]:List Str) from by decide +kernel)) rfl (Or.inl rfl) (Or.inr rfl)) (jb5 (Q8 (i:=1) (by exact (show List.Nodup (["k","one","cell","way"]:List Str) from by decide +kernel)) rfl (Or.inl rfl) (Or.inr rfl)) jt3))) (fun fp s0 H0 L=>js7 ?_) (fun fp s0 H0 L=>?_) (fun _=>rfl) (fun h=>nomatch h))
 refine kg7 (κ:=.old) T.n_enumerate ?_ (fun _=>rfl)
 exact j2 1 (pv 1)
 exact km0 (by intro p hp; simp only [List.mem_cons,List.not_mem_nil,or_false] at hp; rcases hp with rfl | rfl <;> rfl)
 exact ka4 (by rfl)
 exact ⟨⟨rfl,rfl,rfl,rfl⟩,⟨⟨rfl,rfl,rfl,rfl⟩,trivial⟩⟩
 refine U3 (κa:=.new) (κb:=.new) kw1 kf2 ?_ ?_ (Z3 _)
 refine j8 (κ:=.tmp) G__law_mix hr (by decide) ?_ (j3 (j3 (j3 k8)))
 refine j1 (κ:=.tmp) (κa:=.old) ?_ ?_
 exact j2 2 (pv 2)
 refine j1 (κ:=.tmp) (κa:=.old) ?_ ?_
 exact j2 0 (pv 0)
 refine j1 (κ:=.tmp) (κa:=.old) ?_ ?_
 refine w5 (κa:=.new) (κb:=.old) ?_ ?_ (fun _ _=>rfl)
 refine Z5 ?_
 refine j1 (κ:=.new) (κa:=.new) ?_ ?_
 exact j5
 refine j1 (κ:=.new) (κa:=.new) ?_ ?_
 exact j5
 refine j1 (κ:=.new) (κa:=.new) ?_ ?_
 exact j5
 refine j1 (κ:=.new) (κa:=.new) ?_ ?_
 exact j5
 exact j6 (κ:=.new)
 exact j2 3 (pv 3)
 exact j6 (κ:=.tmp)
 exact j5
 refine w9 (κ:=.old) ?_
 exact j2 1 (pv 1)
theorem jr0:FnScope ["leap"] ["leap"] (j4 Z4):=⟨rfl,rfl,rfl,by decide +kernel,rfl,by decide +kernel,by decide +kernel⟩
theorem js9 (T:Txt K mg t):FD P w K mg base (cfgB t.c_Board) 1 "_law_between" ["leap"] 1 (v5 t) true :=
 jc3 (Γ:=[.par]) T.f__law_between jr0 rfl (fun i h=>by match i,h with | 0,_=>rfl) fun f cdv A outer s H E hr =>
 by
 refine v3 ?_
 refine J6 (κ:=.new) ?_
 refine U4 ?_
 refine j1 (κ:=.new) (κa:=.new) ?_ ?_
 refine J4 (κa:=.new) (κb:=.new) jj3 ji2 ?_ ?_
 refine J4 (κa:=.old) (κb:=.old) Y8 Q7 ?_ ?_
 refine w5 (κa:=.old) (κb:=.new) ?_ ?_ (fun _ _=>rfl)
 refine w5 (κa:=.old) (κb:=.new) ?_ ?_ (fun _ _=>rfl)
 exact j2 0 (pv 0)
 exact j5
 exact j5
 refine w5 (κa:=.old) (κb:=.new) ?_ ?_ (fun _ _=>rfl)
 refine w5 (κa:=.old) (κb:=.new) ?_ ?_ (fun _ _=>rfl)
 exact j2 0 (pv 0)
 exact j5
 exact j5
 exact j5
 refine j1 (κ:=.new) (κa:=.new) ?_ ?_
 refine J4 (κa:=.new) (κb:=.new) jj3 ji2 ?_ ?_
 refine J4 (κa:=.old) (κb:=.old) Y8 Q7 ?_ ?_
 refine w5 (κa:=.old) (κb:=.new) ?_ ?_ (fun _ _=>rfl)
 refine w5 (κa:=.old) (κb:=.new) ?_ ?_ (fun _ _=>rfl)
 exact j2 0 (pv 0)
 exact j5
 exact j5
 refine w5 (κa:=.old) (κb:=.new) ?_ ?_ (fun _ _=>rfl)
 refine w5 (κa:=.old) (κb:=.new) ?_ ?_ (fun _ _=>rfl)
 exact j2 0 (pv 0)
 exact j5
 exact j5
 exact j5
 exact j6 (κ:=.new)
theorem ja9:FnScope ["cells","found","one","two","apart"] ["cells"] (j4 jc1):=⟨rfl,rfl,rfl,by decide +kernel,rfl,by decide +kernel,by decide +kernel⟩
theorem jy6 (T:Txt K mg t) (G__law_between:FD P w K mg base (cfgB t.c_Board) 1 "_law_between" ["leap"] 1 (v5 t) true):FD P w K mg base (cfgB t.c_Board) 2 "_law_leaps" ["cells"] 1 (U2 t) true :=
 jc3 (Γ:=[.par,.own true,.par,.par,.par]) T.f__law_leaps ja9 rfl (fun i h=>by match i,h with | 0,_=>rfl) fun f cdv A outer s H E hr =>
 by
 refine k7 ?_ ?_
 refine J2 (i:=1) (k:=(.own true)) (κ:=.new) ?_ ?_
 exact ja9.nd
 refine Z5 ?_
 exact j6 (κ:=.new)
 refine k7 ?_ ?_
 refine Z9 (κ:=.old) (y3 ⟨rfl,rfl⟩) rfl ?_ rfl (Q8 (i:=2) (by exact ja9.nd) rfl (Or.inl rfl)) (jc7 (i:=2) (k:=.par))   ?_
 exact j2 0 (pv 0)
 refine v3 ?_
 refine Z9 (κ:=.old) (y3 ⟨rfl,rfl⟩) rfl ?_ rfl (Q8 (i:=3) (by exact ja9.nd) rfl (Or.inl rfl)) (jc7 (i:=3) (k:=.par))   ?_
 exact j2 0 (pv 0)
 refine k7 ?_ ?_
 refine J2 (i:=4) (k:=.par) (κ:=.new) ?_ ?_
 exact ja9.nd
 refine jb6 (κa:=.tmp) jl7 ?_
 refine J5 (je6 hr.units) rfl T.n_sorted ji7 ?_
 refine j1 (κ:=.tmp) (κa:=.new) ?_ ?_
 refine Z5 ?_
 refine j1 (κ:=.new) (κa:=.new) ?_ ?_
 refine jb6 (κa:=.tmp) kx0 ?_
 refine J5 km8 rfl T.n_abs qk9 ?_
 refine j1 (κ:=.tmp) (κa:=.new) ?_ ?_
 refine J4 (κa:=.old) (κb:=.old) jw5 jn8 ?_ ?_
 refine w5 (κa:=.old) (κb:=.new) ?_ ?_ (fun _ _=>rfl)
 exact j2 2 (pv 2)
 exact j5
 refine w5 (κa:=.old) (κb:=.new) ?_ ?_ (fun _ _=>rfl)
 exact j2 3 (pv 3)
 exact j5
 exact j6 (κ:=.tmp)
 refine j1 (κ:=.new) (κa:=.new) ?_ ?_
 refine jb6 (κa:=.tmp) kx0 ?_
 refine J5 km8 rfl T.n_abs qk9 ?_
 refine j1 (κ:=.tmp) (κa:=.new) ?_ ?_
 refine J4 (κa:=.old) (κb:=.old) jw5 jn8 ?_ ?_
 refine w5 (κa:=.old) (κb:=.new) ?_ ?_ (fun _ _=>rfl)
 exact j2 2 (pv 2)
 exact j5
 refine w5 (κa:=.old) (κb:=.new) ?_ ?_ (fun _ _=>rfl)
 exact j2 3 (pv 3)
 exact j5
 exact j6 (κ:=.tmp)
 exact j6 (κ:=.new)
 exact j6 (κ:=.tmp)
 refine v3 ?_
 refine jc2 ?_   ?_   W0
 refine PW.pt ?_
 refine jo9 ?_ ?_
 refine U3 (κa:=.old) (κb:=.new) (jm4 hr.units) je3 ?_ ?_ (Z3 _)
 exact j2 4 (pv 4)
 refine Z5 ?_
 refine j1 (κ:=.new) (κa:=.new) ?_ ?_
 exact j5
 refine j1 (κ:=.new) (κa:=.new) ?_ ?_
 exact j5
 exact j6 (κ:=.new)
 refine jl5 ?_
 refine U3 (κa:=.new) (κb:=.old) (jt2 hr.units) jf9 ?_ ?_ (by with_unfolding_all rfl)
 refine j8 (κ:=.tmp) G__law_between hr (by decide) ?_ (j3 k8)
 refine j1 (κ:=.tmp) (κa:=.new) ?_ ?_
 refine U4 ?_
 refine j1 (κ:=.new) (κa:=.new) ?_ ?_
 refine w9 (κ:=.old) ?_
 exact j2 2 (pv 2)
 refine j1 (κ:=.new) (κa:=.new) ?_ ?_
 refine w9 (κ:=.old) ?_
 exact j2 3 (pv 3)
 exact j6 (κ:=.new)
 exact j6 (κ:=.tmp)
 exact j2 0 (pv 0)
 refine v3 ?_
 refine jx7 (i:=1) (κ:=.new) (to:=tVar 1) ?_ rfl
 refine kp2 PySem.F.plainAttrs_list PySem.F.slot_list_append PySem.F.type_list_append je0 (pv 1) ?_
 refine W7 ?_ jd5
 refine U4 ?_
 refine j1 (κ:=.new) (κa:=.new) ?_ ?_
 refine w9 (κ:=.old) ?_
 exact j2 2 (pv 2)
 refine j1 (κ:=.new) (κa:=.new) ?_ ?_
 refine w9 (κ:=.old) ?_
 exact j2 3 (pv 3)
 exact j6 (κ:=.new)
 refine v3 ?_
 refine J6 (κ:=.new) ?_
 refine jb6 (κa:=.tmp) jl7 ?_
 refine J5 (je6 hr.units) rfl T.n_sorted ji7 ?_
 refine j1 (κ:=.tmp) (κa:=.tmn) ?_ ?_
 exact jg3 1 (pv 1)
 exact j6 (κ:=.tmp)
theorem je8:FnScope ["cells","pegs","found","one","two"] ["cells","pegs"] (j4 jd3):=⟨rfl,rfl,rfl,by decide +kernel,rfl,by decide +kernel,by decide +kernel⟩
theorem kd6 (T:Txt K mg t) (G__law_leaps:FD P w K mg base (cfgB t.c_Board) 2 "_law_leaps" ["cells"] 1 (U2 t) true) (G__law_between:FD P w K mg base (cfgB t.c_Board) 1 "_law_between" ["leap"] 1 (v5 t) true):FD P w K mg base (cfgB t.c_Board) 3 "_law_open" ["cells","pegs"] 2 (Q4 t) true :=
 jc3 (Γ:=[.par,.par,.own true,.par,.par]) T.f__law_open je8 rfl (fun i h=>by match i,h with | 0,_=>rfl | 1,_=>rfl) fun f cdv A outer s H E hr =>
 by
 refine k7 ?_ ?_
 refine J2 (i:=2) (k:=(.own true)) (κ:=.new) ?_ ?_
 exact je8.nd
 refine Z5 ?_
 exact j6 (κ:=.new)
 refine k7 ?_ ?_
 refine Z9 (κ:=.new) (y3 ⟨rfl,rfl⟩) rfl ?_ rfl (kf5 rfl (jb5 (Q8 (i:=3) (by exact je8.nd) rfl (Or.inl rfl)) (jb5 (Q8 (i:=4) (by exact je8.nd) rfl (Or.inl rfl)) jt3))) (jr3 (i:=3) (j:=4) (k:=.par) (k':=.par))   ?_
 refine j8 (κ:=.tmp) G__law_leaps hr (by decide) ?_ (j3 k8)
 refine j1 (κ:=.tmp) (κa:=.old) ?_ ?_
 exact j2 0 (pv 0)
 exact j6 (κ:=.tmp)
 refine v3 ?_
 refine jc2 ?_   ?_   W0
 refine PW.pt ?_
 refine jo9 ?_ ?_
 refine U3 (κa:=.old) (κb:=.old) (jt2 hr.units) jf9 ?_ ?_ (by with_unfolding_all rfl)
 exact j2 3 (pv 3)
 exact j2 1 (pv 1)
 refine jo9 ?_ ?_
 refine U3 (κa:=.new) (κb:=.old) (jt2 hr.units) jf9 ?_ ?_ (by with_unfolding_all rfl)
 refine j8 (κ:=.tmp) G__law_between hr (by decide) ?_ (j3 k8)
 refine j1 (κ:=.tmp) (κa:=.new) ?_ ?_
 refine U4 ?_
 refine j1 (κ:=.new) (κa:=.new) ?_ ?_
 refine w9 (κ:=.old) ?_
 exact j2 3 (pv 3)
 refine j1 (κ:=.new) (κa:=.new) ?_ ?_
 refine w9 (κ:=.old) ?_
 exact j2 4 (pv 4)
 exact j6 (κ:=.new)
 exact j6 (κ:=.tmp)
 exact j2 1 (pv 1)
 refine jl5 ?_
 refine U3 (κa:=.old) (κb:=.old) (jf6 hr.units) jf9 ?_ ?_ (by with_unfolding_all rfl)
 exact j2 4 (pv 4)
 exact j2 1 (pv 1)
 refine v3 ?_
 refine jx7 (i:=2) (κ:=.new) (to:=tVar 2) ?_ rfl
 refine kp2 PySem.F.plainAttrs_list PySem.F.slot_list_append PySem.F.type_list_append je0 (pv 2) ?_
 refine W7 ?_ jd5
 refine U4 ?_
 refine j1 (κ:=.new) (κa:=.new) ?_ ?_
 refine w9 (κ:=.old) ?_
 exact j2 3 (pv 3)
 refine j1 (κ:=.new) (κa:=.new) ?_ ?_
 refine w9 (κ:=.old) ?_
 exact j2 4 (pv 4)
 exact j6 (κ:=.new)
 refine v3 ?_
 refine J6 (κ:=.tmn) ?_
 exact jg3 2 (pv 2)
theorem jk7:FnScope ["pegs","leap","left"] ["pegs","leap"] (j4 ja6):=⟨rfl,rfl,rfl,by decide +kernel,rfl,by decide +kernel,by decide +kernel⟩
theorem jv6 (T:Txt K mg t) (G__law_between:FD P w K mg base (cfgB t.c_Board) 1 "_law_between" ["leap"] 1 (v5 t) true):FD P w K mg base (cfgB t.c_Board) 2 "_law_behind" ["pegs","leap"] 2 (Q3 t) true :=
 jc3 (Γ:=[.par,.par,.par]) T.f__law_behind jk7 rfl (fun i h=>by match i,h with | 0,_=>rfl | 1,_=>rfl) fun f cdv A outer s H E hr =>
 by
 refine k7 ?_ ?_
 refine qi7 (i:=2) (k:=.par) (n:=true) (z:=true) (tgs:=["one"]) (caps:=[(1,"leap")]) ?_ ?_ (Blk.mk (κe:=.new) (n:=true) (z:=true) (tgs:=["one"]) (caps:=[(1,"leap")]) rfl rfl (by decide +kernel) ?_ ?_ (by with_unfolding_all rfl) (by decide +kernel) ?_ (fun _ p hp=>by simp only [List.mem_cons,List.not_mem_nil,or_false] at hp; rcases hp with rfl <;> first | exact Or.inl rfl | exact Or.inr rfl) (jc7 (i:=0) (k:=.par)) (fun fp s0 H0 L=>Q8 (i:=0) (by exact (show List.Nodup (["one","leap"]:List Str) from by decide +kernel)) rfl (Or.inl rfl) (Or.inr rfl)) (fun fp s0 H0 L=>js7 ?_) (fun fp s0 H0 L=>?_) (fun _=>rfl) (fun h=>nomatch h))
 exact jk7.nd
 refine kg9 (κ:=.old) ?_ (fun _=>rfl)
 exact j2 0 (pv 0)
 exact km0 (by intro p hp; simp only [List.mem_cons,List.not_mem_nil,or_false] at hp; rcases hp with rfl <;> rfl)
 exact ka4 (by rfl)
 exact ⟨⟨rfl,rfl,rfl,rfl⟩,trivial⟩
 refine PW.pt ?_
 refine jo9 ?_ ?_
 refine U3 (κa:=.old) (κb:=.old) (jx8 hr.units) je3 ?_ ?_ (Z3 _)
 exact j2 0 (pv 0)
 refine w5 (κa:=.old) (κb:=.new) ?_ ?_ (fun _ _=>rfl)
 exact j2 1 (pv 1)
 exact j5
 refine jl5 ?_
 refine U3 (κa:=.old) (κb:=.new) (jx8 hr.units) je3 ?_ ?_ (Z3 _)
 exact j2 0 (pv 0)
 refine j8 (κ:=.tmp) G__law_between hr (by decide) ?_ (j3 k8)
 refine j1 (κ:=.tmp) (κa:=.old) ?_ ?_
 exact j2 1 (pv 1)
 exact j6 (κ:=.tmp)
 refine w9 (κ:=.old) ?_
 exact j2 0 (pv 0)
 refine v3 ?_
 refine J6 (κ:=.new) ?_
 refine jb6 (κa:=.tmp) jl7 ?_
 refine J5 (je6 hr.units) rfl T.n_sorted ji7 ?_
 refine j1 (κ:=.tmp) (κa:=.new) ?_ ?_
 refine J4 (κa:=.old) (κb:=.new) jr7 js5 ?_ ?_
 exact j2 2 (pv 2)
 refine Z5 ?_
 refine j1 (κ:=.new) (κa:=.new) ?_ ?_
 refine w9 (κ:=.old) ?_
 refine w5 (κa:=.old) (κb:=.new) ?_ ?_ (fun _ _=>rfl)
 exact j2 1 (pv 1)
 exact j5
 exact j6 (κ:=.new)
 exact j6 (κ:=.tmp)
theorem Y4:FnScope ["cells","pegs","cell","most","row","here","k","some","leap"] ["cells","pegs","cell","most"] (j4 jd2):=⟨rfl,rfl,rfl,by decide +kernel,rfl,by decide +kernel,by decide +kernel⟩
theorem kc4 (T:Txt K mg t) (G__law_mix:FD P w K mg base (cfgB t.c_Board) 1 "_law_mix" ["cell","k","many"] 3 (j7 t) true) (G__law_open:FD P w K mg base (cfgB t.c_Board) 3 "_law_open" ["cells","pegs"] 2 (Q4 t) true) (G__law_behind:FD P w K mg base (cfgB t.c_Board) 2 "_law_behind" ["pegs","leap"] 2 (Q3 t) true):FD P w K mg base (cfgB t.c_Board) 4 "_law_gone" ["cells","pegs","cell","most"] 4 (je1 t) true :=
 jc3 (Γ:=[.par,.par,.par,.par,.own true,.loc,.par,.par,.par]) T.f__law_gone Y4 rfl (fun i h=>by match i,h with | 0,_=>rfl | 1,_=>rfl | 2,_=>rfl | 3,_=>rfl) fun f cdv A outer s H E hr =>
 by
 refine k7 ?_ ?_
 refine J2 (i:=4) (k:=(.own true)) (κ:=.new) ?_ ?_
 exact Y4.nd
 refine Z5 ?_
 exact j6 (κ:=.new)
 refine k7 ?_ ?_
 refine J2 (i:=5) (k:=.loc) (κ:=.new) ?_ ?_
 exact Y4.nd
 refine jb6 (κa:=.tmp) jg5 ?_
 refine ja5 W9 rfl T.n_list jl3 ?_
 refine j1 (κ:=.tmp) (κa:=.old) ?_ ?_
 exact j2 1 (pv 1)
 exact j6 (κ:=.tmp)
 refine k7 ?_ ?_
 refine ji4 (κ:=.tmp) (y3 ⟨rfl,rfl⟩) rfl T.n_range ?_ (Q8 (i:=6) (by exact Y4.nd) rfl (Or.inl rfl)) (jc7 (i:=6) (k:=.par))   ?_
 refine j1 (κ:=.tmp) (κa:=.new) ?_ ?_
 refine j8 (κ:=.tmp) G__law_mix hr (by decide) ?_ (j3 (j3 (j3 k8)))
 refine j1 (κ:=.tmp) (κa:=.old) ?_ ?_
 exact j2 2 (pv 2)
 refine j1 (κ:=.tmp) (κa:=.new) ?_ ?_
 exact j5
 refine j1 (κ:=.tmp) (κa:=.new) ?_ ?_
 refine J4 (κa:=.old) (κb:=.new) Y8 Q7 ?_ ?_
 exact j2 3 (pv 3)
 exact j5
 exact j6 (κ:=.tmp)
 exact j6 (κ:=.tmp)
 refine k7 ?_ ?_
 refine J2 (i:=7) (k:=.par) (κ:=.new) ?_ ?_
 exact Y4.nd
 refine j8 (κ:=.tmp) G__law_open hr (by decide) ?_ (j3 (j3 k8))
 refine j1 (κ:=.tmp) (κa:=.old) ?_ ?_
 exact j2 0 (pv 0)
 refine j1 (κ:=.tmp) (κa:=.loc) ?_ ?_
 exact jg6 5 (pv 5)
 exact j6 (κ:=.tmp)
 refine v3 ?_
 refine jc2 ?_   ?_   W0
 refine U3 (κa:=.new) (κb:=.new) kw1 kf2 ?_ ?_ (Z3 _)
 refine jb6 (κa:=.tmp) je4 ?_
 refine J5 J7 rfl T.n_len ji6 ?_
 refine j1 (κ:=.tmp) (κa:=.old) ?_ ?_
 exact j2 7 (pv 7)
 exact j6 (κ:=.tmp)
 exact j5
 refine k7 ?_ ?_
 refine J2 (i:=8) (k:=.par) (κ:=.new) ?_ ?_
 exact Y4.nd
 refine w9 (κ:=.old) ?_
 refine w5 (κa:=.old) (κb:=.new) ?_ ?_ (fun _ _=>rfl)
 exact j2 7 (pv 7)
 refine j8 (κ:=.tmp) G__law_mix hr (by decide) ?_ (j3 (j3 (j3 k8)))
 refine j1 (κ:=.tmp) (κa:=.old) ?_ ?_
 exact j2 2 (pv 2)
 refine j1 (κ:=.tmp) (κa:=.new) ?_ ?_
 refine J4 (κa:=.new) (κb:=.old) Y8 Q7 ?_ ?_
 exact j5
 exact j2 6 (pv 6)
 refine j1 (κ:=.tmp) (κa:=.new) ?_ ?_
 refine jb6 (κa:=.tmp) je4 ?_
 refine J5 J7 rfl T.n_len ji6 ?_
 refine j1 (κ:=.tmp) (κa:=.old) ?_ ?_
 exact j2 7 (pv 7)
 exact j6 (κ:=.tmp)
 exact j6 (κ:=.tmp)
 refine k7 ?_ ?_
 refine jx7 (i:=4) (κ:=.new) (to:=tVar 4) ?_ rfl
 refine kp2 PySem.F.plainAttrs_list PySem.F.slot_list_append PySem.F.type_list_append je0 (pv 4) ?_
 refine W7 ?_ jd5
 refine w9 (κ:=.old) ?_
 exact j2 8 (pv 8)
 refine v3 ?_
 refine J2 (i:=5) (k:=.loc) (κ:=.new) ?_ ?_
 exact Y4.nd
 refine j8 (κ:=.tmp) G__law_behind hr (by decide) ?_ (j3 (j3 k8))
 refine j1 (κ:=.tmp) (κa:=.loc) ?_ ?_
 exact jg6 5 (pv 5)
 refine j1 (κ:=.tmp) (κa:=.old) ?_ ?_
 exact j2 8 (pv 8)
 exact j6 (κ:=.tmp)
 refine v3 ?_
 refine J6 (κ:=.tmn) ?_
 refine U4 ?_
 refine j1 (κ:=.tmn) (κa:=.tmn) ?_ ?_
 exact jg3 4 (pv 4)
 refine j1 (κ:=.tmn) (κa:=.loc) ?_ ?_
 exact jg6 5 (pv 5)
 exact j6 (κ:=.tmn)
theorem ju9:FnScope ["found","due"] ["found","due"] (j4 ja4):=⟨rfl,rfl,rfl,by decide +kernel,rfl,by decide +kernel,by decide +kernel⟩
theorem jv5 (T:Txt K mg t) (G__law_whole:FD P w K mg base (cfgB t.c_Board) 1 "_law_whole" ["found"] 1 (U1 t) true):FD P w K mg base (cfgB t.c_Board) 2 "_law_places" ["found","due"] 2 (Y7 t) true :=
 jc3 (Γ:=[.par,.par]) T.f__law_places ju9 rfl (fun i h=>by match i,h with | 0,_=>rfl | 1,_=>rfl) fun f cdv A outer s H E hr =>
 by
 refine k7 ?_ ?_
 refine jc2 ?_   ?_   W0
 refine PW.pt ?_
 refine qu3 ?_ ?_
 refine jm8 ?_
 refine jr5 (κ:=.new) ?_
 refine jq5 (κa:=.old) (T:="list") jh3 T.n_isinstance T.n_list (by decide +kernel) ?_
 exact j2 0 (pv 0)
 refine qa5 ?_
 refine U3 (κa:=.old) (κb:=.old) (jx8 hr.units) je3 ?_ ?_ (Z3 _)
 exact j2 0 (pv 0)
 exact j2 1 (pv 1)
 refine v3 ?_
 refine J6 (κ:=.new) ?_
 exact kx3
 refine v3 ?_
 refine J6 (κ:=.new) ?_
 refine jb6 (κa:=.tmp) qq3 ?_
 refine J5 (qi3 hr.hd) rfl T.n_all qz2 ?_
 refine j1 (κ:=.tmp) (κa:=.new) ?_ ?_
 refine kb4 (n:=true) (z:=true) (tgs:=["one"]) (caps:=[]) ?_ (Blk.mk (κe:=.new) (n:=true) (z:=true) (tgs:=["one"]) (caps:=[]) rfl rfl (by decide +kernel) ?_ ?_ (by with_unfolding_all rfl) (by decide +kernel) ?_ (fun _ p hp=>by cases hp) (jc7 (i:=0) (k:=.par)) (fun fp s0 H0 L=>Q8 (i:=0) (by exact (show List.Nodup (["one"]:List Str) from by decide +kernel)) rfl (Or.inl rfl) (Or.inr rfl)) (fun fp s0 H0 L=>qa0 (ft:=dC (.bl true))) (fun fp s0 H0 L=>?_) (fun _=>rfl) (fun h=>nomatch h))
 refine kg9 (κ:=.old) ?_ (fun _=>rfl)
 exact j2 0 (pv 0)
 exact km0 (by intro p hp; cases hp)
 exact ka4 (by rfl)
 exact trivial
 refine jw0 (κa:=.new) ?_ ?_
 refine jq5 (κa:=.old) (T:="tuple") ke7 T.n_isinstance T.n_tuple (by decide +kernel) ?_
 exact j2 0 (pv 0)
 refine jw0 (κa:=.new) ?_ ?_
 refine j8 (κ:=.tmp) G__law_whole hr (by decide) ?_ (j3 k8)
 refine j1 (κ:=.tmp) (κa:=.old) ?_ ?_
 refine w5 (κa:=.old) (κb:=.new) ?_ ?_ (fun _ _=>rfl)
 exact j2 0 (pv 0)
 exact j5
 exact j6 (κ:=.tmp)
 refine kj9 ?_
 refine j8 (κ:=.tmp) G__law_whole hr (by decide) ?_ (j3 k8)
 refine j1 (κ:=.tmp) (κa:=.old) ?_ ?_
 refine w5 (κa:=.old) (κb:=.new) ?_ ?_ (fun _ _=>rfl)
 exact j2 0 (pv 0)
 exact j5
 exact j6 (κ:=.tmp)
 exact j6 (κ:=.tmp)
theorem jh1:FnScope ["cells","cell","one","known","step"] ["cells","cell"] (j4 jg2):=⟨rfl,rfl,rfl,by decide +kernel,rfl,by decide +kernel,by decide +kernel⟩
theorem kg3 (T:Txt K mg t) (G__law_mix:FD P w K mg base (cfgB t.c_Board) 1 "_law_mix" ["cell","k","many"] 3 (j7 t) true) (G__law_leaps:FD P w K mg base (cfgB t.c_Board) 2 "_law_leaps" ["cells"] 1 (U2 t) true):FD P w K mg base (cfgB t.c_Board) 3 "_law_odd" ["cells","cell"] 2 (jb3 t) true :=
 jc3 (Γ:=[.par,.par,.par,.par,.par]) T.f__law_odd jh1 rfl (fun i h=>by match i,h with | 0,_=>rfl | 1,_=>rfl) fun f cdv A outer s H E hr =>
 by
 refine k7 ?_ ?_
 refine J2 (i:=2) (k:=.par) (κ:=.new) ?_ ?_
 exact jh1.nd
 refine w9 (κ:=.old) ?_
 refine w5 (κa:=.old) (κb:=.new) ?_ ?_ (fun _ _=>rfl)
 exact j2 0 (pv 0)
 refine j8 (κ:=.tmp) G__law_mix hr (by decide) ?_ (j3 (j3 (j3 k8)))
 refine j1 (κ:=.tmp) (κa:=.old) ?_ ?_
 exact j2 1 (pv 1)
 refine j1 (κ:=.tmp) (κa:=.new) ?_ ?_
 exact j5
 refine j1 (κ:=.tmp) (κa:=.new) ?_ ?_
 refine jb6 (κa:=.tmp) je4 ?_
 refine J5 J7 rfl T.n_len ji6 ?_
 refine j1 (κ:=.tmp) (κa:=.old) ?_ ?_
 exact j2 0 (pv 0)
 exact j6 (κ:=.tmp)
 exact j6 (κ:=.tmp)
 refine k7 ?_ ?_
 refine J2 (i:=3) (k:=.par) (κ:=.new) ?_ ?_
 exact jh1.nd
 refine j8 (κ:=.tmp) G__law_leaps hr (by decide) ?_ (j3 k8)
 refine j1 (κ:=.tmp) (κa:=.old) ?_ ?_
 exact j2 0 (pv 0)
 exact j6 (κ:=.tmp)
 refine k7 ?_ ?_
 refine jc2 ?_   ?_   W0
 refine PW.pt ?_
 refine jo9 ?_ ?_
 refine U3 (κa:=.new) (κb:=.new) (jm4 hr.units) je3 ?_ ?_ (Z3 _)
 refine j8 (κ:=.tmp) G__law_mix hr (by decide) ?_ (j3 (j3 (j3 k8)))
 refine j1 (κ:=.tmp) (κa:=.old) ?_ ?_
 exact j2 1 (pv 1)
 refine j1 (κ:=.tmp) (κa:=.new) ?_ ?_
 exact j5
 refine j1 (κ:=.tmp) (κa:=.new) ?_ ?_
 exact j5
 exact j6 (κ:=.tmp)
 exact j5
 refine jl5 ?_
 refine U3 (κa:=.new) (κb:=.new) kw1 kf2 ?_ ?_ (Z3 _)
 refine jb6 (κa:=.tmp) je4 ?_
 refine J5 J7 rfl T.n_len ji6 ?_
 refine j1 (κ:=.tmp) (κa:=.old) ?_ ?_
 exact j2 3 (pv 3)
 exact j6 (κ:=.tmp)
 exact j5
 refine v3 ?_
 refine J6 (κ:=.new) ?_
 refine w9 (κ:=.old) ?_
 refine w5 (κa:=.old) (κb:=.new) ?_ ?_ (fun _ _=>rfl)
 exact j2 3 (pv 3)
 refine j8 (κ:=.tmp) G__law_mix hr (by decide) ?_ (j3 (j3 (j3 k8)))
 refine j1 (κ:=.tmp) (κa:=.old) ?_ ?_
 exact j2 1 (pv 1)
 refine j1 (κ:=.tmp) (κa:=.new) ?_ ?_
 exact j5
 refine j1 (κ:=.tmp) (κa:=.new) ?_ ?_
 refine jb6 (κa:=.tmp) je4 ?_
 refine J5 J7 rfl T.n_len ji6 ?_
 refine j1 (κ:=.tmp) (κa:=.old) ?_ ?_
 exact j2 3 (pv 3)
 exact j6 (κ:=.tmp)
 exact j6 (κ:=.tmp)
 refine k7 ?_ ?_
 refine J2 (i:=4) (k:=.par) (κ:=.new) ?_ ?_
 exact jh1.nd
 with_reducible refine w9 (κ:=.old) ?_
 with_reducible refine w5 (κa:=.new) (κb:=.new) ?_ ?_ ?_ ve3
 with_reducible refine Z5 ?_
 refine j1 (κ:=.new) (κa:=.new) ?_ ?_
 refine U4 ?_
 refine j1 (κ:=.new) (κa:=.new) ?_ ?_
 exact j5
 refine j1 (κ:=.new) (κa:=.new) ?_ ?_
 exact j5
 exact j6 (κ:=.new)
 refine j1 (κ:=.new) (κa:=.new) ?_ ?_
 refine U4 ?_
 refine j1 (κ:=.new) (κa:=.new) ?_ ?_
 exact j5
 refine j1 (κ:=.new) (κa:=.new) ?_ ?_
 exact j5
 exact j6 (κ:=.new)
 refine j1 (κ:=.new) (κa:=.new) ?_ ?_
 refine U4 ?_
 refine j1 (κ:=.new) (κa:=.new) ?_ ?_
 exact j5
 refine j1 (κ:=.new) (κa:=.new) ?_ ?_
 exact j5
 exact j6 (κ:=.new)
 refine j1 (κ:=.new) (κa:=.new) ?_ ?_
 refine U4 ?_
 refine j1 (κ:=.new) (κa:=.new) ?_ ?_
 exact j5
 refine j1 (κ:=.new) (κa:=.new) ?_ ?_
 exact j5
 exact j6 (κ:=.new)
 refine j1 (κ:=.new) (κa:=.new) ?_ ?_
 refine U4 ?_
 refine j1 (κ:=.new) (κa:=.new) ?_ ?_
 exact j5
 refine j1 (κ:=.new) (κa:=.new) ?_ ?_
 exact j5
 exact j6 (κ:=.new)
 refine j1 (κ:=.new) (κa:=.new) ?_ ?_
 refine U4 ?_
 refine j1 (κ:=.new) (κa:=.new) ?_ ?_
 refine qk6 (κa:=.new) ?_
 exact j5
 refine j1 (κ:=.new) (κa:=.new) ?_ ?_
 exact j5
 exact j6 (κ:=.new)
 refine j1 (κ:=.new) (κa:=.new) ?_ ?_
 refine U4 ?_
 refine j1 (κ:=.new) (κa:=.new) ?_ ?_
 exact j5
 refine j1 (κ:=.new) (κa:=.new) ?_ ?_
 exact j5
 exact j6 (κ:=.new)
 refine j1 (κ:=.new) (κa:=.new) ?_ ?_
 refine U4 ?_
 refine j1 (κ:=.new) (κa:=.new) ?_ ?_
 exact j5
 refine j1 (κ:=.new) (κa:=.new) ?_ ?_
 exact j5
 exact j6 (κ:=.new)
 exact j6 (κ:=.new)
 refine j8 (κ:=.tmp) G__law_mix hr (by decide) ?_ (j3 (j3 (j3 k8)))
 refine j1 (κ:=.tmp) (κa:=.old) ?_ ?_
 exact j2 1 (pv 1)
 refine j1 (κ:=.tmp) (κa:=.new) ?_ ?_
 exact j5
 refine j1 (κ:=.tmp) (κa:=.new) ?_ ?_
 exact j5
 exact j6 (κ:=.tmp)
 exact fun _ _=>rfl
 refine v3 ?_
 refine J6 (κ:=.new) ?_
 refine U4 ?_
 refine j1 (κ:=.new) (κa:=.new) ?_ ?_
 refine w9 (κ:=.old) ?_
 exact j2 2 (pv 2)
 refine j1 (κ:=.new) (κa:=.new) ?_ ?_
 refine U4 ?_
 refine j1 (κ:=.new) (κa:=.new) ?_ ?_
 refine J4 (κa:=.old) (κb:=.old) Y8 Q7 ?_ ?_
 refine w5 (κa:=.old) (κb:=.new) ?_ ?_ (fun _ _=>rfl)
 exact j2 2 (pv 2)
 exact j5
 refine w5 (κa:=.old) (κb:=.new) ?_ ?_ (fun _ _=>rfl)
 exact j2 4 (pv 4)
 exact j5
 refine j1 (κ:=.new) (κa:=.new) ?_ ?_
 refine J4 (κa:=.old) (κb:=.old) Y8 Q7 ?_ ?_
 refine w5 (κa:=.old) (κb:=.new) ?_ ?_ (fun _ _=>rfl)
 exact j2 2 (pv 2)
 exact j5
 refine w5 (κa:=.old) (κb:=.new) ?_ ?_ (fun _ _=>rfl)
 exact j2 4 (pv 4)
 exact j5
 exact j6 (κ:=.new)
 exact j6 (κ:=.new)
theorem jd6:FnScope ["cells","pegs","row","here","k","leap"] ["cells","pegs","row"] (j4 jg0):=⟨rfl,rfl,rfl,by decide +kernel,rfl,by decide +kernel,by decide +kernel⟩
theorem kj1 (T:Txt K mg t) (G__law_open:FD P w K mg base (cfgB t.c_Board) 3 "_law_open" ["cells","pegs"] 2 (Q4 t) true) (G__law_behind:FD P w K mg base (cfgB t.c_Board) 2 "_law_behind" ["pegs","leap"] 2 (Q3 t) true):FD P w K mg base (cfgB t.c_Board) 4 "_law_due" ["cells","pegs","row"] 3 (jb4 t) true :=
 jc3 (Γ:=[.par,.par,.par,.loc,.par,.par]) T.f__law_due jd6 rfl (fun i h=>by match i,h with | 0,_=>rfl | 1,_=>rfl | 2,_=>rfl) fun f cdv A outer s H E hr =>
 by
 refine k7 ?_ ?_
 refine J2 (i:=3) (k:=.loc) (κ:=.new) ?_ ?_
 exact jd6.nd
 refine jb6 (κa:=.tmp) jg5 ?_
 refine ja5 W9 rfl T.n_list jl3 ?_
 refine j1 (κ:=.tmp) (κa:=.old) ?_ ?_
 exact j2 1 (pv 1)
 exact j6 (κ:=.tmp)
 refine k7 ?_ ?_
 refine kr6 (y3 ⟨rfl,rfl⟩) rfl ?_ (kf5 rfl (jb5 (Q8 (i:=4) (by exact jd6.nd) rfl (Or.inl rfl)) (jb5 (Q8 (i:=5) (by exact jd6.nd) rfl (Or.inl rfl)) jt3))) (jr3 (i:=4) (j:=5) (k:=.par) (k':=.par))   ?_
 refine kg7 (κ:=.old) T.n_enumerate ?_ (fun _=>rfl)
 exact j2 2 (pv 2)
 refine k7 ?_ ?_
 refine jc2 ?_   ?_   W0
 refine U3 (κa:=.old) (κb:=.new) (jf6 hr.units) jf9 ?_ ?_ (by with_unfolding_all rfl)
 exact j2 5 (pv 5)
 refine j8 (κ:=.tmp) G__law_open hr (by decide) ?_ (j3 (j3 k8))
 refine j1 (κ:=.tmp) (κa:=.old) ?_ ?_
 exact j2 0 (pv 0)
 refine j1 (κ:=.tmp) (κa:=.loc) ?_ ?_
 exact jg6 3 (pv 3)
 exact j6 (κ:=.tmp)
 refine v3 ?_
 refine J6 (κ:=.new) ?_
 refine w9 (κ:=.old) ?_
 exact j2 4 (pv 4)
 refine v3 ?_
 refine J2 (i:=3) (k:=.loc) (κ:=.new) ?_ ?_
 exact jd6.nd
 refine j8 (κ:=.tmp) G__law_behind hr (by decide) ?_ (j3 (j3 k8))
 refine j1 (κ:=.tmp) (κa:=.loc) ?_ ?_
 exact jg6 3 (pv 3)
 refine j1 (κ:=.tmp) (κa:=.old) ?_ ?_
 exact j2 5 (pv 5)
 exact j6 (κ:=.tmp)
 refine v3 ?_
 refine J6 (κ:=.loc) ?_
 exact jg6 3 (pv 3)
theorem jq6:FnScope ["board","pegs","row","way","e"] ["board","pegs","row","way"] (j4 jf8):=⟨rfl,rfl,rfl,by decide +kernel,rfl,by decide +kernel,by decide +kernel⟩
theorem kh8 (T:Txt K mg t) (G_walked:FD P w K mg base (cfgB t.c_Board) 3 "walked" ["board","pegs","row"] 3 (Z6 t) true) (G_leapt:FD P w K mg base (cfgB t.c_Board) 4 "leapt" ["board","pegs","leap"] 3 (jn7 t) true):FD P w K mg base (cfgB t.c_Board) 5 "_law_met" ["board","pegs","row","way"] 4 (jb2 t) true :=
 qw6 (Γ:=[.par,.par,.par,.par,.par]) T.f__law_met jq6 rfl (fun i h=>by match i,h with | 0,_=>rfl | 1,_=>rfl | 2,_=>rfl | 3,_=>rfl) fun f cdv A outer s H E hr =>
 by
 refine kt8 ?_ ?_
 refine qy5 (j:=4) (n:="e") ⟨rfl,rfl⟩ rfl ?_ T.m_NoLeap (isN T) hobB T.k_NoLeap rfl (fun E=>?_)   (fun a=>?_) rfl rfl rfl
 exact jq6.nd
 refine k7 ?_ ?_
 refine jc2 ?_   ?_   W0
 refine U3 (κa:=.old) (κb:=.new) (jm4 hr.units) je3 ?_ ?_ (Z3 _)
 exact j2 3 (pv 3)
 exact j5
 refine v3 ?_
 refine J6 (κ:=.new) ?_
 refine j8 (κ:=.tmp) G_walked hr (by decide) ?_ (j3 (j3 (j3 k8)))
 refine j1 (κ:=.tmp) (κa:=.old) ?_ ?_
 exact j2 0 (pv 0)
 refine j1 (κ:=.tmp) (κa:=.old) ?_ ?_
 exact j2 1 (pv 1)
 refine j1 (κ:=.tmp) (κa:=.old) ?_ ?_
 exact j2 2 (pv 2)
 exact j6 (κ:=.tmp)
 refine v3 ?_
 refine J6 (κ:=.new) ?_
 refine j8 (κ:=.tmp) G_leapt hr (by decide) ?_ (j3 (j3 (j3 k8)))
 refine j1 (κ:=.tmp) (κa:=.old) ?_ ?_
 exact j2 0 (pv 0)
 refine j1 (κ:=.tmp) (κa:=.old) ?_ ?_
 exact j2 1 (pv 1)
 refine j1 (κ:=.tmp) (κa:=.old) ?_ ?_
 refine w5 (κa:=.old) (κb:=.new) ?_ ?_ (fun _ _=>rfl)
 exact j2 2 (pv 2)
 exact j5
 exact j6 (κ:=.tmp)
 refine v3 ?_
 refine J6 (κ:=.new) ?_
 refine vg0 ?_ ?_ ?_
 refine jr5 (κ:=.new) ?_
 refine qv8 (κa:=.old) (tv:=.ref t.c_PegError) T.y_PegError rfl (kw5 rfl T.m_PegError rfl) T.n_isinstance ?_
 exact j2 4 (pv 4)
 refine vh1 (κa:=.old) T.atN ?_
 exact j2 4 (pv 4)
 refine qk6 (κa:=.new) ?_
 exact j5
 refine PSs.zero ?_
 exact W0
theorem jh6:FnScope ["script","cells","board","pegs","cell","row","at","way","due","handed","found"] ["script"] (j4 qa3):=⟨rfl,rfl,rfl,by decide +kernel,rfl,by decide +kernel,by decide +kernel⟩
theorem qw0 (T:Txt K mg t) (G__law_cells_by:FD P w K mg base (cfgB t.c_Board) 2 "_law_cells_by" ["script","most"] 2 (J8 t) true) {fiB:Addr} {fdB:FuncData} (mkB:Mk K t.c_Board fiB) (bB:Binds K fdB ["self","cells"] []) (G_Board:FnOk P w K mg base (CXr P w) 3 fiB fdB ["self","cells"] (kk3 K t.c_Board (w8 t))) (G__law_cell_at:FD P w K mg base (cfgB t.c_Board) 1 "_law_cell_at" ["script","k"] 2 (k6 t) true) (G__law_pegs_by:FD P w K mg base (cfgB t.c_Board) 2 "_law_pegs_by" ["cell","cells"] 2 (W4 t) true) (G__law_gone:FD P w K mg base (cfgB t.c_Board) 4 "_law_gone" ["cells","pegs","cell","most"] 4 (je1 t) true) (G__law_mix:FD P w K mg base (cfgB t.c_Board) 1 "_law_mix" ["cell","k","many"] 3 (j7 t) true) (G__law_odd:FD P w K mg base (cfgB t.c_Board) 3 "_law_odd" ["cells","cell"] 2 (jb3 t) true) (G__law_due:FD P w K mg base (cfgB t.c_Board) 4 "_law_due" ["cells","pegs","row"] 3 (jb4 t) true) (G__law_met:FD P w K mg base (cfgB t.c_Board) 5 "_law_met" ["board","pegs","row","way"] 4 (jb2 t) true) (G__law_places:FD P w K mg base (cfgB t.c_Board) 2 "_law_places" ["found","due"] 2 (Y7 t) true) (G__law_whole:FD P w K mg base (cfgB t.c_Board) 1 "_law_whole" ["found"] 1 (U1 t) true):FD P w K mg base (cfgB t.c_Board) 6 "law" ["script"] 1 (kp0 t) true :=
 jc3 (Γ:=[.par,.par,.par,.par,.par,.par,.par,.par,.par,.par,.own true]) T.f_law jh6 rfl (fun i h=>by match i,h with | 0,_=>rfl) fun f cdv A outer s H E hr =>
 by
 refine k7 ?_ ?_
 refine J2 (i:=1) (k:=.par) (κ:=.new) ?_ ?_
 exact jh6.nd
 refine j8 (κ:=.tmp) G__law_cells_by hr (by decide) ?_ (j3 (j3 k8))
 refine j1 (κ:=.tmp) (κa:=.old) ?_ ?_
 exact j2 0 (pv 0)
 refine j1 (κ:=.tmp) (κa:=.new) ?_ ?_
 exact j5
 exact j6 (κ:=.tmp)
 refine k7 ?_ ?_
 refine J2 (i:=2) (k:=.par) (κ:=.new) ?_ ?_
 exact jh6.nd
 refine qh1 (κ:=.tmp) mkB G_Board (hr.mono (by decide)) T.m_Board bB ?_
 refine j1 (κ:=.tmp) (κa:=.new) ?_ ?_
 refine jb6 (κa:=.tmp) jg5 ?_
 refine ja5 W9 rfl T.n_list jl3 ?_
 refine j1 (κ:=.tmp) (κa:=.old) ?_ ?_
 exact j2 1 (pv 1)
 exact j6 (κ:=.tmp)
 exact j6 (κ:=.tmp)
 refine k7 ?_ ?_
 refine J2 (i:=3) (k:=.par) (κ:=.new) ?_ ?_
 exact jh6.nd
 refine j8 (κ:=.tmp) G__law_pegs_by hr (by decide) ?_ (j3 (j3 k8))
 refine j1 (κ:=.tmp) (κa:=.new) ?_ ?_
 refine j8 (κ:=.tmp) G__law_cell_at hr (by decide) ?_ (j3 (j3 k8))
 refine j1 (κ:=.tmp) (κa:=.old) ?_ ?_
 exact j2 0 (pv 0)
 refine j1 (κ:=.tmp) (κa:=.new) ?_ ?_
 exact j5
 exact j6 (κ:=.tmp)
 refine j1 (κ:=.tmp) (κa:=.old) ?_ ?_
 exact j2 1 (pv 1)
 exact j6 (κ:=.tmp)
 refine k7 ?_ ?_
 refine J2 (i:=4) (k:=.par) (κ:=.new) ?_ ?_
 exact jh6.nd
 refine j8 (κ:=.tmp) G__law_cell_at hr (by decide) ?_ (j3 (j3 k8))
 refine j1 (κ:=.tmp) (κa:=.old) ?_ ?_
 exact j2 0 (pv 0)
 refine j1 (κ:=.tmp) (κa:=.new) ?_ ?_
 exact j5
 exact j6 (κ:=.tmp)
 refine k7 ?_ ?_
 refine J2 (i:=5) (k:=.par) (κ:=.old) ?_ ?_
 exact jh6.nd
 refine w5 (κa:=.new) (κb:=.new) ?_ ?_ (fun _ _=>rfl)
 refine j8 (κ:=.tmp) G__law_gone hr (by decide) ?_ (j3 (j3 (j3 (j3 k8))))
 refine j1 (κ:=.tmp) (κa:=.old) ?_ ?_
 exact j2 1 (pv 1)
 refine j1 (κ:=.tmp) (κa:=.old) ?_ ?_
 exact j2 3 (pv 3)
 refine j1 (κ:=.tmp) (κa:=.old) ?_ ?_
 exact j2 4 (pv 4)
 refine j1 (κ:=.tmp) (κa:=.new) ?_ ?_
 exact j5
 exact j6 (κ:=.tmp)
 exact j5
 refine k7 ?_ ?_
 refine jc2 ?_   ?_   W0
 refine U3 (κa:=.new) (κb:=.new) (jm4 hr.units) je3 ?_ ?_ (Z3 _)
 refine J4 (κa:=.new) (κb:=.new) jk9 jf3 ?_ ?_
 refine j8 (κ:=.tmp) G__law_cell_at hr (by decide) ?_ (j3 (j3 k8))
 refine j1 (κ:=.tmp) (κa:=.old) ?_ ?_
 exact j2 0 (pv 0)
 refine j1 (κ:=.tmp) (κa:=.new) ?_ ?_
 exact j5
 exact j6 (κ:=.tmp)
 exact j5
 exact j5
 refine k7 ?_ ?_
 refine J2 (i:=6) (k:=.par) (κ:=.new) ?_ ?_
 exact jh6.nd
 refine j8 (κ:=.tmp) G__law_mix hr (by decide) ?_ (j3 (j3 (j3 k8)))
 refine j1 (κ:=.tmp) (κa:=.old) ?_ ?_
 exact j2 4 (pv 4)
 refine j1 (κ:=.tmp) (κa:=.new) ?_ ?_
 exact j5
 refine j1 (κ:=.tmp) (κa:=.new) ?_ ?_
 refine J4 (κa:=.new) (κb:=.new) Y8 Q7 ?_ ?_
 refine jb6 (κa:=.tmp) je4 ?_
 refine J5 J7 rfl T.n_len ji6 ?_
 refine j1 (κ:=.tmp) (κa:=.old) ?_ ?_
 exact j2 5 (pv 5)
 exact j6 (κ:=.tmp)
 exact j5
 exact j6 (κ:=.tmp)
 refine v3 ?_
 refine J2 (i:=5) (k:=.par) (κ:=.new) ?_ ?_
 exact jh6.nd
 refine J4 (κa:=.new) (κb:=.new) jr7 js5 ?_ ?_
 refine J4 (κa:=.new) (κb:=.new) jr7 js5 ?_ ?_
 refine jj9 (κa:=.old) ?_ jn6 ?_
 exact j2 5 (pv 5)
 refine jn4 (κ:=.old) ?_
 exact j2 6 (pv 6)
 refine Z5 ?_
 refine j1 (κ:=.new) (κa:=.new) ?_ ?_
 refine j8 (κ:=.tmp) G__law_odd hr (by decide) ?_ (j3 (j3 k8))
 refine j1 (κ:=.tmp) (κa:=.old) ?_ ?_
 exact j2 1 (pv 1)
 refine j1 (κ:=.tmp) (κa:=.new) ?_ ?_
 refine j8 (κ:=.tmp) G__law_cell_at hr (by decide) ?_ (j3 (j3 k8))
 refine j1 (κ:=.tmp) (κa:=.old) ?_ ?_
 exact j2 0 (pv 0)
 refine j1 (κ:=.tmp) (κa:=.new) ?_ ?_
 exact j5
 exact j6 (κ:=.tmp)
 exact j6 (κ:=.tmp)
 exact j6 (κ:=.new)
 refine jj9 (κa:=.old) ?_ ?_ jn6
 exact j2 5 (pv 5)
 refine jn4 (κ:=.old) ?_
 exact j2 6 (pv 6)
 refine k7 ?_ ?_
 refine ji4 (κ:=.tmp) (y3 ⟨rfl,rfl⟩) rfl T.n_range ?_ (Q8 (i:=7) (by exact jh6.nd) rfl (Or.inl rfl)) (jc7 (i:=7) (k:=.par))   ?_
 refine j1 (κ:=.tmp) (κa:=.new) ?_ ?_
 refine J4 (κa:=.new) (κb:=.new) Y8 Q7 ?_ ?_
 exact j5
 refine jb6 (κa:=.tmp) qv1 ?_
 refine ja5 kr5 rfl T.n_int vb7 ?_
 refine j1 (κ:=.tmp) (κa:=.new) ?_ ?_
 refine jw4 (κa:=.new) (κb:=.new) kw1 kf2 ?_ ?_ (Z3 _)
 refine jb6 (κa:=.tmp) je4 ?_
 refine J5 J7 rfl T.n_len ji6 ?_
 refine j1 (κ:=.tmp) (κa:=.old) ?_ ?_
 exact j2 5 (pv 5)
 exact j6 (κ:=.tmp)
 exact j5
 exact j6 (κ:=.tmp)
 exact j6 (κ:=.tmp)
 refine k7 ?_ ?_
 refine J2 (i:=8) (k:=.par) (κ:=.new) ?_ ?_
 exact jh6.nd
 refine j8 (κ:=.tmp) G__law_due hr (by decide) ?_ (j3 (j3 (j3 k8)))
 refine j1 (κ:=.tmp) (κa:=.old) ?_ ?_
 exact j2 1 (pv 1)
 refine j1 (κ:=.tmp) (κa:=.old) ?_ ?_
 exact j2 3 (pv 3)
 refine j1 (κ:=.tmp) (κa:=.old) ?_ ?_
 refine w5 (κa:=.old) (κb:=.old) ?_ ?_ (fun _ _=>rfl)
 refine Z5 ?_
 refine j1 (κ:=.old) (κa:=.old) ?_ ?_
 exact j2 5 (pv 5)
 refine j1 (κ:=.old) (κa:=.new) ?_ ?_
 refine jj9 (κa:=.old) ?_ jn6 ?_
 exact j2 5 (pv 5)
 refine jn4 (κ:=.new) ?_
 exact j5
 exact j6 (κ:=.old)
 exact j2 7 (pv 7)
 exact j6 (κ:=.tmp)
 refine k7 ?_ ?_
 refine J2 (i:=9) (k:=.par) (κ:=.new) ?_ ?_
 exact jh6.nd
 refine Z5 ?_
 refine j1 (κ:=.new) (κa:=.new) ?_ ?_
 refine jb6 (κa:=.tmp) jg5 ?_
 refine ja5 W9 rfl T.n_list jl3 ?_
 refine j1 (κ:=.tmp) (κa:=.old) ?_ ?_
 exact j2 3 (pv 3)
 exact j6 (κ:=.tmp)
 refine j1 (κ:=.new) (κa:=.new) ?_ ?_
 refine jb6 (κa:=.tmp) jg5 ?_
 refine ja5 W9 rfl T.n_list jl3 ?_
 refine j1 (κ:=.tmp) (κa:=.old) ?_ ?_
 exact j2 5 (pv 5)
 exact j6 (κ:=.tmp)
 exact j6 (κ:=.new)
 refine k7 ?_ ?_
 refine J2 (i:=10) (k:=(.own true)) (κ:=.new) ?_ ?_
 exact jh6.nd
 refine j8 (κ:=.tmp) G__law_met hr (by decide) ?_ (j3 (j3 (j3 (j3 k8))))
 refine j1 (κ:=.tmp) (κa:=.old) ?_ ?_
 exact j2 2 (pv 2)
 refine j1 (κ:=.tmp) (κa:=.old) ?_ ?_
 refine w5 (κa:=.old) (κb:=.new) ?_ ?_ (fun _ _=>rfl)
 exact j2 9 (pv 9)
 exact j5
 refine j1 (κ:=.tmp) (κa:=.old) ?_ ?_
 refine w5 (κa:=.old) (κb:=.new) ?_ ?_ (fun _ _=>rfl)
 exact j2 9 (pv 9)
 exact j5
 refine j1 (κ:=.tmp) (κa:=.old) ?_ ?_
 exact j2 7 (pv 7)
 exact j6 (κ:=.tmp)
 refine k7 ?_ ?_
 refine jc2 ?_   ?_   W0
 refine U3 (κa:=.old) (κb:=.old) (jx8 hr.units) je3 ?_ ?_ (Z3 _)
 exact j2 9 (pv 9)
 refine Z5 ?_
 refine j1 (κ:=.old) (κa:=.old) ?_ ?_
 exact j2 3 (pv 3)
 refine j1 (κ:=.old) (κa:=.old) ?_ ?_
 exact j2 5 (pv 5)
 exact j6 (κ:=.old)
 refine v3 ?_
 refine J6 (κ:=.new) ?_
 exact kx3
 refine k7 ?_ ?_
 refine jc2 ?_   ?_   W0
 refine PW.pt ?_
 refine jo9 ?_ ?_
 refine jr5 (κ:=.new) ?_
 refine jq5 (κa:=.old) (T:="list") jh3 T.n_isinstance T.n_list (by decide +kernel) ?_
 exact j2 8 (pv 8)
 refine jl5 ?_
 refine jm8 ?_
 refine jr5 (κ:=.new) ?_
 refine j8 (κ:=.tmp) G__law_places hr (by decide) ?_ (j3 (j3 k8))
 refine j1 (κ:=.tmp) (κa:=.tmn) ?_ ?_
 exact jg3 10 (pv 10)
 refine j1 (κ:=.tmp) (κa:=.old) ?_ ?_
 exact j2 8 (pv 8)
 exact j6 (κ:=.tmp)
 refine v3 ?_
 refine J6 (κ:=.new) ?_
 exact kx3
 refine k7 ?_ ?_
 refine jc2 ?_   ?_   W0
 refine PW.pt ?_
 refine jo9 ?_ ?_
 refine jm8 ?_
 refine jr5 (κ:=.new) ?_
 refine jq5 (κa:=.old) (T:="list") jh3 T.n_isinstance T.n_list (by decide +kernel) ?_
 exact j2 8 (pv 8)
 refine jl5 ?_
 refine PW.pt ?_
 refine qu3 ?_ ?_
 refine jm8 ?_
 refine jr5 (κ:=.new) ?_
 refine j8 (κ:=.tmp) G__law_whole hr (by decide) ?_ (j3 k8)
 refine j1 (κ:=.tmp) (κa:=.tmn) ?_ ?_
 exact jg3 10 (pv 10)
 exact j6 (κ:=.tmp)
 refine qa5 ?_
 refine U3 (κa:=.tmn) (κb:=.old) (jx8 hr.units) je3 ?_ ?_ (Z3 _)
 exact jg3 10 (pv 10)
 exact j2 8 (pv 8)
 refine v3 ?_
 refine J6 (κ:=.new) ?_
 exact kx3
 refine k7 ?_ ?_
 refine jc2 ?_   ?_   W0
 refine jr5 (κ:=.new) ?_
 refine jq5 (κa:=.old) (T:="list") jh3 T.n_isinstance T.n_list (by decide +kernel) ?_
 exact j2 8 (pv 8)
 refine v3 ?_
 refine jx7 (i:=10) (κ:=.new) (to:=tVar 10) ?_ rfl
 refine kp2 PySem.F.plainAttrs_list PySem.F.slot_list_append PySem.F.type_list_append je0 (pv 10) ?_
 refine W7 ?_ jd5
 refine U4 ?_
 refine j1 (κ:=.new) (κa:=.new) ?_ ?_
 exact j5
 refine j1 (κ:=.new) (κa:=.new) ?_ ?_
 exact j5
 exact j6 (κ:=.new)
 refine v3 ?_
 refine jc2 ?_   ?_   W0
 refine U3 (κa:=.old) (κb:=.old) (jx8 hr.units) je3 ?_ ?_ (Z3 _)
 exact j2 9 (pv 9)
 refine Z5 ?_
 refine j1 (κ:=.old) (κa:=.old) ?_ ?_
 exact j2 3 (pv 3)
 refine j1 (κ:=.old) (κa:=.old) ?_ ?_
 exact j2 5 (pv 5)
 exact j6 (κ:=.old)
 refine v3 ?_
 refine J6 (κ:=.new) ?_
 exact kx3
 refine v3 ?_
 refine J6 (κ:=.new) ?_
 refine jw4 (κa:=.old) (κb:=.old) (jm4 hr.units) je3 ?_ ?_ (Z3 _)
 refine jl8 (κa:=.old) T.clB T.naB ?_
 exact j2 2 (pv 2)
 exact j2 1 (pv 1)
theorem qa6:FnScope ["self","at"] ["self","at"] (j4 jh0):=⟨rfl,rfl,rfl,by decide +kernel,rfl,by decide +kernel,by decide +kernel⟩
theorem qb3 (T:Txt K mg t):NlF P w K mg base t.c_NoLeap t.c_PegError 1:=by
 obtain ⟨fI,oI,fd,F,h1,h2,h3,h4,h5⟩:=T.iN
 refine ⟨fI,oI,fd,h1,h2,h3,qo1 (k:=0) (tx:=tTx) F qa6 htx fun cdv A outer s H E hr=>?_,h4,h5⟩
 refine jz2 (jy3 (vg3 _ h1 T.upC T.m_PegError rfl (W7 (pv 0) (W7 (vh0 (ka5 (all_cons (jb9 (n:=500) (by decide +kernel)) (all_cons (qu4 (i:=1) rfl (Or.inl rfl)) (all_cons (jb9 (n:=500) (by decide +kernel)) kh0))) (by decide))) jd5 rfl) rfl) (by decide) rfl rfl rfl)) (kh2 (vh3 h1 T.nlC (pv 0) (pv 1) rfl))
theorem qe6:FnScope ["self","cells"] ["self","cells"] (j4 jj2):=⟨rfl,rfl,rfl,by decide +kernel,rfl,by decide +kernel,by decide +kernel⟩
theorem qf6 (T:Txt K mg t) {fi:Addr} {fd:FuncData} (F:Fun K "__init__" "Board.__init__" jj2 fi fd) (G_check_cells:FD P w K mg base (cfgB t.c_Board) 2 "check_cells" ["cells"] 1 (w8 t) true):FnOk P w K mg base (CXr P w) 3 fi fd ["self","cells"] (kk3 K t.c_Board (w8 t)) :=
 qo7 (κ:=.new) F qe6 T.clB T.naB fun cdv A outer s H E hr=>by
 refine jz2 ?_ ?_
 ·refine jy3 ?_
  refine j8 (κ:=.tmp) G_check_cells hr (by decide) ?_ (j3 k8)
  refine j1 (κ:=.tmp) (κa:=.old) ?_ ?_
  ·exact j2 1 (pv 1)
  ·exact j6 (κ:=.tmp)
 ·refine kh2 ?_
  refine va3 (pv 0) ?_ rfl
  refine jb6 (κa:=.tmp) jg5 ?_
  refine ja5 W9 rfl T.n_list jl3 ?_
  refine j1 (κ:=.tmp) (κa:=.old) ?_ ?_
  ·exact j2 1 (pv 1)
  ·exact j6 (κ:=.tmp)
theorem vd8 (T:Txt K mg t):FD P w K mg base (cfgB t.c_Board) 6 "law" ["script"] 1 (kp0 t) true:=by
 have G_NoLeap:=qb3 (P:=P) (w:=w) (base:=base) T
 obtain ⟨fiB,fdB,FuB,mkB,bB⟩:=T.iB
 have G_is_rising:=kd1 (P:=P) (w:=w) (base:=base) T
 have G_is_cell:=kn6 (P:=P) (w:=w) (base:=base) T
 have G_check_cells:=jv0 (P:=P) (w:=w) (base:=base) T G_is_rising G_is_cell
 have G_Board:=qf6 (P:=P) (w:=w) (base:=base) T FuB G_check_cells
 have G_check_pegs:=jz0 (P:=P) (w:=w) (base:=base) T G_is_rising
 have G_two_apart:=ke4 (P:=P) (w:=w) (base:=base) T
 have G_between:=ko8 (P:=P) (w:=w) (base:=base) T
 have G_leaps:=qj1 (P:=P) (w:=w) (base:=base) T G_two_apart G_between
 have G_can_be_done:=ju5 (P:=P) (w:=w) (base:=base) T G_between
 have G_pegs_behind:=ju3 (P:=P) (w:=w) (base:=base) T G_between
 have G_walked:=ky5 (P:=P) (w:=w) (base:=base) T G_check_pegs G_leaps G_can_be_done G_NoLeap G_pegs_behind
 have G_leapt:=qe7 (P:=P) (w:=w) (base:=base) T G_walked
 have G__law_cell_at:=jr2 (P:=P) (w:=w) (base:=base) T
 have G__law_mix:=ki3 (P:=P) (w:=w) (base:=base) T
 have G__law_whole:=jy8 (P:=P) (w:=w) (base:=base) T
 have G__law_cells_by:=jp5 (P:=P) (w:=w) (base:=base) T G__law_cell_at G__law_mix
 have G__law_pegs_by:=js2 (P:=P) (w:=w) (base:=base) T G__law_mix
 have G__law_between:=js9 (P:=P) (w:=w) (base:=base) T
 have G__law_leaps:=jy6 (P:=P) (w:=w) (base:=base) T G__law_between
 have G__law_open:=kd6 (P:=P) (w:=w) (base:=base) T G__law_leaps G__law_between
 have G__law_behind:=jv6 (P:=P) (w:=w) (base:=base) T G__law_between
 have G__law_gone:=kc4 (P:=P) (w:=w) (base:=base) T G__law_mix G__law_open G__law_behind
 have G__law_places:=jv5 (P:=P) (w:=w) (base:=base) T G__law_whole
 have G__law_odd:=kg3 (P:=P) (w:=w) (base:=base) T G__law_mix G__law_leaps
 have G__law_due:=kj1 (P:=P) (w:=w) (base:=base) T G__law_open G__law_behind
 have G__law_met:=kh8 (P:=P) (w:=w) (base:=base) T G_walked G_leapt
 have G_law:=qw0 (P:=P) (w:=w) (base:=base) T G__law_cells_by mkB bB G_Board G__law_cell_at G__law_pegs_by G__law_gone G__law_mix G__law_odd G__law_due G__law_met G__law_places G__law_whole
 exact G_law
noncomputable def qa4 (K:Frag):Sp:=fun vs H Q _=>∃ (a:Addr) (ns:List Int),vs = [.ref a] /\ SqL K H a (ns.map V.int) /\ ns.length <= 63 /\ ∀ H',Q (.bl true) H'
theorem va2 (T:Txt K mg t) (hmath:∀ ns:List Int,ns.length <= 63 -> kp0 t [.lst (ns.map D.int)] = .ok (.bl true)):∃ a fd,FnOk P w K mg base (CXr P w) 40 a fd ["script"] (qa4 K) /\ mg "law" = some (.ref a) /\ ∃ o,K.lookup a = some o /\ o.data = .func fd:=by
 obtain ⟨a,fd,h1,h2,_,_,h4⟩:=(vd8 (P:=P) (w:=w) (base:=base) T).ex
 refine ⟨a,fd,(h1.mono (by decide)).imp fun vs H Q E zz1=>?_,h2,h4⟩
 obtain ⟨p,ns,e,hs,hl,q⟩:=zz1
 subst e
 refine ⟨[.lst (ns.map D.int)],rfl,.cons (by rw [Rep]; exact ⟨p,_,rfl,hs,Reps.ints ns⟩) .nil,?_⟩
 rw [hmath ns hl]
 intro v H' _ r
 have r':=r.1
 rw [Rep] at r'
 subst r'
 exact q H'
end
theorem kitC {K:Frag} {t:Value} {C:Addr} {x:_} {b:Bool} (h1:clsIn K C = some x) (h2:typeIn K (.ref C) = some (.type "type")) (h3:subIn K t (.ref C) = some b):kitCls K t (.ref C) = some b:=by
 unfold kitCls
 dsimp only
 rw [h1,h2,if_pos (show ((some x).isSome && (some (Value.type "type") == some (Value.type "type"))) = true from by simp)]
 exact h3
theorem kitO {K:Frag} {t c:Value} (h:kitCls K t c = some true):kitOne K t c = some true:=by
 unfold kitOne
 split
 ·rfl
 ·exact h
theorem txt_mk {K:Frag} {h:Heap} {mg:Str -> Option Value} (X:K.In h) (G:h.Ns mainGlobals mg)
  {a0:Addr} {od0 an0:Option Addr} {sl0:Array (Option Value)} {oc0 kV0 dc0 pm0 cd0 ct0:Value} {a1:Addr} {od1 an1:Option Addr} {sl1:Array (Option Value)} {oc1 kV1 dc1 pm1 cd1 ct1:Value} {a2:Addr} {od2 an2:Option Addr} {sl2:Array (Option Value)} {oc2 kV2 dc2 pm2 cd2 ct2:Value} {a3:Addr} {od3 an3:Option Addr} {sl3:Array (Option Value)} {oc3 kV3 dc3 pm3 cd3 ct3:Value} {a4:Addr} {od4 an4:Option Addr} {sl4:Array (Option Value)} {oc4 kV4 dc4 pm4 cd4 ct4:Value} {a5:Addr} {od5 an5:Option Addr} {sl5:Array (Option Value)} {oc5 kV5 dc5 pm5 cd5 ct5:Value} {a6:Addr} {od6 an6:Option Addr} {sl6:Array (Option Value)} {oc6 kV6 dc6 pm6 cd6 ct6:Value} {a7:Addr} {od7 an7:Option Addr} {sl7:Array (Option Value)} {oc7 kV7 dc7 pm7 cd7 ct7:Value} {a8:Addr} {od8 an8:Option Addr} {sl8:Array (Option Value)} {oc8 kV8 dc8 pm8 cd8 ct8:Value} {a9:Addr} {od9 an9:Option Addr} {sl9:Array (Option Value)} {oc9 kV9 dc9 pm9 cd9 ct9:Value} {a10:Addr} {od10 an10:Option Addr} {sl10:Array (Option Value)} {oc10 kV10 dc10 pm10 cd10 ct10:Value} {a11:Addr} {od11 an11:Option Addr} {sl11:Array (Option Value)} {oc11 kV11 dc11 pm11 cd11 ct11:Value} {a12:Addr} {od12 an12:Option Addr} {sl12:Array (Option Value)} {oc12 kV12 dc12 pm12 cd12 ct12:Value} {a13:Addr} {od13 an13:Option Addr} {sl13:Array (Option Value)} {oc13 kV13 dc13 pm13 cd13 ct13:Value} {a14:Addr} {od14 an14:Option Addr} {sl14:Array (Option Value)} {oc14 kV14 dc14 pm14 cd14 ct14:Value} {a15:Addr} {od15 an15:Option Addr} {sl15:Array (Option Value)} {oc15 kV15 dc15 pm15 cd15 ct15:Value} {a16:Addr} {od16 an16:Option Addr} {sl16:Array (Option Value)} {oc16 kV16 dc16 pm16 cd16 ct16:Value} {a17:Addr} {od17 an17:Option Addr} {sl17:Array (Option Value)} {oc17 kV17 dc17 pm17 cd17 ct17:Value} {a18:Addr} {od18 an18:Option Addr} {sl18:Array (Option Value)} {oc18 kV18 dc18 pm18 cd18 ct18:Value} {a19:Addr} {od19 an19:Option Addr} {sl19:Array (Option Value)} {oc19 kV19 dc19 pm19 cd19 ct19:Value} {a20:Addr} {od20 an20:Option Addr} {sl20:Array (Option Value)} {oc20 kV20 dc20 pm20 cd20 ct20:Value} {a21:Addr} {od21 an21:Option Addr} {sl21:Array (Option Value)} {oc21 kV21 dc21 pm21 cd21 ct21:Value} {a22:Addr} {od22 an22:Option Addr} {sl22:Array (Option Value)} {oc22 kV22 dc22 pm22 cd22 ct22:Value} {a23:Addr} {od23 an23:Option Addr} {sl23:Array (Option Value)} {oc23 kV23 dc23 pm23 cd23 ct23:Value} {a24:Addr} {od24 an24:Option Addr} {sl24:Array (Option Value)} {oc24 kV24 dc24 pm24 cd24 ct24:Value} {a25:Addr} {od25 an25:Option Addr} {sl25:Array (Option Value)} {oc25 kV25 dc25 pm25 cd25 ct25:Value} {C_PegError C_BadBoard C_BadPegs C_NoLeap C_Board:Addr} {x_PegError:_} {x_NoLeap:_} {t_LAST:Tok} {t_MOST_CELLS:Tok} {aI:Addr} {odI anI:Option Addr} {slI:Array (Option Value)} {ocI kVI dcI pmI cdI ctI:Value} {aN:Addr} {odN anN:Option Addr} {slN:Array (Option Value)} {kVN dcN pmN cdN ctN:Value}
  (a_is_rising:nsIn K mainGlobals "is_rising" = some (some (.ref a0)))
  (l_is_rising:K.lookup a0 = some ⟨oc0,od0,.func (fnOf "is_rising" "is_rising" (w6 jd9) (v6 jd9) (j4 jd9) .none kV0 dc0 pm0 an0 cd0 ct0),sl0⟩)
  (c_is_rising:codeIn K cd0 "is_rising" = true)
  (k_is_rising:keepIn K (.ref a0) = true)
  (a_is_cell:nsIn K mainGlobals "is_cell" = some (some (.ref a1)))
  (l_is_cell:K.lookup a1 = some ⟨oc1,od1,.func (fnOf "is_cell" "is_cell" (w6 ji9) (v6 ji9) (j4 ji9) .none kV1 dc1 pm1 an1 cd1 ct1),sl1⟩)
  (c_is_cell:codeIn K cd1 "is_cell" = true)
  (k_is_cell:keepIn K (.ref a1) = true)
  (a_check_cells:nsIn K mainGlobals "check_cells" = some (some (.ref a2)))
  (l_check_cells:K.lookup a2 = some ⟨oc2,od2,.func (fnOf "check_cells" "check_cells" (w6 ja2) (v6 ja2) (j4 ja2) .none kV2 dc2 pm2 an2 cd2 ct2),sl2⟩)
  (c_check_cells:codeIn K cd2 "check_cells" = true)
  (k_check_cells:keepIn K (.ref a2) = true)
  (a_check_pegs:nsIn K mainGlobals "check_pegs" = some (some (.ref a3)))
  (l_check_pegs:K.lookup a3 = some ⟨oc3,od3,.func (fnOf "check_pegs" "check_pegs" (w6 jb8) (v6 jb8) (j4 jb8) .none kV3 dc3 pm3 an3 cd3 ct3),sl3⟩)
  (c_check_pegs:codeIn K cd3 "check_pegs" = true)
  (k_check_pegs:keepIn K (.ref a3) = true)
  (a_two_apart:nsIn K mainGlobals "two_apart" = some (some (.ref a4)))
  (l_two_apart:K.lookup a4 = some ⟨oc4,od4,.func (fnOf "two_apart" "two_apart" (w6 jd8) (v6 jd8) (j4 jd8) .none kV4 dc4 pm4 an4 cd4 ct4),sl4⟩)
  (c_two_apart:codeIn K cd4 "two_apart" = true)
  (k_two_apart:keepIn K (.ref a4) = true)
  (a_between:nsIn K mainGlobals "between" = some (some (.ref a5)))
  (l_between:K.lookup a5 = some ⟨oc5,od5,.func (fnOf "between" "between" (w6 jj4) (v6 jj4) (j4 jj4) .none kV5 dc5 pm5 an5 cd5 ct5),sl5⟩)
  (c_between:codeIn K cd5 "between" = true)
  (k_between:keepIn K (.ref a5) = true)
  (a_leaps:nsIn K mainGlobals "leaps" = some (some (.ref a6)))
  (l_leaps:K.lookup a6 = some ⟨oc6,od6,.func (fnOf "leaps" "leaps" (w6 js3) (v6 js3) (j4 js3) .none kV6 dc6 pm6 an6 cd6 ct6),sl6⟩)
  (c_leaps:codeIn K cd6 "leaps" = true)
  (k_leaps:keepIn K (.ref a6) = true)
  (a_can_be_done:nsIn K mainGlobals "can_be_done" = some (some (.ref a7)))
  (l_can_be_done:K.lookup a7 = some ⟨oc7,od7,.func (fnOf "can_be_done" "can_be_done" (w6 jb0) (v6 jb0) (j4 jb0) .none kV7 dc7 pm7 an7 cd7 ct7),sl7⟩)
  (c_can_be_done:codeIn K cd7 "can_be_done" = true)
  (k_can_be_done:keepIn K (.ref a7) = true)
  (a_pegs_behind:nsIn K mainGlobals "pegs_behind" = some (some (.ref a8)))
  (l_pegs_behind:K.lookup a8 = some ⟨oc8,od8,.func (fnOf "pegs_behind" "pegs_behind" (w6 ja8) (v6 ja8) (j4 ja8) .none kV8 dc8 pm8 an8 cd8 ct8),sl8⟩)
  (c_pegs_behind:codeIn K cd8 "pegs_behind" = true)
  (k_pegs_behind:keepIn K (.ref a8) = true)
  (a_walked:nsIn K mainGlobals "walked" = some (some (.ref a9)))
  (l_walked:K.lookup a9 = some ⟨oc9,od9,.func (fnOf "walked" "walked" (w6 jm5) (v6 jm5) (j4 jm5) .none kV9 dc9 pm9 an9 cd9 ct9),sl9⟩)
  (c_walked:codeIn K cd9 "walked" = true)
  (k_walked:keepIn K (.ref a9) = true)
  (a_leapt:nsIn K mainGlobals "leapt" = some (some (.ref a10)))
  (l_leapt:K.lookup a10 = some ⟨oc10,od10,.func (fnOf "leapt" "leapt" (w6 js8) (v6 js8) (j4 js8) .none kV10 dc10 pm10 an10 cd10 ct10),sl10⟩)
  (c_leapt:codeIn K cd10 "leapt" = true)
  (k_leapt:keepIn K (.ref a10) = true)
  (a__law_cell_at:nsIn K mainGlobals "_law_cell_at" = some (some (.ref a11)))
  (l__law_cell_at:K.lookup a11 = some ⟨oc11,od11,.func (fnOf "_law_cell_at" "_law_cell_at" (w6 Z0) (v6 Z0) (j4 Z0) .none kV11 dc11 pm11 an11 cd11 ct11),sl11⟩)
  (c__law_cell_at:codeIn K cd11 "_law_cell_at" = true)
  (k__law_cell_at:keepIn K (.ref a11) = true)
  (a__law_mix:nsIn K mainGlobals "_law_mix" = some (some (.ref a12)))
  (l__law_mix:K.lookup a12 = some ⟨oc12,od12,.func (fnOf "_law_mix" "_law_mix" (w6 jf4) (v6 jf4) (j4 jf4) .none kV12 dc12 pm12 an12 cd12 ct12),sl12⟩)
  (c__law_mix:codeIn K cd12 "_law_mix" = true)
  (k__law_mix:keepIn K (.ref a12) = true)
  (a__law_whole:nsIn K mainGlobals "_law_whole" = some (some (.ref a13)))
  (l__law_whole:K.lookup a13 = some ⟨oc13,od13,.func (fnOf "_law_whole" "_law_whole" (w6 jb7) (v6 jb7) (j4 jb7) .none kV13 dc13 pm13 an13 cd13 ct13),sl13⟩)
  (c__law_whole:codeIn K cd13 "_law_whole" = true)
  (k__law_whole:keepIn K (.ref a13) = true)
  (a__law_cells_by:nsIn K mainGlobals "_law_cells_by" = some (some (.ref a14)))
  (l__law_cells_by:K.lookup a14 = some ⟨oc14,od14,.func (fnOf "_law_cells_by" "_law_cells_by" (w6 Y3) (v6 Y3) (j4 Y3) .none kV14 dc14 pm14 an14 cd14 ct14),sl14⟩)
  (c__law_cells_by:codeIn K cd14 "_law_cells_by" = true)
  (k__law_cells_by:keepIn K (.ref a14) = true)
  (a__law_pegs_by:nsIn K mainGlobals "_law_pegs_by" = some (some (.ref a15)))
  (l__law_pegs_by:K.lookup a15 = some ⟨oc15,od15,.func (fnOf "_law_pegs_by" "_law_pegs_by" (w6 Z1) (v6 Z1) (j4 Z1) .none kV15 dc15 pm15 an15 cd15 ct15),sl15⟩)
  (c__law_pegs_by:codeIn K cd15 "_law_pegs_by" = true)
  (k__law_pegs_by:keepIn K (.ref a15) = true)
  (a__law_between:nsIn K mainGlobals "_law_between" = some (some (.ref a16)))
  (l__law_between:K.lookup a16 = some ⟨oc16,od16,.func (fnOf "_law_between" "_law_between" (w6 Z4) (v6 Z4) (j4 Z4) .none kV16 dc16 pm16 an16 cd16 ct16),sl16⟩)
  (c__law_between:codeIn K cd16 "_law_between" = true)
  (k__law_between:keepIn K (.ref a16) = true)
  (a__law_leaps:nsIn K mainGlobals "_law_leaps" = some (some (.ref a17)))
  (l__law_leaps:K.lookup a17 = some ⟨oc17,od17,.func (fnOf "_law_leaps" "_law_leaps" (w6 jc1) (v6 jc1) (j4 jc1) .none kV17 dc17 pm17 an17 cd17 ct17),sl17⟩)
  (c__law_leaps:codeIn K cd17 "_law_leaps" = true)
  (k__law_leaps:keepIn K (.ref a17) = true)
  (a__law_open:nsIn K mainGlobals "_law_open" = some (some (.ref a18)))
  (l__law_open:K.lookup a18 = some ⟨oc18,od18,.func (fnOf "_law_open" "_law_open" (w6 jd3) (v6 jd3) (j4 jd3) .none kV18 dc18 pm18 an18 cd18 ct18),sl18⟩)
  (c__law_open:codeIn K cd18 "_law_open" = true)
  (k__law_open:keepIn K (.ref a18) = true)
  (a__law_behind:nsIn K mainGlobals "_law_behind" = some (some (.ref a19)))
  (l__law_behind:K.lookup a19 = some ⟨oc19,od19,.func (fnOf "_law_behind" "_law_behind" (w6 ja6) (v6 ja6) (j4 ja6) .none kV19 dc19 pm19 an19 cd19 ct19),sl19⟩)
  (c__law_behind:codeIn K cd19 "_law_behind" = true)
  (k__law_behind:keepIn K (.ref a19) = true)
  (a__law_gone:nsIn K mainGlobals "_law_gone" = some (some (.ref a20)))
  (l__law_gone:K.lookup a20 = some ⟨oc20,od20,.func (fnOf "_law_gone" "_law_gone" (w6 jd2) (v6 jd2) (j4 jd2) .none kV20 dc20 pm20 an20 cd20 ct20),sl20⟩)
  (c__law_gone:codeIn K cd20 "_law_gone" = true)
  (k__law_gone:keepIn K (.ref a20) = true)
  (a__law_places:nsIn K mainGlobals "_law_places" = some (some (.ref a21)))
  (l__law_places:K.lookup a21 = some ⟨oc21,od21,.func (fnOf "_law_places" "_law_places" (w6 ja4) (v6 ja4) (j4 ja4) .none kV21 dc21 pm21 an21 cd21 ct21),sl21⟩)
  (c__law_places:codeIn K cd21 "_law_places" = true)
  (k__law_places:keepIn K (.ref a21) = true)
  (a__law_odd:nsIn K mainGlobals "_law_odd" = some (some (.ref a22)))
  (l__law_odd:K.lookup a22 = some ⟨oc22,od22,.func (fnOf "_law_odd" "_law_odd" (w6 jg2) (v6 jg2) (j4 jg2) .none kV22 dc22 pm22 an22 cd22 ct22),sl22⟩)
  (c__law_odd:codeIn K cd22 "_law_odd" = true)
  (k__law_odd:keepIn K (.ref a22) = true)
  (a__law_due:nsIn K mainGlobals "_law_due" = some (some (.ref a23)))
  (l__law_due:K.lookup a23 = some ⟨oc23,od23,.func (fnOf "_law_due" "_law_due" (w6 jg0) (v6 jg0) (j4 jg0) .none kV23 dc23 pm23 an23 cd23 ct23),sl23⟩)
  (c__law_due:codeIn K cd23 "_law_due" = true)
  (k__law_due:keepIn K (.ref a23) = true)
  (a__law_met:nsIn K mainGlobals "_law_met" = some (some (.ref a24)))
  (l__law_met:K.lookup a24 = some ⟨oc24,od24,.func (fnOf "_law_met" "_law_met" (w6 jf8) (v6 jf8) (j4 jf8) .none kV24 dc24 pm24 an24 cd24 ct24),sl24⟩)
  (c__law_met:codeIn K cd24 "_law_met" = true)
  (k__law_met:keepIn K (.ref a24) = true)
  (a_law:nsIn K mainGlobals "law" = some (some (.ref a25)))
  (l_law:K.lookup a25 = some ⟨oc25,od25,.func (fnOf "law" "law" (w6 qa3) (v6 qa3) (j4 qa3) .none kV25 dc25 pm25 an25 cd25 ct25),sl25⟩)
  (c_law:codeIn K cd25 "law" = true)
  (k_law:keepIn K (.ref a25) = true)
  (m_PegError:nsIn K mainGlobals "PegError" = some (some (.ref C_PegError)))
  (m_BadBoard:nsIn K mainGlobals "BadBoard" = some (some (.ref C_BadBoard)))
  (m_BadPegs:nsIn K mainGlobals "BadPegs" = some (some (.ref C_BadPegs)))
  (m_NoLeap:nsIn K mainGlobals "NoLeap" = some (some (.ref C_NoLeap)))
  (m_Board:nsIn K mainGlobals "Board" = some (some (.ref C_Board)))
  (e_BadBoard:exB K C_BadBoard [.type "ValueError",.type "Exception",.type "BaseException",.type "object"] "ValueError.__new__" = true)
  (e_BadPegs:exB K C_BadPegs [.type "ValueError",.type "Exception",.type "BaseException",.type "object"] "ValueError.__new__" = true)
  (q1_NoLeap:findIn K (.ref C_NoLeap) "__getattribute__" = some (some (.builtin "BaseException.__getattribute__")))
  (q5_NoLeap:findIn K (.ref C_NoLeap) "__getattr__" = some none)
  (q6_NoLeap:mroIn K C_NoLeap (.type "BaseException") = some true)
  (q2_NoLeap:hasDictIn K C_NoLeap = true)
  (q3_NoLeap:findIn K (.ref C_NoLeap) "__class__" = some (some (.builtin "object.__class__")))
  (q4_NoLeap:mroIn K C_NoLeap (.type "object") = some true)
  (s_PegError_NoLeap:subIn K (.ref C_NoLeap) (.ref C_PegError) = some true)
  (cl_PegError:clsIn K C_PegError = some x_PegError)
  (ty_PegError:typeIn K (.ref C_PegError) = some (.type "type"))
  (s_NoLeap_NoLeap:subIn K (.ref C_NoLeap) (.ref C_NoLeap) = some true)
  (cl_NoLeap:clsIn K C_NoLeap = some x_NoLeap)
  (ty_NoLeap:typeIn K (.ref C_NoLeap) = some (.type "type"))
  (sp0:specialIn K (.builtin "object.__class__") "__get__" = some (some (.builtin "getset_descriptor.__get__")))
  (tk0:takesIn K (.builtin "object.__class__") = some true)
  (z_abs:nsIn K mainGlobals "abs" = some none)
  (z_all:nsIn K mainGlobals "all" = some none)
  (z_bool:nsIn K mainGlobals "bool" = some none)
  (z_enumerate:nsIn K mainGlobals "enumerate" = some none)
  (z_int:nsIn K mainGlobals "int" = some none)
  (z_isinstance:nsIn K mainGlobals "isinstance" = some none)
  (z_len:nsIn K mainGlobals "len" = some none)
  (z_list:nsIn K mainGlobals "list" = some none)
  (z_range:nsIn K mainGlobals "range" = some none)
  (z_set:nsIn K mainGlobals "set" = some none)
  (z_sorted:nsIn K mainGlobals "sorted" = some none)
  (z_tuple:nsIn K mainGlobals "tuple" = some none)
  (g_LAST:nsIn K mainGlobals "LAST" = some (some (.int (7) t_LAST)))
  (g_MOST_CELLS:nsIn K mainGlobals "MOST_CELLS" = some (some (.int (24) t_MOST_CELLS)))
  (aI_:findIn K (.ref C_Board) "__init__" = some (some (.ref aI)))
  (iI_:isFn K (.ref aI) = true)
  (lI_:K.lookup aI = some ⟨ocI,odI,.func (fnOf "__init__" "Board.__init__" (w6 jj2) (v6 jj2) (j4 jj2) .none kVI dcI pmI anI cdI ctI),slI⟩)
  (cI_:codeIn K cdI "Board.__init__" = true)
  (kI_:keepIn K (.ref aI) = true)
  (pgB:plainGet K C_Board Str.empty = true)
  (hdB:hasDictIn K C_Board = true)
  (poB:plainOver K C_Board = true)
  (saB:findIn K (.ref C_Board) "__setattr__" = some (some (.builtin "object.__setattr__")))
  (mkB:makesIn K C_Board = true)
  (kcB:keepIn K (.ref C_Board) = true)
  (naB:findIn K (.ref C_Board) "cells" = some none)
  (aN0:findIn K (.ref C_NoLeap) "__init__" = some (some (.ref aN)))
  (aN_:nlIn K C_NoLeap C_PegError aN = true)
  (lN_:K.lookup aN = some ⟨.type "function",odN,.func (fnOf "__init__" "NoLeap.__init__" (w6 jh0) (v6 jh0) (j4 jh0) .none kVN dcN pmN anN cdN ctN),slN⟩)
  (cN_:codeIn K cdN "NoLeap.__init__" = true)
  (kN_:keepIn K (.ref aN) = true)
  (kcN:keepIn K (.ref C_NoLeap) = true)
  (saN:findIn K (.ref C_NoLeap) "__setattr__" = some (some (.builtin "object.__setattr__")))
  (naN:findIn K (.ref C_NoLeap) "at" = some none)
  (mrN:mroIn K C_NoLeap (.type "object") = some true)
  (spP:specialIn K (.ref C_PegError) "__getattribute__" = some (some (.builtin "type.__getattribute__")))
  (rdP:readsIn K C_PegError (.type "type") = true)
  (fdP:findCls K (.ref C_PegError) (.type "type") "__init__" = some (.val (.builtin "ValueError.__init__"))) :
  ∃ t,Txt K mg t:=by
 let t:Adr:=⟨C_PegError,C_BadBoard,C_BadPegs,C_NoLeap,C_Board,t_LAST,t_MOST_CELLS⟩
 have q_PegError_NoLeap:kitCls K (.ref C_NoLeap) (.ref C_PegError) = some true:=kitC cl_PegError ty_PegError s_PegError_NoLeap
 have o_PegError_NoLeap:kitOne K (.ref C_NoLeap) (.ref C_PegError) = some true:=kitO q_PegError_NoLeap
 have q_NoLeap_NoLeap:kitCls K (.ref C_NoLeap) (.ref C_NoLeap) = some true:=kitC cl_NoLeap ty_NoLeap s_NoLeap_NoLeap
 have z_NoLeap:ExC K C_NoLeap:=⟨q1_NoLeap,q5_NoLeap,q6_NoLeap,q2_NoLeap,q3_NoLeap,sp0,tk0,q4_NoLeap⟩
 refine ⟨t,?_⟩
 exact {
  f_is_rising:=U9 X G a_is_rising l_is_rising c_is_rising k_is_rising fun _ _ _ _ _ _ _=>rfl
  f_is_cell:=U9 X G a_is_cell l_is_cell c_is_cell k_is_cell fun _ _ _ _ _ _ _=>rfl
  f_check_cells:=U9 X G a_check_cells l_check_cells c_check_cells k_check_cells fun _ _ _ _ _ _ _=>rfl
  f_check_pegs:=U9 X G a_check_pegs l_check_pegs c_check_pegs k_check_pegs fun _ _ _ _ _ _ _ _=>rfl
  f_two_apart:=U9 X G a_two_apart l_two_apart c_two_apart k_two_apart fun _ _ _ _ _ _ _=>rfl
  f_between:=U9 X G a_between l_between c_between k_between fun _ _ _ _ _ _ _ _=>rfl
  f_leaps:=U9 X G a_leaps l_leaps c_leaps k_leaps fun _ _ _ _ _ _ _=>rfl
  f_can_be_done:=U9 X G a_can_be_done l_can_be_done c_can_be_done k_can_be_done fun _ _ _ _ _ _ _ _=>rfl
  f_pegs_behind:=U9 X G a_pegs_behind l_pegs_behind c_pegs_behind k_pegs_behind fun _ _ _ _ _ _ _ _=>rfl
  f_walked:=U9 X G a_walked l_walked c_walked k_walked fun _ _ _ _ _ _ _ _ _=>rfl
  f_leapt:=U9 X G a_leapt l_leapt c_leapt k_leapt fun _ _ _ _ _ _ _ _ _=>rfl
  f__law_cell_at:=U9 X G a__law_cell_at l__law_cell_at c__law_cell_at k__law_cell_at fun _ _ _ _ _ _ _ _=>rfl
  f__law_mix:=U9 X G a__law_mix l__law_mix c__law_mix k__law_mix fun _ _ _ _ _ _ _ _ _=>rfl
  f__law_whole:=U9 X G a__law_whole l__law_whole c__law_whole k__law_whole fun _ _ _ _ _ _ _=>rfl
  f__law_cells_by:=U9 X G a__law_cells_by l__law_cells_by c__law_cells_by k__law_cells_by fun _ _ _ _ _ _ _ _=>rfl
  f__law_pegs_by:=U9 X G a__law_pegs_by l__law_pegs_by c__law_pegs_by k__law_pegs_by fun _ _ _ _ _ _ _ _=>rfl
  f__law_between:=U9 X G a__law_between l__law_between c__law_between k__law_between fun _ _ _ _ _ _ _=>rfl
  f__law_leaps:=U9 X G a__law_leaps l__law_leaps c__law_leaps k__law_leaps fun _ _ _ _ _ _ _=>rfl
  f__law_open:=U9 X G a__law_open l__law_open c__law_open k__law_open fun _ _ _ _ _ _ _ _=>rfl
  f__law_behind:=U9 X G a__law_behind l__law_behind c__law_behind k__law_behind fun _ _ _ _ _ _ _ _=>rfl
  f__law_gone:=U9 X G a__law_gone l__law_gone c__law_gone k__law_gone fun _ _ _ _ _ _ _ _ _ _=>rfl
  f__law_places:=U9 X G a__law_places l__law_places c__law_places k__law_places fun _ _ _ _ _ _ _ _=>rfl
  f__law_odd:=U9 X G a__law_odd l__law_odd c__law_odd k__law_odd fun _ _ _ _ _ _ _ _=>rfl
  f__law_due:=U9 X G a__law_due l__law_due c__law_due k__law_due fun _ _ _ _ _ _ _ _ _=>rfl
  f__law_met:=U9 X G a__law_met l__law_met c__law_met k__law_met fun _ _ _ _ _ _ _ _ _ _=>rfl
  f_law:=U9 X G a_law l_law c_law k_law fun _ _ _ _ _ _ _=>rfl
  n_abs:=mg_none_of X G z_abs
  n_all:=mg_none_of X G z_all
  n_bool:=mg_none_of X G z_bool
  n_enumerate:=mg_none_of X G z_enumerate
  n_int:=mg_none_of X G z_int
  n_isinstance:=mg_none_of X G z_isinstance
  n_len:=mg_none_of X G z_len
  n_list:=mg_none_of X G z_list
  n_range:=mg_none_of X G z_range
  n_set:=mg_none_of X G z_set
  n_sorted:=mg_none_of X G z_sorted
  n_tuple:=mg_none_of X G z_tuple
  g_LAST:=mg_of X G g_LAST
  g_MOST_CELLS:=mg_of X G g_MOST_CELLS
  m_PegError:=mg_of X G m_PegError
  m_BadBoard:=mg_of X G m_BadBoard
  m_BadPegs:=mg_of X G m_BadPegs
  m_NoLeap:=mg_of X G m_NoLeap
  m_Board:=mg_of X G m_Board
  e_BadBoard:=e_BadBoard
  e_BadPegs:=e_BadPegs
  k_NoLeap:=fun c h=>by (unfold jh5 jo5 at h; simp only [Bool.or_eq_true,beq_iff_eq] at h; subst h; exact q_NoLeap_NoLeap)
  y_PegError:=fun c b h=>by (unfold jf0 at h; (by_cases e:c = t.c_NoLeap; (rw [if_pos e] at h; injection h with h; subst h; subst e; exact ⟨o_PegError_NoLeap,z_NoLeap⟩); (rw [if_neg e] at h; cases h)))
  clB:=⟨pgB,hdB,poB,saB⟩
  naB:=naB
  atN:=fun c h=>by (unfold okAt at h; have h:=beq_iff_eq.mp h; subst h; exact ⟨z_NoLeap,naN⟩)
  iN:=⟨_,_,_,jx2 (st:=jh0) lN_ cN_ kN_,aN_,lN_,rfl,jt0 (jx2 (st:=jh0) lN_ cN_ kN_) fun _ _ _ _ _ _ _ _=>rfl,kcN⟩
  nlC:=⟨saN,naN,mrN⟩
  upC:=⟨spP,rdP,fdP⟩
  iB:=⟨_,_,jx2 (st:=jj2) lI_ cI_ kI_,⟨mkB,aI_,iI_,kcB⟩,jt0 (jx2 (st:=jj2) lI_ cI_ kI_) fun _ _ _ _ _ _ _ _=>rfl⟩ }
theorem fn_mk {l:OpenLaw} {w:World} {K:Frag} {h:Heap} {mg:Str -> Option Value} {fa:Addr} (hfa:mg "law" = some (.ref fa)) (T:∃ t,Txt K mg t) (hmath:∀ (t:Adr) (ns:List Int),ns.length <= 63 -> kp0 t [.lst (ns.map D.int)] = .ok (.bl true)) :
  ∃ fd:FuncData,(∀ (s:Shared) (v:Value),BindsTo s fd ⟨[v],[]⟩ [("script",v)]) /\ ∀ base:Heap,K.In base -> base.Ns mainGlobals mg -> FnOk l.prog w K mg base (CXr l.prog w) 40 fa fd ["script"] (qa4 K):=by
 obtain ⟨t,T⟩:=T
 obtain ⟨a,fd,Fu,hm,hb⟩:=T.f_law
 obtain rfl:a = fa:=by rw [hm] at hfa; cases hfa; rfl
 refine ⟨fd,fun s v=>?_,fun base hk hn=>?_⟩
 ·obtain ⟨oc,od,kV,doc,pm,an,cdv,ct,osl,rfl,lk,hcd⟩:=Fu.ex
  exact .of_eq rfl
 ·obtain ⟨a',fd',h1,h2,h3⟩:=va2 (P:=l.prog) (w:=w) (base:=base) T (hmath t)
  rw [hm] at h2
  cases h2
  obtain ⟨o,l1,d1⟩:=h3
  obtain ⟨o',l2,d2⟩:=kb1 Fu
  rw [l1] at l2
  cases l2
  rw [d1] at d2
  cases d2
  exact h1
theorem walk {l:OpenLaw} {q:Program} {loose:List Str} {XP:(Str -> Option Value) -> Heap -> Prop} {YP:World -> Heap -> Prop} {d:DefRec} {K:Params -> Frag} (hn:l.most = some 63) (hdf:d.params.defaults = [])
  (hY:∀ (w:World) (h:Heap),YP w h -> (K w.params).In h)
  (F:∀ (w:World) (mg:Str -> Option Value) (fa:Addr) (h:Heap),(K w.params).In h -> h.Ns mainGlobals mg -> mg d.name = some (.ref fa) ->
   ∃ fd:FuncData,(∀ (s:Shared) (u:Value),BindsTo s fd ⟨[u],[]⟩ [("script",u)]) /\ ∀ base:Heap,(K w.params).In base -> base.Ns mainGlobals mg -> FnOk l.prog w (K w.params) mg base (CXr l.prog w) 40 fa fd ["script"] (qa4 (K w.params))) :
  WalkO q loose XP YP l.row.toRowW d [] (fun f vs=>PySem.call f vs) :=
 L2.walk_of (n:=63) (k:=40) (x:="script") (CX:=fun w=>CXr l.prog w) (sp:=fun w=>qa4 (K w.params)) hn (by decide) hdf ⟨rfl,by decide,by decide⟩ hY F (fun _ _ a ns hl _ hS=>⟨a,ns,rfl,hS,hl,fun _=>rfl⟩) fun w H s e s' zz2=>zz2.elim fun _ zz3=>zz3.elim fun _ zz4=>zz4.elim fun _ zz5=>zz5.elim fun _ zz6=>zz6.elim fun _ zz7=>zz7.elim fun _ zz8=>zz8.elim fun _ zz9=>zz9.elim fun _ zz10=>zz10.elim fun _ zz11=>zz11.elim fun _ zz12=>zz12.elim fun _ zz13=>zz13.elim fun _ zz14=>zz14.elim fun z _=>z
theorem walkX {l:OpenLaw} {q:Program} {loose:List Str} {XP:(Str -> Option Value) -> Heap -> Prop} {d:DefRec} {K:Params -> Frag} {as:List Addr} {n t:Nat} (hn:l.most = some 63) (hdf:d.params.defaults = []) (e:∀ P,as = (K P).map (·.1))
  (F:∀ (w:World) (mg:Str -> Option Value) (fa:Addr) (h:Heap),(K w.params).In h -> h.Ns mainGlobals mg -> mg d.name = some (.ref fa) ->
   ∃ fd:FuncData,(∀ (s:Shared) (u:Value),BindsTo s fd ⟨[u],[]⟩ [("script",u)]) /\ ∀ base:Heap,(K w.params).In base -> base.Ns mainGlobals mg -> FnOk l.prog w (K w.params) mg base (CXr l.prog w) 40 fa fd ["script"] (qa4 (K w.params))) :
  WalkX q loose XP (X.obsZ as) (X.valZ K n t) l.row.toRowW d [] (fun f vs=>PySem.call f vs) :=
 fun w s₀ s₁ mg mb G y a o pm cd doc dV kV h1 h2 h3 h4 h5 h6 args vals as' L h7 h8 h9 h10 h11=>walk (YP:=fun w h=>(K w.params).In h) hn hdf (fun _ _ h=>h) F w s₀ s₁ mg mb G (InK.keeps w s₀.heap s₁.heap (X.z_facts e y).2.1 L.keeps) a o pm cd doc dV kV h1 h2 h3 h4 h5 h6 args vals as' h7 h8 h9 h10 h11
end Pk
end T_K04
section T_Sim
namespace Dm
open L2 HT
section
variable {f fa fb fc g:DF} {fs:DA} {F G:DS} {st st':DSt} {d a b:D} {ds:List D} {i j:Nat}
@[simp] theorem bind_ok {α β:Type} (a:α) (f:α -> R β):R.bind (.ok a) f = f a:=rfl
@[simp] theorem bind_bad {α β:Type} (f:α -> R β):R.bind (.bad:R α) f = .bad:=rfl
@[simp] theorem bind_ex {α β:Type} (c:PySem.Addr) (p:Option Int) (f:α -> R β):R.bind (.ex c p:R α) f = .ex c p:=rfl
@[simp] theorem dSeq_ (st:DSt):dSeq F G st = match F st with | .nx st'=>G st' | o=>o:=rfl
@[simp] theorem dNext_ (st:DSt):J3 st = .nx st:=rfl
@[simp] theorem dAsg_ (st:DSt):dAsg i f st = match f st with | .ok d=>.nx (st.set i (some d)) | .ex c p=>.ex c p st | .bad=>.bad:=rfl
@[simp] theorem dDrop_ (st:DSt):ks0 f st = match f st with | .ok _=>.nx st | .ex c p=>.ex c p st | .bad=>.bad:=rfl
@[simp] theorem dRet_ (st:DSt):dRet f st = match f st with | .ok d=>.rt d | .ex c p=>.ex c p st | .bad=>.bad:=rfl
@[simp] theorem dIfS_ (st:DSt):Dm.dIfS fc F G st = match fc st with | .ok (.bl true)=>F st | .ok (.bl false)=>G st | .ok _=>.bad | .ex c p=>.ex c p st | .bad=>.bad:=rfl
@[simp] theorem dRaise0_ {c:PySem.Addr} (st:DSt):jc6 c st = .ex c none st:=rfl
@[simp] theorem dVar_ (st:DSt):dVar i st = match st[i]? with | some (some d)=>.ok d | _=>.bad:=rfl
@[simp] theorem dC_ (st:DSt):dC d st = .ok d:=rfl
@[simp] theorem dFlat_ (st:DSt):v9 f st = (f st).bind fun d=>if noL d = true then .ok d else .bad:=rfl
@[simp] theorem dOp_ {g:D -> D -> R D} (st:DSt):dOp g fa fb st = (fa st).bind fun a=>(fb st).bind fun b=>g a b:=rfl
@[simp] theorem dUn_ {g:D -> R D} (st:DSt):dUn g fa st = (fa st).bind g:=rfl
@[simp] theorem aNil_ (st:DSt):aNil st = .ok []:=rfl
@[simp] theorem aCons_ (st:DSt):j0 f fs st = (f st).bind fun d=>(fs st).bind fun ds=>.ok (d :: ds):=rfl
@[simp] theorem dTup_ {n:Nat} (st:DSt):Q0 n fs st = (fs st).bind fun ds=>if ds.length <= n then .ok (.tup ds) else .bad:=rfl
@[simp] theorem dLst_ {n:Nat} (st:DSt):Q5 n fs st = (fs st).bind fun ds=>if ds.length <= n then .ok (.lst ds) else .bad:=rfl
@[simp] theorem dFn_ {g:List D -> R D} (st:DSt):dFn g fs st = (fs st).bind g:=rfl
@[simp] theorem dAnd_ (st:DSt):dAnd fa fb st = (fa st).bind fun a=>match a with | .bl true=>fb st | .bl false=>.ok (.bl false) | _=>.bad:=rfl
@[simp] theorem dOr_ (st:DSt):dOr fa fb st = (fa st).bind fun a=>match a with | .bl true=>.ok (.bl true) | .bl false=>fb st | _=>.bad:=rfl
@[simp] theorem dNot_ (st:DSt):dNot fa st = (fa st).bind fun a=>match a with | .bl b=>.ok (.bl (!b)) | _=>.bad:=rfl
@[simp] theorem dIf_ (st:DSt):dIf fc fa fb st = (fc st).bind fun c=>match c with | .bl true=>fa st | .bl false=>fb st | _=>.bad:=rfl
@[simp] theorem dChain_ {g g':D -> D -> R D} (st:DSt):jm6 g g' fa fb fc st = (fa st).bind fun a=>(fb st).bind fun b=>(g a b).bind fun z=>match z with
 | .bl true=>(fc st).bind fun c=>g' b c
 | .bl false=>.ok (.bl false)
 | _=>.bad:=rfl
@[simp] theorem gAdd_ (i j:Int):gAdd (.int i) (.int j) = .ok (.int (i + j)):=rfl
@[simp] theorem gSub_ (i j:Int):gSub (.int i) (.int j) = .ok (.int (i - j)):=rfl
@[simp] theorem gLt_ (i j:Int):gLt (.int i) (.int j) = .ok (.bl (decide (i < j))):=rfl
@[simp] theorem gLe_ (i j:Int):gLe (.int i) (.int j) = .ok (.bl (decide (i <= j))):=rfl
@[simp] theorem gGt_ (i j:Int):gGt (.int i) (.int j) = .ok (.bl (decide (j < i))):=rfl
@[simp] theorem gNeg_ (i:Int):gNeg (.int i) = .ok (.int (-i)):=rfl
@[simp] theorem gLenL_ (ds:List D):gLen [.lst ds] = .ok (.int ds.length):=rfl
@[simp] theorem gLenT_ (ds:List D):gLen [.tup ds] = .ok (.int ds.length):=rfl
@[simp] theorem noL_int (i:Int):noL (.int i) = true:=by rw [noL] <;> simp
@[simp] theorem noL_bl (i:Bool):noL (.bl i) = true:=by rw [noL] <;> simp
@[simp] theorem dFor_ {gi:DI} {bind:DB} (st:DSt):dFor gi bind F st = match gi st with | .ok ds=>Y2 bind F ds st | .ex c p=>.ex c p st | .bad=>.bad:=rfl
@[simp] theorem iLst_ (st:DSt):iLst f st = match f st with | .ok (.lst ds)=>.ok ds | .ok _=>.bad | .ex c p=>.ex c p | .bad=>.bad:=rfl
theorem jv3 {i j:Int} (h:0 < j):gMod (.int i) (.int j) = .ok (.int (i % j)):=by
 show (if decide (0 < j) = true then _ else _) = _
 rw [if_pos (decide_eq_true h)]
theorem kt7 {i j:Int} (h:0 < j) (h2:j < 1073741824):gDiv (.int i) (.int j) = .ok (.int (i / j)):=by
 show (if (decide (0 < j) && decide (j < 1073741824)) = true then _ else _) = _
 rw [if_pos (by rw [decide_eq_true h,decide_eq_true h2]; rfl)]
theorem kf0 {i j:Int} (h : -(2 ^ 64) < i /\ i < 2 ^ 64):gMul (.int i) (.int j) = .ok (.int (i * j)):=by
 show (if (sm i || sm j) = true then _ else _) = _
 rw [if_pos]
 unfold sm
 rw [decide_eq_true h.1,decide_eq_true h.2]; rfl
end
noncomputable abbrev Cell:=Int × Int
noncomputable def cD (c:Cell):D:=.tup [.int c.1,.int c.2]
noncomputable abbrev cs2 (l:List Cell):D:=.lst (l.map cD)
noncomputable def row (c:Cell):List Int:=[c.1,c.2]
theorem qs4 {a b:Cell} (h:row a = row b):a = b:=by
 obtain ⟨a1,a2⟩:=a; obtain ⟨b1,b2⟩:=b
 simp [row] at h; simp [h]
@[simp] theorem noL_cD (c:Cell):noL (cD c) = true:=by unfold cD; simp [noL,noLs]
@[simp] theorem noLs_cs (l:List Cell):noLs (l.map cD) = true:=jf1 fun d hd=>by obtain ⟨c,_,rfl⟩:=List.mem_map.mp hd; exact noL_cD c
@[simp] theorem flat_cD (c:Cell):flat (cD c) = true:=by unfold cD; simp [flat,U5]
@[simp] theorem flats_cs (l:List Cell):U5 (l.map cD) = true:=jk1 fun d hd=>by obtain ⟨c,_,rfl⟩:=List.mem_map.mp hd; exact flat_cD c
@[simp] theorem dep_cD (c:Cell):dep (cD c) = 1:=by unfold cD; simp [dep,deps]
theorem ka8 (l:List Cell):deps (l.map cD) <= 1:=jz7 fun d hd=>by obtain ⟨c,_,rfl⟩:=List.mem_map.mp hd; rw [dep_cD]; exact Nat.le_refl _
@[simp] theorem eqD_cD (a b:Cell):eqD (cD a) (cD b) = decide (a = b):=by
 obtain ⟨a1,a2⟩:=a; obtain ⟨b1,b2⟩:=b
 unfold cD
 simp only [eqD,eqDs,Bool.and_true]
 by_cases h:a1 = b1 <;> by_cases h':a2 = b2 <;> simp [h,h']
@[simp] theorem eqDs_cs:∀ (a b:List Cell),eqDs (a.map cD) (b.map cD) = decide (a = b)
 | [],[]=>by simp [eqDs]
 | [],_ :: _=>by simp [eqDs]
 | _ :: _,[]=>by simp [eqDs]
 | x :: a,y :: b=>by
  rw [List.map_cons,List.map_cons,eqDs,eqD_cD,eqDs_cs a b]
  by_cases h:x = y <;> by_cases h':a = b <;> simp [h,h']
theorem kk5 (neg:Bool) (a b:List Cell):gEq neg (cs2 a) (cs2 b) = .ok (.bl (if neg then !decide (a = b) else decide (a = b))):=by
 unfold gEq
 have h:=ka8 a
 rw [if_pos]
 ·simp [eqD]
 ·simp [flat,dep]; lia
theorem jd1 (neg:Bool) (i j:Int):gEq neg (.int i) (.int j) = .ok (.bl (if neg then !decide (i = j) else decide (i = j))):=by
 unfold gEq
 rw [if_pos (by simp [flat,dep])]
 have e:eqD (.int i) (.int j) = decide (i = j):=by
  rw [eqD]
  by_cases h:i = j
  ·simp [h]
  ·rw [decide_eq_false h]; exact beq_eq_false_iff_ne.mpr h
 rw [e]
theorem Z2 (neg:Bool) (c:Cell) (l:List Cell):gIn neg (cD c) (cs2 l) = .ok (.bl (if neg then !decide (c ∈ l) else decide (c ∈ l))):=by
 unfold gIn
 have h:=ka8 l
 dsimp only
 rw [if_pos (by simp; lia)]
 have e:(l.map cD).any (fun e=>eqD e (cD c)) = decide (c ∈ l):=by
  induction l with
  | nil=>rfl
  | cons x l ih =>
   rw [List.map_cons,List.any_cons,eqD_cD,ih (ka8 l)]
   by_cases hx:x = c
   ·simp [hx]
   ·have:¬ c = x:=fun z=>hx z.symm
    simp [hx,this]
 rw [e]
theorem qs5 (c:Cell):rowI (cD c) = some (row c):=rfl
theorem km9:∀ l:List Cell,kt2 (l.map cD) = some (l.map row)
 | []=>rfl
 | c :: l=>by
  have ih:=km9 l
  unfold kt2 at ih ⊢
  rw [List.map_cons,List.mapM_cons,qs5,ih]
  rfl
theorem qn1:∀ l:List Cell,jn2 (l.map row) = true
 | []=>rfl
 | c :: l=>by
  unfold jn2
  rw [List.map_cons]
  simp [row]
noncomputable def cLt (a b:Cell):Prop:=a.1 < b.1 \/ (a.1 = b.1 /\ a.2 < b.2)
noncomputable instance (a b:Cell):Decidable (cLt a b):=inferInstanceAs (Decidable (_ \/ _))
noncomputable def Rising (l:List Cell):Prop:=l.Pairwise cLt
theorem lex2 (a b:Cell):U7 (row a) (row b) = decide (cLt a b):=by
 obtain ⟨a1,a2⟩:=a; obtain ⟨b1,b2⟩:=b
 unfold row cLt
 rw [U6]
 by_cases h2:a1 = b1
 ·subst h2
  rw [if_pos rfl,U6]
  by_cases h3:a2 = b2
  ·subst h3; rw [if_pos rfl]; simp [ka3]
  ·rw [if_neg h3]; simp
 ·rw [if_neg h2]; simp [h2]
theorem qp6 (c:Cell):fl (cD c) = row c:=by unfold cD row; simp [fl,fls]
theorem qs8 (a b:Cell):leL (fl (cD a)) (fl (cD b)) = !decide (cLt b a):=by rw [qp6,qp6]; unfold leL; rw [lex2]
theorem ky7 (a b:Cell):cLt a b \/ a = b \/ cLt b a:=by
 obtain ⟨a1,a2⟩:=a; obtain ⟨b1,b2⟩:=b
 unfold cLt
 by_cases h1:a1 < b1
 ·exact .inl (.inl h1)
 ·by_cases h2:b1 < a1
  ·exact .inr (.inr (.inl h2))
  ·have:a1 = b1:=by lia
   subst this
   by_cases h3:a2 < b2
   ·exact .inl (.inr ⟨rfl,h3⟩)
   ·by_cases h4:b2 < a2
    ·exact .inr (.inr (.inr ⟨rfl,h4⟩))
    ·have:a2 = b2:=by lia
     subst this; exact .inr (.inl rfl)
theorem jr1 (a:Cell):¬ cLt a a:=by unfold cLt; lia
theorem ks6 {a b c:Cell} (h:cLt a b) (h':cLt b c):cLt a c:=by unfold cLt at *; lia
theorem jp8 {a b:Cell} (h:cLt a b):¬ cLt b a:=fun h'=>jr1 a (ks6 h h')
theorem Rising.nodup {l:List Cell} (h:Rising l):l.Nodup:=h.imp fun {a b} hab e=>by subst e; exact jr1 _ hab
noncomputable def toC:D -> Cell
 | .tup [.int a,.int b]=>(a,b)
 | _=>(0,0)
theorem ql0 (c:Cell):toC (cD c) = c:=rfl
theorem vd3 {α:Type} [DecidableEq α]:∀ {l:List α},l.Nodup -> dd l = l
 | [],_=>rfl
 | x :: l,h=>by
  rw [List.nodup_cons] at h
  rw [dd,if_neg h.1,vd3 h.2]
theorem ku0 {l:List Cell} (h:l.Nodup):(l.map row).Nodup:=by
 rw [List.nodup_iff_pairwise_ne] at h ⊢
 exact List.Pairwise.map row (fun a b hab e=>hab (qs4 e)) h
theorem qu8 {l:List Cell} (h:Rising l):je2 (l.map cD) = l.map cD:=by
 symm
 refine ja0 (fun a ha b hb=>?_) (.refl _) ?_
 ·refine x1_2 (List.mem_map.mp ha) fun x _ zo2=>?_
  obtain rfl:=zo2
  refine x1_2 (List.mem_map.mp hb) fun y _ zo2=>?_
  obtain rfl:=zo2
  unfold cD; simp [shp,shps]
 ·refine List.Pairwise.map cD (fun a b hab=>?_) h
  rw [qs8,decide_eq_false (jp8 hab)]; rfl
theorem qt4 (l:List Cell):(l.map row).map dRow = l.map cD:=by rw [List.map_map]; rfl
theorem ko6 (l:List Cell) (hl:l.length <= 50):∃ m:List Cell,jg9 (cs2 l) = .ok (cs2 m) /\ (l = m ↔ Rising l):=by
 let ys:=je2 ((dd (l.map row)).map dRow)
 have hp:ys.Perm ((dd (l.map row)).map dRow):=W5 _
 have hy:∀ y ∈ ys,∃ c ∈ l,y = cD c:=fun y h=>by
  refine x1_2 (List.mem_map.mp (hp.mem_iff.mp h)) fun r hr zo2=>?_
  obtain rfl:=zo2
  refine x1_2 (List.mem_map.mp (jv8.mp hr)) fun c hc zo2=>?_
  obtain rfl:=zo2
  exact ⟨c,hc,rfl⟩
 have hm:ys = (ys.map toC).map cD:=by
  rw [List.map_map]
  conv=>lhs; rw [<- List.map_id ys]
  refine List.map_congr_left fun y h=>?_
  refine x1_2 (hy y h) fun c _ zo2=>?_
  obtain rfl:=zo2
  rfl
 refine ⟨ys.map toC,?_,?_⟩
 ·unfold jg9
  dsimp only
  rw [km9]
  dsimp only
  rw [if_pos (by rw [qn1,Bool.true_and,List.length_map]; exact decide_eq_true hl)]
  show R.ok (D.lst ys) = _
  exact congrArg (fun z=>R.ok (D.lst z)) hm
 ·constructor
  ·intro e
   have hys:ys = l.map cD:=by rw [hm,<- e]
   have hnd:ys.Nodup:=by
    refine hp.nodup_iff.mpr ?_
    have:=jp6 (l.map row)
    rw [List.nodup_iff_pairwise_ne] at this ⊢
    refine List.Pairwise.map dRow (fun a b hab e=>hab ?_) this
    unfold dRow at e
    have e':a.map D.int = b.map D.int:=by injection e
    exact List.map_inj_right (fun x y h=>by injection h) |>.mp e'
   have hpw:=jq1 ((dd (l.map row)).map dRow)
   change List.Pairwise _ ys at hpw
   rw [hys] at hnd hpw
   rw [List.nodup_iff_pairwise_ne] at hnd
   rw [List.pairwise_map] at hnd hpw
   refine (hnd.and hpw).imp fun {a b} zz1=>?_
   obtain ⟨h1,h2⟩:=zz1
   rw [qs8] at h2
   rcases ky7 a b with h | h | h
   ·exact h
   ·subst h; exact absurd rfl h1
   ·rw [decide_eq_true h] at h2; cases h2
  ·intro h
   have e1:dd (l.map row) = l.map row:=vd3 (ku0 h.nodup)
   have e2:ys = l.map cD:=by
    show je2 _ = _
    rw [e1,qt4,qu8 h]
   rw [e2,List.map_map]
   conv=>lhs; rw [<- List.map_id l]
   exact List.map_congr_left fun c _=>(ql0 c).symm
end Dm
end T_Sim
section T_Sim2
namespace Dm
open L2 HT
theorem q9 {F G:DS} {st st':DSt} (h:F st = .nx st'):dSeq F G st = G st':=by simp [h]
theorem ke9 {F G:DS} {st:DSt} {d:D} (h:F st = .rt d):dSeq F G st = .rt d:=by simp [h]
theorem ks1 {F G:DS} {st s:DSt} {c:PySem.Addr} {p:Option Int} (h:F st = .ex c p s):dSeq F G st = .ex c p s:=by simp [h]
theorem jc8 {f:DF} {st:DSt} {i:Nat} {d:D} (h:f st = .ok d):dAsg i f st = .nx (st.set i (some d)):=by simp [h]
theorem ji8 {f:DF} {st:DSt} {d:D} (h:f st = .ok d):dRet f st = .rt d:=by simp [h]
theorem if_t {fc:DF} {F G:DS} {st:DSt} (h:fc st = .ok (.bl true)):Dm.dIfS fc F G st = F st:=by simp [h]
theorem if_f {fc:DF} {F G:DS} {st:DSt} (h:fc st = .ok (.bl false)):Dm.dIfS fc F G st = G st:=by simp [h]
theorem Y5 {n:Nat} {F:DS} {ds:List D} {d:D} (st:DSt) (h:F st = .rt d) (e:ds.map some ++ List.replicate (n - ds.length) none = st:=by rfl):J9 n F ds = .ok d:=by
 subst e; unfold J9; rw [h]
theorem qp7 {n:Nat} {F:DS} {ds:List D} {c:PySem.Addr} {p:Option Int} {s:DSt} (st:DSt) (h:F st = .ex c p s) (e:ds.map some ++ List.replicate (n - ds.length) none = st:=by rfl):J9 n F ds = .ex c p:=by
 subst e; unfold J9; rw [h]
theorem fn1 {g:List D -> R D} {f1:DF} {st:DSt} {a:D} {r:R D} (h1:f1 st = .ok a) (h:g [a] = r):dFn g (j0 f1 aNil) st = r:=by simp [h1,h]
theorem fn2 {g:List D -> R D} {f1 f2:DF} {st:DSt} {a b:D} {r:R D} (h1:f1 st = .ok a) (h2:f2 st = .ok b) (h:g [a,b] = r):dFn g (j0 f1 (j0 f2 aNil)) st = r:=by simp [h1,h2,h]
theorem fn3 {g:List D -> R D} {f1 f2 f3:DF} {st:DSt} {a b c:D} {r:R D} (h1:f1 st = .ok a) (h2:f2 st = .ok b) (h3:f3 st = .ok c) (h:g [a,b,c] = r):dFn g (j0 f1 (j0 f2 (j0 f3 aNil))) st = r:=by simp [h1,h2,h3,h]
theorem op2 {g:D -> D -> R D} {f1 f2:DF} {st:DSt} {a b:D} {r:R D} (h1:f1 st = .ok a) (h2:f2 st = .ok b) (h:g a b = r):dOp g f1 f2 st = r:=by simp [h1,h2,h]
theorem un1 {g:D -> R D} {f1:DF} {st:DSt} {a:D} {r:R D} (h1:f1 st = .ok a) (h:g a = r):dUn g f1 st = r:=by simp [h1,h]
theorem kz9 {f:DF} {st:DSt} {d:D} (h:f st = .ok d) (n:noL d = true):v9 f st = .ok d:=by simp [h,n]
theorem jc0 {f g:DF} {st:DSt} {r:R D} (h:f st = .ok (.bl true)) (h2:g st = r):dAnd f g st = r:=by simp [h,h2]
theorem jp0 {f g:DF} {st:DSt} (h:f st = .ok (.bl false)):dAnd f g st = .ok (.bl false):=by simp [h]
theorem ve2 {f g:DF} {st:DSt} (h:f st = .ok (.bl true)):dOr f g st = .ok (.bl true):=by simp [h]
theorem qd8 {f g:DF} {st:DSt} {r:R D} (h:f st = .ok (.bl false)) (h2:g st = r):dOr f g st = r:=by simp [h,h2]
theorem kg0 {f:DF} {st:DSt} {b:Bool} (h:f st = .ok (.bl b)):dNot f st = .ok (.bl (!b)):=by simp [h]
theorem jm3 {α:Type} {bind:DB} {ft fe:DF} {f:α -> D} {p:α -> Bool} {g:α -> D} {S:α -> DSt} {P:DSt -> Prop}:∀ (xs:List α) (hS:∀ x ∈ xs,P (S x)) (hb:∀ x ∈ xs,∀ st,P st -> bind (f x) st = some (S x)) (ht:∀ x ∈ xs,ft (S x) = .ok (.bl (p x))) (he:∀ x ∈ xs,p x = true -> fe (S x) = .ok (g x)) (st:DSt),P st -> jd7 bind ft fe (xs.map f) st = .ok ((xs.filter p).map g)
 | [],_,_,_,_,_,_=>rfl
 | x :: xs,hS,hb,ht,he,st,h=>by
  have ih:=jm3 xs (fun y hy=>hS y (.tail _ hy)) (fun y hy=>hb y (.tail _ hy)) (fun y hy=>ht y (.tail _ hy)) (fun y hy=>he y (.tail _ hy)) (S x) (hS x (.head _))
  rw [List.map_cons,jd7,hb x (.head _) st h]
  dsimp only
  rw [ht x (.head _)]
  cases hp:p x with
  | true =>
   dsimp only
   rw [he x (.head _) hp,List.filter_cons_of_pos hp,List.map_cons,ih]
  | false =>
   dsimp only
   rw [List.filter_cons_of_neg (by rw [hp]; exact Bool.false_ne_true),ih]
theorem ka0 {gi:DI} {k:Nat} {fr:List Nat} {bind:DB} {ft fe:DF} {st:DSt} {ds es:List D} (h1:gi st = .ok ds) (hl:ds.length <= 1000) (h2:jd7 bind ft fe ds (inσ k fr st) = .ok es):jm7 gi k fr bind ft fe st = .ok (.lst es):=by
 unfold jm7
 rw [h1]
 dsimp only
 rw [if_pos hl,h2]
theorem jo8 {α:Type} {bind:DB} {F:DS} {f:α -> D} {Q:List α -> DSt -> Prop}:∀ (xs pre:List α) (st:DSt),(∀ p x r,pre ++ xs = p ++ x :: r -> ∀ st,Q p st -> ∃ st1 st2,bind (f x) st = some st1 /\ F st1 = .nx st2 /\ Q (p ++ [x]) st2) -> Q pre st -> ∃ st',Y2 bind F (xs.map f) st = .nx st' /\ Q (pre ++ xs) st'
 | [],pre,st,_,q=>⟨st,rfl,by simpa using q⟩
 | x :: xs,pre,st,h,q=>by
  refine x2_3 (h pre x xs rfl st q) fun st1 st2 h1 h2 q2=>?_
  refine x1_2 (jo8 xs (pre ++ [x]) st2 (fun p y r e=>h p y r (by simpa using e)) q2) fun st' h3 q3=>?_
  refine ⟨st',?_,by simpa using q3⟩
  rw [List.map_cons,Y2,h1]
  dsimp only
  rw [h2]
  exact h3
noncomputable def Stop (o:Out):Prop:=match o with | .rt _=>True | .ex _ _ _=>True | _=>False
theorem kr0 {α:Type} {bind:DB} {F:DS} {f:α -> D} {Q:DSt -> Prop} {p:α -> Prop} {S:Out -> Prop} (hS:∀ o,S o -> Stop o):∀ (xs:List α) (st:DSt),(∀ x ∈ xs,∀ st,Q st -> ∃ st1,bind (f x) st = some st1 /\ (p x -> ∃ st2,F st1 = .nx st2 /\ Q st2) /\ (¬ p x -> S (F st1))) -> Q st ->
  ((∀ x ∈ xs,p x) -> ∃ st',Y2 bind F (xs.map f) st = .nx st' /\ Q st') /\ (¬ (∀ x ∈ xs,p x) -> S (Y2 bind F (xs.map f) st))
 | [],st,_,q=>⟨fun _=>⟨st,rfl,q⟩,fun h=>absurd (fun x hx=>by cases hx) h⟩
 | x :: xs,st,h,q=>by
  refine x1_3 (h x (.head _) st q) fun st1 h1 h2 h3=>?_
  rw [List.map_cons,Y2,h1]
  dsimp only
  by_cases hp:p x
  ·refine x1_2 (h2 hp) fun st2 e2 q2=>?_
   obtain ⟨i1,i2⟩:=kr0 hS xs st2 (fun y hy=>h y (.tail _ hy)) q2
   rw [e2]
   dsimp only
   refine ⟨fun z=>i1 fun y hy=>z y (.tail _ hy),fun z=>i2 fun z'=>z fun y hy=>?_⟩
   rcases List.mem_cons.mp hy with rfl | hy
   ·exact hp
   ·exact z' y hy
  ·have s:=h3 hp
   refine ⟨fun z=>absurd (z x (.head _)) hp,fun _=>?_⟩
   cases hf:F st1 with
   | rt d=>rw [hf] at s; exact s
   | ex c p st=>rw [hf] at s; exact s
   | _=>rw [hf] at s; exact absurd (hS _ s) (by simp [Stop])
theorem kw4 {α:Type} (f:α -> D) (l:List α):enD (l.map f) = l.zipIdx.map fun p=>.tup [.int (p.2:Nat),f p.1]:=by
 unfold enD
 refine List.ext_getElem? fun i=>?_
 rw [List.getElem?_mapIdx,List.getElem?_map,List.getElem?_map,List.getElem?_zipIdx]
 cases l[i]? <;> simp
theorem jo4 {ds:List D} {n:Nat} {d:D} (h:ds[n]? = some d):gIx (.lst ds) (.int n) = .ok d:=by
 have hl:=(List.getElem?_eq_some_iff.mp h).1
 have e:atI ds (n:Int) = some d:=by
  unfold atI ixN
  rw [if_pos (Int.natCast_nonneg n),if_pos (by lia)]
  simpa using h
 unfold gIx
 dsimp only
 rw [e]
theorem qj8 {l:List Cell} {a:Nat} (h:a < l.length):gIx (cs2 l) (.int (a:Int)) = .ok (cD l[a]):=jo4 (by rw [List.getElem?_map,List.getElem?_eq_getElem h]; rfl)
theorem jq0 (ds:List D) (m:Nat):cutD ds none (some (m:Int)) = ds.take m:=by
 unfold cutD HT.sIx
 simp only [List.drop_zero,Nat.sub_zero]
 rw [if_neg (by lia)]
 simp only [Int.toNat_natCast]
 by_cases h:m <= ds.length
 ·rw [Nat.min_eq_left h]
 ·rw [Nat.min_eq_right (by lia),List.take_length,List.take_of_length_le (by lia)]
theorem kk6 (ds:List D) (m:Nat):cutD ds (some (m:Int)) none = ds.drop m:=by
 unfold cutD HT.sIx
 dsimp only
 rw [if_neg (by lia)]
 simp only [Int.toNat_natCast]
 by_cases h:m <= ds.length
 ·rw [Nat.min_eq_left h,List.take_of_length_le (by simp)]
 ·rw [Nat.min_eq_right (by lia),List.drop_length,List.drop_of_length_le (by lia)]; simp
theorem vf9 {f g:DF} {st:DSt} {l:List Cell} {a:Nat} (h1:f st = .ok (cs2 l)) (h2:g st = .ok (.int (a:Int))):dSl f none (some g) st = .ok (cs2 (l.take a)):=by
 simp [dSl,jp3,h1,h2,jq0]
theorem qr1 {f g:DF} {st:DSt} {l:List Cell} {a:Nat} (h1:f st = .ok (cs2 l)) (h2:g st = .ok (.int (a:Int))):dSl f (some g) none st = .ok (cs2 (l.drop a)):=by
 simp [dSl,jp3,h1,h2,kk6]
theorem kz2 {l m:List Cell} (h:l.length + m.length <= 1000):gCat (cs2 l) (cs2 m) = .ok (cs2 (l ++ m)):=by
 unfold gCat
 dsimp only
 rw [if_pos (by simp; lia)]
 simp
theorem ql6 (a b:Cell):shp (cD a) (cD b) = true:=by unfold cD; simp [shp,shps]
theorem qz9 (a:Cell):nl (cD a) = true:=by unfold cD; simp [nl,nls]
theorem qi5 {l:List Cell} (h:l.length < 64):ju4 (l.map cD) = true:=by
 unfold ju4
 simp only [Bool.and_eq_true,Bool.or_eq_true,decide_eq_true_eq,List.all_eq_true,List.length_map]
 refine ⟨⟨⟨⟨h,noLs_cs l⟩,fun d hd=>?_⟩,fun a ha b hb=>?_⟩,.inl (.inr fun d hd=>?_)⟩
 ·refine x1_2 (List.mem_map.mp hd) fun c _ zo2=>?_
  obtain rfl:=zo2
  exact ⟨qz9 c,by rw [dep_cD]; decide⟩
 ·refine x1_2 (List.mem_map.mp ha) fun c _ zo2=>?_
  obtain rfl:=zo2
  refine x1_2 (List.mem_map.mp hb) fun c' _ zo2=>?_
  obtain rfl:=zo2
  exact ql6 c c'
 ·refine x1_2 (List.mem_map.mp hd) fun c _ zo2=>?_
  obtain rfl:=zo2
  rfl
theorem jp4 {l m:List Cell} (hp:m.Perm l) (hs:m.Pairwise (fun a b=>¬ cLt b a)) (hn:l.Nodup):Rising m:=by
 have hn':m.Nodup:=hp.nodup_iff.mpr hn
 rw [List.nodup_iff_pairwise_ne] at hn'
 refine (hn'.and hs).imp fun {a b} zz1=>?_
 obtain ⟨h1,h2⟩:=zz1
 rcases ky7 a b with h | h | h
 ·exact h
 ·exact absurd h h1
 ·exact absurd h h2
theorem kq3 {l m:List Cell} (hl:Rising l) (hm:Rising m) (h:∀ c,c ∈ l ↔ c ∈ m):l = m:=by
 have hp:l.Perm m:=(List.perm_ext_iff_of_nodup hl.nodup hm.nodup).mpr h
 exact hp.eq_of_pairwise (fun a b _ _ h1 h2=>absurd h2 (jp8 h1)) hl hm
@[simp] theorem gCells_ (l:List Cell):Y1 (.brd 0 (l.map cD)) = .ok (cs2 l):=by simp [Y1]
@[simp] theorem gList_cs (l:List Cell):je5 [cs2 l] = .ok (cs2 l):=by simp [je5]
end Dm
end T_Sim2
section T_Sim3
namespace Dm
open L2 HT
noncomputable abbrev Leap:=Cell × Cell
noncomputable def lD (p:Leap):D:=.tup [cD p.1,cD p.2]
noncomputable abbrev ls2 (l:List Leap):D:=.lst (l.map lD)
noncomputable def mid (a b:Cell):Cell:=((a.1 + b.1) / 2,(a.2 + b.2) / 2)
noncomputable def four (c:Cell):List Cell:=[(c.1 - 2,c.2),(c.1,c.2 - 2),(c.1,c.2 + 2),(c.1 + 2,c.2)]
noncomputable def lp1 (cells:List Cell) (a:Cell):List Cell:=(four a).filter fun b=>decide (b ∈ cells) && decide (mid a b ∈ cells)
noncomputable def k9 (cells:List Cell):List Leap:=cells.flatMap fun a=>(lp1 cells a).map fun b=>(a,b)
theorem jo3 {cells:List Cell} {p:Leap}:p ∈ k9 cells ↔ p.1 ∈ cells /\ p.2 ∈ four p.1 /\ p.2 ∈ cells /\ mid p.1 p.2 ∈ cells:=by
 unfold k9 lp1
 simp only [List.mem_flatMap,List.mem_map,List.mem_filter,Bool.and_eq_true,decide_eq_true_eq]
 constructor
 ·rintro ⟨a,h1,b,⟨h2,h3,h4⟩,rfl⟩; exact ⟨h1,h2,h3,h4⟩
 ·rintro ⟨h1,h2,h3,h4⟩; exact ⟨p.1,h1,p.2,⟨h2,h3,h4⟩,rfl⟩
@[simp] theorem noL_lD (p:Leap):noL (lD p) = true:=by unfold lD; simp [noL,noLs]
@[simp] theorem noLs_ls (l:List Leap):noLs (l.map lD) = true:=jf1 fun d hd=>by obtain ⟨c,_,rfl⟩:=List.mem_map.mp hd; exact noL_lD c
@[simp] theorem flat_lD (p:Leap):flat (lD p) = true:=by unfold lD; simp [flat,U5]
@[simp] theorem flats_ls (l:List Leap):U5 (l.map lD) = true:=jk1 fun d hd=>by obtain ⟨c,_,rfl⟩:=List.mem_map.mp hd; exact flat_lD c
@[simp] theorem dep_lD (p:Leap):dep (lD p) = 2:=by unfold lD; simp [dep,deps]
theorem kg5 (l:List Leap):deps (l.map lD) <= 2:=jz7 fun d hd=>by obtain ⟨c,_,rfl⟩:=List.mem_map.mp hd; rw [dep_lD]; exact Nat.le_refl _
@[simp] theorem eqD_lD (a b:Leap):eqD (lD a) (lD b) = decide (a = b):=by
 obtain ⟨a1,a2⟩:=a; obtain ⟨b1,b2⟩:=b
 unfold lD
 simp only [eqD,eqDs,Bool.and_true,eqD_cD]
 by_cases h:a1 = b1 <;> by_cases h':a2 = b2 <;> simp [h,h']
@[simp] theorem eqDs_ls:∀ (a b:List Leap),eqDs (a.map lD) (b.map lD) = decide (a = b)
 | [],[]=>by simp [eqDs]
 | [],_ :: _=>by simp [eqDs]
 | _ :: _,[]=>by simp [eqDs]
 | x :: a,y :: b=>by
  rw [List.map_cons,List.map_cons,eqDs,eqD_lD,eqDs_ls a b]
  by_cases h:x = y <;> by_cases h':a = b <;> simp [h,h']
theorem ql1 (neg:Bool) (c:Leap) (l:List Leap):gIn neg (lD c) (ls2 l) = .ok (.bl (if neg then !decide (c ∈ l) else decide (c ∈ l))):=by
 unfold gIn
 have h:=kg5 l
 dsimp only
 rw [if_pos (by simp; lia)]
 have e:(l.map lD).any (fun e=>eqD e (lD c)) = decide (c ∈ l):=by
  induction l with
  | nil=>rfl
  | cons x l ih =>
   rw [List.map_cons,List.any_cons,eqD_lD,ih (kg5 l)]
   by_cases hx:x = c
   ·simp [hx]
   ·have:¬ c = x:=fun z=>hx z.symm
    simp [hx,this]
 rw [e]
@[simp] theorem lx0 (p:Leap):gIx (lD p) (.int 0) = .ok (cD p.1):=rfl
@[simp] theorem lx1 (p:Leap):gIx (lD p) (.int 1) = .ok (cD p.2):=rfl
noncomputable def lLt (p q:Leap):Prop:=cLt p.1 q.1 \/ (p.1 = q.1 /\ cLt p.2 q.2)
theorem vd2 (p:Leap):fl (lD p) = row p.1 ++ row p.2:=by unfold lD; simp [fl,fls,qp6]
theorem qf5 (a b:Cell) (u v:List Int):U7 (row a ++ u) (row b ++ v) = if a = b then U7 u v else decide (cLt a b):=by
 obtain ⟨a1,a2⟩:=a; obtain ⟨b1,b2⟩:=b
 unfold row cLt
 simp only [List.cons_append,List.nil_append]
 rw [U6]
 by_cases h2:a1 = b1
 ·subst h2
  rw [if_pos rfl,U6]
  by_cases h3:a2 = b2
  ·subst h3; rw [if_pos rfl,if_pos rfl]
  ·rw [if_neg h3,if_neg (by simpa using h3)]; simp
 ·rw [if_neg h2,if_neg (by simp [h2])]; simp [h2]
theorem vg6 (p q:Leap):leL (fl (lD p)) (fl (lD q)) = true ↔ ¬ lLt q p:=by
 rw [vd2,vd2]
 unfold leL lLt
 rw [qf5]
 by_cases h:q.1 = p.1
 ·rw [if_pos h,lex2]
  have:=jr1 p.1
  rw [h]
  simp [this]
 ·rw [if_neg h]; simp [h]
theorem km6 {p q:Leap} (h:lLt p q):¬ lLt q p:=by
 unfold lLt at *
 rintro (h' | ⟨e,h'⟩)
 ·rcases h with h | ⟨e,h⟩
  ·exact jp8 h h'
  ·rw [e] at h'; exact jr1 _ h'
 ·rcases h with h | ⟨e',h⟩
  ·rw [e] at h; exact jr1 _ h
  ·exact jp8 h h'
theorem qj9 (a b:Leap):shp (lD a) (lD b) = true:=by unfold lD; simp [shp,shps,ql6]
theorem vg8 (a:Leap):nl (lD a) = true:=by unfold lD; simp [nl,nls,qz9]
theorem qq1 {l:List Leap} (h:l.Pairwise lLt):je2 (l.map lD) = l.map lD:=by
 symm
 refine ja0 (fun a ha b hb=>?_) (.refl _) ?_
 ·refine x1_2 (List.mem_map.mp ha) fun x _ zo2=>?_
  obtain rfl:=zo2
  refine x1_2 (List.mem_map.mp hb) fun y _ zo2=>?_
  obtain rfl:=zo2
  exact qj9 x y
 ·refine List.Pairwise.map lD (fun a b hab=>?_) h
  rw [vg6]; exact km6 hab
theorem qd1 {l:List Leap} (h:l.length < 64):ju4 (l.map lD) = true:=by
 unfold ju4
 simp only [Bool.and_eq_true,Bool.or_eq_true,decide_eq_true_eq,List.all_eq_true,List.length_map]
 refine ⟨⟨⟨⟨h,noLs_ls l⟩,fun d hd=>?_⟩,fun a ha b hb=>?_⟩,.inr fun d hd=>?_⟩
 ·refine x1_2 (List.mem_map.mp hd) fun c _ zo2=>?_
  obtain rfl:=zo2
  exact ⟨vg8 c,by rw [dep_lD]; decide⟩
 ·refine x1_2 (List.mem_map.mp ha) fun c _ zo2=>?_
  obtain rfl:=zo2
  refine x1_2 (List.mem_map.mp hb) fun c' _ zo2=>?_
  obtain rfl:=zo2
  exact qj9 c c'
 ·refine x1_2 (List.mem_map.mp hd) fun c _ zo2=>?_
  obtain rfl:=zo2
  rfl
theorem qf7 {l:List Leap} (h:l.Pairwise lLt) (hl:l.length < 64):ja7 [ls2 l] = .ok (ls2 l):=by
 unfold ja7
 dsimp only
 rw [if_pos (qd1 hl),qq1 h]
theorem ju0 (a:Cell):Rising (four a):=by
 unfold four Rising cLt
 simp only [List.pairwise_cons,List.mem_cons,List.not_mem_nil,or_false,List.Pairwise.nil,and_true]
 refine ⟨?_,?_,?_,?_⟩ <;> intro b hb
 ·rcases hb with rfl | rfl | rfl <;> first | (simp; done) | (simp; lia)
 ·rcases hb with rfl | rfl <;> first | (simp; done) | (simp; lia)
 ·obtain rfl:=hb; first | (simp; done) | (simp; lia)
 ·exact hb.elim
theorem kk2 {cells:List Cell} (up:Rising cells):(k9 cells).Pairwise lLt:=by
 unfold k9
 rw [List.pairwise_flatMap]
 refine ⟨fun a _=>?_,up.imp fun {a b} hab x hx y hy=>?_⟩
 ·refine List.Pairwise.map (R:=cLt) _ (fun x y h=>.inr ⟨rfl,h⟩) ?_
  exact (ju0 a).sublist List.filter_sublist
 ·refine x1_2 (List.mem_map.mp hx) fun _ _ zo2=>?_
  obtain rfl:=zo2
  refine x1_2 (List.mem_map.mp hy) fun _ _ zo2=>?_
  obtain rfl:=zo2
  exact .inl hab
theorem kh4 {cells:List Cell} (up:Rising cells):(k9 cells).Nodup:=(kk2 up).imp fun {a b} h e=>by subst e; exact km6 h h
theorem kc6 {α:Type} [DecidableEq α]:∀ {l m:List α},l.Nodup -> (∀ x ∈ l,x ∈ m) -> l.length <= m.length
 | [],_,_,_=>Nat.zero_le _
 | x :: l,m,hn,h=>by
  rw [List.nodup_cons] at hn
  have hx:=h x (.head _)
  have ih:=kc6 (m:=m.erase x) hn.2 fun y hy=>(List.mem_erase_of_ne (fun e=>hn.1 (by rw [<- e]; exact hy))).mpr (h y (.tail _ hy))
  have:=List.length_erase_of_mem hx
  have:=List.length_pos_of_mem hx
  rw [List.length_cons]; lia
noncomputable def rect (h w:Nat):List Cell:=(List.range (h * w)).map fun k=>(((k / w:Nat):Int),((k % w:Nat):Int))
theorem qh9 {h w:Nat} {c:Cell} (h1:0 <= c.1) (h2:c.1 < h) (h3:0 <= c.2) (h4:c.2 < w):c ∈ rect h w:=by
 obtain ⟨a,ha⟩:=Int.eq_ofNat_of_zero_le h1
 obtain ⟨b,hb⟩:=Int.eq_ofNat_of_zero_le h3
 have hb':b < w:=by lia
 have ha':a < h:=by lia
 have hw:0 < w:=by lia
 have e1:(a * w + b) / w = a:=by rw [Nat.add_comm,Nat.add_mul_div_right _ _ hw,Nat.div_eq_of_lt hb']; lia
 have e2:(a * w + b) % w = b:=by rw [Nat.add_comm,Nat.add_mul_mod_self_right,Nat.mod_eq_of_lt hb']
 refine List.mem_map.mpr ⟨a * w + b,List.mem_range.mpr ?_,?_⟩
 ·calc a * w + b < a * w + w:=by lia
   _ = (a + 1) * w:=by rw [Nat.succ_mul]
   _ <= h * w:=Nat.mul_le_mul_right w ha'
 ·show ((((a * w + b) / w:Nat):Int),(((a * w + b) % w:Nat):Int)) = c
  rw [e1,e2]
  exact Prod.ext ha.symm hb.symm
noncomputable def Box (l:List Cell) (h w:Nat):Prop:=∃ dn ac:Int,∀ c ∈ l,dn <= c.1 /\ c.1 < dn + h /\ ac <= c.2 /\ c.2 < ac + w
theorem qq9 (a b:Cell) (x y:Int) (h:b ∈ four a):(b.1 - x,b.2 - y) ∈ four (a.1 - x,a.2 - y):=by
 unfold four at *
 simp only [List.mem_cons,List.not_mem_nil,or_false] at *
 rcases h with rfl | rfl | rfl | rfl
 ·exact .inl (Prod.ext (by simp only; lia) rfl)
 ·exact .inr (.inl (Prod.ext rfl (by simp only; lia)))
 ·exact .inr (.inr (.inl (Prod.ext rfl (by simp only; lia))))
 ·exact .inr (.inr (.inr (Prod.ext (by simp only; lia) rfl)))
theorem kz0 {l:List Cell} {h w:Nat} (up:Rising l) (b:Box l h w):(k9 l).length <= (k9 (rect h w)).length:=by
 refine x2_1 b fun dn ac hb=>?_
 clear b
 have key:∀ c ∈ l,(c.1 - dn,c.2 - ac) ∈ rect h w:=fun c hc=>by
  refine x0_4 (hb c hc) fun h1 h2 h3 h4=>?_
  exact qh9 (by simp only; lia) (by simp only; lia) (by simp only; lia) (by simp only; lia)
 have:=kc6 (l:=(k9 l).map fun p=>(((p.1.1 - dn,p.1.2 - ac),(p.2.1 - dn,p.2.2 - ac)):Leap)) (m:=k9 (rect h w)) (by
  have hn:=kh4 up
  rw [List.nodup_iff_pairwise_ne] at hn ⊢
  refine List.Pairwise.map _ (fun p q hpq e=>hpq ?_) hn
  simp only [Prod.mk.injEq] at e
  refine x0_3 e fun zo0 e3 e4=>?_
  clear e
  obtain ⟨e1,e2⟩:=zo0
  exact Prod.ext (Prod.ext (by lia) (by lia)) (Prod.ext (by lia) (by lia))) (fun p hp=>by
  refine x1_2 (List.mem_map.mp hp) fun q hq zo2=>?_
  obtain rfl:=zo2
  refine x0_4 (jo3.mp hq) fun h1 h2 h3 h4=>?_
  refine jo3.mpr ⟨key _ h1,qq9 _ _ _ _ h2,key _ h3,?_⟩
  have e:mid (q.1.1 - dn,q.1.2 - ac) (q.2.1 - dn,q.2.2 - ac) = ((mid q.1 q.2).1 - dn,(mid q.1 q.2).2 - ac):=by
   unfold mid
   exact Prod.ext (by simp only; lia) (by simp only; lia)
  show mid (q.1.1 - dn,q.1.2 - ac) (q.2.1 - dn,q.2.2 - ac) ∈ rect h w
  rw [e]; exact key _ h4)
 rwa [List.length_map] at this
noncomputable def qj4 (h w:Nat):Prop:=(h <= 4 /\ w <= 6) \/ (h <= 3 /\ w = 8) \/ (h = 8 /\ w <= 3)
theorem kb0:(∀ h,h <= 4 -> ∀ w,w <= 6 -> (k9 (rect h w)).length <= 56) /\ (∀ h,h <= 3 -> (k9 (rect h 8)).length <= 56) /\ (∀ w,w <= 3 -> (k9 (rect 8 w)).length <= 56):=by
 refine ⟨fun h hh w hw=>?_,fun h hh=>?_,fun w hw=>?_⟩
 ·have a:∀ h:Fin 5,∀ w:Fin 7,(k9 (rect h.1 w.1)).length <= 56:=by decide +kernel
  exact a ⟨h,by lia⟩ ⟨w,by lia⟩
 ·have a:∀ h:Fin 4,(k9 (rect h.1 8)).length <= 56:=by decide +kernel
  exact a ⟨h,by lia⟩
 ·have a:∀ w:Fin 4,(k9 (rect 8 w.1)).length <= 56:=by decide +kernel
  exact a ⟨w,by lia⟩
theorem kr8 {l:List Cell} {h w:Nat} (up:Rising l) (b:Box l h w) (s:qj4 h w):(k9 l).length <= 56:=by
 refine Nat.le_trans (kz0 up b) ?_
 rcases s with ⟨h1,h2⟩ | ⟨h1,rfl⟩ | ⟨rfl,h2⟩
 ·exact kb0.1 h h1 w h2
 ·exact kb0.2.1 h h1
 ·exact kb0.2.2 w h2
theorem qb9 (x y:Int):∃ u v:Int,ja7 [.lst [.int x,.int y]] = .ok (.lst [.int u,.int v]) /\ ((u = 0 /\ v = 2) ↔ (x = 0 /\ y = 2 \/ x = 2 /\ y = 0)):=by
 have hb:ju4 [.int x,.int y] = true:=by
  unfold ju4; simp [noLs,nl,dep,shp,isI]
 have g:ja7 [.lst [.int x,.int y]] = .ok (.lst (je2 [.int x,.int y])):=by
  unfold ja7; dsimp only; rw [if_pos hb]
 have fi:∀ i:Int,fl (.int i) = [i]:=fun i=>by simp [fl]
 have le:∀ i j:Int,i <= j -> leL (fl (.int i)) (fl (.int j)) = true:=fun i j h=>by
  rw [fi,fi]; unfold leL; rw [ki1]; simp; lia
 by_cases h:x <= y
 ·refine ⟨x,y,?_,by lia⟩
  rw [g]
  congr 2
  symm
  refine ja0 (fun a ha b hb=>?_) (.refl _) ?_
  ·simp only [List.mem_cons,List.not_mem_nil,or_false] at ha hb
   rcases ha with rfl | rfl <;> rcases hb with rfl | rfl <;> simp [shp]
  ·simp only [List.pairwise_cons,List.mem_cons,List.not_mem_nil,or_false,List.Pairwise.nil,and_true]
   exact ⟨fun b hb=>by subst hb; exact le _ _ h,fun b hb=>hb.elim⟩
 ·refine ⟨y,x,?_,by lia⟩
  rw [g]
  congr 2
  symm
  refine ja0 (fun a ha b hb=>?_) (.swap _ _ _) ?_
  ·simp only [List.mem_cons,List.not_mem_nil,or_false] at ha hb
   rcases ha with rfl | rfl <;> rcases hb with rfl | rfl <;> simp [shp]
  ·simp only [List.pairwise_cons,List.mem_cons,List.not_mem_nil,or_false,List.Pairwise.nil,and_true]
   exact ⟨fun b hb=>by subst hb; exact le _ _ (by lia),fun b hb=>hb.elim⟩
noncomputable def abi (i:Int):Int:=if i < 0 then -i else i
noncomputable def ap (a b:Cell):Bool:=(decide (abi (a.1 - b.1) = 0) && decide (abi (a.2 - b.2) = 2)) || (decide (abi (a.1 - b.1) = 2) && decide (abi (a.2 - b.2) = 0))
theorem abi0 {i:Int}:abi i = 0 ↔ i = 0:=by unfold abi; split <;> lia
theorem abi2 {i:Int}:abi i = 2 ↔ i = 2 \/ i = -2:=by unfold abi; split <;> lia
theorem qo8 (a b:Cell):ap a b = true ↔ b ∈ four a:=by
 unfold ap four
 obtain ⟨a1,a2⟩:=a; obtain ⟨b1,b2⟩:=b
 simp only [Bool.or_eq_true,Bool.and_eq_true,decide_eq_true_eq,List.mem_cons,List.not_mem_nil,or_false,Prod.mk.injEq,abi0,abi2]
 constructor
 ·rintro (⟨h1,h2 | h2⟩ | ⟨h1 | h1,h2⟩)
  ·exact .inr (.inl (by lia))
  ·exact .inr (.inr (.inl (by lia)))
  ·exact .inl (by lia)
  ·exact .inr (.inr (.inr (by lia)))
 ·rintro (⟨h1,h2⟩ | ⟨h1,h2⟩ | ⟨h1,h2⟩ | ⟨h1,h2⟩)
  ·exact .inr ⟨.inl (by lia),by lia⟩
  ·exact .inl ⟨by lia,.inl (by lia)⟩
  ·exact .inl ⟨by lia,.inr (by lia)⟩
  ·exact .inr ⟨.inr (by lia),by lia⟩
theorem qm7 {cells:List Cell} (up:Rising cells) (a:Cell):(cells.filter fun b=>ap a b && decide (mid a b ∈ cells)) = lp1 cells a:=by
 unfold lp1
 refine kq3 (up.sublist List.filter_sublist) ((ju0 a).sublist List.filter_sublist) fun b=>?_
 simp only [List.mem_filter,Bool.and_eq_true,decide_eq_true_eq,qo8]
 constructor
 ·rintro ⟨h1,h2,h3⟩; exact ⟨h2,h1,h3⟩
 ·rintro ⟨h1,h2,h3⟩; exact ⟨h2,h1,h3⟩
noncomputable def canB (pegs:List Cell) (p:Leap):Bool:=decide (p.1 ∈ pegs) && (!decide (p.2 ∈ pegs) && decide (mid p.1 p.2 ∈ pegs))
noncomputable def opn (cells pegs:List Cell):List Leap:=(k9 cells).filter (canB pegs)
end Dm
end T_Sim3
section T_Sim4
namespace Dm
open L2 HT
noncomputable def ki0 (l:List Cell):List Cell:=(je2 (l.map cD)).map toC
theorem kl9 (l:List Cell):je2 (l.map cD) = (ki0 l).map cD:=by
 have hp:=W5 (l.map cD)
 unfold ki0
 rw [List.map_map]
 conv=>lhs; rw [<- List.map_id (je2 (l.map cD))]
 refine List.map_congr_left fun y hy=>?_
 refine x1_2 (List.mem_map.mp (hp.mem_iff.mp hy)) fun c _ zo2=>?_
 obtain rfl:=zo2
 rfl
theorem jj8 (l:List Cell):(ki0 l).Perm l:=by
 have:=(W5 (l.map cD)).map toC
 rw [List.map_map] at this
 have e:l.map (toC ∘ cD) = l:=by
  conv=>rhs; rw [<- List.map_id l]
  exact List.map_congr_left fun c _=>ql0 c
 rw [e] at this
 exact this
theorem qc3 (l:List Cell):(ki0 l).Pairwise (fun a b=>¬ cLt b a):=by
 have pw:=jq1 (l.map cD)
 rw [kl9,List.pairwise_map] at pw
 refine pw.imp fun {a b} h=>?_
 rw [qs8] at h
 simpa using h
theorem kr3 {l:List Cell} (h:l.length < 64):ja7 [cs2 l] = .ok (cs2 (ki0 l)):=by
 unfold ja7
 dsimp only
 rw [if_pos (qi5 h),kl9]
theorem qo0 (neg:Bool) (a b:Cell):gEq neg (cD a) (cD b) = .ok (.bl (if neg then !decide (a = b) else decide (a = b))):=by
 unfold gEq; rw [if_pos (by simp)]; simp
theorem qd4 {l:List Cell} (h:l.Nodup):Rising (ki0 l):=jp4 (jj8 l) (qc3 l) h
noncomputable def left (pegs:List Cell) (p:Leap):List Cell:=pegs.filter fun c=>!decide (c = p.1) && !decide (c = mid p.1 p.2)
noncomputable def Q2 (pegs:List Cell) (p:Leap):List Cell:=ki0 (left pegs p ++ [p.2])
theorem jn0 {pegs:List Cell} {p:Leap} {c:Cell}:c ∈ left pegs p ↔ c ∈ pegs /\ c ≠ p.1 /\ c ≠ mid p.1 p.2:=by
 unfold left; simp
theorem ko5 {pegs:List Cell} {p:Leap} {c:Cell}:c ∈ Q2 pegs p ↔ (c ∈ pegs /\ c ≠ p.1 /\ c ≠ mid p.1 p.2) \/ c = p.2:=by
 unfold Q2
 rw [(jj8 _).mem_iff,List.mem_append,jn0]; simp
theorem kl7 {pegs:List Cell} {p:Leap}:canB pegs p = true ↔ p.1 ∈ pegs /\ p.2 ∉ pegs /\ mid p.1 p.2 ∈ pegs:=by
 unfold canB; simp
theorem kz5 {pegs:List Cell} {p:Leap} (up:Rising pegs) (h:p.2 ∉ pegs):Rising (Q2 pegs p):=by
 refine qd4 ?_
 rw [List.nodup_append]
 refine ⟨up.nodup.sublist List.filter_sublist,by simp,fun a ha b hb e=>?_⟩
 rw [List.mem_singleton] at hb
 subst hb; subst e
 exact h (jn0.mp ha).1
theorem qx1 {p:Leap} (h:p.2 ∈ four p.1):mid p.1 p.2 ≠ p.1:=by
 obtain ⟨⟨a1,a2⟩,b1,b2⟩:=p
 unfold four at h; unfold mid
 simp only [List.mem_cons,List.not_mem_nil,or_false,Prod.mk.injEq] at h
 intro e
 simp only [Prod.mk.injEq] at e
 lia
theorem jv7 {pegs:List Cell} {p:Leap} (nd:pegs.Nodup) (h:canB pegs p = true) (hf:p.2 ∈ four p.1):pegs.Perm (p.1 :: mid p.1 p.2 :: left pegs p):=by
 refine x0_3 (kl7.mp h) fun h1 h2 h3=>?_
 have hne:=qx1 hf
 refine (List.perm_ext_iff_of_nodup nd ?_).mpr fun c=>?_
 ·rw [List.nodup_cons,List.nodup_cons]
  refine ⟨?_,?_,nd.sublist List.filter_sublist⟩
  ·rw [List.mem_cons,jn0]
   rintro (e | e)
   ·exact hne e.symm
   ·exact e.2.1 rfl
  ·rw [jn0]; exact fun e=>e.2.2 rfl
 ·rw [List.mem_cons,List.mem_cons,jn0]
  by_cases e1:c = p.1
  ·subst e1; simp [h1]
  ·by_cases e2:c = mid p.1 p.2
   ·subst e2; simp [h3]
   ·simp [e1,e2]
theorem kp5 {pegs:List Cell} {p:Leap} (nd:pegs.Nodup) (h:canB pegs p = true) (hf:p.2 ∈ four p.1):(Q2 pegs p).length + 1 = pegs.length:=by
 have:=(jv7 nd h hf).length_eq
 have:=(jj8 (left pegs p ++ [p.2])).length_eq
 unfold Q2
 simp at *
 lia
theorem qm1 {cells pegs:List Cell} {p:Leap} (h:p ∈ opn cells pegs):p.1 ∈ cells /\ p.2 ∈ four p.1 /\ p.2 ∈ cells /\ mid p.1 p.2 ∈ cells /\ canB pegs p = true:=by
 unfold opn at h
 rw [List.mem_filter,jo3] at h
 exact ⟨h.1.1,h.1.2.1,h.1.2.2.1,h.1.2.2.2,h.2⟩
noncomputable def kb6 (cells:List Cell):List Cell -> List Leap -> Prop
 | _,[]=>True
 | pegs,p :: r=>p ∈ opn cells pegs /\ kb6 cells (Q2 pegs p) r
noncomputable def W2 (pegs:List Cell) (row:List Leap):List Cell:=row.foldl Q2 pegs
theorem kt0 (pegs:List Cell) (row:List Leap) (p:Leap):W2 pegs (row ++ [p]) = Q2 (W2 pegs row) p:=by
 unfold W2; rw [List.foldl_append]; rfl
theorem kv9 {cells:List Cell}:∀ {pegs:List Cell} {row:List Leap} {p:Leap},kb6 cells pegs row -> p ∈ opn cells (W2 pegs row) -> kb6 cells pegs (row ++ [p])
 | pegs,[],p,_,h=>⟨h,trivial⟩
 | pegs,q :: r,p,h,hp=>⟨h.1,kv9 h.2 hp⟩
noncomputable def kS (c:Cell):Int:=(c.1 + c.2) % 3
noncomputable def kD (c:Cell):Int:=(c.1 - c.2) % 3
noncomputable def par (f:Cell -> Bool) (l:List Cell):Int:=((l.filter f).length:Int) % 2
noncomputable def f1 (c:Cell):Bool:=decide (kS c < 2)
noncomputable def f2 (c:Cell):Bool:=decide (0 < kS c)
noncomputable def f3 (c:Cell):Bool:=decide (kD c < 2)
noncomputable def f4 (c:Cell):Bool:=decide (0 < kD c)
noncomputable def clsP (l:List Cell):List Int:=[par f1 l,par f2 l,par f3 l,par f4 l]
noncomputable def bi (b:Bool):Nat:=if b then 1 else 0
theorem ky0 (f:Cell -> Bool) (l:List Cell):par f l = ((l.countP f:Nat):Int) % 2:=by unfold par; rw [List.countP_eq_length_filter]
theorem jj7 {f:Cell -> Bool} {pegs:List Cell} {p:Leap} (nd:pegs.Nodup) (h:canB pegs p = true) (hf:p.2 ∈ four p.1) (he:(bi (f p.1) + bi (f (mid p.1 p.2)) + bi (f p.2)) = 2):par f (Q2 pegs p) = par f pegs:=by
 have e1:=(jv7 nd h hf).countP_eq f
 have e2:=(jj8 (left pegs p ++ [p.2])).countP_eq f
 rw [ky0,ky0]
 unfold Q2
 simp only [e2,e1,List.countP_append,List.countP_cons,List.countP_nil]
 unfold bi at he
 lia
theorem bi_d (P:Prop) [Decidable P]:bi (decide P) = if P then 1 else 0:=by unfold bi; simp
theorem qu2 (c:Cell):bi (f1 c) = if (c.1 + c.2) % 3 < 2 then 1 else 0:=bi_d _
theorem qu6 (c:Cell):bi (f2 c) = if 0 < (c.1 + c.2) % 3 then 1 else 0:=bi_d _
theorem qp9 (c:Cell):bi (f3 c) = if (c.1 - c.2) % 3 < 2 then 1 else 0:=bi_d _
theorem qp0 (c:Cell):bi (f4 c) = if 0 < (c.1 - c.2) % 3 then 1 else 0:=bi_d _
theorem qk0 (s e:Int) (h:e = 1 \/ e = -1):(if s % 3 < 2 then 1 else 0) + (if (s + e) % 3 < 2 then 1 else 0) + (if (s + 2 * e) % 3 < 2 then 1 else 0) = 2:=by
 have h3:s % 3 = 0 \/ s % 3 = 1 \/ s % 3 = 2:=by lia
 rcases h with rfl | rfl <;> rcases h3 with h | h | h
 ·rw [h,if_pos (by decide),if_pos (by lia),if_neg (by lia)]
 ·rw [h,if_pos (by decide),if_neg (by lia),if_pos (by lia)]
 ·rw [h,if_neg (by decide),if_pos (by lia),if_pos (by lia)]
 ·rw [h,if_pos (by decide),if_neg (by lia),if_pos (by lia)]
 ·rw [h,if_pos (by decide),if_pos (by lia),if_neg (by lia)]
 ·rw [h,if_neg (by decide),if_pos (by lia),if_pos (by lia)]
theorem ql3 (s e:Int) (h:e = 1 \/ e = -1):(if 0 < s % 3 then 1 else 0) + (if 0 < (s + e) % 3 then 1 else 0) + (if 0 < (s + 2 * e) % 3 then 1 else 0) = 2:=by
 have h3:s % 3 = 0 \/ s % 3 = 1 \/ s % 3 = 2:=by lia
 rcases h with rfl | rfl <;> rcases h3 with h | h | h
 ·rw [h,if_neg (by decide),if_pos (by lia),if_pos (by lia)]
 ·rw [h,if_pos (by decide),if_pos (by lia),if_neg (by lia)]
 ·rw [h,if_pos (by decide),if_neg (by lia),if_pos (by lia)]
 ·rw [h,if_neg (by decide),if_pos (by lia),if_pos (by lia)]
 ·rw [h,if_pos (by decide),if_neg (by lia),if_pos (by lia)]
 ·rw [h,if_pos (by decide),if_pos (by lia),if_neg (by lia)]
theorem qc7 {p:Leap} (hf:p.2 ∈ four p.1):∃ e f:Int,(e = 1 \/ e = -1) /\ (f = 1 \/ f = -1) /\ (mid p.1 p.2).1 + (mid p.1 p.2).2 = p.1.1 + p.1.2 + e /\ p.2.1 + p.2.2 = p.1.1 + p.1.2 + 2 * e /\ (mid p.1 p.2).1 - (mid p.1 p.2).2 = p.1.1 - p.1.2 + f /\ p.2.1 - p.2.2 = p.1.1 - p.1.2 + 2 * f:=by
 obtain ⟨⟨a1,a2⟩,b1,b2⟩:=p
 unfold four at hf; unfold mid
 simp only [List.mem_cons,List.not_mem_nil,or_false,Prod.mk.injEq] at hf ⊢
 rcases hf with ⟨rfl,rfl⟩ | ⟨rfl,rfl⟩ | ⟨rfl,rfl⟩ | ⟨rfl,rfl⟩
 ·exact ⟨-1,-1,.inr rfl,.inr rfl,by lia,by lia,by lia,by lia⟩
 ·exact ⟨-1,1,.inr rfl,.inl rfl,by lia,by lia,by lia,by lia⟩
 ·exact ⟨1,-1,.inl rfl,.inr rfl,by lia,by lia,by lia,by lia⟩
 ·exact ⟨1,1,.inl rfl,.inl rfl,by lia,by lia,by lia,by lia⟩
theorem ko0 {pegs:List Cell} {p:Leap} (nd:pegs.Nodup) (h:canB pegs p = true) (hf:p.2 ∈ four p.1):clsP (Q2 pegs p) = clsP pegs:=by
 refine x2_6 (qc7 hf) fun e f he hf' s1 s2 d1 d2=>?_
 unfold clsP
 rw [jj7 nd h hf (f:=f1) (by rw [qu2,qu2,qu2,s1,s2]; exact qk0 _ e he),jj7 nd h hf (f:=f2) (by rw [qu6,qu6,qu6,s1,s2]; exact ql3 _ e he),
  jj7 nd h hf (f:=f3) (by rw [qp9,qp9,qp9,d1,d2]; exact qk0 _ f hf'),jj7 nd h hf (f:=f4) (by rw [qp0,qp0,qp0,d1,d2]; exact ql3 _ f hf')]
theorem jm2 {cells:List Cell}:∀ {row:List Leap} {pegs:List Cell},Rising pegs -> (∀ c ∈ pegs,c ∈ cells) -> kb6 cells pegs row -> Rising (W2 pegs row) /\ (∀ c ∈ W2 pegs row,c ∈ cells) /\ clsP (W2 pegs row) = clsP pegs /\ (W2 pegs row).length + row.length = pegs.length
 | [],pegs,u,s,_=>⟨u,s,rfl,rfl⟩
 | p :: r,pegs,u,s,h=>by
  refine x0_5 (qm1 h.1) fun m1 m2 m3 m4 m5=>?_
  have c1:=ko0 u.nodup m5 m2
  have l1:=kp5 u.nodup m5 m2
  obtain ⟨i1,i2,i3,i4⟩:=jm2 (row:=r) (pegs:=Q2 pegs p) (kz5 u (kl7.mp m5).2.1) (fun c hc=>by
   rcases ko5.mp hc with h | h
   ·exact s c h.1
   ·rw [h]; exact m3) h.2
  refine ⟨i1,i2,i3.trans c1,?_⟩
  rw [List.length_cons,<- l1,<- i4]
  show (W2 (Q2 pegs p) r).length + (r.length + 1) = (W2 (Q2 pegs p) r).length + r.length + 1
  lia
theorem qi6 {α:Type} {bind:DB} {ft fe:DF} {f:α -> D} {g:α -> D} {S:α -> DSt} {P:DSt -> Prop} (xs:List α) (hS:∀ x ∈ xs,P (S x)) (hb:∀ x ∈ xs,∀ st,P st -> bind (f x) st = some (S x)) (ht:∀ x ∈ xs,ft (S x) = .ok (.bl true)) (he:∀ x ∈ xs,fe (S x) = .ok (g x)) (st:DSt) (h:P st):jd7 bind ft fe (xs.map f) st = .ok (xs.map g):=by
 have:=jm3 (p:=fun _=>true) xs hS hb ht (fun x hx _=>he x hx) st h
 rw [List.filter_eq_self.mpr fun _ _=>rfl] at this
 exact this
end Dm
end T_Sim4
section T_Sim5
namespace Dm
open L2 HT
theorem jw2 {α:Type}:∀ l:List α,jg8 (l.map fun _=>D.bl true) = some (l.map fun _=>true)
 | []=>rfl
 | x :: l=>by rw [List.map_cons,jg8,jw2 l]; rfl
theorem kn3 {α:Type} (l:List α):gAll [.lst (l.map fun _=>D.bl true)] = .ok (.bl true):=by
 unfold gAll
 dsimp only
 rw [jw2]
 simp
noncomputable def sq (k:Nat):Cell:=(((k / 8:Nat):Int),((k % 8:Nat):Int))
end Dm
end T_Sim5
section T_MA04
namespace Pk
open L2 Dm
variable (t:Adr)
theorem kk4 {l:List Cell} (hl:l.length <= 50):(Rising l -> Q6 t [cs2 l] = .ok (.bl true)) /\ (¬ Rising l -> Q6 t [cs2 l] = .ok (.bl false)):=by
 obtain ⟨m,h1,h2⟩:=ko6 l hl
 constructor
 ·intro h
  have e:=h2.mpr h
  subst e
  simp [Q6,J9,h1,kk5]
 ·intro h
  have:¬ l = m:=fun z=>h (h2.mp z)
  simp [Q6,J9,h1,kk5,this]
noncomputable def inR (c:Cell):Prop:=0 <= c.1 /\ c.1 <= 7 /\ 0 <= c.2 /\ c.2 <= 7
noncomputable instance (c:Cell):Decidable (inR c):=inferInstanceAs (Decidable (_ /\ _))
@[simp] theorem ix0 (c:Cell):gIx (cD c) (.int 0) = .ok (.int c.1):=rfl
@[simp] theorem ix1 (c:Cell):gIx (cD c) (.int 1) = .ok (.int c.2):=rfl
theorem vb3 (c:Cell):jg1 t [cD c] = .ok (.bl (decide (inR c))):=by
 unfold inR
 by_cases h1:0 <= c.1 <;> by_cases h2:c.1 <= 7 <;> by_cases h3:0 <= c.2 <;> by_cases h4:c.2 <= 7 <;> simp [jg1,J9,h1,h2,h3,h4]
noncomputable def vb6 (l:List Cell):Prop:=(1 <= l.length /\ l.length <= 24) /\ Rising l /\ ∀ c ∈ l,inR c
theorem jw1 {F:DS} (hF:∀ (x:D) (c:Cell),F [some x,some (cD c)] = if inR c then .nx [some x,some (cD c)] else .ex t.c_BadBoard none [some x,some (cD c)]) (x:D):∀ (l:List Cell) (y:Option D),((∀ c ∈ l,inR c) -> ∃ y',Y2 (Y9 1) F (l.map cD) [some x,y] = .nx [some x,y']) /\ (¬ (∀ c ∈ l,inR c) -> ∃ s,Y2 (Y9 1) F (l.map cD) [some x,y] = .ex t.c_BadBoard none s)
 | [],y=>⟨fun _=>⟨y,rfl⟩,fun h=>absurd (fun c hc=>by cases hc) h⟩
 | c :: l,y=>by
  obtain ⟨i1,i2⟩:=jw1 hF x l (some (cD c))
  have e:Y9 1 (cD c) [some x,y] = some [some x,some (cD c)]:=rfl
  by_cases hc:inR c
  ·constructor
   ·intro h
    obtain ⟨y',h'⟩:=i1 fun d hd=>h d (.tail _ hd)
    refine ⟨y',?_⟩
    rw [List.map_cons,Y2,e]
    dsimp only
    rw [hF,if_pos hc]
    exact h'
   ·intro h
    obtain ⟨s,h'⟩:=i2 fun z=>h fun d hd=>by
     rcases List.mem_cons.mp hd with rfl | hd
     ·exact hc
     ·exact z d hd
    refine ⟨s,?_⟩
    rw [List.map_cons,Y2,e]
    dsimp only
    rw [hF,if_pos hc]
    exact h'
  ·constructor
   ·intro h; exact absurd (h c (.head _)) hc
   ·intro h
    refine ⟨[some x,some (cD c)],?_⟩
    rw [List.map_cons,Y2,e]
    dsimp only
    rw [hF,if_neg hc]
theorem qo2 {l:List Cell} (hl:l.length <= 50):(vb6 l -> w8 t [cs2 l] = .ok .non) /\ (¬ vb6 l -> w8 t [cs2 l] = .ex t.c_BadBoard none):=by
 have hF:∀ (x:D) (c:Cell),Dm.dIfS (dNot (dFn (jg1 t) (j0 (dVar 1) aNil))) (jc6 t.c_BadBoard) J3 [some x,some (cD c)] = if inR c then .nx [some x,some (cD c)] else .ex t.c_BadBoard none [some x,some (cD c)]:=fun x c=>by
  by_cases h:inR c <;> simp [vb3,h]
 obtain ⟨i1,i2⟩:=jw1 t hF (cs2 l) l none
 obtain ⟨r1,r2⟩:=kk4 t hl
 have c1:((l.map cD).length:Int) = l.length:=by simp
 by_cases h0:1 <= l.length
 ·by_cases h1:l.length <= 24
  ·by_cases h2:Rising l
   ·by_cases h3:∀ c ∈ l,inR c
    ·obtain ⟨y,h4⟩:=i1 h3
     refine ⟨fun _=>?_,fun h=>absurd ⟨⟨h0,h1⟩,h2,h3⟩ h⟩
     have a1:(1:Int) <= l.length:=by lia
     have a2:(l.length:Int) <= 24:=by lia
     simp [w8,J9,a1,a2,r1 h2,h4]
    ·obtain ⟨y,h4⟩:=i2 h3
     refine ⟨fun h=>absurd h.2.2 h3,fun _=>?_⟩
     have a1:(1:Int) <= l.length:=by lia
     have a2:(l.length:Int) <= 24:=by lia
     simp [w8,J9,a1,a2,r1 h2,h4]
   ·refine ⟨fun h=>absurd h.2.1 h2,fun _=>?_⟩
    have a1:(1:Int) <= l.length:=by lia
    have a2:(l.length:Int) <= 24:=by lia
    simp [w8,J9,a1,a2,r2 h2]
  ·refine ⟨fun h=>absurd h.1.2 h1,fun _=>?_⟩
   have a1:(1:Int) <= l.length:=by lia
   have a2:¬ (l.length:Int) <= 24:=by lia
   simp [w8,J9,a1,a2]
 ·refine ⟨fun h=>absurd h.1.1 h0,fun _=>?_⟩
  have a1:¬ (1:Int) <= l.length:=by lia
  simp [w8,J9,a1]
noncomputable def ats (ns:List Int) (n:Nat):Int:=(ns[n]?).getD 0
noncomputable abbrev iL (ns:List Int):D:=.lst (ns.map D.int)
theorem m_at (ns:List Int) (n:Nat):k6 t [iL ns,.int n] = .ok (.int (ats ns n)):=by
 unfold ats
 by_cases h:n < ns.length
 ·have e:gIx (iL ns) (.int n) = .ok (.int ((ns[n]?).getD 0)):=jo4 (by rw [List.getElem?_map,List.getElem?_eq_getElem h]; simp)
  have h':(n:Int) < ns.length:=by lia
  simp [k6,J9,h',e]
 ·have h':¬ (n:Int) < ns.length:=by lia
  rw [List.getElem?_eq_none (Nat.le_of_not_lt h)]
  simp [k6,J9,h']
noncomputable abbrev mixL:List Int:=[48271,69621,16807,39373,30269,40014,40692,50021,61687,71993,83869,95561,30307]
theorem qw5 (k:Int):∃ v:Int,0 <= v /\ v <= 95561 /\ gIx (.lst [.int 48271,.int 69621,.int 16807,.int 39373,.int 30269,.int 40014,.int 40692,.int 50021,.int 61687,.int 71993,.int 83869,.int 95561,.int 30307]) (.int (k % 13)) = .ok (.int v):=by
 obtain ⟨n,hn,e⟩ : ∃ n:Nat,n < mixL.length /\ k % 13 = n:=⟨(k % 13).toNat,by show _ < 13; lia,by lia⟩
 rw [e]
 have hL:∀ x ∈ mixL,0 <= x /\ x <= 95561:=by decide
 exact ⟨mixL[n],(hL _ (List.getElem_mem hn)).1,(hL _ (List.getElem_mem hn)).2,jo4 (ds:=mixL.map D.int) (by rw [List.getElem?_map,List.getElem?_eq_getElem hn]; rfl)⟩
theorem jl1 (c k m:Int) (hm:0 < m):∃ r:Int,0 <= r /\ r < m /\ j7 t [.int c,.int k,.int m] = .ok (.int r):=by
 obtain ⟨v,v0,v1,hv⟩:=qw5 k
 have e1:gMod (.int c) (.int 2147483647) = .ok (.int (c % 2147483647)):=jv3 (by decide)
 have e2:gMod (.int k) (.int 13) = .ok (.int (k % 13)):=jv3 (by decide)
 have e3:gDiv (.int k) (.int 13) = .ok (.int (k / 13)):=kt7 (by decide) (by decide)
 have b0:0 <= c % 2147483647 + 12345:=by lia
 have b1:c % 2147483647 + 12345 <= 2147495991:=by lia
 have b2:0 <= (c % 2147483647 + 12345) * v:=Int.mul_nonneg b0 v0
 have b3:(c % 2147483647 + 12345) * v <= 2147495991 * 95561:=Int.mul_le_mul b1 v1 v0 (by decide)
 have e4:gMul (.int (c % 2147483647 + 12345)) (.int v) = .ok (.int ((c % 2147483647 + 12345) * v)):=kf0 (by constructor <;> lia)
 have e5:gMul (.int 2) (.int (k / 13)) = .ok (.int (2 * (k / 13))):=kf0 (by decide)
 have e6:gMul (.int ((c % 2147483647 + 12345) * v)) (.int (2 * (k / 13) + 1)) = .ok (.int ((c % 2147483647 + 12345) * v * (2 * (k / 13) + 1))):=kf0 (by constructor <;> lia)
 have e7:gMul (.int 977) (.int k) = .ok (.int (977 * k)):=kf0 (by decide)
 have e8:∀ x:Int,gMod (.int x) (.int 1000000007) = .ok (.int (x % 1000000007)):=fun x=>jv3 (by decide)
 have e9:∀ x:Int,gDiv (.int x) (.int 7) = .ok (.int (x / 7)):=fun x=>kt7 (by decide) (by decide)
 have e10:∀ x:Int,gMod (.int x) (.int m) = .ok (.int (x % m)):=fun x=>jv3 hm
 refine ⟨(((c % 2147483647 + 12345) * v * (2 * (k / 13) + 1) + 977 * k) % 1000000007 / 7) % m,Int.emod_nonneg _ (by lia),Int.emod_lt_of_pos _ hm,?_⟩
 simp [j7,J9,e1,e2,e3,hv,e4,e5,e6,e7,e8,e9,e10]
noncomputable def pk (c:Int) (k:Nat):Bool:=match j7 t [.int c,.int k,.int 7] with | .ok (.int r)=>decide (0 < r) | _=>false
noncomputable def posn (dn ac w:Int) (k:Nat):Cell:=(dn + k / w,ac + k % w)
noncomputable abbrev qg6:DS:=Dm.dIfS (dOp gGt (dFn (j7 t) (j0 (dFn (k6 t) (j0 (dVar 0) (j0 (dC (.int 1)) aNil))) (j0 (dVar 8) (j0 (dC (.int 7)) aNil)))) (dC (.int 0)))
 (dApp 7 (Q0 100 (j0 (dOp gAdd (dVar 5) (dOp gDiv (dVar 8) (dVar 4))) (j0 (dOp gAdd (dVar 6) (dOp gMod (dVar 8) (dVar 4))) aNil))))
 J3
theorem jn9 (ns:List Int) (most c h w dn ac:Int) (hw:0 < w) (hw2:w < 100):∀ (ks:List Nat) (acc:List Cell) (y:Option D),acc.length + ks.length <= 1000 ->
  ∃ y',Y2 (Y9 8) (qg6 t) (ks.map fun i=>.int (i:Nat)) [some (iL ns),some (.int most),some (.int c),some (.int h),some (.int w),some (.int dn),some (.int ac),some (cs2 acc),y] =
   .nx [some (iL ns),some (.int most),some (.int c),some (.int h),some (.int w),some (.int dn),some (.int ac),some (cs2 (acc ++ (ks.filter (pk t (ats ns 1))).map (posn dn ac w))),y']
 | [],acc,y,_=>⟨y,by simp [Y2]⟩
 | k :: ks,acc,y,hl=>by
  obtain ⟨r,r0,r1,hr⟩:=jl1 t (ats ns 1) k 7 (by decide)
  have hat:=m_at t ns 1
  have hp:pk t (ats ns 1) k = decide (0 < r):=by unfold pk; rw [hr]
  have e1:gDiv (.int (k:Int)) (.int w) = .ok (.int ((k:Int) / w)):=kt7 hw (by lia)
  have e2:gMod (.int (k:Int)) (.int w) = .ok (.int ((k:Int) % w)):=jv3 hw
  have hb:Y9 8 (.int (k:Int)) [some (iL ns),some (.int most),some (.int c),some (.int h),some (.int w),some (.int dn),some (.int ac),some (cs2 acc),y] = some [some (iL ns),some (.int most),some (.int c),some (.int h),some (.int w),some (.int dn),some (.int ac),some (cs2 acc),some (.int (k:Int))]:=rfl
  rw [List.length_cons] at hl
  rw [List.map_cons,Y2,hb]
  dsimp only
  by_cases hc:0 < r
  ·have hF:qg6 t [some (iL ns),some (.int most),some (.int c),some (.int h),some (.int w),some (.int dn),some (.int ac),some (cs2 acc),some (.int (k:Int))] = .nx [some (iL ns),some (.int most),some (.int c),some (.int h),some (.int w),some (.int dn),some (.int ac),some (cs2 (acc ++ [posn dn ac w k])),some (.int (k:Int))]:=by
    have hacc:acc.length <= 1000:=by lia
    have hat':k6 t [iL ns,.int 1] = .ok (.int (ats ns 1)):=hat
    have hr':j7 t [.int (ats ns 1),.int (k:Int),.int 7] = .ok (.int r):=hr
    simp [hat',hr',hc,dApp,e1,e2,posn,cD,hacc]
   rw [hF]
   dsimp only
   obtain ⟨y',ih⟩:=jn9 ns most c h w dn ac hw hw2 ks (acc ++ [posn dn ac w k]) (some (.int (k:Int))) (by simp; lia)
   refine ⟨y',ih.trans ?_⟩
   rw [List.filter_cons_of_pos (by rw [hp]; exact decide_eq_true hc),List.map_cons,List.append_assoc]
   rfl
  ·have hF:qg6 t [some (iL ns),some (.int most),some (.int c),some (.int h),some (.int w),some (.int dn),some (.int ac),some (cs2 acc),some (.int (k:Int))] = .nx [some (iL ns),some (.int most),some (.int c),some (.int h),some (.int w),some (.int dn),some (.int ac),some (cs2 acc),some (.int (k:Int))]:=by
    have hat':k6 t [iL ns,.int 1] = .ok (.int (ats ns 1)):=hat
    have hr':j7 t [.int (ats ns 1),.int (k:Int),.int 7] = .ok (.int r):=hr
    simp [hat',hr',hc]
   rw [hF]
   dsimp only
   obtain ⟨y',ih⟩:=jn9 ns most c h w dn ac hw hw2 ks acc (some (.int (k:Int))) (by lia)
   refine ⟨y',ih.trans ?_⟩
   rw [List.filter_cons_of_neg (by rw [hp,decide_eq_false hc]; decide)]
theorem qu1 {dn ac w:Int} (hw:0 < w) {j k:Nat} (h:j < k):cLt (posn dn ac w j) (posn dn ac w k):=by
 unfold cLt posn
 dsimp only
 have h1:(j:Int) / w <= (k:Int) / w:=Int.ediv_le_ediv hw (by lia)
 rcases Int.lt_or_eq_of_le h1 with h2 | h2
 ·exact .inl (by lia)
 ·refine .inr ⟨by lia,?_⟩
  have e1:=Int.mul_ediv_add_emod (j:Int) w
  have e2:=Int.mul_ediv_add_emod (k:Int) w
  rw [h2] at e1
  lia
theorem qs2 {dn ac w h:Int} (hw:0 < w) (hh:0 < h) (d0:0 <= dn) (d1:dn <= 8 - h) (a0:0 <= ac) (a1:ac <= 8 - w) {k:Nat} (hk:(k:Int) < h * w):inR (posn dn ac w k):=by
 unfold inR posn
 dsimp only
 have h1:0 <= (k:Int) / w:=Int.ediv_nonneg (by lia) (by lia)
 have h2:(k:Int) / w < h:=Int.ediv_lt_of_lt_mul hw hk
 have h3:0 <= (k:Int) % w:=Int.emod_nonneg _ (by lia)
 have h4:(k:Int) % w < w:=Int.emod_lt_of_pos _ hw
 lia
theorem kd4 {dn ac w:Int} (hw:0 < w) (p:Nat -> Bool) (n:Nat):Rising (((List.range n).filter p).map (posn dn ac w)):=by
 unfold Rising
 refine List.Pairwise.map (R:=fun a b=>a < b) (posn dn ac w) (fun a b h=>qu1 hw h) ?_
 exact List.Pairwise.sublist List.filter_sublist List.pairwise_lt_range
structure Drawn (l:List Cell) (most:Nat):Prop where
 pos:1 <= l.length
 le:l.length <= most
 up:Rising l
 inr:∀ c ∈ l,inR c
 box:∃ h w,Box l h w /\ qj4 h w
theorem qt6 (ns:List Int) (most:Nat) (hm:1 <= most):∃ l,J8 t [iL ns,.int most] = .ok (cs2 l) /\ Drawn l most:=by
 obtain ⟨c,hat⟩ : ∃ c:Int,k6 t [iL ns,.int 0] = .ok (.int c):=⟨_,m_at t ns 0⟩
 obtain ⟨r1,p1,q1,h1⟩:=jl1 t c 1 4 (by decide)
 obtain ⟨r2,p2,q2,h2⟩:=jl1 t c 2 6 (by decide)
 have e4:gMod (.int c) (.int 4) = .ok (.int (c % 4)):=jv3 (by decide)
 obtain ⟨h,w,a1,a2,b1,b2,hw,sm,e3⟩ : ∃ h w:Int,1 <= h /\ h <= 8 /\ 1 <= w /\ w <= 8 /\ h * w <= 64 /\ ((h <= 4 /\ w <= 6) \/ (h <= 3 /\ w = 8) \/ (h = 8 /\ w <= 3)) /\ Dm.dIfS (dOp (gEq false) (dOp gMod (dVar 2) (dC (.int 4))) (dC (.int 1)))
   (kp9 (jj1 3 4) (v9 (dOp gIx (Q5 100 (j0 (Q0 100 (j0 (dOp gAdd (dC (.int 1)) (dOp gMod (dVar 3) (dC (.int 3)))) (j0 (dC (.int 8)) aNil))) (j0 (Q0 100 (j0 (dC (.int 8)) (j0 (dOp gAdd (dC (.int 1)) (dOp gMod (dVar 4) (dC (.int 3)))) aNil))) aNil))) (dOp gMod (dOp gDiv (dVar 2) (dC (.int 4))) (dC (.int 2))))))
   J3 [some (iL ns),some (.int most),some (.int c),some (.int (1 + r1)),some (.int (1 + r2)),none,none,none,none] = .nx [some (iL ns),some (.int most),some (.int c),some (.int h),some (.int w),none,none,none,none]:=by
  by_cases hc:c % 4 = 1
  ·have m1:gMod (.int (1 + r1)) (.int 3) = .ok (.int ((1 + r1) % 3)):=jv3 (by decide)
   have m2:gMod (.int (1 + r2)) (.int 3) = .ok (.int ((1 + r2) % 3)):=jv3 (by decide)
   have m3:gDiv (.int c) (.int 4) = .ok (.int (c / 4)):=kt7 (by decide) (by decide)
   have m4:gMod (.int (c / 4)) (.int 2) = .ok (.int (c / 4 % 2)):=jv3 (by decide)
   have hz:c / 4 % 2 = 0 \/ c / 4 % 2 = 1:=by lia
   rcases hz with hz | hz
   ·refine ⟨1 + (1 + r1) % 3,8,by lia,by lia,by lia,by lia,by lia,by lia,?_⟩
    have ix:gIx (.lst [.tup [.int (1 + (1 + r1) % 3),.int 8],.tup [.int 8,.int (1 + (1 + r2) % 3)]]) (.int 0) = .ok (.tup [.int (1 + (1 + r1) % 3),.int 8]):=rfl
    simp [e4,jd1,hc,m1,m2,m3,m4,hz,ix,kp9,noL,noLs,jj1]
   ·refine ⟨8,1 + (1 + r2) % 3,by lia,by lia,by lia,by lia,by lia,by lia,?_⟩
    have ix:gIx (.lst [.tup [.int (1 + (1 + r1) % 3),.int 8],.tup [.int 8,.int (1 + (1 + r2) % 3)]]) (.int 1) = .ok (.tup [.int 8,.int (1 + (1 + r2) % 3)]):=rfl
    simp [e4,jd1,hc,m1,m2,m3,m4,hz,ix,kp9,noL,noLs,jj1]
  ·have hb:(1 + r1) * (1 + r2) <= 4 * 6:=Int.mul_le_mul (by lia) (by lia) (by lia) (by lia)
   refine ⟨1 + r1,1 + r2,by lia,by lia,by lia,by lia,by lia,by lia,?_⟩
   simp [e4,jd1,hc]
 obtain ⟨dn,d0,d1,hd⟩:=jl1 t c 3 (9 - h) (by lia)
 obtain ⟨ac,s0,s1,hs⟩:=jl1 t c 4 (9 - w) (by lia)
 have em:gMul (.int h) (.int w) = .ok (.int (h * w)):=kf0 (by constructor <;> lia)
 have hn0:0 <= h * w:=Int.mul_nonneg (by lia) (by lia)
 obtain ⟨y',hl⟩:=jn9 t ns most c h w dn ac (by lia) (by lia) (List.range (h * w).toNat) [] none (by simp; lia)
 rw [List.nil_append] at hl
 have up:=kd4 (dn:=dn) (ac:=ac) (w:=w) (by lia) (pk t (ats ns 1)) (h * w).toNat
 have rng:iRng (j0 (dOp gMul (dVar 3) (dVar 4)) aNil) [some (iL ns),some (.int most),some (.int c),some (.int h),some (.int w),some (.int dn),some (.int ac),some (.lst []),none] = .ok ((List.range (h * w).toNat).map fun i=>.int (i:Nat)):=by
  unfold iRng
  simp [em]
  lia
 obtain ⟨L,hLd⟩ : ∃ L,L = ((List.range (h * w).toNat).filter (pk t (ats ns 1))).map (posn dn ac w):=⟨_,rfl⟩
 rw [<- hLd] at hl up
 have hin:∀ x ∈ L,inR x:=fun x hx=>by
  rw [hLd] at hx
  obtain ⟨k,hk,rfl⟩:=List.mem_map.mp hx
  have:=List.mem_range.mp (List.mem_filter.mp hk).1
  exact qs2 (h:=h) (by lia) (by lia) d0 (by lia) s0 (by lia) (by lia)
 have hbx:∀ x ∈ L,dn <= x.1 /\ x.1 < dn + (h.toNat:Int) /\ ac <= x.2 /\ x.2 < ac + (w.toNat:Int):=fun x hx=>by
  rw [hLd] at hx
  obtain ⟨k,hk,rfl⟩:=List.mem_map.mp hx
  have hk':=List.mem_range.mp (List.mem_filter.mp hk).1
  have q1:0 <= (k:Int) / w:=Int.ediv_nonneg (by lia) (by lia)
  have q2:(k:Int) / w < h:=Int.ediv_lt_of_lt_mul (by lia) (by lia)
  have q3:0 <= (k:Int) % w:=Int.emod_nonneg _ (by lia)
  have q4:(k:Int) % w < w:=Int.emod_lt_of_pos _ (by lia)
  unfold posn
  dsimp only
  lia
 have sm':qj4 h.toNat w.toNat:=by unfold qj4; lia
 have f1:dAsg 2 (dFn (k6 t) (j0 (dVar 0) (j0 (dC (.int 0)) aNil))) [some (iL ns),some (.int most),none,none,none,none,none,none,none] = .nx [some (iL ns),some (.int most),some (.int c),none,none,none,none,none,none]:=by simp [hat]
 have f2:dPar 3 4 (j0 (dOp gAdd (dC (.int 1)) (dFn (j7 t) (j0 (dVar 2) (j0 (dC (.int 1)) (j0 (dC (.int 4)) aNil))))) (j0 (dOp gAdd (dC (.int 1)) (dFn (j7 t) (j0 (dVar 2) (j0 (dC (.int 2)) (j0 (dC (.int 6)) aNil))))) aNil)) [some (iL ns),some (.int most),some (.int c),none,none,none,none,none,none] = .nx [some (iL ns),some (.int most),some (.int c),some (.int (1 + r1)),some (.int (1 + r2)),none,none,none,none]:=by simp [dPar,h1,h2]
 have f4:dPar 5 6 (j0 (dFn (j7 t) (j0 (dVar 2) (j0 (dC (.int 3)) (j0 (dOp gSub (dC (.int 9)) (dVar 3)) aNil)))) (j0 (dFn (j7 t) (j0 (dVar 2) (j0 (dC (.int 4)) (j0 (dOp gSub (dC (.int 9)) (dVar 4)) aNil)))) aNil)) [some (iL ns),some (.int most),some (.int c),some (.int h),some (.int w),none,none,none,none] = .nx [some (iL ns),some (.int most),some (.int c),some (.int h),some (.int w),some (.int dn),some (.int ac),none,none]:=by simp [dPar,hd,hs]
 have f5:dAsg 7 (Q5 100 aNil) [some (iL ns),some (.int most),some (.int c),some (.int h),some (.int w),some (.int dn),some (.int ac),none,none] = .nx [some (iL ns),some (.int most),some (.int c),some (.int h),some (.int w),some (.int dn),some (.int ac),some (.lst []),none]:=by simp
 have f6:dFor (iRng (j0 (dOp gMul (dVar 3) (dVar 4)) aNil)) (Y9 8) (qg6 t) [some (iL ns),some (.int most),some (.int c),some (.int h),some (.int w),some (.int dn),some (.int ac),some (.lst []),none] = .nx [some (iL ns),some (.int most),some (.int c),some (.int h),some (.int w),some (.int dn),some (.int ac),some (cs2 L),y']:=by
  rw [dFor_,rng]
  exact hl
 have fin:∀ l:List Cell,Drawn l most -> (dSeq (Dm.dIfS (dOp (gEq false) (dFn gLen (j0 (dVar 7) aNil)) (dC (.int 0)))
   (dAsg 7 (Q5 100 (j0 (Q0 100 (j0 (v9 (dVar 5)) (j0 (v9 (dVar 6)) aNil))) aNil)))
   J3)
   (dRet (dSl (dVar 7) none (some (dVar 1))))) [some (iL ns),some (.int most),some (.int c),some (.int h),some (.int w),some (.int dn),some (.int ac),some (cs2 L),y'] = .rt (cs2 l) -> ∃ l,J8 t [iL ns,.int most] = .ok (cs2 l) /\ Drawn l most:=fun l dl e=>by
  refine ⟨l,?_,dl⟩
  have e0:J8 t [iL ns,.int most] = match (.rt (cs2 l):Out) with | .rt d=>.ok d | .nx _=>.ok .non | .ex c p _=>.ex c p | _=>.bad:=by
   unfold J8 J9
   show (match (dSeq _ _ [some (iL ns),some (.int most),none,none,none,none,none,none,none]) with | .rt d=>R.ok d | .nx _=>.ok .non | .ex c p _=>.ex c p | _=>.bad) = _
   rw [q9 f1,q9 f2,q9 e3,q9 f4,q9 f5,q9 f6,e]
  rw [e0]
 by_cases hL:L = []
 ·refine fin [(dn,ac)] ⟨by simp,by simpa using hm,by simp [Rising],fun x hx=>?_,?_⟩ ?_
  ·obtain rfl:x = (dn,ac):=by simpa using hx
   unfold inR; dsimp only; lia
  ·refine ⟨h.toNat,w.toNat,⟨dn,ac,fun x hx=>?_⟩,sm'⟩
   obtain rfl:x = (dn,ac):=by simpa using hx
   dsimp only
   lia
  ·subst hL
   have g1:Dm.dIfS (dOp (gEq false) (dFn gLen (j0 (dVar 7) aNil)) (dC (.int 0)))
    (dAsg 7 (Q5 100 (j0 (Q0 100 (j0 (v9 (dVar 5)) (j0 (v9 (dVar 6)) aNil))) aNil)))
    J3 [some (iL ns),some (.int most),some (.int c),some (.int h),some (.int w),some (.int dn),some (.int ac),some (cs2 []),y'] = .nx [some (iL ns),some (.int most),some (.int c),some (.int h),some (.int w),some (.int dn),some (.int ac),some (cs2 [(dn,ac)]),y']:=by simp [jd1,cD]
   rw [q9 g1]
   have:(([(dn,ac)]:List Cell).map cD).take most = ([(dn,ac)]:List Cell).map cD:=List.take_of_length_le (by simpa using hm)
   simp [dSl,jp3,jq0,this]
   simp [cD,noL,noLs]
   exact this
 ·refine fin (L.take most) ⟨?_,by simp; lia,up.sublist (List.take_sublist _ _),fun x hx=>hin x (List.mem_of_mem_take hx),⟨h.toNat,w.toNat,⟨dn,ac,fun x hx=>hbx x (List.mem_of_mem_take hx)⟩,sm'⟩⟩ ?_
  ·cases hc:L with
   | nil=>exact absurd hc hL
   | cons x r=>simp; lia
  ·have hL0:¬ (L.length:Int) = 0:=by
    intro z
    exact hL (List.length_eq_zero_iff.mp (by lia))
   have g1:Dm.dIfS (dOp (gEq false) (dFn gLen (j0 (dVar 7) aNil)) (dC (.int 0)))
    (dAsg 7 (Q5 100 (j0 (Q0 100 (j0 (v9 (dVar 5)) (j0 (v9 (dVar 6)) aNil))) aNil)))
    J3 [some (iL ns),some (.int most),some (.int c),some (.int h),some (.int w),some (.int dn),some (.int ac),some (cs2 L),y'] = .nx [some (iL ns),some (.int most),some (.int c),some (.int h),some (.int w),some (.int dn),some (.int ac),some (cs2 L),y']:=by simp [jd1,hL]
   rw [q9 g1]
   simp [dSl,jp3,jq0]
end Pk
end T_MA04
section T_MP04
namespace Pk
open L2 Dm
variable (t:Adr)
noncomputable def mixP (c m:Int) (k:Nat):Bool:=match j7 t [.int c,.int k,.int m] with | .ok (.int r)=>decide (0 < r) | _=>false
theorem qw8 (c:Int) {l:List Cell} (h1:1 <= l.length) (h2:l.length <= 500):∃ p,W4 t [.int c,cs2 l] = .ok (cs2 p) /\ p.Sublist l:=by
 obtain ⟨r,r0,r1,hr⟩:=jl1 t c 40 4 (by decide)
 have f1:dAsg 2 (dFn (j7 t) (j0 (dVar 0) (j0 (dC (.int 40)) (j0 (dC (.int 4)) aNil)))) [some (.int c),some (cs2 l),none,none] = .nx [some (.int c),some (cs2 l),some (.int r),none]:=by simp [hr]
 by_cases hz:r = 0
 ·subst hz
  obtain ⟨g,g0,g1,hg⟩:=jl1 t c 41 l.length (by lia)
  obtain ⟨n,rfl⟩:=Int.eq_ofNat_of_zero_le g0
  have hn:n < l.length:=by lia
  refine ⟨l.take n ++ l.drop (n + 1),?_,by rw [<- List.eraseIdx_eq_take_drop_succ]; exact List.eraseIdx_sublist l n⟩
  unfold W4
  refine Y5 [some (.int c),some (cs2 l),none,none] ?_
  rw [q9 f1]
  refine ke9 ?_
  rw [if_t (by simp [jd1])]
  have f2:dAsg 3 (dFn (j7 t) (j0 (dVar 0) (j0 (dC (.int 41)) (j0 (dFn gLen (j0 (dVar 1) aNil)) aNil)))) [some (.int c),some (cs2 l),some (.int 0),none] = .nx [some (.int c),some (cs2 l),some (.int 0),some (.int (n:Int))]:=by simp [hg]
  rw [q9 f2]
  refine ji8 (op2 (a:=cs2 (l.take n)) (b:=cs2 (l.drop (n + 1))) (vf9 rfl rfl) (qr1 rfl rfl) (kz2 ?_))
  simp; lia
 ·obtain ⟨m,hm,hix⟩ : ∃ m:Int,0 < m /\ gIx (.lst [.int 0,.int 2,.int 3,.int 4]) (.int r) = .ok (.int m):=by
   have:r = 1 \/ r = 2 \/ r = 3:=by lia
   rcases this with rfl | rfl | rfl
   ·exact ⟨2,by decide,rfl⟩
   ·exact ⟨3,by decide,rfl⟩
   ·exact ⟨4,by decide,rfl⟩
  refine ⟨(l.zipIdx.filter fun x=>mixP t c m x.2).map (·.1),?_,?_⟩
  ·unfold W4
   refine Y5 [some (.int c),some (cs2 l),none,none] ?_
   rw [q9 f1,q9 (st':=[some (.int c),some (cs2 l),some (.int r),none]) (by rw [if_f (by simp [jd1,hz])]; rfl)]
   refine ji8 ?_
   show _ = R.ok (D.lst (List.map cD (List.map _ _)))
   rw [List.map_map]
   refine ka0 (ds:=l.zipIdx.map fun p=>.tup [.int (p.2:Nat),cD p.1]) ?_ (by simp; lia) ?_
   ·simp [iEnu,kw4]
   ·refine jm3 (S:=fun x=>[some (.int (x.2:Nat)),some (cD x.1),some (.int c),some (.int r)]) (P:=fun st=>∃ y z,st = [y,z,some (.int c),some (.int r)]) l.zipIdx (fun x _=>⟨_,_,rfl⟩) (fun x _ st zz1=>by obtain ⟨y,z,e⟩:=zz1; subst e; rfl) (fun x _=>?_) (fun x _ _=>by simp) _ ⟨none,none,rfl⟩
    obtain ⟨v,v0,v1,hv⟩:=jl1 t c x.2 m hm
    have e:mixP t c m x.2 = decide (0 < v):=by unfold mixP; rw [hv]
    simp [hix,hv,e]
  ·have:=(List.filter_sublist (p:=fun x:Cell × Nat=>mixP t c m x.2) (l:=l.zipIdx)).map Prod.fst
   rwa [List.zipIdx_map_fst] at this
noncomputable def Stand (cells pegs:List Cell):Prop:=Rising pegs /\ ∀ c ∈ pegs,c ∈ cells
theorem qi2 {cells pegs:List Cell} (hl:pegs.length <= 50):(Stand cells pegs -> U8 t [.brd 0 (cells.map cD),cs2 pegs] = .ok .non) /\ (¬ Stand cells pegs -> U8 t [.brd 0 (cells.map cD),cs2 pegs] = .ex t.c_BadPegs none):=by
 obtain ⟨r1,r2⟩:=kk4 t hl
 have loop:=kr0 (bind:=Y9 2) (F:=Dm.dIfS (dOp (gIn true) (dVar 2) (dUn Y1 (dVar 0))) (jc6 t.c_BadPegs) J3) (f:=cD) (Q:=fun st=>∃ y,st = [some (.brd 0 (cells.map cD)),some (cs2 pegs),y]) (p:=fun c=>c ∈ cells) (S:=fun o=>∃ s,o = .ex t.c_BadPegs none s) (fun o zz2=>by obtain ⟨s,e⟩:=zz2; subst e; trivial) pegs [some (.brd 0 (cells.map cD)),some (cs2 pegs),none] (fun c _ st zz3=>by
  obtain ⟨y,e⟩:=zz3
  subst e
  refine ⟨[some (.brd 0 (cells.map cD)),some (cs2 pegs),some (cD c)],rfl,fun h=>⟨_,?_,some (cD c),rfl⟩,fun h=>⟨[some (.brd 0 (cells.map cD)),some (cs2 pegs),some (cD c)],?_⟩⟩
  ·rw [if_f (by simp [Z2,h])]; rfl
  ·rw [if_t (by simp [Z2,h])]; rfl) ⟨none,rfl⟩
 have key:∀ o:Out,(dSeq (Dm.dIfS (dNot (dFn (Q6 t) (j0 (dVar 1) aNil))) (jc6 t.c_BadPegs) J3) (dFor (iLst (dVar 1)) (Y9 2) (Dm.dIfS (dOp (gIn true) (dVar 2) (dUn Y1 (dVar 0))) (jc6 t.c_BadPegs) J3))) [some (.brd 0 (cells.map cD)),some (cs2 pegs),none] = o -> U8 t [.brd 0 (cells.map cD),cs2 pegs] = match o with | .rt d=>.ok d | .nx _=>.ok .non | .ex c p _=>.ex c p | _=>.bad:=fun o h=>by
  unfold U8 J9
  subst h; rfl
 by_cases hr:Rising pegs
 ·have s1:Dm.dIfS (dNot (dFn (Q6 t) (j0 (dVar 1) aNil))) (jc6 t.c_BadPegs) J3 [some (.brd 0 (cells.map cD)),some (cs2 pegs),none] = .nx [some (.brd 0 (cells.map cD)),some (cs2 pegs),none]:=by simp [r1 hr]
  rw [q9 s1] at key
  refine ⟨fun h=>?_,fun h=>?_⟩
  ·obtain ⟨st',h1,_⟩:=loop.1 h.2
   exact key (.nx st') (by simp [h1])
  ·obtain ⟨s,h1⟩:=loop.2 fun z=>h ⟨hr,z⟩
   exact key (.ex t.c_BadPegs none s) (by simp [h1])
 ·refine ⟨fun h=>absurd h.1 hr,fun _=>key (.ex t.c_BadPegs none [some (.brd 0 (cells.map cD)),some (cs2 pegs),none]) (ks1 ?_)⟩
  simp [r2 hr]
theorem Stand.sub {cells pegs:List Cell} (h:Rising cells) (hs:pegs.Sublist cells):Stand cells pegs:=⟨h.sublist hs,fun c hc=>hs.subset hc⟩
theorem qt1 {l:List Cell} (d:Drawn l 24):jq7 (w8 t) [cs2 l] = .ok (.brd 0 (l.map cD)):=by
 have h:=(qo2 t (l:=l) (by have:=d.le; lia)).1 ⟨⟨d.pos,d.le⟩,d.up,d.inr⟩
 simp [jq7,h]
theorem Drawn.mono {l:List Cell} {m n:Nat} (d:Drawn l m) (h:m <= n):Drawn l n:=⟨d.pos,Nat.le_trans d.le h,d.up,d.inr,d.box⟩
end Pk
end T_MP04
section T_MB04
namespace Pk
open L2 Dm
noncomputable abbrev bB (cells:List Cell):D:=.brd 0 (cells.map cD)
variable (t:Adr)
@[simp] theorem div2 (x:Int):gDiv (.int x) (.int 2) = .ok (.int (x / 2)):=kt7 (by decide) (by decide)
theorem kh7 (f:Cell -> List Leap) (k:Nat):∀ l:List Cell,(∀ a ∈ l,(f a).length <= k) -> (l.flatMap f).length <= l.length * k
 | [],_=>by simp
 | a :: l,h=>by
  rw [List.flatMap_cons,List.length_append,List.length_cons,Nat.succ_mul]
  have:=kh7 f k l fun x hx=>h x (.tail _ hx)
  have:=h a (.head _)
  lia
theorem qg4 {bind:DB} {F:DS} {S:List Leap -> Option D -> DSt} {a:Cell} {p:Cell -> Bool} (xs:List Cell) (acc:List Leap) (y:Option D) (hl:acc.length + xs.length <= 1000)
  (hb:∀ acc y b,bind (cD b) (S acc y) = some (S acc (some (cD b)))) (hF:∀ acc b,b ∈ xs -> acc.length <= 1000 -> ∃ y,F (S acc (some (cD b))) = .nx (S (acc ++ if p b = true then [(a,b)] else []) y)) :
  ∃ y',Y2 bind F (xs.map cD) (S acc y) = .nx (S (acc ++ (xs.filter p).map fun b=>(a,b)) y'):=by
 obtain ⟨st',h1,y',h2,_⟩:=jo8 (bind:=bind) (F:=F) (f:=cD) (Q:=fun pre st=>∃ y,st = S (acc ++ (pre.filter p).map fun b=>(a,b)) y /\ pre.length <= xs.length) xs [] (S acc y) (fun q x r e st zz1=>by
  obtain ⟨y,hy,hq⟩:=zz1
  subst hy
  rw [List.nil_append] at e
  have hlen:q.length + 1 <= xs.length:=by rw [e]; simp
  have hf:(q.filter p).length <= q.length:=List.length_filter_le ..
  obtain ⟨y2,h2⟩:=hF (acc ++ (q.filter p).map fun b=>(a,b)) x (by rw [e]; simp) (by simp; lia)
  refine ⟨_,_,hb _ _ _,h2,y2,?_,by simpa using hlen⟩
  rw [List.filter_append,List.map_append,<- List.append_assoc]
  cases hp:p x <;> simp [hp]) ⟨y,by simp,by simp⟩
 exact ⟨y',by rw [h1,h2,List.nil_append]⟩
theorem kx8 (p:Leap):v5 t [lD p] = .ok (cD (mid p.1 p.2)):=by
 simp [v5,J9,mid,cD,lD,gIx,atI,ixN]
theorem vf8 (i:Int):gAbs [.int i] = .ok (.int (abi i)):=rfl
theorem kj7 {cells:List Cell} (up:Rising cells) (hl:cells.length <= 30) (few:(k9 cells).length < 64):U2 t [cs2 cells] = .ok (ls2 (k9 cells)):=by
 have inner:∀ (acc:List Leap) (a:Cell) (y z:Option D),acc.length <= 900 -> ∃ y' z',(dFor (iLst (dVar 0)) (Y9 3)
   (dSeq (dAsg 4 (dFn ja7 (j0 (Q5 100 (j0 (dFn gAbs (j0 (dOp gSub (dOp gIx (dVar 2) (dC (.int 0))) (dOp gIx (dVar 3) (dC (.int 0)))) aNil)) (j0 (dFn gAbs (j0 (dOp gSub (dOp gIx (dVar 2) (dC (.int 1))) (dOp gIx (dVar 3) (dC (.int 1)))) aNil)) aNil))) aNil)))
   (Dm.dIfS (dAnd (dOp (gEq false) (dVar 4) (Q5 100 (j0 (dC (.int 0)) (j0 (dC (.int 2)) aNil)))) (dOp (gIn false) (dFn (v5 t) (j0 (Q0 100 (j0 (v9 (dVar 2)) (j0 (v9 (dVar 3)) aNil))) aNil)) (dVar 0)))
   (dApp 1 (Q0 100 (j0 (v9 (dVar 2)) (j0 (v9 (dVar 3)) aNil))))
   J3))) [some (cs2 cells),some (ls2 acc),some (cD a),y,z] = .nx [some (cs2 cells),some (ls2 (acc ++ (lp1 cells a).map fun b=>(a,b))),some (cD a),y',z']:=fun acc a y z ha=>by
  obtain ⟨st',h1,y',z',h2,_⟩:=jo8 (bind:=Y9 3) (F:=dSeq (dAsg 4 (dFn ja7 (j0 (Q5 100 (j0 (dFn gAbs (j0 (dOp gSub (dOp gIx (dVar 2) (dC (.int 0))) (dOp gIx (dVar 3) (dC (.int 0)))) aNil)) (j0 (dFn gAbs (j0 (dOp gSub (dOp gIx (dVar 2) (dC (.int 1))) (dOp gIx (dVar 3) (dC (.int 1)))) aNil)) aNil))) aNil)))
   (Dm.dIfS (dAnd (dOp (gEq false) (dVar 4) (Q5 100 (j0 (dC (.int 0)) (j0 (dC (.int 2)) aNil)))) (dOp (gIn false) (dFn (v5 t) (j0 (Q0 100 (j0 (v9 (dVar 2)) (j0 (v9 (dVar 3)) aNil))) aNil)) (dVar 0)))
   (dApp 1 (Q0 100 (j0 (v9 (dVar 2)) (j0 (v9 (dVar 3)) aNil))))
   J3)) (f:=cD) (Q:=fun pre st=>∃ y z,st = [some (cs2 cells),some (ls2 (acc ++ (pre.filter fun b=>ap a b && decide (mid a b ∈ cells)).map fun b=>(a,b))),some (cD a),y,z] /\ pre.length <= cells.length) cells [] [some (cs2 cells),some (ls2 acc),some (cD a),y,z] (fun q b r e st zz2=>by
   obtain ⟨y,z,hy,hq⟩:=zz2
   subst hy
   rw [List.nil_append] at e
   have hlen:q.length + 1 <= cells.length:=by rw [e]; simp
   have hf:(q.filter fun b=>ap a b && decide (mid a b ∈ cells)).length <= q.length:=List.length_filter_le ..
   obtain ⟨u,v,hs,huv⟩:=qb9 (abi (a.1 - b.1)) (abi (a.2 - b.2))
   have hap:ap a b = decide (u = 0 /\ v = 2):=by
    unfold ap
    rw [Bool.eq_iff_iff]
    simp only [Bool.or_eq_true,Bool.and_eq_true,decide_eq_true_eq]
    exact huv.symm
   generalize hA:acc ++ (q.filter fun b=>ap a b && decide (mid a b ∈ cells)).map (fun b=>(a,b)) = A
   have lA:A.length <= 1000:=by rw [<- hA]; simp; lia
   have s1:dAsg 4 (dFn ja7 (j0 (Q5 100 (j0 (dFn gAbs (j0 (dOp gSub (dOp gIx (dVar 2) (dC (.int 0))) (dOp gIx (dVar 3) (dC (.int 0)))) aNil)) (j0 (dFn gAbs (j0 (dOp gSub (dOp gIx (dVar 2) (dC (.int 1))) (dOp gIx (dVar 3) (dC (.int 1)))) aNil)) aNil))) aNil)) [some (cs2 cells),some (ls2 A),some (cD a),some (cD b),z] = .nx [some (cs2 cells),some (ls2 A),some (cD a),some (cD b),some (.lst [.int u,.int v])]:=by
    simp [vf8,hs]
   have ge:gEq false (.lst [.int u,.int v]) (.lst [.int 0,.int 2]) = .ok (.bl (decide (u = 0 /\ v = 2))):=by
    unfold gEq
    rw [if_pos (by simp [flat,U5,dep,deps])]
    simp only [eqD,eqDs,Bool.and_true,Bool.false_eq_true,if_false]
    by_cases h:u = 0 <;> by_cases h':v = 2 <;> simp [h,h']
   have gb:(dFn (v5 t) (j0 (Q0 100 (j0 (v9 (dVar 2)) (j0 (v9 (dVar 3)) aNil))) aNil)) [some (cs2 cells),some (ls2 A),some (cD a),some (cD b),some (.lst [.int u,.int v])] = .ok (cD (mid a b)):=by
    have:=kx8 t (a,b)
    unfold lD at this
    simp [this]
   refine ⟨[some (cs2 cells),some (ls2 A),some (cD a),some (cD b),z],[some (cs2 cells),some (ls2 (A ++ if (ap a b && decide (mid a b ∈ cells)) = true then [(a,b)] else [])),some (cD a),some (cD b),some (.lst [.int u,.int v])],rfl,?_,some (cD b),some (.lst [.int u,.int v]),?_,by simpa using hlen⟩
   ·rw [q9 s1]
    by_cases h1:u = 0 /\ v = 2
    ·by_cases h2:mid a b ∈ cells
     ·rw [if_t (jc0 (op2 (a:=.lst [.int u,.int v]) (b:=.lst [.int 0,.int 2]) rfl (by simp) (by rw [ge]; simp [h1])) (op2 gb rfl (by rw [Z2]; simp [h2])))]
      rw [hap]
      simp [dApp,lA,h1,h2,lD]
     ·rw [if_f (jc0 (op2 (a:=.lst [.int u,.int v]) (b:=.lst [.int 0,.int 2]) rfl (by simp) (by rw [ge]; simp [h1])) (op2 gb rfl (by rw [Z2]; simp [h2])))]
      simp [h2]
    ·rw [if_f (jp0 (op2 (a:=.lst [.int u,.int v]) (b:=.lst [.int 0,.int 2]) rfl (by simp) (by rw [ge]; simp [h1])))]
     rw [hap]
     simp [h1]
   ·rw [<- hA,List.filter_append,List.map_append,<- List.append_assoc]
    cases hp:(ap a b && decide (mid a b ∈ cells)) <;> simp [hp]) ⟨y,z,by simp,by simp⟩
  refine ⟨y',z',?_⟩
  rw [List.nil_append,qm7 up] at h2
  subst h2
  simp
  exact h1
 obtain ⟨st',h1,y,z,x,h2⟩:=jo8 (bind:=Y9 2) (F:=dFor (iLst (dVar 0)) (Y9 3)
   (dSeq (dAsg 4 (dFn ja7 (j0 (Q5 100 (j0 (dFn gAbs (j0 (dOp gSub (dOp gIx (dVar 2) (dC (.int 0))) (dOp gIx (dVar 3) (dC (.int 0)))) aNil)) (j0 (dFn gAbs (j0 (dOp gSub (dOp gIx (dVar 2) (dC (.int 1))) (dOp gIx (dVar 3) (dC (.int 1)))) aNil)) aNil))) aNil)))
   (Dm.dIfS (dAnd (dOp (gEq false) (dVar 4) (Q5 100 (j0 (dC (.int 0)) (j0 (dC (.int 2)) aNil)))) (dOp (gIn false) (dFn (v5 t) (j0 (Q0 100 (j0 (v9 (dVar 2)) (j0 (v9 (dVar 3)) aNil))) aNil)) (dVar 0)))
   (dApp 1 (Q0 100 (j0 (v9 (dVar 2)) (j0 (v9 (dVar 3)) aNil))))
   J3))) (f:=cD) (Q:=fun pre st=>∃ y z x,st = [some (cs2 cells),some (ls2 (pre.flatMap fun a=>(lp1 cells a).map fun b=>(a,b))),y,z,x]) cells [] [some (cs2 cells),some (ls2 []),none,none,none] (fun q a r e st zz3=>by
  obtain ⟨y,z,x,hy⟩:=zz3
  subst hy
  rw [List.nil_append] at e
  have hq:q.length <= 30:=by rw [e] at hl; simp at hl; lia
  have h4:∀ a,((lp1 cells a).map fun b=>(a,b)).length <= 4:=fun a=>by
   rw [List.length_map]; exact Nat.le_trans (List.length_filter_le ..) (by simp [four])
  have:=kh7 (fun a=>(lp1 cells a).map fun b=>(a,b)) 4 q fun a _=>h4 a
  obtain ⟨z',x',h⟩:=inner (q.flatMap fun a=>(lp1 cells a).map fun b=>(a,b)) a z x (by lia)
  exact ⟨_,_,rfl,h,some (cD a),z',x',by rw [List.flatMap_append]; simp⟩) ⟨none,none,none,rfl⟩
 subst h2
 unfold U2
 refine Y5 [some (cs2 cells),none,none,none,none] ?_
 rw [q9 (st':=[some (cs2 cells),some (ls2 []),none,none,none]) (by simp),q9 (st':=[some (cs2 cells),some (ls2 (k9 cells)),y,z,x]) ?_]
 ·exact ji8 (fn1 (a:=ls2 (k9 cells)) rfl (qf7 (kk2 up) few))
 ·rw [dFor_]
  have:iLst (dVar 0) [some (cs2 cells),some (ls2 []),none,none,none] = .ok (cells.map cD):=by simp
  rw [this]
  exact h1
theorem Drawn.few {l:List Cell} {m:Nat} (d:Drawn l m):(k9 l).length < 64:=by
 obtain ⟨h,w,b,s⟩:=d.box
 have:=kr8 d.up b s
 lia
end Pk
end T_MB04
section T_ML04
namespace Pk
open L2 Dm
variable (t:Adr)
theorem ve9 (c:Cell):Z8 t [cD c] = .ok (cs2 (four c)):=by
 simp [Z8,J9,four,cD,gIx,atI,ixN]
theorem qb5 (a b:Cell):W3 t [cD a,cD b] = .ok (cD (mid a b)):=by
 simp [W3,J9,mid,cD,gIx,atI,ixN]
theorem qn4 {cells:List Cell} (hl:cells.length <= 200):jo0 t [bB cells] = .ok (ls2 (k9 cells)):=by
 have inner:∀ (acc:List Leap) (a:Cell) (y:Option D),acc.length <= 900 -> ∃ y',(dFor (iLst (dFn (Z8 t) (j0 (dVar 2) aNil))) (Y9 3)
   (Dm.dIfS (dAnd (dOp (gIn false) (dVar 3) (dUn Y1 (dVar 0))) (dOp (gIn false) (dFn (W3 t) (j0 (dVar 2) (j0 (dVar 3) aNil))) (dUn Y1 (dVar 0))))
   (dApp 1 (Q0 100 (j0 (v9 (dVar 2)) (j0 (v9 (dVar 3)) aNil))))
   J3)) [some (bB cells),some (ls2 acc),some (cD a),y] = .nx [some (bB cells),some (ls2 (acc ++ (lp1 cells a).map fun b=>(a,b))),some (cD a),y']:=fun acc a y ha=>by
  obtain ⟨y',h⟩:=qg4 (bind:=Y9 3) (F:=Dm.dIfS (dAnd (dOp (gIn false) (dVar 3) (dUn Y1 (dVar 0))) (dOp (gIn false) (dFn (W3 t) (j0 (dVar 2) (j0 (dVar 3) aNil))) (dUn Y1 (dVar 0))))
   (dApp 1 (Q0 100 (j0 (v9 (dVar 2)) (j0 (v9 (dVar 3)) aNil))))
   J3) (S:=fun acc y=>[some (bB cells),some (ls2 acc),some (cD a),y]) (a:=a) (p:=fun b=>decide (b ∈ cells) && decide (mid a b ∈ cells)) (four a) acc y (by simp [four]; lia) (fun acc y b=>rfl) (fun acc b _ hacc=>⟨some (cD b),by
    by_cases h1:b ∈ cells
    ·by_cases h2:mid a b ∈ cells
     ·rw [if_t (jc0 (op2 (a:=cD b) (b:=cs2 cells) rfl (by simp) (by rw [Z2]; simp [h1])) (op2 (a:=cD (mid a b)) (b:=cs2 cells) (by simp [qb5]) (by simp) (by rw [Z2]; simp [h2])))]
      simp [dApp,hacc,h1,h2,lD]
     ·rw [if_f (jc0 (op2 (a:=cD b) (b:=cs2 cells) rfl (by simp) (by rw [Z2]; simp [h1])) (op2 (a:=cD (mid a b)) (b:=cs2 cells) (by simp [qb5]) (by simp) (by rw [Z2]; simp [h2])))]
      simp [h2]
    ·rw [if_f (jp0 (op2 (a:=cD b) (b:=cs2 cells) rfl (by simp) (by rw [Z2]; simp [h1])))]
     simp [h1]⟩)
  exact ⟨y',by simp [ve9]; exact h⟩
 obtain ⟨st',h1,y,z,h2⟩:=jo8 (bind:=Y9 2) (F:=dFor (iLst (dFn (Z8 t) (j0 (dVar 2) aNil))) (Y9 3)
   (Dm.dIfS (dAnd (dOp (gIn false) (dVar 3) (dUn Y1 (dVar 0))) (dOp (gIn false) (dFn (W3 t) (j0 (dVar 2) (j0 (dVar 3) aNil))) (dUn Y1 (dVar 0))))
   (dApp 1 (Q0 100 (j0 (v9 (dVar 2)) (j0 (v9 (dVar 3)) aNil))))
   J3)) (f:=cD) (Q:=fun pre st=>∃ y z,st = [some (bB cells),some (ls2 (pre.flatMap fun a=>(lp1 cells a).map fun b=>(a,b))),y,z]) cells [] [some (bB cells),some (ls2 []),none,none] (fun q a r e st zz1=>by
  obtain ⟨y,z,hy⟩:=zz1
  subst hy
  rw [List.nil_append] at e
  have hq:q.length <= 200:=by rw [e] at hl; simp at hl; lia
  have h4:∀ a,((lp1 cells a).map fun b=>(a,b)).length <= 4:=fun a=>by
   rw [List.length_map]; exact Nat.le_trans (List.length_filter_le ..) (by simp [four])
  have:=kh7 (fun a=>(lp1 cells a).map fun b=>(a,b)) 4 q fun a _=>h4 a
  obtain ⟨z',h⟩:=inner (q.flatMap fun a=>(lp1 cells a).map fun b=>(a,b)) a z (by lia)
  exact ⟨_,_,rfl,h,some (cD a),z',by rw [List.flatMap_append]; simp⟩) ⟨none,none,rfl⟩
 subst h2
 unfold jo0
 refine Y5 [some (bB cells),none,none,none] ?_
 rw [q9 (st':=[some (bB cells),some (ls2 []),none,none]) (by simp),q9 (st':=[some (bB cells),some (ls2 (k9 cells)),y,z]) ?_]
 ·rfl
 ·rw [dFor_]
  have:iLst (dUn Y1 (dVar 0)) [some (bB cells),some (ls2 []),none,none] = .ok (cells.map cD):=by simp
  rw [this]
  exact h1
end Pk
end T_ML04
section T_MQ04
namespace Pk
open L2 Dm
variable (t:Adr)
theorem kr9 {cells pegs:List Cell} (up:Rising cells) (hl:cells.length <= 30) (few:(k9 cells).length < 64):Q4 t [cs2 cells,cs2 pegs] = .ok (ls2 (opn cells pegs)):=by
 have hL:=kj7 t up hl few
 obtain ⟨st',h1,y,z,h2,_⟩:=jo8 (bind:=jj1 3 4) (F:=Dm.dIfS (dAnd (dOp (gIn false) (dVar 3) (dVar 1)) (dAnd (dOp (gIn false) (dFn (v5 t) (j0 (Q0 100 (j0 (v9 (dVar 3)) (j0 (v9 (dVar 4)) aNil))) aNil)) (dVar 1)) (dOp (gIn true) (dVar 4) (dVar 1))))
   (dApp 2 (Q0 100 (j0 (v9 (dVar 3)) (j0 (v9 (dVar 4)) aNil))))
   J3) (f:=lD) (Q:=fun pre st=>∃ y z,st = [some (cs2 cells),some (cs2 pegs),some (ls2 (pre.filter (canB pegs))),y,z] /\ pre.length <= 64) (k9 cells) [] [some (cs2 cells),some (cs2 pegs),some (ls2 []),none,none] (fun q p r e st zz1=>by
  obtain ⟨y,z,hy,hq⟩:=zz1
  subst hy
  rw [List.nil_append] at e
  have hlen:q.length + 1 <= 64:=by rw [e] at few; simp at few; lia
  have hf:(q.filter (canB pegs)).length <= q.length:=List.length_filter_le ..
  generalize hA:q.filter (canB pegs) = A at hf
  have lA:A.length <= 1000:=by lia
  have gb:(dFn (v5 t) (j0 (Q0 100 (j0 (v9 (dVar 3)) (j0 (v9 (dVar 4)) aNil))) aNil)) [some (cs2 cells),some (cs2 pegs),some (ls2 A),some (cD p.1),some (cD p.2)] = .ok (cD (mid p.1 p.2)):=by
   have:=kx8 t p
   unfold lD at this
   simp [this]
  refine ⟨[some (cs2 cells),some (cs2 pegs),some (ls2 A),some (cD p.1),some (cD p.2)],[some (cs2 cells),some (cs2 pegs),some (ls2 (A ++ if canB pegs p = true then [p] else [])),some (cD p.1),some (cD p.2)],rfl,?_,some (cD p.1),some (cD p.2),?_,by simpa using hlen⟩
  ·unfold canB
   by_cases h1:p.1 ∈ pegs
   ·by_cases h3:mid p.1 p.2 ∈ pegs
    ·by_cases h2:p.2 ∈ pegs
     ·rw [if_f (jc0 (op2 (a:=cD p.1) (b:=cs2 pegs) rfl rfl (by rw [Z2]; simp [h1])) (jc0 (op2 gb rfl (by rw [Z2]; simp [h3])) (op2 (a:=cD p.2) (b:=cs2 pegs) rfl rfl (by rw [Z2]; simp [h2]))))]
      simp [h2]
     ·rw [if_t (jc0 (op2 (a:=cD p.1) (b:=cs2 pegs) rfl rfl (by rw [Z2]; simp [h1])) (jc0 (op2 gb rfl (by rw [Z2]; simp [h3])) (op2 (a:=cD p.2) (b:=cs2 pegs) rfl rfl (by rw [Z2]; simp [h2]))))]
      simp [dApp,lA,h1,h2,h3,lD]
    ·rw [if_f (jc0 (op2 (a:=cD p.1) (b:=cs2 pegs) rfl rfl (by rw [Z2]; simp [h1])) (jp0 (op2 gb rfl (by rw [Z2]; simp [h3]))))]
     simp [h3]
   ·rw [if_f (jp0 (op2 (a:=cD p.1) (b:=cs2 pegs) rfl rfl (by rw [Z2]; simp [h1])))]
    simp [h1]
  ·rw [<- hA,List.filter_append]
   cases hp:canB pegs p <;> simp [hp]) ⟨none,none,rfl,by simp⟩
 rw [List.nil_append] at h2
 subst h2
 unfold Q4
 refine Y5 [some (cs2 cells),some (cs2 pegs),none,none,none] ?_
 rw [q9 (st':=[some (cs2 cells),some (cs2 pegs),some (ls2 []),none,none]) (by simp),q9 (st':=[some (cs2 cells),some (cs2 pegs),some (ls2 (opn cells pegs)),y,z]) ?_]
 ·rfl
 ·rw [dFor_]
  have:iLst (dFn (U2 t) (j0 (dVar 0) aNil)) [some (cs2 cells),some (cs2 pegs),some (ls2 []),none,none] = .ok ((k9 cells).map lD):=by simp [hL]
  rw [this]
  exact h1
end Pk
end T_MQ04
section T_MG04
namespace Pk
open L2 Dm
variable (t:Adr)
theorem kb8 {pegs:List Cell} (p:Leap) (hl:pegs.length <= 60):Q3 t [cs2 pegs,lD p] = .ok (cs2 (Q2 pegs p)):=by
 have hb:=kx8 t p
 have g1:(jm7 (iLst (dVar 0)) 1 [1] (Y9 0) (dAnd (dOp (gEq true) (dVar 0) (dOp gIx (dVar 1) (dC (.int 0)))) (dOp (gEq true) (dVar 0) (dFn (v5 t) (j0 (dVar 1) aNil)))) (v9 (dVar 0))) [some (cs2 pegs),some (lD p),none] = .ok (cs2 (left pegs p)):=by
  refine ka0 (ds:=pegs.map cD) (by simp) (by simp; lia) ?_
  exact jm3 (S:=fun x=>[some (cD x),some (lD p)]) (P:=fun st=>∃ y,st = [y,some (lD p)]) pegs (fun x _=>⟨_,rfl⟩) (fun x _ st zz1=>by obtain ⟨y,e⟩:=zz1; subst e; rfl) (fun x _=>by
   by_cases h1:x = p.1
   ·exact (jp0 (op2 (a:=cD x) (b:=cD p.1) rfl (by simp) (by rw [qo0]; simp [h1]))).trans (by simp [h1])
   ·exact (jc0 (op2 (a:=cD x) (b:=cD p.1) rfl (by simp) (by rw [qo0]; simp [h1])) (op2 (a:=cD x) (b:=cD (mid p.1 p.2)) rfl (by simp [hb]) (qo0 ..))).trans (by simp [h1])) (fun x _ _=>by simp) _ ⟨none,rfl⟩
 have hle:(left pegs p).length <= pegs.length:=List.length_filter_le ..
 unfold Q3
 refine Y5 [some (cs2 pegs),some (lD p),none] ?_
 rw [q9 (st':=[some (cs2 pegs),some (lD p),some (cs2 (left pegs p))]) (jc8 g1)]
 refine ji8 (fn1 (a:=cs2 (left pegs p ++ [p.2])) (op2 (a:=cs2 (left pegs p)) (b:=cs2 [p.2]) rfl (by simp) (kz2 (by simp; lia))) ?_)
 exact kr3 (by simp; lia)
theorem Stand.row {cells pegs:List Cell} {row:List Leap} (S:Stand cells pegs) (h:kb6 cells pegs row):Stand cells (W2 pegs row):=by
 obtain ⟨h1,h2,_⟩:=jm2 S.1 S.2 h
 exact ⟨h1,h2⟩
theorem ql7 {l:List Leap} {a:Nat} (h:a < l.length):gIx (ls2 l) (.int (a:Int)) = .ok (lD l[a]):=jo4 (by rw [List.getElem?_map,List.getElem?_eq_getElem h]; rfl)
theorem qx9 {cells pegs:List Cell} (c:Int) {most:Nat} (hm:most <= 900) (S:Stand cells pegs) (lp:pegs.length <= 50) (up:Rising cells) (hl:cells.length <= 30) (few:(k9 cells).length < 64) :
  ∃ row,kb6 cells pegs row /\ row.length <= most /\ je1 t [cs2 cells,cs2 pegs,.int c,.int most] = .ok (.tup [ls2 row,cs2 (W2 pegs row)]):=by
 obtain ⟨n,n0,n1,hn⟩:=jl1 t c 60 (most + 1) (by lia)
 obtain ⟨n,rfl⟩:=Int.eq_ofNat_of_zero_le n0
 have rng:iRng (j0 (dFn (j7 t) (j0 (dVar 2) (j0 (dC (.int 60)) (j0 (dOp gAdd (dVar 3) (dC (.int 1))) aNil)))) aNil) [some (cs2 cells),some (cs2 pegs),some (.int c),some (.int most),some (ls2 []),some (cs2 pegs),none,none,none] = .ok ((List.range n).map fun i=>.int (i:Nat)):=by
  unfold iRng
  have:(j0 (dFn (j7 t) (j0 (dVar 2) (j0 (dC (.int 60)) (j0 (dOp gAdd (dVar 3) (dC (.int 1))) aNil)))) aNil) [some (cs2 cells),some (cs2 pegs),some (.int c),some (.int most),some (ls2 []),some (cs2 pegs),none,none,none] = .ok [.int n]:=by
   simp [hn]
  rw [this]
  dsimp only
  rw [if_pos (by simp; lia)]
  rfl
 obtain ⟨st',h1,row,x,y,z,ok,lr,h2⟩:=jo8 (bind:=Y9 6) (F:=dSeq (dAsg 7 (dFn (Q4 t) (j0 (dVar 0) (j0 (dVar 5) aNil))))
  (Dm.dIfS (dOp gGt (dFn gLen (j0 (dVar 7) aNil)) (dC (.int 0)))
  (dSeq (dAsg 8 (v9 (dOp gIx (dVar 7) (dFn (j7 t) (j0 (dVar 2) (j0 (dOp gAdd (dC (.int 61)) (dVar 6)) (j0 (dFn gLen (j0 (dVar 7) aNil)) aNil)))))))
  (dSeq (dApp 4 (v9 (dVar 8)))
  (dAsg 5 (dFn (Q3 t) (j0 (dVar 5) (j0 (dVar 8) aNil))))))
  J3)) (f:=fun i:Nat=>D.int (i:Nat)) (Q:=fun pre st=>∃ row x y z,kb6 cells pegs row /\ row.length <= pre.length /\ st = [some (cs2 cells),some (cs2 pegs),some (.int c),some (.int most),some (ls2 row),some (cs2 (W2 pegs row)),x,y,z]) (List.range n) [] [some (cs2 cells),some (cs2 pegs),some (.int c),some (.int most),some (ls2 []),some (cs2 pegs),none,none,none] (fun q k r e st zz2=>by
  obtain ⟨row,x,y,z,ok,lr,hy⟩:=zz2
  subst hy
  rw [List.nil_append] at e
  have hq:q.length <= 900:=by
   have:=congrArg List.length e
   simp at this; lia
  have hw:=jm2 S.1 S.2 ok
  have lw:(W2 pegs row).length <= 50:=by lia
  generalize hW:W2 pegs row = W at hw lw
  have ho:=kr9 t (pegs:=W) up hl few
  generalize hO:opn cells W = O at ho
  have s1:dAsg 7 (dFn (Q4 t) (j0 (dVar 0) (j0 (dVar 5) aNil))) [some (cs2 cells),some (cs2 pegs),some (.int c),some (.int most),some (ls2 row),some (cs2 W),some (.int (k:Nat)),y,z] = .nx [some (cs2 cells),some (cs2 pegs),some (.int c),some (.int most),some (ls2 row),some (cs2 W),some (.int (k:Nat)),some (ls2 O),z]:=by simp [ho]
  by_cases hO0:0 < O.length
  ·obtain ⟨m,m0,m1,hmx⟩:=jl1 t c (61 + k) O.length (by lia)
   obtain ⟨m,rfl⟩:=Int.eq_ofNat_of_zero_le m0
   have hm':m < O.length:=by lia
   have hix:=ql7 hm'
   have hmem:O[m] ∈ opn cells W:=by rw [hO]; exact List.getElem_mem hm'
   have hbh:=kb8 t (pegs:=W) O[m] (by lia)
   refine ⟨[some (cs2 cells),some (cs2 pegs),some (.int c),some (.int most),some (ls2 row),some (cs2 W),some (.int (k:Nat)),y,z],[some (cs2 cells),some (cs2 pegs),some (.int c),some (.int most),some (ls2 (row ++ [O[m]])),some (cs2 (Q2 W O[m])),some (.int (k:Nat)),some (ls2 O),some (lD O[m])],rfl,?_,row ++ [O[m]],_,_,_,kv9 ok (by rw [hW]; exact hmem),by simpa using lr,by rw [kt0,hW]⟩
   rw [q9 s1,if_t (by simp; lia)]
   rw [q9 (st':=[some (cs2 cells),some (cs2 pegs),some (.int c),some (.int most),some (ls2 row),some (cs2 W),some (.int (k:Nat)),some (ls2 O),some (lD O[m])]) (jc8 (kz9 (op2 (a:=ls2 O) (b:=.int (m:Int)) rfl (by simpa using hmx) hix) (noL_lD _)))]
   rw [q9 (st':=[some (cs2 cells),some (cs2 pegs),some (.int c),some (.int most),some (ls2 (row ++ [O[m]])),some (cs2 W),some (.int (k:Nat)),some (ls2 O),some (lD O[m])]) (by
    have:row.length <= 1000:=by lia
    simp [dApp,this])]
   exact jc8 (fn2 (a:=cs2 W) (b:=lD O[m]) rfl rfl hbh)
  ·refine ⟨[some (cs2 cells),some (cs2 pegs),some (.int c),some (.int most),some (ls2 row),some (cs2 W),some (.int (k:Nat)),y,z],[some (cs2 cells),some (cs2 pegs),some (.int c),some (.int most),some (ls2 row),some (cs2 W),some (.int (k:Nat)),some (ls2 O),z],rfl,?_,row,_,_,_,ok,by simp; lia,by rw [hW]⟩
   rw [q9 s1,if_f (op2 (a:=.int (O.length:Nat)) (b:=.int 0) (by simp) rfl (by rw [gGt_,decide_eq_false (by lia)]))]; rfl) ⟨[],_,_,_,trivial,by simp,rfl⟩
 subst h2
 refine ⟨row,ok,by simp at lr; lia,?_⟩
 unfold je1
 refine Y5 [some (cs2 cells),some (cs2 pegs),some (.int c),some (.int most),none,none,none,none,none] ?_
 rw [q9 (st':=[some (cs2 cells),some (cs2 pegs),some (.int c),some (.int most),some (ls2 []),none,none,none,none]) (by simp),
  q9 (st':=[some (cs2 cells),some (cs2 pegs),some (.int c),some (.int most),some (ls2 []),some (cs2 pegs),none,none,none]) (by simp),
  q9 (by rw [dFor_,rng]; exact h1)]
 simp
end Pk
end T_MG04
section T_MW04
namespace Pk
open L2 Dm
variable (t:Adr)
theorem kh9 (i:Int):U1 t [.int i] = .ok (.bl true):=by
 unfold U1
 refine Y5 [some (.int i)] (ji8 (jc0 (un1 (a:=.int i) rfl (by simp [gIsi,tyD,jy5])) (kg0 (b:=false) (un1 (a:=.int i) rfl (by simp [gIsi,tyD,jp9])))))
end Pk
end T_MW04
section T_M04
namespace Pk
open L2 Dm Nl
variable (t:Adr)
theorem vg4 (pegs:List Cell) (p:Leap):U0 t [cs2 pegs,lD p] = .ok (.bl (canB pegs p)):=by
 unfold U0 canB
 refine Y5 [some (cs2 pegs),some (lD p)] (ji8 ?_)
 have g1:=Z2 false p.1 pegs
 have g2:=Z2 true p.2 pegs
 have g3:=Z2 false (mid p.1 p.2) pegs
 by_cases h1:p.1 ∈ pegs <;> by_cases h2:p.2 ∈ pegs <;> simp [qb5,g1,g2,g3,h1,h2]
theorem qp8 (neg:Bool) (x a b:Cell):gIn neg (cD x) (.tup [cD a,cD b]) = .ok (.bl (if neg then !(decide (a = x) || decide (b = x)) else (decide (a = x) || decide (b = x)))):=by
 unfold gIn
 dsimp only
 rw [if_pos (by simp [U5,deps])]
 simp
theorem qh0 {pegs:List Cell} (p:Leap) (hl:pegs.length <= 60):Y6 t [cs2 pegs,lD p] = .ok (cs2 (Q2 pegs p)):=by
 have hb:=qb5 t p.1 p.2
 have g1:(jm7 (iLst (dVar 0)) 1 [2] (Y9 0) (dOp (gIn true) (dVar 0) (dVar 1)) (v9 (dVar 0))) [some (cs2 pegs),some (lD p),some (.tup [cD p.1,cD (mid p.1 p.2)])] = .ok (cs2 (left pegs p)):=by
  refine ka0 (ds:=pegs.map cD) (by simp) (by simp; lia) ?_
  refine jm3 (S:=fun x=>[some (cD x),some (.tup [cD p.1,cD (mid p.1 p.2)])]) (P:=fun st=>∃ y,st = [y,some (.tup [cD p.1,cD (mid p.1 p.2)])]) pegs (fun x _=>⟨_,rfl⟩) (fun x _ st zz1=>by obtain ⟨y,e⟩:=zz1; subst e; rfl) (fun x _=>?_) (fun x _ _=>by simp) _ ⟨none,rfl⟩
  refine op2 (a:=cD x) (b:=.tup [cD p.1,cD (mid p.1 p.2)]) rfl rfl ?_
  rw [qp8]
  have e1:decide (p.1 = x) = decide (x = p.1):=by rw [Bool.eq_iff_iff]; simp [eq_comm]
  have e2:decide (mid p.1 p.2 = x) = decide (x = mid p.1 p.2):=by rw [Bool.eq_iff_iff]; simp [eq_comm]
  rw [e1,e2]
  cases decide (x = p.1) <;> cases decide (x = mid p.1 p.2) <;> rfl
 have hle:(left pegs p).length <= pegs.length:=List.length_filter_le ..
 unfold Y6
 refine Y5 [some (cs2 pegs),some (lD p),none] ?_
 rw [q9 (st':=[some (cs2 pegs),some (lD p),some (.tup [cD p.1,cD (mid p.1 p.2)])]) (by simp [hb])]
 refine ji8 (fn1 (a:=cs2 (left pegs p ++ [p.2])) (op2 (a:=cs2 (left pegs p)) (b:=cs2 [p.2]) g1 (by simp) (kz2 (by simp; lia))) ?_)
 exact kr3 (by simp; lia)
noncomputable def badP (cells:List Cell):List Cell -> List Leap -> Option Nat
 | _,[]=>none
 | pegs,p :: r=>if p ∈ opn cells pegs then (badP cells (Q2 pegs p) r).map (· + 1) else some 0
noncomputable def resD (cells pegs:List Cell) (row:List Leap):D:=match badP cells pegs row with | none=>cs2 (W2 pegs row) | some j=>.int (j:Nat)
theorem kz7 {cells pegs:List Cell} {p:Leap}:p ∈ opn cells pegs ↔ p ∈ k9 cells /\ canB pegs p = true:=by unfold opn; rw [List.mem_filter]
theorem Stand.step {cells pegs:List Cell} {p:Leap} (S:Stand cells pegs) (h:p ∈ opn cells pegs):Stand cells (Q2 pegs p) /\ (Q2 pegs p).length <= pegs.length:=by
 obtain ⟨h1,h2,_,h4⟩:=jm2 (row:=[p]) S.1 S.2 ⟨h,trivial⟩
 have h4:(Q2 pegs p).length + 1 = pegs.length:=h4
 exact ⟨⟨h1,h2⟩,by lia⟩
theorem qk7 {bind:DB} {F:DS} {d:D} {ds:List D} {st st1 st2:DSt} (hb:bind d st = some st1) (hF:F st1 = .nx st2):Y2 bind F (d :: ds) st = Y2 bind F ds st2:=by simp [Y2,hb,hF]
theorem qn3 {bind:DB} {F:DS} {d x:D} {ds:List D} {st st1:DSt} (hb:bind d st = some st1) (hF:F st1 = .rt x):Y2 bind F (d :: ds) st = .rt x:=by simp [Y2,hb,hF]
theorem qt5 {bind:DB} {F:DS} {d:D} {ds:List D} {st st1 st':DSt} {c:PySem.Addr} {p:Option Int} (hb:bind d st = some st1) (hF:F st1 = .ex c p st'):Y2 bind F (d :: ds) st = .ex c p st':=by simp [Y2,hb,hF]
noncomputable def enL (row:List Leap) (k:Nat):List D:=(row.zipIdx k).map fun p=>.tup [.int (p.2:Nat),lD p.1]
theorem kk8 (p:Leap) (r:List Leap) (k:Nat):enL (p :: r) k = .tup [.int (k:Nat),lD p] :: enL r (k + 1):=by unfold enL; rw [List.zipIdx_cons]; rfl
theorem kz3 {f:DF} {st:DSt} {row:List Leap} (h:f st = .ok (ls2 row)):iEnu f st = .ok (enL row 0):=by
 unfold iEnu
 rw [h]
 dsimp only
 rw [kw4]
 rfl
noncomputable abbrev qg7:DS:=dSeq (Dm.dIfS (dOr (dOp (gIn true) (dVar 6) (dVar 4)) (dNot (dFn (U0 t) (j0 (dVar 3) (j0 (dVar 6) aNil)))))
 (jl4 t.c_NoLeap (dVar 5))
 J3)
 (dAsg 3 (dFn (Y6 t) (j0 (dVar 3) (j0 (dVar 6) aNil))))
theorem qz7 {cells:List Cell} {x0 x1 x2:Option D}:∀ (row:List Leap) (k:Nat) (pegs:List Cell) (x5 x6:Option D),Stand cells pegs -> pegs.length <= 50 -> k + row.length <= 1000 ->
  (badP cells pegs row = none -> ∃ y5 y6,Y2 (jj1 5 6) (qg7 t) (enL row k) [x0,x1,x2,some (cs2 pegs),some (ls2 (k9 cells)),x5,x6] = .nx [x0,x1,x2,some (cs2 (W2 pegs row)),some (ls2 (k9 cells)),y5,y6]) /\
  (∀ j,badP cells pegs row = some j -> ∃ s,Y2 (jj1 5 6) (qg7 t) (enL row k) [x0,x1,x2,some (cs2 pegs),some (ls2 (k9 cells)),x5,x6] = .ex t.c_NoLeap (some ((k + j:Nat):Int)) s):=by
 intro row
 induction row with
 | nil=>exact fun k pegs x5 x6 _ _ _=>⟨fun _=>⟨x5,x6,rfl⟩,fun j h=>by cases h⟩
 | cons p r ih =>
  intro k pegs x5 x6 S lp hk
  have hk:k + (r.length + 1) <= 1000:=hk
  have g1:=ql1 true p (k9 cells)
  have hb:jj1 5 6 (.tup [.int (k:Nat),lD p]) [x0,x1,x2,some (cs2 pegs),some (ls2 (k9 cells)),x5,x6] = some [x0,x1,x2,some (cs2 pegs),some (ls2 (k9 cells)),some (.int (k:Nat)),some (lD p)]:=rfl
  have e1:(dOp (gIn true) (dVar 6) (dVar 4)) [x0,x1,x2,some (cs2 pegs),some (ls2 (k9 cells)),some (.int (k:Nat)),some (lD p)] = .ok (.bl (!decide (p ∈ k9 cells))):=op2 (a:=lD p) (b:=ls2 (k9 cells)) rfl rfl g1
  have e2:(dNot (dFn (U0 t) (j0 (dVar 3) (j0 (dVar 6) aNil)))) [x0,x1,x2,some (cs2 pegs),some (ls2 (k9 cells)),some (.int (k:Nat)),some (lD p)] = .ok (.bl (!canB pegs p)):=kg0 (fn2 (a:=cs2 pegs) (b:=lD p) rfl rfl (vg4 t pegs p))
  rw [kk8]
  unfold badP
  by_cases h:p ∈ opn cells pegs
  ·obtain ⟨h1,h2⟩:=kz7.mp h
   obtain ⟨S',lp'⟩:=S.step h
   rw [if_pos h]
   have hF:qg7 t [x0,x1,x2,some (cs2 pegs),some (ls2 (k9 cells)),some (.int (k:Nat)),some (lD p)] = .nx [x0,x1,x2,some (cs2 (Q2 pegs p)),some (ls2 (k9 cells)),some (.int (k:Nat)),some (lD p)]:=by
    unfold qg7
    rw [q9 (st':=[x0,x1,x2,some (cs2 pegs),some (ls2 (k9 cells)),some (.int (k:Nat)),some (lD p)]) (by
     rw [if_f (qd8 (by rw [e1,decide_eq_true h1]; rfl) (by rw [e2,h2]; rfl))]; rfl)]
    exact jc8 (fn2 (a:=cs2 pegs) (b:=lD p) rfl rfl (qh0 t p (by lia)))
   obtain ⟨i1,i2⟩:=ih (k + 1) (Q2 pegs p) (some (.int (k:Nat))) (some (lD p)) S' (by lia) (by lia)
   rw [qk7 hb hF]
   refine ⟨fun z=>?_,fun j z=>?_⟩
   ·exact i1 (Option.map_eq_none_iff.mp z)
   ·obtain ⟨j',hj,rfl⟩:=Option.map_eq_some_iff.mp z
    obtain ⟨s,hs⟩:=i2 j' hj
    exact ⟨s,by rw [hs]; congr 3; lia⟩
  ·rw [if_neg h]
   refine ⟨fun z=>(by cases z),fun j z=>?_⟩
   cases z
   have tst:(dOr (dOp (gIn true) (dVar 6) (dVar 4)) (dNot (dFn (U0 t) (j0 (dVar 3) (j0 (dVar 6) aNil))))) [x0,x1,x2,some (cs2 pegs),some (ls2 (k9 cells)),some (.int (k:Nat)),some (lD p)] = .ok (.bl true):=by
    by_cases h1:p ∈ k9 cells
    ·have h2:canB pegs p = false:=by
      cases hc:canB pegs p with
      | false=>rfl
      | true=>exact absurd (kz7.mpr ⟨h1,hc⟩) h
     exact qd8 (by rw [e1,decide_eq_true h1]; rfl) (by rw [e2,h2]; rfl)
    ·exact ve2 (by rw [e1,decide_eq_false h1]; rfl)
   have hR:jl4 t.c_NoLeap (dVar 5) [x0,x1,x2,some (cs2 pegs),some (ls2 (k9 cells)),some (.int (k:Nat)),some (lD p)] = .ex t.c_NoLeap (some (k:Nat)) [x0,x1,x2,some (cs2 pegs),some (ls2 (k9 cells)),some (.int (k:Nat)),some (lD p)]:=by
    unfold jl4
    rw [show (dVar 5) [x0,x1,x2,some (cs2 pegs),some (ls2 (k9 cells)),some (.int (k:Nat)),some (lD p)] = .ok (.int (k:Nat)) from rfl]
    dsimp only
    rw [if_pos (by lia)]
   refine ⟨[x0,x1,x2,some (cs2 pegs),some (ls2 (k9 cells)),some (.int (k:Nat)),some (lD p)],?_⟩
   rw [qt5 (st':=[x0,x1,x2,some (cs2 pegs),some (ls2 (k9 cells)),some (.int (k:Nat)),some (lD p)]) (c:=t.c_NoLeap) (p:=some (k:Nat)) hb (ks1 (by rw [if_t tst]; exact hR))]
   rfl
theorem va1 {cells pegs:List Cell} {row:List Leap} (hl:cells.length <= 200) (lp:pegs.length <= 50) (S:Stand cells pegs) (hk:row.length <= 1000) :
  (badP cells pegs row = none -> Z6 t [bB cells,cs2 pegs,ls2 row] = .ok (cs2 (W2 pegs row))) /\ (∀ j,badP cells pegs row = some j -> Z6 t [bB cells,cs2 pegs,ls2 row] = .ex t.c_NoLeap (some (j:Nat))):=by
 have hp:=(qi2 t (cells:=cells) lp).1 S
 have hv:=qn4 t hl
 obtain ⟨w1,w2⟩:=qz7 t (x0:=some (bB cells)) (x1:=some (cs2 pegs)) (x2:=some (ls2 row)) row 0 pegs none none S lp (by lia)
 have f1:ks0 (dFn (U8 t) (j0 (dVar 0) (j0 (dVar 1) aNil))) [some (bB cells),some (cs2 pegs),some (ls2 row),none,none,none,none] = .nx [some (bB cells),some (cs2 pegs),some (ls2 row),none,none,none,none]:=by simp [hp]
 have f2:dAsg 3 (dFn je5 (j0 (dVar 1) aNil)) [some (bB cells),some (cs2 pegs),some (ls2 row),none,none,none,none] = .nx [some (bB cells),some (cs2 pegs),some (ls2 row),some (cs2 pegs),none,none,none]:=by simp
 have f3:dAsg 4 (dFn (jo0 t) (j0 (dVar 0) aNil)) [some (bB cells),some (cs2 pegs),some (ls2 row),some (cs2 pegs),none,none,none] = .nx [some (bB cells),some (cs2 pegs),some (ls2 row),some (cs2 pegs),some (ls2 (k9 cells)),none,none]:=jc8 (fn1 (a:=bB cells) rfl hv)
 have it:iEnu (dVar 2) [some (bB cells),some (cs2 pegs),some (ls2 row),some (cs2 pegs),some (ls2 (k9 cells)),none,none] = .ok (enL row 0):=kz3 rfl
 unfold Z6
 refine ⟨fun h=>?_,fun j h=>?_⟩
 ·obtain ⟨y5,y6,hw⟩:=w1 h
  refine Y5 [some (bB cells),some (cs2 pegs),some (ls2 row),none,none,none,none] ?_
  rw [q9 f1,q9 f2,q9 f3,q9 (st':=[some (bB cells),some (cs2 pegs),some (ls2 row),some (cs2 (W2 pegs row)),some (ls2 (k9 cells)),y5,y6]) (by rw [dFor_,it]; exact hw)]
  rfl
 ·obtain ⟨s,hw⟩:=w2 j h
  refine qp7 (s:=s) [some (bB cells),some (cs2 pegs),some (ls2 row),none,none,none,none] ?_
  rw [q9 f1,q9 f2,q9 f3]
  refine ks1 ?_
  rw [dFor_,it]
  dsimp only
  rw [hw,Nat.zero_add]
noncomputable abbrev qh7:DS:=dSeq (Dm.dIfS (dOp (gIn true) (dVar 5) (dFn (Q4 t) (j0 (dVar 0) (j0 (dVar 3) aNil))))
 (dRet (v9 (dVar 4)))
 J3)
 (dAsg 3 (dFn (Q3 t) (j0 (dVar 3) (j0 (dVar 5) aNil))))
theorem vb2 {cells:List Cell} {x1 x2:Option D} (up:Rising cells) (hl:cells.length <= 30) (few:(k9 cells).length < 64):∀ (row:List Leap) (k:Nat) (pegs:List Cell) (x4 x5:Option D),Stand cells pegs -> pegs.length <= 50 ->
  (badP cells pegs row = none -> ∃ y4 y5,Y2 (jj1 4 5) (qh7 t) (enL row k) [some (cs2 cells),x1,x2,some (cs2 pegs),x4,x5] = .nx [some (cs2 cells),x1,x2,some (cs2 (W2 pegs row)),y4,y5]) /\
  (∀ j,badP cells pegs row = some j -> Y2 (jj1 4 5) (qh7 t) (enL row k) [some (cs2 cells),x1,x2,some (cs2 pegs),x4,x5] = .rt (.int ((k + j:Nat):Int))):=by
 intro row
 induction row with
 | nil=>exact fun k pegs x4 x5 _ _=>⟨fun _=>⟨x4,x5,rfl⟩,fun j h=>by cases h⟩
 | cons p r ih =>
  intro k pegs x4 x5 S lp
  have ho:=kr9 t (pegs:=pegs) up hl few
  have hb:jj1 4 5 (.tup [.int (k:Nat),lD p]) [some (cs2 cells),x1,x2,some (cs2 pegs),x4,x5] = some [some (cs2 cells),x1,x2,some (cs2 pegs),some (.int (k:Nat)),some (lD p)]:=rfl
  have e1:(dOp (gIn true) (dVar 5) (dFn (Q4 t) (j0 (dVar 0) (j0 (dVar 3) aNil)))) [some (cs2 cells),x1,x2,some (cs2 pegs),some (.int (k:Nat)),some (lD p)] = .ok (.bl (!decide (p ∈ opn cells pegs))):=op2 (a:=lD p) (b:=ls2 (opn cells pegs)) rfl (fn2 (a:=cs2 cells) (b:=cs2 pegs) rfl rfl ho) (ql1 true p (opn cells pegs))
  rw [kk8]
  unfold badP
  by_cases h:p ∈ opn cells pegs
  ·obtain ⟨S',lp'⟩:=S.step h
   rw [if_pos h]
   have hF:qh7 t [some (cs2 cells),x1,x2,some (cs2 pegs),some (.int (k:Nat)),some (lD p)] = .nx [some (cs2 cells),x1,x2,some (cs2 (Q2 pegs p)),some (.int (k:Nat)),some (lD p)]:=by
    unfold qh7
    rw [q9 (st':=[some (cs2 cells),x1,x2,some (cs2 pegs),some (.int (k:Nat)),some (lD p)]) (by
     rw [if_f (by rw [e1,decide_eq_true h]; rfl)]; rfl)]
    exact jc8 (fn2 (a:=cs2 pegs) (b:=lD p) rfl rfl (kb8 t p (by lia)))
   obtain ⟨i1,i2⟩:=ih (k + 1) (Q2 pegs p) (some (.int (k:Nat))) (some (lD p)) S' (by lia)
   rw [qk7 hb hF]
   refine ⟨fun z=>?_,fun j z=>?_⟩
   ·exact i1 (Option.map_eq_none_iff.mp z)
   ·obtain ⟨j',hj,rfl⟩:=Option.map_eq_some_iff.mp z
    rw [i2 j' hj]; congr 2; lia
  ·rw [if_neg h]
   refine ⟨fun z=>(by cases z),fun j z=>?_⟩
   cases z
   rw [qn3 (x:=.int (k:Nat)) hb (ke9 (by rw [if_t (by rw [e1,decide_eq_false h]; rfl)]; exact ji8 (kz9 rfl (noL_int _))))]
   rfl
theorem vf7 {cells pegs:List Cell} {row:List Leap} (up:Rising cells) (hl:cells.length <= 30) (few:(k9 cells).length < 64) (lp:pegs.length <= 50) (S:Stand cells pegs):jb4 t [cs2 cells,cs2 pegs,ls2 row] = .ok (resD cells pegs row):=by
 obtain ⟨w1,w2⟩:=vb2 t (x1:=some (cs2 pegs)) (x2:=some (ls2 row)) up hl few row 0 pegs none none S lp
 have f1:dAsg 3 (dFn je5 (j0 (dVar 1) aNil)) [some (cs2 cells),some (cs2 pegs),some (ls2 row),none,none,none] = .nx [some (cs2 cells),some (cs2 pegs),some (ls2 row),some (cs2 pegs),none,none]:=by simp
 have it:iEnu (dVar 2) [some (cs2 cells),some (cs2 pegs),some (ls2 row),some (cs2 pegs),none,none] = .ok (enL row 0):=kz3 rfl
 unfold jb4 resD
 refine Y5 [some (cs2 cells),some (cs2 pegs),some (ls2 row),none,none,none] ?_
 rw [q9 f1]
 cases hb:badP cells pegs row with
 | none =>
  obtain ⟨y4,y5,hw⟩:=w1 hb
  rw [q9 (st':=[some (cs2 cells),some (cs2 pegs),some (ls2 row),some (cs2 (W2 pegs row)),y4,y5]) (by rw [dFor_,it]; exact hw)]
  rfl
 | some j =>
  refine ke9 ?_
  rw [dFor_,it]
  dsimp only
  rw [w2 j hb,Nat.zero_add]
theorem ve5 {cells pegs:List Cell} {row:List Leap} (hl:cells.length <= 200) (lp:pegs.length <= 50) (S:Stand cells pegs) (hk:row.length <= 1000) (w:Nat) (rw':List Leap) (hw:w = 0 /\ rw' = row \/ w = 1 /\ ∃ p r,row = p :: r /\ rw' = [p]):jb2 t [bB cells,cs2 pegs,ls2 row,.int (w:Nat)] = .ok (resD cells pegs rw'):=by
 have hk':rw'.length <= 1000:=by
  rcases hw with ⟨_,rfl⟩ | ⟨_,p,r,_,rfl⟩
  ·exact hk
  ·simp
 have E:(dOp (gEq false) (dVar 3) (dC (.int 0))) [some (bB cells),some (cs2 pegs),some (ls2 row),some (.int (w:Nat)),none] = .ok (.bl (decide (w = 0))):=op2 (a:=.int (w:Nat)) (b:=.int 0) rfl rfl (by rw [jd1]; simp)
 have key:∀ o:R D,Z6 t [bB cells,cs2 pegs,ls2 rw'] = o -> (dSeq (Dm.dIfS (dOp (gEq false) (dVar 3) (dC (.int 0))) (dRet (dFn (Z6 t) (j0 (dVar 0) (j0 (dVar 1) (j0 (dVar 2) aNil))))) J3) (dRet (dFn (jn7 t) (j0 (dVar 0) (j0 (dVar 1) (j0 (dOp gIx (dVar 2) (dC (.int 0))) aNil)))))) [some (bB cells),some (cs2 pegs),some (ls2 row),some (.int (w:Nat)),none] = (match o with | .ok d=>.rt d | .ex c p=>.ex c p [some (bB cells),some (cs2 pegs),some (ls2 row),some (.int (w:Nat)),none] | .bad=>.bad):=fun o ho=>by
  rcases hw with ⟨w0,rfl⟩ | ⟨w1,p,r,rfl,rfl⟩
  ·have h1:Dm.dIfS (dOp (gEq false) (dVar 3) (dC (.int 0))) (dRet (dFn (Z6 t) (j0 (dVar 0) (j0 (dVar 1) (j0 (dVar 2) aNil))))) J3 [some (bB cells),some (cs2 pegs),some (ls2 rw'),some (.int (w:Nat)),none] = (match o with | .ok d=>.rt d | .ex c p=>.ex c p [some (bB cells),some (cs2 pegs),some (ls2 rw'),some (.int (w:Nat)),none] | .bad=>.bad):=by
    rw [if_t (by rw [E,decide_eq_true w0]),dRet_,fn3 (a:=bB cells) (b:=cs2 pegs) (c:=ls2 rw') rfl rfl rfl ho]
    all_goals (cases o <;> rfl)
   rw [dSeq_,h1]
   all_goals (cases o <;> rfl)
  ·rw [q9 (st':=[some (bB cells),some (cs2 pegs),some (ls2 (p :: r)),some (.int (w:Nat)),none]) (by rw [if_f (by rw [E,decide_eq_false (by lia)])]; rfl)]
   have hx:gIx (ls2 (p :: r)) (.int 0) = .ok (lD p):=jo4 (n:=0) rfl
   have hL:jn7 t [bB cells,cs2 pegs,lD p] = o:=by
    have hb:dRet (dFn (Z6 t) (j0 (dVar 0) (j0 (dVar 1) (j0 (Q5 100 (j0 (v9 (dVar 2)) aNil)) aNil)))) [some (bB cells),some (cs2 pegs),some (lD p)] = (match o with | .ok d=>.rt d | .ex c p'=>.ex c p' [some (bB cells),some (cs2 pegs),some (lD p)] | .bad=>.bad):=by
     rw [dRet_,fn3 (a:=bB cells) (b:=cs2 pegs) (c:=ls2 [p]) rfl rfl (by simp) ho]
     all_goals (cases o <;> rfl)
    unfold jn7 J9
    show (match dRet _ [some (bB cells),some (cs2 pegs),some (lD p)] with | .rt d=>R.ok d | .nx _=>.ok .non | .ex c p _=>.ex c p | _=>.bad) = o
    rw [hb]
    all_goals (cases o <;> rfl)
   rw [dRet_,fn3 (a:=bB cells) (b:=cs2 pegs) (c:=lD p) rfl rfl (op2 (a:=ls2 (p :: r)) (b:=.int 0) rfl rfl hx) hL]
   all_goals (cases o <;> rfl)
 obtain ⟨m1,m2⟩:=va1 t (row:=rw') hl lp S hk'
 unfold jb2 resD
 refine Y5 [some (bB cells),some (cs2 pegs),some (ls2 row),some (.int (w:Nat)),none] (ke9 ?_)
 unfold dTry
 cases hb:badP cells pegs rw' with
 | none=>rw [key _ (m1 hb)]
 | some j =>
  rw [key _ (m2 j hb)]
  dsimp only
  rw [if_pos (by simp [jh5,jo5])]
  simp [gIsy,xTag,jf0,gAt,okAt,pay]
theorem kn3 (l:List Cell):gAll [.lst (l.map fun _=>.bl true)] = .ok (.bl true):=by
 have:(l.map fun _=>D.bl true) = (l.map fun _=>true).map D.bl:=by rw [List.map_map]; rfl
 unfold gAll
 dsimp only
 rw [this,boolsOf_map]
 simp
theorem qd6 (l:List Cell) (hl:l.length <= 200):Y7 t [cs2 l,cs2 l] = .ok (.bl true):=by
 unfold Y7
 refine Y5 [some (cs2 l),some (cs2 l)] ?_
 rw [q9 (st':=[some (cs2 l),some (cs2 l)]) (by
  rw [if_f (qd8 (kg0 (b:=true) (un1 (a:=cs2 l) rfl (by simp [gIsi,tyD,W8]))) (op2 (a:=cs2 l) (b:=cs2 l) rfl rfl (by rw [kk5]; simp)))]; rfl)]
 refine ji8 (fn1 (a:=.lst (l.map fun _=>.bl true)) (ka0 (ds:=l.map cD) rfl (by simp; lia) ?_) (kn3 l))
 exact qi6 (S:=fun x=>[some (cD x)]) (P:=fun st=>∃ y,st = [y]) l (fun x _=>⟨_,rfl⟩) (fun x _ st zz2=>by obtain ⟨y,e⟩:=zz2; subst e; rfl) (fun x _=>rfl) (fun x _=>jc0 (un1 (a:=cD x) rfl (by simp [gIsi,tyD,jl9,cD])) (jc0 (fn1 (a:=.int x.1) (by simp) (kh9 t x.1)) (fn1 (a:=.int x.2) (by simp) (kh9 t x.2)))) _ ⟨none,rfl⟩
theorem kl6 {r:Int} {n:Nat} (h0:0 <= r) (h1:r < n):∃ k:Nat,k < n /\ r = k:=⟨r.toNat,by lia,by lia⟩
theorem vf4 {cells:List Cell} (c:Int) (h1:1 <= cells.length) (up:Rising cells) (hl:cells.length <= 30) (few:(k9 cells).length < 64):∃ p:Leap,jb3 t [cs2 cells,.int c] = .ok (lD p):=by
 obtain ⟨r0,p0,q0,hr0⟩:=jl1 t c 70 cells.length (by lia)
 obtain ⟨a,ha,rfl⟩:=kl6 p0 q0
 have hx:=qj8 ha
 have hv:=kj7 t up hl few
 obtain ⟨r1,p1,q1,hr1⟩:=jl1 t c 71 2 (by decide)
 obtain ⟨r3,p3,q3,hr3⟩:=jl1 t c 73 8 (by decide)
 have f1:dAsg 2 (v9 (dOp gIx (dVar 0) (dFn (j7 t) (j0 (dVar 1) (j0 (dC (.int 70)) (j0 (dFn gLen (j0 (dVar 0) aNil)) aNil)))))) [some (cs2 cells),some (.int c),none,none,none] = .nx [some (cs2 cells),some (.int c),some (cD cells[a]),none,none]:=jc8 (kz9 (op2 (a:=cs2 cells) (b:=.int (a:Nat)) rfl (fn3 (a:=.int c) (b:=.int 70) (c:=.int (cells.length:Nat)) rfl rfl (fn1 (a:=cs2 cells) rfl (by simp)) hr0) hx) (noL_cD _))
 have f2:dAsg 3 (dFn (U2 t) (j0 (dVar 0) aNil)) [some (cs2 cells),some (.int c),some (cD cells[a]),none,none] = .nx [some (cs2 cells),some (.int c),some (cD cells[a]),some (ls2 (k9 cells)),none]:=jc8 (fn1 (a:=cs2 cells) rfl hv)
 have e1:(dOp (gEq false) (dFn (j7 t) (j0 (dVar 1) (j0 (dC (.int 71)) (j0 (dC (.int 2)) aNil)))) (dC (.int 0))) [some (cs2 cells),some (.int c),some (cD cells[a]),some (ls2 (k9 cells)),none] = .ok (.bl (decide (r1 = 0))):=op2 (a:=.int r1) (b:=.int 0) (fn3 (a:=.int c) (b:=.int 71) (c:=.int 2) rfl rfl rfl hr1) rfl (by rw [jd1]; simp)
 have e2:(dOp gGt (dFn gLen (j0 (dVar 3) aNil)) (dC (.int 0))) [some (cs2 cells),some (.int c),some (cD cells[a]),some (ls2 (k9 cells)),none] = .ok (.bl (decide (0 < ((k9 cells).length:Int)))):=op2 (a:=.int ((k9 cells).length:Nat)) (b:=.int 0) (fn1 (a:=ls2 (k9 cells)) rfl (by simp)) rfl rfl
 by_cases h:r1 = 0 /\ 0 < (k9 cells).length
 ·obtain ⟨r2,p2,q2,hr2⟩:=jl1 t c 72 (k9 cells).length (by lia)
  obtain ⟨b,hb,rfl⟩:=kl6 p2 q2
  refine ⟨(k9 cells)[b],?_⟩
  unfold jb3
  refine Y5 [some (cs2 cells),some (.int c),none,none,none] ?_
  rw [q9 f1,q9 f2]
  refine ke9 ?_
  rw [if_t (jc0 (by rw [e1,decide_eq_true h.1]) (by rw [e2,decide_eq_true (by lia)]))]
  exact ji8 (kz9 (op2 (a:=ls2 (k9 cells)) (b:=.int (b:Nat)) rfl (fn3 (a:=.int c) (b:=.int 72) (c:=.int ((k9 cells).length:Nat)) rfl rfl (fn1 (a:=ls2 (k9 cells)) rfl (by simp)) hr2) (ql7 hb)) (noL_lD _))
 ·obtain ⟨s,hs⟩ : ∃ s:Cell,gIx (.lst ([(0,3),(2,2),(1,0),(0,0),(0,2),(-2,0),(0,9),(1,1)].map cD)) (.int r3) = .ok (cD s):=by
   obtain ⟨b,hb,rfl⟩:=kl6 p3 q3
   exact ⟨_,qj8 (l:=[(0,3),(2,2),(1,0),(0,0),(0,2),(-2,0),(0,9),(1,1)]) (a:=b) hb⟩
  refine ⟨(cells[a],(cells[a].1 + s.1,cells[a].2 + s.2)),?_⟩
  unfold jb3
  refine Y5 [some (cs2 cells),some (.int c),none,none,none] ?_
  rw [q9 f1,q9 f2,q9 (st':=[some (cs2 cells),some (.int c),some (cD cells[a]),some (ls2 (k9 cells)),none]) (by
   rw [if_f]
   ·rfl
   ·by_cases h0:r1 = 0
    ·exact jc0 (by rw [e1,decide_eq_true h0]) (by rw [e2,decide_eq_false (by have:¬ 0 < (k9 cells).length:=fun z=>h ⟨h0,z⟩; lia)])
    ·exact jp0 (by rw [e1,decide_eq_false h0])),
   q9 (st':=[some (cs2 cells),some (.int c),some (cD cells[a]),some (ls2 (k9 cells)),some (cD s)]) (jc8 (kz9 (op2 (a:=.lst ([(0,3),(2,2),(1,0),(0,0),(0,2),(-2,0),(0,9),(1,1)].map cD)) (b:=.int r3) (by simp [cD]) (fn3 (a:=.int c) (b:=.int 73) (c:=.int 8) rfl rfl rfl hr3) hs) (noL_cD _)))]
  simp
  rfl
theorem qg3 (a:List Cell) (b:List Leap):gEq true (.lst [cs2 a,ls2 b]) (.lst [cs2 a,ls2 b]) = .ok (.bl false):=by
 unfold gEq
 have h1:=ka8 a
 have h2:=kg5 b
 rw [if_pos (by simp [flat,U5,dep,deps]; lia)]
 simp [eqD,eqDs]
theorem qk3 {f g:DF} {st:DSt} {l:List Leap} {a:Nat} (h1:f st = .ok (ls2 l)) (h2:g st = .ok (.int (a:Int))):dSl f none (some g) st = .ok (ls2 (l.take a)):=by
 simp [dSl,jp3,h1,h2,jq0]
theorem qg9 {f g:DF} {st:DSt} {l:List Leap} {a:Nat} (h1:f st = .ok (ls2 l)) (h2:g st = .ok (.int (a:Int))):dSl f (some g) none st = .ok (ls2 (l.drop a)):=by
 simp [dSl,jp3,h1,h2,kk6]
theorem ql5 {l m:List Leap} (h:l.length + m.length <= 1000):gCat (ls2 l) (ls2 m) = .ok (ls2 (l ++ m)):=by
 unfold gCat
 dsimp only
 rw [if_pos (by simp; lia)]
 simp
theorem lst1 {f:DF} {st:DSt} {d:D} (h:f st = .ok d):Q5 100 (j0 f aNil) st = .ok (.lst [d]):=by simp [h]
theorem lst2 {f g:DF} {st:DSt} {d e:D} (h:f st = .ok d) (h2:g st = .ok e):Q5 100 (j0 f (j0 g aNil)) st = .ok (.lst [d,e]):=by simp [h,h2]
theorem fn4 {g:List D -> R D} {f1 f2 f3 f4:DF} {st:DSt} {a b c d:D} {r:R D} (h1:f1 st = .ok a) (h2:f2 st = .ok b) (h3:f3 st = .ok c) (h4:f4 st = .ok d) (h:g [a,b,c,d] = r):dFn g (j0 f1 (j0 f2 (j0 f3 (j0 f4 aNil)))) st = r:=by simp [h1,h2,h3,h4,h]
@[simp] theorem gList_ls (l:List Leap):je5 [ls2 l] = .ok (ls2 l):=by simp [je5]
noncomputable abbrev qn0:DS:=(dSeq (dAsg 8 (dFn (jb4 t) (j0 (dVar 1) (j0 (dVar 3) (j0 (dOp gIx (Q5 100 (j0 (dVar 5) (j0 (dSl (dVar 5) none (some (dC (.int 1)))) aNil))) (dVar 7)) aNil)))))
 (dSeq (dAsg 9 (Q5 100 (j0 (dFn je5 (j0 (dVar 3) aNil)) (j0 (dFn je5 (j0 (dVar 5) aNil)) aNil))))
 (dSeq (dAsg 10 (dFn (jb2 t) (j0 (dVar 2) (j0 (dOp gIx (dVar 9) (dC (.int 0))) (j0 (dOp gIx (dVar 9) (dC (.int 1))) (j0 (dVar 7) aNil))))))
 (dSeq (Dm.dIfS (dOp (gEq true) (dVar 9) (Q5 100 (j0 (dVar 3) (j0 (dVar 5) aNil))))
 (dRet (dC (.bl false)))
 J3)
 (dSeq (Dm.dIfS (dAnd (dUn (gIsi W8) (dVar 8)) (dNot (dFn (Y7 t) (j0 (dVar 10) (j0 (dVar 8) aNil)))))
 (dRet (dC (.bl false)))
 J3)
 (dSeq (Dm.dIfS (dAnd (dNot (dUn (gIsi W8) (dVar 8))) (dOr (dNot (dFn (U1 t) (j0 (dVar 10) aNil))) (dOp (gEq true) (dVar 10) (dVar 8))))
 (dRet (dC (.bl false)))
 J3)
 (dSeq (Dm.dIfS (dUn (gIsi W8) (dVar 8))
 (dApp 10 (Q0 100 (j0 (dC (.int 9)) (j0 (dC (.int 9)) aNil))))
 J3)
 (Dm.dIfS (dOp (gEq true) (dVar 9) (Q5 100 (j0 (dVar 3) (j0 (dVar 5) aNil))))
 (dRet (dC (.bl false)))
 J3))))))))
theorem qz5 {l g:List Cell} {row rw':List Leap} {x0 x4 x6 x8 x9 x10:Option D} (w:Nat) (up:Rising l) (hl:l.length <= 30) (few:(k9 l).length < 64) (lg:g.length <= 50) (S:Stand l g) (hk:row.length <= 500) (hw:w = 0 /\ rw' = row \/ w = 1 /\ ∃ p r,row = p :: r /\ rw' = [p]) :
  ∃ y8 y9 y10,qn0 t [x0,some (cs2 l),some (bB l),some (cs2 g),x4,some (ls2 row),x6,some (.int (w:Nat)),x8,x9,x10] = .nx [x0,some (cs2 l),some (bB l),some (cs2 g),x4,some (ls2 row),x6,some (.int (w:Nat)),y8,y9,y10]:=by
 have hd:=vf7 t (row:=rw') up hl few lg S
 have hm:=ve5 t (row:=row) (by lia) lg S (by lia) w rw' hw
 have hx:gIx (.lst [ls2 row,ls2 (row.take 1)]) (.int (w:Nat)) = .ok (ls2 rw'):=by
  refine jo4 ?_
  rcases hw with ⟨rfl,rfl⟩ | ⟨rfl,p,r,rfl,rfl⟩ <;> rfl
 have s1:dAsg 8 (dFn (jb4 t) (j0 (dVar 1) (j0 (dVar 3) (j0 (dOp gIx (Q5 100 (j0 (dVar 5) (j0 (dSl (dVar 5) none (some (dC (.int 1)))) aNil))) (dVar 7)) aNil)))) [x0,some (cs2 l),some (bB l),some (cs2 g),x4,some (ls2 row),x6,some (.int (w:Nat)),x8,x9,x10] = .nx [x0,some (cs2 l),some (bB l),some (cs2 g),x4,some (ls2 row),x6,some (.int (w:Nat)),some (resD l g rw'),x9,x10]:=jc8 (fn3 (a:=cs2 l) (b:=cs2 g) (c:=ls2 rw') rfl rfl (op2 (a:=.lst [ls2 row,ls2 (row.take 1)]) (b:=.int (w:Nat)) (lst2 rfl (qk3 (a:=1) rfl rfl)) rfl hx) hd)
 have s2:dAsg 9 (Q5 100 (j0 (dFn je5 (j0 (dVar 3) aNil)) (j0 (dFn je5 (j0 (dVar 5) aNil)) aNil))) [x0,some (cs2 l),some (bB l),some (cs2 g),x4,some (ls2 row),x6,some (.int (w:Nat)),some (resD l g rw'),x9,x10] = .nx [x0,some (cs2 l),some (bB l),some (cs2 g),x4,some (ls2 row),x6,some (.int (w:Nat)),some (resD l g rw'),some (.lst [cs2 g,ls2 row]),x10]:=jc8 (lst2 (fn1 (a:=cs2 g) rfl (gList_cs g)) (fn1 (a:=ls2 row) rfl (gList_ls row)))
 have s3:dAsg 10 (dFn (jb2 t) (j0 (dVar 2) (j0 (dOp gIx (dVar 9) (dC (.int 0))) (j0 (dOp gIx (dVar 9) (dC (.int 1))) (j0 (dVar 7) aNil))))) [x0,some (cs2 l),some (bB l),some (cs2 g),x4,some (ls2 row),x6,some (.int (w:Nat)),some (resD l g rw'),some (.lst [cs2 g,ls2 row]),x10] = .nx [x0,some (cs2 l),some (bB l),some (cs2 g),x4,some (ls2 row),x6,some (.int (w:Nat)),some (resD l g rw'),some (.lst [cs2 g,ls2 row]),some (resD l g rw')]:=jc8 (fn4 (a:=bB l) (b:=cs2 g) (c:=ls2 row) (d:=.int (w:Nat)) rfl (op2 (a:=.lst [cs2 g,ls2 row]) (b:=.int 0) rfl rfl rfl) (op2 (a:=.lst [cs2 g,ls2 row]) (b:=.int 1) rfl rfl rfl) rfl hm)
 have hh:∀ y8 y10:Option D,Dm.dIfS (dOp (gEq true) (dVar 9) (Q5 100 (j0 (dVar 3) (j0 (dVar 5) aNil)))) (dRet (dC (.bl false))) J3 [x0,some (cs2 l),some (bB l),some (cs2 g),x4,some (ls2 row),x6,some (.int (w:Nat)),y8,some (.lst [cs2 g,ls2 row]),y10] = .nx [x0,some (cs2 l),some (bB l),some (cs2 g),x4,some (ls2 row),x6,some (.int (w:Nat)),y8,some (.lst [cs2 g,ls2 row]),y10]:=fun y8 y10=>by
  rw [if_f (op2 (a:=.lst [cs2 g,ls2 row]) (b:=.lst [cs2 g,ls2 row]) rfl (lst2 rfl rfl) (qg3 g row))]; rfl
 unfold qn0
 rw [q9 s1,q9 s2,q9 s3,q9 (hh _ _)]
 cases hb:badP l g rw' with
 | none =>
  have hD:resD l g rw' = cs2 (W2 g rw'):=by unfold resD; rw [hb]
  rw [hD]
  have lw:(W2 g rw').length <= 200:=by
   have ok:∀ (r:List Leap) (p:List Cell),badP l p r = none -> kb6 l p r:=fun r=>by
    induction r with
    | nil=>exact fun _ _=>trivial
    | cons q r ih =>
     intro p h
     unfold badP at h
     by_cases hq:q ∈ opn l p
     ·rw [if_pos hq] at h
      exact ⟨hq,ih _ (Option.map_eq_none_iff.mp h)⟩
     ·rw [if_neg hq] at h; cases h
   have:=(jm2 S.1 S.2 (ok rw' g hb)).2.2.2
   lia
  have isl:gIsi W8 (cs2 (W2 g rw')) = .ok (.bl true):=by simp [gIsi,tyD,W8]
  have hp:=qd6 t (W2 g rw') lw
  refine ⟨some (cs2 (W2 g rw')),some (.lst [cs2 g,ls2 row]),some (.lst ((W2 g rw').map cD ++ [cD (9,9)])),?_⟩
  rw [q9 (st':=[x0,some (cs2 l),some (bB l),some (cs2 g),x4,some (ls2 row),x6,some (.int (w:Nat)),some (cs2 (W2 g rw')),some (.lst [cs2 g,ls2 row]),some (cs2 (W2 g rw'))]) (by
    rw [if_f (jc0 (un1 (a:=cs2 (W2 g rw')) rfl isl) (kg0 (b:=true) (fn2 (a:=cs2 (W2 g rw')) (b:=cs2 (W2 g rw')) rfl rfl hp)))]; rfl),
   q9 (st':=[x0,some (cs2 l),some (bB l),some (cs2 g),x4,some (ls2 row),x6,some (.int (w:Nat)),some (cs2 (W2 g rw')),some (.lst [cs2 g,ls2 row]),some (cs2 (W2 g rw'))]) (by
    rw [if_f (jp0 (kg0 (b:=true) (un1 (a:=cs2 (W2 g rw')) rfl isl)))]; rfl),
   q9 (st':=[x0,some (cs2 l),some (bB l),some (cs2 g),x4,some (ls2 row),x6,some (.int (w:Nat)),some (cs2 (W2 g rw')),some (.lst [cs2 g,ls2 row]),some (.lst ((W2 g rw').map cD ++ [cD (9,9)]))]) (by
    rw [if_t (un1 (a:=cs2 (W2 g rw')) rfl isl)]
    unfold dApp
    simp [cD,noL,noLs]
    lia)]
  exact hh _ _
 | some j =>
  have hD:resD l g rw' = .int (j:Nat):=by unfold resD; rw [hb]
  rw [hD]
  have isl:gIsi W8 (.int (j:Nat)) = .ok (.bl false):=by simp [gIsi,tyD,W8]
  refine ⟨some (.int (j:Nat)),some (.lst [cs2 g,ls2 row]),some (.int (j:Nat)),?_⟩
  rw [q9 (st':=[x0,some (cs2 l),some (bB l),some (cs2 g),x4,some (ls2 row),x6,some (.int (w:Nat)),some (.int (j:Nat)),some (.lst [cs2 g,ls2 row]),some (.int (j:Nat))]) (by
    rw [if_f (jp0 (un1 (a:=.int (j:Nat)) rfl isl))]; rfl),
   q9 (st':=[x0,some (cs2 l),some (bB l),some (cs2 g),x4,some (ls2 row),x6,some (.int (w:Nat)),some (.int (j:Nat)),some (.lst [cs2 g,ls2 row]),some (.int (j:Nat))]) (by
    rw [if_f (jc0 (kg0 (b:=false) (un1 (a:=.int (j:Nat)) rfl isl)) (qd8 (kg0 (b:=true) (fn1 (a:=.int (j:Nat)) rfl (kh9 t _))) (op2 (a:=.int (j:Nat)) (b:=.int (j:Nat)) rfl rfl (by rw [jd1]; simp))))]; rfl),
   q9 (st':=[x0,some (cs2 l),some (bB l),some (cs2 g),x4,some (ls2 row),x6,some (.int (w:Nat)),some (.int (j:Nat)),some (.lst [cs2 g,ls2 row]),some (.int (j:Nat))]) (by
    rw [if_f (un1 (a:=.int (j:Nat)) rfl isl)]; rfl)]
  exact hh _ _
theorem m_law (ns:List Int):kp0 t [iL ns] = .ok (.bl true):=by
 obtain ⟨l,hl,dl⟩:=qt6 t ns 24 (by decide)
 have hl:J8 t [iL ns,.int 24] = .ok (cs2 l):=hl
 obtain ⟨c2,hat2⟩ : ∃ c:Int,k6 t [iL ns,.int 2] = .ok (.int c):=⟨_,m_at t ns 2⟩
 obtain ⟨c3,hat3⟩ : ∃ c:Int,k6 t [iL ns,.int 3] = .ok (.int c):=⟨_,m_at t ns 3⟩
 obtain ⟨c4,hat4⟩ : ∃ c:Int,k6 t [iL ns,.int 4] = .ok (.int c):=⟨_,m_at t ns 4⟩
 have ll:=dl.le
 have lpos:=dl.pos
 obtain ⟨g,hg,sub⟩:=qw8 t c2 (l:=l) dl.pos (by lia)
 have Sg:Stand l g:=.sub dl.up sub
 have lg:g.length <= 24:=Nat.le_trans sub.length_le ll
 have hB:=qt1 t dl
 obtain ⟨row0,_,lr0,hgo⟩:=qx9 t c3 (most:=12) (by decide) Sg (by lia) dl.up (by lia) dl.few
 obtain ⟨p,hod⟩:=vf4 t c4 dl.pos dl.up (by lia) dl.few
 have k2:gMod (.int c4) (.int 2) = .ok (.int (c4 % 2)):=jv3 (by decide)
 have ht:(dOp (gEq false) (dOp gMod (dFn (k6 t) (j0 (dVar 0) (j0 (dC (.int 4)) aNil))) (dC (.int 2))) (dC (.int 1))) [some (iL ns),some (cs2 l),some (bB l),some (cs2 g),some (.int c3),some (ls2 row0),none,none,none,none,none] = .ok (.bl (decide (c4 % 2 = 1))):=op2 (a:=.int (c4 % 2)) (b:=.int 1) (op2 (a:=.int c4) (b:=.int 2) (fn2 (a:=iL ns) (b:=.int 4) rfl rfl hat4) rfl k2) rfl (by rw [jd1]; simp)
 obtain ⟨row,x6,lr,hs6⟩ : ∃ row x6,row.length <= 100 /\ Dm.dIfS (dOp (gEq false) (dOp gMod (dFn (k6 t) (j0 (dVar 0) (j0 (dC (.int 4)) aNil))) (dC (.int 2))) (dC (.int 1)))
   (dSeq (dAsg 6 (dFn (j7 t) (j0 (dVar 4) (j0 (dC (.int 90)) (j0 (dOp gAdd (dFn gLen (j0 (dVar 5) aNil)) (dC (.int 1))) aNil)))))
   (dAsg 5 (dOp gCat (dOp gCat (dSl (dVar 5) none (some (dVar 6))) (Q5 100 (j0 (dFn (jb3 t) (j0 (dVar 1) (j0 (dFn (k6 t) (j0 (dVar 0) (j0 (dC (.int 4)) aNil))) aNil))) aNil))) (dSl (dVar 5) (some (dVar 6)) none))))
   J3 [some (iL ns),some (cs2 l),some (bB l),some (cs2 g),some (.int c3),some (ls2 row0),none,none,none,none,none] = .nx [some (iL ns),some (cs2 l),some (bB l),some (cs2 g),some (.int c3),some (ls2 row),x6,none,none,none,none]:=by
  by_cases h:c4 % 2 = 1
  ·obtain ⟨r,r0,r1,hr⟩:=jl1 t c3 90 (row0.length + 1) (by lia)
   obtain ⟨a,_,rfl⟩:=kl6 (n:=row0.length + 1) r0 (by lia)
   refine ⟨row0.take a ++ [p] ++ row0.drop a,some (.int (a:Nat)),by simp; lia,?_⟩
   rw [if_t (by rw [ht,decide_eq_true h]),q9 (st':=[some (iL ns),some (cs2 l),some (bB l),some (cs2 g),some (.int c3),some (ls2 row0),some (.int (a:Nat)),none,none,none,none]) (jc8 (fn3 (a:=.int c3) (b:=.int 90) (c:=.int ((row0.length:Int) + 1)) rfl rfl (op2 (a:=.int (row0.length:Nat)) (b:=.int 1) (fn1 (a:=ls2 row0) rfl (by simp)) rfl rfl) hr))]
   refine jc8 (op2 (a:=ls2 (row0.take a ++ [p])) (b:=ls2 (row0.drop a)) (op2 (a:=ls2 (row0.take a)) (b:=ls2 [p]) (qk3 rfl rfl) (lst1 (fn2 (a:=cs2 l) (b:=.int c4) rfl (fn2 (a:=iL ns) (b:=.int 4) rfl rfl hat4) hod)) (ql5 (by simp; lia))) (qg9 rfl rfl) (ql5 (by simp; lia)))
  ·exact ⟨row0,none,by lia,by rw [if_f (by rw [ht,decide_eq_false h])]; rfl⟩
 obtain ⟨n,hn,rng⟩ : ∃ n:Nat,(n = 1 \/ n = 2 /\ row ≠ []) /\ iRng (j0 (dOp gAdd (dC (.int 1)) (dFn gInt (j0 (dOp gGt (dFn gLen (j0 (dVar 5) aNil)) (dC (.int 0))) aNil))) aNil) [some (iL ns),some (cs2 l),some (bB l),some (cs2 g),some (.int c3),some (ls2 row),x6,none,none,none,none] = .ok ((List.range n).map fun i=>.int (i:Nat)):=by
  have e:(dOp gGt (dFn gLen (j0 (dVar 5) aNil)) (dC (.int 0))) [some (iL ns),some (cs2 l),some (bB l),some (cs2 g),some (.int c3),some (ls2 row),x6,none,none,none,none] = .ok (.bl (decide (0 < (row.length:Int)))):=op2 (a:=.int (row.length:Nat)) (b:=.int 0) (fn1 (a:=ls2 row) rfl (by simp)) rfl rfl
  by_cases h:row = []
  ·refine ⟨1,.inl rfl,?_⟩
   rw [h] at e ⊢
   unfold iRng
   rw [show (j0 (dOp gAdd (dC (.int 1)) (dFn gInt (j0 (dOp gGt (dFn gLen (j0 (dVar 5) aNil)) (dC (.int 0))) aNil))) aNil) [some (iL ns),some (cs2 l),some (bB l),some (cs2 g),some (.int c3),some (ls2 []),x6,none,none,none,none] = .ok [.int 1] from by simp [e,gInt]]
   rfl
  ·refine ⟨2,.inr ⟨rfl,h⟩,?_⟩
   have:0 < row.length:=List.length_pos_iff.mpr h
   unfold iRng
   rw [show (j0 (dOp gAdd (dC (.int 1)) (dFn gInt (j0 (dOp gGt (dFn gLen (j0 (dVar 5) aNil)) (dC (.int 0))) aNil))) aNil) [some (iL ns),some (cs2 l),some (bB l),some (cs2 g),some (.int c3),some (ls2 row),x6,none,none,none,none] = .ok [.int 2] from by simp [e,gInt,this]]
   rfl
 obtain ⟨st',h1,y7,y8,y9,y10,rfl⟩:=jo8 (bind:=Y9 7) (F:=qn0 t) (f:=fun i:Nat=>D.int (i:Nat)) (Q:=fun _ st=>∃ y7 y8 y9 y10,st = [some (iL ns),some (cs2 l),some (bB l),some (cs2 g),some (.int c3),some (ls2 row),x6,y7,y8,y9,y10]) (List.range n) [] [some (iL ns),some (cs2 l),some (bB l),some (cs2 g),some (.int c3),some (ls2 row),x6,none,none,none,none] (fun q k r e st zz3=>by
  obtain ⟨y7,y8,y9,y10,hy⟩:=zz3
  subst hy
  rw [List.nil_append] at e
  have hk:k < n:=by
   have:k ∈ List.range n:=by rw [e]; simp
   exact List.mem_range.mp this
  obtain ⟨rw',hw⟩ : ∃ rw',k = 0 /\ rw' = row \/ k = 1 /\ ∃ p r,row = p :: r /\ rw' = [p]:=by
   by_cases k0:k = 0
   ·exact ⟨row,.inl ⟨k0,rfl⟩⟩
   ·rcases hn with hn | ⟨hn,hr⟩
    ·lia
    ·cases row with
     | nil=>exact absurd rfl hr
     | cons p r=>exact ⟨[p],.inr ⟨by lia,p,r,rfl,rfl⟩⟩
  obtain ⟨z8,z9,z10,hb⟩:=qz5 t (x0:=some (iL ns)) (x4:=some (.int c3)) (x6:=x6) (x8:=y8) (x9:=y9) (x10:=y10) k dl.up (by lia) dl.few (by lia) Sg (by lia) hw
  exact ⟨_,_,rfl,hb,some (.int (k:Nat)),z8,z9,z10,rfl⟩) ⟨none,none,none,none,rfl⟩
 unfold kp0
 refine Y5 [some (iL ns),none,none,none,none,none,none,none,none,none,none] ?_
 rw [q9 (st':=[some (iL ns),some (cs2 l),none,none,none,none,none,none,none,none,none]) (by simp [hl]),
  q9 (st':=[some (iL ns),some (cs2 l),some (bB l),none,none,none,none,none,none,none,none]) (by simp [hB]),
  q9 (st':=[some (iL ns),some (cs2 l),some (bB l),some (cs2 g),none,none,none,none,none,none,none]) (by simp [hat2,hg]),
  q9 (st':=[some (iL ns),some (cs2 l),some (bB l),some (cs2 g),some (.int c3),none,none,none,none,none,none]) (jc8 (fn2 (a:=iL ns) (b:=.int 3) rfl rfl hat3)),
  q9 (st':=[some (iL ns),some (cs2 l),some (bB l),some (cs2 g),some (.int c3),some (ls2 row0),none,none,none,none,none]) (jc8 (op2 (a:=.tup [ls2 row0,cs2 (W2 g row0)]) (b:=.int 0) (fn4 (a:=cs2 l) (b:=cs2 g) (c:=.int c3) (d:=.int 12) rfl rfl rfl rfl hgo) rfl rfl)),
  q9 hs6,
  q9 (st':=[some (iL ns),some (cs2 l),some (bB l),some (cs2 g),some (.int c3),some (ls2 row),x6,y7,y8,y9,y10]) (by rw [dFor_,rng]; exact h1)]
 exact ji8 (op2 (a:=cs2 l) (b:=cs2 l) (by simp) rfl (by rw [kk5]; simp))
end Pk
end T_M04
section T_K04z
open PySem PySem.W PyProof.Rows
set_option maxRecDepth 100000 in
set_option maxHeartbeats 0 in
theorem PySem.Challenge.cw_pegleap_k04_rows_walked_holds : PySem.Challenge.rw_pegleap_k04_rows_walked.Holds := by
  w_on; o_law; z_head; (case hw => w_witness2)
  k_fill
  refine Pk.walkX (l := PySem.Challenge.rw_pegleap_k04_rows_walked) rfl rfl (fun _ => by kernel_rfl) ?F
  case F =>
    intro w mg fa h KX G hmg
    refine Pk.fn_mk (h := h) hmg ?T (fun t ns hl => Pk.m_law t ns)
    refine' Pk.txt_mk KX G ?a_is_rising ?l_is_rising ?c_is_rising ?k_is_rising ?a_is_cell ?l_is_cell ?c_is_cell ?k_is_cell ?a_check_cells ?l_check_cells ?c_check_cells ?k_check_cells ?a_check_pegs ?l_check_pegs ?c_check_pegs ?k_check_pegs ?a_two_apart ?l_two_apart ?c_two_apart ?k_two_apart ?a_between ?l_between ?c_between ?k_between ?a_leaps ?l_leaps ?c_leaps ?k_leaps ?a_can_be_done ?l_can_be_done ?c_can_be_done ?k_can_be_done ?a_pegs_behind ?l_pegs_behind ?c_pegs_behind ?k_pegs_behind ?a_walked ?l_walked ?c_walked ?k_walked ?a_leapt ?l_leapt ?c_leapt ?k_leapt ?a__law_cell_at ?l__law_cell_at ?c__law_cell_at ?k__law_cell_at ?a__law_mix ?l__law_mix ?c__law_mix ?k__law_mix ?a__law_whole ?l__law_whole ?c__law_whole ?k__law_whole ?a__law_cells_by ?l__law_cells_by ?c__law_cells_by ?k__law_cells_by ?a__law_pegs_by ?l__law_pegs_by ?c__law_pegs_by ?k__law_pegs_by ?a__law_between ?l__law_between ?c__law_between ?k__law_between ?a__law_leaps ?l__law_leaps ?c__law_leaps ?k__law_leaps ?a__law_open ?l__law_open ?c__law_open ?k__law_open ?a__law_behind ?l__law_behind ?c__law_behind ?k__law_behind ?a__law_gone ?l__law_gone ?c__law_gone ?k__law_gone ?a__law_places ?l__law_places ?c__law_places ?k__law_places ?a__law_odd ?l__law_odd ?c__law_odd ?k__law_odd ?a__law_due ?l__law_due ?c__law_due ?k__law_due ?a__law_met ?l__law_met ?c__law_met ?k__law_met ?a_law ?l_law ?c_law ?k_law ?m_PegError ?m_BadBoard ?m_BadPegs ?m_NoLeap ?m_Board ?e_BadBoard ?e_BadPegs ?q1_NoLeap ?q5_NoLeap ?q6_NoLeap ?q2_NoLeap ?q3_NoLeap ?q4_NoLeap ?s_PegError_NoLeap ?cl_PegError ?ty_PegError ?s_NoLeap_NoLeap ?cl_NoLeap ?ty_NoLeap ?sp0 ?tk0 ?z_abs ?z_all ?z_bool ?z_enumerate ?z_int ?z_isinstance ?z_len ?z_list ?z_range ?z_set ?z_sorted ?z_tuple ?g_LAST ?g_MOST_CELLS ?aI_ ?iI_ ?lI_ ?cI_ ?kI_ ?pgB ?hdB ?poB ?saB ?mkB ?kcB ?naB ?aN0 ?aN_ ?lN_ ?cN_ ?kN_ ?kcN ?saN ?naN ?mrN ?spP ?rdP ?fdP
    (case a_is_rising => k_is)
    (case l_is_rising => k_is)
    (case c_is_rising => k_is)
    (case k_is_rising => k_is)
    (case a_is_cell => k_is)
    (case l_is_cell => k_is)
    (case c_is_cell => k_is)
    (case k_is_cell => k_is)
    (case a_check_cells => k_is)
    (case l_check_cells => k_is)
    (case c_check_cells => k_is)
    (case k_check_cells => k_is)
    (case a_check_pegs => k_is)
    (case l_check_pegs => k_is)
    (case c_check_pegs => k_is)
    (case k_check_pegs => k_is)
    (case a_two_apart => k_is)
    (case l_two_apart => k_is)
    (case c_two_apart => k_is)
    (case k_two_apart => k_is)
    (case a_between => k_is)
    (case l_between => k_is)
    (case c_between => k_is)
    (case k_between => k_is)
    (case a_leaps => k_is)
    (case l_leaps => k_is)
    (case c_leaps => k_is)
    (case k_leaps => k_is)
    (case a_can_be_done => k_is)
    (case l_can_be_done => k_is)
    (case c_can_be_done => k_is)
    (case k_can_be_done => k_is)
    (case a_pegs_behind => k_is)
    (case l_pegs_behind => k_is)
    (case c_pegs_behind => k_is)
    (case k_pegs_behind => k_is)
    (case a_walked => k_is)
    (case l_walked => k_is)
    (case c_walked => k_is)
    (case k_walked => k_is)
    (case a_leapt => k_is)
    (case l_leapt => k_is)
    (case c_leapt => k_is)
    (case k_leapt => k_is)
    (case a__law_cell_at => k_is)
    (case l__law_cell_at => k_is)
    (case c__law_cell_at => k_is)
    (case k__law_cell_at => k_is)
    (case a__law_mix => k_is)
    (case l__law_mix => k_is)
    (case c__law_mix => k_is)
    (case k__law_mix => k_is)
    (case a__law_whole => k_is)
    (case l__law_whole => k_is)
    (case c__law_whole => k_is)
    (case k__law_whole => k_is)
    (case a__law_cells_by => k_is)
    (case l__law_cells_by => k_is)
    (case c__law_cells_by => k_is)
    (case k__law_cells_by => k_is)
    (case a__law_pegs_by => k_is)
    (case l__law_pegs_by => k_is)
    (case c__law_pegs_by => k_is)
    (case k__law_pegs_by => k_is)
    (case a__law_between => k_is)
    (case l__law_between => k_is)
    (case c__law_between => k_is)
    (case k__law_between => k_is)
    (case a__law_leaps => k_is)
    (case l__law_leaps => k_is)
    (case c__law_leaps => k_is)
    (case k__law_leaps => k_is)
    (case a__law_open => k_is)
    (case l__law_open => k_is)
    (case c__law_open => k_is)
    (case k__law_open => k_is)
    (case a__law_behind => k_is)
    (case l__law_behind => k_is)
    (case c__law_behind => k_is)
    (case k__law_behind => k_is)
    (case a__law_gone => k_is)
    (case l__law_gone => k_is)
    (case c__law_gone => k_is)
    (case k__law_gone => k_is)
    (case a__law_places => k_is)
    (case l__law_places => k_is)
    (case c__law_places => k_is)
    (case k__law_places => k_is)
    (case a__law_odd => k_is)
    (case l__law_odd => k_is)
    (case c__law_odd => k_is)
    (case k__law_odd => k_is)
    (case a__law_due => k_is)
    (case l__law_due => k_is)
    (case c__law_due => k_is)
    (case k__law_due => k_is)
    (case a__law_met => k_is)
    (case l__law_met => k_is)
    (case c__law_met => k_is)
    (case k__law_met => k_is)
    (case a_law => k_is)
    (case l_law => k_is)
    (case c_law => k_is)
    (case k_law => k_is)
    (case m_PegError => k_is)
    (case m_BadBoard => k_is)
    (case m_BadPegs => k_is)
    (case m_NoLeap => k_is)
    (case m_Board => k_is)
    (case e_BadBoard => kernel_rfl)
    (case e_BadPegs => kernel_rfl)
    (case q1_NoLeap => k_is)
    (case q5_NoLeap => k_is)
    (case q6_NoLeap => k_is)
    (case q2_NoLeap => k_is)
    (case q3_NoLeap => k_is)
    (case q4_NoLeap => k_is)
    (case s_PegError_NoLeap => k_is)
    (case cl_PegError => k_is)
    (case ty_PegError => k_is)
    (case s_NoLeap_NoLeap => k_is)
    (case cl_NoLeap => k_is)
    (case ty_NoLeap => k_is)
    (case sp0 => k_is)
    (case tk0 => k_is)
    (case z_abs => k_is)
    (case z_all => k_is)
    (case z_bool => k_is)
    (case z_enumerate => k_is)
    (case z_int => k_is)
    (case z_isinstance => k_is)
    (case z_len => k_is)
    (case z_list => k_is)
    (case z_range => k_is)
    (case z_set => k_is)
    (case z_sorted => k_is)
    (case z_tuple => k_is)
    (case g_LAST => k_is)
    (case g_MOST_CELLS => k_is)
    (case aI_ => k_is)
    (case iI_ => k_is)
    (case lI_ => k_is)
    (case cI_ => k_is)
    (case kI_ => k_is)
    (case pgB => k_is)
    (case hdB => k_is)
    (case poB => k_is)
    (case saB => k_is)
    (case mkB => k_is)
    (case kcB => k_is)
    (case naB => k_is)
    (case aN0 => k_is)
    (case aN_ => kernel_rfl)
    (case lN_ => k_is)
    (case cN_ => k_is)
    (case kN_ => k_is)
    (case kcN => k_is)
    (case saN => k_is)
    (case naN => k_is)
    (case mrN => k_is)
    (case spP => k_is)
    (case rdP => k_is)
    (case fdP => k_is)
end T_K04z
