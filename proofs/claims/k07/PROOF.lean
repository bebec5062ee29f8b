import PyProof.Rows.All
import Wide.All
import OpenK.AllK
import Wide.FinOn
import PySem.Challenge.RW_pegleap_k07_whole_never_heavier
import PySem.SetOps
import Lean
import PyProof.EqAt
import PyProof.EqKinds
import PyProof.TupleCall
import PyProof.NeKinds
import KE.KIsAll
import PyProof.ExcAttrAll.ValueError
import OpenK.KDescr
import PyProof.ZipIter
import KE.KDictOf
import PyProof.AttrMissHeap
import PyProof.FactsAll.zip_1
import PyProof.DictRoadsH
import PyProof.EnumMake
import PyProof.ConsumeWalk
import PyProof.FactsAll.list_3
import PyProof.SumWalkG
import PyProof.WalkInts
import PyProof.SeqI3
set_option Elab.async false
set_option linter.all false
set_option maxRecDepth 100000
set_option maxHeartbeats 4000000
section T_XB
theorem x0_3 {p0 p1 p2:Prop} {G:Prop} (h:p0 /\ p1 /\ p2) (f:p0 -> p1 -> p2 -> G):G:=f h.1 h.2.1 h.2.2
theorem x1_2 {α0:Sort _} {p0 p1:α0 -> Prop} {G:Prop} (h:∃ a0,p0 a0 /\ p1 a0) (f:∀ a0,p0 a0 -> p1 a0 -> G):G:=h.elim fun a0 h=>f a0 h.1 h.2
theorem x2_1 {α0 α1:Sort _} {p0:α0 -> α1 -> Prop} {G:Prop} (h:∃ a0 a1,p0 a0 a1) (f:∀ a0 a1,p0 a0 a1 -> G):G:=h.elim fun a0 h=>h.elim fun a1 h=>f a0 a1 h
theorem x0_4 {p0 p1 p2 p3:Prop} {G:Prop} (h:p0 /\ p1 /\ p2 /\ p3) (f:p0 -> p1 -> p2 -> p3 -> G):G:=f h.1 h.2.1 h.2.2.1 h.2.2.2
theorem x1_3 {α0:Sort _} {p0 p1 p2:α0 -> Prop} {G:Prop} (h:∃ a0,p0 a0 /\ p1 a0 /\ p2 a0) (f:∀ a0,p0 a0 -> p1 a0 -> p2 a0 -> G):G:=h.elim fun a0 h=>f a0 h.1 h.2.1 h.2.2
theorem x2_2 {α0 α1:Sort _} {p0 p1:α0 -> α1 -> Prop} {G:Prop} (h:∃ a0 a1,p0 a0 a1 /\ p1 a0 a1) (f:∀ a0 a1,p0 a0 a1 -> p1 a0 a1 -> G):G:=h.elim fun a0 h=>h.elim fun a1 h=>f a0 a1 h.1 h.2
theorem x0_5 {p0 p1 p2 p3 p4:Prop} {G:Prop} (h:p0 /\ p1 /\ p2 /\ p3 /\ p4) (f:p0 -> p1 -> p2 -> p3 -> p4 -> G):G:=f h.1 h.2.1 h.2.2.1 h.2.2.2.1 h.2.2.2.2
theorem x1_4 {α0:Sort _} {p0 p1 p2 p3:α0 -> Prop} {G:Prop} (h:∃ a0,p0 a0 /\ p1 a0 /\ p2 a0 /\ p3 a0) (f:∀ a0,p0 a0 -> p1 a0 -> p2 a0 -> p3 a0 -> G):G:=h.elim fun a0 h=>f a0 h.1 h.2.1 h.2.2.1 h.2.2.2
theorem x2_3 {α0 α1:Sort _} {p0 p1 p2:α0 -> α1 -> Prop} {G:Prop} (h:∃ a0 a1,p0 a0 a1 /\ p1 a0 a1 /\ p2 a0 a1) (f:∀ a0 a1,p0 a0 a1 -> p1 a0 a1 -> p2 a0 a1 -> G):G:=h.elim fun a0 h=>h.elim fun a1 h=>f a0 a1 h.1 h.2.1 h.2.2
theorem x3_2 {α0 α1 α2:Sort _} {p0 p1:α0 -> α1 -> α2 -> Prop} {G:Prop} (h:∃ a0 a1 a2,p0 a0 a1 a2 /\ p1 a0 a1 a2) (f:∀ a0 a1 a2,p0 a0 a1 a2 -> p1 a0 a1 a2 -> G):G:=h.elim fun a0 h=>h.elim fun a1 h=>h.elim fun a2 h=>f a0 a1 a2 h.1 h.2
theorem x0_6 {p0 p1 p2 p3 p4 p5:Prop} {G:Prop} (h:p0 /\ p1 /\ p2 /\ p3 /\ p4 /\ p5) (f:p0 -> p1 -> p2 -> p3 -> p4 -> p5 -> G):G:=f h.1 h.2.1 h.2.2.1 h.2.2.2.1 h.2.2.2.2.1 h.2.2.2.2.2
theorem x1_5 {α0:Sort _} {p0 p1 p2 p3 p4:α0 -> Prop} {G:Prop} (h:∃ a0,p0 a0 /\ p1 a0 /\ p2 a0 /\ p3 a0 /\ p4 a0) (f:∀ a0,p0 a0 -> p1 a0 -> p2 a0 -> p3 a0 -> p4 a0 -> G):G:=h.elim fun a0 h=>f a0 h.1 h.2.1 h.2.2.1 h.2.2.2.1 h.2.2.2.2
theorem x2_4 {α0 α1:Sort _} {p0 p1 p2 p3:α0 -> α1 -> Prop} {G:Prop} (h:∃ a0 a1,p0 a0 a1 /\ p1 a0 a1 /\ p2 a0 a1 /\ p3 a0 a1) (f:∀ a0 a1,p0 a0 a1 -> p1 a0 a1 -> p2 a0 a1 -> p3 a0 a1 -> G):G:=h.elim fun a0 h=>h.elim fun a1 h=>f a0 a1 h.1 h.2.1 h.2.2.1 h.2.2.2
theorem x3_3 {α0 α1 α2:Sort _} {p0 p1 p2:α0 -> α1 -> α2 -> Prop} {G:Prop} (h:∃ a0 a1 a2,p0 a0 a1 a2 /\ p1 a0 a1 a2 /\ p2 a0 a1 a2) (f:∀ a0 a1 a2,p0 a0 a1 a2 -> p1 a0 a1 a2 -> p2 a0 a1 a2 -> G):G:=h.elim fun a0 h=>h.elim fun a1 h=>h.elim fun a2 h=>f a0 a1 a2 h.1 h.2.1 h.2.2
theorem x4_2 {α0 α1 α2 α3:Sort _} {p0 p1:α0 -> α1 -> α2 -> α3 -> Prop} {G:Prop} (h:∃ a0 a1 a2 a3,p0 a0 a1 a2 a3 /\ p1 a0 a1 a2 a3) (f:∀ a0 a1 a2 a3,p0 a0 a1 a2 a3 -> p1 a0 a1 a2 a3 -> G):G:=h.elim fun a0 h=>h.elim fun a1 h=>h.elim fun a2 h=>h.elim fun a3 h=>f a0 a1 a2 a3 h.1 h.2
theorem x5_1 {α0 α1 α2 α3 α4:Sort _} {p0:α0 -> α1 -> α2 -> α3 -> α4 -> Prop} {G:Prop} (h:∃ a0 a1 a2 a3 a4,p0 a0 a1 a2 a3 a4) (f:∀ a0 a1 a2 a3 a4,p0 a0 a1 a2 a3 a4 -> G):G:=h.elim fun a0 h=>h.elim fun a1 h=>h.elim fun a2 h=>h.elim fun a3 h=>h.elim fun a4 h=>f a0 a1 a2 a3 a4 h
theorem x0_7 {p0 p1 p2 p3 p4 p5 p6:Prop} {G:Prop} (h:p0 /\ p1 /\ p2 /\ p3 /\ p4 /\ p5 /\ p6) (f:p0 -> p1 -> p2 -> p3 -> p4 -> p5 -> p6 -> G):G:=f h.1 h.2.1 h.2.2.1 h.2.2.2.1 h.2.2.2.2.1 h.2.2.2.2.2.1 h.2.2.2.2.2.2
theorem x2_5 {α0 α1:Sort _} {p0 p1 p2 p3 p4:α0 -> α1 -> Prop} {G:Prop} (h:∃ a0 a1,p0 a0 a1 /\ p1 a0 a1 /\ p2 a0 a1 /\ p3 a0 a1 /\ p4 a0 a1) (f:∀ a0 a1,p0 a0 a1 -> p1 a0 a1 -> p2 a0 a1 -> p3 a0 a1 -> p4 a0 a1 -> G):G:=h.elim fun a0 h=>h.elim fun a1 h=>f a0 a1 h.1 h.2.1 h.2.2.1 h.2.2.2.1 h.2.2.2.2
theorem x3_4 {α0 α1 α2:Sort _} {p0 p1 p2 p3:α0 -> α1 -> α2 -> Prop} {G:Prop} (h:∃ a0 a1 a2,p0 a0 a1 a2 /\ p1 a0 a1 a2 /\ p2 a0 a1 a2 /\ p3 a0 a1 a2) (f:∀ a0 a1 a2,p0 a0 a1 a2 -> p1 a0 a1 a2 -> p2 a0 a1 a2 -> p3 a0 a1 a2 -> G):G:=h.elim fun a0 h=>h.elim fun a1 h=>h.elim fun a2 h=>f a0 a1 a2 h.1 h.2.1 h.2.2.1 h.2.2.2
theorem x4_3 {α0 α1 α2 α3:Sort _} {p0 p1 p2:α0 -> α1 -> α2 -> α3 -> Prop} {G:Prop} (h:∃ a0 a1 a2 a3,p0 a0 a1 a2 a3 /\ p1 a0 a1 a2 a3 /\ p2 a0 a1 a2 a3) (f:∀ a0 a1 a2 a3,p0 a0 a1 a2 a3 -> p1 a0 a1 a2 a3 -> p2 a0 a1 a2 a3 -> G):G:=h.elim fun a0 h=>h.elim fun a1 h=>h.elim fun a2 h=>h.elim fun a3 h=>f a0 a1 a2 a3 h.1 h.2.1 h.2.2
theorem x2_6 {α0 α1:Sort _} {p0 p1 p2 p3 p4 p5:α0 -> α1 -> Prop} {G:Prop} (h:∃ a0 a1,p0 a0 a1 /\ p1 a0 a1 /\ p2 a0 a1 /\ p3 a0 a1 /\ p4 a0 a1 /\ p5 a0 a1) (f:∀ a0 a1,p0 a0 a1 -> p1 a0 a1 -> p2 a0 a1 -> p3 a0 a1 -> p4 a0 a1 -> p5 a0 a1 -> G):G:=h.elim fun a0 h=>h.elim fun a1 h=>f a0 a1 h.1 h.2.1 h.2.2.1 h.2.2.2.1 h.2.2.2.2.1 h.2.2.2.2.2
theorem x3_5 {α0 α1 α2:Sort _} {p0 p1 p2 p3 p4:α0 -> α1 -> α2 -> Prop} {G:Prop} (h:∃ a0 a1 a2,p0 a0 a1 a2 /\ p1 a0 a1 a2 /\ p2 a0 a1 a2 /\ p3 a0 a1 a2 /\ p4 a0 a1 a2) (f:∀ a0 a1 a2,p0 a0 a1 a2 -> p1 a0 a1 a2 -> p2 a0 a1 a2 -> p3 a0 a1 a2 -> p4 a0 a1 a2 -> G):G:=h.elim fun a0 h=>h.elim fun a1 h=>h.elim fun a2 h=>f a0 a1 a2 h.1 h.2.1 h.2.2.1 h.2.2.2.1 h.2.2.2.2
theorem x4_4 {α0 α1 α2 α3:Sort _} {p0 p1 p2 p3:α0 -> α1 -> α2 -> α3 -> Prop} {G:Prop} (h:∃ a0 a1 a2 a3,p0 a0 a1 a2 a3 /\ p1 a0 a1 a2 a3 /\ p2 a0 a1 a2 a3 /\ p3 a0 a1 a2 a3) (f:∀ a0 a1 a2 a3,p0 a0 a1 a2 a3 -> p1 a0 a1 a2 a3 -> p2 a0 a1 a2 a3 -> p3 a0 a1 a2 a3 -> G):G:=h.elim fun a0 h=>h.elim fun a1 h=>h.elim fun a2 h=>h.elim fun a3 h=>f a0 a1 a2 a3 h.1 h.2.1 h.2.2.1 h.2.2.2
theorem x3_6 {α0 α1 α2:Sort _} {p0 p1 p2 p3 p4 p5:α0 -> α1 -> α2 -> Prop} {G:Prop} (h:∃ a0 a1 a2,p0 a0 a1 a2 /\ p1 a0 a1 a2 /\ p2 a0 a1 a2 /\ p3 a0 a1 a2 /\ p4 a0 a1 a2 /\ p5 a0 a1 a2) (f:∀ a0 a1 a2,p0 a0 a1 a2 -> p1 a0 a1 a2 -> p2 a0 a1 a2 -> p3 a0 a1 a2 -> p4 a0 a1 a2 -> p5 a0 a1 a2 -> G):G:=h.elim fun a0 h=>h.elim fun a1 h=>h.elim fun a2 h=>f a0 a1 a2 h.1 h.2.1 h.2.2.1 h.2.2.2.1 h.2.2.2.2.1 h.2.2.2.2.2
theorem x4_5 {α0 α1 α2 α3:Sort _} {p0 p1 p2 p3 p4:α0 -> α1 -> α2 -> α3 -> Prop} {G:Prop} (h:∃ a0 a1 a2 a3,p0 a0 a1 a2 a3 /\ p1 a0 a1 a2 a3 /\ p2 a0 a1 a2 a3 /\ p3 a0 a1 a2 a3 /\ p4 a0 a1 a2 a3) (f:∀ a0 a1 a2 a3,p0 a0 a1 a2 a3 -> p1 a0 a1 a2 a3 -> p2 a0 a1 a2 a3 -> p3 a0 a1 a2 a3 -> p4 a0 a1 a2 a3 -> G):G:=h.elim fun a0 h=>h.elim fun a1 h=>h.elim fun a2 h=>h.elim fun a3 h=>f a0 a1 a2 a3 h.1 h.2.1 h.2.2.1 h.2.2.2.1 h.2.2.2.2
theorem x5_4 {α0 α1 α2 α3 α4:Sort _} {p0 p1 p2 p3:α0 -> α1 -> α2 -> α3 -> α4 -> Prop} {G:Prop} (h:∃ a0 a1 a2 a3 a4,p0 a0 a1 a2 a3 a4 /\ p1 a0 a1 a2 a3 a4 /\ p2 a0 a1 a2 a3 a4 /\ p3 a0 a1 a2 a3 a4) (f:∀ a0 a1 a2 a3 a4,p0 a0 a1 a2 a3 a4 -> p1 a0 a1 a2 a3 a4 -> p2 a0 a1 a2 a3 a4 -> p3 a0 a1 a2 a3 a4 -> G):G:=h.elim fun a0 h=>h.elim fun a1 h=>h.elim fun a2 h=>h.elim fun a3 h=>h.elim fun a4 h=>f a0 a1 a2 a3 a4 h.1 h.2.1 h.2.2.1 h.2.2.2
theorem x4_6 {α0 α1 α2 α3:Sort _} {p0 p1 p2 p3 p4 p5:α0 -> α1 -> α2 -> α3 -> Prop} {G:Prop} (h:∃ a0 a1 a2 a3,p0 a0 a1 a2 a3 /\ p1 a0 a1 a2 a3 /\ p2 a0 a1 a2 a3 /\ p3 a0 a1 a2 a3 /\ p4 a0 a1 a2 a3 /\ p5 a0 a1 a2 a3) (f:∀ a0 a1 a2 a3,p0 a0 a1 a2 a3 -> p1 a0 a1 a2 a3 -> p2 a0 a1 a2 a3 -> p3 a0 a1 a2 a3 -> p4 a0 a1 a2 a3 -> p5 a0 a1 a2 a3 -> G):G:=h.elim fun a0 h=>h.elim fun a1 h=>h.elim fun a2 h=>h.elim fun a3 h=>f a0 a1 a2 a3 h.1 h.2.1 h.2.2.1 h.2.2.2.1 h.2.2.2.2.1 h.2.2.2.2.2
theorem x4_8 {α0 α1 α2 α3:Sort _} {p0 p1 p2 p3 p4 p5 p6 p7:α0 -> α1 -> α2 -> α3 -> Prop} {G:Prop} (h:∃ a0 a1 a2 a3,p0 a0 a1 a2 a3 /\ p1 a0 a1 a2 a3 /\ p2 a0 a1 a2 a3 /\ p3 a0 a1 a2 a3 /\ p4 a0 a1 a2 a3 /\ p5 a0 a1 a2 a3 /\ p6 a0 a1 a2 a3 /\ p7 a0 a1 a2 a3) (f:∀ a0 a1 a2 a3,p0 a0 a1 a2 a3 -> p1 a0 a1 a2 a3 -> p2 a0 a1 a2 a3 -> p3 a0 a1 a2 a3 -> p4 a0 a1 a2 a3 -> p5 a0 a1 a2 a3 -> p6 a0 a1 a2 a3 -> p7 a0 a1 a2 a3 -> G):G:=h.elim fun a0 h=>h.elim fun a1 h=>h.elim fun a2 h=>h.elim fun a3 h=>f a0 a1 a2 a3 h.1 h.2.1 h.2.2.1 h.2.2.2.1 h.2.2.2.2.1 h.2.2.2.2.2.1 h.2.2.2.2.2.2.1 h.2.2.2.2.2.2.2
theorem x9_3 {α0 α1 α2 α3 α4 α5 α6 α7 α8:Sort _} {p0 p1 p2:α0 -> α1 -> α2 -> α3 -> α4 -> α5 -> α6 -> α7 -> α8 -> Prop} {G:Prop} (h:∃ a0 a1 a2 a3 a4 a5 a6 a7 a8,p0 a0 a1 a2 a3 a4 a5 a6 a7 a8 /\ p1 a0 a1 a2 a3 a4 a5 a6 a7 a8 /\ p2 a0 a1 a2 a3 a4 a5 a6 a7 a8) (f:∀ a0 a1 a2 a3 a4 a5 a6 a7 a8,p0 a0 a1 a2 a3 a4 a5 a6 a7 a8 -> p1 a0 a1 a2 a3 a4 a5 a6 a7 a8 -> p2 a0 a1 a2 a3 a4 a5 a6 a7 a8 -> G):G:=h.elim fun a0 h=>h.elim fun a1 h=>h.elim fun a2 h=>h.elim fun a3 h=>h.elim fun a4 h=>h.elim fun a5 h=>h.elim fun a6 h=>h.elim fun a7 h=>h.elim fun a8 h=>f a0 a1 a2 a3 a4 a5 a6 a7 a8 h.1 h.2.1 h.2.2
theorem x6_8 {α0 α1 α2 α3 α4 α5:Sort _} {p0 p1 p2 p3 p4 p5 p6 p7:α0 -> α1 -> α2 -> α3 -> α4 -> α5 -> Prop} {G:Prop} (h:∃ a0 a1 a2 a3 a4 a5,p0 a0 a1 a2 a3 a4 a5 /\ p1 a0 a1 a2 a3 a4 a5 /\ p2 a0 a1 a2 a3 a4 a5 /\ p3 a0 a1 a2 a3 a4 a5 /\ p4 a0 a1 a2 a3 a4 a5 /\ p5 a0 a1 a2 a3 a4 a5 /\ p6 a0 a1 a2 a3 a4 a5 /\ p7 a0 a1 a2 a3 a4 a5) (f:∀ a0 a1 a2 a3 a4 a5,p0 a0 a1 a2 a3 a4 a5 -> p1 a0 a1 a2 a3 a4 a5 -> p2 a0 a1 a2 a3 a4 a5 -> p3 a0 a1 a2 a3 a4 a5 -> p4 a0 a1 a2 a3 a4 a5 -> p5 a0 a1 a2 a3 a4 a5 -> p6 a0 a1 a2 a3 a4 a5 -> p7 a0 a1 a2 a3 a4 a5 -> G):G:=h.elim fun a0 h=>h.elim fun a1 h=>h.elim fun a2 h=>h.elim fun a3 h=>h.elim fun a4 h=>h.elim fun a5 h=>f a0 a1 a2 a3 a4 a5 h.1 h.2.1 h.2.2.1 h.2.2.2.1 h.2.2.2.2.1 h.2.2.2.2.2.1 h.2.2.2.2.2.2.1 h.2.2.2.2.2.2.2
theorem x6_9 {α0 α1 α2 α3 α4 α5:Sort _} {p0 p1 p2 p3 p4 p5 p6 p7 p8:α0 -> α1 -> α2 -> α3 -> α4 -> α5 -> Prop} {G:Prop} (h:∃ a0 a1 a2 a3 a4 a5,p0 a0 a1 a2 a3 a4 a5 /\ p1 a0 a1 a2 a3 a4 a5 /\ p2 a0 a1 a2 a3 a4 a5 /\ p3 a0 a1 a2 a3 a4 a5 /\ p4 a0 a1 a2 a3 a4 a5 /\ p5 a0 a1 a2 a3 a4 a5 /\ p6 a0 a1 a2 a3 a4 a5 /\ p7 a0 a1 a2 a3 a4 a5 /\ p8 a0 a1 a2 a3 a4 a5) (f:∀ a0 a1 a2 a3 a4 a5,p0 a0 a1 a2 a3 a4 a5 -> p1 a0 a1 a2 a3 a4 a5 -> p2 a0 a1 a2 a3 a4 a5 -> p3 a0 a1 a2 a3 a4 a5 -> p4 a0 a1 a2 a3 a4 a5 -> p5 a0 a1 a2 a3 a4 a5 -> p6 a0 a1 a2 a3 a4 a5 -> p7 a0 a1 a2 a3 a4 a5 -> p8 a0 a1 a2 a3 a4 a5 -> G):G:=h.elim fun a0 h=>h.elim fun a1 h=>h.elim fun a2 h=>h.elim fun a3 h=>h.elim fun a4 h=>h.elim fun a5 h=>f a0 a1 a2 a3 a4 a5 h.1 h.2.1 h.2.2.1 h.2.2.2.1 h.2.2.2.2.1 h.2.2.2.2.2.1 h.2.2.2.2.2.2.1 h.2.2.2.2.2.2.2.1 h.2.2.2.2.2.2.2.2
end T_XB
section T_Tb
namespace Tb
open PySem PySem.SetTable
noncomputable def jk4 (mask:Nat) (p:Probe):Probe :=
 if p.more > 0 then { p with j:=p.j + 1,more:=p.more - 1 } else
  { p with j:=(leap mask p.i p.perturb).1,more:=runEnd mask (leap mask p.i p.perturb).1 - (leap mask p.i p.perturb).1,i:=(leap mask p.i p.perturb).1,perturb:=(leap mask p.i p.perturb).2 }
theorem jv9 (t:SetTable) (p:Probe):t.advance p = jk4 t.mask p:=by
 unfold SetTable.advance jk4; rfl
noncomputable def grp (mask i per:Nat):Probe:={ j:=i,more:=runEnd mask i - i,i:=i,perturb:=per,dummy:=none }
theorem ka3 (t:SetTable) (h:Int):t.probeStart h = grp t.mask (bits h % (t.mask + 1)) (bits h):=rfl
noncomputable def W (mask:Nat):Probe -> Nat -> Probe
 | p,0=>p
 | p,k + 1=>W mask (jk4 mask p) k
theorem js8 (mask:Nat):∀ (a b:Nat) (p:Probe),W mask p (a + b) = W mask (W mask p a) b
 | 0,b,p=>by rw [Nat.zero_add]; rfl
 | a + 1,b,p=>by
  rw [show a + 1 + b = (a + b) + 1 by lia]
  show W mask (jk4 mask p) (a + b) = _
  rw [js8 mask a b]; rfl
theorem va9 (mask:Nat) (p:Probe) (k:Nat):W mask p (k + 1) = jk4 mask (W mask p k):=by
 rw [js8 mask k 1 p]; rfl
theorem jw3 (mask:Nat) (p:Probe) (h:p.dummy = none):(jk4 mask p).dummy = none:=by
 unfold jk4; split <;> exact h
theorem kt6 (mask:Nat):∀ (k:Nat) (p:Probe),p.dummy = none -> (W mask p k).dummy = none
 | 0,_,h=>h
 | k + 1,p,h=>kt6 mask k _ (jw3 mask p h)
theorem qt7 (mask:Nat):∀ (k:Nat) (p:Probe),k <= p.more -> W mask p k = { p with j:=p.j + k,more:=p.more - k }
 | 0,p,_=>rfl
 | k + 1,p,h=>by
  show W mask (jk4 mask p) k = _
  have e:jk4 mask p = { p with j:=p.j + 1,more:=p.more - 1 }:=by unfold jk4; rw [if_pos (by lia)]
  rw [e,qt7 mask k _ (by show k <= p.more - 1; lia)]
  simp only [Probe.mk.injEq,and_true,true_and]
  lia
theorem kt2 (mask i per:Nat):W mask (grp mask i per) (runEnd mask i - i + 1) = grp mask (leap mask i per).1 (leap mask i per).2:=by
 rw [va9,qt7 mask (runEnd mask i - i) (grp mask i per) (Nat.le_refl _)]
 unfold jk4
 rw [if_neg (by show ¬ (runEnd mask i - i - (runEnd mask i - i) > 0); lia)]
 rfl
theorem qz3 (mask i:Nat):runEnd mask i - i <= 9:=by unfold runEnd; split <;> lia
noncomputable def G (mask:Nat):Nat -> Nat -> Nat -> Nat × Nat
 | 0,i,per=>(i,per)
 | n + 1,i,per=>G mask n (leap mask i per).1 (leap mask i per).2
theorem kl2 (mask:Nat):∀ (n i per:Nat),∃ k,k <= 10 * n /\ W mask (grp mask i per) k = grp mask (G mask n i per).1 (G mask n i per).2
 | 0,i,per=>⟨0,by lia,rfl⟩
 | n + 1,i,per=>by
  refine x1_2 (kl2 mask n (leap mask i per).1 (leap mask i per).2) fun k hk e=>?_
  refine ⟨runEnd mask i - i + 1 + k,by have:=qz3 mask i; lia,?_⟩
  rw [js8,kt2,e]; rfl
theorem qx6 (mask:Nat):∀ (n i per:Nat),(G mask n i per).2 = per / 32 ^ n
 | 0,i,per=>by simp [G]
 | n + 1,i,per=>by
  show (G mask n (leap mask i per).1 (leap mask i per).2).2 = _
  rw [qx6 mask n,show (leap mask i per).2 = per / 32 from rfl,Nat.div_div_eq_div_mul,Nat.pow_succ,Nat.mul_comm]
theorem qy5 (mask:Nat):∀ (a b i per:Nat),G mask (a + b) i per = G mask b (G mask a i per).1 (G mask a i per).2
 | 0,b,i,per=>by rw [Nat.zero_add]; rfl
 | a + 1,b,i,per=>by
  rw [show a + 1 + b = (a + b) + 1 by lia]
  show G mask (a + b) _ _ = _
  rw [qy5 mask a b]; rfl
theorem G_lt (mask:Nat):∀ (n i per:Nat),i < mask + 1 -> (G mask n i per).1 < mask + 1
 | 0,_,_,h=>h
 | n + 1,i,per,_=>G_lt mask n _ _ (Nat.mod_lt _ (Nat.succ_pos _))
noncomputable def seen (mask:Nat):Nat -> Nat -> Nat -> Nat
 | 0,_,acc=>acc
 | n + 1,i,acc=>seen mask n ((i * 5 + 1) % (mask + 1)) (acc ||| (1 <<< i))
theorem kl4 (mask e:Nat):∀ (n i acc:Nat),(seen mask n i acc).testBit e = true -> acc.testBit e = true \/ ∃ m,m < n /\ (G mask m i 0).1 = e
 | 0,i,acc,h=>.inl h
 | n + 1,i,acc,h=>by
  rcases kl4 mask e n _ _ h with h | ⟨m,hm,e'⟩
  ·rw [Nat.testBit_or,Bool.or_eq_true] at h
   rcases h with h | h
   ·exact .inl h
   ·refine .inr ⟨0,by lia,?_⟩
    rw [Nat.one_shiftLeft,Nat.testBit_two_pow] at h
    exact of_decide_eq_true h
  ·exact .inr ⟨m + 1,by lia,e'⟩
noncomputable def jm1 (mask:Nat):Bool:=(List.range (mask + 1)).all fun i=>seen mask (mask + 1) i 0 == 2 ^ (mask + 1) - 1
theorem ve5:jm1 7 = true:=by decide +kernel
theorem qw4:jm1 31 = true:=by decide +kernel
theorem qs7:jm1 127 = true:=by decide +kernel
noncomputable def Msk (mask:Nat):Prop:=mask = 7 \/ mask = 31 \/ mask = 127
theorem Msk.full {mask:Nat} (h:Msk mask):jm1 mask = true:=by
 rcases h with rfl | rfl | rfl
 ·exact ve5
 ·exact qw4
 ·exact qs7
theorem ve9 {mask:Nat} (hm:Msk mask) {i e:Nat} (hi:i < mask + 1) (he:e < mask + 1):∃ m,m < mask + 1 /\ (G mask m i 0).1 = e:=by
 have h:=hm.full
 unfold jm1 at h
 rw [List.all_eq_true] at h
 have q:=beq_iff_eq.mp (h i (List.mem_range.mpr hi))
 have b:(seen mask (mask + 1) i 0).testBit e = true:=by
  rw [q,Nat.testBit_two_pow_sub_one]; exact decide_eq_true he
 rcases kl4 mask e _ _ _ b with h0 | h0
 ·rw [Nat.zero_testBit] at h0; cases h0
 ·exact h0
theorem qr1 (h:Int):bits h < 2 ^ 64:=by
 unfold bits; lia
theorem kw7 {mask:Nat} (hm:Msk mask) (h:Int) {e:Nat} (he:e < mask + 1):∃ n,n <= mask + 13 /\ (G mask n (bits h % (mask + 1)) (bits h)).1 = e:=by
 have p0:(G mask 13 (bits h % (mask + 1)) (bits h)).2 = 0:=by
  rw [qx6]; exact Nat.div_eq_of_lt (Nat.lt_of_lt_of_le (qr1 h) (by decide))
 obtain ⟨m,hm',e'⟩:=ve9 hm (G_lt mask 13 _ (bits h) (Nat.mod_lt _ (Nat.succ_pos _))) he
 refine ⟨13 + m,by lia,?_⟩
 rw [qy5,p0]; exact e'
theorem vd5 {mask:Nat} (hm:Msk mask) (h:Int) {e:Nat} (he:e < mask + 1):∃ k,k <= 10 * (mask + 13) /\ (W mask (grp mask (bits h % (mask + 1)) (bits h)) k).j = e:=by
 refine x1_2 (kw7 hm h he) fun n hn e'=>?_
 refine x1_2 (kl2 mask n (bits h % (mask + 1)) (bits h)) fun k hk ek=>?_
 refine ⟨k,by lia,?_⟩
 rw [ek]; exact e'
noncomputable def Rises (xs:Array Nat):Prop:=∀ i j,i < j -> j < xs.size -> xs.getD i 0 < xs.getD j 0
theorem Rises.le {xs:Array Nat} (h:Rises xs) {i j:Nat} (hij:i <= j) (hj:j < xs.size):xs.getD i 0 <= xs.getD j 0:=by
 rcases Nat.lt_or_eq_of_le hij with h' | rfl
 ·exact Nat.le_of_lt (h i j h' hj)
 ·exact Nat.le_refl _
theorem qc3 (xs:Array Nat) {i a b:Nat} (h:i < xs.size):xs.getD i a = xs.getD i b:=by simp [Array.getD,h]
theorem jz8 {xs:Array Nat} (hr:Rises xs) (j:Nat):∀ (fuel lo hi:Nat),hi <= xs.size -> lo <= hi -> hi - lo <= fuel -> (∀ i,i < lo -> xs.getD i 0 < j) -> (∀ i,hi <= i -> i < xs.size -> j <= xs.getD i 0) ->
  lo <= below.go xs j fuel lo hi /\ below.go xs j fuel lo hi <= xs.size /\ (∀ i,i < below.go xs j fuel lo hi -> xs.getD i 0 < j) /\ ∀ i,below.go xs j fuel lo hi <= i -> i < xs.size -> j <= xs.getD i 0
 | 0,lo,hi,h1,h2,h3,a,b=>by
  have:hi = lo:=by lia
  subst this
  exact ⟨Nat.le_refl _,h1,a,b⟩
 | fuel + 1,lo,hi,h1,h2,h3,a,b=>by
  unfold below.go
  by_cases hlt:lo < hi
  ·rw [if_pos hlt]
   dsimp only
   have hm:(lo + hi) / 2 < xs.size:=by lia
   rw [qc3 xs (b:=0) hm]
   by_cases hc:xs.getD ((lo + hi) / 2) 0 < j
   ·rw [if_pos hc]
    have q:=jz8 hr j fuel ((lo + hi) / 2 + 1) hi h1 (by lia) (by lia) (fun i hi'=>Nat.lt_of_le_of_lt (hr.le (by lia) hm) hc) b
    exact ⟨by lia,q.2⟩
   ·rw [if_neg hc]
    have q:=jz8 hr j fuel lo ((lo + hi) / 2) (by lia) (by lia) (by lia) a (fun i hi' hs=>Nat.le_trans (Nat.le_of_not_lt hc) (hr.le hi' hs))
    exact ⟨by lia,q.2⟩
  ·rw [if_neg hlt]
   have:hi = lo:=by lia
   subst this
   exact ⟨Nat.le_refl _,h1,a,b⟩
theorem ji6 {xs:Array Nat} (hr:Rises xs) (j:Nat):below xs j <= xs.size /\ (∀ i,i < below xs j -> xs.getD i 0 < j) /\ ∀ i,below xs j <= i -> i < xs.size -> j <= xs.getD i 0 :=
 (jz8 hr j xs.size 0 xs.size (Nat.le_refl _) (Nat.zero_le _) (Nat.le_refl _) (fun i h=>absurd h (Nat.not_lt_zero _)) (fun i h h'=>absurd h' (Nat.not_lt.mpr h))).2
theorem qd9 {xs:Array Nat} (hr:Rises xs) {i:Nat} (hi:i < xs.size):below xs (xs.getD i 0) = i:=by
 refine x0_3 (ji6 hr (xs.getD i 0)) fun a b c=>?_
 rcases Nat.lt_trichotomy (below xs (xs.getD i 0)) i with h | h | h
 ·have:=c _ (Nat.le_refl _) (by lia)
  have:=hr _ _ h hi
  lia
 ·exact h
 ·have:=b i h
  lia
structure Good (t:SetTable) (n:Nat):Prop where
 size:t.place.size = n
 rise:Rises t.place
 le:∀ i,i < n -> t.place.getD i 0 <= t.mask
 dum:t.dummies = #[]
 msk:Msk t.mask
 few:n < t.mask
theorem kz2 (j:Nat):has #[] j = false:=by simp [has]
theorem ke6 {t:SetTable} {n i:Nat} (g:Good t n) (hi:i < n):t.slot (t.place.getD i 0) = .live i:=by
 have hs:i < t.place.size:=by rw [g.size]; exact hi
 unfold SetTable.slot
 dsimp only
 rw [qd9 g.rise hs,if_pos (by simp [Array.getD,hs])]
theorem jv6 {t:SetTable} {n:Nat} (g:Good t n) (j:Nat):(∃ i,i < n /\ t.place.getD i 0 = j /\ t.slot j = .live i) \/ ((∀ i,i < n -> t.place.getD i 0 ≠ j) /\ t.slot j = .empty):=by
 by_cases h:∃ i,i < n /\ t.place.getD i 0 = j
 ·refine x1_2 h fun i hi e=>?_
  clear h
  exact .inl ⟨i,hi,e,by rw [<- e]; exact ke6 g hi⟩
 ·refine .inr ⟨fun i hi e=>h ⟨i,hi,e⟩,?_⟩
  unfold SetTable.slot
  dsimp only
  rw [if_neg,g.dum,kz2]
  ·rfl
  ·intro q
   have q:=beq_iff_eq.mp q
   obtain ⟨hs,e⟩:=Array.getElem?_eq_some_iff.mp q
   exact h ⟨below t.place j,by rw [<- g.size]; exact hs,by simp [Array.getD,hs,e]⟩
theorem U7 {t:SetTable} {n:Nat} (g:Good t n) (j:Nat):t.slot j = .empty ↔ ∀ i,i < n -> t.place.getD i 0 ≠ j:=by
 rcases jv6 g j with ⟨i,hi,e,q⟩ | ⟨a,q⟩
 ·rw [q]; exact ⟨fun h=>(nomatch h),fun h=>absurd e (h i hi)⟩
 ·exact ⟨fun _=>a,fun _=>q⟩
theorem kx2 {xs:Array Nat} (h:Rises xs):∀ i,i < xs.size -> i <= xs.getD i 0
 | 0,_=>Nat.zero_le _
 | i + 1,hi=>by
  have a:=kx2 h i (by lia)
  have b:=h i (i + 1) (by lia) hi
  lia
theorem kq0 {t:SetTable} {n:Nat} (g:Good t n):∃ e,e < t.mask + 1 /\ t.slot e = .empty:=by
 by_cases h:∀ i,i < n -> t.place.getD i 0 = i
 ·refine ⟨n,by have:=g.few; lia,(U7 g n).mpr fun i hi e=>?_⟩
  rw [h i hi] at e; lia
 ·have:∃ i,i < n /\ t.place.getD i 0 ≠ i /\ ∀ k,k < i -> t.place.getD k 0 = k:=by
   have aux:∀ m,m <= n -> (∀ k,k < m -> t.place.getD k 0 = k) \/ ∃ i,i < n /\ t.place.getD i 0 ≠ i /\ ∀ k,k < i -> t.place.getD k 0 = k:=by
    intro m
    induction m with
    | zero=>intro _; exact .inl fun k hk=>absurd hk (Nat.not_lt_zero _)
    | succ m ih =>
     intro hm
     rcases ih (by lia) with a | a
     ·by_cases e:t.place.getD m 0 = m
      ·refine .inl fun k hk=>?_
       rcases Nat.lt_or_eq_of_le (Nat.le_of_lt_succ hk) with h' | rfl
       ·exact a k h'
       ·exact e
      ·exact .inr ⟨m,by lia,e,a⟩
     ·exact .inr a
   rcases aux n (Nat.le_refl _) with a | a
   ·exact absurd a h
   ·exact a
  refine x1_3 this fun i hi ne before=>?_
  clear this
  have hs:i < t.place.size:=by rw [g.size]; exact hi
  have ge:=kx2 g.rise i hs
  refine ⟨i,by have:=g.le i hi; lia,(U7 g i).mpr fun k hk e=>?_⟩
  rcases Nat.lt_trichotomy k i with h' | rfl | h'
  ·rw [before k h'] at e; lia
  ·exact ne e
  ·have:=g.rise i k h' (by rw [g.size]; exact hk)
   lia
theorem jn5 {α:Type} (xs:Array α) (p:Nat) (x:α):(SetTable.insertAt xs p x).toList = xs.toList.take p ++ x :: xs.toList.drop p:=by
 simp [SetTable.insertAt,List.extract_eq_take_drop,List.take_of_length_le]
theorem qh9 {α:Type} (xs:Array α) (p:Nat) (x:α) (hp:p <= xs.size):(SetTable.insertAt xs p x).size = xs.size + 1:=by
 rw [<- Array.length_toList,jn5,List.length_append,List.length_cons,List.length_take,List.length_drop,Array.length_toList]; lia
theorem js1 {α:Type} (xs:Array α) (p:Nat) (x:α) (hp:p <= xs.size) (i:Nat):(SetTable.insertAt xs p x)[i]? = if i < p then xs[i]? else if i = p then some x else xs[i - 1]?:=by
 rw [<- Array.getElem?_toList,jn5]
 by_cases h1:i < p
 ·rw [if_pos h1,List.getElem?_append_left (by rw [List.length_take,Array.length_toList]; lia),List.getElem?_take_of_lt h1,Array.getElem?_toList]
 ·rw [if_neg h1,List.getElem?_append_right (by rw [List.length_take,Array.length_toList]; lia),List.length_take,Array.length_toList,Nat.min_eq_left hp]
  by_cases h2:i = p
  ·subst h2; simp
  ·rw [if_neg h2]
   obtain ⟨m,hm⟩ : ∃ m,i - p = m + 1:=⟨i - p - 1,by lia⟩
   rw [hm,List.getElem?_cons_succ,List.getElem?_drop,Array.getElem?_toList]
   congr 1; lia
theorem km7 (xs:Array Nat) (p x:Nat) (hp:p <= xs.size) (i:Nat):(SetTable.insertAt xs p x).getD i 0 = if i < p then xs.getD i 0 else if i = p then x else xs.getD (i - 1) 0:=by
 have e:∀ ys:Array Nat,∀ k,ys.getD k 0 = (ys[k]?).getD 0:=fun ys k=>by simp [Array.getD_eq_getD_getElem?]
 rw [e,js1 xs p x hp i]
 split
 ·rw [e]
 ·split
  ·rfl
  ·rw [e]
theorem ku2 {t:SetTable} {n j:Nat} (g:Good t n):t.put j = ({ t with place:=SetTable.insertAt t.place (below t.place j) j },below t.place j):=by
 unfold SetTable.put
 dsimp only
 rw [g.dum,kz2]
 simp only [Bool.false_eq_true,if_false]
theorem kk0 {t:SetTable} {n j:Nat} (g:Good t n) (hj:j <= t.mask) (he:t.slot j = .empty) (hf:n + 1 < t.mask):Good (t.put j).1 (n + 1) /\ (t.put j).2 = below t.place j /\ below t.place j <= n /\ (t.put j).1.mask = t.mask /\
  (∀ k,(t.put j).1.slot k = .empty ↔ (t.slot k = .empty /\ k ≠ j)) /\ (t.put j).1.place = SetTable.insertAt t.place (below t.place j) j:=by
 refine x0_3 (ji6 g.rise j) fun b1 b2 b3=>?_
 rw [g.size] at b1 b3
 have hb1:below t.place j <= t.place.size:=by rw [g.size]; exact b1
 have hne:=(U7 g j).mp he
 have gt:∀ i,below t.place j <= i -> i < n -> j < t.place.getD i 0:=fun i h1 h2=>by
  have:=b3 i h1 h2
  have:=hne i h2
  lia
 rw [ku2 g]
 have gd:=km7 t.place (below t.place j) j hb1
 have sz:(SetTable.insertAt t.place (below t.place j) j).size = n + 1:=by rw [qh9 _ _ _ hb1,g.size]
 have gg:Good { t with place:=SetTable.insertAt t.place (below t.place j) j } (n + 1):=by
  refine ⟨sz,fun i k hik hk=>?_,fun i hi=>?_,g.dum,g.msk,hf⟩
  ·have hk:k < n + 1:=by rw [<- sz]; exact hk
   show (SetTable.insertAt t.place (below t.place j) j).getD i 0 < (SetTable.insertAt t.place (below t.place j) j).getD k 0
   rw [gd i,gd k]
   by_cases h1:k < below t.place j
   ·rw [if_pos h1,if_pos (by lia)]
    exact g.rise i k hik (by rw [g.size]; lia)
   ·rw [if_neg h1]
    by_cases h2:k = below t.place j
    ·rw [if_pos h2,if_pos (by lia)]
     exact b2 i (by lia)
    ·rw [if_neg h2]
     by_cases h3:i < below t.place j
     ·rw [if_pos h3]
      exact g.rise i (k - 1) (by lia) (by rw [g.size]; lia)
     ·rw [if_neg h3]
      by_cases h4:i = below t.place j
      ·rw [if_pos h4]
       exact gt (k - 1) (by lia) (by lia)
      ·rw [if_neg h4]
       exact g.rise (i - 1) (k - 1) (by lia) (by rw [g.size]; lia)
  ·show (SetTable.insertAt t.place (below t.place j) j).getD i 0 <= t.mask
   rw [gd i]
   by_cases h1:i < below t.place j
   ·rw [if_pos h1]; exact g.le i (by lia)
   ·rw [if_neg h1]
    by_cases h2:i = below t.place j
    ·rw [if_pos h2]; exact hj
    ·rw [if_neg h2]; exact g.le (i - 1) (by lia)
 refine ⟨gg,rfl,b1,rfl,fun k=>?_,rfl⟩
 rw [U7 gg,U7 g]
 show (∀ i,i < n + 1 -> (SetTable.insertAt t.place (below t.place j) j).getD i 0 ≠ k) ↔ _
 constructor
 ·intro h
  refine ⟨fun i hi e=>?_,fun e=>?_⟩
  ·by_cases h1:i < below t.place j
   ·exact h i (by lia) (by rw [gd i,if_pos h1]; exact e)
   ·exact h (i + 1) (by lia) (by rw [gd (i + 1),if_neg (by lia),if_neg (by lia)]; exact e)
  ·exact h (below t.place j) (by lia) (by rw [gd,if_neg (by lia),if_pos rfl]; exact e.symm)
 ·rintro ⟨h,hne'⟩ i hi e
  rw [gd i] at e
  by_cases h1:i < below t.place j
  ·rw [if_pos h1] at e; exact h i (by lia) e
  ·rw [if_neg h1] at e
   by_cases h2:i = below t.place j
   ·rw [if_pos h2] at e; exact hne' e.symm
   ·rw [if_neg h2] at e; exact h (i - 1) (by lia) e
end Tb
end T_Tb
section T_Tb2
namespace Tb
open PySem PySem.SetTable
noncomputable def jv0 (t:SetTable) (h:Int) (j:Nat):Prop:=∃ k,(W t.mask (t.probeStart h) k).j = j /\ ∀ m,m < k -> t.slot (W t.mask (t.probeStart h) m).j ≠ .empty
noncomputable def kb2 (t:SetTable) (hs:Nat -> Int) (n:Nat):Prop:=∀ i,i < n -> jv0 t (hs i) (t.place.getD i 0)
theorem vd9 {p:Nat -> Prop} [DecidablePred p] {k:Nat} (h:p k):∃ d,d <= k /\ p d /\ ∀ m,m < d -> ¬ p m:=by
 induction k using Nat.strongRecOn with
 | _ k ih =>
  by_cases q:∃ m,m < k /\ p m
  ·refine x1_2 q fun m hm pm=>?_
   clear q
   refine x1_3 (ih m hm pm) fun d hd a b=>?_
   exact ⟨d,by lia,a,b⟩
  ·exact ⟨k,Nat.le_refl _,h,fun m hm pm=>q ⟨m,hm,pm⟩⟩
theorem dist {t:SetTable} {n:Nat} (g:Good t n) (h:Int):∃ d,d <= 10 * (t.mask + 13) /\ t.slot (W t.mask (t.probeStart h) d).j = .empty /\ ∀ m,m < d -> t.slot (W t.mask (t.probeStart h) m).j ≠ .empty:=by
 refine x1_2 (kq0 g) fun e he se=>?_
 refine x1_2 (vd5 g.msk h he) fun k hk ek=>?_
 obtain ⟨d,hd,a,b⟩:=vd9 (p:=fun m=>t.slot (W t.mask (t.probeStart h) m).j = .empty) (k:=k) (by rw [ka3,ek]; exact se)
 exact ⟨d,by lia,a,b⟩
theorem kx7 {t:SetTable} {n:Nat} (g:Good t n) (hashAt:Nat -> Int) (h:Int):∀ (d:Nat) (p:Probe) (fuel:Nat),p.dummy = none -> d < fuel -> t.slot (W t.mask p d).j = .empty -> (∀ m,m < d -> t.slot (W t.mask p m).j ≠ .empty) ->
  (∃ m i,m < d /\ i < n /\ t.slot (W t.mask p m).j = .live i /\ hashAt i = h /\ (∀ m',m' < m -> ∀ i',t.slot (W t.mask p m').j = .live i' -> hashAt i' ≠ h) /\ probe.go t hashAt h fuel p = some (.candidate (W t.mask p m).j i (W t.mask p (m + 1)))) \/
  ((∀ m,m < d -> ∀ i,t.slot (W t.mask p m).j = .live i -> hashAt i ≠ h) /\ probe.go t hashAt h fuel p = some (.empty (W t.mask p d).j none))
 | 0,p,fuel + 1,hd,_,he,_=>by
  refine .inr ⟨fun m hm=>absurd hm (Nat.not_lt_zero _),?_⟩
  unfold probe.go
  have he':t.slot p.j = .empty:=he
  rw [he',hd]; rfl
 | d + 1,p,fuel + 1,hd,hf,he,hb=>by
  have h0:t.slot p.j ≠ .empty:=hb 0 (by lia)
  rcases jv6 g p.j with ⟨i,hi,_,q⟩ | ⟨_,q⟩
  ·by_cases hh:hashAt i = h
   ·refine .inl ⟨0,i,by lia,hi,q,hh,fun m hm=>absurd hm (Nat.not_lt_zero _),?_⟩
    unfold probe.go
    rw [q]
    dsimp only
    rw [if_pos (beq_iff_eq.mpr hh),jv9]; rfl
   ·have e:probe.go t hashAt h (fuel + 1) p = probe.go t hashAt h fuel (jk4 t.mask p):=by
     conv=>lhs; unfold probe.go
     rw [q]
     dsimp only
     rw [if_neg (fun z=>hh (beq_iff_eq.mp z)),jv9]
    rw [e]
    rcases kx7 g hashAt h d (jk4 t.mask p) fuel (jw3 _ _ hd) (by lia) he (fun m hm=>hb (m + 1) (by lia)) with ⟨m,i',a1,a2,a3,a4,a5,a6⟩ | ⟨a1,a2⟩
    ·refine .inl ⟨m + 1,i',by lia,a2,a3,a4,fun m' hm' i'' q'=>?_,a6⟩
     cases m' with
     | zero =>
      have q2:t.slot p.j = .live i'':=q'
      rw [q] at q2; cases q2; exact hh
     | succ m'=>exact a5 m' (by lia) i'' q'
    ·refine .inr ⟨fun m hm i'' q'=>?_,a2⟩
     cases m with
     | zero =>
      have q2:t.slot p.j = .live i'':=q'
      rw [q] at q2; cases q2; exact hh
     | succ m=>exact a1 m (by lia) i'' q'
  ·exact absurd q h0
theorem qa6 {t:SetTable} {n j:Nat} (g:Good t n) (hj:j <= t.mask) (he:t.slot j = .empty) (hf:n + 1 < t.mask) {hs hs':Nat -> Int} (P:kb2 t hs n) {h:Int}
  (hh:∀ i,i < n + 1 -> hs' i = if i < below t.place j then hs i else if i = below t.place j then h else hs (i - 1)) (hp:jv0 t h j):kb2 (t.put j).1 hs' (n + 1):=by
 refine x0_6 (kk0 g hj he hf) fun gg _ hb hm hsl hpl=>?_
 have keep:∀ {h':Int} {k:Nat},jv0 t h' k -> jv0 (t.put j).1 h' k:=by
  rintro h' k ⟨s,e,b⟩
  have es:(t.put j).1.probeStart h' = t.probeStart h':=by rw [ka3,ka3,hm]
  refine ⟨s,by rw [hm,es]; exact e,fun m hm' z=>?_⟩
  rw [hm,es] at z
  exact b m hm' ((hsl _).mp z).1
 intro i hi
 rw [hpl,km7 _ _ _ (by rw [g.size]; exact hb),hh i hi]
 by_cases h1:i < below t.place j
 ·rw [if_pos h1,if_pos h1]; exact keep (P i (by lia))
 ·rw [if_neg h1,if_neg h1]
  by_cases h2:i = below t.place j
  ·rw [if_pos h2,if_pos h2]; exact keep hp
  ·rw [if_neg h2,if_neg h2]; exact keep (P (i - 1) (by lia))
noncomputable def occ (owner:Array (Option Nat)) (j:Nat):Bool:=(owner.getD j (some 0)).isSome
noncomputable def st (mask:Nat) (h:Int):Probe:=grp mask (bits h % (mask + 1)) (bits h)
theorem kc7 {mask:Nat} (owner:Array (Option Nat)) (hz:owner.size = mask + 1):∀ (fuel i per n:Nat),i < mask + 1 -> n < fuel -> occ owner (G mask n i per).1 = false ->
  ∃ k j,layClean.free mask owner fuel i per = some j /\ (W mask (grp mask i per) k).j = j /\ j < mask + 1 /\ occ owner j = false /\ ∀ m,m < k -> occ owner (W mask (grp mask i per) m).j = true
 | fuel + 1,i,per,n,hi,hn,he=>by
  have hrun:runEnd mask i <= mask:=by unfold runEnd; split <;> lia
  have hge:i <= runEnd mask i:=by unfold runEnd; split <;> lia
  have hW:∀ m,m <= runEnd mask i - i -> (W mask (grp mask i per) m).j = i + m:=fun m hm=>by rw [qt7 mask m (grp mask i per) hm]; rfl
  unfold layClean.free
  cases hf:(List.range (runEnd mask i + 1 - i)).find? (fun k=>(owner.getD (i + k) (some 0)).isNone) with
  | some k =>
   dsimp only
   rw [List.find?_range_eq_some] at hf
   refine x0_3 hf fun a b c=>?_
   clear hf
   have hk:k < runEnd mask i + 1 - i:=List.mem_range.mp b
   refine ⟨k,i + k,rfl,hW k (by lia),by lia,?_,fun m hm=>?_⟩
   ·unfold occ
    cases q:owner.getD (i + k) (some 0) with
    | none=>rfl
    | some z=>rw [q] at a; cases a
   ·rw [hW m (by lia)]
    have q:=c m hm
    unfold occ
    cases q2:owner.getD (i + m) (some 0) with
    | none=>rw [q2] at q; cases q
    | some z=>rfl
  | none =>
   dsimp only
   rw [List.find?_range_eq_none] at hf
   have hall:∀ m,m < runEnd mask i + 1 - i -> occ owner (i + m) = true:=fun m hm=>by
    have q:=hf m hm
    unfold occ
    cases q2:owner.getD (i + m) (some 0) with
    | none=>rw [q2] at q; cases q
    | some z=>rfl
   cases n with
   | zero =>
    have:occ owner i = true:=by have:=hall 0 (by lia); rwa [Nat.add_zero] at this
    have he':occ owner i = false:=he
    rw [this] at he'; cases he'
   | succ n =>
    refine x2_5 (kc7 owner hz fuel (leap mask i per).1 (leap mask i per).2 n (Nat.mod_lt _ (Nat.succ_pos _)) (by lia) he) fun k j e1 e2 e3 e4 e5=>?_
    refine ⟨runEnd mask i - i + 1 + k,j,e1,by rw [js8,kt2]; exact e2,e3,e4,fun m hm=>?_⟩
    by_cases hm1:m < runEnd mask i - i + 1
    ·rw [hW m (by lia)]; exact hall m (by lia)
    ·obtain ⟨r,rfl⟩ : ∃ r,m = runEnd mask i - i + 1 + r:=⟨m - (runEnd mask i - i + 1),by lia⟩
     rw [js8,kt2]
     exact e5 r (by lia)
end Tb
end T_Tb2
section T_Tb3
namespace Tb
open PySem PySem.SetTable
theorem W_in {mask:Nat}:∀ (k:Nat) (p:Probe),p.j + p.more <= mask -> (W mask p k).j <= mask
 | 0,p,h=>by show p.j <= mask; lia
 | k + 1,p,h=>by
  refine W_in k (jk4 mask p) ?_
  unfold jk4
  split
  ·show p.j + 1 + (p.more - 1) <= mask; lia
  ·show (leap mask p.i p.perturb).1 + (runEnd mask (leap mask p.i p.perturb).1 - (leap mask p.i p.perturb).1) <= mask
   have:(leap mask p.i p.perturb).1 < mask + 1:=Nat.mod_lt _ (Nat.succ_pos _)
   unfold runEnd; split <;> lia
theorem vc2 (mask:Nat) (h:Int) (k:Nat):(W mask (st mask h) k).j <= mask:=by
 refine W_in k _ ?_
 show bits h % (mask + 1) + (runEnd mask (bits h % (mask + 1)) - bits h % (mask + 1)) <= mask
 have:bits h % (mask + 1) < mask + 1:=Nat.mod_lt _ (Nat.succ_pos _)
 unfold runEnd; split <;> lia
structure Own (mask:Nat) (hs:Nat -> Int) (owner:Array (Option Nat)) (q:Nat):Prop where
 size:owner.size = mask + 1
 lt:∀ (j a:Nat),owner[j]? = some (some a) -> a < q
 at':∀ (a:Nat),a < q -> ∃ j,owner[j]? = some (some a) /\ ∃ k,(W mask (st mask (hs a)) k).j = j /\ ∀ m,m < k -> occ owner (W mask (st mask (hs a)) m).j = true
 uniq:∀ (a j j':Nat),owner[j]? = some (some a) -> owner[j']? = some (some a) -> j = j'
 cnt:owner.toList.countP Option.isNone = mask + 1 - q
theorem kv1 (mask:Nat) (hs:Nat -> Int):Own mask hs (Array.replicate (mask + 1) none) 0:=by
 have no:∀ (j a:Nat),(Array.replicate (mask + 1) (none:Option Nat))[j]? ≠ some (some a):=fun j a h=>by
  rw [Array.getElem?_replicate] at h
  split at h <;> cases h
 refine ⟨by simp,fun j a h=>absurd h (no j a),fun a h=>absurd h (Nat.not_lt_zero _),fun a j _ h=>absurd h (no j a),?_⟩
 rw [Array.toList_replicate,List.countP_replicate]; rfl
theorem qc9 {owner:Array (Option Nat)} {j:Nat} (h:occ owner j = false):owner[j]? = some none:=by
 unfold occ at h
 rw [Array.getD_eq_getD_getElem?] at h
 cases q:owner[j]? with
 | none=>rw [q] at h; cases h
 | some z=>cases z with
  | none=>rfl
  | some _=>rw [q] at h; cases h
theorem kf6 {owner:Array (Option Nat)} {j:Nat} (h:owner[j]? = some none):occ owner j = false:=by
 unfold occ
 rw [Array.getD_eq_getD_getElem?,h]; rfl
theorem qq9 {owner:Array (Option Nat)} {j q:Nat} (hj:j < owner.size) (i:Nat):(owner.setIfInBounds j (some q))[i]? = if i = j then some (some q) else owner[i]?:=by
 rw [Array.getElem?_setIfInBounds]
 by_cases e:i = j
 ·subst e; simp [hj]
 ·rw [if_neg (fun z=>e z.symm),if_neg e]
theorem qi6 {mask:Nat} (hm:Msk mask) {hs:Nat -> Int} {owner:Array (Option Nat)} {q:Nat} (o:Own mask hs owner q) (hq:q < mask + 1) :
  ∃ j,layClean.free mask owner (turns mask) (bits (hs q) % (mask + 1)) (bits (hs q)) = some j /\ Own mask hs (owner.setIfInBounds j (some q)) (q + 1):=by
 have hc:0 < owner.toList.countP Option.isNone:=by rw [o.cnt]; lia
 refine x1_2 (List.countP_pos_iff.mp hc) fun x hx hn=>?_
 obtain ⟨e,he,ex⟩:=List.mem_iff_getElem.mp hx
 have hes:e < owner.size:=by rw [<- Array.length_toList]; exact he
 have e0:owner[e]? = some none:=by
  rw [<- Array.getElem?_toList,List.getElem?_eq_getElem he,ex]
  cases x with
  | none=>rfl
  | some _=>cases hn
 obtain ⟨n,hn',en⟩:=kw7 hm (hs q) (e:=e) (by rw [<- o.size]; exact hes)
 obtain ⟨k,j,f1,f2,f3,f4,f5⟩:=kc7 owner o.size (turns mask) (bits (hs q) % (mask + 1)) (bits (hs q)) n (Nat.mod_lt _ (Nat.succ_pos _)) (by unfold turns; lia) (by rw [en]; exact kf6 e0)
 refine ⟨j,f1,?_⟩
 have hj:j < owner.size:=by rw [o.size]; exact f3
 have g:=qq9 (q:=q) hj
 have jn:owner[j]? = some none:=qc9 f4
 have up:∀ i,occ owner i = true -> occ (owner.setIfInBounds j (some q)) i = true:=fun i h=>by
  unfold occ at h ⊢
  rw [Array.getD_eq_getD_getElem?] at h ⊢
  rw [g i]
  by_cases z:i = j
  ·rw [if_pos z]; rfl
  ·rw [if_neg z]; exact h
 refine ⟨by rw [Array.size_setIfInBounds]; exact o.size,fun i a h=>?_,fun a ha=>?_,fun a i i' h h'=>?_,?_⟩
 ·rw [g i] at h
  by_cases z:i = j
  ·rw [if_pos z] at h; cases h; lia
  ·rw [if_neg z] at h; have:=o.lt i a h; lia
 ·by_cases z:a = q
  ·subst z
   exact ⟨j,by rw [g,if_pos rfl],k,f2,fun m hm'=>up _ (f5 m hm')⟩
  ·obtain ⟨i,b1,k',b2,b3⟩:=o.at' a (by lia)
   refine ⟨i,?_,k',b2,fun m hm'=>up _ (b3 m hm')⟩
   rw [g,if_neg,b1]
   rintro rfl
   rw [jn] at b1; cases b1
 ·rw [g i] at h; rw [g i'] at h'
  by_cases z:i = j
  ·by_cases z':i' = j
   ·rw [z,z']
   ·rw [if_pos z] at h; rw [if_neg z'] at h'; cases h
    exact absurd (o.lt _ _ h') (Nat.lt_irrefl _)
  ·by_cases z':i' = j
   ·rw [if_neg z] at h; rw [if_pos z'] at h'; cases h'
    exact absurd (o.lt _ _ h) (Nat.lt_irrefl _)
   ·rw [if_neg z] at h; rw [if_neg z'] at h'; exact o.uniq a i i' h h'
 ·rw [Array.toList_setIfInBounds]
  have hj':j < owner.toList.length:=by rw [Array.length_toList]; exact hj
  rw [List.countP_set hj',o.cnt]
  have ej:owner.toList[j] = none:=by
   have q1:owner.toList[j]? = some none:=by rw [Array.getElem?_toList]; exact jn
   rw [List.getElem?_eq_getElem hj'] at q1
   exact Option.some.inj q1
  rw [ej]
  simp
  lia
theorem kj4 {mask:Nat} (hm:Msk mask) {hs:Nat -> Int}:∀ (l:List Int) (owner:Array (Option Nat)) (q:Nat),Own mask hs owner q -> q + l.length <= mask -> (∀ i,i < l.length -> l[i]? = some (hs (q + i))) ->
  ∃ owner',l.foldl (init:=some (owner,q)) (fun acc h=>do
   let (owner,k) <- acc
   let j <- layClean.free mask owner (turns mask) (bits h % (mask + 1)) (bits h)
   pure (owner.setIfInBounds j (some k),k + 1)) = some (owner',q + l.length) /\ Own mask hs owner' (q + l.length)
 | [],owner,q,o,_,_=>⟨owner,rfl,o⟩
 | h :: r,owner,q,o,hl,hh=>by
  have e0:h = hs q:=by have:=hh 0 (by simp); simpa using this
  obtain ⟨j,f1,o1⟩:=qi6 hm o (by simp only [List.length_cons] at hl; lia)
  obtain ⟨owner',e,o2⟩:=kj4 hm r (owner.setIfInBounds j (some q)) (q + 1) o1 (by simp only [List.length_cons] at hl; lia) (fun i hi=>by
   have:=hh (i + 1) (by simp; lia)
   simp only [List.getElem?_cons_succ] at this
   rw [this,show q + (i + 1) = q + 1 + i by lia])
  refine ⟨owner',?_,by rw [List.length_cons,show q + (r.length + 1) = q + 1 + r.length by lia]; exact o2⟩
  rw [List.foldl_cons]
  have e1:(do
   let (owner,k) <- (some (owner,q):Option (Array (Option Nat) × Nat))
   let j <- layClean.free mask owner (turns mask) (bits h % (mask + 1)) (bits h)
   pure (owner.setIfInBounds j (some k),k + 1)) = some (owner.setIfInBounds j (some q),q + 1):=by
   show (do
    let j <- layClean.free mask owner (turns mask) (bits h % (mask + 1)) (bits h)
    pure (owner.setIfInBounds j (some q),q + 1)) = _
   rw [e0,f1]; rfl
  rw [e1,e,List.length_cons,show q + (r.length + 1) = q + 1 + r.length by lia]
theorem ko9 {mask:Nat} (hm:Msk mask) (hashes:Array Int) (hn:hashes.size <= mask):∃ owner,layClean mask hashes = some owner /\ Own mask (fun i=>hashes.getD i 0) owner hashes.size:=by
 obtain ⟨owner,e,o⟩:=kj4 hm (hs:=fun i=>hashes.getD i 0) hashes.toList (Array.replicate (mask + 1) none) 0 (kv1 mask _) (by rw [Array.length_toList]; lia) (fun i hi=>by
  rw [Array.length_toList] at hi
  rw [Array.getElem?_toList,Nat.zero_add]
  simp [Array.getD,hi])
 rw [Array.length_toList,Nat.zero_add] at e o
 refine ⟨owner,?_,o⟩
 unfold layClean
 rw [<- Array.foldl_toList,e]; rfl
noncomputable def live (mask:Nat) (owner:Array (Option Nat)):List (Nat × Nat):=(List.range (mask + 1)).filterMap fun j=>(owner.getD j none).map (j,·)
theorem jy9 {mask:Nat} {owner:Array (Option Nat)} (hz:owner.size = mask + 1) {j a:Nat}:(j,a) ∈ live mask owner ↔ owner[j]? = some (some a):=by
 unfold live
 rw [List.mem_filterMap]
 constructor
 ·rintro ⟨x,hx,e⟩
  cases q:owner.getD x none with
  | none=>rw [q] at e; cases e
  | some b =>
   rw [q] at e
   cases e
   rw [Array.getD_eq_getD_getElem?] at q
   cases q2:owner[j]? with
   | none=>rw [q2] at q; cases q
   | some z=>rw [q2] at q; have q:z = some a:=q; rw [q]
 ·intro h
  have hj:j < owner.size:=(Array.getElem?_eq_some_iff.mp h).1
  exact ⟨j,List.mem_range.mpr (by lia),by rw [Array.getD_eq_getD_getElem?,h]; rfl⟩
theorem kq9 (mask:Nat) (owner:Array (Option Nat)):(live mask owner).Pairwise fun x y=>x.1 < y.1:=by
 unfold live
 refine List.Pairwise.filterMap _ ?_ List.pairwise_lt_range
 intro a a' haa b hb b' hb'
 cases q:owner.getD a none with
 | none=>rw [q] at hb; cases hb
 | some z =>
  cases q':owner.getD a' none with
  | none=>rw [q'] at hb'; cases hb'
  | some z' =>
   rw [q] at hb; rw [q'] at hb'
   cases hb; cases hb'
   exact haa
theorem ke8 {owner:Array (Option Nat)} {n:Nat} (hz:owner.size = n):owner.toList = (List.range n).map fun j=>owner.getD j none:=by
 refine List.ext_getElem? fun i=>?_
 rw [Array.getElem?_toList,List.getElem?_map]
 by_cases h:i < n
 ·rw [List.getElem?_range h]
  have h':i < owner.size:=by lia
  simp [Array.getD,h']
 ·rw [Array.getElem?_eq_none (by lia),List.getElem?_eq_none (by simp; lia)]; rfl
theorem qe2 {mask:Nat} {hs:Nat -> Int} {owner:Array (Option Nat)} {n:Nat} (o:Own mask hs owner n) (hn:n <= mask + 1):(live mask owner).length = n:=by
 unfold live
 rw [List.length_filterMap_eq_countP]
 have e1:List.countP (fun j=>((owner.getD j none).map fun x=>(j,x)).isSome) (List.range (mask + 1)) = owner.toList.countP Option.isSome:=by
  rw [ke8 o.size,List.countP_map]
  congr 1
  funext j
  simp
 rw [e1]
 have e2:=List.length_eq_countP_add_countP (p:=Option.isNone) (l:=owner.toList)
 rw [o.cnt,Array.length_toList,o.size] at e2
 have e3:owner.toList.countP Option.isSome = List.countP (fun a=>decide ¬ (Option.isNone a = true)) owner.toList:=by
  congr 1
  funext a
  cases a <;> rfl
 lia
theorem kx1 {mask n:Nat} (hm:Msk mask) (hashes:Array Int) (hz:hashes.size = n) (hn:n < mask) (finger moves:Nat) (led plain:Bool) :
  ∃ t' order,laid mask finger moves led plain hashes = some (t',order) /\ Good t' n /\ t'.mask = mask /\ t'.led = led /\ t'.plain = plain /\ order.size = n /\ (∀ m,m < n -> order.getD m 0 < n) /\
   (∀ m m',m < n -> m' < n -> order.getD m 0 = order.getD m' 0 -> m = m') /\ (∀ a,a < n -> ∃ m,m < n /\ order.getD m 0 = a) /\ kb2 t' (fun m=>hashes.getD (order.getD m 0) 0) n:=by
 refine x1_2 (ko9 hm hashes (by lia)) fun owner e o=>?_
 rw [hz] at o
 have ll:=qe2 o (by lia)
 refine ⟨{ mask,place:=((live mask owner).map (·.1)).toArray,dummies:=#[],finger,led,moves,plain },((live mask owner).map (·.2)).toArray,?_,?_⟩
 ·unfold laid
  rw [e]; rfl
 have gp:∀ m,m < n -> ∃ j a,(live mask owner)[m]? = some (j,a) /\ (((live mask owner).map (·.1)).toArray).getD m 0 = j /\ (((live mask owner).map (·.2)).toArray).getD m 0 = a /\ owner[j]? = some (some a):=fun m h=>by
  have h':m < (live mask owner).length:=by lia
  refine ⟨((live mask owner)[m]).1,((live mask owner)[m]).2,List.getElem?_eq_getElem h',?_,?_,(jy9 o.size).mp (List.getElem_mem h')⟩
  ·simp [Array.getD,h']
  ·simp [Array.getD,h']
 have pw:=List.pairwise_iff_getElem.mp (kq9 mask owner)
 have rise:Rises (((live mask owner).map (·.1)).toArray):=fun i j hij hj=>by
  have hj:j < (live mask owner).length:=by simpa using hj
  have hi:i < (live mask owner).length:=by lia
  have:=pw i j hi hj hij
  simpa [Array.getD,hi,hj] using this
 have good:Good { mask,place:=((live mask owner).map (·.1)).toArray,dummies:=#[],finger,led,moves,plain } n:=by
  refine ⟨by simp [ll],rise,fun i hi=>?_,rfl,hm,hn⟩
  refine x2_4 (gp i hi) fun j a _ e2 _ e4=>?_
  show (((live mask owner).map (·.1)).toArray).getD i 0 <= mask
  rw [e2]
  have:=(Array.getElem?_eq_some_iff.mp e4).1
  have:=o.size
  lia
 refine ⟨good,rfl,rfl,rfl,by simp [ll],fun m h=>?_,fun m m' h h' q=>?_,fun a h=>?_,fun m h=>?_⟩
 ·refine x2_4 (gp m h) fun j a _ _ e3 e4=>?_
  rw [e3]; exact o.lt j a e4
 ·refine x2_4 (gp m h) fun j a _ e2 e3 e4=>?_
  refine x2_4 (gp m' h') fun j' a' _ e2' e3' e4'=>?_
  rw [e3,e3'] at q
  subst q
  have ej:=o.uniq a j j' e4 e4'
  rcases Nat.lt_trichotomy m m' with z | z | z
  ·have:=rise m m' z (by simp [ll]; exact h'); lia
  ·exact z
  ·have:=rise m' m z (by simp [ll]; exact h); lia
 ·refine x1_2 (o.at' a h) fun j b _=>?_
  obtain ⟨m,hm',em⟩:=List.mem_iff_getElem.mp ((jy9 (mask:=mask) o.size).mpr b)
  refine ⟨m,by lia,?_⟩
  simp [Array.getD,hm',em]
 ·refine x2_4 (gp m h) fun j a _ e2 e3 e4=>?_
  obtain ⟨j',b1,k,b2,b3⟩:=o.at' a (o.lt j a e4)
  have ej:=o.uniq a j j' e4 b1
  subst ej
  dsimp only
  rw [e2,e3]
  refine ⟨k,b2,fun m' hm' z=>?_⟩
  have z:=(U7 good _).mp z
  have oc:=b3 m' hm'
  have inr:(W mask (st mask (hashes.getD a 0)) m').j <= mask:=vc2 mask _ m'
  unfold occ at oc
  rw [Array.getD_eq_getD_getElem?] at oc
  cases q:owner[(W mask (st mask (hashes.getD a 0)) m').j]? with
  | none =>
   have:=Array.getElem?_eq_none_iff.mp q
   have:=o.size
   lia
  | some x =>
   cases x with
   | none=>rw [q] at oc; cases oc
   | some b =>
    obtain ⟨r,hr,er⟩:=List.mem_iff_getElem.mp ((jy9 (mask:=mask) o.size).mpr q)
    refine z r (by lia) ?_
    dsimp only
    simp [Array.getD,hr,er]
    rfl
end Tb
end T_Tb3
section T_So
namespace So
open PySem PySem.W PyProof.Rows
noncomputable def Rn (r:Nat -> Nat) (n:Nat) {α:Type}:KasT α -> (α -> Prop) -> Prop
 | .ret a,P=>P a
 | .ask i j k,P=>i < n /\ j < n /\ Rn r n (k (decide (r i < r j))) P
theorem Rn.mono {r:Nat -> Nat} {n:Nat} {α:Type} {P P':α -> Prop} (h:∀ a,P a -> P' a):∀ (t:KasT α),Rn r n t P -> Rn r n t P'
 | .ret a,q=>h a q
 | .ask i j k,q=>⟨q.1,q.2.1,Rn.mono h _ q.2.2⟩
theorem Rn.bind {r:Nat -> Nat} {n:Nat} {α β:Type} {f:α -> KasT β} {P:β -> Prop}:∀ (t:KasT α),Rn r n t (fun a=>Rn r n (f a) P) -> Rn r n (t.bind f) P
 | .ret a,q=>q
 | .ask i j k,q=>⟨q.1,q.2.1,Rn.bind (k _) q.2.2⟩
section
variable {r:Nat -> Nat} {n:Nat}
noncomputable def vl (r:Nat -> Nat) (p:Array Nat) (k:Nat):Nat:=r (p.getD k 0)
noncomputable def Up (r:Nat -> Nat) (p:Array Nat) (a:Nat):Prop:=∀ i j,i <= j -> j < a -> vl r p i <= vl r p j
noncomputable def Dn (r:Nat -> Nat) (p:Array Nat) (a:Nat):Prop:=∀ i j,i <= j -> j < a -> vl r p j <= vl r p i
noncomputable def Lt (n:Nat) (p:Array Nat):Prop:=∀ k,p.getD k 0 < n
theorem qw8 {p:Array Nat} (hn:0 < n) (h:∀ x ∈ p,x < n):Lt n p:=fun k=>by
 rw [Array.getD_eq_getD_getElem?]
 cases q:p[k]? with
 | none=>exact hn
 | some x=>exact h x (Array.mem_of_getElem? q)
theorem Lt.perm {p p':Array Nat} (hn:0 < n) (h:Lt n p) (e:p'.Perm p):Lt n p':=qw8 hn fun x hx=>by
 have hx:=e.mem_iff.mp hx
 obtain ⟨i,hi,ei⟩:=Array.mem_iff_getElem.mp hx
 have:=h i
 simp [Array.getD,hi,ei] at this
 exact this
theorem qb7 {p:Array Nat} {i j:Nat} (hj:j <= p.size) (k:Nat):(kas_rev p i j).getD k 0 = if i <= k /\ k < j then p.getD (i + j - 1 - k) 0 else p.getD k 0:=by
 rw [Array.getD_eq_getD_getElem?]
 unfold kas_rev
 rw [getElem?_mirror_all hj]
 split <;> rw [Array.getD_eq_getD_getElem?]
theorem jv8 {p:Array Nat} {i j:Nat} (hj:j <= p.size) (k:Nat):vl r (kas_rev p i j) k = if i <= k /\ k < j then vl r p (i + j - 1 - k) else vl r p k:=by
 unfold vl
 rw [qb7 hj]
 split <;> rfl
theorem jd4 (p:Array Nat) (i j:Nat):(kas_rev p i j).Perm p:=mirror_perm _ _ _ _
theorem jf2 (p:Array Nat) (i j:Nat):(kas_rev p i j).size = p.size:=mirror_size _ _ _ _
theorem ky7 {p:Array Nat} (hp:Lt n p):∀ (f a:Nat),1 <= a -> Up r p a -> Rn r n (kas_asc p f a) fun m=>a <= m /\ m <= a + f /\ Up r p m /\ (m = a + f \/ vl r p m < vl r p (m - 1))
 | 0,a,_,hu=>⟨Nat.le_refl _,by lia,hu,.inl rfl⟩
 | f + 1,a,ha,hu=>by
  refine ⟨hp _,hp _,?_⟩
  dsimp only
  by_cases c:r (p.getD a 0) < r (p.getD (a - 1) 0)
  ·rw [decide_eq_true c,if_pos rfl]
   exact ⟨Nat.le_refl _,by lia,hu,.inr c⟩
  ·rw [decide_eq_false c,if_neg (by simp)]
   refine Rn.mono (fun m h=>⟨by lia,by lia,h.2.2.1,?_⟩) _ (ky7 hp f (a + 1) (by lia) fun i j hij hj=>?_)
   ·rcases h.2.2.2 with h | h
    ·left; lia
    ·exact .inr h
   ·by_cases hj':j < a
    ·exact hu i j hij hj'
    ·have e:j = a:=by lia
     subst e
     by_cases hi:i = j
     ·subst hi; exact Nat.le_refl _
     ·have q:=hu i (j - 1) (by lia) (by lia)
      unfold vl at q ⊢
      lia
theorem jz4 (hn:0 < n):∀ (f:Nat) (p:Array Nat) (a q:Nat),Lt n p -> 1 <= a -> a + f <= p.size -> Dn r p a -> q + 1 <= a -> (∀ i,a - (q + 1) <= i -> i < a -> vl r p i = vl r p (a - 1)) ->
  Rn r n (kas_desc f p a q) fun z=>z.1.Perm p /\ z.1.size = p.size /\ a <= z.2.1 /\ z.2.1 <= a + f /\ Dn r z.1 z.2.1 /\ z.2.2 + 1 <= z.2.1 /\ (∀ i,z.2.1 - (z.2.2 + 1) <= i -> i < z.2.1 -> vl r z.1 i = vl r z.1 (z.2.1 - 1))
 | 0,p,a,q,_,_,_,hd,hq,he=>⟨.refl _,rfl,Nat.le_refl _,Nat.le_add_right _ _,hd,hq,he⟩
 | f + 1,p,a,q,hp,ha,hz,hd,hq,he=>by
  refine ⟨hp _,hp _,?_⟩
  dsimp only
  by_cases c:r (p.getD a 0) < r (p.getD (a - 1) 0)
  ·rw [decide_eq_true c,if_pos rfl]
   have step:∀ p':Array Nat,(∀ k,vl r p' k = vl r p k) -> Dn r p' (a + 1):=fun p' hv i j hij hj=>by
    rw [hv,hv]
    by_cases hj':j < a
    ·exact hd i j hij hj'
    ·have e:j = a:=by lia
     subst e
     by_cases hi:i = j
     ·subst hi; exact Nat.le_refl _
     ·have:=hd i (j - 1) (by lia) (by lia)
      unfold vl at this ⊢
      lia
   by_cases hq0:q > 0
   ·rw [if_pos hq0]
    have hv:∀ k,vl r (kas_rev p (a - (q + 1)) a) k = vl r p k:=fun k=>by
     rw [jv8 (by lia)]
     split
     ·rename_i hk
      rw [he _ (by lia) (by lia),he k hk.1 hk.2]
     ·rfl
    refine Rn.mono (fun z h=>⟨h.1.trans (jd4 _ _ _),h.2.1.trans (jf2 _ _ _),by lia,by lia,h.2.2.2.2⟩) _
     (jz4 hn f (kas_rev p (a - (q + 1)) a) (a + 1) 0 (hp.perm hn (jd4 _ _ _)) (by lia) (by rw [jf2]; lia) (step _ hv) (by lia) fun i h1 h2=>?_)
    have:i = a:=by lia
    subst this; rfl
   ·rw [if_neg hq0]
    refine Rn.mono (fun z h=>⟨h.1,h.2.1,by lia,by lia,h.2.2.2.2⟩) _ (jz4 hn f p (a + 1) 0 hp (by lia) (by lia) (step p fun _=>rfl) (by lia) fun i h1 h2=>?_)
    have:i = a:=by lia
    subst this; rfl
  ·rw [decide_eq_false c,if_neg (by simp)]
   refine ⟨hp _,hp _,?_⟩
   dsimp only
   by_cases d:r (p.getD (a - 1) 0) < r (p.getD a 0)
   ·rw [decide_eq_true d,if_pos rfl]
    exact ⟨.refl _,rfl,Nat.le_refl _,Nat.le_add_right _ _,hd,hq,he⟩
   ·rw [decide_eq_false d,if_neg (by simp)]
    have eq:vl r p a = vl r p (a - 1):=by unfold vl; lia
    refine Rn.mono (fun z h=>⟨h.1,h.2.1,by lia,by lia,h.2.2.2.2⟩) _ (jz4 hn f p (a + 1) (q + 1) hp (by lia) (by lia) (fun i j hij hj=>?_) (by lia) fun i h1 h2=>?_)
    ·by_cases hj':j < a
     ·exact hd i j hij hj'
     ·have e:j = a:=by lia
      subst e
      by_cases hi:i = j
      ·subst hi; exact Nat.le_refl _
      ·rw [eq]; exact hd i (j - 1) (by lia) (by lia)
    ·show vl r p i = vl r p a
     by_cases hi:i = a
     ·subst hi; rfl
     ·rw [eq]; exact he i (by lia) (by lia)
noncomputable def Out (r:Nat -> Nat) (p₀:Array Nat) (nrem:Nat) (z:Nat × Array Nat):Prop:=z.2.Perm p₀ /\ z.2.size = p₀.size /\ 1 <= z.1 /\ z.1 <= nrem /\ Up r z.2 z.1
theorem km3 (hn:0 < n) {p:Array Nat} {a nrem:Nat} (hp:Lt n p) (h1:1 <= a) (h2:a <= nrem) (hz:nrem <= p.size) (hd:Dn r p a):Rn r n (kas_tail3 a nrem p) (Out r p nrem):=by
 unfold kas_tail3
 refine Rn.bind _ (Rn.mono (fun m h=>?_) _ (ky7 (r:=r) (hp.perm hn (jd4 p 0 a)) (nrem - a) a h1 fun i j hij hj=>?_))
 ·exact ⟨jd4 _ _ _,jf2 _ _ _,by show 1 <= m; lia,by show m <= nrem; lia,h.2.2.1⟩
 ·rw [jv8 (by lia),jv8 (by lia),if_pos (by lia),if_pos (by lia)]
  exact hd _ _ (by lia) (by lia)
theorem jq3 (hn:0 < n) {p:Array Nat} {a nrem:Nat} (hp:Lt n p) (h2:a + 1 <= nrem) (hz:nrem <= p.size) (hd:Dn r p (a + 1)):Rn r n (kas_descPart a nrem p) (Out r p nrem):=by
 unfold kas_descPart
 refine Rn.bind _ (Rn.mono (fun z h=>?_) _ (jz4 (r:=r) hn (nrem - (a + 1)) p (a + 1) 0 hp (by lia) (by lia) hd (by lia) fun i h1 h2=>by
  have:i = a:=by lia
  subst this; rfl))
 refine x0_7 h fun z1 z2 z3 z4 z5 z6 z7=>?_
 clear h
 split
 ·have hv:∀ k,vl r (kas_rev z.1 (z.2.1 - (z.2.2 + 1)) z.2.1) k = vl r z.1 k:=fun k=>by
   rw [jv8 (by lia)]
   split
   ·rename_i hk
    rw [z7 _ (by lia) (by lia),z7 k hk.1 hk.2]
   ·rfl
  refine Rn.mono (fun y h=>?_) _ (km3 hn ((hp.perm hn z1).perm hn (jd4 _ _ _)) (by lia) (by lia) (by rw [jf2]; lia) fun i j hij hj=>by rw [hv,hv]; exact z5 i j hij hj)
  exact ⟨h.1.trans ((jd4 _ _ _).trans z1),h.2.1.trans ((jf2 _ _ _).trans z2),h.2.2⟩
 ·refine Rn.mono (fun y h=>?_) _ (km3 hn (hp.perm hn z1) (by lia) (by lia) (by lia) z5)
  exact ⟨h.1.trans z1,h.2.1.trans z2,h.2.2⟩
theorem qd3 (hn:0 < n) {p:Array Nat} {nrem:Nat} (hp:Lt n p) (h1:1 <= nrem) (hz:nrem <= p.size):Rn r n (kas_count nrem p) (Out r p nrem):=by
 unfold kas_count
 refine Rn.bind _ (Rn.mono (fun m h=>?_) _ (ky7 (r:=r) hp (nrem - 1) 1 (Nat.le_refl _) fun i j hij hj=>by
  have:i = j:=by lia
  subst this; exact Nat.le_refl _))
 refine x0_4 h fun a1 a2 a3 a4=>?_
 clear h
 by_cases e:m = nrem
 ·rw [if_pos (beq_iff_eq.mpr e)]
  exact ⟨.refl _,rfl,a1,by show m <= nrem; lia,a3⟩
 ·rw [if_neg (fun z=>e (beq_iff_eq.mp z))]
  have hlt:vl r p m < vl r p (m - 1):=by
   rcases a4 with a4 | a4
   ·lia
   ·exact a4
  by_cases g:m > 1
  ·rw [if_pos g]
   refine ⟨hp _,hp _,?_⟩
   dsimp only
   by_cases c:r (p.getD 0 0) < r (p.getD (m - 1) 0)
   ·rw [decide_eq_true c,if_pos rfl]
    exact ⟨.refl _,rfl,a1,by show m <= nrem; lia,a3⟩
   ·rw [decide_eq_false c,if_neg (by simp)]
    have all:∀ k,k < m -> vl r p k = vl r p (m - 1):=fun k hk=>by
     have b1:=a3 0 k (by lia) hk
     have b2:=a3 k (m - 1) (by lia) (by lia)
     unfold vl at b1 b2 ⊢
     lia
    refine Rn.mono (fun y h=>⟨h.1.trans (jd4 _ _ _),h.2.1.trans (jf2 _ _ _),h.2.2⟩) _ (jq3 hn (hp.perm hn (jd4 p 0 m)) (by lia) (by rw [jf2]; lia) fun i j hij hj=>?_)
    rw [jv8 (by lia),jv8 (by lia)]
    by_cases hj':j < m
    ·rw [if_pos (by lia),if_pos (by lia),all _ (by lia),all (0 + m - 1 - i) (by lia)]
     exact Nat.le_refl _
    ·have ej:j = m:=by lia
     subst ej
     rw [if_neg (show ¬ (0 <= j /\ j < j) by lia)]
     by_cases hi:i < j
     ·rw [if_pos (show 0 <= i /\ i < j by lia),all (0 + j - 1 - i) (by lia)]; exact Nat.le_of_lt hlt
     ·have:i = j:=by lia
      subst this
      rw [if_neg (show ¬ (0 <= i /\ i < i) by lia)]
      exact Nat.le_refl _
  ·rw [if_neg g]
   have em:m = 1:=by lia
   subst em
   refine jq3 hn hp (by lia) hz fun i j hij hj=>?_
   by_cases hi:i = j
   ·subst hi; exact Nat.le_refl _
   ·have e1:i = 0:=by lia
    have e2:j = 1:=by lia
    subst e1; subst e2
    exact Nat.le_of_lt hlt
theorem ka4 {p:Array Nat} {k:Nat} (hp:Lt n p) (hu:Up r p k):∀ (f l q:Nat),q <= k -> q - l <= f -> l <= q -> (∀ i,i < l -> vl r p i <= vl r p k) -> (∀ i,q <= i -> i < k -> vl r p k < vl r p i) ->
  Rn r n (kas_place p k f l q) fun m=>m <= k /\ (∀ i,i < m -> vl r p i <= vl r p k) /\ (∀ i,m <= i -> i < k -> vl r p k < vl r p i)
 | 0,l,q,h1,h2,h3,a,b=>by
  have:q = l:=by lia
  subst this
  exact ⟨h1,a,b⟩
 | f + 1,l,q,h1,h2,h3,a,b=>by
  unfold kas_place
  by_cases hc:l ≥ q
  ·rw [if_pos hc]
   have:q = l:=by lia
   subst this
   exact ⟨h1,a,b⟩
  ·rw [if_neg hc]
   refine ⟨hp _,hp _,?_⟩
   dsimp only
   by_cases c:r (p.getD k 0) < r (p.getD ((l + q) / 2) 0)
   ·rw [decide_eq_true c,if_pos rfl]
    refine ka4 hp hu f l ((l + q) / 2) (by lia) (by lia) (by lia) a fun i hi hk=>?_
    have:=hu ((l + q) / 2) i hi hk
    unfold vl at this ⊢
    lia
   ·rw [decide_eq_false c,if_neg (by simp)]
    refine ka4 hp hu f ((l + q) / 2 + 1) q h1 (by lia) (by lia) (fun i hi=>?_) b
    have:=hu i ((l + q) / 2) (by lia) (by lia)
    unfold vl at this ⊢
    lia
theorem qz1 {p:Array Nat} {k l:Nat} (hk:k < p.size) (hl:l <= k) (j:Nat):vl r (bubble p k (k - l)) j = if j = l then vl r p k else if l < j /\ j <= k then vl r p (j - 1) else vl r p j:=by
 unfold vl
 have e:(bubble p k (k - l)).getD j 0 = if j = l then p.getD k 0 else if l < j /\ j <= k then p.getD (j - 1) 0 else p.getD j 0:=by
  rw [Array.getD_eq_getD_getElem?,getElem?_bubble hk (k - l) (by lia),show k - (k - l) = l by lia]
  by_cases c1:j = l
  ·rw [if_pos c1,if_pos c1,Array.getD_eq_getD_getElem?]
  ·rw [if_neg c1,if_neg c1]
   by_cases c2:l < j /\ j <= k
   ·rw [if_pos c2,if_pos c2,Array.getD_eq_getD_getElem?]
   ·rw [if_neg c2,if_neg c2,Array.getD_eq_getD_getElem?]
 rw [e]
 by_cases c1:j = l
 ·rw [if_pos c1,if_pos c1]
 ·rw [if_neg c1,if_neg c1]
  by_cases c2:l < j /\ j <= k
  ·rw [if_pos c2,if_pos c2]
  ·rw [if_neg c2,if_neg c2]
theorem qk8 (hn:0 < n):∀ (f:Nat) (p:Array Nat) (k:Nat),Lt n p -> k + f <= p.size -> Up r p k -> Rn r n (kas_bin f p k) fun z=>z.Perm p /\ z.size = p.size /\ Up r z (k + f)
 | 0,p,k,_,_,hu=>⟨.refl _,rfl,hu⟩
 | f + 1,p,k,hp,hz,hu=>by
  unfold kas_bin
  refine Rn.bind _ (Rn.mono (fun l h=>?_) _ (ka4 hp hu k 0 k (Nat.le_refl _) (by lia) (by lia) (fun i hi=>absurd hi (Nat.not_lt_zero _)) (fun i h1 h2=>by lia)))
  refine x0_3 h fun h1 h2 h3=>?_
  clear h
  have bv:=qz1 (r:=r) (p:=p) (k:=k) (l:=l) (by lia) h1
  have up:Up r (bubble p k (k - l)) (k + 1):=fun i j hij hj=>by
   have eq1:∀ x,x = l -> vl r (bubble p k (k - l)) x = vl r p k:=fun x hx=>by rw [bv x,if_pos hx]
   have eq2:∀ x,l < x -> x <= k -> vl r (bubble p k (k - l)) x = vl r p (x - 1):=fun x hx hx'=>by rw [bv x,if_neg (show ¬ x = l by lia),if_pos ⟨hx,hx'⟩]
   have eq3:∀ x,x < l -> vl r (bubble p k (k - l)) x = vl r p x:=fun x hx=>by rw [bv x,if_neg (show ¬ x = l by lia),if_neg (show ¬ (l < x /\ x <= k) by lia)]
   by_cases c1:j = l
   ·rw [eq1 j c1]
    by_cases c2:i = l
    ·rw [eq1 i c2]; exact Nat.le_refl _
    ·rw [eq3 i (by lia)]; exact h2 i (by lia)
   ·by_cases c2:l < j
    ·rw [eq2 j c2 (by lia)]
     by_cases c3:i = l
     ·rw [eq1 i c3]; exact Nat.le_of_lt (h3 (j - 1) (by lia) (by lia))
     ·by_cases c4:l < i
      ·rw [eq2 i c4 (by lia)]; exact hu (i - 1) (j - 1) (by lia) (by lia)
      ·rw [eq3 i (by lia)]; exact hu i (j - 1) (by lia) (by lia)
    ·rw [eq3 j (by lia),eq3 i (by lia)]; exact hu i j hij (by lia)
  refine Rn.mono (fun z h=>⟨h.1.trans (bubble_perm _ _ _),h.2.1.trans (bubble_size _ _ _),by rw [show k + (f + 1) = k + 1 + f by lia]; exact h.2.2⟩) _
   (qk8 hn f (bubble p k (k - l)) (k + 1) (hp.perm hn (bubble_perm _ _ _)) (by rw [bubble_size]; lia) up)
theorem qt0 {n:Nat} (r:Nat -> Nat) (h:0 < n):Rn r n (kas_sort n) fun z=>z.Perm (List.range n).toArray /\ z.size = n /\ Up r z n:=by
 unfold kas_sort
 have hl:Lt n (List.range n).toArray:=qw8 h fun x hx=>by simpa using hx
 refine Rn.bind _ (Rn.mono (fun z q=>?_) _ (qd3 (r:=r) h hl (by lia) (by simp)))
 refine x0_5 q fun q1 q2 q3 q4 q5=>?_
 clear q
 have sz:z.2.size = n:=by rw [q2]; simp
 split
 ·rw [Nat.max_eq_left q3]
  refine Rn.mono (fun y u=>⟨u.1.trans q1,u.2.1.trans sz,?_⟩) _ (qk8 (r:=r) h (n - z.1) z.2 z.1 (hl.perm h q1) (by lia) q5)
  have:=u.2.2
  rw [show z.1 + (n - z.1) = n by lia] at this
  exact this
 ·refine ⟨q1,sz,?_⟩
  have:z.1 = n:=by lia
  rw [this] at q5; exact q5
end
end So
end T_So
section T_So2
namespace So
open PySem PySem.W PyProof.Rows
noncomputable def qb2 (a:Addr) (h h':Heap):Prop:=∀ b o,b ≠ a -> h.get? b = some o -> h'.get? b = some o
section
variable {prog:Program} {w:World} {A:Around} {E:Value -> Shared -> Prop} {s:Shared} {a:Addr} {vs:List Value} {kd:SortKind} {r:Nat -> Nat}
theorem qz2 {n:Nat} {α:Type} {cmp:Nat -> Nat -> (Bool -> Shared -> Prop) -> Shared -> Prop} {Q:α -> Shared -> Prop} {P:α -> Prop} (hc:∀ i j C,i < n -> j < n -> C (decide (r i < r j)) s -> cmp i j C s) (hq:∀ x,P x -> Q x s) :
  ∀ t:KasT α,Rn r n t P -> t.kasWp cmp Q s
 | .ret x,h=>hq x h
 | .ask i j k,h=>hc i j _ h.1 h.2.1 (qz2 hc hq _ h.2.2)
theorem ke4 {n:Nat} {P:PySem.Fin -> Shared -> Prop} (ho:s.heap.get? a = some (seqObj "list" vs.toArray n)) (h64:vs.length < 64)
  (hkind:2 <= vs.length -> ∀ h' Q,qb2 a s.heap h' -> Q kd { s with heap:=h' } -> wpAny (model prog w) A (keyKind' vs.toArray) Q E { s with heap:=h' })
  (hlt:2 <= vs.length -> ∀ h' i j C,qb2 a s.heap h' -> i < vs.length -> j < vs.length -> C (decide (r i < r j)) { s with heap:=h' } -> wpAny (model prog w) A (keyLt' kd (vs.getD i Value.none) (vs.getD j Value.none)) C (fun _ _=>False) { s with heap:=h' })
  (h:∀ h' n' (p:Array Nat),qb2 a s.heap h' -> p.Perm (List.range vs.length).toArray -> Up r p vs.length -> h'.get? a = some (seqObj "list" (p.toList.map fun i=>vs.getD i Value.none).toArray n') -> P (.done (.ret .none)) { s with heap:=h' }) :
  wpAny (model prog w) A (Builtin.«list.sort» ⟨[.ref a],[]⟩) P E s:=by
 have ha:a < s.heap.objs.size:=Heap.lt_size ho
 have line:sizeLine = 16777216 \/ 64 <= sizeLine:=.inr (by rw [sizeLine_eq]; decide)
 have big:64 <= sizeLine:=by rw [sizeLine_eq]; decide
 have sb1:=Heap.SameBut.update s.heap a (Obj.mapSeq fun _=>(#[]:Array Value))
 obtain ⟨e1,ho1⟩ : ∃ e1,(s.heap.update a (Obj.mapSeq fun _=>(#[]:Array Value))).get? a = some (seqObj "list" #[] e1):=⟨_,get?_update_seq ho fun _=>#[]⟩
 rw [list_sort_plain]
 refine wpAny_bind (listItems_at ho rfl (wpAny_bind (listUpdate_at ho rfl ?_ (by rw [List.size_toArray]; lia) (Nat.zero_le _))))
 refine wpAny_bind (seqEpoch_at ho1 rfl (wpAny_bind (wpAny_newTuple ?_ (by show vs.length <= _; lia))))
 refine wpAny_bind (wpAny_newList ?_ (Nat.zero_le _))
 refine wpAny_holding ?_
 generalize hG:((s.heap.update a (Obj.mapSeq fun _=>(#[]:Array Value))).push (seqObj "tuple" vs.toArray 0)).push (seqObj "list" #[] 0) = g
 have kg:qb2 a s.heap g:=fun b o hb e=>by
  rw [<- hG]
  exact Heap.get?_push_of_some _ (Heap.get?_push_of_some _ (by rw [sb1.2 b hb]; exact e))
 have ag:g.get? a = some (seqObj "list" #[] e1):=by rw [<- hG]; exact Heap.get?_push_of_some _ (Heap.get?_push_of_some _ ho1)
 show wpAny (model prog w) A _ P E { s with heap:=g }
 dsimp only
 have fin:∀ (p:Array Nat),p.size = vs.length -> p.Perm (List.range vs.length).toArray -> Up r p vs.length -> P (.done (.ret .none)) { s with heap:=g.update a (Obj.mapSeq fun _=>(p.toList.map fun i=>vs.getD i Value.none).toArray) }:=fun p hp h1 h2=>by
  have sb2:=Heap.SameBut.update g a (Obj.mapSeq fun _=>(p.toList.map fun i=>vs.getD i Value.none).toArray)
  exact h _ _ p (fun b o hb e=>by rw [sb2.2 b hb]; exact kg b o hb e) h1 h2 (get?_update_seq ag fun _=>_)
 have psz:∀ (p:Array Nat),p.size = vs.length -> (p.toList.map fun i=>vs.getD i Value.none).toArray.size <= sizeLine + 1:=fun p hp=>by
  rw [List.size_toArray,List.length_map,Array.length_toList,hp]; lia
 by_cases h2:vs.toArray.size < 2
 ·rw [if_pos h2,if_pos h2]
  refine wpAny_bind (wpAny_pure ?_)
  rw [StateT.run_pure]
  refine wpAny_bind (wpAny_pure ?_)
  dsimp only
  have h2':vs.length < 2:=by rw [<- List.size_toArray]; exact h2
  have ids:(List.range vs.length).toArray.toList.map (fun i=>vs.getD i Value.none) = vs:=by
   show (List.range vs.length).map (fun i=>vs.getD i Value.none) = vs
   refine List.ext_getElem (by simp) fun i h1 h2=>?_
   simp at h1
   simp [h1]
  have out:(arrOf (SortSt.mk' general' (vs.toArray.zip vs.toArray) #[] 7 none)).map (·.2) = ((List.range vs.length).toArray.toList.map fun i=>vs.getD i Value.none).toArray:=by
   rw [ids]
   show (vs.toArray.zip vs.toArray).map (·.2) = _
   apply Array.toList_inj.mp
   rw [Array.toList_map,Array.toList_zip]
   exact List.map_snd_zip (Nat.le_refl _)
  rw [out]
  have rs:(List.range vs.length).toArray.size = vs.length:=by rw [List.size_toArray,List.length_range]
  refine wpAny_bind (seqEpoch_at ag rfl ?_)
  refine wpAny_bind (listUpdate_at ag rfl ?_ (Nat.zero_le _) (psz _ rs))
  simp only [bne_self_eq_false,Bool.false_eq_true,if_false]
  refine wpAny_pure (fin _ rs (.refl _) fun i j hij hj=>?_)
  have:i = j:=by lia
  subst this; exact Nat.le_refl _
 ·rw [if_neg h2,if_neg h2]
  have h2':2 <= vs.length:=by rw [<- List.size_toArray]; lia
  refine wpAny_bind (hkind h2' g _ kg ?_)
  have est:SortSt.mk' kd (vs.toArray.zip vs.toArray) #[] 7 none = kas_st kd (pairsOf vs) (List.toArray (List.range vs.length)):=by
   have e:=kas_range (pairsOf vs)
   rw [pairsOf_size] at e
   show SortSt.mk' kd (pairsOf vs) #[] 7 none = SortSt.mk' kd _ #[] 7 none
   rw [e]
  have ask:=qz2 (s:={ s with heap:=g }) (cmp:=kas_ask prog w A kd vs) (Q:=fun (p:Array Nat) s'=>s' = { s with heap:=g } /\ p.Perm (List.range vs.length).toArray /\ p.size = vs.length /\ Up r p vs.length)
   (fun i j C hi hj hc=>hlt h2' g i j C kg hi hj hc) (fun x hx=>⟨rfl,hx⟩) (kas_sort vs.length) (qt0 r (by lia))
  rw [kas_ask_eq] at ask
  have run:=kas_runs (E:=E) (Q:=fun _ st' s'=>s' = { s with heap:=g } /\ failedOf st' = none /\ ∃ p:Array Nat,arrOf st' = p.map (kas_item (pairsOf vs)) /\ p.Perm (List.range vs.length).toArray /\ p.size = vs.length /\ Up r p vs.length)
   h2' h64 (fun p' st' s' a1 a2 a3 a4=>⟨a4.1,a3,p',a2,a4.2⟩) ask
  rw [<- est] at run
  refine wpAny_bind (wpAny_mono run ?_ fun _ _ e=>e)
  rintro ⟨⟨⟩,st'⟩ s' ⟨rfl,hf,p,har,p1,p2,p3⟩
  dsimp only
  have out:(arrOf st').map (·.2) = (p.toList.map fun i=>vs.getD i Value.none).toArray:=by
   apply Array.toList_inj.mp
   rw [har,Array.map_map,Array.toList_map]
   refine List.map_congr_left fun i _=>?_
   show (kas_item (pairsOf vs) i).2 = _
   rw [kas_item_eq]
  rw [out]
  refine wpAny_bind (seqEpoch_at ag rfl ?_)
  refine wpAny_bind (listUpdate_at ag rfl ?_ (Nat.zero_le _) (psz _ p2))
  rw [hf]
  simp only [bne_self_eq_false,Bool.false_eq_true,if_false]
  exact wpAny_pure (fin p p2 p1 p3)
end
end So
end T_So2
section T_Ts
namespace Ts
open PySem PySem.SetTable Tb
structure SKind (prog:Program) (w:World) (K:Type) [DecidableEq K] extends HeapKind prog w K where
 noCls:∀ {A:Around} {E:Value -> Shared -> Prop} {s:Shared} {k:K} {a:Addr} {Q:Bool -> Shared -> Prop},is s.heap k a -> Q false s -> wpAny (model prog w) A (ofAClassStatement 8 (.ref a)) Q E s
 byVal:∀ {A:Around} {E:Value -> Shared -> Prop} {s:Shared} {k:K} {a:Addr} {Q:Bool -> Shared -> Prop},is s.heap k a -> Q true s -> wpAny (model prog w) A (hashByValue 8 (.ref a)) Q E s
 mono:∀ {h h':Heap} {k:K} {a:Addr},is h k a -> (∀ b o,h.get? b = some o -> o.cls = .type "tuple" -> h'.get? b = some o) -> is h' k a
section
variable {prog:Program} {w:World} {K:Type} [DecidableEq K] {κ:SKind prog w K}
theorem vb6 (κ:SKind prog w K) {h h':Heap} {k:K} {a d:Addr} {o:Obj} (x:κ.is h k a) (ho:h.get? d = some o) (hc:o.cls = .type "set") (sb:Heap.SameBut d h h'):κ.is h' k a :=
 κ.mono x fun b ob e hb=>by
  rw [sb.2 b ?_]
  ·exact e
  ·rintro rfl
   obtain rfl:=Option.some.inj (e.symm.trans ho)
   rw [hc] at hb
   exact absurd hb (by decide)
noncomputable def entry (κ:SKind prog w K) (x:K × Addr):Int × Value:=(κ.hash x.1,.ref x.2)
structure SetO (κ:SKind prog w K) (h:Heap) (a:Addr) (led:Bool) (xs:List (K × Addr)) (o:Obj) (ep:Nat) (t:SetTable):Prop where
 obj:h.get? a = some o
 exact':o.ExactSet
 data:o.data = .set (xs.map (entry κ)).toArray ep t
 good:Good t xs.length
 paths:kb2 t (fun i=>((xs.map (entry κ)).toArray[i]?.map (·.1)).getD 0) xs.length
 led':t.led = led
 plain:t.plain = true
 few:xs.length * 5 < t.mask * 3
 keys:(xs.map (·.1)).Nodup
 each:∀ x ∈ xs,κ.is h x.1 x.2
theorem kq4 {t:SetTable} {n:Nat} (g:Good t n):t.fits n = true:=by
 unfold SetTable.fits SetTable.fill
 rw [g.dum,g.size]
 have:=g.few
 simp
 lia
variable {A:Around} {E:Value -> Shared -> Prop} {s:Shared} {a b:Addr} {led:Bool} {xs:List (K × Addr)} {o:Obj} {ep:Nat} {t:SetTable} {k:K}
theorem jb2 {Q:(Array (Int × Value) × Nat × SetTable) -> Shared -> Prop} (S:SetO κ s.heap a led xs o ep t) (h:Q ((xs.map (entry κ)).toArray,ep,t) s):wpAny (model prog w) A (setState a) Q E s :=
 wpAny_setState_of S.obj S.data (by simpa using kq4 S.good) h
theorem qr8 {Q:Bool -> Shared -> Prop} {l:List (K × Addr)} (hx:κ.is s.heap k b) (hl:∀ x ∈ l,κ.is s.heap x.1 x.2) (h:Q false s) :
  wpAny (model prog w) A (searchCouldBeSeen (.ref b) (l.map fun x=>Value.ref x.2)) Q E s:=by
 unfold searchCouldBeSeen
 refine wpAny_bind (wpAny_forIn_list _ (fun rest r s'=>r.1 = none /\ s' = s /\ ∃ (l':List (K × Addr)),rest = l'.map (fun x:K × Addr=>Value.ref x.2) /\ ∀ x ∈ l',κ.is s.heap x.1 x.2) _ ?_ ?_ _ _ ⟨rfl,rfl,l,rfl,hl⟩)
 ·rintro v rest r s' ⟨hr,rfl,l',hl',hk⟩
  cases l' with
  | nil=>cases hl'
  | cons x l' =>
   rw [List.map_cons] at hl'
   injection hl' with e1 e2
   subst e1
   have nx:r.1 = none /\ s' = s' /\ ∃ (l'':List (K × Addr)),rest = l''.map (fun x:K × Addr=>Value.ref x.2) /\ ∀ x ∈ l'',κ.is s'.heap x.1 x.2:=⟨hr,rfl,l',e2,fun y hy=>hk y (List.mem_cons_of_mem _ hy)⟩
   have hx2:=hk x List.mem_cons_self
   dsimp only
   split
   ·exact wpAny_pure ⟨rfl,rfl,nx.2.2⟩
   ·refine wpAny_bind (κ.quiet hx ?_)
    simp only [Bool.not_true,Bool.false_eq_true,if_false]
    refine wpAny_bind (κ.quiet hx2 ?_)
    simp only [Bool.not_true,Bool.false_eq_true,if_false]
    refine wpAny_bind (κ.noCls hx ?_)
    simp only [Bool.false_eq_true,if_false]
    refine wpAny_bind (κ.noCls hx2 ?_)
    simp only [Bool.false_eq_true,if_false]
    exact wpAny_pure ⟨rfl,rfl,nx.2.2⟩
 ·rintro ⟨r1,r2⟩ s' ⟨hr,rfl,_⟩
  simp only at hr
  subst hr
  exact wpAny_pure h
theorem jg3 (xs:List (K × Addr)) (i:Nat):(xs.map (entry κ)).toArray[i]? = xs[i]?.map (entry κ):=by simp
theorem ks6 {Q:SetFound -> Shared -> Prop} (S:SetO κ s.heap a led xs o ep t) (hr:κ.room A) (hx:κ.is s.heap k b)
  (hT:k ∈ xs.map (·.1) -> Q (.there none) s)
  (hF:k ∉ xs.map (·.1) -> ∀ j,j <= t.mask -> t.slot j = .empty -> jv0 t (κ.hash k) j -> Q (.free j false) s)
  {D:Nat} (hD:D <= 10 * (t.mask + 13)) (hE:t.slot (W t.mask (t.probeStart (κ.hash k)) D).j = .empty) (hB:∀ m,m < D -> t.slot (W t.mask (t.probeStart (κ.hash k)) m).j ≠ .empty) :
  ∀ (r m0 fuel:Nat),m0 + r = D -> r < fuel -> (∀ m i,m < m0 -> t.slot (W t.mask (t.probeStart (κ.hash k)) m).j = .live i -> ∀ x,xs[i]? = some x -> x.1 ≠ k) ->
   ∀ stand:Option Probe,stand.getD (t.probeStart (κ.hash k)) = W t.mask (t.probeStart (κ.hash k)) m0 ->
   wpAny (model prog w) A (setSearchFrom a (.ref b) (κ.hash k) true fuel stand) Q E s:=by
 intro r
 induction r using Nat.strongRecOn with
 | _ r ih =>
  intro m0 fuel hm hf hv stand hst
  obtain ⟨fuel,rfl⟩ : ∃ f,fuel = f + 1:=⟨fuel - 1,by lia⟩
  unfold setSearchFrom
  refine wpAny_bind (jb2 S ?_)
  dsimp only
  have hgw:t.gaveWay = false:=by
   unfold SetTable.gaveWay
   rcases S.good.msk with e | e | e <;> rw [e] <;> rfl
  rw [hgw]
  simp only [Bool.false_eq_true,if_false]
  have sp:=kx7 S.good (fun i=>((xs.map (entry κ)).toArray[i]?.map (·.1)).getD 0) (κ.hash k) r (W t.mask (t.probeStart (κ.hash k)) m0) (10 * turns t.mask) (kt6 _ _ _ rfl) (by unfold turns; lia)
   (by rw [<- js8,hm]; exact hE) (fun m hm'=>by rw [<- js8]; exact hB _ (by lia))
  have hpr:t.probe (fun i=>((xs.map (entry κ)).toArray[i]?.map (·.1)).getD 0) (κ.hash k) (stand.getD (t.probeStart (κ.hash k))) = probe.go t (fun i=>((xs.map (entry κ)).toArray[i]?.map (·.1)).getD 0) (κ.hash k) (10 * turns t.mask) (W t.mask (t.probeStart (κ.hash k)) m0):=by
   rw [hst]; rfl
  rcases sp with ⟨m,i,h1,h2,h3,h4,h5,h6⟩ | ⟨h1,h2⟩
  ·have hp2:=hpr.trans h6
   generalize hpq:t.probe _ (κ.hash k) (stand.getD (t.probeStart (κ.hash k))) = pr
   obtain rfl:=hpq.symm.trans hp2
   dsimp only
   obtain ⟨x,hxi⟩ : ∃ x,xs[i]? = some x:=⟨xs[i],List.getElem?_eq_getElem h2⟩
   have hxm:x ∈ xs:=List.mem_of_getElem? hxi
   have rest:wpAny (model prog w) A (do
     let some (_,y):=(xs.map (entry κ)).toArray[i]? | unsupported "internal:set-entry"
     let equal <- holding [y] (eqBool y (.ref b))
     let (es',_,t') <- setState a
     if true && equal then return .there none
     let some same:=t'.sameMemory t.moves t.mask | unsupported "set.changed-during-lookup:is-the-new-block-at-the-old-address"
     let still <- match (if same then t'.slot (W t.mask (W t.mask (t.probeStart (κ.hash k)) m0) m).j else .empty) with
      | .live i'=>match es'[i']? with
       | some (_,y')=>do pure (if <- isSame y' y then some i' else none)
       | none=>pure none
      | _=>pure none
     match still with
     | none=>rule "set.search.anew"; setSearchFrom a (.ref b) (κ.hash k) true fuel none
     | some i'=>if equal then return .there (some i') else setSearchFrom a (.ref b) (κ.hash k) true fuel (some (W t.mask (W t.mask (t.probeStart (κ.hash k)) m0) (m + 1)))) Q E s:=by
    rw [jg3,hxi]
    dsimp only [Option.map,entry]
    refine wpAny_bind (wpAny_holding (κ.eqBool hr (S.each x hxm) hx ?_))
    refine wpAny_bind (jb2 S ?_)
    dsimp only
    by_cases hk:x.1 = k
    ·rw [decide_eq_true hk]
     simp only [Bool.and_self,if_true]
     exact wpAny_pure (hT (List.mem_map.mpr ⟨x,hxm,hk⟩))
    ·rw [decide_eq_false hk]
     simp only [Bool.and_false,Bool.false_eq_true,if_false]
     have hsm:t.sameMemory t.moves t.mask = some true:=by unfold SetTable.sameMemory; rw [if_pos (by simp)]
     rw [hsm]
     dsimp only
     rw [if_pos rfl,h3]
     dsimp only
     rw [jg3,hxi]
     dsimp only [Option.map,entry]
     refine wpAny_bind (wpAny_isSame_ref_self (wpAny_bind (wpAny_pure ?_)))
     simp only [if_true]
     refine ih (r - (m + 1)) (by lia) (m0 + (m + 1)) fuel (by lia) (by lia) (fun m' i' hm' hl y hy=>?_) _ (by rw [<- js8]; rfl)
     by_cases c1:m' < m0
     ·exact hv m' i' c1 hl y hy
     ·obtain ⟨q,rfl⟩ : ∃ q,m' = m0 + q:=⟨m' - m0,by lia⟩
      rw [js8] at hl
      by_cases c2:q < m
      ·intro e
       refine h5 q c2 i' hl ?_
       show ((xs.map (entry κ)).toArray[i']?.map (·.1)).getD 0 = κ.hash k
       rw [jg3,hy]
       show κ.hash y.1 = κ.hash k
       rw [e]
      ·have:q = m:=by lia
       subst this
       rw [h3] at hl
       cases hl
       rw [hxi] at hy
       cases hy
       exact hk
   by_cases hl:led = true
   ·have hl':t.led = true:=S.led'.trans hl
    rw [hl']
    simp only [Bool.not_true,Bool.false_eq_true,if_false]
    exact rest
   ·have hl':t.led = false:=S.led'.trans (Bool.eq_false_iff.mpr hl)
    rw [hl']
    simp only [Bool.not_false,if_true]
    have el:((((xs.map (entry κ)).toArray.filter (·.1 == κ.hash k))).toList.map (·.2)) = (xs.filter fun y=>κ.hash y.1 == κ.hash k).map fun y=>Value.ref y.2:=by
     rw [Array.toList_filter,List.filter_map,List.map_map]
     rfl
    rw [el]
    refine wpAny_bind (qr8 hx (fun y hy=>S.each y (List.mem_filter.mp hy).1) ?_)
    simp only [Bool.false_eq_true,if_false]
    exact rest
  ·have hp2:=hpr.trans h2
   generalize hpq:t.probe _ (κ.hash k) (stand.getD (t.probeStart (κ.hash k))) = pr
   obtain rfl:=hpq.symm.trans hp2
   dsimp only
   have ej:(W t.mask (W t.mask (t.probeStart (κ.hash k)) m0) r).j = (W t.mask (t.probeStart (κ.hash k)) D).j:=by rw [<- js8,hm]
   rw [ej]
   refine wpAny_pure (hF (fun hmem=>?_) _ (vc2 t.mask _ D) hE ⟨D,rfl,hB⟩)
   refine x1_2 (List.mem_map.mp hmem) fun x hxm ek=>?_
   obtain ⟨i,hi,ei⟩:=List.mem_iff_getElem.mp hxm
   have hxi:xs[i]? = some x:=by rw [List.getElem?_eq_getElem hi,ei]
   refine x1_2 (S.paths i hi) fun ki p1 p2=>?_
   have hh:(fun i=>((xs.map (entry κ)).toArray[i]?.map (·.1)).getD 0) i = κ.hash k:=by
    show ((xs.map (entry κ)).toArray[i]?.map (·.1)).getD 0 = κ.hash k
    rw [jg3,hxi]
    show κ.hash x.1 = κ.hash k
    rw [ek]
   rw [hh] at p1 p2
   have sl:t.slot (W t.mask (t.probeStart (κ.hash k)) ki).j = .live i:=by rw [p1]; exact ke6 S.good hi
   have c1:ki < D:=by
    rcases Nat.lt_trichotomy ki D with c | c | c
    ·exact c
    ·subst c; rw [sl] at hE; cases hE
    ·exact absurd hE (p2 D c)
   by_cases c2:ki < m0
   ·exact hv ki i c2 sl x hxi ek
   ·obtain ⟨q,rfl⟩ : ∃ q,ki = m0 + q:=⟨ki - m0,by lia⟩
    rw [js8] at sl
    exact h1 q (by lia) i sl hh
end
end Ts
end T_Ts
section T_Ts2
namespace Ts
open PySem PySem.SetTable Tb
section
variable {prog:Program} {w:World} {K:Type} [DecidableEq K] {κ:SKind prog w K}
variable {A:Around} {E:Value -> Shared -> Prop} {s:Shared} {a b:Addr} {led:Bool} {xs:List (K × Addr)} {o:Obj} {ep:Nat} {t:SetTable} {k:K}
theorem SetO.store (S:SetO κ s.heap a led xs o ep t) {ys:List (K × Addr)} {t':SetTable} (hg:Good t' ys.length) (hp:kb2 t' (fun i=>((ys.map (entry κ)).toArray[i]?.map (·.1)).getD 0) ys.length) (hl:t'.led = led) (hpl:t'.plain = true)
  (hk:(ys.map (·.1)).Nodup) (he:∀ x ∈ ys,κ.is s.heap x.1 x.2) :
  let h':=s.heap.update a (Obj.putSet (ys.map (entry κ)).toArray t')
  Heap.SameBut a s.heap h' /\ h'.get? a = some { o with data:=.set (ys.map (entry κ)).toArray (ep + 1) t' } /\ (∀ x ∈ ys,κ.is h' x.1 x.2) /\
   (ys.length * 5 < t'.mask * 3 -> SetO κ h' a led ys { o with data:=.set (ys.map (entry κ)).toArray (ep + 1) t' } (ep + 1) t'):=by
 intro h'
 have sb:Heap.SameBut a s.heap h':=Heap.SameBut.update ..
 have hg':h'.get? a = some { o with data:=.set (ys.map (entry κ)).toArray (ep + 1) t' }:=by
  have:=Heap.get?_update_self (Obj.putSet (ys.map (entry κ)).toArray t') S.obj (by rw [putSet_of _ t' S.data]; rfl)
  rw [putSet_of _ t' S.data] at this; exact this
 have hi:∀ x ∈ ys,κ.is h' x.1 x.2:=fun x hx=>vb6 κ (he x hx) S.obj S.exact'.1 sb
 exact ⟨sb,hg',hi,fun hf=>⟨hg',S.exact',rfl,hg,hp,hl,hpl,hf,hk,hi⟩⟩
theorem jn9 {n M:Nat} (h:(M = 32 /\ 16 <= n /\ n < 32) \/ (M = 128 /\ 64 <= n /\ n < 128)):sizeAbove n = M:=by
 unfold sizeAbove
 rcases h with ⟨rfl,h1,h2⟩ | ⟨rfl,h1,h2⟩
 ·unfold sizeAbove.go; rw [if_pos (by lia)]
  unfold sizeAbove.go; rw [if_pos (by lia)]
  unfold sizeAbove.go; rw [if_neg (by lia)]
 ·unfold sizeAbove.go; rw [if_pos (by lia)]
  unfold sizeAbove.go; rw [if_pos (by lia)]
  unfold sizeAbove.go; rw [if_pos (by lia)]
  unfold sizeAbove.go; rw [if_pos (by lia)]
  unfold sizeAbove.go; rw [if_neg (by lia)]
theorem jx8 {α:Type} (l:List α) (p:Nat) (x y:α):y ∈ l.take p ++ x :: l.drop p ↔ y = x \/ y ∈ l:=by
 rw [List.mem_append,List.mem_cons]
 have:y ∈ l ↔ y ∈ l.take p \/ y ∈ l.drop p:=by rw [<- List.mem_append,List.take_append_drop]
 rw [this]
 constructor
 ·rintro (h | h | h)
  ·exact .inr (.inl h)
  ·exact .inl h
  ·exact .inr (.inr h)
 ·rintro (h | h | h)
  ·exact .inr (.inl h)
  ·exact .inl h
  ·exact .inr (.inr h)
theorem kz9 {α:Type} {l:List α} {x:α} (p:Nat) (h:l.Nodup) (hx:x ∉ l):(l.take p ++ x :: l.drop p).Nodup:=by
 have e:(l.take p ++ x :: l.drop p).Perm (x :: l):=by
  refine List.perm_middle.trans ?_
  rw [List.take_append_drop]
 exact e.nodup_iff.mpr (List.nodup_cons.mpr ⟨hx,h⟩)
theorem qn0 {α:Type} (l:List α) (order:Array Nat) {n:Nat} (hl:l.length = n) (ho:order.size = n) (hlt:∀ m,m < n -> order.getD m 0 < n) :
  (order.toList.filterMap (fun i=>l[i]?)).length = n /\ ∀ m,m < n -> (order.toList.filterMap (fun i=>l[i]?))[m]? = l[order.getD m 0]?:=by
 have key:∀ (q:List Nat),(∀ i ∈ q,i < l.length) -> (q.filterMap (fun i=>l[i]?)).length = q.length /\ ∀ m,m < q.length -> (q.filterMap (fun i=>l[i]?))[m]? = l[q.getD m 0]?:=by
  intro q
  induction q with
  | nil=>intro _; exact ⟨rfl,fun m h=>absurd h (Nat.not_lt_zero _)⟩
  | cons i q ih =>
   intro h
   have hi:=h i List.mem_cons_self
   obtain ⟨a1,a2⟩:=ih fun j hj=>h j (List.mem_cons_of_mem _ hj)
   rw [List.filterMap_cons_some (b:=l[i]) (List.getElem?_eq_getElem hi)]
   refine ⟨by rw [List.length_cons,List.length_cons,a1],fun m hm=>?_⟩
   cases m with
   | zero=>simp [List.getElem?_eq_getElem hi]
   | succ m=>simpa using a2 m (by simpa using hm)
 have hm:∀ i ∈ order.toList,i < l.length:=fun i hi=>by
  obtain ⟨m,h1,h2⟩:=List.mem_iff_getElem.mp hi
  have hz:m < order.size:=by rw [<- Array.length_toList]; exact h1
  have:=hlt m (by lia)
  have e:order.getD m 0 = i:=by simp [Array.getD,hz]; rw [<- h2]; simp
  lia
 obtain ⟨b1,b2⟩:=key order.toList hm
 refine ⟨by rw [b1,Array.length_toList,ho],fun m h=>?_⟩
 rw [b2 m (by rw [Array.length_toList]; lia)]
 congr 1
 have hz:m < order.size:=by lia
 simp [Array.getD,List.getD,hz]
theorem qi1 {Q:Unit -> Shared -> Prop} {wanted M:Nat} (ho:s.heap.get? a = some o) (hx:o.ExactSet) (hd:o.data = .set (xs.map (entry κ)).toArray ep t) (hg:Good t xs.length) (hl:t.led = led) (hpl:t.plain = true) (hk:(xs.map (·.1)).Nodup) (he:∀ x ∈ xs,κ.is s.heap x.1 x.2)
  (hM:Msk M) (hw:sizeAbove wanted = M + 1) (hn:xs.length * 5 < M * 3)
  (h:∀ h' o' ep' t' ys,Heap.SameBut a s.heap h' -> SetO κ h' a led ys o' ep' t' -> (∀ x,x ∈ ys ↔ x ∈ xs) -> ys.length = xs.length -> Q () { s with heap:=h' }):wpAny (model prog w) A (setRelay a wanted) Q E s:=by
 unfold setRelay
 refine wpAny_bind (wpAny_setState_of ho hd (by simpa using kq4 hg) ?_)
 dsimp only
 have hM':M < 200:=by rcases hM with e | e | e <;> lia
 rw [if_neg (by rw [hw,sizeLine_eq]; lia)]
 obtain ⟨t',order,e1,g1,e2,e3,e4,e5,e6,e7,e8,e9⟩:=kx1 (n:=xs.length) hM (((xs.map (entry κ)).toArray).map (·.1)) (by simp) (by lia) t.finger (t.movedTo M) t.led t.plain
 have hrl:t.relaid (((xs.map (entry κ)).toArray).map (·.1)) wanted = some (t',order):=by
  unfold SetTable.relaid
  rw [hw,Nat.add_sub_cancel]
  exact e1
 rw [hrl]
 obtain ⟨r1,r2⟩:=qn0 xs order rfl e5 e6
 have ent:order.filterMap (fun i=>((xs.map (entry κ)).toArray)[i]?) = ((order.toList.filterMap (fun i=>xs[i]?)).map (entry κ)).toArray:=by
  apply Array.toList_inj.mp
  rw [Array.toList_filterMap,List.map_filterMap]
  congr 1
  funext i
  rw [jg3]
 refine wpAny_bind (wpAny_of_eq (a:=(((order.toList.filterMap (fun i=>xs[i]?)).map (entry κ)).toArray,t')) ?_ ?_)
 ·show (do
   if (order.filterMap (fun i=>((xs.map (entry κ)).toArray)[i]?)).size != ((xs.map (entry κ)).toArray).size then unsupported "internal:set-table-lost-an-element"
   pure (order.filterMap (fun i=>((xs.map (entry κ)).toArray)[i]?),t'):Sem (Array (Int × Value) × SetTable)) = _
  rw [ent,if_neg (by simp [r1])]
  first | done | rfl
 dsimp only
 have len:(order.toList.filterMap (fun i=>xs[i]?)).length = xs.length:=r1
 have mem:∀ x,x ∈ order.toList.filterMap (fun i=>xs[i]?) ↔ x ∈ xs:=fun x=>by
  rw [List.mem_filterMap]
  constructor
  ·rintro ⟨i,_,e⟩; exact List.mem_of_getElem? e
  ·intro hx'
   obtain ⟨i,hi,ei⟩:=List.mem_iff_getElem.mp hx'
   refine x1_2 (e8 i hi) fun m hm em=>?_
   have hz:m < order.size:=by lia
   refine ⟨i,?_,by rw [List.getElem?_eq_getElem hi,ei]⟩
   have:order[m] = i:=by rw [<- em]; simp [Array.getD,hz]
   rw [<- this]
   exact Array.mem_toList_iff.mpr (Array.getElem_mem hz)
 have nd:((order.toList.filterMap (fun i=>xs[i]?)).map (·.1)).Nodup:=by
  rw [List.nodup_iff_pairwise_ne,List.pairwise_iff_getElem]
  intro i j hi hj hij e
  rw [List.length_map,len] at hi hj
  have gi:=r2 i hi
  have gj:=r2 j hj
  rw [List.getElem?_eq_getElem (by lia),List.getElem?_eq_getElem (e6 i hi)] at gi
  rw [List.getElem?_eq_getElem (by lia),List.getElem?_eq_getElem (e6 j hj)] at gj
  rw [List.getElem_map,List.getElem_map,Option.some.inj gi,Option.some.inj gj] at e
  have pw:=List.pairwise_iff_getElem.mp (List.nodup_iff_pairwise_ne.mp hk)
  have a1:order.getD i 0 < (xs.map (·.1)).length:=by rw [List.length_map]; exact e6 i hi
  have a2:order.getD j 0 < (xs.map (·.1)).length:=by rw [List.length_map]; exact e6 j hj
  rcases Nat.lt_trichotomy (order.getD i 0) (order.getD j 0) with c | c | c
  ·exact pw _ _ a1 a2 c (by rw [List.getElem_map,List.getElem_map]; exact e)
  ·have:=e7 i j hi hj c; lia
  ·exact pw _ _ a2 a1 c (by rw [List.getElem_map,List.getElem_map]; exact e.symm)
 have pth:kb2 t' (fun i=>(((order.toList.filterMap (fun i=>xs[i]?)).map (entry κ)).toArray[i]?.map (·.1)).getD 0) (order.toList.filterMap (fun i=>xs[i]?)).length:=by
  rw [len]
  intro i hi
  have q:=e9 i hi
  have ee:(((order.toList.filterMap (fun i=>xs[i]?)).map (entry κ)).toArray[i]?.map (·.1)).getD 0 = (((xs.map (entry κ)).toArray).map (·.1)).getD (order.getD i 0) 0:=by
   rw [jg3,r2 i hi]
   generalize order.getD i 0 = z
   rw [Array.getD_eq_getD_getElem?,Array.getElem?_map,jg3]
  show jv0 t' ((((order.toList.filterMap (fun i=>xs[i]?)).map (entry κ)).toArray[i]?.map (·.1)).getD 0) (t'.place.getD i 0)
  rw [ee]
  exact q
 have sb:Heap.SameBut a s.heap (s.heap.update a (Obj.putSet ((order.toList.filterMap (fun i=>xs[i]?)).map (entry κ)).toArray t')):=Heap.SameBut.update ..
 have hg':=Heap.get?_update_self (Obj.putSet ((order.toList.filterMap (fun i=>xs[i]?)).map (entry κ)).toArray t') ho (by rw [putSet_of _ t' hd]; rfl)
 rw [putSet_of _ t' hd] at hg'
 refine wpAny_storeSet_of ho hd (h _ _ (ep + 1) t' (order.toList.filterMap (fun i=>xs[i]?)) sb ⟨hg',hx,rfl,by rw [len]; exact g1,pth,e3.trans hl,e4.trans hpl,by rw [len,e2]; exact hn,nd,fun x hx'=>vb6 κ (he x ((mem x).mp hx')) ho hx.1 sb⟩ mem len) ?_
 rw [List.size_toArray,List.length_map,len,sizeLine_eq]
 lia
theorem qy4 {Q:Bool -> Shared -> Prop} (S:SetO κ s.heap a led xs o ep t) (hr:κ.room A) (hx:κ.is s.heap k b) (hn:xs.length < 60)
  (h:∀ c h' o' ep' t' ys,Heap.SameBut a s.heap h' -> SetO κ h' a led ys o' ep' t' -> (∀ x ∈ ys,x ∈ xs \/ x = (k,b)) -> (∀ x ∈ xs,x ∈ ys) -> k ∈ ys.map (·.1) -> ys.length <= xs.length + 1 -> Q c { s with heap:=h',toks:=s.toks + κ.draws k }) :
  wpAny (model prog w) A (setAdd a (.ref b)) Q E s:=by
 unfold setAdd
 refine wpAny_holding (wpAny_bind (κ.pyHash hr hx ?_))
 have S':SetO κ ({ s with toks:=s.toks + κ.draws k }:Shared).heap a led xs o ep t:=S
 have hx':κ.is ({ s with toks:=s.toks + κ.draws k }:Shared).heap k b:=hx
 refine x1_3 (dist S.good (κ.hash k)) fun D d1 d2 d3=>?_
 have hm:t.mask <= 127:=by rcases S.good.msk with e | e | e <;> lia
 unfold setAddHashed setAddHashedIn
 refine wpAny_holding (wpAny_bind (jb2 S' ?_))
 dsimp only
 have hsc:byScan (.ref b) (xs.map (entry κ)).toArray = false:=by simp [byScan,Value.scannable]
 rw [hsc]
 simp only [Bool.false_eq_true,if_false]
 unfold setSearch
 refine wpAny_bind (ks6 S' hr hx' (fun hmem=>?_) (fun hmem j hj he hp=>?_) d1 d2 d3 D 0 100000 (by lia) (by lia) (fun m i h0=>absurd h0 (Nat.not_lt_zero _)) none rfl)
 ·dsimp only
  refine wpAny_pure (h false s.heap o ep t xs (.refl ..) S (fun x hx=>.inl hx) (fun x hx=>hx) hmem (by lia))
 dsimp only
 refine wpAny_bind (jb2 S' ?_)
 dsimp only
 have hf1:xs.length + 1 < t.mask:=by
  have:=S.few
  rcases S.good.msk with e | e | e <;> rw [e] at this ⊢ <;> lia
 refine x0_6 (kk0 S.good hj he hf1) fun g1 p1 p2 p3 p4 p5=>?_
 have hpl:(t.put j).1.plain = true:=by rw [ku2 S.good]; exact S.plain
 have hld:(t.put j).1.led = led:=by rw [ku2 S.good]; exact S.led'
 rw [hpl]
 simp only [if_true]
 refine wpAny_bind (κ.byVal hx' ?_)
 simp only [if_true]
 have ent:SetTable.insertAt (xs.map (entry κ)).toArray (t.put j).2 (κ.hash k,Value.ref b) = ((xs.take (below t.place j) ++ (k,b) :: xs.drop (below t.place j)).map (entry κ)).toArray:=by
  apply Array.toList_inj.mp
  rw [jn5,p1,List.map_append,List.map_cons,List.map_take,List.map_drop]
  rfl
 rw [ent]
 have len:(xs.take (below t.place j) ++ (k,b) :: xs.drop (below t.place j)).length = xs.length + 1:=by
  rw [List.length_append,List.length_cons,List.length_take,List.length_drop]; lia
 have nd:((xs.take (below t.place j) ++ (k,b) :: xs.drop (below t.place j)).map (·.1)).Nodup:=by
  rw [List.map_append,List.map_cons,List.map_take,List.map_drop]
  exact kz9 _ S.keys hmem
 have mem:∀ x,x ∈ (xs.take (below t.place j) ++ (k,b) :: xs.drop (below t.place j)) ↔ x = (k,b) \/ x ∈ xs:=fun x=>jx8 _ _ _ _
 have is':∀ x ∈ (xs.take (below t.place j) ++ (k,b) :: xs.drop (below t.place j)),κ.is s.heap x.1 x.2:=fun x hx2=>by
  rcases (mem x).mp hx2 with e | e
  ·rw [e]; exact hx
  ·exact S.each x e
 have pth:kb2 (t.put j).1 (fun i=>(((xs.take (below t.place j) ++ (k,b) :: xs.drop (below t.place j)).map (entry κ)).toArray[i]?.map (·.1)).getD 0) (xs.length + 1):=by
  refine qa6 S.good hj he hf1 S.paths (h:=κ.hash k) (fun i hi=>?_) hp
  rw [<- ent,p1,js1 _ _ _ (by simp; exact p2)]
  by_cases c1:i < below t.place j
  ·rw [if_pos c1,if_pos c1]
  ·rw [if_neg c1,if_neg c1]
   by_cases c2:i = below t.place j
   ·rw [if_pos c2,if_pos c2]; rfl
   ·rw [if_neg c2,if_neg c2]
 obtain ⟨sb,hg',is2,S2⟩:=SetO.store (s:={ s with toks:=s.toks + κ.draws k }) S' (t':=(t.put j).1) (by rw [len]; exact g1) (by rw [len]; exact pth) hld hpl nd is'
 refine wpAny_bind (wpAny_storeSet_of S.obj S.data ?_ (by rw [List.size_toArray,List.length_map,len,sizeLine_eq]; lia))
 have hend:∀ h' o' ep' t' ys,Heap.SameBut a s.heap h' -> SetO κ h' a led ys o' ep' t' -> (∀ x,x ∈ ys ↔ x ∈ (xs.take (below t.place j) ++ (k,b) :: xs.drop (below t.place j))) -> ys.length = xs.length + 1 -> Q true { s with heap:=h',toks:=s.toks + κ.draws k } :=
  fun h' o' ep' t' ys q1 q2 q3 q4=>h true h' o' ep' t' ys q1 q2 (fun x hx2=>((mem x).mp ((q3 x).mp hx2)).symm) (fun x hx2=>(q3 x).mpr ((mem x).mpr (.inr hx2))) (List.mem_map.mpr ⟨(k,b),(q3 _).mpr ((mem _).mpr (.inl rfl)),rfl⟩) (by lia)
 have tf:(t.put j).1.tooFull = decide ((xs.length + 1) * 5 ≥ t.mask * 3):=by
  unfold SetTable.tooFull SetTable.fill
  rw [g1.dum,g1.size,p3]
  simp
 rw [tf]
 simp only [Bool.not_false,Bool.true_and]
 by_cases full:(xs.length + 1) * 5 ≥ t.mask * 3
 ·rw [if_pos (decide_eq_true full)]
  have few:=S.few
  have hM:∃ M,Msk M /\ sizeAbove (SetTable.grown ((xs.map (entry κ)).toArray.size + 1)) = M + 1 /\ (xs.length + 1) * 5 < M * 3:=by
   have eg:SetTable.grown ((xs.map (entry κ)).toArray.size + 1) = (xs.length + 1) * 4:=by
    unfold SetTable.grown
    rw [List.size_toArray,List.length_map,if_neg (by lia)]
   rw [eg]
   rcases S.good.msk with e | e | e
   ·rw [e] at full few
    exact ⟨31,.inr (.inl rfl),jn9 (.inl ⟨rfl,by lia,by lia⟩),by lia⟩
   ·rw [e] at full few
    exact ⟨127,.inr (.inr rfl),jn9 (.inr ⟨rfl,by lia,by lia⟩),by lia⟩
   ·rw [e] at full; lia
  refine x1_3 hM fun M hM1 hM2 hM3=>?_
  clear hM
  refine wpAny_bind (qi1 (κ:=κ) (M:=M) (led:=led) (s:={ s with heap:=_,toks:=_ }) hg' S.exact' rfl (by rw [len]; exact g1) hld hpl nd is2 hM1 hM2 (by rw [len]; exact hM3) fun h' o' ep' t' ys q1 q2 q3 q4=>?_)
  exact wpAny_pure (hend h' o' ep' t' ys (sb.trans q1) q2 q3 (q4.trans len))
 ·rw [if_neg (by simp; lia)]
  refine wpAny_pure (hend _ _ _ _ _ sb (S2 (by rw [len,p3]; lia)) (fun x=>Iff.rfl) len)
end
end Ts
end T_Ts2
section T_Ts3
namespace Ts
open PySem PySem.SetTable Tb
section
variable {prog:Program} {w:World} {K:Type} [DecidableEq K] {κ:SKind prog w K}
variable {A:Around} {E:Value -> Shared -> Prop} {R:Result -> Shared -> Prop} {s:Shared} {a b:Addr} {led:Bool} {xs:List (K × Addr)} {o:Obj} {ep:Nat} {t:SetTable} {k:K}
theorem SetO.keep {h h':Heap} (S:SetO κ h a led xs o ep t) (e:∀ b o,h.get? b = some o -> (b = a \/ o.cls = .type "tuple") -> h'.get? b = some o):SetO κ h' a led xs o ep t :=
 ⟨e _ _ S.obj (.inl rfl),S.exact',S.data,S.good,S.paths,S.led',S.plain,S.few,S.keys,fun x hx=>κ.mono (S.each x hx) fun b o q c=>e b o q (.inr c)⟩
theorem qn5 {S I l:Addr} {ys:List (K × Addr)} (hh:A.handled = none) (hroom:κ.room A.in1) (hSI:S ≠ I) (hSl:S ≠ l) (hlI:l ≠ I) (hn:ys.length <= 50) :
  ∀ (r i:Nat) (s:Shared) (xs:List (K × Addr)) (o:Obj) (ep:Nat) (t:SetTable),i + r = ys.length -> s.heap.IsListIter I l i -> s.heap.IsList l (ys.map fun y=>Value.ref y.2).toArray -> SetO κ s.heap S led xs o ep t ->
   (∀ y ∈ ys,κ.is s.heap y.1 y.2) -> (∀ x ∈ xs,x ∈ ys) -> (∀ j y,j < i -> ys[j]? = some y -> y.1 ∈ xs.map (·.1)) -> xs.length <= i ->
   (∀ h' tk o' ep' t' zs,(∀ b ob,b ≠ S -> b ≠ I -> s.heap.get? b = some ob -> h'.get? b = some ob) -> SetO κ h' S led zs o' ep' t' -> (∀ x ∈ zs,x ∈ ys) -> (∀ y ∈ ys,y.1 ∈ zs.map (·.1)) -> R (.ok (.ret .none)) { s with heap:=h',toks:=tk }) ->
   codeAny (model prog w) A (.builtin "set.update.loop" ⟨[.ref S,.ref I],[]⟩) R s:=by
 intro r
 induction r with
 | zero =>
  intro i s xs o ep t hi hit hl hS hk hx hd hz hR
  refine codeAny_builtin PyProof.Rows.F.entry_set_update_loop ?_
  rw [Around.under_plainId PyProof.Rows.F.plain_set_update_loop _]
  refine wpAny_bind (m:=pyNext (.ref I)) (wpAny_pyNext_list_end hh hit hl (by simp; lia) fun h' he=>?_)
  refine wpAny_pure (hR h' s.toks o ep t xs (fun b ob _ h2 e=>he b ob h2 e) (hS.keep fun b ob e c=>he b ob ?_ e) hx fun y hy=>?_)
  ·rintro rfl
   rcases c with c | c
   ·exact hSI c.symm
   ·refine x1_3 hit fun oi h1 h2 _=>?_
    clear hit
    obtain rfl:=Option.some.inj (e.symm.trans h1)
    rw [h2] at c; exact absurd c (by decide)
  ·obtain ⟨j,hj,ej⟩:=List.mem_iff_getElem.mp hy
   exact hd j y (by lia) (by rw [List.getElem?_eq_getElem hj,ej])
 | succ r ih =>
  intro i s xs o ep t hi hit hl hS hk hx hd hz hR
  have hil:i < ys.length:=by lia
  refine codeAny_builtin PyProof.Rows.F.entry_set_update_loop ?_
  rw [Around.under_plainId PyProof.Rows.F.plain_set_update_loop _]
  refine wpAny_bind (m:=pyNext (.ref I)) (wpAny_pyNext_list_item hit hl (x:=.ref (ys[i]).2) (by simp [hil]) fun h1 hit1 sb1=>?_)
  have tupI:∀ b ob,s.heap.get? b = some ob -> ob.cls = .type "tuple" -> b ≠ I:=fun b ob e c z=>by
   subst z
   refine x1_3 hit fun oi q1 q2 _=>?_
   clear hit
   obtain rfl:=Option.some.inj (e.symm.trans q1)
   rw [q2] at c; exact absurd c (by decide)
  have keep1:∀ b ob,s.heap.get? b = some ob -> (b = S \/ ob.cls = .type "tuple") -> h1.get? b = some ob:=fun b ob e c=>by
   rw [sb1.2 b ?_]
   ·exact e
   ·rcases c with c | c
    ·rw [c]; exact hSI
    ·exact tupI b ob e c
  have S1:SetO κ ({ s with heap:=h1 }:Shared).heap S led xs o ep t:=hS.keep keep1
  have hk1:∀ y ∈ ys,κ.is h1 y.1 y.2:=fun y hy=>κ.mono (hk y hy) fun b ob e c=>keep1 b ob e (.inr c)
  have hm:ys[i] ∈ ys:=List.getElem_mem hil
  dsimp only
  refine wpAny_bind (wpAny_holding (qy4 S1 hroom (hk1 _ hm) (by lia) fun c h2 o2 ep2 t2 zs sb2 S2 m1 m2 m3 m4=>?_))
  refine wpAny_pure ⟨plainId_quiet PyProof.Rows.F.plain_set_update_loop _,?_⟩
  have tupS:∀ b ob,h1.get? b = some ob -> ob.cls = .type "tuple" -> b ≠ S:=fun b ob e c z=>by
   subst z
   obtain rfl:=Option.some.inj (e.symm.trans S1.obj)
   rw [S1.exact'.1] at c; exact absurd c (by decide)
  refine ih (i + 1) _ zs o2 ep2 t2 (by lia) (hit1.at fun ob e=>by rw [sb2.2 _ (Ne.symm hSI)]; exact e) ?_ S2 (fun y hy=>κ.mono (hk1 y hy) fun b ob e c=>by rw [sb2.2 b (tupS b ob e c)]; exact e)
   (fun x hx'=>?_) (fun j y hj hy=>?_) (by lia) fun h' tk o' ep' t' ws q1 q2 q3 q4=>?_
  ·refine hl.at fun ob e=>?_
   show h2.get? l = _
   rw [sb2.2 _ (Ne.symm hSl),sb1.2 _ hlI]; exact e
  ·rcases m1 x hx' with e | e
   ·exact hx x e
   ·rw [e]; exact hm
  ·by_cases c:j < i
   ·refine x1_2 (List.mem_map.mp (hd j y c hy)) fun x hx1 hx2=>?_
    exact List.mem_map.mpr ⟨x,m2 x hx1,hx2⟩
   ·have:j = i:=by lia
    subst this
    rw [List.getElem?_eq_getElem hil] at hy
    obtain rfl:=Option.some.inj hy
    exact m3
  ·refine hR h' tk o' ep' t' ws (fun b ob h1' h2' e=>q1 b ob h1' h2' ?_) q2 q3 q4
   show h2.get? b = _
   rw [sb2.2 b h1',sb1.2 b h2']; exact e
end
end Ts
end T_Ts3
section T_Ts4
namespace Ts
open PySem PySem.SetTable Tb
section
variable {prog:Program} {w:World} {K:Type} [DecidableEq K] {κ:SKind prog w K}
variable {A:Around} {E:Value -> Shared -> Prop} {R:Result -> Shared -> Prop} {s:Shared}
noncomputable def je8 (w:World):Bool:=!(w.params.followText "set-order")
noncomputable def jd1 (w:World):Obj:={ cls:=.type "set",dict:=none,data:=.set #[] 0 (.fresh 0 0 (je8 w)) }
theorem ko1 (w:World):Good (SetTable.fresh 0 0 (je8 w)) 0:=⟨rfl,fun i j _ h=>absurd h (Nat.not_lt_zero _),fun i h=>absurd h (Nat.not_lt_zero _),rfl,.inl rfl,(by show 0 < 7; decide)⟩
theorem ko2 {h:Heap} {a:Addr} (e:h.get? a = some (jd1 w)):SetO κ h a (je8 w) [] (jd1 w) 0 (.fresh 0 0 (je8 w)) :=
 ⟨e,⟨rfl,rfl,rfl⟩,rfl,ko1 w,fun i h=>absurd h (Nat.not_lt_zero _),rfl,rfl,(by show 0 * 5 < 7 * 3; decide),List.nodup_nil,fun x h=>absurd h (by simp)⟩
theorem qg0 (v:Value) {Q₁:Value -> Shared -> Prop} (h:Q₁ (.ref s.heap.objs.size) { s with heap:=s.heap.push (jd1 w) }) :
  codeAny (model prog w) A (.call (.builtin "set.__new__") ⟨[.type "set",v],[]⟩) (wants Q₁ E) s:=by
 refine codeAny_of_tree ?_
 show wpAny _ A.in1 (checkBuiltinCall "set.__new__" ⟨[.type "set",v],[]⟩ >>= fun _=>again (.builtin "set.__new__" ⟨[.type "set",v],[]⟩)) _ _ s
 refine wpAny_bind (wpAny_of_eq (F.newCall_set_1 v) (wpAny_pure ⟨plainId_quiet F.plain_set_new _,codeAny_builtin F.entry_set_new ?_⟩))
 rw [Around.under_plainId F.plain_set_new _]
 unfold Builtin.«set.__new__» Builtin.Frozenset.newClass
 have own:=sub_set_self
 obtain ⟨hp,g,d,tk,os⟩:=s
 dsimp only
 wp_walk
 refine wpAny_askSetting (wpAny_pure ?_)
 dsimp only
 simp only [newObj]
 exact wpAny_bind (wpAny_alloc (wpAny_pure (wpAny_pure h)))
theorem qg9 {l:Addr} {ys:List (K × Addr)} {Q:Value -> Shared -> Prop} (hh:A.handled = none) (hroom:κ.room A.in1.in1.in1) (hl:s.heap.IsList l (ys.map fun y=>Value.ref y.2).toArray) (hn:ys.length <= 50) (hk:∀ y ∈ ys,κ.is s.heap y.1 y.2)
  (h:∀ h' tk o ep t zs,(∀ b ob,s.heap.get? b = some ob -> h'.get? b = some ob) -> SetO κ h' s.heap.objs.size (je8 w) zs o ep t -> (∀ x ∈ zs,x ∈ ys) -> (∀ y ∈ ys,y.1 ∈ zs.map (·.1)) -> Q (.ref s.heap.objs.size) { s with heap:=h',toks:=tk }) :
  wpAny (model prog w) A (call (.type "set") [.ref l]) Q E s:=by
 refine x2_1 F.called_set.mro fun c tl hmro=>?_
 have made:=F.called_set.made
 have sub:=F.called_set.sub
 have n1:=F.called_set.notType
 have n2:=F.called_set.canCreate
 have ct:=F.typeCall_set_1 (.ref l)
 refine wpAny_call (codeAny_of_tree ?_)
 show wpAny _ _ (callAny (.type "set") _) _ _ _
 refine wpAny_pure ⟨Code.quiet_builtin _ (by decide +kernel),codeAny_builtin F.entry_type_call ?_⟩
 rw [Around.under_plain (weight_type_call_type "set" [.ref l] []) rfl]
 repeat any_goals first | assumption | wp_step
 refine codeAny_mono (qg0 (.ref l) (E:=E) (Q₁:=fun obj s₁=>obj = .ref s.heap.objs.size /\ s₁ = { s with heap:=s.heap.push (jd1 w) }) ⟨rfl,rfl⟩) fun r s₁ hr=>?_
 cases r with
 | error e=>exact hr
 | ok fl =>
  cases fl with
  | ret obj =>
   obtain ⟨rfl,rfl⟩:=hr
   have got:(s.heap.push (jd1 w)).get? s.heap.objs.size = some (jd1 w):=Heap.get?_push_size _ rfl
   have ty:Shared.TypeIs { s with heap:=s.heap.push (jd1 w) } (.ref s.heap.objs.size) "set":=⟨_,got,rfl⟩
   have li:=F.called_set.init.lookup
   have bi:=F.called_set.init.bind (.ref s.heap.objs.size)
   repeat any_goals first | assumption | wp_step
   refine codeAny_mono (codeAny_call_builtin (R:=wants (fun r s₂=>r = .none /\ ∃ h' tk o ep t zs,s₂ = { s with heap:=h',toks:=tk } /\ (∀ b ob,s.heap.get? b = some ob -> h'.get? b = some ob) /\ SetO κ h' s.heap.objs.size (je8 w) zs o ep t /\ (∀ x ∈ zs,x ∈ ys) /\ (∀ y ∈ ys,y.1 ∈ zs.map (·.1))) E)
    F.called_set.init.plain F.entry_set_init (check_set_init_1 ty ?_)) fun r₂ s₂ hr₂=>?_
   ·obtain ⟨ol,hol,hcl,nl,hdl⟩:=hl
    obtain ⟨ocls,odict,odata,oslots⟩:=ol
    simp only at hcl hdl
    subst hcl; subst hdl
    have hol':(s.heap.push (jd1 w)).get? l = some { cls:=.type "list",dict:=odict,data:=.seq (ys.map fun y=>Value.ref y.2).toArray nl,slots:=oslots }:=Heap.get?_push_of_some _ hol
    have s1:=F.sub_list_set
    have s2:=F.sub_list_frozenset
    have s3:(Value.type "list" == Value.type "dict") = false:=by decide
    have hl1:(s.heap.push (jd1 w)).IsList l (ys.map fun y=>Value.ref y.2).toArray:=⟨_,hol',rfl,nl,rfl⟩
    have got':(s.heap.push (jd1 w)).get? s.heap.objs.size = some { cls:=.type "set",dict:=none,data:=.set #[] 0 (.fresh 0 0 (je8 w)) }:=got
    unfold Builtin.«set.__init__» noKeywords Builtin.Frozenset.updateFrom
    generalize hPI:pyIter = PI
    wp_walk
    subst hPI
    refine wpAny_pyIter_list hl1 ?_
    refine wpAny_bind (wpAny_runValue ?_)
    have lt:l < s.heap.objs.size:=Heap.lt_size hol
    have sz:(s.heap.push (jd1 w)).objs.size = s.heap.objs.size + 1:=by rw [Heap.size_push]
    have d1:s.heap.objs.size ≠ (s.heap.push (jd1 w)).objs.size:=by rw [sz]; exact Nat.ne_of_lt (Nat.lt_succ_self _)
    have d2:s.heap.objs.size ≠ l:=Nat.ne_of_gt lt
    have d3:l ≠ (s.heap.push (jd1 w)).objs.size:=by rw [sz]; exact Nat.ne_of_lt (Nat.lt_succ_of_lt lt)
    refine qn5 (κ:=κ) (led:=je8 w) (ys:=ys) (by simp [hh]) hroom d1 d2 d3 hn ys.length 0 _ [] (jd1 w) 0 (.fresh 0 0 (je8 w)) (by lia)
     ?h1 ?h2 ?h3 ?hk (fun x hx=>absurd hx (by simp)) (fun j y hj=>absurd hj (Nat.not_lt_zero _)) (Nat.le_refl _) fun h' tk o ep t zs q1 q2 q3 q4=>?_
    case h1=>exact ⟨_,Heap.get?_push_size _ rfl,rfl,rfl⟩
    case h2=>exact hl1.push _
    case h3=>exact ko2 (Heap.get?_push_of_some _ got)
    case hk=>exact fun y hy=>κ.mono (hk y hy) fun b ob e _=>Heap.get?_push_of_some _ (Heap.get?_push_of_some _ e)
    refine wpAny_pure (wpAny_pure ⟨rfl,h',tk,o,ep,t,zs,rfl,fun b ob e=>?_,q2,q3,q4⟩)
    have lb:=Heap.lt_size e
    exact q1 b ob (Nat.ne_of_lt lb) (by rw [sz]; exact Nat.ne_of_lt (Nat.lt_succ_of_lt lb)) (Heap.get?_push_of_some _ (Heap.get?_push_of_some _ e))
   ·cases r₂ with
    | error e=>exact hr₂
    | ok fl₂ =>
     cases fl₂ with
     | ret r =>
      obtain ⟨rfl,h',tk,o,ep,t,zs,rfl,q1,q2,q3,q4⟩:=hr₂
      repeat any_goals first | assumption | wp_step
      exact h h' tk o ep t zs q1 q2 q3 q4
     | _=>exact hr₂.elim
  | _=>exact hr.elim
end
end Ts
end T_Ts4
section T_Ts5
namespace Ts
open PySem PySem.SetTable Tb
theorem Z3:Slot "set_iterator" "__next__" "set_iterator.__next__" :=
 .of (owner:="set_iterator") (n:="__next__") (by rw [typeLookup_type,builtinLookup_eq_fast]; kernel_rfl) (by decide +kernel)
  (by decide +kernel) (by decide +kernel) (by first | exact .inl (by decide +kernel) | exact .inr (by decide +kernel))
  (by rw [isSubtype_type]; kernel_rfl)
theorem jj5:entryFor table "set_iterator.__next__" = some Builtin.«set_iterator.__next__»:=entryFor_of_tree (by kernel_rfl)
theorem jl6 (a:Value):argsOk "set_iterator.__next__" ⟨[a],[]⟩:=by unfold argsOk; kernel_rfl
theorem jt3:entryFor table "set.__iter__" = some Builtin.«frozenset.__iter__» :=
 entryFor_alias (id':="frozenset.__iter__") (by kernel_rfl) rfl (by decide +kernel) (by kernel_rfl)
theorem qb3 {α:Type} (next:Nat -> Nat):∀ (fuel k:Nat) (left:List α) (out:Array α),fuel = left.length -> (pickOrder.go next fuel k left out).toList.Perm (out.toList ++ left)
 | 0,k,left,out,h=>by
  have:left = []:=List.length_eq_zero_iff.mp h.symm
  subst this
  unfold pickOrder.go
  simp
 | fuel + 1,k,left,out,h=>by
  unfold pickOrder.go
  have hlt:next k % left.length < left.length:=Nat.mod_lt _ (by lia)
  rw [List.getElem?_eq_getElem hlt]
  dsimp only
  refine (qb3 next fuel (k + 1) _ _ (by rw [List.length_eraseIdx_of_lt hlt]; lia)).trans ?_
  rw [Array.toList_push,List.append_assoc]
  refine List.Perm.append_left _ ?_
  have e1:left = left.take (next k % left.length) ++ left[next k % left.length] :: left.drop (next k % left.length + 1):=by
   rw [<- List.drop_eq_getElem_cons hlt,List.take_append_drop]
  have e2:left.eraseIdx (next k % left.length) = left.take (next k % left.length) ++ left.drop (next k % left.length + 1):=List.eraseIdx_eq_take_drop_succ _ _
  rw [e2]
  refine List.Perm.trans ?_ (List.Perm.of_eq e1.symm)
  rw [List.singleton_append]
  exact List.perm_middle.symm
theorem kc4 {α:Type} (next:Nat -> Nat) (xs:Array α):(pickOrder next xs).toList.Perm xs.toList:=by
 have:=qb3 next xs.size 0 xs.toList #[] (by simp)
 simpa [pickOrder] using this
section
variable {prog:Program} {w:World} {K:Type} [DecidableEq K] {κ:SKind prog w K}
variable {A:Around} {E:Value -> Shared -> Prop} {R:Result -> Shared -> Prop} {s:Shared} {a I:Addr} {xs:List (K × Addr)} {o:Obj} {ep:Nat} {t:SetTable}
noncomputable def jg8 (w:World) (a:Addr) (ep:Nat) (es:Array (Int × Value)):Array (Int × Value):=if w.params.followText "set-order" then pickOrder (w.params.setOrder a ep) es else es
theorem jp9 (w:World) (a:Addr) (ep:Nat) (es:Array (Int × Value)):(jg8 w a ep es).toList.Perm es.toList:=by
 unfold jg8; split
 ·exact kc4 _ _
 ·exact .refl _
noncomputable def Y9 (w:World) (t:SetTable) (m:Nat):Nat:=if w.params.followText "set-order" then 0 else if m = 0 then 0 else t.place.getD (m - 1) 0 + 1
noncomputable def SIter (h:Heap) (I a:Addr) (n ep slot m:Nat):Prop:=∃ ob,h.get? I = some ob /\ ob.cls = .type "set_iterator" /\ ob.data = .fields #[rawInt slot,rawInt m,.ref a,rawInt n,rawInt ep]
theorem SIter.typeIs {n ep slot m:Nat} (x:SIter s.heap I a n ep slot m):s.TypeIs (.ref I) "set_iterator":=let ⟨ob,h1,h2,_⟩:=x; ⟨ob,h1,h2⟩
theorem js2 {Q:Bool -> Shared -> Prop} (h:Q (w.params.followText "set-order") s):wpAny (model prog w) A setsByText Q E s:=by
 unfold setsByText
 exact wpAny_bind (wpAny_askSetting (wpAny_pure h))
theorem kv6 {Q:Option (Value × Nat) -> Shared -> Prop} {m:Nat} (S:SetO κ s.heap a (je8 w) xs o ep t) (hm:m <= xs.length)
  (h1:∀ e,(jg8 w a ep (xs.map (entry κ)).toArray)[m]? = some e -> Q (some (e.2,Y9 w t (m + 1))) s) (h2:m = xs.length -> Q none s) :
  wpAny (model prog w) A (setNext a (Y9 w t m) m ep) Q E s:=by
 unfold setNext
 refine wpAny_bind (jb2 S ?_)
 dsimp only
 refine wpAny_bind (js2 ?_)
 by_cases hb:w.params.followText "set-order" = true
 ·rw [if_pos hb]
  simp only [bne_self_eq_false,Bool.false_eq_true,if_false]
  unfold setWalk
  refine wpAny_bind (wpAny_bind (jb2 S ?_))
  dsimp only
  refine wpAny_bind (js2 ?_)
  rw [if_pos hb]
  refine wpAny_bind (wpAny_askSetting (wpAny_pure ?_))
  have ew:jg8 w a ep (xs.map (entry κ)).toArray = pickOrder (w.params.setOrder a ep) (xs.map (entry κ)).toArray:=by unfold jg8; rw [if_pos hb]
  have es:∀ q,Y9 w t q = 0:=fun q=>by unfold Y9; rw [if_pos hb]
  have sz:(pickOrder (w.params.setOrder a ep) (xs.map (entry κ)).toArray).size = xs.length:=by
   rw [<- Array.length_toList,(kc4 _ _).length_eq]; simp
  refine wpAny_pure ?_
  show Q ((pickOrder (w.params.setOrder a ep) (xs.map (entry κ)).toArray)[m]?.map fun e=>(e.2,Y9 w t m)) s
  cases q:(pickOrder (w.params.setOrder a ep) (xs.map (entry κ)).toArray)[m]? with
  | none =>
   have:=Array.getElem?_eq_none_iff.mp q
   exact h2 (by lia)
  | some e =>
   have:=h1 e (by rw [ew]; exact q)
   rw [es] at this ⊢
   exact this
 ·rw [if_neg hb]
  have ew:jg8 w a ep (xs.map (entry κ)).toArray = (xs.map (entry κ)).toArray:=by unfold jg8; rw [if_neg hb]
  have ld:t.led = true:=by rw [S.led']; unfold je8; rw [Bool.eq_false_iff.mpr hb]; rfl
  have bl:below t.place (Y9 w t m) = m:=by
   unfold Y9
   rw [if_neg hb]
   by_cases c:m = 0
   ·rw [if_pos c,c]
    refine x0_3 (ji6 S.good.rise 0) fun b1 b2 b3=>?_
    rcases Nat.eq_zero_or_pos (below t.place 0) with z | z
    ·exact z
    ·exact absurd (b2 0 z) (Nat.not_lt_zero _)
   ·rw [if_neg c]
    refine x0_3 (ji6 S.good.rise (t.place.getD (m - 1) 0 + 1)) fun b1 b2 b3=>?_
    rw [S.good.size] at b1 b3
    rcases Nat.lt_trichotomy (below t.place (t.place.getD (m - 1) 0 + 1)) m with z | z | z
    ·have:=b3 (m - 1) (by lia) (by lia)
     lia
    ·exact z
    ·have q1:=b2 m z
     have q2:=S.good.rise (m - 1) m (by lia) (by rw [S.good.size]; lia)
     lia
  refine wpAny_ite ?_
  split
  ·rename_i hd
   exfalso
   have:(!t.plain && decide ((xs.map (entry κ)).toArray.size > 1)) = true:=hd
   rw [S.plain] at this
   cases this
  ·refine wpAny_bind (wpAny_of_eq (a:=()) ?_ ?_)
   ·show (if (!t.led && !((xs.map (entry κ)).toArray).isEmpty) = true then (unsupported "set:maker-not-led" : Sem Unit) else pure ()) = pure ()
    rw [ld]; rfl
   refine wpAny_pure ?_
   show Q (match ((xs.map (entry κ)).toArray)[below t.place (Y9 w t m)]?,t.place[below t.place (Y9 w t m)]? with
    | some (_,x),some j=>some (x,j + 1)
    | _,_=>none) s
   rw [bl]
   by_cases c:m < xs.length
   ·have e1:((xs.map (entry κ)).toArray)[m]? = some (entry κ xs[m]):=by rw [jg3,List.getElem?_eq_getElem c]; rfl
    have hs:m < t.place.size:=by rw [S.good.size]; exact c
    have e2:t.place[m]? = some (t.place.getD m 0):=by simp [Array.getD,hs]
    rw [e1,e2]
    have:=h1 (entry κ xs[m]) (by rw [ew]; exact e1)
    unfold Y9 at this
    rw [if_neg hb,if_neg (by lia),Nat.add_sub_cancel] at this
    exact this
   ·have em:m = xs.length:=by lia
    have e1:((xs.map (entry κ)).toArray)[m]? = none:=by rw [jg3,List.getElem?_eq_none (by lia)]; rfl
    rw [e1]
    exact h2 em
end
end Ts
end T_Ts5
section T_Ts6
namespace Ts
open PySem PySem.SetTable Tb
section
variable {prog:Program} {w:World} {K:Type} [DecidableEq K] {κ:SKind prog w K}
variable {A:Around} {E:Value -> Shared -> Prop} {R:Result -> Shared -> Prop} {s:Shared} {a I:Addr} {xs:List (K × Addr)} {o:Obj} {ep:Nat} {t:SetTable}
theorem jn3 {Q:Array (Int × Value) -> Shared -> Prop} {led:Bool} (S:SetO κ s.heap a led xs o ep t) (h:Q (xs.map (entry κ)).toArray s):wpAny (model prog w) A (setEntries a) Q E s:=by
 unfold setEntries
 exact wpAny_bind (jb2 S (wpAny_pure h))
theorem qm4 {Q:Value -> Shared -> Prop} (S:SetO κ s.heap a (je8 w) xs o ep t) (hn:xs.length <= 50)
  (h:Q (.ref s.heap.objs.size) { s with heap:=s.heap.push { cls:=.type "set_iterator",data:=.fields #[rawInt (Y9 w t 0),rawInt ((0:Nat):Int),.ref a,rawInt xs.length,rawInt ep] } }):wpAny (model prog w) A (pyIter (.ref a)) Q E s:=by
 have ty:s.TypeIs (.ref a) "set":=⟨o,S.obj,S.exact'.1⟩
 refine wpAny_pyIter_slot ty F.slot_set_iter (wpAny_call_entry F.slot_set_iter ty jt3 ?_ (F.args_set_iter_1 _))
 unfold Builtin.«frozenset.__iter__» Builtin.Frozenset.slot0 slotArgs
 simp only [List.isEmpty_nil,Bool.not_true,Bool.false_eq_true,if_false,bind_assoc,List.length_nil,bne_self_eq_false]
 unfold Builtin.Frozenset.addrOf Builtin.Frozenset.sizeOf
 refine wpAny_bind (wpAny_pure ?_)
 try dsimp only
 refine wpAny_bind (wpAny_pure ?_)
 refine wpAny_bind (wpAny_bind (jn3 S (wpAny_pure ?_)))
 refine wpAny_bind ?_
 unfold setDrawn
 refine wpAny_bind (jb2 S ?_)
 dsimp only
 refine wpAny_bind (js2 (wpAny_pure ?_))
 rw [if_neg (by
  intro z
  have z:(!(w.params.followText "set-order") && (!t.plain && decide ((xs.map (entry κ)).toArray.size > 1))) = true:=z
  rw [S.plain] at z
  simp at z)]
 refine wpAny_bind (wpAny_pure ?_)
 have z0:Y9 w t 0 = 0:=by unfold Y9; split <;> rfl
 rw [z0] at h
 refine wpAny_bind ?_
 unfold setEpoch
 refine wpAny_bind (jb2 S (wpAny_pure ?_))
 dsimp only
 unfold newFields
 refine wpAny_bind (wpAny_newObj_type (wpAny_pure ⟨_,rfl,"set_iterator",_,⟨_,Heap.get?_push_size _ rfl,rfl⟩,Z3.lookup,?_⟩))
 simpa using h
theorem qg6 {Q:Option Value -> Shared -> Prop} {m:Nat} {e:Int × Value} (S:SetO κ s.heap a (je8 w) xs o ep t) (hit:SIter s.heap I a xs.length ep (Y9 w t m) m) (he:(jg8 w a ep (xs.map (entry κ)).toArray)[m]? = some e)
  (hm:m < xs.length) (hQ:∀ h',SIter h' I a xs.length ep (Y9 w t (m + 1)) (m + 1) -> Heap.SameBut I s.heap h' -> Q (some e.2) { s with heap:=h' }):wpAny (model prog w) A (pyNext (.ref I)) Q E s:=by
 refine x1_3 (id hit) fun ob ho hc hd=>?_
 unfold pyNext
 refine wpAny_bind (wpAny_attempt (wpAny_callSpecial?_slot (name:=Str.ofString "__next__") hit.typeIs Z3 (wpAny_call_entry Z3 hit.typeIs jj5 ?_ (jl6 _))))
 unfold Builtin.«set_iterator.__next__» slotArgs
 simp only [List.isEmpty_nil,Bool.not_true,Bool.false_eq_true,if_false,bind_assoc,List.length_nil,bne_self_eq_false]
 refine wpAny_bind (wpAny_pure ?_)
 dsimp only
 refine wpAny_bind (wpAny_fieldsOf ho hd ?_)
 dsimp only [rawInt]
 refine wpAny_bind (jn3 S ?_)
 rw [if_neg (by simp)]
 simp only [Int.toNat_natCast]
 refine wpAny_bind (kv6 S (Nat.le_of_lt hm) (fun e' he'=>?_) (fun z=>absurd z (Nat.ne_of_lt hm)))
 obtain rfl:e = e':=Option.some.inj (he.symm.trans he')
 dsimp only
 refine wpAny_bind (wpAny_setField ho hd (by simp) ?_)
 have d1:=Obj.data_mapFields hd (·.setIfInBounds 0 (rawInt (Y9 w t (m + 1):Nat)))
 have g1:=Heap.get?_update_self (Obj.mapFields (·.setIfInBounds 0 (rawInt (Y9 w t (m + 1):Nat)))) ho (Obj.isFreed_of_fields d1)
 refine wpAny_bind (wpAny_setField g1 d1 (by simp) ?_)
 have d2:=Obj.data_mapFields d1 (·.setIfInBounds 1 (rawInt ((m:Int) + 1)))
 have g2:=Heap.get?_update_self (Obj.mapFields (·.setIfInBounds 1 (rawInt ((m:Int) + 1)))) g1 (Obj.isFreed_of_fields d2)
 refine wpAny_pure ⟨_,rfl,wpAny_pure (hQ _ ⟨_,g2,?_,?_⟩ ((Heap.SameBut.update ..).trans (Heap.SameBut.update ..)))⟩
 ·rw [Obj.cls_mapFields,Obj.cls_mapFields]; exact hc
 ·rw [d2]; simp [rawInt]
theorem qm6 {Q:Option Value -> Shared -> Prop} (hh:A.handled = none) (S:SetO κ s.heap a (je8 w) xs o ep t) (hit:SIter s.heap I a xs.length ep (Y9 w t xs.length) xs.length)
  (hQ:∀ h',Heap.ExtBut I s.heap h' -> Q none { s with heap:=h' }):wpAny (model prog w) A (pyNext (.ref I)) Q E s:=by
 refine x1_3 (id hit) fun ob ho hc hd=>?_
 unfold pyNext
 refine wpAny_bind (wpAny_attempt (wpAny_callSpecial?_slot (name:=Str.ofString "__next__") hit.typeIs Z3 (wpAny_call_entry Z3 hit.typeIs jj5 ?_ (jl6 _))))
 unfold Builtin.«set_iterator.__next__» slotArgs
 simp only [List.isEmpty_nil,Bool.not_true,Bool.false_eq_true,if_false,bind_assoc,List.length_nil,bne_self_eq_false]
 refine wpAny_bind (wpAny_pure ?_)
 dsimp only
 refine wpAny_bind (wpAny_fieldsOf ho hd ?_)
 dsimp only [rawInt]
 refine wpAny_bind (jn3 S ?_)
 rw [if_neg (by simp)]
 simp only [Int.toNat_natCast]
 have sz:(jg8 w a ep (xs.map (entry κ)).toArray).size = xs.length:=by rw [<- Array.length_toList,(jp9 _ _ _ _).length_eq]; simp
 refine wpAny_bind (kv6 S (Nat.le_refl _) (fun e' he'=>?_) (fun z=>?_))
 ·rw [Array.getElem?_eq_none (by lia)] at he'; cases he'
 dsimp only
 refine wpAny_bind (wpAny_setField ho hd (by simp) ?_)
 refine wpAny_bind ?_
 simp only [newExc,newTuple]
 refine wpAny_bind (wpAny_newObj_type ?_ (by size_fits))
 refine wpAny_bind (m:=firstArgMember _ _) (wpAny_of_eq (a:=Value.none) (by first | rfl | (simp only [firstArgMember]; rfl)) ?_)
 refine wpAny_newObj_type ?_ (by size_fits)
 simp only [raiseNew]
 refine wpAny_bind (wpAny_handled ?_)
 have hh1:A.in1.handled = none:=hh
 rw [hh1]
 refine wpAny_bind (wpAny_pure (wpAny_throw ?_))
 refine wpAny_bind (wpAny_isInstance (T:="StopIteration") (b:=true) ⟨_,Heap.get?_push_size _ rfl,rfl⟩ isSubtype_stop ?_)
 exact wpAny_pure (hQ _ (((Heap.SameBut.update ..).extBut.push _).push _))
theorem kz8 {L:Addr} {res:Value} (hh:A.handled = none) (hLI:L ≠ I) (hLa:L ≠ a) (hIa:a ≠ I) (hn:xs.length <= 50) :
  ∀ (r m:Nat) (s:Shared),m + r = xs.length -> SetO κ s.heap a (je8 w) xs o ep t -> SIter s.heap I a xs.length ep (Y9 w t m) m ->
   (∃ n,s.heap.get? L = some (PyProof.Rows.seqObj "list" (((jg8 w a ep (xs.map (entry κ)).toArray).toList.take m).map (·.2)).toArray n)) ->
   (∀ h' n,(∀ b ob,b ≠ L -> b ≠ I -> s.heap.get? b = some ob -> h'.get? b = some ob) -> h'.get? L = some (PyProof.Rows.seqObj "list" ((jg8 w a ep (xs.map (entry κ)).toArray).toList.map (·.2)).toArray n) -> R (.ok (.ret res)) { s with heap:=h' }) ->
   codeAny (model prog w) A (.builtin "list.extend.loop" ⟨[.ref L,.ref I,res],[]⟩) R s:=by
 have sz:(jg8 w a ep (xs.map (entry κ)).toArray).size = xs.length:=by rw [<- Array.length_toList,(jp9 _ _ _ _).length_eq]; simp
 have je2:entryFor table "list.extend.loop" = some Builtin.«list.extend.loop»:=entryFor_of_tree (by kernel_rfl)
 have jb6:plainId "list.extend.loop" = true:=by decide +kernel
 intro r
 induction r with
 | zero =>
  intro m s hm S hit ⟨n,hL⟩ hR
  have em:m = xs.length:=by lia
  subst em
  refine codeAny_builtin je2 ?_
  rw [Around.under_plainId jb6 _]
  refine wpAny_bind (m:=pyNext (.ref I)) (qm6 hh S hit fun h' he=>?_)
  refine wpAny_pure (hR h' n (fun b ob _ h2 e=>he b ob h2 e) ?_)
  have:=he L _ hLI hL
  rw [List.take_of_length_le (by rw [Array.length_toList]; lia)] at this
  exact this
 | succ r ih =>
  intro m s hm S hit ⟨n,hL⟩ hR
  have hml:m < xs.length:=by lia
  have hml':m < (jg8 w a ep (xs.map (entry κ)).toArray).size:=by lia
  refine codeAny_builtin je2 ?_
  rw [Around.under_plainId jb6 _]
  refine wpAny_bind (m:=pyNext (.ref I)) (qg6 S hit (Array.getElem?_eq_getElem hml') hml fun h1 hit1 sb1=>?_)
  have hL1:h1.get? L = some (PyProof.Rows.seqObj "list" (((jg8 w a ep (xs.map (entry κ)).toArray).toList.take m).map (·.2)).toArray n):=by rw [sb1.2 L hLI]; exact hL
  refine wpAny_bind (PyProof.Rows.listUpdate_at hL1 rfl ?_ (by simp; rw [sizeLine_eq]; lia) (by simp; rw [sizeLine_eq]; lia))
  refine wpAny_pure ⟨plainId_quiet jb6 _,?_⟩
  have sb2:=Heap.SameBut.update h1 L (Obj.mapSeq fun x=>x.push ((jg8 w a ep (xs.map (entry κ)).toArray)[m]).2)
  have tup:∀ b ob,s.heap.get? b = some ob -> (b = a \/ ob.cls = .type "tuple") -> b ≠ I /\ b ≠ L:=fun b ob e c=>by
   constructor
   ·rintro rfl
    rcases c with c | c
    ·exact hIa c.symm
    ·refine x1_3 hit fun q q1 q2 _=>?_
     clear hit
     obtain rfl:=Option.some.inj (e.symm.trans q1)
     rw [q2] at c; exact absurd c (by decide)
   ·rintro rfl
    rcases c with c | c
    ·exact hLa c
    ·obtain rfl:=Option.some.inj (e.symm.trans hL)
     exact absurd (show Value.type "list" = Value.type "tuple" from c) (by decide)
  refine ih (m + 1) _ (by lia) (S.keep fun b ob e c=>?_) ?_ ?_ fun h' n' q1 q2=>?_
  ·obtain ⟨c1,c2⟩:=tup b ob e c
   show (h1.update L _).get? b = _
   rw [sb2.2 b c2,sb1.2 b c1]; exact e
  ·refine x1_2 hit1 fun q q1 q2=>?_
   clear hit1
   exact ⟨q,(by show (h1.update L _).get? I = _; rw [sb2.2 I (Ne.symm hLI)]; exact q1),q2⟩
  ·obtain ⟨n',hn'⟩ : ∃ n',(h1.update L (Obj.mapSeq fun x=>x.push ((jg8 w a ep (xs.map (entry κ)).toArray)[m]).2)).get? L = some (PyProof.Rows.seqObj "list" ((((jg8 w a ep (xs.map (entry κ)).toArray).toList.take m).map (·.2)).toArray.push ((jg8 w a ep (xs.map (entry κ)).toArray)[m]).2) n'):=⟨_,PyProof.Rows.get?_update_seq hL1 _⟩
   refine ⟨n',hn'.trans ?_⟩
   congr 2
   rw [List.take_succ,List.getElem?_eq_getElem (by rw [Array.length_toList]; exact hml')]
   simp
  ·refine hR h' n' (fun b ob h1' h2' e=>q1 b ob h1' h2' ?_) q2
   show (h1.update L _).get? b = _
   rw [sb2.2 b h1',sb1.2 b h2']; exact e
end
end Ts
end T_Ts6
section T_Ts7
namespace Ts
open PySem PySem.SetTable Tb
section
variable {prog:Program} {w:World} {K:Type} [DecidableEq K] {κ:SKind prog w K}
variable {A:Around} {E:Value -> Shared -> Prop} {R:Result -> Shared -> Prop} {s:Shared} {a I:Addr} {xs:List (K × Addr)} {o:Obj} {ep:Nat} {t:SetTable}
theorem ql5 {Q:Bool -> Shared -> Prop} (hT:s.TypeIs (.ref a) "set") (h:∀ c tk,Q c { s with toks:=tk }):wpAny (model prog w) A (Builtin.List.listLengthHint (.ref a)) Q E s:=by
 unfold Builtin.List.listLengthHint
 refine wpAny_bind (wpAny_specialOf hT F.slot_set_len.lookup ?_)
 have sp:splitId "set.__len__" = some ("set","__len__"):=by kernel_rfl
 dsimp only
 rw [sp]
 dsimp only
 refine wpAny_bind (wpAny_isInstance hT sub_set_self ?_)
 rw [Bool.not_true,if_neg Bool.false_ne_true]
 rw [if_pos (by decide +kernel)]
 refine wpAny_bind (wpAny_typeOf hT ?_)
 exact wpAny_pure (h false s.toks)
theorem kg3 {Q:List Value -> Shared -> Prop} (hh:A.handled = none) (S:SetO κ s.heap a (je8 w) xs o ep t) (hn:xs.length <= 50)
  (h:∀ h' tk vs,(∀ b ob,s.heap.get? b = some ob -> h'.get? b = some ob) -> vs.Perm (xs.map fun x=>Value.ref x.2) -> Q vs { s with heap:=h',toks:=tk }):wpAny (model prog w) A (collect (.ref a)) Q E s:=by
 unfold collect
 refine wpAny_bind (wpAny_runValue (codeAny_builtin PyProof.Rows.entry_proto_collect' ?_))
 refine wpAny_bind (m:=newList []) (wpAny_newList (wpAny_pure ⟨Code.quiet_builtin _ (by decide +kernel),codeAny_builtin PyProof.Rows.entry_list_iadd' ?_⟩))
 show wpAny _ _ (Builtin.List.listExtendWith (.ref s.heap.objs.size) (.ref a) (.ref s.heap.objs.size)) _ _ { s with heap:=s.heap.push (PyProof.Rows.seqObj "list" #[] 0) }
 unfold Builtin.List.listExtendWith
 have al:a < s.heap.objs.size:=Heap.lt_size S.obj
 have S1:SetO κ ({ s with heap:=s.heap.push (PyProof.Rows.seqObj "list" #[] 0) }:Shared).heap a (je8 w) xs o ep t:=S.keep fun b ob e _=>Heap.get?_push_of_some _ e
 have ty1:Shared.TypeIs { s with heap:=s.heap.push (PyProof.Rows.seqObj "list" #[] 0) } (.ref a) "set":=⟨o,S1.obj,S1.exact'.1⟩
 refine wpAny_bind (wpAny_typeOf ty1 ?_)
 have sr:Builtin.List.listSameRef (.ref s.heap.objs.size) (.ref a) = false:=by
  show (s.heap.objs.size == a) = false
  exact beq_eq_false_iff_ne.mpr (Nat.ne_of_gt al)
 rw [sr,if_neg (by decide)]
 refine wpAny_bind (qm4 S1 hn ?_)
 have sz1:(s.heap.push (PyProof.Rows.seqObj "list" #[] 0)).objs.size = s.heap.objs.size + 1:=by rw [Heap.size_push]
 generalize hO:({ cls:=.type "set_iterator",data:=.fields #[rawInt (Y9 w t 0),rawInt ((0:Nat):Int),.ref a,rawInt xs.length,rawInt ep] }:Obj) = ob
 have hI:((s.heap.push (PyProof.Rows.seqObj "list" #[] 0)).push ob).get? (s.heap.push (PyProof.Rows.seqObj "list" #[] 0)).objs.size = some ob:=Heap.get?_push_size _ (by rw [<- hO]; rfl)
 have hl0:((s.heap.push (PyProof.Rows.seqObj "list" #[] 0)).push ob).get? s.heap.objs.size = some (PyProof.Rows.seqObj "list" #[] 0):=Heap.get?_push_of_some _ (Heap.get?_push_size _ rfl)
 have S2:SetO κ ((s.heap.push (PyProof.Rows.seqObj "list" #[] 0)).push ob) a (je8 w) xs o ep t:=S1.keep fun b ob e _=>Heap.get?_push_of_some _ e
 refine wpAny_bind (wpAny_holding (ql5 (s:={ s with heap:=(s.heap.push (PyProof.Rows.seqObj "list" #[] 0)).push ob }) ⟨o,S2.obj,S2.exact'.1⟩ fun c tk=>?_))
 refine wpAny_ite ?_
 split
 ·refine wpAny_bind (wpAny_rule ?_)
  unfold Builtin.List.listTouch
  refine wpAny_bind (wpAny_bind (PyProof.Rows.listUpdate_at hl0 rfl ?_ (by simp) (by simp)))
  obtain ⟨n1,g1⟩ : ∃ n1,(((s.heap.push (PyProof.Rows.seqObj "list" #[] 0)).push ob).update s.heap.objs.size (Obj.mapSeq (·.push .none))).get? s.heap.objs.size = some (PyProof.Rows.seqObj "list" (#[].push .none) n1):=⟨_,PyProof.Rows.get?_update_seq hl0 _⟩
  refine PyProof.Rows.listUpdate_at g1 rfl ?_ (by simp; rw [sizeLine_eq]; decide) (by simp)
  obtain ⟨n2,g2⟩ : ∃ n2,((((s.heap.push (PyProof.Rows.seqObj "list" #[] 0)).push ob).update s.heap.objs.size (Obj.mapSeq (·.push .none))).update s.heap.objs.size (Obj.mapSeq (·.pop))).get? s.heap.objs.size = some (PyProof.Rows.seqObj "list" (#[].push .none).pop n2):=⟨_,PyProof.Rows.get?_update_seq g1 _⟩
  have sb:=(Heap.SameBut.update ((s.heap.push (PyProof.Rows.seqObj "list" #[] 0)).push ob) s.heap.objs.size (Obj.mapSeq (·.push .none))).trans (Heap.SameBut.update _ s.heap.objs.size (Obj.mapSeq (·.pop)))
  generalize ((((s.heap.push (PyProof.Rows.seqObj "list" #[] 0)).push ob).update s.heap.objs.size (Obj.mapSeq (·.push .none))).update s.heap.objs.size (Obj.mapSeq (·.pop))) = g at g2 sb ⊢
  have ne1:s.heap.objs.size ≠ (s.heap.push (PyProof.Rows.seqObj "list" #[] 0)).objs.size:=by rw [sz1]; exact Nat.ne_of_lt (Nat.lt_succ_self _)
  have ne2:s.heap.objs.size ≠ a:=Nat.ne_of_gt al
  have ne3:a ≠ (s.heap.push (PyProof.Rows.seqObj "list" #[] 0)).objs.size:=by rw [sz1]; exact Nat.ne_of_lt (Nat.lt_succ_of_lt al)
  refine wpAny_pure ⟨Code.quiet_builtin _ (by decide +kernel),?_⟩
  refine kz8 (κ:=κ) (a:=a) (xs:=xs) (o:=o) (ep:=ep) (t:=t) (by simp [hh]) ne1 ne2 ne3 hn xs.length 0 _ (by lia) ?h1 ?h2 ⟨n2,g2⟩ fun h' n' q1 q2=>?_
  case h1 =>
   refine S2.keep fun b ob' e c=>?_
   show g.get? b = _
   rw [sb.2 b ?_]
   ·exact e
   ·rintro rfl
    rcases c with c | c
    ·exact ne2 c
    ·obtain rfl:=Option.some.inj (e.symm.trans hl0)
     exact absurd (show Value.type "list" = Value.type "tuple" from c) (by decide)
  case h2=>exact ⟨ob,(by show g.get? _ = _; rw [sb.2 _ (Ne.symm ne1)]; exact hI),by rw [<- hO],by rw [<- hO]⟩
  have pm:=(jp9 w a ep (xs.map (entry κ)).toArray).map (·.2)
  have em:(xs.map (entry κ)).toArray.toList.map (·.2) = xs.map fun x=>Value.ref x.2:=by simp [entry]
  rw [em] at pm
  show wpAny _ _ (load s.heap.objs.size >>= fun ob=>match ob.data with | .seq xs _=>pure xs.toList | _=>unsupported "internal:collect") _ _ _
  refine wpAny_bind (wpAny_load q2 ?_)
  refine wpAny_pure (h h' tk _ (fun b ob' e=>q1 b ob' (Nat.ne_of_lt (Heap.lt_size e)) (by rw [sz1]; exact Nat.ne_of_lt (Nat.lt_succ_of_lt (Heap.lt_size e))) ?_) (by simpa using pm))
  show g.get? b = _
  rw [sb.2 b (Nat.ne_of_lt (Heap.lt_size e))]
  exact Heap.get?_push_of_some _ (Heap.get?_push_of_some _ e)
 ·rename_i hs
  refine absurd ?_ hs
  rw [Bool.or_eq_true]
  exact .inr (by decide +kernel)
end
end Ts
end T_Ts7
section T_PpL
namespace L2
open PySem PySem.Spec PyProof.Rows
noncomputable abbrev Key:=Sum Int Str
noncomputable def qv7:Key -> Value -> Bool
 | .inl k,v=>Value.isInt k v
 | .inr x,v=>Value.isStrOf x v
noncomputable def keyH (w:World):Key -> Int
 | .inl k=>hashInt k
 | .inr x=>hashStr w x
theorem U5:∀ {k:Key} {v:Value},qv7 k v = true -> (∃ i t,k = Sum.inl i /\ v = Value.int i t) \/ (∃ x t,k = Sum.inr x /\ v = Value.str x t)
 | .inl i,v,h=>by
  obtain ⟨t,e⟩:=Value.isInt_shape (k:=i) (v:=v) h
  exact .inl ⟨i,t,rfl,e⟩
 | .inr x,v,h=>by
  obtain ⟨t,e⟩:=Value.isStrOf_shape (x:=x) (v:=v) h
  exact .inr ⟨x,t,rfl,e⟩
theorem qv1 (a b:Int):decide ((Sum.inl a:Key) = Sum.inl b) = (a == b):=by
 by_cases e:a = b
 ·subst e; simp
 ·have h:¬ (Sum.inl a:Key) = Sum.inl b:=fun q=>e (Sum.inl.inj q)
  rw [decide_eq_false h]
  exact (beq_eq_false_iff_ne.mpr e).symm
theorem qy8 (a b:Str):decide ((Sum.inr a:Key) = Sum.inr b) = decide (a = b):=by
 by_cases e:a = b
 ·subst e; simp
 ·have h:¬ (Sum.inr a:Key) = Sum.inr b:=fun q=>e (Sum.inr.inj q)
  rw [decide_eq_false h,decide_eq_false e]
theorem qw5 (a:Int) (b:Str):decide ((Sum.inl a:Key) = Sum.inr b) = false:=decide_eq_false (fun q=>nomatch q)
theorem qy0 (a:Str) (b:Int):decide ((Sum.inr a:Key) = Sum.inl b) = false:=decide_eq_false (fun q=>nomatch q)
noncomputable def kt1 (prog:Program) (w:World):PySem.KeyKind prog w Key where
 is:=qv7
 hash:=keyH w
 inj:=fun v a b ha hb=>by
  rcases U5 ha with ⟨i,t,rfl,rfl⟩ | ⟨x,t,rfl,rfl⟩
  ·rcases U5 hb with ⟨j,u,rfl,e⟩ | ⟨y,u,rfl,e⟩
   ·injection e with e1 _; rw [e1]
   ·exact nomatch e
  ·rcases U5 hb with ⟨j,u,rfl,e⟩ | ⟨y,u,rfl,e⟩
   ·exact nomatch e
   ·injection e with e1 _; rw [e1]
 byValue:=fun k v h=>by
  rcases U5 h with ⟨i,t,rfl,rfl⟩ | ⟨x,t,rfl,rfl⟩ <;> rfl
 pyHash:=fun hv h=>by
  rcases U5 hv with ⟨i,t,rfl,rfl⟩ | ⟨x,t,rfl,rfl⟩
  ·exact wpAny_pyHash_int h
  ·exact wpAny_pyHash_str h
 eqBool:=fun hu hv h=>by
  rcases U5 hu with ⟨i,t,rfl,rfl⟩ | ⟨x,t,rfl,rfl⟩
  ·rcases U5 hv with ⟨j,u,rfl,rfl⟩ | ⟨y,u,rfl,rfl⟩
   ·rw [qv1] at h; exact wpAny_eqBool_int h
   ·rw [qw5] at h; exact SeqAt.EqAt.int_str i t y u _ _ _ _ h
  ·rcases U5 hv with ⟨j,u,rfl,rfl⟩ | ⟨y,u,rfl,rfl⟩
   ·rw [qy0] at h; exact SeqAt.EqAt.str_int x t j u _ _ _ _ h
   ·rw [qy8] at h; exact wpAny_eqBool_str h
 «strs»:=fun k x t v h=>by
  rcases U5 h with ⟨i,u,rfl,e⟩ | ⟨y,u,rfl,e⟩
  ·exact nomatch e
  ·injection e with e1 _
   subst e1
   cases v <;> rfl
end L2
namespace L2
open PySem PySem.Spec PyProof.Rows
inductive V where
 | non | bl (b:Bool) | int (i:Int) | str (x:Str) | byt (b:Array UInt8) | flt (b:UInt64) | ref (a:Addr) | ty (n:String)
 deriving DecidableEq
noncomputable def RelV:V -> Value -> Prop
 | .non,u=>u = Value.none
 | .bl b,u=>u = Value.bool b
 | .int i,u=>∃ t,u = Value.int i t
 | .str x,u=>∃ t,u = Value.str x t
 | .byt b,u=>∃ t,u = Value.bytes b t
 | .flt b,u=>∃ t,u = Value.float b t
 | .ref a,u=>u = Value.ref a
 | .ty n,u=>u = Value.type n
noncomputable abbrev Vals:List V -> List Value -> Prop:=Paired RelV
theorem Vals.length {xs:List V} {us:List Value} (r:Vals xs us):xs.length = us.length:=Paired.length r
theorem Vals.get:∀ {xs:List V} {us:List Value} {i:Nat} {x:V},Vals xs us -> xs[i]? = some x -> ∃ u,us[i]? = some u /\ RelV x u
 | _,_,_,_,.nil,e=>by simp at e
 | _,_,0,_,.cons r _,e=>by simp at e; subst e; exact ⟨_,rfl,r⟩
 | _,_,i + 1,x,.cons _ t,e=>by
  refine x1_2 (Vals.get (i:=i) (x:=x) t (by simpa using e)) fun u h1 h2=>?_
  exact ⟨u,by simpa using h1,h2⟩
theorem Vals.set {x:V} {u:Value} (r:RelV x u):∀ {xs:List V} {us:List Value} (i:Nat),Vals xs us -> Vals (xs.set i x) (us.set i u)
 | _,_,_,.nil=>.nil
 | _,_,0,.cons _ t=>.cons r t
 | _,_,i + 1,.cons q t=>.cons q (Vals.set r i t)
theorem Vals.append {xs ys:List V} {us ws:List Value} (h:Vals xs us) (s:Vals ys ws):Vals (xs ++ ys) (us ++ ws):=by
 induction h with
 | nil=>exact s
 | cons r t ih=>exact .cons r ih
theorem Vals.take:∀ {xs:List V} {us:List Value} (n:Nat),Vals xs us -> Vals (xs.take n) (us.take n)
 | _,_,0,_=>.nil
 | _,_,_ + 1,.nil=>.nil
 | _,_,n + 1,.cons r t=>.cons r (Vals.take n t)
theorem Vals.drop:∀ {xs:List V} {us:List Value} (n:Nat),Vals xs us -> Vals (xs.drop n) (us.drop n)
 | _,_,0,r=>r
 | _,_,_ + 1,.nil=>.nil
 | _,_,n + 1,.cons _ t=>Vals.drop n t
noncomputable def RelO:Option V -> Option Value -> Prop
 | some v,some u=>RelV v u
 | none,none=>True
 | _,_=>False
noncomputable def KV {κ:Type}:List (κ × V) -> List (κ × Value) -> Prop:=Paired fun (p:κ × V) (q:κ × Value)=>p.1 = q.1 /\ RelV p.2 q.2
noncomputable def kV:Key -> V
 | .inl i=>.int i
 | .inr x=>.str x
inductive HO where
  | lst (xs:List V)
  | tup (xs:List V)
  | dK (kvs:List (Key × V)) | dT (kvs:List (List Key × V))
  | set (S:Int -> Bool) (n:Nat)
  | ins (C dx:Addr) (fs:List (Str × V))
  | own (x:Addr)
  | xd (fs:List (Str × V))
  | met (f x:Addr)
  | rng (lo hi:Int)
  | frz (o:Obj) (u:HO)
  | tbl (ps:Array Value)
  | ext (φ:Heap -> Prop)
noncomputable abbrev Hp:=Addr -> Option HO
noncomputable def upd (H:Hp) (a:Addr) (o:HO):Hp:=fun b=>if b = a then some o else H b
theorem Q7 {H:Hp} {a:Addr} {o:HO}:upd H a o a = some o:=by unfold upd; rw [if_pos rfl]
theorem y3 {H:Hp} {a b:Addr} {o:HO} (h:b ≠ a):upd H a o b = H b:=by unfold upd; rw [if_neg h]
theorem J5 {H:Hp} {a b:Addr} {o:HO} (h:H a = some o) (h':H b = none):a ≠ b:=by
 intro e; subst e; rw [h] at h'; cases h'
section
variable (P:Program) (w:World)
noncomputable def ObjOk (H:Hp) (h:Heap) (a:Addr):HO -> Prop
 | .lst xs=>xs.length <= sizeLine /\ ∃ (its:List Value) (n:Nat),Vals xs its /\ h.get? a = some { cls:=.type "list",data:=.seq its.toArray n }
 | .tup xs=>xs.length <= sizeLine /\ ∃ its:List Value,Vals xs its /\ IsTup h a its.toArray
 | .dK kvs=>kvs.length <= sizeLine /\ (a == sysModules) = false /\ ∃ vs,KV kvs vs /\ h.DictOf (kt1 P w) a vs
 | .dT kvs=>kvs.length <= sizeLine /\ (a == sysModules) = false /\ ∃ xs:List (List Key × Addr × Value),
   Paired (fun (p:List Key × V) (q:List Key × Addr × Value)=>p.1 = q.1 /\ H q.2.1 = some (.tup (p.1.map kV)) /\ RelV p.2 q.2.2) kvs xs /\
   ∃ o es ep,h.get? a = some o /\ o.ExactDict /\ o.data = .dict es ep /\ es.toList = xs.map (entryOfKey (tupleKind (kt1 P w))) /\ (xs.map (·.1)).Nodup
 | .set S n=>h.SetOf (intKind P w) a S n
 | .ins C dx fs=>H dx = some (.own a) /\ fs.length <= 1000 /\ dx ≠ a /\ h.get? a = some (PySem.W.instObj C dx) /\
   ∃ mA,h.Ns1 dx mA /\ (∀ f,RelO (fs.lookup f) (mA f)) /\ PySem.Within mA (fs.map (·.1))
 | .own _=>∃ o,h.get? a = some o
 | .xd fs=>∃ mA,h.Ns1 a mA /\ ∀ f,RelO (fs.lookup f) (mA f)
 | .rng lo hi=>∃ t u v,h.get? a = some { cls:=.type "range",data:=.fields #[.int lo t,.int hi u,.int 1 v] }
 | .frz o u=>h.get? a = some o /\ ObjOk H h a u
 | .tbl ps=>h.get? a = some { cls:=.none,data:=.fields ps }
 | .met f x=>h.get? a = some (PySem.W.methodObj (.ref f) (.ref x))
 | .ext φ=>φ h /\ (∃ o,h.get? a = some o) /\ ∀ h1 h2:Heap,φ h1 -> (∀ o,h1.get? a = some o -> h2.get? a = some o) -> φ h2
noncomputable def HOk (H:Hp) (h:Heap):Prop:=∀ a o,H a = some o -> ObjOk P w H h a o
end
section
variable {P:Program} {w:World} {H H':Hp} {h h':Heap} {a:Addr} {o:HO}
theorem ObjOk.lt (x:ObjOk P w H h a o):a < h.objs.size:=by
 cases o with
 | lst xs=>obtain ⟨_,_,_,_,e⟩:=x; exact Heap.lt_size e
 | tup xs=>obtain ⟨_,_,_,p⟩:=x; exact p.lt
 | dK kvs=>obtain ⟨_,_,_,_,o,_,_,e,_⟩:=x; exact Heap.lt_size e
 | dT kvs=>obtain ⟨_,_,_,_,o,_,_,e,_⟩:=x; exact Heap.lt_size e
 | set S n=>obtain ⟨o,_,_,_,e,_⟩:=x; exact Heap.lt_size e
 | ins C dx fs=>obtain ⟨_,_,_,e,_⟩:=x; exact Heap.lt_size e
 | own y=>obtain ⟨_,e⟩:=x; exact Heap.lt_size e
 | xd fs=>obtain ⟨_,⟨_,_,_,e,_⟩,_⟩:=x; exact Heap.lt_size e
 | rng lo hi=>obtain ⟨_,_,_,e⟩:=x; exact Heap.lt_size e
 | frz ob u=>obtain ⟨e,_⟩:=x; exact Heap.lt_size e
 | tbl ps=>exact Heap.lt_size (show h.get? a = some _ from x)
 | met f y=>exact Heap.lt_size (show h.get? a = some _ from x)
 | ext φ=>obtain ⟨_,⟨_,e⟩,_⟩:=x; exact Heap.lt_size e
theorem Paired.mapP {α β:Type} {F G:α -> β -> Prop} {l₁:List α} {l₂:List β} (h:Paired F l₁ l₂) (f:∀ a b,F a b -> G a b):Paired G l₁ l₂:=by
 induction h with
 | nil=>exact .nil
 | cons r t ih=>exact .cons (f _ _ r) ih
theorem ObjOk.stay (x:ObjOk P w H h a o) (k:∀ b u,(b = a \/ H b = some (.own a)) -> h.get? b = some u -> h'.get? b = some u)
  (ho:∀ b,H b = some (.own a) -> H' b = some (.own a)) (ht:∀ b xs,H b = some (.tup xs) -> H' b = some (.tup xs)):ObjOk P w H' h' a o:=by
 induction o with
 | lst xs=>obtain ⟨z,its,n,r,e⟩:=x; exact ⟨z,its,n,r,k _ _ (.inl rfl) e⟩
 | tup xs=>obtain ⟨z,its,r,ob,e,c⟩:=x; exact ⟨z,its,r,ob,k _ _ (.inl rfl) e,c⟩
 | dK kvs=>obtain ⟨z,y,vs,r,ob,es,ep,e,c⟩:=x; exact ⟨z,y,vs,r,ob,es,ep,k _ _ (.inl rfl) e,c⟩
 | dT kvs =>
  obtain ⟨z,y,xs,r,ob,es,ep,e,c⟩:=x
  exact ⟨z,y,xs,Paired.mapP r fun p q z=>⟨z.1,ht _ _ z.2.1,z.2.2⟩,ob,es,ep,k _ _ (.inl rfl) e,c⟩
 | set S n=>obtain ⟨ob,es,ep,t,e,c⟩:=x; exact ⟨ob,es,ep,t,k _ _ (.inl rfl) e,c⟩
 | ins C dx fs =>
  obtain ⟨d,z,ne,e,mA,⟨od,es,ep,e2,c⟩,r⟩:=x
  exact ⟨ho _ d,z,ne,k _ _ (.inl rfl) e,mA,⟨od,es,ep,k _ _ (.inr d) e2,c⟩,r⟩
 | own y=>obtain ⟨ob,e⟩:=x; exact ⟨ob,k _ _ (.inl rfl) e⟩
 | xd fs=>obtain ⟨mA,⟨od,es,ep,e,c⟩,r⟩:=x; exact ⟨mA,⟨od,es,ep,k _ _ (.inl rfl) e,c⟩,r⟩
 | rng lo hi=>obtain ⟨t,u,v,e⟩:=x; exact ⟨t,u,v,k _ _ (.inl rfl) e⟩
 | frz ob u ih=>obtain ⟨e,q⟩:=x; exact ⟨k _ _ (.inl rfl) e,ih q⟩
 | tbl ps =>
  have e:h.get? a = some { cls:=.none,data:=.fields ps }:=x
  show h'.get? a = some { cls:=.none,data:=.fields ps }
  exact k a _ (.inl rfl) e
 | met f y =>
  have e:h.get? a = some (PySem.W.methodObj (.ref f) (.ref y)):=x
  show h'.get? a = some (PySem.W.methodObj (.ref f) (.ref y))
  exact k a _ (.inl rfl) e
 | ext φ=>obtain ⟨p,⟨o,e⟩,st⟩:=x; exact ⟨st _ _ p fun o q=>k _ _ (.inl rfl) q,⟨o,k _ _ (.inl rfl) e⟩,st⟩
theorem HOk.lt (x:HOk P w H h) (e:H a = some o):a < h.objs.size:=(x a o e).lt
theorem HOk.fresh (x:HOk P w H h) (e:h.objs.size <= a):H a = none:=by
 cases q:H a with
 | none=>rfl
 | some u=>exact absurd (Nat.lt_of_lt_of_le (x.lt q) e) (Nat.lt_irrefl _)
theorem HOk.kept (x:HOk P w H h) (k:∀ b u,h.get? b = some u -> h'.get? b = some u):HOk P w H h':=fun a o e =>
 (x a o e).stay (fun b u _ q=>k b u q) (fun _ q=>q) fun _ _ q=>q
theorem HOk.laid (x:HOk P w H h) (k:∀ b u,h.get? b = some u -> h'.get? b = some u) (hp:h.objs.size <= a) (new:ObjOk P w (upd H a o) h' a o):HOk P w (upd H a o) h':=fun b u e=>by
 have hn:=x.fresh hp
 by_cases hb:b = a
 ·subst hb; rw [Q7] at e; cases e; exact new
 ·rw [y3 hb] at e
  exact (x b u e).stay (fun c v _ q=>k c v q) (fun c q=>by rw [y3 (J5 q hn)]; exact q) fun c xs q=>by rw [y3 (J5 q hn)]; exact q
end
noncomputable def Rd (H:Hp) (a:Addr) (u:HO):Prop:=H a = some u \/ ∃ o,H a = some (.frz o u)
theorem Rd.of {H:Hp} {a:Addr} {u:HO} (h:H a = some u):Rd H a u:=.inl h
theorem Rd.ok {P:Program} {w:World} {H:Hp} {h:Heap} {a:Addr} {u:HO} (r:Rd H a u) (x:HOk P w H h):ObjOk P w H h a u:=by
 rcases r with r | ⟨o,r⟩
 ·exact x a u r
 ·obtain ⟨_,q⟩:=x a _ r
  exact q
noncomputable def Mut:Option HO -> Prop
 | some (.lst _)=>True
 | some (.dK _)=>True
 | some (.dT _)=>True
 | some (.set _ _)=>True
 | some (.ins _ _ _)=>True
 | some (.ext _)=>True
 | _=>False
section
variable {P:Program} {w:World} {H:Hp} {h h':Heap} {x e:Addr} {o':HO}
theorem HOk.write (ok:HOk P w H h) (mu:Mut (H x)) (he:e = x \/ H e = some (.own x)) (k:∀ b u,b ≠ e -> h.get? b = some u -> h'.get? b = some u) (heo:∃ u,h'.get? e = some u)
  (new:ObjOk P w (upd H x o') h' x o'):HOk P w (upd H x o') h':=fun b u q=>by
 have nown:∀ c y,H c = some (.own y) -> c ≠ x:=fun c y r z=>by subst z; rw [r] at mu; exact mu
 have ntup:∀ c xs,H c = some (.tup xs) -> c ≠ x:=fun c xs r z=>by subst z; rw [r] at mu; exact mu
 by_cases hb:b = x
 ·subst hb; rw [Q7] at q; cases q; exact new
 ·rw [y3 hb] at q
  by_cases hbe:b = e
  ·have q':H b = some (.own x):=by
    rcases he with z | z
    ·exact absurd (hbe.trans z) hb
    ·rw [hbe]; exact z
   rw [q] at q'; cases q'
   obtain ⟨v,hv⟩:=heo
   exact ⟨v,by rw [hbe]; exact hv⟩
  ·refine (ok b u q).stay (fun c v hc r=>k c v ?_ r) (fun c r=>by rw [y3 (nown c b r)]; exact r) fun c xs r=>by rw [y3 (ntup c xs r)]; exact r
   rcases hc with rfl | hc
   ·exact hbe
   ·rintro rfl
    rcases he with z | z
    ·exact nown c b hc z
    ·rw [hc] at z; cases z; exact hb rfl
end
structure Un (fs ex:List Addr) (H H':Hp) (h h':Heap):Prop where
 keep:∀ b o,h.get? b = some o -> H b = none -> b ∉ fs -> b ∉ ex -> h'.get? b = some o
 slot:∀ b o,h.get? b = some o -> H b = none -> b ∈ fs -> b ∉ ex -> ∃ sl,h'.get? b = some { o with slots:=sl }
 free:∀ b o,h.get? b = some o -> H b = none -> b ∉ ex -> H' b = none
 there:∀ b o,h.get? b = some o -> b ∉ ex -> ∃ o',h'.get? b = some o'
 tups:∀ b xs,H b = some (.tup xs) -> H' b = some (.tup xs)
 frzs:∀ b o u,H b = some (.frz o u) -> H' b = some (.frz o u)
 tbls:∀ b ps,H b = some (.tbl ps) -> ∃ more,H' b = some (.tbl (ps ++ more))
section
variable {fs fs' ex ex':List Addr} {H H1 H2:Hp} {h h1 h2 h':Heap} {a x e:Addr} {o:HO}
theorem Un.any (u:Un fs ex H H1 h h1) {b:Addr} {ob:Obj} (q:h.get? b = some ob) (n:H b = none) (hx:b ∉ ex):∃ sl,h1.get? b = some { ob with slots:=sl }:=by
 by_cases hb:b ∈ fs
 ·exact u.slot b ob q n hb hx
 ·exact ⟨ob.slots,u.keep b ob q n hb hx⟩
theorem Un.trans (a:Un fs ex H H1 h h1) (b:Un fs ex H1 H2 h1 h2):Un fs ex H H2 h h2 where
 keep:=fun c ob q n hc hx=>b.keep c ob (a.keep c ob q n hc hx) (a.free c ob q n hx) hc hx
 slot:=fun c ob q n hc hx=>by
  obtain ⟨sl,e1⟩:=a.slot c ob q n hc hx
  obtain ⟨sl',e2⟩:=b.slot c _ e1 (a.free c ob q n hx) hc hx
  exact ⟨sl',e2⟩
 free:=fun c ob q n hx=>by
  obtain ⟨o',e1⟩:=a.there c ob q hx
  exact b.free c o' e1 (a.free c ob q n hx) hx
 there:=fun c ob q hx=>by
  obtain ⟨o',e1⟩:=a.there c ob q hx
  exact b.there c o' e1 hx
 tups:=fun c xs q=>b.tups c xs (a.tups c xs q)
 frzs:=fun c ob xs q=>b.frzs c ob xs (a.frzs c ob xs q)
 tbls:=fun c ps q=>by
  obtain ⟨m1,e1⟩:=a.tbls c ps q
  obtain ⟨m2,e2⟩:=b.tbls c _ e1
  exact ⟨m1 ++ m2,by rw [e2,Array.append_assoc]⟩
theorem Un.kept (k:∀ b u,h.get? b = some u -> h'.get? b = some u):Un fs ex H H h h' :=
 ⟨fun b ob q _ _ _=>k b ob q,fun b ob q _ _ _=>⟨ob.slots,k b ob q⟩,fun _ _ _ n _=>n,fun b ob q _=>⟨ob,k b ob q⟩,fun _ _ q=>q,fun _ _ _ q=>q,fun _ ps q=>⟨#[],by rw [q]; simp⟩⟩
theorem Un.refl:Un fs ex H H h h:=Un.kept fun _ _ q=>q
theorem Un.laid (k:∀ b u,h.get? b = some u -> h'.get? b = some u) (hp:h.objs.size <= a) (hn:H a = none):Un fs ex H (upd H a o) h h' where
 keep:=fun b u q _ _ _=>k b u q
 slot:=fun b u q _ _ _=>⟨u.slots,k b u q⟩
 free:=fun b u q n _=>by rw [y3 (Nat.ne_of_lt (Nat.lt_of_lt_of_le (Heap.lt_size q) hp))]; exact n
 there:=fun b u q _=>⟨u,k b u q⟩
 tups:=fun b xs q=>by rw [y3 (J5 q hn)]; exact q
 frzs:=fun b u xs q=>by rw [y3 (J5 q hn)]; exact q
 tbls:=fun b ps q=>⟨#[],by rw [y3 (J5 q hn),q]; simp⟩
theorem Un.write (mu:Mut (H x)) (he:e = x \/ H e = some (.own x)) (k:∀ b u,b ≠ e -> h.get? b = some u -> h'.get? b = some u) (heo:∃ u,h'.get? e = some u):Un fs ex H (upd H x o) h h':=by
 have hx:∀ b,H b = none -> b ≠ x:=fun b n z=>by subst z; rw [n] at mu; exact mu
 have hb:∀ b,H b = none -> b ≠ e:=fun b n z=>by
  subst z
  rcases he with r | r
  ·exact hx b n r
  ·rw [n] at r; cases r
 have hm:∀ b u,H b = some u -> ¬ Mut (some u) -> b ≠ x:=fun b u q nm z=>by subst z; rw [q] at mu; exact nm mu
 refine ⟨fun b u q n _ _=>k b u (hb b n) q,fun b u q n _ _=>⟨u.slots,k b u (hb b n) q⟩,fun b u q n _=>by rw [y3 (hx b n)]; exact n,fun b u q _=>?_,
  fun b xs q=>by rw [y3 (hm b _ q fun z=>z)]; exact q,fun b u xs q=>by rw [y3 (hm b _ q fun z=>z)]; exact q,fun b ps q=>⟨#[],by rw [y3 (hm b _ q fun z=>z),q]; simp⟩⟩
 by_cases hbe:b = e
 ·subst hbe; exact heo
 ·exact ⟨u,k b u hbe q⟩
theorem Un.mono (u:Un fs ex H H1 h h1) (hs:∀ b ∈ fs,b ∈ fs') (hx:∀ b ∈ ex,b ∈ ex'):Un fs' ex' H H1 h h1 :=
 ⟨fun b ob q n hb he=>u.keep b ob q n (fun z=>hb (hs b z)) fun z=>he (hx b z),fun _ _ q n _ he=>u.any q n fun z=>he (hx _ z),fun b ob q n he=>u.free b ob q n fun z=>he (hx b z),fun b ob q he=>u.there b ob q fun z=>he (hx b z),u.tups,u.frzs,u.tbls⟩
end
noncomputable def trk (h:Heap) (H:Hp):List Addr:=(List.range h.objs.size).filter fun a=>(H a).isSome
noncomputable def hidT (h:Heap) (H:Hp):Heap:=PySem.W.hideAll h (trk h H)
theorem kw1 (h:Heap) (H:Hp):(hidT h H).objs.size = h.objs.size:=PySem.W.hideAll_size _ _
theorem qh4 {h:Heap} {H:Hp} {b:Addr} {o:Obj} (e:h.get? b = some o) (n:H b = none):(hidT h H).get? b = some o :=
 PySem.W.hideAll_get _ e fun hm=>by
  have q:(H b).isSome = true:=(List.mem_filter.mp hm).2
  rw [n] at q; simp at q
theorem qr9 {h:Heap} {H:Hp} {b:Addr} {o:Obj} (e:(hidT h H).get? b = some o):h.get? b = some o /\ H b = none:=by
 have e':h.get? b = some o:=PySem.W.of_hideAll (trk h H) e
 refine ⟨e',?_⟩
 cases q:H b with
 | none=>rfl
 | some x =>
  have hm:b ∈ trk h H:=List.mem_filter.mpr ⟨List.mem_range.mpr (Heap.lt_size e'),by simp [q]⟩
  have z:(hidT h H).get? b = none:=PySem.W.hideAll_none (trk h H) hm
  rw [z] at e; cases e
noncomputable def qp9 (g h:Heap) (L:Addr):List (Addr × Obj):=(List.range h.objs.size).filterMap fun a=>if a = L \/ (g.get? a).isSome = true then none else (h.get? a).map fun o=>(a,o)
noncomputable def rest (g h:Heap) (L d:Addr):List (Addr × Obj):=(qp9 g h L).filter fun p=>decide (p.1 ≠ d)
end L2
namespace L2
open PySem PySem.Spec PyProof.Rows
structure Mod (K:PySem.W.Frag) (mg:Str -> Option Value) (base:Heap):Prop where
 kin:K.In base
 glob:base.Ns mainGlobals mg
 blt:∃ mb,base.Ns builtinsNs mb /\ ∀ x:Str,x ≠ "__name__" -> mb x = bootBuiltins x
 nolimit:base.NoLimit
structure Cx where
 prog:Program
 w:World
 K:PySem.W.Frag
 mg:Str -> Option Value
 base:Heap
 A:Around
 N:List Str
 s₀:Shared
 H₀:Hp
 env:Env
 outer:List Env
 stack:List Env
 ex:List Addr
 fn:Str -> Bool
 calm:Bool
 pn:List (Addr × Obj)
 xe:Value -> Shared -> Prop
noncomputable def frs (l:List Env):List Addr:=l.filterMap (·.frame)
noncomputable abbrev Cx.fs (X:Cx):List Addr:=frs X.outer
noncomputable def Vis (sc:Scope) (x:Str):Prop:=sc.names.lookup x = some .local \/ sc.names.lookup x = some .cell \/ sc.names.lookup x = some .free
noncomputable def Loc (sc:Scope) (x:Str):Prop:=sc.names.lookup x = some .local \/ sc.names.lookup x = some .cell
noncomputable def Look (env:Env) (h:Heap) (m:Str -> Option Value) (x:Str) (u:Value):Prop :=
 (env.kindOf x = some .local /\ m x = some u) \/ ((env.kindOf x = some .cell \/ env.kindOf x = some .free) /\ ∃ c,env.cells.lookup x = some c /\ h.IsCell c (some u))
structure Cx.Ok (X:Cx):Prop where
 mod:Mod X.K X.mg X.base
 kind:X.env.scope.kind = .function
 glob:X.env.globals = mainGlobals
 blt:X.env.builtins = builtinsNs
 above:X.s₀.heap.objs.size <= X.env.locals
 inj:∀ x y c,X.env.cells.lookup x = some c -> X.env.cells.lookup y = some c -> x = y
 has:∀ x,(X.env.kindOf x = some .cell \/ X.env.kindOf x = some .free) -> ∃ c,X.env.cells.lookup x = some c
 cab:∀ x c,X.fn x = true -> X.env.cells.lookup x = some c -> X.s₀.heap.objs.size <= c
 hd:X.calm = true -> X.A.handled = none
 frames:X.A.frames = some X.stack
 stk:X.stack = X.outer \/ (X.stack = X.env :: X.outer /\ X.env.frame = some X.env.locals)
 exf:∀ b ∈ X.ex,b ≠ X.env.locals /\ ∀ x c,X.env.cells.lookup x = some c -> c ≠ b
 bs:∀ b o,X.base.get? b = some o -> X.s₀.heap.get? b = some o /\ X.H₀ b = none
 bsz:X.base.objs.size <= X.s₀.heap.objs.size
 noex:∀ b o,X.base.get? b = some o -> b ∉ X.ex
 exfs:∀ b ∈ X.ex,b ∉ X.fs
 funs:X.s₀.heap.FunFrames X.base X.outer
 frf:∀ b ∈ X.fs,X.H₀ b = none
structure Inv (X:Cx) (pins:List (Addr × Obj)) (σ:List (Option V)) (H:Hp) (s:Shared):Prop where
 ok:X.Ok
 os:s.os = X.s₀.os
 bare:AllBare s.gens
 base:Un X.fs X.ex X.H₀ H X.s₀.heap s.heap
 loc:∃ m,s.heap.Ns X.env.locals m /\ ∀ (i:Nat) (x:Str) (v:V),X.N[i]? = some x -> σ[i]? = some (some v) -> Vis X.env.scope x -> ∃ u,RelV v u /\ Look X.env s.heap m x u
 cell:∀ x c,X.env.cells.lookup x = some c -> ∃ v,s.heap.IsCell c v
 free:H X.env.locals = none
 freeC:∀ x c,X.env.cells.lookup x = some c -> H c = none
 pin:∀ p ∈ X.pn ++ pins,s.heap.get? p.1 = some p.2 /\ H p.1 = none /\ p.1 ≠ X.env.locals /\ p.1 ∉ X.fs /\ ∀ v,p.2.data ≠ .cell v
 hok:HOk X.prog X.w H s.heap
 len:σ.length = X.N.length
section
variable {X:Cx} {pins:List (Addr × Obj)} {σ:List (Option V)} {H H':Hp} {s:Shared} {h':Heap}
theorem Cx.Ok.nofr (ok:X.Ok) {b:Addr} {o:Obj} (e:X.base.get? b = some o):b ∉ X.fs:=fun hb=>by
 have:=(ok.funs.mem hb).1
 rw [e] at this; cases this
theorem Inv.bs (I:Inv X pins σ H s):∀ b o,X.base.get? b = some o -> s.heap.get? b = some o /\ H b = none:=fun b o e =>
 ⟨I.base.keep b o (I.ok.bs b o e).1 (I.ok.bs b o e).2 (I.ok.nofr e) (I.ok.noex b o e),I.base.free b o (I.ok.bs b o e).1 (I.ok.bs b o e).2 (I.ok.noex b o e)⟩
theorem Inv.bk (I:Inv X pins σ H s):∀ b o,X.base.get? b = some o -> s.heap.get? b = some o:=fun b o e=>(I.bs b o e).1
theorem Inv.mod (I:Inv X pins σ H s):Mod X.K X.mg X.base:=I.ok.mod
theorem Inv.kIn (I:Inv X pins σ H s):X.K.In s.heap:=I.ok.mod.kin.keeps I.bk
theorem Inv.nolimit (I:Inv X pins σ H s):s.heap.NoLimit:=I.ok.mod.nolimit.keeps I.bk
theorem Inv.fr (I:Inv X pins σ H s):∃ m,Fr X.base X.env.locals s.heap m :=
 let ⟨m,hn,_⟩:=I.loc
 ⟨m,hn,I.bk,Nat.le_trans I.ok.bsz I.ok.above⟩
theorem Inv.lt (I:Inv X pins σ H s):X.env.locals < s.heap.objs.size:=let ⟨_,hn,_⟩:=I.loc; hn.lt
theorem Inv.sz (I:Inv X pins σ H s):X.s₀.heap.objs.size <= s.heap.objs.size:=Nat.le_trans I.ok.above (Nat.le_of_lt I.lt)
theorem Inv.nofs (I:Inv X pins σ H s) {a:Addr} (h:s.heap.objs.size <= a):a ∉ X.fs:=fun hb=>by
 obtain ⟨_,o,ho,_⟩:=I.ok.funs.mem hb
 exact absurd (Nat.lt_of_lt_of_le (Heap.lt_size ho) (Nat.le_trans I.sz h)) (Nat.lt_irrefl _)
theorem Inv.cne (I:Inv X pins σ H s):∀ x c,X.env.cells.lookup x = some c -> c ≠ X.env.locals:=fun x c e z=>by
 refine x2_2 (I.cell x c e) fun v o ho hd=>?_
 refine x1_2 I.loc fun m zo1 _=>?_
 obtain ⟨o',es,ep,ho',hd',_⟩:=zo1
 rw [z,ho'] at ho; cases ho; rw [hd'] at hd; cases hd
theorem Inv.funs (I:Inv X pins σ H s):s.heap.FunFrames X.base X.outer:=by
 have all:∀ (l:List Env),(∀ b ∈ frs l,b ∈ X.fs) -> X.s₀.heap.FunFrames X.base l -> s.heap.FunFrames X.base l:=by
  intro l
  induction l with
  | nil=>intro _ _; trivial
  | cons env r ih =>
   intro hs hl
   refine x0_3 hl fun hk zo1 hr=>?_
   clear hl
   obtain ⟨L,o,hf,hn,ho,hd⟩:=zo1
   have hL:L ∈ X.fs:=hs L (by unfold frs; rw [List.filterMap_cons,hf]; exact List.mem_cons_self)
   obtain ⟨sl,e⟩:=I.base.slot L o ho (I.ok.frf L hL) hL fun z=>I.ok.exfs L z hL
   exact ⟨hk,⟨L,_,hf,hn,e,hd⟩,ih (fun b hb=>hs b (by unfold frs; rw [List.filterMap_cons,hf]; exact List.mem_cons_of_mem _ hb)) hr⟩
 exact all X.outer (fun _ hb=>hb) I.ok.funs
theorem Inv.stack (I:Inv X pins σ H s):s.heap.FunFrames X.base X.stack:=by
 rcases I.ok.stk with e | ⟨e,hf⟩
 ·rw [e]; exact I.funs
 ·rw [e]
  refine x1_2 I.loc fun m hn _=>?_
  refine .cons (by rw [I.ok.kind]; decide) hf hn ?_ I.funs
  exact Heap.get?_none_of_le (Nat.le_trans I.ok.bsz I.ok.above)
theorem Inv.stkSub (I:Inv X pins σ H s):∀ b ∈ frs X.stack,b ∈ X.env.locals :: X.fs:=fun b hb=>by
 rcases I.ok.stk with e | ⟨e,hf⟩
 ·rw [e] at hb; exact List.mem_cons_of_mem _ hb
 ·rw [e] at hb
  unfold frs at hb
  rw [List.filterMap_cons,hf] at hb
  exact hb
theorem Inv.stkFree (I:Inv X pins σ H s):∀ b ∈ frs X.stack,H b = none:=fun b hb=>by
 rcases List.mem_cons.mp (I.stkSub b hb) with e | hb
 ·rw [e]; exact I.free
 ·obtain ⟨_,o,ho,_⟩:=I.ok.funs.mem hb
  exact I.base.free b o ho (I.ok.frf b hb) fun z=>I.ok.exfs b z hb
theorem Inv.step {g':Array GenState} {t':Nat} {d':Drawn} {ch:List Addr} (I:Inv X pins σ H s)
  (hch:∀ b ∈ ch,(b ∈ X.ex \/ X.s₀.heap.objs.size <= b) /\ b ≠ X.env.locals /\ (∀ x c,X.env.cells.lookup x = some c -> c ≠ b) /\ ∀ p ∈ X.pn ++ pins,p.1 ≠ b)
  (keep:∀ b o,b ≠ X.env.locals -> b ∉ X.fs -> b ∉ ch -> s.heap.get? b = some o -> H b = none -> h'.get? b = some o)
  (slot:∀ b o,b ≠ X.env.locals -> b ∈ X.fs -> b ∉ ch -> s.heap.get? b = some o -> H b = none -> ∃ sl,h'.get? b = some { o with slots:=sl }) (free:∀ b o,b ∉ ch -> s.heap.get? b = some o -> H b = none -> H' b = none)
  (there:∀ b o,b ∉ ch -> s.heap.get? b = some o -> ∃ o',h'.get? b = some o')
  (tups:∀ b xs,H b = some (.tup xs) -> H' b = some (.tup xs)) (frzs:∀ b o u,H b = some (.frz o u) -> H' b = some (.frz o u)) (tbls:∀ b ps,H b = some (.tbl ps) -> ∃ more,H' b = some (.tbl (ps ++ more)))
  (ns:∀ m,s.heap.Ns X.env.locals m -> h'.Ns X.env.locals m) (hok:HOk X.prog X.w H' h') (hg:AllBare g') :
  Inv X pins σ H' { s with heap:=h',gens:=g',drawn:=d',toks:=t' }:=by
 have neL:∀ b o,X.s₀.heap.get? b = some o -> b ≠ X.env.locals:=fun b o e=>Nat.ne_of_lt (Nat.lt_of_lt_of_le (Heap.lt_size e) I.ok.above)
 have neC:∀ b o,X.s₀.heap.get? b = some o -> b ∉ X.ex -> b ∉ ch:=fun b o e hx hb=>by
  rcases (hch b hb).1 with z | z
  ·exact hx z
  ·exact absurd (Nat.lt_of_lt_of_le (Heap.lt_size e) z) (Nat.lt_irrefl _)
 have cellK:∀ x c,X.env.cells.lookup x = some c -> ∀ v,s.heap.IsCell c v -> h'.IsCell c v:=fun x c e v zz1=>by
  refine x1_2 zz1 fun o ho hd=>?_
  clear zz1
  have nch:c ∉ ch:=fun z=>(hch c z).2.2.1 x c e rfl
  by_cases hc:c ∈ X.fs
  ·obtain ⟨sl,q⟩:=slot c o (I.cne x c e) hc nch ho (I.freeC x c e)
   exact ⟨_,q,hd⟩
  ·exact ⟨o,keep c o (I.cne x c e) hc nch ho (I.freeC x c e),hd⟩
 refine ⟨I.ok,I.os,hg,⟨fun b o e n hb hx=>?_,fun b o e n hb hx=>?_,fun b o e n hx=>?_,fun b o e hx=>?_,fun b xs e=>tups b xs (I.base.tups b xs e),fun b o xs e=>frzs b o xs (I.base.frzs b o xs e),fun b ps e=>?_⟩,?_,fun x c e=>?_,?_,fun x c e=>?_,fun p hp=>?_,hok,I.len⟩
 ·exact keep b o (neL b o e) hb (neC b o e hx) (I.base.keep b o e n hb hx) (I.base.free b o e n hx)
 ·obtain ⟨sl,e1⟩:=I.base.slot b o e n hb hx
  obtain ⟨sl',e2⟩:=slot b _ (neL b o e) hb (neC b o e hx) e1 (I.base.free b o e n hx)
  exact ⟨sl',e2⟩
 ·obtain ⟨o',e1⟩:=I.base.there b o e hx
  exact free b o' (neC b o e hx) e1 (I.base.free b o e n hx)
 ·obtain ⟨o',e1⟩:=I.base.there b o e hx
  exact there b o' (neC b o e hx) e1
 ·obtain ⟨m1,e1⟩:=I.base.tbls b ps e
  obtain ⟨m2,e2⟩:=tbls b _ e1
  exact ⟨m1 ++ m2,by rw [e2,Array.append_assoc]⟩
 ·refine x1_2 I.loc fun m hn hl=>?_
  refine ⟨m,ns m hn,fun i x v e1 e2 e3=>?_⟩
  refine x1_2 (hl i x v e1 e2 e3) fun u r l=>?_
  refine ⟨u,r,?_⟩
  rcases l with l | ⟨k,c,e,z⟩
  ·exact .inl l
  ·exact .inr ⟨k,c,e,cellK x c e _ z⟩
 ·obtain ⟨v,z⟩:=I.cell x c e
  exact ⟨v,cellK x c e v z⟩
 ·refine x1_2 I.loc fun m zo1 _=>?_
  obtain ⟨o,_,_,ho,_⟩:=zo1
  exact free _ o (fun z=>(hch _ z).2.1 rfl) ho I.free
 ·refine x2_2 (I.cell x c e) fun v o ho hd=>?_
  exact free c o (fun z=>(hch c z).2.2.1 x c e rfl) ho (I.freeC x c e)
 ·refine x0_5 (I.pin p hp) fun e n ne nf d=>?_
  have nch:p.1 ∉ ch:=fun z=>(hch p.1 z).2.2.2 p hp rfl
  exact ⟨keep p.1 p.2 ne nf nch e n,free p.1 p.2 nch e n,ne,nf,d⟩
theorem Inv.un {t':Nat} (I:Inv X pins σ H s) (u:Un X.fs [] H H' s.heap h') (hok:HOk X.prog X.w H' h'):Inv X pins σ H' { s with heap:=h',toks:=t' }:=by
 refine x1_2 (id I.loc) fun m zo1 _=>?_
 obtain ⟨o,es,ep,ho,r⟩:=zo1
 obtain ⟨sl,hL⟩:=u.any ho I.free (by simp)
 exact I.step (g':=s.gens) (d':=s.drawn) (ch:=[]) (fun _ z=>nomatch z) (fun b o _ hb _ e n=>u.keep b o e n hb (by simp)) (fun b o _ hb _ e n=>u.slot b o e n hb (by simp)) (fun b o _ e n=>u.free b o e n (by simp)) (fun b o _ e=>u.there b o e (by simp)) u.tups u.frzs u.tbls (fun m' hm=>by
  refine x3_2 hm fun o' es' ep' ho' r'=>?_
  clear hm
  rw [ho] at ho'; cases ho'
  exact ⟨_,es',ep',hL,r'⟩) hok I.bare
theorem Inv.call {g':Array GenState} {t':Nat} {d':Drawn} {ch:List Addr} (I:Inv X pins σ H s) (u:Un (frs X.stack) ch H H' s.heap h') (hok:HOk X.prog X.w H' h') (hg:AllBare g')
  (hch:∀ b ∈ ch,(b ∈ X.ex \/ X.s₀.heap.objs.size <= b) /\ b ≠ X.env.locals /\ (∀ x c,X.env.cells.lookup x = some c -> c ≠ b) /\ ∀ p ∈ X.pn ++ pins,p.1 ≠ b) :
  Inv X pins σ H' { s with heap:=h',gens:=g',drawn:=d',toks:=t' }:=by
 refine x1_2 (id I.loc) fun m zo1 _=>?_
 obtain ⟨o,es,ep,ho,r⟩:=zo1
 obtain ⟨sl,hL⟩:=u.any ho I.free fun z=>(hch _ z).2.1 rfl
 exact I.step (ch:=ch) hch (fun b o hL hb hc e n=>u.keep b o e n (fun z=>(List.mem_cons.mp (I.stkSub b z)).elim hL hb) hc) (fun b o _ _ hc e n=>u.any e n hc) (fun b o hc e n=>u.free b o e n hc) (fun b o hc e=>u.there b o e hc) u.tups u.frzs u.tbls (fun m' hm=>by
  refine x3_2 hm fun o' es' ep' ho' r'=>?_
  clear hm
  rw [ho] at ho'; cases ho'
  exact ⟨_,es',ep',hL,r'⟩) hok hg
theorem Inv.turned {t':Nat} {it:Addr} (I:Inv X pins σ H s) (k:∀ b o,b ≠ it -> s.heap.get? b = some o -> h'.get? b = some o) (hn:H it = none) (hL:it ≠ X.env.locals)
  (h1:it ∈ X.ex \/ X.s₀.heap.objs.size <= it) (h2:∀ x c,X.env.cells.lookup x = some c -> c ≠ it) (h3:∀ p ∈ X.pn ++ pins,p.1 ≠ it):Inv X pins σ H { s with heap:=h',toks:=t' }:=by
 have nit:∀ b u,H b = some u -> b ≠ it:=fun b u e z=>by rw [z,hn] at e; cases e
 refine I.step (g':=s.gens) (d':=s.drawn) (ch:=[it]) (fun b hb=>?_) (fun b o _ _ hc e _=>k b o (fun z=>hc (by simp [z])) e) (fun b o _ _ hc e _=>⟨o.slots,k b o (fun z=>hc (by simp [z])) e⟩) (fun _ _ _ _ n=>n)
  (fun b o hc e=>⟨o,k b o (fun z=>hc (by simp [z])) e⟩) (fun _ _ e=>e) (fun _ _ _ e=>e) (fun b ps e=>⟨#[],by rw [e]; simp⟩) (fun m hm=>?_) (fun b u e=>?_) I.bare
 ·have e:b = it:=by simpa using hb
  subst e
  exact ⟨h1,hL,h2,h3⟩
 ·refine x3_2 hm fun o es ep ho r=>?_
  clear hm
  exact ⟨o,es,ep,k _ o (Ne.symm hL) ho,r⟩
 ·refine (I.hok b u e).stay (fun c v hc q=>k c v ?_ q) (fun _ q=>q) fun _ _ q=>q
  rcases hc with z | z
  ·rw [z]; exact nit b u e
  ·exact nit c _ z
theorem Inv.tok (I:Inv X pins σ H s) (t:Nat):Inv X pins σ H { s with toks:=t }:=I.un (h':=s.heap) (t':=t) Un.refl I.hok
theorem Inv.kept {t':Nat} (I:Inv X pins σ H s) (k:∀ b u,s.heap.get? b = some u -> h'.get? b = some u):Inv X pins σ H { s with heap:=h',toks:=t' }:=I.un (Un.kept k) (I.hok.kept k)
theorem Inv.laid {a:Addr} {o:HO} {t':Nat} (I:Inv X pins σ H s) (k:∀ b u,s.heap.get? b = some u -> h'.get? b = some u) (hp:s.heap.objs.size <= a) (new:ObjOk X.prog X.w (upd H a o) h' a o) :
  Inv X pins σ (upd H a o) { s with heap:=h',toks:=t' }:=I.un (Un.laid k hp (I.hok.fresh hp)) (I.hok.laid k hp new)
theorem Inv.write {x e:Addr} {o:HO} {t':Nat} (I:Inv X pins σ H s) (mu:Mut (H x)) (he:e = x \/ H e = some (.own x)) (k:∀ b u,b ≠ e -> s.heap.get? b = some u -> h'.get? b = some u) (heo:∃ u,h'.get? e = some u)
  (new:ObjOk X.prog X.w (upd H x o) h' x o):Inv X pins σ (upd H x o) { s with heap:=h',toks:=t' }:=I.un (Un.write mu he k heo) (I.hok.write mu he k heo new)
theorem Inv.pins_of {pins':List (Addr × Obj)} (I:Inv X pins σ H s) (h:∀ p ∈ pins',s.heap.get? p.1 = some p.2 /\ H p.1 = none /\ p.1 ≠ X.env.locals /\ p.1 ∉ X.fs /\ ∀ v,p.2.data ≠ .cell v):Inv X pins' σ H s :=
 ⟨I.ok,I.os,I.bare,I.base,I.loc,I.cell,I.free,I.freeC,fun p hp=>(List.mem_append.mp hp).elim (fun z=>I.pin p (List.mem_append_left _ z)) (h p),I.hok,I.len⟩
theorem kj5 {N:List Str} (hN:N.Nodup) {i j:Nat} {x:Str} (a:N[i]? = some x) (b:N[j]? = some x):i = j:=by
 obtain ⟨h1,e1⟩:=List.getElem?_eq_some_iff.mp a
 obtain ⟨h2,e2⟩:=List.getElem?_eq_some_iff.mp b
 exact (List.getElem_inj hN).mp (e1.trans e2.symm)
theorem ka9 {M:Model} {A:Around} {E:Value -> Shared -> Prop} {i:Nat} {x:Str} {v:V} {u:Value} {Q:Unit -> Shared -> Prop} (I:Inv X pins σ H s) (hN:X.N.Nodup) (hi:X.N[i]? = some x) (hx:Loc X.env.scope x) (r:RelV v u)
  (h:∀ s',Inv X pins (σ.set i (some v)) H s' -> (∃ a,Heap.SameBut a s.heap s'.heap /\ (a = X.env.locals \/ X.env.cells.lookup x = some a)) -> Q () s') (hf:X.fn x = true \/ X.env.scope.names.lookup x = some .local:=by first | exact .inl rfl | exact .inr rfl | assumption):wpAny M A (storeName X.env x u) Q E s:=by
 refine x1_2 (id I.loc) fun m hn hl=>?_
 have hcls:(X.env.scope.kind == .class || (X.env.scope.kind == .module && X.env.locals != X.env.globals)) = false:=by rw [I.ok.kind]; rfl
 have hiσ:i < σ.length:=by rw [I.len]; exact (List.getElem?_eq_some_iff.mp hi).1
 have cne:=I.cne
 have tracked:∀ {a:Addr} {h':Heap},(∃ o,s.heap.get? a = some o /\ H a = none) -> Heap.SameBut a s.heap h' -> HOk X.prog X.w H h':=fun {a h'} ha hs b ob e=>by
  refine x1_2 ha fun _ _ hfree=>?_
  clear ha
  refine (I.hok b ob e).stay (fun c w' hc q=>(hs.2 c ?_).trans q) (fun _ q=>q) fun _ _ q=>q
  rintro rfl
  rcases hc with rfl | hc
  ·rw [hfree] at e; cases e
  ·rw [hfree] at hc; cases hc
 rcases hx with hk | hk
 ·refine wpAny_storeName_local hk hn (fun h' hn' hs=>?_) hcls
  refine x3_2 (id hn) fun oL _ _ hoL _=>?_
  refine h _ ⟨I.ok,I.os,I.bare,⟨fun b o e n hb hx=>?_,fun b o e n hb hx=>?_,I.base.free,fun b o e hx=>?_,I.base.tups,I.base.frzs,I.base.tbls⟩,⟨_,hn',fun j y v' e1 e2 e3=>?_⟩,fun y c e=>?_,I.free,I.freeC,fun p hp=>?_,tracked ⟨oL,hoL,I.free⟩ hs,by simpa using I.len⟩ ⟨_,hs,.inl rfl⟩
  ·exact (hs.2 b (Nat.ne_of_lt (Nat.lt_of_lt_of_le (Heap.lt_size e) I.ok.above))).trans (I.base.keep b o e n hb hx)
  ·obtain ⟨sl,e1⟩:=I.base.slot b o e n hb hx
   exact ⟨sl,(hs.2 b (Nat.ne_of_lt (Nat.lt_of_lt_of_le (Heap.lt_size e) I.ok.above))).trans e1⟩
  ·obtain ⟨o',e1⟩:=I.base.there b o e hx
   exact ⟨o',(hs.2 b (Nat.ne_of_lt (Nat.lt_of_lt_of_le (Heap.lt_size e) I.ok.above))).trans e1⟩
  ·by_cases hj:j = i
   ·subst hj
    rw [hi] at e1; cases e1
    rw [List.getElem?_set_self hiσ] at e2
    cases e2
    exact ⟨u,r,.inl ⟨hk,by simp⟩⟩
   ·rw [List.getElem?_set_ne (Ne.symm hj)] at e2
    refine x1_2 (hl j y v' e1 e2 e3) fun u' r' q=>?_
    refine ⟨u',r',?_⟩
    rcases q with ⟨k,e⟩ | ⟨k,c,e,z⟩
    ·refine .inl ⟨k,?_⟩
     have:y ≠ x:=fun e=>hj (kj5 hN e1 (e ▸ hi))
     simp [this,e]
    ·exact .inr ⟨k,c,e,z.sameBut hs (cne y c e)⟩
  ·obtain ⟨w',z⟩:=I.cell y c e
   exact ⟨w',z.sameBut hs (cne y c e)⟩
  ·refine x0_5 (I.pin p hp) fun e n ne nf d=>?_
   exact ⟨(hs.2 p.1 ne).trans e,n,ne,nf,d⟩
 ·have hfn:X.fn x = true:=by
   rcases hf with z | z
   ·exact z
   ·rw [z] at hk; cases hk
  obtain ⟨c,hc⟩:=I.ok.has x (.inl hk)
  obtain ⟨w',z⟩:=I.cell x c hc
  refine wpAny_storeName_cell I.ok.kind hk hc z (fun h' hc' hs=>?_)
  refine x1_2 (id z) fun oc hoc hocd=>?_
  refine h { s with heap:=h' } ⟨I.ok,I.os,I.bare,⟨fun b o e n hb hx=>?_,fun b o e n hb hx=>?_,I.base.free,fun b o e hx=>?_,I.base.tups,I.base.frzs,I.base.tbls⟩,⟨m,hn.sameBut hs (Ne.symm (cne x c hc)),fun j y v' e1 e2 e3=>?_⟩,fun y c' e=>?_,I.free,I.freeC,fun p hp=>?_,tracked ⟨oc,hoc,I.freeC x c hc⟩ hs,by simpa using I.len⟩ ⟨c,hs,.inr hc⟩
  ·exact (hs.2 b (Nat.ne_of_lt (Nat.lt_of_lt_of_le (Heap.lt_size e) (I.ok.cab x c hfn hc)))).trans (I.base.keep b o e n hb hx)
  ·obtain ⟨sl,e1⟩:=I.base.slot b o e n hb hx
   exact ⟨sl,(hs.2 b (Nat.ne_of_lt (Nat.lt_of_lt_of_le (Heap.lt_size e) (I.ok.cab x c hfn hc)))).trans e1⟩
  ·obtain ⟨o',e1⟩:=I.base.there b o e hx
   exact ⟨o',(hs.2 b (Nat.ne_of_lt (Nat.lt_of_lt_of_le (Heap.lt_size e) (I.ok.cab x c hfn hc)))).trans e1⟩
  ·by_cases hj:j = i
   ·subst hj
    rw [hi] at e1; cases e1
    rw [List.getElem?_set_self hiσ] at e2
    cases e2
    exact ⟨u,r,.inr ⟨.inl hk,c,hc,hc'⟩⟩
   ·rw [List.getElem?_set_ne (Ne.symm hj)] at e2
    refine x1_2 (hl j y v' e1 e2 e3) fun u' r' q=>?_
    refine ⟨u',r',?_⟩
    rcases q with q | ⟨k,c',e,z'⟩
    ·exact .inl q
    ·refine .inr ⟨k,c',e,z'.sameBut hs ?_⟩
     rintro rfl
     exact hj (kj5 hN e1 (I.ok.inj _ _ _ e hc ▸ hi))
  ·by_cases hcc:c' = c
   ·subst hcc; exact ⟨_,hc'⟩
   ·obtain ⟨w2,z2⟩:=I.cell y c' e
    exact ⟨w2,z2.sameBut hs hcc⟩
  ·refine x0_5 (I.pin p hp) fun e n ne nf d=>?_
   refine ⟨(hs.2 p.1 ?_).trans e,n,ne,nf,d⟩
   intro q
   rw [q,hoc] at e
   have q':oc = p.2:=Option.some.inj e
   exact d w' (by rw [<- q']; exact hocd)
theorem jf8 {M:Model} {A:Around} {E:Value -> Shared -> Prop} {i:Nat} {x:Str} {v:V} {u:Value} {Q:Unit -> Shared -> Prop} (I:Inv X pins σ H s) (hN:X.N.Nodup) (hi:X.N[i]? = some x) (hx:Loc X.env.scope x) (r:RelV v u)
  (h:∀ s',Inv X pins (σ.set i (some v)) H s' -> Q () s') (hf:X.fn x = true \/ X.env.scope.names.lookup x = some .local:=by first | exact .inl rfl | exact .inr rfl | assumption):wpAny M A (storeName X.env x u) Q E s :=
 ka9 I hN hi hx r (fun s' I' _=>h s' I') hf
theorem Inv.call' {s':Shared} {ch:List Addr} (I:Inv X pins σ H s) (ho:s'.os = s.os) (u:Un (frs X.stack) ch H H' s.heap s'.heap) (hok:HOk X.prog X.w H' s'.heap) (hg:AllBare s'.gens)
  (hch:∀ b ∈ ch,(b ∈ X.ex \/ X.s₀.heap.objs.size <= b) /\ b ≠ X.env.locals /\ (∀ x c,X.env.cells.lookup x = some c -> c ≠ b) /\ ∀ p ∈ X.pn ++ pins,p.1 ≠ b):Inv X pins σ H' s':=by
 obtain ⟨h',g',d',t',o'⟩:=s'
 have e:o' = s.os:=ho
 subst e
 exact I.call (g':=g') (t':=t') (d':=d') u hok hg hch
end
noncomputable abbrev XK:=Value -> Option Addr -> Hp -> Prop
noncomputable abbrev St:=List (Option V)
noncomputable abbrev VK:=V -> Hp -> Prop
noncomputable abbrev TE:=St -> Hp -> VK -> Prop
noncomputable abbrev TT:=St -> Hp -> (Bool -> Hp -> Prop) -> Prop
noncomputable abbrev TA:=St -> Hp -> (List V -> Hp -> Prop) -> Prop
structure Ends where
 nx:St -> Hp -> Prop
 rt:VK
 bk:St -> Hp -> Prop:=fun _ _=>False
 ct:St -> Hp -> Prop:=fun _ _=>False
noncomputable abbrev TS:=Ends -> St -> Hp -> Prop
noncomputable def EP (X:Cx) (pins:List (Addr × Obj)) (σ:St) (Q:VK) (u:Value) (s':Shared):Prop:=∃ v H',Inv X pins σ H' s' /\ RelV v u /\ Q v H'
noncomputable def TP (X:Cx) (pins:List (Addr × Obj)) (σ:St) (Q:Bool -> Hp -> Prop) (b:Bool) (s':Shared):Prop:=∃ H',Inv X pins σ H' s' /\ Q b H'
noncomputable def AP (X:Cx) (pins:List (Addr × Obj)) (σ:St) (Q:List V -> Hp -> Prop) (us:List Value) (s':Shared):Prop:=∃ vs H',Inv X pins σ H' s' /\ Vals vs us /\ Q vs H'
noncomputable def SP (X:Cx) (pins:List (Addr × Obj)) (D:Ends) (f:Flow) (s':Shared):Prop :=
 match f with
 | .next=>∃ σ' H',Inv X pins σ' H' s' /\ D.nx σ' H'
 | .brk=>∃ σ' H',Inv X pins σ' H' s' /\ D.bk σ' H'
 | .cont=>∃ σ' H',Inv X pins σ' H' s' /\ D.ct σ' H'
 | .ret u=>∃ v σ' H',Inv X pins σ' H' s' /\ RelV v u /\ D.rt v H'
noncomputable def PE (X:Cx) (e:Expr) (t:TE):Prop :=
 ∀ (pins:List (Addr × Obj)) (s:Shared) (σ:St) (H:Hp) (Q:VK),Inv X pins σ H s -> t σ H Q -> wpAny (model X.prog X.w) X.A (eval e X.env) (EP X pins σ Q) X.xe s
noncomputable def PT (X:Cx) (e:Expr) (t:TT):Prop :=
 ∀ (pins:List (Addr × Obj)) (s:Shared) (σ:St) (H:Hp) (Q:Bool -> Hp -> Prop),Inv X pins σ H s -> t σ H Q -> wpAny (model X.prog X.w) X.A (isTrue e X.env (eval e X.env)) (TP X pins σ Q) X.xe s
noncomputable def PW (X:Cx) (e:Expr) (t:TT):Prop :=
 ∀ (whole:Sem Value) (pins:List (Addr × Obj)) (s:Shared) (σ:St) (H:Hp) (Q:Bool -> Hp -> Prop),Inv X pins σ H s -> t σ H Q -> wpAny (model X.prog X.w) X.A (isTrue e X.env whole) (TP X pins σ Q) X.xe s
theorem PW.pt {X:Cx} {e:Expr} {t:TT} (h:PW X e t):PT X e t:=h _
noncomputable def PA (X:Cx) (es:List Expr) (t:TA):Prop :=
 ∀ (pos:Pos) (pins:List (Addr × Obj)) (s:Shared) (σ:St) (H:Hp) (Q:List V -> Hp -> Prop),Inv X pins σ H s -> t σ H Q -> wpAny (model X.prog X.w) X.A (spliced (backTo pos (starEach es X.env))) (AP X pins σ Q) X.xe s
noncomputable def PS (X:Cx) (st:Stmt) (t:TS):Prop :=
 ∀ (pins:List (Addr × Obj)) (s:Shared) (σ:St) (H:Hp) (D:Ends),Inv X pins σ H s -> t D σ H -> wpAny (model X.prog X.w) X.A (exec st X.env) (SP X pins D) X.xe s
noncomputable def PSs (X:Cx) (st:List Stmt) (t:TS):Prop :=
 ∀ (pins:List (Addr × Obj)) (s:Shared) (σ:St) (H:Hp) (D:Ends),Inv X pins σ H s -> t D σ H -> wpAny (model X.prog X.w) X.A (execs st X.env) (SP X pins D) X.xe s
theorem thn {α:Type} {t:Sem α} {Q Q':α -> Shared -> Prop} {M:Model} {A:Around} {E:Value -> Shared -> Prop} {s:Shared} (h:wpAny M A t Q E s) (hQ:∀ a s,Q a s -> Q' a s):wpAny M A t Q' E s:=wpAny_mono h hQ fun _ _ x=>x
end L2
namespace L2
open PySem PySem.Spec PyProof.Rows
section
variable {X:Cx}
noncomputable def tVar (i:Nat):TE:=fun σ H Q=>∃ v,σ[i]? = some (some v) /\ Q v H
noncomputable def tC (v:V):TE:=fun _ H Q=>Q v H
theorem vb7 {i:Nat} {x:Str} {pos:Pos} (hN:X.N[i]? = some x) (hv:Vis X.env.scope x) (hd:(x == ("__debug__" : Str)) = false:=by decide) (hcd:(x == ("__classdict__" : Str)) = false:=by decide):PE X (.Name x pos) (tVar i):=by
 intro pins s σ H Q I h
 obtain ⟨v,e,h⟩:=h
 obtain ⟨m,hn,hl⟩:=I.loc
 obtain ⟨u,r,l⟩:=hl i x v hN e hv
 have fin:EP X pins σ Q u s:=⟨v,H,I,r,h⟩
 rcases l with ⟨hk,hm⟩ | ⟨hk,c,hc,hcell⟩
 ·exact wpAny_Name (wpAny_loadName_local I.ok.kind hk hn hm fin) hd
 ·rcases hk with hk | hk
  ·exact wpAny_Name (wpAny_loadName_cell I.ok.kind hk hc hcell fin) hd
  ·exact wpAny_Name (wpAny_loadName_free I.ok.kind hk hc hcell fin hcd) hd
theorem qw0 {i j pos}:PE X (.Constant (.int i) j pos) (tC (.int i)):=fun _ _ _ H _ I h=>wpAny_Constant_int ⟨.int i,H,I.tok _,⟨_,rfl⟩,h⟩
theorem vd6 {b j pos}:PE X (.Constant (.bool b) j pos) (tC (.bl b)):=fun _ _ _ H _ I h=>Constant_bool ⟨.bl b,H,I,rfl,h⟩
noncomputable def Gl (X:Cx) (x:Str):Prop:=X.env.kindOf x = some .globalImplicit
theorem js3 {E:Value -> Shared -> Prop} {pins:List (Addr × Obj)} {s:Shared} {σ:St} {H:Hp} {x:Str} {u:Value} {pos:Pos} {Q:Value -> Shared -> Prop} (I:Inv X pins σ H s) (hg:Gl X x) (hm:X.mg x = some u) (h:Q u s)
  (hd:(x == ("__debug__" : Str)) = false:=by decide):wpAny (model X.prog X.w) X.A (eval (.Name x pos) X.env) Q E s :=
 Calls.Name_function_global I.ok.kind hg (Calls.loadGlobal_global (by rw [I.ok.glob]; exact I.mod.glob.keeps I.bk) hm h) hd
theorem ju1 {E:Value -> Shared -> Prop} {pins:List (Addr × Obj)} {s:Shared} {σ:St} {H:Hp} {x:Str} {u:Value} {pos:Pos} {Q:Value -> Shared -> Prop} (I:Inv X pins σ H s) (hg:Gl X x) (hm:X.mg x = none) (hv:bootBuiltins x = some u) (h:Q u s)
  (hn:x ≠ "__name__":=by decide) (hd:(x == ("__debug__" : Str)) = false:=by decide):wpAny (model X.prog X.w) X.A (eval (.Name x pos) X.env) Q E s:=by
 refine x1_2 I.mod.blt fun mb h1 h2=>?_
 exact Calls.Name_function_global I.ok.kind hg (Calls.loadGlobal_builtin (by rw [I.ok.glob]; exact I.mod.glob.keeps I.bk) hm (by rw [I.ok.blt]; exact h1.keeps I.bk) ((h2 x hn).trans hv) h) hd
theorem qs0 {x:Str} {v:V} {u:Value} {pos:Pos} (hg:Gl X x) (hm:X.mg x = some u) (r:RelV v u) (hd:(x == ("__debug__" : Str)) = false:=by decide):PE X (.Name x pos) (tC v) :=
 fun _ _ _ H _ I h=>js3 I hg hm ⟨v,H,I,r,h⟩ hd
variable {a b:Expr} {ta tb:TE} {pos:Pos}
noncomputable def tB (t:TE):TT:=fun σ H Q=>t σ H fun x H1=>∃ c,x = .bl c /\ Q c H1
theorem qy3 {e:Expr} {t:TE} (h:PE X e t) (he:∀ whole,isTrue e X.env whole = (do let v <- whole; standAt e.pos; holding [v] (truthy v)):=by intro _; rfl):PT X e (tB t):=by
 intro pins s σ H Q I hw
 refine isTrue_plain (thn (h pins s σ H _ I hw) fun v s1 zz7=>?_) (he _)
 refine x2_3 zz7 fun x H1 I1 r1 q1=>?_
 clear zz7
 refine x1_2 q1 fun d zo1 q=>?_
 clear q1
 obtain rfl:=zo1
 cases r1
 exact wpAny_truthy_bool ⟨H1,I1,q⟩
variable {tA tB':TT} {rest:List Expr}
noncomputable def tAnd (t u:TT):TT:=fun σ H Q=>t σ H fun c H1=>if c = true then u σ H1 Q else Q false H1
noncomputable def tOr (t u:TT):TT:=fun σ H Q=>t σ H fun c H1=>if c = true then Q true H1 else u σ H1 Q
noncomputable def tNot (t:TT):TT:=fun σ H Q=>t σ H fun c H1=>Q (!c) H1
theorem qr2 (ha:PT X a tA):PW X (.BoolOp .And [a] pos) tA:=by
 intro wh pins s σ H Q I h
 refine isTrue_and (thn (ha pins s σ H Q I h) fun c s1 e=>?_)
 cases c with
 | true=>exact isTrue_and_nil e
 | false=>exact e
theorem vc1 (ha:PT X a tA):PW X (.BoolOp .Or [a] pos) tA:=by
 intro wh pins s σ H Q I h
 refine isTrue_or (thn (ha pins s σ H Q I h) fun c s1 e=>?_)
 cases c with
 | false=>exact isTrue_or_nil e
 | true=>exact e
theorem qz7 (ha:PT X a tA) (hb:PW X (.BoolOp .And (b :: rest) pos) tB'):PW X (.BoolOp .And (a :: b :: rest) pos) (tAnd tA tB'):=by
 intro wh pins s σ H Q I h
 refine isTrue_and (thn (ha pins s σ H _ I h) fun c s1 zz8=>?_)
 refine x1_2 zz8 fun H1 I1 q1=>?_
 clear zz8
 cases c with
 | true=>exact hb wh pins s1 σ H1 Q I1 q1
 | false=>exact ⟨H1,I1,q1⟩
theorem vc9 (ha:PT X a tA) (hb:PW X (.BoolOp .Or (b :: rest) pos) tB'):PW X (.BoolOp .Or (a :: b :: rest) pos) (tOr tA tB'):=by
 intro wh pins s σ H Q I h
 refine isTrue_or (thn (ha pins s σ H _ I h) fun c s1 zz9=>?_)
 refine x1_2 zz9 fun H1 I1 q1=>?_
 clear zz9
 cases c with
 | true=>exact ⟨H1,I1,q1⟩
 | false=>exact hb wh pins s1 σ H1 Q I1 q1
theorem qv0 (ha:PT X a tA):PT X (.UnaryOp .Not a pos) (tNot tA):=by
 intro pins s σ H Q I h
 exact isTrue_not (ha pins s σ H (fun c H1=>Q (!c) H1) I h)
noncomputable def vd3 (ta tb:TE):TE:=fun σ H Q=>ta σ H fun x H1=>∃ c,x = .bl c /\ if c = true then tb σ H1 Q else Q (.bl false) H1
theorem vc3 {op} {t:TE} (h:PE X a t):PE X (.BoolOp op [a] pos) t:=fun pins s σ H Q I hw=>BoolOp_one (h pins s σ H Q I hw)
theorem vb9 (ha:PE X a ta) (hb:PE X (.BoolOp .And (b :: rest) pos) tb):PE X (.BoolOp .And (a :: b :: rest) pos) (vd3 ta tb):=by
 intro pins s σ H Q I h
 refine BoolOp_and (thn (ha pins s σ H _ I h) fun v s1 zz10=>?_)
 obtain ⟨x,H1,I1,r1,q1⟩:=zz10
 obtain ⟨c,rfl,q1⟩:=q1
 cases r1
 refine wpAny_truthy_bool ?_
 cases c with
 | true=>exact hb pins s1 σ H1 Q I1 q1
 | false=>exact ⟨.bl false,H1,I1,rfl,q1⟩
end
end L2
namespace L2
open PySem PySem.Spec PyProof.Rows
noncomputable def SqL (K:PySem.W.Frag) (H:Hp) (a:Addr) (xs:List V):Prop :=
 Rd H a (.lst xs) \/
  ∃ (o:Obj) (its:Array Value) (n:Nat),K.lookup a = some o /\ o.cls = .type "list" /\ o.dict = none /\ o.data = .seq its n /\ its.size <= sizeLine /\ Vals xs its.toList
noncomputable def SqT (K:PySem.W.Frag) (H:Hp) (a:Addr) (xs:List V):Prop :=
 Rd H a (.tup xs) \/
  ∃ (o:Obj) (its:Array Value) (n:Nat),K.lookup a = some o /\ o.cls = .type "tuple" /\ o.data = .seq its n /\ its.size <= sizeLine /\ Vals xs its.toList
noncomputable def absV:Value -> Option V
 | .none=>some .non
 | .bool b=>some (.bl b)
 | .int i _=>some (.int i)
 | .str x _=>some (.str x)
 | .bytes b _=>some (.byt b)
 | .float b _=>some (.flt b)
 | .ref a=>some (.ref a)
 | .type n=>some (.ty n)
 | _=>none
theorem RelV.abs {x:V} {u:Value} (r:RelV x u):absV u = some x:=by
 cases x with
 | non=>cases r; rfl
 | bl _=>cases r; rfl
 | int _=>obtain ⟨t,rfl⟩:=r; rfl
 | str _=>obtain ⟨t,rfl⟩:=r; rfl
 | byt _=>obtain ⟨t,rfl⟩:=r; rfl
 | flt _=>obtain ⟨t,rfl⟩:=r; rfl
 | ref _=>cases r; rfl
 | ty _=>cases r; rfl
theorem RelV.inj {x y:V} {u:Value} (r:RelV x u) (q:RelV y u):x = y:=Option.some.inj (r.abs.symm.trans q.abs)
theorem Vals.inj {xs ys:List V} {us:List Value} (h:Vals xs us) (h':Vals ys us):xs = ys:=by
 induction h generalizing ys with
 | nil=>cases h'; rfl
 | cons r t ih =>
  cases h' with
  | cons r' t'=>rw [r.inj r',ih t']
section
variable {X:Cx} {pins:List (Addr × Obj)} {σ:St} {H:Hp} {s:Shared} {a:Addr} {xs ys:List V}
theorem SqL.of {K:PySem.W.Frag} (h:H a = some (.lst xs)):SqL K H a xs:=.inl (.inl h)
theorem SqT.of {K:PySem.W.Frag} (h:H a = some (.tup xs)):SqT K H a xs:=.inl (.inl h)
theorem Inv.list (I:Inv X pins σ H s) (h:SqL X.K H a xs):∃ its:List Value,Vals xs its /\ PlainL s.heap a its.toArray /\ xs.length <= sizeLine:=by
 rcases h with h | ⟨o,its,n,hk,hc,hd,hs,hz,r⟩
 ·obtain ⟨z,its,n,r,e⟩:=h.ok I.hok
  exact ⟨its,r,⟨_,n,e,rfl,rfl,rfl⟩,z⟩
 ·refine ⟨its.toList,r,⟨o,n,I.kIn a o hk,hc,hd,by simpa using hs⟩,?_⟩
  have e:=r.length
  simp only [Array.length_toList] at e
  lia
theorem Inv.tuple (I:Inv X pins σ H s) (h:SqT X.K H a xs):∃ its:List Value,Vals xs its /\ IsTup s.heap a its.toArray /\ xs.length <= sizeLine:=by
 rcases h with h | ⟨o,its,n,hk,hc,hs,hz,r⟩
 ·obtain ⟨z,its,r,p⟩:=h.ok I.hok
  exact ⟨its,r,p,z⟩
 ·refine ⟨its.toList,r,⟨o,I.kIn a o hk,hc,n,by simpa using hs⟩,?_⟩
  have e:=r.length
  simp only [Array.length_toList] at e
  lia
theorem Inv.list_inj (I:Inv X pins σ H s) (h:SqL X.K H a xs) (h':SqL X.K H a ys):xs = ys:=by
 refine x1_3 (I.list h) fun its r zo2 _=>?_
 obtain ⟨o,n,e,_,_,d⟩:=zo2
 refine x1_3 (I.list h') fun its' r' zo2 _=>?_
 obtain ⟨o',n',e',_,_,d'⟩:=zo2
 rw [e] at e'; cases e'
 rw [d] at d'
 injection d' with d1 _
 have:its = its':=by simpa using congrArg Array.toList d1
 subst this
 exact r.inj r'
end
noncomputable abbrev Cx.wish (X:Cx) (E:Value -> Shared -> Prop):Cx:={ X with xe:=E }
noncomputable abbrev Cx.nox (X:Cx):Cx:=X.wish fun _ _=>False
theorem Cx.Ok.wish {X:Cx} (ok:X.Ok) (E:Value -> Shared -> Prop):(X.wish E).Ok :=
 ⟨ok.mod,ok.kind,ok.glob,ok.blt,ok.above,ok.inj,ok.has,ok.cab,ok.hd,ok.frames,ok.stk,ok.exf,ok.bs,ok.bsz,ok.noex,ok.exfs,ok.funs,ok.frf⟩
theorem Cx.Ok.unwish {X:Cx} {E:Value -> Shared -> Prop} (ok:(X.wish E).Ok):X.Ok :=
 ⟨ok.mod,ok.kind,ok.glob,ok.blt,ok.above,ok.inj,ok.has,ok.cab,ok.hd,ok.frames,ok.stk,ok.exf,ok.bs,ok.bsz,ok.noex,ok.exfs,ok.funs,ok.frf⟩
section
variable {X:Cx} {pins:List (Addr × Obj)} {σ:St} {H:Hp} {s:Shared} {E:Value -> Shared -> Prop}
theorem Inv.wish (I:Inv X pins σ H s) (E:Value -> Shared -> Prop):Inv (X.wish E) pins σ H s:=⟨I.ok.wish E,I.os,I.bare,I.base,I.loc,I.cell,I.free,I.freeC,I.pin,I.hok,I.len⟩
theorem Inv.unwish (I:Inv (X.wish E) pins σ H s):Inv X pins σ H s:=⟨I.ok.unwish,I.os,I.bare,I.base,I.loc,I.cell,I.free,I.freeC,I.pin,I.hok,I.len⟩
theorem SP.unwish {D:Ends} {f:Flow} {s':Shared} (h:SP (X.wish E) pins D f s'):SP X pins D f s':=by
 cases f with
 | next=>obtain ⟨σ',H',I,q⟩:=h; exact ⟨σ',H',I.unwish,q⟩
 | brk=>obtain ⟨σ',H',I,q⟩:=h; exact ⟨σ',H',I.unwish,q⟩
 | cont=>obtain ⟨σ',H',I,q⟩:=h; exact ⟨σ',H',I.unwish,q⟩
 | ret u=>obtain ⟨v,σ',H',I,r,q⟩:=h; exact ⟨v,σ',H',I.unwish,r,q⟩
theorem PE.nox {e:Expr} {t:TE} (h:PE X.nox e t):PE X e t:=fun pins s σ H Q I hw =>
 wpAny_mono (h pins s σ H Q (I.wish _) hw) (fun _ _ zz14=>zz14.elim fun v zz15=>zz15.elim fun H' zz16=>zz16.elim fun I' zz17=>zz17.elim fun r q=>⟨v,H',I'.unwish,r,q⟩) fun _ _ z=>False.elim z
theorem PT.nox {e:Expr} {t:TT} (h:PT X.nox e t):PT X e t:=fun pins s σ H Q I hw =>
 wpAny_mono (h pins s σ H Q (I.wish _) hw) (fun _ _ zz18=>zz18.elim fun H' zz19=>zz19.elim fun I' q=>⟨H',I'.unwish,q⟩) fun _ _ z=>False.elim z
theorem PSs.nox {st:List Stmt} {t:TS} (h:PSs X.nox st t):PSs X st t:=fun pins s σ H D I hw =>
 wpAny_mono (h pins s σ H D (I.wish _) hw) (fun _ _ q=>q.unwish) fun _ _ z=>False.elim z
end
section
variable {X:Cx} {st:Stmt} {rest:List Stmt} {t u:TS} {e:Expr} {te:TE} {pos:Pos}
noncomputable def ve4:TS:=fun D σ H=>D.nx σ H
noncomputable def tSeq (t u:TS):TS:=fun D σ H=>t { D with nx:=u D } σ H
theorem qo5:PSs X [] ve4:=fun _ _ σ H _ I h=>wpAny_execs_nil ⟨σ,H,I,h⟩
theorem kj8 (h1:PS X st t) (h2:PSs X rest u):PSs X (st :: rest) (tSeq t u):=by
 intro pins s σ H D I h
 refine wpAny_execs_cons (thn (h1 pins s σ H { D with nx:=u D } I h) fun f s1 q=>?_)
 cases f with
 | next =>
  obtain ⟨σ',H',I',q⟩:=q
  exact h2 pins s1 σ' H' D I' q
 | ret v=>exact q
 | brk=>exact q
 | cont=>exact q
theorem ku5 (h1:PS X st t):PSs X [st] t:=by
 intro pins s σ H D I h
 refine wpAny_execs_cons (thn (h1 pins s σ H D I h) fun f s1 q=>?_)
 cases f with
 | next=>exact wpAny_execs_nil q
 | ret v=>exact q
 | brk=>exact q
 | cont=>exact q
theorem Inv.quiet {pins:List (Addr × Obj)} {σ:St} {H:Hp} {s:Shared} (I:Inv X pins σ H s):interactive X.env = false:=by simp [interactive,I.ok.kind]
noncomputable def qy1 (te:TE):TS:=fun D σ H=>te σ H fun _ H1=>D.nx σ H1
theorem kf2 (he:PE X e te) (hs:swapsWith e none pos.line X.env = pure false:=by rfl):PS X (.Expr e pos) (qy1 te):=by
 intro pins s σ H D I h
 exact wpAny_Expr_any (thn (he pins s σ H _ I h) fun v s1 zz20=>zz20.elim fun x zz21=>zz21.elim fun H1 zz22=>zz22.elim fun I1 zz23=>zz23.elim fun r1 q1=>⟨σ,H1,I1,q1⟩) I.quiet hs
noncomputable def tRet (te:TE):TS:=fun D σ H=>te σ H D.rt
theorem qx0 (he:PE X e te):PS X (.Return (some e) pos) (tRet te):=by
 intro pins s σ H D I h
 exact wpAny_Return_some (thn (he pins s σ H _ I h) fun v s1 zz24=>zz24.elim fun x zz25=>zz25.elim fun H1 zz26=>zz26.elim fun I1 zz27=>zz27.elim fun r1 q1=>⟨x,σ,H1,I1,r1,q1⟩)
noncomputable def tIfS (c:TT) (t u:TS):TS:=fun D σ H=>c σ H fun b H1=>if b = true then t D σ H1 else u D σ H1
theorem ve7 {c:Expr} {a b:List Stmt} {tc:TT} (hc:PT X c tc) (ha:PSs X a t) (hb:PSs X b u):PS X (.If c a b pos) (tIfS tc t u):=by
 intro pins s σ H D I h
 refine wpAny_If (thn (hc pins s σ H _ I h) fun d s1 zz28=>?_)
 refine x1_2 zz28 fun H1 I1 q1=>?_
 clear zz28
 cases d with
 | true=>exact ha pins s1 σ H1 D I1 q1
 | false=>exact hb pins s1 σ H1 D I1 q1
end
noncomputable abbrev TG:=V -> St -> Hp -> (St -> Hp -> Prop) -> Prop
noncomputable abbrev TGs:=List V -> St -> Hp -> (St -> Hp -> Prop) -> Prop
noncomputable def PG (X:Cx) (target:Expr) (t:TG):Prop :=
 ∀ (pins:List (Addr × Obj)) (s:Shared) (σ:St) (H:Hp) (v:V) (u:Value) (Q:St -> Hp -> Prop),Inv X pins σ H s -> RelV v u -> t v σ H Q ->
  wpAny (model X.prog X.w) X.A (assign target X.env u) (fun _ s'=>∃ σ' H',Inv X pins σ' H' s' /\ Q σ' H') X.xe s
noncomputable def PGs (X:Cx) (ts:List Expr) (t:TGs):Prop :=
 ∀ (pins:List (Addr × Obj)) (s:Shared) (σ:St) (H:Hp) (vs:List V) (us:List Value) (Q:St -> Hp -> Prop),Inv X pins σ H s -> Vals vs us -> t vs σ H Q ->
  wpAny (model X.prog X.w) X.A (assignInOrder ((assignEach ts X.env).map (·.2)) us) (fun _ s'=>∃ σ' H',Inv X pins σ' H' s' /\ Q σ' H') X.xe s
noncomputable abbrev TSet:=V -> V -> V -> Hp -> (Hp -> Prop) -> Prop
noncomputable def PSet (X:Cx) (t:TSet):Prop :=
 ∀ (pins:List (Addr × Obj)) (s:Shared) (σ:St) (H:Hp) (o i v:V) (ov iv u:Value) (Q:Hp -> Prop),Inv X pins σ H s -> RelV o ov -> RelV i iv -> RelV v u -> t o i v H Q ->
  wpAny (model X.prog X.w) X.A (setItem ov iv u) (fun _ s'=>∃ H',Inv X pins σ H' s' /\ Q H') X.xe s
section
variable {X:Cx} {pos:Pos}
noncomputable def kq8 (i:Nat):TG:=fun v σ H Q=>Q (σ.set i (some v)) H
theorem y4 {i:Nat} {x:Str} (hN:X.N.Nodup) (hi:X.N[i]? = some x) (hx:Loc X.env.scope x) (hf:X.fn x = true \/ X.env.scope.names.lookup x = some .local:=by first | exact .inl rfl | exact .inr rfl | assumption):PG X (.Name x pos) (kq8 i):=by
 intro pins s σ H v u Q I r h
 exact wpAny_assign_Name (jf8 I hN hi hx r (fun s' I'=>⟨_,H,I',h⟩) hf)
noncomputable def gNil:TGs:=fun vs σ H Q=>vs = [] /\ Q σ H
noncomputable def qs6 (t:TG) (u:TGs):TGs:=fun vs σ H Q=>∃ v r,vs = v :: r /\ t v σ H fun σ' H'=>u r σ' H' Q
theorem jn0:PGs X [] gNil:=by
 intro pins s σ H vs us Q I r h
 obtain ⟨e,h⟩:=h
 subst e
 cases r
 exact assignInOrder_nil ⟨σ,H,I,h⟩
theorem Y4 {e:Expr} {es:List Expr} {t:TG} {u:TGs} (h1:PG X e t) (h2:PGs X es u)
  (hs:(assignEach (e :: es) X.env).map (·.2) = assign e X.env :: (assignEach es X.env).map (·.2):=by rfl):PGs X (e :: es) (qs6 t u):=by
 intro pins s σ H vs us Q I r h
 obtain ⟨v,vr,e1,h⟩:=h
 subst e1
 cases r with
 | cons r rr =>
  rw [hs]
  refine assignInOrder_cons (thn (h1 pins s σ H _ _ _ I r h) fun _ s1 zz29=>?_)
  refine x2_2 zz29 fun σ1 H1 I1 q1=>?_
  clear zz29
  exact h2 pins s1 σ1 H1 _ _ Q I1 rr q1
noncomputable def gTup (K:PySem.W.Frag) (n:Nat) (t:TGs):TG:=fun v σ H Q=>∃ a xs,v = .ref a /\ SqT K H a xs /\ xs.length = n /\ t xs σ H Q
theorem jw5 {es:List Expr} {k:Nat} {t:TGs} {n:Nat} (hc:X.calm = true) (h:PGs X es t)
  (hn:(assignEach es X.env).length = n:=by rfl) (hst:(assignEach es X.env).findIdx? (·.1) = none:=by rfl):PG X (.Tuple es k pos) (gTup X.K n t):=by
 intro pins s σ H v u Q I r hw
 obtain ⟨a,xs,e1,hq,hl,hw⟩:=hw
 subst e1
 cases r
 obtain ⟨its,rv,ht,hz⟩:=I.tuple hq
 refine assign_Tuple_tuple (I.ok.hd hc) ht (by simp [hn,<- hl,rv.length]) hst fun h' hx=>?_
 have I1:Inv X pins σ H { s with heap:=h' }:=I.kept (t':=s.toks) fun b o e=>hx b o (Nat.ne_of_lt (Heap.lt_size e)) e
 exact h pins _ σ H xs _ Q I1 (by simpa using rv) hw
noncomputable def gSub (to ti:TE) (t:TSet):TG:=fun v σ H Q=>to σ H fun o H1=>ti σ H1 fun i H2=>t o i v H2 fun H3=>Q σ H3
theorem qy7 {o i:Expr} {to ti:TE} {t:TSet} (ho:PE X o to) (hi:PE X i ti) (hs:PSet X t)
  (ha:∀ v,assign (.Subscript o i pos) X.env v = (do
   let ov <- holding [v] (eval o X.env)
   let iv <- holding [v,ov] (eval i X.env)
   standAt pos
   holding [v,ov,iv] (setItem ov iv v)
   release [v,ov,iv] []):=by intro _; rfl):PG X (.Subscript o i pos) (gSub to ti t):=by
 intro pins s σ H v u Q I r h
 rw [ha]
 refine wpAny_bind (wpAny_holding (thn (ho pins s σ H _ I h) fun ov s1 zz30=>?_))
 refine x2_3 zz30 fun x H1 I1 r1 q1=>?_
 clear zz30
 refine wpAny_bind (wpAny_holding (thn (hi pins s1 σ H1 _ I1 q1) fun iv s2 zz31=>?_))
 refine x2_3 zz31 fun y H2 I2 r2 q2=>?_
 clear zz31
 refine wpAny_bind (wpAny_standAt (wpAny_bind (wpAny_holding (thn (hs pins s2 σ H2 x y v ov iv u _ I2 r1 r2 r q2) fun _ s3 zz32=>?_))))
 refine x1_2 zz32 fun H3 I3 q3=>?_
 clear zz32
 exact wpAny_release ⟨σ,H3,I3,q3⟩
noncomputable def tAsg (te:TE) (g:TG):TS:=fun D σ H=>te σ H fun x H1=>g x σ H1 D.nx
theorem qj2 {tg e:Expr} {te:TE} {g:TG} (he:PE X e te) (hg:PG X tg g) (hs:swapsWithSole [tg] e pos.line X.env = pure false:=by rfl) (hw:swappedStores [tg] e X.env = pure none:=by rfl)
  (h1:(assignEach [tg] X.env).map (·.2) = [assign tg X.env]:=by rfl):PS X (.Assign [tg] e pos) (tAsg te g):=by
 intro pins s σ H D I h
 refine wpAny_Assign_stores (thn (he pins s σ H _ I h) fun v s1 zz33=>?_) hs hw
 refine x2_3 zz33 fun x H1 I1 r1 q1=>?_
 clear zz33
 rw [h1]
 exact thn (hg pins s1 σ H1 x v _ I1 r1 q1) fun _ s2 q=>q
theorem qv4 {i:Nat} {x:Str} {e:Expr} {te:TE} {pos':Pos} (hN:X.N.Nodup) (hi:X.N[i]? = some x) (hx:Loc X.env.scope x) (he:PE X e te) (hs:swapsWith e (some (.Name x pos')) pos.line X.env = pure false:=by rfl) (hf:X.fn x = true \/ X.env.scope.names.lookup x = some .local:=by first | exact .inl rfl | exact .inr rfl | assumption) :
  PS X (.Assign [.Name x pos'] e pos) (tAsg te (kq8 i)):=by
 intro pins s σ H D I h
 refine wpAny_Assign_Name (thn (he pins s σ H _ I h) fun v s1 zz34=>?_) hs
 refine x2_3 zz34 fun y H1 I1 r1 q1=>?_
 clear zz34
 exact jf8 I1 hN hi hx r1 (fun s2 I2=>⟨_,H1,I2,q1⟩) hf
noncomputable def tPar (i j:Nat) (ta:TA):TS:=fun D σ H=>ta σ H fun vs H1=>∃ v w,vs = [v,w] /\ D.nx ((σ.set i (some v)).set j (some w)) H1
theorem qu6 {i j:Nat} {x y:Str} {a b:Expr} {ta:TA} {px py pt:Pos} {kt k2 pt2} (hc:X.calm = true) (hN:X.N.Nodup) (hi:X.N[i]? = some x) (hj:X.N[j]? = some y) (hij:i ≠ j)
  (hx:X.env.scope.names.lookup x = some .local) (hy:X.env.scope.names.lookup y = some .local) (ha:PA X [a,b] ta)
  (hw:swappedStores [.Tuple [.Name x px,.Name y py] kt pt] (.Tuple [a,b] k2 pt2) X.env = pure (some [x,y]))
  (hs:swapsWithSole [.Tuple [.Name x px,.Name y py] kt pt] (.Tuple [a,b] k2 pt2) pos.line X.env = pure false:=by rfl) :
  PS X (.Assign [.Tuple [.Name x px,.Name y py] kt pt] (.Tuple [a,b] k2 pt2) pos) (tPar i j ta):=by
 intro pins s σ H D I h
 rw [exec_Assign_arm]
 refine wpAny_bind (wpAny_standAt ?_)
 rw [hs]
 refine wpAny_bind (wpAny_pure ?_)
 rw [if_neg (by decide)]
 refine wpAny_bind (Tuple_ (thn (ha _ pins s σ H _ I h) fun us s1 zz35=>?_))
 refine x2_3 zz35 fun vs H1 I1 r1 q1=>?_
 clear zz35
 obtain ⟨v,w,e1,q1⟩:=q1
 subst e1
 obtain ⟨u1,u2,rfl,rv,rw'⟩ : ∃ u1 u2,us = [u1,u2] /\ RelV v u1 /\ RelV w u2:=by
  cases r1 with
  | cons p q =>
   cases q with
   | cons p' q' =>
    cases q'
    exact ⟨_,_,rfl,p,p'⟩
 refine wpAny_newObj_type ?_ (by show 2 <= sizeLine; decide)
 have I2:Inv X pins σ H1 { s1 with heap:=s1.heap.push { cls:=.type "tuple",data:=.seq [u1,u2].toArray } }:=I1.kept (t':=s1.toks) fun b o e=>Heap.get?_push_of_some _ e
 rw [hw]
 refine wpAny_bind (wpAny_pure ?_)
 show wpAny (model X.prog X.w) X.A (do rule "assign.swapped-stores"; let items <- unpackItems (.ref s1.heap.objs.size) 2 none; assignInOrder [fun v=>bindName X.env y v,fun v=>bindName X.env x v] items.reverse; pure Flow.next) _ _ _
 refine wpAny_bind (wpAny_rule (wpAny_bind (unpackItems_tuple (items:=#[u1,u2]) (I.ok.hd hc) (IsTup.new s1.heap _) fun h' hx'=>?_)))
 have I3:=I2.kept (h':=h') (t':=s1.toks) fun b o e=>hx' b o (Nat.ne_of_lt (Heap.lt_size e)) e
 show wpAny _ _ (assignInOrder [fun v=>bindName X.env y v,fun v=>bindName X.env x v] [u2,u1] >>= fun _=>pure Flow.next) _ _ _
 refine wpAny_bind (assignInOrder_cons (wpAny_bindName (jf8 I3 hN hj (.inl hy) rw' (fun s2 I4=>?_) (.inr hy))))
 refine assignInOrder_cons (wpAny_bindName (jf8 I4 hN hi (.inl hx) rv (fun s3 I5=>assignInOrder_nil (wpAny_pure ?_)) (.inr hx)))
 rw [List.set_comm _ _ (Ne.symm hij)] at I5
 exact ⟨_,H1,I5,q1⟩
end
section
variable {X:Cx} {pos:Pos}
end
structure It where
 go:Nat -> Hp -> Prop
 yld:Nat -> Hp -> V -> Hp -> Prop
 stop:Nat -> Hp -> Prop
noncomputable def FpOk (X:Cx) (pins:List (Addr × Obj)) (H:Hp) (b:Addr):Prop :=
 H b = none /\ b ≠ X.env.locals /\ b ∉ X.fs /\ (b ∈ X.ex \/ X.s₀.heap.objs.size <= b) /\ (∀ x c,X.env.cells.lookup x = some c -> c ≠ b) /\ ∀ p ∈ X.pn ++ pins,p.1 ≠ b
theorem Inv.fpOk {X:Cx} {pins:List (Addr × Obj)} {σ:St} {H H':Hp} {s:Shared} {b:Addr} (I:Inv X pins σ H s) (hb:s.heap.objs.size <= b) (hn:H' b = none):FpOk X pins H' b:=by
 refine ⟨hn,Nat.ne_of_gt (Nat.lt_of_lt_of_le I.lt hb),I.nofs hb,.inr (Nat.le_trans I.sz hb),fun x c e z=>?_,fun p hp z=>?_⟩
 ·obtain ⟨v,q⟩:=I.cell x c e
  exact absurd (Nat.lt_of_lt_of_le q.lt (by rw [z]; exact hb)) (Nat.lt_irrefl _)
 ·exact absurd (Nat.lt_of_lt_of_le (Heap.lt_size (I.pin p hp).1) (by rw [z]; exact hb)) (Nat.lt_irrefl _)
structure Turn (P:Program) (w:World) (K:PySem.W.Frag) (tg:Expr) (J:It) (fp:List Addr) (it:Addr) (tn:Nat -> Heap -> Prop):Prop where
 mem:it ∈ fp
 obj:∀ i h,tn i h -> ∀ b ∈ fp,∃ o,h.get? b = some o /\ ∀ v,o.data ≠ .cell v
 keep:∀ i h h',tn i h -> (∀ b ∈ fp,∀ o,h.get? b = some o -> h'.get? b = some o) -> tn i h'
 item:∀ (X:Cx),X.prog = P -> X.w = w -> X.K = K -> X.calm = true -> ∀ (i:Nat) (pins:List (Addr × Obj)) (s:Shared) (σ:St) (H:Hp) (E:Value -> Shared -> Prop),Inv X pins σ H s -> (∀ b ∈ fp,FpOk X pins H b) -> tn i s.heap -> J.go i H ->
  wpAny (model P w) X.A (pyNext (.ref it)) (fun r s1=>∃ u,r = some u /\
   wpAny (model P w) X.A (letOwnedTupleGo tg (.ref it) u) (fun _ s2=>∃ x H',Inv X pins σ H' s2 /\ RelV x u /\ J.yld i H x H' /\ tn (i + 1) s2.heap /\ ∀ b ∈ fp,H' b = none) E s1) E s
 done:∀ (X:Cx),X.prog = P -> X.w = w -> X.K = K -> X.calm = true -> ∀ (i:Nat) (pins:List (Addr × Obj)) (s:Shared) (σ:St) (H:Hp) (E:Value -> Shared -> Prop),Inv X pins σ H s -> (∀ b ∈ fp,FpOk X pins H b) -> tn i s.heap -> J.stop i H ->
  wpAny (model P w) X.A (pyNext (.ref it)) (fun r s1=>r = none /\ Inv X pins σ H s1) E s
 self:∀ (A:Around) (i:Nat) (s:Shared) (Q:Value -> Shared -> Prop) (E:Value -> Shared -> Prop),tn i s.heap -> Q (.ref it) s -> wpAny (model P w) A (pyIter (.ref it)) Q E s
noncomputable abbrev TI:=St -> Hp -> (It -> Hp -> Prop) -> Prop
noncomputable def PIE (X:Cx) (pins:List (Addr × Obj)) (σ:St) (tg:Expr) (R:It -> Hp -> Prop) (itv:Value) (s2:Shared):Prop :=
 ∃ (it:Addr) (fp:List Addr) (tn:Nat -> Heap -> Prop) (J:It) (H':Hp),itv = .ref it /\ Inv X pins σ H' s2 /\ Turn X.prog X.w X.K tg J fp it tn /\ tn 0 s2.heap /\ (∀ b ∈ fp,FpOk X pins H' b) /\ R J H'
noncomputable def PI (X:Cx) (tg iter:Expr) (wi:TI):Prop :=
 ∀ (pins:List (Addr × Obj)) (s:Shared) (σ:St) (H:Hp) (R:It -> Hp -> Prop),Inv X pins σ H s -> wi σ H R ->
  wpAny (model X.prog X.w) X.A (eval iter X.env) (fun v s1=>wpAny (model X.prog X.w) X.A (pyIter v) (PIE X pins σ tg R) X.xe s1) X.xe s
theorem qu8 {M:Model} {A:Around} {E:Value -> Shared -> Prop} {s:Shared} {tg:Expr} {it:Addr} {u:Value} {o:Obj} {n:String} {vs:Array Value} {Q:Unit -> Shared -> Prop} (ho:s.heap.get? it = some o) (hc:o.cls = .type n) (hd:o.data = .fields vs)
    (hn:["enumerate","zip","dict_itemiterator","dict_reverseitemiterator","odict_iterator","itertools.zip_longest","itertools.pairwise"].contains n = false) (hQ:Q () s):wpAny M A (letOwnedTupleGo tg (.ref it) u) Q E s:=by
  unfold letOwnedTupleGo
  cases tg <;> first
    | exact wpAny_pure hQ
    | (cases u <;> first
        | exact wpAny_pure hQ
        | (refine wpAny_bind (wpAny_load ho ?_)
           rw [hc,hd]
           show wpAny M A (if (["enumerate","zip","dict_itemiterator","dict_reverseitemiterator","odict_iterator","itertools.zip_longest","itertools.pairwise"].contains n && vs[0]? == some (rawInt _)) = true then _ else _) Q E s
           rw [if_neg (by intro h; rw [hn,Bool.false_and] at h; cases h)]
           exact wpAny_pure hQ))
noncomputable def Itl (K:PySem.W.Frag) (a:Addr):It :=
 ⟨fun i H=>∃ xs x,SqL K H a xs /\ xs[i]? = some x,fun i H x H'=>H' = H /\ ∀ xs,SqL K H a xs -> xs[i]? = some x,fun i H=>∃ xs,SqL K H a xs /\ xs.length <= i⟩
noncomputable def Itr (lo:Int) (n:Nat):It:=⟨fun i _=>i < n,fun i H x H'=>H' = H /\ x = .int (lo + i),fun i _=>n <= i⟩
theorem kt7 {P:Program} {w:World} {K:PySem.W.Frag} {tg:Expr} (a it:Addr):Turn P w K tg (Itl K a) [it] it (fun i h=>h.IsListIter it a i) where
 mem:=by simp
 obj:=fun i h st b hb=>by
  have e:b = it:=by simpa using hb
  subst e
  refine x1_3 st fun o e c d=>?_
  clear st
  exact ⟨o,e,fun v z=>by rw [d] at z; cases z⟩
 keep:=fun i h h' st k=>st.at fun o e=>k it (by simp) o e
 item:=by
  intro X hP hw hK hc i pins s σ H E I hf st hg
  subst hP hw hK
  refine x2_2 hg fun xs x hq hx=>?_
  clear hg
  refine x1_3 (I.list hq) fun its rv p hz=>?_
  refine x1_2 (rv.get hx) fun u hu ru=>?_
  refine x0_6 (hf it (by simp)) fun f0 f1 f2 f3 f4 f5=>?_
  refine wpAny_pyNext_list_item st p.isList (x:=u) (by simpa using hu) fun h' st' sb=>?_
  have I1:Inv X pins σ H { s with heap:=h' }:=I.turned (t':=s.toks) (fun b o hb e=>(sb.2 b hb).trans e) f0 f1 f3 f4 f5
  refine x1_3 (id st') fun o e c d=>?_
  exact ⟨u,rfl,qu8 (s:={ s with heap:=h' }) e c d (by decide) ⟨x,H,I1,ru,⟨rfl,fun ys hy=>by rw [I.list_inj hy hq]; exact hx⟩,st',fun b hb=>(hf b hb).1⟩⟩
 done:=by
  intro X hP hw hK hc i pins s σ H E I hf st hg
  subst hP hw hK
  refine x1_2 hg fun xs hq hx=>?_
  clear hg
  refine x1_3 (I.list hq) fun its rv p hz=>?_
  refine x0_6 (hf it (by simp)) fun f0 f1 f2 f3 f4 f5=>?_
  have hl:=rv.length
  exact wpAny_pyNext_list_end (I.ok.hd hc) st p.isList (by simp; lia) fun h' eb=>⟨rfl,I.turned (t':=s.toks) (fun b o hb e=>eb b o hb e) f0 f1 f3 f4 f5⟩
 self:=fun _ _ _ _ _ st h=>wpAny_pyIter_listiter st h
theorem ko3 {P:Program} {w:World} {K:PySem.W.Frag} {tg:Expr} (it:Addr) (lo:Int) (n:Nat):Turn P w K tg (Itr lo n) [it] it (fun i h=>IsRangeIter h it (lo + (i:Nat) * 1) ((n:Int) - (i:Nat)) 1) where
 mem:=by simp
 obj:=fun i h st b hb=>by
  have e:b = it:=by simpa using hb
  subst e
  exact ⟨_,st,fun v z=>by
   have z':Data.fields _ = Data.cell v:=z
   cases z'⟩
 keep:=fun i h h' st k=>k it (by simp) _ st
 item:=by
  intro X hP hw hK hc i pins s σ H E I hf st hg
  subst hP hw hK
  refine x0_6 (hf it (by simp)) fun f0 f1 f2 f3 f4 f5=>?_
  have W:=Walks.range (prog:=X.prog) (w:=X.w) (I.ok.hd hc) it lo 1 n
  refine W.item i s _ _ hg st fun v h' tk hv st' kk=>?_
  obtain ⟨t,rfl⟩:=hv
  have I1:Inv X pins σ H { s with heap:=h',toks:=tk }:=I.turned (fun b o hb e=>kk b o (by simpa using hb) e) f0 f1 f3 f4 f5
  refine ⟨_,rfl,qu8 (s:={ s with heap:=h',toks:=tk }) (n:="range_iterator") st' rfl rfl (by decide) ⟨.int (lo + i),H,I1,⟨t,?_⟩,⟨rfl,rfl⟩,st',fun b hb=>(hf b hb).1⟩⟩
  rw [Int.mul_one]
 done:=by
  intro X hP hw hK hc i pins s σ H E I hf st hg
  subst hP hw hK
  refine x0_6 (hf it (by simp)) fun f0 f1 f2 f3 f4 f5=>?_
  exact wpAny_pyNext_range_end (I.ok.hd hc) st (by have:n <= i:=hg; lia) fun h' eb=>⟨rfl,I.turned (t':=s.toks) (fun b o hb e=>eb b o hb e) f0 f1 f3 f4 f5⟩
 self:=fun _ _ _ _ _ st h=>wpAny_pyIter_rangeiter st h
end L2
namespace L2
open PySem PySem.Spec PyProof.Rows
section
variable {X:Cx} {tg:Expr}
noncomputable def vc6 (K:PySem.W.Frag) (tl:TE):TI:=fun σ H R=>tl σ H fun x H1=>∃ a,x = .ref a /\ (∃ xs,SqL K H1 a xs) /\ R (Itl K a) H1
theorem kz0 {l:Expr} {tl:TE} (hl:PE X l tl):PI X tg l (vc6 X.K tl):=by
 intro pins s σ H R I h
 refine thn (hl pins s σ H _ I h) fun v s1 zz46=>?_
 refine x2_3 zz46 fun x H1 I1 r1 q1=>?_
 clear zz46
 refine x1_3 q1 fun a e zo2 q=>?_
 clear q1
 obtain ⟨xs,hq⟩:=zo2
 subst e
 cases r1
 refine x1_3 (I1.list hq) fun its rv p hz=>?_
 refine wpAny_pyIter_list p.isList ?_
 refine ⟨s1.heap.objs.size,[s1.heap.objs.size],_,_,H1,rfl,I1.kept (t':=s1.toks) fun b o e=>Heap.get?_push_of_some _ e,kt7 a _,⟨_,Heap.get?_push_size _ rfl,rfl,rfl⟩,fun b hb=>?_,q⟩
 have e:b = s1.heap.objs.size:=by simpa using hb
 subst e
 exact I1.fpOk (Nat.le_refl _) (I1.hok.fresh (Nat.le_refl _))
theorem qh6 {pins:List (Addr × Obj)} {σ:St} {H:Hp} {s:Shared} {R:It -> Hp -> Prop} {E:Value -> Shared -> Prop} {lo hi:Int} {t u v:Tok} {tk:Nat} (I:Inv X pins σ H s) (h1 : -(2 ^ 62) <= lo) (h2:lo < 2 ^ 62) (h3 : -(2 ^ 62) <= hi) (h4:hi < 2 ^ 62)
  (q:R (Itr lo (hi - lo).toNat) H):wpAny (model X.prog X.w) X.A (pyIter (.ref s.heap.objs.size)) (PIE X pins σ tg R) E { s with heap:=s.heap.push { cls:=.type "range",data:=.fields #[.int lo t,.int hi u,.int 1 v] },toks:=tk }:=by
 refine wpAny_pyIter_range (IsRange.new ..) (small_one h1 h2 h3 h4) ?_
 have I1:Inv X pins σ H { s with heap:=s.heap.push { cls:=.type "range",data:=.fields #[.int lo t,.int hi u,.int 1 v] },toks:=tk }:=I.kept fun b o e=>Heap.get?_push_of_some _ e
 refine ⟨(s.heap.push { cls:=.type "range",data:=.fields #[.int lo t,.int hi u,.int 1 v] }).objs.size,[(s.heap.push { cls:=.type "range",data:=.fields #[.int lo t,.int hi u,.int 1 v] }).objs.size],_,_,H,rfl,
  I1.kept (t':=tk) fun b o e=>Heap.get?_push_of_some _ e,ko3 _ lo (hi - lo).toNat,?_,fun b hb=>?_,q⟩
 ·have e1:lo + ((0:Nat):Int) * 1 = lo:=by simp
  have e2:(((hi - lo).toNat:Nat):Int) - ((0:Nat):Int) = Builtin.Range.rangeSize lo hi 1:=by rw [rangeSize_one]; split <;> lia
  show IsRangeIter _ _ (lo + ((0:Nat):Int) * 1) ((((hi - lo).toNat:Nat):Int) - ((0:Nat):Int)) 1
  rw [e1,e2]
  exact Heap.get?_push_size _ rfl
 ·have e:b = (s.heap.push { cls:=.type "range",data:=.fields #[.int lo t,.int hi u,.int 1 v] }).objs.size:=by simpa using hb
  subst e
  exact I1.fpOk (Nat.le_refl _) (I1.hok.fresh (Nat.le_refl _))
noncomputable def vd1 (ta:TA):TI:=fun σ H R=>ta σ H fun vs H1=>∃ j:Int,vs = [.int j] /\ -(2 ^ 62) <= j /\ j < 2 ^ 62 /\ R (Itr 0 j.toNat) H1
theorem ke7 {a:Expr} {ta:TA} {p pos:Pos} (hg:Gl X "range") (hm:X.mg "range" = none) (ha:PA X [a] ta) (hs:starEach [a] X.env = [(false,eval a X.env)]:=by rfl):PI X tg (.Call (.Name "range" p) [a] [] pos) (vd1 ta):=by
 intro pins s σ H R I h
 refine Call_ (ju1 I hg hm boot_range (PyProof.Rows.callWith_type1 (thn (ha pos pins s σ H _ I h) fun us s1 zz48=>?_) hs rfl))
 refine x2_3 zz48 fun vs H1 I1 r1 q1=>?_
 clear zz48
 obtain ⟨j,e,q1,q2,q⟩:=q1
 subst e
 cases r1 with
 | cons r rr =>
  cases rr
  obtain ⟨t,rfl⟩:=r
  exact call_range_1 (qh6 I1 (by lia) (by lia) q1 q2 (by simpa using q))
noncomputable def tFor (wi:TI) (g:TG) (tb:TS):TS:=fun D σ H=>wi σ H fun J H1=>∃ W:Nat -> Nat -> St -> Hp -> Prop,(∃ m,W 0 m σ H1) /\ ∀ i m σ H,W i m σ H ->
 (J.stop i H /\ D.nx σ H) \/ (J.go i H /\ ∃ N:St -> Hp -> Prop,(∀ σ' H',N σ' H' -> ∃ m',m' < m /\ W (i + 1) m' σ' H') /\ ∀ x H',J.yld i H x H' -> g x σ H' fun σ2 H2=>tb { D with nx:=N,ct:=N,bk:=D.nx } σ2 H2)
noncomputable def ke9 (fp:List Addr) (h:Heap):List (Addr × Obj):=fp.filterMap fun b=>(h.get? b).map fun o=>(b,o)
theorem ji5 {fp:List Addr} {h:Heap} {b:Addr} {o:Obj} (hb:b ∈ fp) (e:h.get? b = some o):(b,o) ∈ ke9 fp h:=List.mem_filterMap.mpr ⟨b,hb,by rw [e]; rfl⟩
theorem ky5 {fp:List Addr} {h:Heap} {p:Addr × Obj} (hp:p ∈ ke9 fp h):p.1 ∈ fp /\ h.get? p.1 = some p.2:=by
 refine x1_2 (List.mem_filterMap.mp hp) fun b hb e=>?_
 cases q:h.get? b with
 | none=>rw [q] at e; cases e
 | some o =>
  rw [q] at e
  have e':(b,o) = p:=Option.some.inj e
  subst e'
  exact ⟨hb,q⟩
theorem Inv.pinned {pins:List (Addr × Obj)} {σ:St} {H:Hp} {s:Shared} {fp:List Addr} (I:Inv X pins σ H s) (hf:∀ b ∈ fp,FpOk X pins H b) (ho:∀ b ∈ fp,∃ o,s.heap.get? b = some o /\ ∀ v,o.data ≠ .cell v):Inv X (pins ++ ke9 fp s.heap) σ H s :=
 I.pins_of fun p hp=>(List.mem_append.mp hp).elim (fun z=>I.pin p (List.mem_append_right _ z)) fun z=>by
  obtain ⟨hb,e⟩:=ky5 z
  refine x0_4 (hf p.1 hb) fun f0 f1 f2 _=>?_
  refine x1_2 (ho p.1 hb) fun o e' d=>?_
  rw [e] at e'; cases e'
  exact ⟨e,f0,f1,f2,d⟩
theorem Inv.unpinned {pins pl:List (Addr × Obj)} {σ:St} {H:Hp} {s:Shared} (I:Inv X (pins ++ pl) σ H s):Inv X pins σ H s:=I.pins_of fun p hp=>I.pin p (List.mem_append_right _ (List.mem_append_left _ hp))
theorem kz5 {iter:Expr} {body:List Stmt} {wi:TI} {g:TG} {tb:TS} {pos:Pos} (hp:PassesOwn (model X.prog X.w) X.A X.env X.xe) (hc:X.calm = true) (hi:PI X tg iter wi) (hg:PG X tg g) (hb:PSs X body tb)
  (hs:∀ x,foldedSetIterable iter X.env x = pure x:=by intro _; rfl):PS X (.For tg iter body [] pos) (tFor wi g tb):=by
 intro pins s σ H D I h
 refine wpAny_For (thn (hi pins s σ H _ I h) fun v s1 h1=>thn h1 fun itv s2 h2=>?_) hs
 obtain ⟨it,fp,tn,J,H2,e,I2,T,st2,f2,W,⟨m0,w0⟩,turn⟩:=h2
 subst e
 have stat:∀ {H':Hp},(∀ b ∈ fp,H' b = none) -> ∀ b ∈ fp,FpOk X pins H' b:=fun hn b hb=>⟨hn b hb,(f2 b hb).2⟩
 refine codeAny_forLoop_any (fun n s'=>∃ i σ' H',Inv X pins σ' H' s' /\ tn i s'.heap /\ (∀ b ∈ fp,H' b = none) /\ W i n σ' H') ?_ m0 ⟨0,σ,H2,I2,st2,fun b hb=>(f2 b hb).1,w0⟩
 rintro n s3 ⟨i,σ3,H3,I3,st3,fr3,w3⟩
 rcases turn i n σ3 H3 w3 with ⟨stop,qn⟩ | ⟨go,N,hN,step⟩
 ·refine wpAny_passesOwn hp (thn (T.done X rfl rfl rfl hc i pins s3 σ3 H3 X.xe I3 (stat fr3) st3 stop) fun r s4 zz50=>?_)
  obtain ⟨hr,I4⟩:=zz50
  subst hr
  exact wpAny_execs_nil ⟨σ3,H3,I4,qn⟩
 ·refine wpAny_passesOwn hp (thn (T.item X rfl rfl rfl hc i pins s3 σ3 H3 X.xe I3 (stat fr3) st3 go) fun r s4 zz51=>?_)
  refine x1_2 zz51 fun u hr h4=>?_
  clear zz51
  subst hr
  refine wpAny_passesOwn hp (thn h4 fun _ s5 zz52=>?_)
  refine x2_5 zz52 fun x H5 I5 r5 y5 st5 fr5=>?_
  clear zz52
  have I5':=I5.pinned (stat fr5) (T.obj _ _ st5)
  refine wpAny_passesOwn hp (thn (hg _ s5 σ3 H5 x u _ I5' r5 (step x H5 y5)) fun _ s6 zz53=>?_)
  refine x2_2 zz53 fun σ6 H6 I6 q6=>?_
  clear zz53
  refine wpAny_passesOwn hp (thn (hb _ s6 σ6 H6 _ I6 q6) fun f s7 q7=>?_)
  have again:∀ {σ7:St} {H7:Hp},Inv X (pins ++ ke9 fp s5.heap) σ7 H7 s7 -> N σ7 H7 -> ∃ m,m < n /\ ∃ i σ' H',Inv X pins σ' H' s7 /\ tn i s7.heap /\ (∀ b ∈ fp,H' b = none) /\ W i m σ' H':=fun {σ7 H7} I7 n7=>by
   refine x1_2 (hN σ7 H7 n7) fun m' hm w7=>?_
   refine ⟨m',hm,i + 1,σ7,H7,I7.unpinned,T.keep _ _ _ st5 fun b hb o e=>(I7.pin (b,o) (List.mem_append_right _ (List.mem_append_right _ (ji5 hb e)))).1,fun b hb=>?_,w7⟩
   refine x1_2 (T.obj _ _ st5 b hb) fun o e d=>?_
   exact (I7.pin (b,o) (List.mem_append_right _ (List.mem_append_right _ (ji5 hb e)))).2.1
  cases f with
  | next=>obtain ⟨σ7,H7,I7,n7⟩:=q7; exact again I7 n7
  | cont=>obtain ⟨σ7,H7,I7,n7⟩:=q7; exact again I7 n7
  | brk=>obtain ⟨σ7,H7,I7,q7⟩:=q7; exact ⟨σ7,H7,I7.unpinned,q7⟩
  | ret v=>obtain ⟨x7,σ7,H7,I7,r7,q7⟩:=q7; exact ⟨x7,σ7,H7,I7.unpinned,r7,q7⟩
end
end L2
namespace L2
open PySem PySem.Spec PyProof.Rows
noncomputable abbrev R2:=V -> V -> Hp -> VK -> Prop
noncomputable def OpR (X:Cx) (f:Value -> Value -> Sem Value) (r:R2):Prop :=
 ∀ (pins:List (Addr × Obj)) (s:Shared) (σ:St) (H:Hp) (x y:V) (v u:Value) (Q:VK),Inv X pins σ H s -> RelV x v -> RelV y u -> r x y H Q ->
  wpAny (model X.prog X.w) X.A (f v u) (EP X pins σ Q) X.xe s
noncomputable def UnR (X:Cx) (f:Value -> Sem Value) (r:V -> Hp -> VK -> Prop):Prop :=
 ∀ (pins:List (Addr × Obj)) (s:Shared) (σ:St) (H:Hp) (x:V) (v:Value) (Q:VK),Inv X pins σ H s -> RelV x v -> r x H Q ->
  wpAny (model X.prog X.w) X.A (f v) (EP X pins σ Q) X.xe s
noncomputable def CallR (X:Cx) (f:Value) (r:List V -> Hp -> VK -> Prop):Prop :=
 ∀ (pins:List (Addr × Obj)) (s:Shared) (σ:St) (H:Hp) (xs:List V) (us:List Value) (Q:VK),Inv X pins σ H s -> Vals xs us -> r xs H Q ->
  wpAny (model X.prog X.w) X.A (call f us) (EP X pins σ Q) X.xe s
noncomputable def tOp (r:R2) (ta tb:TE):TE:=fun σ H Q=>ta σ H fun x H1=>tb σ H1 fun y H2=>r x y H2 Q
noncomputable def tUn (r:V -> Hp -> VK -> Prop) (ta:TE):TE:=fun σ H Q=>ta σ H fun x H1=>r x H1 Q
noncomputable def rI (C:Int -> Int -> Prop) (g:Int -> Int -> V):R2:=fun x y H Q=>∃ i j,x = .int i /\ y = .int j /\ C i j /\ Q (g i j) H
noncomputable def rI0 (g:Int -> Int -> V):R2:=fun x y H Q=>∃ i j,x = .int i /\ y = .int j /\ Q (g i j) H
noncomputable def rU (g:Int -> V):V -> Hp -> VK -> Prop:=fun x H Q=>∃ i,x = .int i /\ Q (g i) H
section
variable {X:Cx} {a b c:Expr} {ta tb tc:TE} {pos:Pos}
theorem binT (ha:PE X a ta) (hb:PE X b tb) {pins:List (Addr × Obj)} {s:Shared} {σ:St} {H:Hp} {R:V -> V -> Hp -> Prop} (I:Inv X pins σ H s)
  (h:ta σ H fun x H1=>tb σ H1 fun y H2=>R x y H2) {Q:Value -> Shared -> Prop} {f:Value -> Value -> Sem Value}
  (hf:∀ v u s2 x y H2,Inv X pins σ H2 s2 -> RelV x v -> RelV y u -> R x y H2 -> wpAny (model X.prog X.w) X.A (f v u) Q X.xe s2) :
  wpAny (model X.prog X.w) X.A (eval a X.env) (fun v s₁=>wpAny (model X.prog X.w) X.A (eval b X.env) (fun u s₂=>wpAny (model X.prog X.w) X.A (f v u) Q X.xe s₂) X.xe s₁) X.xe s:=by
 refine thn (ha pins s σ H _ I h) fun v s1 zz55=>?_
 refine x2_3 zz55 fun x H1 I1 r1 q1=>?_
 clear zz55
 refine thn (hb pins s1 σ H1 _ I1 q1) fun u s2 zz56=>?_
 refine x2_3 zz56 fun y H2 I2 r2 q2=>?_
 clear zz56
 exact hf v u s2 x y H2 I2 r1 r2 q2
theorem ve3 {op:Operator} {r:R2} (ho:OpR X (binaryOp op) r) (ha:PE X a ta) (hb:PE X b tb):PE X (.BinOp a op b pos) (tOp r ta tb):=by
 intro pins s σ H Q I h
 exact wpAny_BinOp (binT ha hb I h fun v u s2 x y H2 I2 rx ry q=>ho pins s2 σ H2 x y v u Q I2 rx ry q)
theorem vd0 {op:UnaryOp} {r:V -> Hp -> VK -> Prop} (ho:UnR X (unaryOp op) r) (ha:PE X a ta):PE X (.UnaryOp op a pos) (tUn r ta):=by
 intro pins s σ H Q I h
 exact UnaryOp_ (thn (ha pins s σ H _ I h) fun v s1 zz57=>zz57.elim fun x zz58=>zz58.elim fun H1 zz59=>zz59.elim fun I1 zz60=>zz60.elim fun r1 q1=>ho pins s1 σ H1 x v Q I1 r1 q1)
theorem opI {f:Value -> Value -> Sem Value} {C:Int -> Int -> Prop} {g:Int -> Int -> Int}
  (rule:∀ (i j:Int) (t u:Tok) (s:Shared) (Q:Value -> Shared -> Prop) (E:Value -> Shared -> Prop),C i j -> Q (.int (g i j) s.toks) { s with toks:=s.toks + 1 } -> wpAny (model X.prog X.w) X.A (f (.int i t) (.int j u)) Q E s) :
  OpR X f (rI C fun i j=>.int (g i j)):=by
 intro pins s σ H x y v u Q I rx ry h
 refine x2_4 h fun i j zo2 zo3 hc q=>?_
 clear h
 obtain rfl:=zo2
 obtain rfl:=zo3
 obtain ⟨t,rfl⟩:=rx
 obtain ⟨t',rfl⟩:=ry
 exact rule i j t t' s _ _ hc ⟨.int (g i j),H,I.tok _,⟨_,rfl⟩,q⟩
theorem opI0 {f:Value -> Value -> Sem Value} {g:Int -> Int -> Int}
  (rule:∀ (i j:Int) (t u:Tok) (s:Shared) (Q:Value -> Shared -> Prop) (E:Value -> Shared -> Prop),Q (.int (g i j) s.toks) { s with toks:=s.toks + 1 } -> wpAny (model X.prog X.w) X.A (f (.int i t) (.int j u)) Q E s) :
  OpR X f (rI0 fun i j=>.int (g i j)):=by
 intro pins s σ H x y v u Q I rx ry h
 refine x2_3 h fun i j zo2 zo3 q=>?_
 clear h
 obtain rfl:=zo2
 obtain rfl:=zo3
 obtain ⟨t,rfl⟩:=rx
 obtain ⟨t',rfl⟩:=ry
 exact rule i j t t' s _ _ ⟨.int (g i j),H,I.tok _,⟨_,rfl⟩,q⟩
theorem opB0 {f:Value -> Value -> Sem Value} {g:Int -> Int -> Bool}
  (rule:∀ (i j:Int) (t u:Tok) (s:Shared) (Q:Value -> Shared -> Prop) (E:Value -> Shared -> Prop),Q (.bool (g i j)) s -> wpAny (model X.prog X.w) X.A (f (.int i t) (.int j u)) Q E s) :
  OpR X f (rI0 fun i j=>.bl (g i j)):=by
 intro pins s σ H x y v u Q I rx ry h
 refine x2_3 h fun i j zo2 zo3 q=>?_
 clear h
 obtain rfl:=zo2
 obtain rfl:=zo3
 obtain ⟨t,rfl⟩:=rx
 obtain ⟨t',rfl⟩:=ry
 exact rule i j t t' s _ _ ⟨.bl (g i j),H,I,rfl,q⟩
noncomputable def CDiv (i j:Int):Prop:=0 < j /\ j < 1073741824
noncomputable def CMul (i j:Int):Prop:=(-(2 ^ 64) < i /\ i < 2 ^ 64) \/ (-(2 ^ 64) < j /\ j < 2 ^ 64)
theorem CMul.ok {i j:Int} (h:CMul i j):IntMulOk i j:=by
 rcases h with ⟨h1,h2⟩ | ⟨h1,h2⟩
 ·exact .of_left (intBits_le_64 h1 h2)
 ·exact .of_right (intBits_le_64 h1 h2)
theorem Y1:OpR X (binaryOp .Add) (rI0 fun i j=>.int (i + j)):=opI0 fun _ _ _ _ _ _ _ q=>add_int q
theorem jm6:OpR X (binaryOp .Sub) (rI0 fun i j=>.int (i - j)):=opI0 fun _ _ _ _ _ _ _ q=>sub_int q
theorem jw2:OpR X (binaryOp .Mult) (rI CMul fun i j=>.int (i * j)):=opI fun _ _ _ _ _ _ _ hc q=>mul_int q hc.ok
theorem jh0:OpR X (binaryOp .FloorDiv) (rI CDiv fun i j=>.int (i / j)):=opI fun i j _ _ _ _ _ hc q=>by
 have h1:(0:Int) < j:=hc.1
 have h2:j < 1073741824:=hc.2
 exact floordiv_int (by lia) (by rw [Int.fdiv_eq_ediv_of_nonneg i (by lia)]; exact q) (.inl (PyProof.noPylong_small (by lia)))
theorem jg7:OpR X (binaryOp .Mod) (rI (fun _ j=>0 < j) fun i j=>.int (i % j)):=opI fun i j _ _ _ _ _ hc q=>by
 have h1:(0:Int) < j:=hc
 exact mod_int' (by lia) (by rw [Int.fmod_eq_emod_of_nonneg i (by lia)]; exact q)
theorem unI {f:Value -> Sem Value} {g:Int -> Int}
  (rule:∀ (i:Int) (t:Tok) (s:Shared) (Q:Value -> Shared -> Prop) (E:Value -> Shared -> Prop),Q (.int (g i) s.toks) { s with toks:=s.toks + 1 } -> wpAny (model X.prog X.w) X.A (f (.int i t)) Q E s) :
  UnR X f (rU fun i=>.int (g i)):=by
 intro pins s σ H x v Q I rx h
 refine x1_2 h fun i zo1 q=>?_
 clear h
 obtain rfl:=zo1
 obtain ⟨t,rfl⟩:=rx
 exact rule i t s _ _ ⟨.int (g i),H,I.tok _,⟨_,rfl⟩,q⟩
theorem vc4:UnR X (unaryOp .USub) (rU fun i=>.int (-i)):=unI fun _ _ _ _ _ q=>neg_int q
end
section
variable {X:Cx} {a b c:Expr} {ta tb tc:TE} {pos:Pos}
theorem ku4:OpR X (compareOp .Lt) (rI0 fun i j=>.bl (decide (i < j))):=opB0 fun _ _ _ _ _ _ _ q=>lt_int q
theorem kb1:OpR X (compareOp .LtE) (rI0 fun i j=>.bl (decide (i <= j))):=opB0 fun _ _ _ _ _ _ _ q=>le_int q
theorem qi3:OpR X (compareOp .Gt) (rI0 fun i j=>.bl (decide (j < i))):=opB0 fun _ _ _ _ _ _ _ q=>gt_int q
theorem OpR.or {f:Value -> Value -> Sem Value} {r r':R2} (h:OpR X f r) (h':OpR X f r'):OpR X f (fun x y H Q=>r x y H Q \/ r' x y H Q):=by
 intro pins s σ H x y v u Q I rx ry q
 rcases q with q | q
 ·exact h pins s σ H x y v u Q I rx ry q
 ·exact h' pins s σ H x y v u Q I rx ry q
theorem Z4 (b:Expr) {op:CmpOp} (h:op ≠ .In:=by decide) (h2:op ≠ .NotIn:=by decide):behindInMarks op b = false:=by
 have e1:(op == CmpOp.In) = false:=by cases op <;> first | rfl | exact absurd rfl h
 have e2:(op == CmpOp.NotIn) = false:=by cases op <;> first | rfl | exact absurd rfl h2
 cases b <;> simp [behindInMarks,e1,e2]
theorem ql6 {op:CmpOp} {r:R2} (ho:OpR X (compareOp op) r) (ha:PE X a ta) (hb:PE X b tb) (hm:behindInMarks op b = false):PE X (.Compare a [op] [b] pos) (tOp r ta tb):=by
 intro pins s σ H Q I h
 exact wpAny_Compare1 (binT ha hb I h fun v u s2 x y H2 I2 rx ry q=>ho pins s2 σ H2 x y v u Q I2 rx ry q) hm
noncomputable def va2 (t:TE):TT:=fun σ H Q=>t σ H fun x H'=>∃ k,x = .bl k /\ Q k H'
theorem qn8 {op:CmpOp} {r:R2} (ho:OpR X (compareOp op) r) (ha:PE X a ta) (hb:PE X b tb) (hm:behindInMarks op b = false):PT X (.Compare a [op] [b] pos) (va2 (tOp r ta tb)):=by
 intro pins s σ H Q I h
 refine wpAny_isTrue_Compare1 (thn (ha pins s σ H _ I h) fun v s1 zz61=>zz61.elim fun x zz62=>zz62.elim fun H1 zz63=>zz63.elim fun I1 zz64=>zz64.elim fun r1 q1=>thn (hb pins s1 σ H1 _ I1 q1) fun u s2 zz65=>zz65.elim fun y zz66=>zz66.elim fun H2 zz67=>zz67.elim fun I2 zz68=>zz68.elim fun r2 q2 =>
  thn (ho pins s2 σ H2 x y v u _ I2 r1 r2 q2) fun c s3 zz69=>zz69.elim fun z zz70=>zz70.elim fun H3 zz71=>zz71.elim fun I3 zz72=>zz72.elim fun r3 zz73=>zz73.elim fun k zz74=>zz74.elim fun e q3=>?_) hm
 subst e
 cases r3
 exact wpAny_truthy_bool ⟨H3,I3,q3⟩
noncomputable def kv8 (r r':R2) (ta tb tc:TE):TE:=fun σ H Q=>ta σ H fun x H1=>tb σ H1 fun y H2=>r x y H2 fun z H3=>∃ k,z = .bl k /\
 (if k = true then tc σ H3 fun w' H4=>r' y w' H4 Q else Q (.bl false) H3)
theorem qd2 {op op':CmpOp} {r r':R2} (ho:OpR X (compareOp op) r) (ho':OpR X (compareOp op') r') (ha:PE X a ta) (hb:PE X b tb) (hc:PE X c tc)
  (hm:lastMarks [op,op'] [b,c] = false:=by with_unfolding_all rfl):PE X (.Compare a [op,op'] [b,c] pos) (kv8 r r' ta tb tc):=by
 intro pins s σ H Q I h
 refine Compare_chain (thn (ha pins s σ H _ I h) fun v s1 zz75=>zz75.elim fun x zz76=>zz76.elim fun H1 zz77=>zz77.elim fun I1 zz78=>zz78.elim fun r1 q1=>chain_link (thn (hb pins s1 σ H1 _ I1 q1) fun u s2 zz79=>zz79.elim fun y zz80=>zz80.elim fun H2 zz81=>zz81.elim fun I2 zz82=>zz82.elim fun r2 q2 =>
  thn (ho pins s2 σ H2 x y v u _ I2 r1 r2 q2) fun d s3 zz83=>zz83.elim fun z zz84=>zz84.elim fun H3 zz85=>zz85.elim fun I3 zz86=>zz86.elim fun r3 zz87=>zz87.elim fun k zz88=>zz88.elim fun e q3=>?_)) hm
 subst e
 cases r3
 refine wpAny_truthy_bool ?_
 cases k with
 | false=>exact ite_ff ⟨.bl false,H3,I3,rfl,q3⟩
 | true=>exact ite_tt (chain_last (thn (hc pins s3 σ H3 _ I3 q3) fun w' s4 zz89=>zz89.elim fun z' zz90=>zz90.elim fun H4 zz91=>zz91.elim fun I4 zz92=>zz92.elim fun r4 q4=>ho' pins s4 σ H4 y z' u w' Q I4 r2 r4 q4))
theorem qd4 {op op':CmpOp} {r r':R2} (ho:OpR X (compareOp op) r) (ho':OpR X (compareOp op') r') (ha:PE X a ta) (hb:PE X b tb) (hc:PE X c tc)
  (hm:lastMarks [op,op'] [b,c] = false:=by with_unfolding_all rfl):PT X (.Compare a [op,op'] [b,c] pos) (va2 (kv8 r r' ta tb tc)):=by
 intro pins s σ H Q I h
 refine isTrue_chain (thn (ha pins s σ H _ I h) fun v s1 zz93=>zz93.elim fun x zz94=>zz94.elim fun H1 zz95=>zz95.elim fun I1 zz96=>zz96.elim fun r1 q1=>test_link (thn (hb pins s1 σ H1 _ I1 q1) fun u s2 zz97=>zz97.elim fun y zz98=>zz98.elim fun H2 zz99=>zz99.elim fun I2 zz100=>zz100.elim fun r2 q2 =>
  thn (ho pins s2 σ H2 x y v u _ I2 r1 r2 q2) fun d s3 zz101=>zz101.elim fun z zz102=>zz102.elim fun H3 zz103=>zz103.elim fun I3 zz104=>zz104.elim fun r3 zz105=>zz105.elim fun k zz106=>zz106.elim fun e q3=>?_)) hm
 subst e
 cases r3
 refine wpAny_truthy_bool ?_
 cases k with
 | false =>
  refine x1_2 q3 fun k' e' q'=>?_
  clear q3
  cases e'
  exact ite_ff ⟨H3,I3,q'⟩
 | true =>
  refine ite_tt (test_last (thn (hc pins s3 σ H3 _ I3 q3) fun w' s4 zz107=>zz107.elim fun z' zz108=>zz108.elim fun H4 zz109=>zz109.elim fun I4 zz110=>zz110.elim fun r4 q4=>thn (ho' pins s4 σ H4 y z' u w' _ I4 r2 r4 q4) fun d' s5 zz111=>?_))
  obtain ⟨z2,H5,I5,r5,k2,e2,q5⟩:=zz111
  subst e2
  cases r5
  exact wpAny_truthy_bool ⟨H5,I5,q5⟩
theorem km5:(sizeLine:Nat) < 2 ^ 63:=by rw [sizeLine_eq]; decide
theorem kc2 {x:V} {us:List Value} (r:Vals [x] us):∃ u,us = [u] /\ RelV x u:=by
 cases r with
 | cons r1 r2=>cases r2; exact ⟨_,rfl,r1⟩
theorem km1:CallR X (.builtin "abs") (fun xs H Q=>∃ i,xs = [.int i] /\ Q (.int (if i < 0 then -i else i)) H):=by
 intro pins s σ H xs us Q I r h
 refine x1_2 h fun i zo1 q=>?_
 clear h
 obtain rfl:=zo1
 obtain ⟨u,rfl,t,rfl⟩:=kc2 r
 exact call_abs_int fun u tk=>⟨.int (if i < 0 then -i else i),H,I.tok _,⟨_,rfl⟩,q⟩
end
end L2
namespace L2
open PySem PySem.Spec PyProof.Rows
structure ObjM (h:Heap) (x dx C:Addr) (mA:Str -> Option Value):Prop where
 obj:h.get? x = some (PySem.W.instObj C dx)
 ns:h.Ns1 dx mA
 ne:dx ≠ x
theorem kv9 {h:Heap} {dx:Addr} {mA:Str -> Option Value} (n:h.Ns1 dx mA):∃ od,h.get? dx = some od /\ ∀ name,PySem.W.lookIn name od = some (mA name):=by
 refine x3_5 n fun o es ep ho hd hk _ hm=>?_
 clear n
 refine ⟨o,ho,fun name=>?_⟩
 have e:=hm name
 unfold nsFind findBy at e
 rw [<- Array.find?_toList] at e
 unfold PySem.W.lookIn
 rw [hd]
 dsimp only
 split
 ·rename_i y q
  rw [q] at e
  exact congrArg some e
 ·rename_i q
  rw [q] at e
  have a:es.toList.any (·.refKey) = false:=by
   rw [List.any_eq_false]
   intro y hy
   refine x2_1 (hk y (Array.mem_toList_iff.mp hy)) fun z t hkey=>?_
   simp [DictEntry.refKey,hkey]
  have a':¬ es.toList.any (·.refKey) = true:=by rw [a]; exact Bool.false_ne_true
  rw [if_neg a']
  exact congrArg some e
theorem ObjM.look {h:Heap} {x dx C:Addr} {mA:Str -> Option Value} (I:ObjM h x dx C mA):∃ od,PySem.W.InstAt h x (PySem.W.instObj C dx) C (some od) /\ ∀ name,PySem.W.lookIn name od = some (mA name) :=
 let ⟨od,ho,hl⟩:=kv9 I.ns
 ⟨od,⟨I.obj,rfl,rfl,ho⟩,hl⟩
section
variable {prog:Program} {w:World} {A:Around} {E:Value -> Shared -> Prop} {s:Shared} {K:PySem.W.Frag} {x dx C f:Addr} {mA:Str -> Option Value} {name:Str} {v:Value}
theorem qt9 {expr:Bool} {Q:Value -> Shared -> Prop} (X:K.In s.heap) (I:ObjM s.heap x dx C mA) (hg:PySem.W.plainGet K C name = true) (hh:PySem.W.hasDictIn K C = true)
  (ha:PySem.W.findIn K (.ref C) name = some none) (hv:mA name = some v) (hv':PySem.W.handedIn v = true) (h:Q v { s with toks:=s.toks + 1 }) :
  wpAny (model prog w) A (getAttr (.ref x) name expr) Q E s:=by
 refine x1_2 I.look fun od J hl=>?_
 exact PySem.W.get_value X J (PySem.W.plainGet_of hg).1 (PySem.W.findObj_own hh ha rfl (by rw [hl,hv])) hv' h
theorem qm2 {ns:List Str} {Q:Unit -> Shared -> Prop} (X:K.In s.heap) (I:ObjM s.heap x dx C mA)
  (hs:PySem.W.findIn K (.ref C) "__setattr__" = some (some (.builtin "object.__setattr__"))) (hp:PySem.W.plainOver K C = true) (ht:PySem.W.takerIn K C name = some none) (hh:PySem.W.hasDictIn K C = true)
  (hw:PySem.Within mA ns) (hsz:ns.length <= sizeLine)
  (h:∀ h',ObjM h' x dx C (fun y=>if y = name then some v else mA y) -> Heap.SameBut dx s.heap h' -> Q () { s with heap:=h',toks:=s.toks + 2 }) :
  wpAny (model prog w) A (setAttr (.ref x) name v) Q E s:=by
 refine x1_2 I.look fun od J hl=>?_
 refine PySem.W.set_plain X J hs (PySem.W.osa_open (s:={ s with toks:=s.toks + 1 }) (r:=none) X J hp ht fun b=>?_)
 refine x1_2 (PySem.W.any_some hh) fun cd hc hd'=>?_
 have hx:s.heap.get? x = some ⟨.ref C,some dx,.plain,#[]⟩:=I.obj
 refine wpAny_bind (wpAny_pure (wpAny_bind (wpAny_bind (wpAny_loadPart hx (wpAny_bind (PySem.W.Looks.here (s:={ s with toks:=s.toks + 1 }) (PySem.W.looks_clsIn X hc) ?_))))))
 rw [hd']
 refine wpAny_pure (a:=some dx) (wpAny_bind (wpAny_pure (wpAny_bind ?_)))
 refine wpAny_nsSet1 (s:={ s with toks:=s.toks + 1 }) I.ns fun h' hn2 hs2=>?_
 refine x3_3 (hn2.count (PySem.Within.cons name v hw)) fun oD esD epD hoD hdD hcD=>?_
 refine wpAny_bind (wpAny_lookBehind hoD (by rw [hdD]; exact pastItsLine_dict (Nat.le_trans hcD (by rw [List.length_cons]; lia))) ?_)
 exact wpAny_pure (h _ ⟨(hs2.2 _ (Ne.symm I.ne)).trans I.obj,hn2,I.ne⟩ hs2)
theorem qi8 {R:Result -> Shared -> Prop} {vs:List Value} {kw:List (Str × Value)} (X:K.In s.heap) (hm:PySem.W.makesIn K C = true)
  (hi:PySem.W.findIn K (.ref C) "__init__" = some (some (.ref f))) (hf:PySem.W.typeIn K (.ref f) = some (.type "function"))
  (h:codeAny (model prog w) (A.under (.builtin "type.__call__" ⟨.ref C :: vs,kw⟩)) (.call (.ref f) ⟨.ref (s.heap.objs.size + 1) :: vs,kw⟩) (PySem.W.InitBack (s.heap.objs.size + 1) R)
   { s with heap:=(s.heap.push PySem.W.emptyDict).push (PySem.W.instObj C s.heap.objs.size) }) :
  codeAny (model prog w) A (.call (.ref C) ⟨vs,kw⟩) R s:=by
 obtain ⟨hh,g,d,t,os⟩:=s
 exact PySem.W.make_core (PySem.W.makes_of X hm) (PySem.W.looks_findIn X hi) (fun self=>PySem.W.bind_fn X self hf) (.inl rfl) h
end
noncomputable def putF (f:Str) (v:V):List (Str × V) -> List (Str × V)
 | []=>[(f,v)]
 | (g,x) :: r=>if g = f then (g,v) :: r else (g,x) :: putF f v r
theorem jq7 (f g:Str) (v:V):∀ fs:List (Str × V),(putF f v fs).lookup g = if g = f then some v else fs.lookup g
 | []=>by
  show List.lookup g [(f,v)] = _
  by_cases h:g = f
  ·have hb:(g == f) = true:=beq_iff_eq.mpr h
   simp only [List.lookup,hb,if_pos h]
  ·have hb:(g == f) = false:=beq_eq_false_iff_ne.mpr h
   simp only [List.lookup,hb,if_neg h]
 | (k,x) :: r=>by
  have ih:=jq7 f g v r
  rw [show putF f v ((k,x) :: r) = (if k = f then (k,v) :: r else (k,x) :: putF f v r) from rfl]
  by_cases hk:k = f
  ·rw [if_pos hk]
   by_cases h:g = k
   ·have hb:(g == k) = true:=beq_iff_eq.mpr h
    simp only [List.lookup,hb,if_pos (h.trans hk)]
   ·have hb:(g == k) = false:=beq_eq_false_iff_ne.mpr h
    simp only [List.lookup,hb,if_neg (fun e:g = f=>h (e.trans hk.symm))]
  ·rw [if_neg hk]
   by_cases h:g = k
   ·have hb:(g == k) = true:=beq_iff_eq.mpr h
    simp only [List.lookup,hb,if_neg (fun e:g = f=>hk (h.symm.trans e))]
   ·have hb:(g == k) = false:=beq_eq_false_iff_ne.mpr h
    simp only [List.lookup,hb]
    exact ih
theorem jq9 (f:Str) (v:V):∀ fs:List (Str × V),f ∈ (putF f v fs).map (·.1) /\ ∀ g,g ∈ fs.map (·.1) -> g ∈ (putF f v fs).map (·.1)
 | []=>⟨by simp [putF],fun g h=>by simp at h⟩
 | (k,x) :: r=>by
  obtain ⟨i1,i2⟩:=jq9 f v r
  rw [show putF f v ((k,x) :: r) = (if k = f then (k,v) :: r else (k,x) :: putF f v r) from rfl]
  by_cases hk:k = f
  ·rw [if_pos hk]
   subst hk
   exact ⟨by simp,fun g h=>by simpa using h⟩
  ·rw [if_neg hk]
   refine ⟨?_,fun g h=>?_⟩
   ·rw [List.map_cons]
    exact List.mem_cons_of_mem _ i1
   ·rw [List.map_cons] at h ⊢
    rcases List.mem_cons.mp h with e | e
    ·exact List.mem_cons.mpr (.inl e)
    ·exact List.mem_cons_of_mem _ (i2 g e)
theorem js7 (f:Str) (v:V):∀ fs:List (Str × V),(putF f v fs).length <= fs.length + 1
 | []=>by simp [putF]
 | (k,x) :: r=>by
  have ih:=js7 f v r
  rw [show putF f v ((k,x) :: r) = (if k = f then (k,v) :: r else (k,x) :: putF f v r) from rfl]
  by_cases hk:k = f
  ·rw [if_pos hk,List.length_cons,List.length_cons]; lia
  ·rw [if_neg hk,List.length_cons,List.length_cons]; lia
theorem RelO.some_of {v:V} {o:Option Value} (r:RelO (some v) o):∃ u,o = some u /\ RelV v u:=by
 cases o with
 | none=>exact (show False from r).elim
 | some u=>exact ⟨u,rfl,r⟩
theorem kx6 {v:V} {u:Value} (r:RelV v u):PySem.W.handedIn u = true:=by
 cases v with
 | non=>cases (show u = Value.none from r); rfl
 | bl b=>cases (show u = Value.bool b from r); rfl
 | int i=>obtain ⟨t,e⟩:=(show ∃ t,u = Value.int i t from r); cases e; rfl
 | str x=>obtain ⟨t,e⟩:=(show ∃ t,u = Value.str x t from r); cases e; rfl
 | byt b=>obtain ⟨t,e⟩:=(show ∃ t,u = Value.bytes b t from r); cases e; rfl
 | flt b=>obtain ⟨t,e⟩:=(show ∃ t,u = Value.float b t from r); cases e; rfl
 | ref a=>cases (show u = Value.ref a from r); rfl
 | ty n=>cases (show u = Value.type n from r); rfl
section
variable {P:Program} {w:World} {H H':Hp} {h h':Heap} {a C dx:Addr} {fs fs':List (Str × V)}
theorem js1 (hok:HOk P w H h) (e:H a = some (.ins C dx fs)):∃ mA,ObjM h a dx C mA /\ (∀ f,RelO (fs.lookup f) (mA f)) /\ PySem.Within mA (fs.map (·.1)) /\ fs.length <= 1000 /\ H dx = some (.own a):=by
 obtain ⟨d,z,ne,ob,mA,n,r,q⟩:=(show ObjOk P w H h a (.ins C dx fs) from hok a _ e)
 exact ⟨mA,⟨ob,n,ne⟩,r,q,z,d⟩
end
structure Cls (K:PySem.W.Frag) (C:Addr):Prop where
 pg:PySem.W.plainGet K C Str.empty = true
 hd:PySem.W.hasDictIn K C = true
 po:PySem.W.plainOver K C = true
 sa:PySem.W.findIn K (.ref C) "__setattr__" = some (some (.builtin "object.__setattr__"))
theorem Cls.get {K:PySem.W.Frag} {C:Addr} (c:Cls K C) (f:Str):PySem.W.plainGet K C f = true:=c.pg
noncomputable def NoAttr (K:PySem.W.Frag) (C:Addr) (f:Str):Prop:=PySem.W.findIn K (.ref C) f = some none
theorem NoAttr.taker {K:PySem.W.Frag} {C:Addr} {f:Str} (n:NoAttr K C f):PySem.W.takerIn K C f = some none:=by
 unfold PySem.W.takerIn
 rw [show PySem.W.findIn K (.ref C) f = some none from n]
 rfl
section
variable {X:Cx} {pins:List (Addr × Obj)} {σ:St} {H:Hp} {s:Shared} {a C dx:Addr} {fs:List (Str × V)} {f:Str} {v:V} {A:Around} {E:Value -> Shared -> Prop}
theorem kp8 {b:Bool} {Q:Value -> Shared -> Prop} (I:Inv X pins σ H s) (e:H a = some (.ins C dx fs)) (c:Cls X.K C) (n:NoAttr X.K C f) (l:fs.lookup f = some v)
  (h:∀ u s',Inv X pins σ H s' -> RelV v u -> Q u s'):wpAny (model X.prog X.w) A (getAttr (.ref a) f b) Q E s:=by
 refine x1_5 (js1 I.hok e) fun mA O r _ _ _=>?_
 obtain ⟨u,hu,ru⟩:=RelO.some_of (v:=v) (o:=mA f) (by rw [<- l]; exact r f)
 exact qt9 I.kIn O (c.get f) c.hd n hu (kx6 ru) (h u _ (I.tok _) ru)
theorem kn8 {y:V} {u:Value} {Q:Unit -> Shared -> Prop} (I:Inv X pins σ H s) (e:H a = some (.ins C dx fs)) (c:Cls X.K C) (n:NoAttr X.K C f) (hl:fs.length < 1000) (ry:RelV y u)
  (h:∀ s',Inv X pins σ (upd H a (.ins C dx (putF f y fs))) s' -> Q () s'):wpAny (model X.prog X.w) A (setAttr (.ref a) f u) Q E s:=by
 refine x1_5 (js1 I.hok e) fun mA O r wi _ ho=>?_
 have hz:(fs.map (·.1)).length <= sizeLine:=by rw [List.length_map,sizeLine_eq]; lia
 refine qm2 I.kIn O c.sa c.po n.taker c.hd wi hz fun h' O' sb=>h _ ?_
 have hd:∃ o,h'.get? dx = some o:=let ⟨o,_,_,e',_⟩:=O'.ns; ⟨o,e'⟩
 refine I.write (x:=a) (e:=dx) (by rw [e]; exact True.intro) (.inr ho) (fun b q hb z=>(sb.2 b hb).trans z) hd ?_
 refine ⟨by rw [y3 O.ne]; exact ho,?_,O.ne,O'.obj,_,O'.ns,fun g=>?_,fun g hg=>?_⟩
 ·have:=js7 f y fs; lia
 ·show RelO ((putF f y fs).lookup g) (if g = f then some u else mA g)
  rw [jq7]
  by_cases q:g = f
  ·rw [if_pos q,if_pos q]; exact ry
  ·rw [if_neg q,if_neg q]; exact r g
 ·by_cases q:g = f
  ·rw [q]; exact (jq9 f y fs).1
  ·refine (jq9 f y fs).2 g (wi g fun z=>hg ?_)
   show (if g = f then some u else mA g) = none
   rw [if_neg q]; exact z
theorem Inv.made (I:Inv X pins σ H s):Inv X pins σ (upd (upd H s.heap.objs.size (.own (s.heap.objs.size + 1))) (s.heap.objs.size + 1) (.ins C s.heap.objs.size []))
  { s with heap:=(s.heap.push PySem.W.emptyDict).push (PySem.W.instObj C s.heap.objs.size) }:=by
 have e1:(s.heap.push PySem.W.emptyDict).get? s.heap.objs.size = some PySem.W.emptyDict:=Heap.get?_push_size s.heap rfl
 have e2:((s.heap.push PySem.W.emptyDict).push (PySem.W.instObj C s.heap.objs.size)).get? (s.heap.objs.size + 1) = some (PySem.W.instObj C s.heap.objs.size):=by
  have:=Heap.get?_push_size (s.heap.push PySem.W.emptyDict) (o:=PySem.W.instObj C s.heap.objs.size) rfl
  rwa [Heap.size_push] at this
 have e3:(s.heap.push PySem.W.emptyDict).Ns s.heap.objs.size (fun _=>none):=⟨PySem.W.emptyDict,#[],_,e1,rfl,(fun e he=>absurd he (by simp)),fun _=>rfl⟩
 have I1:=I.laid (a:=s.heap.objs.size) (o:=.own (s.heap.objs.size + 1)) (h':=s.heap.push PySem.W.emptyDict) (t':=s.toks) (fun b u q=>Heap.get?_push_of_some _ q) (Nat.le_refl _) ⟨_,e1⟩
 refine I1.laid (a:=s.heap.objs.size + 1) (o:=.ins C s.heap.objs.size []) (t':=s.toks) (fun b u q=>Heap.get?_push_of_some _ q) (Nat.le_of_eq (Heap.size_push _ _)) ?_
 have ne:s.heap.objs.size ≠ s.heap.objs.size + 1:=Nat.ne_of_lt (Nat.lt_succ_self _)
 refine ⟨by rw [y3 ne,Q7],Nat.zero_le _,ne,e2,fun _=>none,(Heap.Ns1.of_empty e3).at fun o q=>Heap.get?_push_of_some _ q,fun _=>True.intro,fun y hy=>absurd rfl hy⟩
theorem qr5 {prog:Program} {w:World} {env:Env} {e:Expr} {f:Str} {pos:Pos} {s:Shared} {Q:Value -> Shared -> Prop} (hb:attributeBase e f env (eval e env) = eval e env)
  (h:wpAny (model prog w) A (eval e env) (fun o s₁=>wpAny (model prog w) A (getAttr o f true) Q E s₁) E s):wpAny (model prog w) A (eval (.Attribute e f pos) env) Q E s :=
 Attribute_any_ h (by rw [arm_eval_Attribute,hb])
end
noncomputable def tFld (K:PySem.W.Frag) (ta:TE) (f:Str):TE:=fun σ H Q=>ta σ H fun x H1=>∃ a C dx fs v,x = .ref a /\ H1 a = some (.ins C dx fs) /\ Cls K C /\ NoAttr K C f /\ fs.lookup f = some v /\ Q v H1
noncomputable def sFld (K:PySem.W.Frag) (ta tv:TE) (f:Str):TS:=fun D σ H=>tv σ H fun y H1=>ta σ H1 fun x H2=>∃ a C dx fs,x = .ref a /\ H2 a = some (.ins C dx fs) /\ Cls K C /\ NoAttr K C f /\ fs.length < 1000 /\
 D.nx σ (upd H2 a (.ins C dx (putF f y fs)))
section
variable {X:Cx} {o e value:Expr} {f:Str} {pos pos' tpos:Pos} {ta tv:TE}
theorem qw6 (he:PE X e ta) (hb:attributeBase e f X.env (eval e X.env) = eval e X.env):PE X (.Attribute e f pos) (tFld X.K ta f):=by
 intro pins s σ H Q I h
 refine qr5 hb (thn (he pins s σ H _ I h) fun u s1 zz116=>?_)
 obtain ⟨x,H1,I1,rx,a,C,dx,fs,v,ex,ea,c,n,l,q⟩:=zz116
 subst ex
 obtain rfl:u = Value.ref a:=rx
 exact kp8 I1 ea c n l fun u' s2 I2 ru=>⟨v,H1,I2,ru,q⟩
theorem va1 (ha:PE X o ta) (hv:PE X value tv) (hs:swapsWith value (some (.Attribute o f pos')) pos.line X.env = pure false):PS X (.Assign [.Attribute o f pos'] value pos) (sFld X.K ta tv f):=by
 intro pins s σ H D I h
 refine plainObj_wpAny_Assign_Attribute (thn (hv pins s σ H _ I h) fun u s1 zz118=>zz118.elim fun y zz119=>zz119.elim fun H1 zz120=>zz120.elim fun I1 zz121=>zz121.elim fun ry q=>thn (ha pins s1 σ H1 _ I1 q) fun ov s2 zz122=>?_) hs
 obtain ⟨x,H2,I2,rx,a,C,dx,fs,ex,ea,c,n,l,q2⟩:=zz122
 subst ex
 obtain rfl:ov = Value.ref a:=rx
 exact kn8 I2 ea c n l ry fun s3 I3=>⟨σ,_,I3,q2⟩
end
section
variable {X:Cx} {pins:List (Addr × Obj)} {σ:St} {H:Hp} {s:Shared} {A:Around} {E:Value -> Shared -> Prop} {Q:Value -> Shared -> Prop} {c:Value} {b:Bool}
end
end L2
namespace L2
open PySem PySem.Spec PyProof.Rows
structure Room (k:Nat) (A:Around):Prop where
 hd:A.handled = none
 dp:A.depth + 3 * k + 5 < recursionLimit
 un:A.units + 16 * k + 200 < cLine
theorem Room.mono {j k:Nat} {A:Around} (r:Room k A) (h:j <= k):Room j A:=⟨r.hd,by have:=r.dp; lia,by have:=r.un; lia⟩
theorem Room.deeper {k:Nat} {A:Around} (r:Room (k + 1) A) (env:Env):Room k (A.deeper env) :=
 ⟨r.hd,by have:=r.dp; show A.depth + 1 + 3 * k + 5 < _; lia,by have:=r.un; show A.units + 3 + 16 * k + 200 < _; lia⟩
theorem Room.in1 {k:Nat} {A:Around} (r:Room (k + 1) A):Room k A.in1 :=
 ⟨r.hd,by have:=r.dp; show A.depth + 3 * k + 5 < _; lia,by have:=r.un; show A.units + 1 + 16 * k + 200 < _; lia⟩
theorem kn9 {A:Around} {C:Addr} {us:List Value} {kw:List (Str × Value)}:(A.under (.builtin "type.__call__" ⟨.ref C :: us,kw⟩)).depth = A.depth + 1:=by
 first | rfl | simp [Around.under,Code.weight,Code.isCreation,Code.isGuard,Code.isCaller,Code.frames,Code.isFrame,guardIds]
theorem kq3 {A:Around} {C:Addr} {us:List Value} {kw:List (Str × Value)}:(A.under (.builtin "type.__call__" ⟨.ref C :: us,kw⟩)).units = A.units + 1:=by
 first | rfl | simp [Around.under,Code.cUnits,Code.frames,Code.isFrame]
theorem Room.make {k:Nat} {A:Around} (r:Room (k + 1) A) (C:Addr) (us:List Value) (kw:List (Str × Value)):Room k (A.under (.builtin "type.__call__" ⟨.ref C :: us,kw⟩)) :=
 ⟨r.hd,by have:=r.dp; rw [kn9]; lia,by have:=r.un; rw [kq3]; lia⟩
theorem Room.depth {k:Nat} {A:Around} (r:Room k A):A.depth < recursionLimit:=by have:=r.dp; lia
theorem Room.units {k:Nat} {A:Around} (r:Room k A):A.units + 64 < cLine:=by have:=r.un; lia
noncomputable def tNil:TA:=fun _ H Q=>Q [] H
noncomputable def ky0 (ta:TE) (tr:TA):TA:=fun σ H Q=>ta σ H fun x H1=>tr σ H1 fun xs H2=>Q (x :: xs) H2
section
variable {X:Cx} {e:Expr} {es:List Expr} {te:TE} {t:TA} {pos:Pos}
theorem jl8:PA X [] tNil:=fun _ _ _ _ H Q I h=>Calls.spliced_nil ⟨[],H,I,.nil,h⟩
theorem jf3 (ha:PE X e te) (hr:PA X es t) (hs:starEach (e :: es) X.env = (false,eval e X.env) :: starEach es X.env:=by rfl):PA X (e :: es) (ky0 te t):=by
 intro pos pins s σ H Q I h
 rw [hs]
 show wpAny _ _ (spliced ((false,eval e X.env) :: backTo pos (starEach es X.env))) _ _ s
 refine Calls.spliced_cons (thn (ha pins s σ H _ I h) fun u s1 zz130=>?_)
 refine x2_3 zz130 fun x H1 I1 r1 q1=>?_
 clear zz130
 exact thn (hr pos pins s1 σ H1 _ I1 q1) fun us s2 zz131=>zz131.elim fun xs zz132=>zz132.elim fun H2 zz133=>zz133.elim fun I2 zz134=>zz134.elim fun r2 q2=>⟨x :: xs,H2,I2,.cons r1 r2,q2⟩
noncomputable def tTup (t:TA):TE:=fun σ H Q=>t σ H fun xs H1=>xs.length <= sizeLine /\ ∀ p,H1 p = none -> Q (.ref p) (upd H1 p (.tup xs))
noncomputable def tLst (t:TA):TE:=fun σ H Q=>t σ H fun xs H1=>xs.length <= sizeLine /\ ∀ p,H1 p = none -> Q (.ref p) (upd H1 p (.lst xs))
theorem qv5 {x1} (h:PA X es t):PE X (.Tuple es x1 pos) (tTup t):=by
 intro pins s σ H Q I hq
 refine wpAny_Tuple_spliced (thn (h pos pins s σ H _ I hq) fun us s1 zz135=>zz135.elim fun xs zz136=>zz136.elim fun H1 zz137=>zz137.elim fun I1 zz138=>zz138.elim fun r zz139=>zz139.elim fun z q=>⟨by rw [<- r.length]; exact z,?_⟩)
 have hf:H1 s1.heap.objs.size = none:=I1.hok.fresh (Nat.le_refl _)
 refine ⟨.ref s1.heap.objs.size,upd H1 s1.heap.objs.size (.tup xs),I1.laid (t':=s1.toks) (fun b u e=>Heap.get?_push_of_some _ e) (Nat.le_refl _) ?_,rfl,q _ hf⟩
 exact ⟨z,us,r,⟨_,Heap.get?_push_size _ rfl,rfl,_,rfl⟩⟩
theorem qx4 (h:PA X es t):PE X (.List es pos) (tLst t):=by
 intro pins s σ H Q I hq
 refine wpAny_List_spliced (thn (h pos pins s σ H _ I hq) fun us s1 zz140=>zz140.elim fun xs zz141=>zz141.elim fun H1 zz142=>zz142.elim fun I1 zz143=>zz143.elim fun r zz144=>zz144.elim fun z q=>⟨by rw [<- r.length]; exact z,?_⟩)
 have hf:H1 s1.heap.objs.size = none:=I1.hok.fresh (Nat.le_refl _)
 refine ⟨.ref s1.heap.objs.size,upd H1 s1.heap.objs.size (.lst xs),I1.laid (t':=s1.toks) (fun b u e=>Heap.get?_push_of_some _ e) (Nat.le_refl _) ?_,rfl,q _ hf⟩
 exact ⟨z,us,0,r,Heap.get?_push_size _ rfl⟩
end
noncomputable abbrev Sp:=List V -> Hp -> VK -> XK -> Prop
noncomputable abbrev CXT:=List Env -> Hp -> Shared -> XK -> Value -> Shared -> Prop
structure Env0 (P:Program) (w:World) (K:PySem.W.Frag) (mg:Str -> Option Value) (base:Heap) (A:Around) (outer:List Env) (s:Shared) (H:Hp):Prop where
 frames:A.frames = some outer
 mod:Mod K mg base
 bs:∀ b o,base.get? b = some o -> s.heap.get? b = some o /\ H b = none
 bsz:base.objs.size <= s.heap.objs.size
 funs:s.heap.FunFrames base outer
 frf:∀ b ∈ frs outer,H b = none
 hok:HOk P w H s.heap
 bare:AllBare s.gens
noncomputable def CE (outer:List Env) (P:Program) (w:World) (H:Hp) (s:Shared) (Q:VK) (u:Value) (s':Shared):Prop :=
 ∃ v H',s'.os = s.os /\ AllBare s'.gens /\ Un (frs outer) [] H H' s.heap s'.heap /\ HOk P w H' s'.heap /\ RelV v u /\ Q v H'
noncomputable def CR (CX:CXT) (outer:List Env) (P:Program) (w:World) (H:Hp) (s:Shared) (Q:VK) (E:XK) (r:Result) (s':Shared):Prop :=
 match r with
 | .ok (.ret u)=>CE outer P w H s Q u s'
 | .ok _=>False
 | .error e=>CX outer H s E e s'
structure FnOk (P:Program) (w:World) (K:PySem.W.Frag) (mg:Str -> Option Value) (base:Heap) (CX:CXT) (k:Nat) (f:Addr) (fd:FuncData) (ps:List Str) (sp:Sp):Prop where
 len:∀ vs H Q E,sp vs H Q E -> vs.length = ps.length
 run:∀ (A:Around) (outer:List Env) (s:Shared) (H:Hp) (args:Args) (us:List Value) (vs:List V) (Q:VK) (E:XK),Room k A -> Env0 P w K mg base A outer s H -> BindsTo s fd args (ps.zip us) -> Vals vs us -> sp vs H Q E ->
  codeAny (model P w) A (.call (.ref f) args) (CR CX outer P w H s Q E) s
theorem FnOk.mono {P:Program} {w:World} {K:PySem.W.Frag} {mg:Str -> Option Value} {base:Heap} {CX:CXT} {j k:Nat} {f:Addr} {fd:FuncData} {ps:List Str} {sp:Sp} (F:FnOk P w K mg base CX j f fd ps sp) (h:j <= k) :
  FnOk P w K mg base CX k f fd ps sp:=⟨F.len,fun A outer s H args us vs Q E hr=>F.run A outer s H args us vs Q E (hr.mono h)⟩
theorem FnOk.imp {P:Program} {w:World} {K:PySem.W.Frag} {mg:Str -> Option Value} {base:Heap} {CX:CXT} {k:Nat} {f:Addr} {fd:FuncData} {ps:List Str} {sp sp':Sp} (F:FnOk P w K mg base CX k f fd ps sp)
  (h:∀ vs H Q E,sp' vs H Q E -> sp vs H Q E):FnOk P w K mg base CX k f fd ps sp' :=
 ⟨fun vs H Q E q=>F.len vs H Q E (h _ _ _ _ q),fun A outer s H args us vs Q E hr he hb hv hs=>F.run A outer s H args us vs Q E hr he hb hv (h _ _ _ _ hs)⟩
theorem Env0.make {P:Program} {w:World} {K:PySem.W.Frag} {mg:Str -> Option Value} {base:Heap} {A:Around} {outer:List Env} {s:Shared} {H:Hp} (e:Env0 P w K mg base A outer s H) (C:Addr) (us:List Value) (kw:List (Str × Value)) :
  Env0 P w K mg base (A.under (.builtin "type.__call__" ⟨.ref C :: us,kw⟩)) outer s H:=⟨by first | exact e.frames | (simpa [Around.under,Code.envs,Code.isFrame,pushEnvs] using e.frames),e.mod,e.bs,e.bsz,e.funs,e.frf,e.hok,e.bare⟩
theorem Env0.in1 {P:Program} {w:World} {K:PySem.W.Frag} {mg:Str -> Option Value} {base:Heap} {A:Around} {outer:List Env} {s:Shared} {H:Hp} (e:Env0 P w K mg base A outer s H) :
  Env0 P w K mg base A.in1 outer s H:=⟨e.frames,e.mod,e.bs,e.bsz,e.funs,e.frf,e.hok,e.bare⟩
section
variable {X:Cx} {pins:List (Addr × Obj)} {σ:St} {H:Hp} {s s':Shared}
theorem Inv.env0 (I:Inv X pins σ H s):Env0 X.prog X.w X.K X.mg X.base X.A X.stack s H :=
 ⟨I.ok.frames,I.ok.mod,I.bs,Nat.le_trans I.ok.bsz I.sz,I.stack,I.stkFree,I.hok,I.bare⟩
theorem Inv.after {Q:VK} {u:Value} (I:Inv X pins σ H s) (h:CE X.stack X.prog X.w H s Q u s'):EP X pins σ Q u s':=by
 refine x2_6 h fun v H' os bare un hok r q=>?_
 clear h
 obtain ⟨hh,g,d,t,os'⟩:=s'
 obtain rfl:os' = s.os:=os
 exact ⟨v,H',I.call (h':=hh) (g':=g) (d':=d) (t':=t) (ch:=[]) un hok bare (fun b z=>absurd z (by simp)),r,q⟩
end
noncomputable def Binds (K:PySem.W.Frag) (fd:FuncData) (ps:List Str) (ds:List Value):Prop :=
 ∀ (s:Shared) (us:List Value),K.In s.heap -> (us ++ ds).length = ps.length -> BindsTo s fd ⟨us,[]⟩ (ps.zip (us ++ ds))
theorem Binds.all {K:PySem.W.Frag} {fd:FuncData} {ps:List Str} (h:∀ us:List Value,us.length = ps.length -> bindArgs fd ⟨us,[]⟩ = pure (ps.zip us)):Binds K fd ps []:=fun s us _ hl=>by
 rw [List.append_nil] at hl ⊢
 exact .of_eq (h us hl)
section
variable {X:Cx} {CX:CXT} {k:Nat} {f C:Addr} {fd:FuncData} {ps:List Str} {sp:Sp} {dvs:List V} {ds:List Value} {E:XK} {x m:Str} {p pos apos:Pos} {e o:Expr} {es:List Expr} {ta:TE} {t:TA}
structure Mk (K:PySem.W.Frag) (C f:Addr):Prop where
 makes:PySem.W.makesIn K C = true
 init:PySem.W.findIn K (.ref C) "__init__" = some (some (.ref f))
 fn:PySem.W.isFn K (.ref f) = true
 kp:PySem.W.keepIn K (.ref C) = true
end
section
variable {X:Cx} {CX:CXT} {k:Nat} {f C:Addr} {fd:FuncData} {ps ks:List Str} {sp:Sp} {E:XK} {x m:Str} {p pos apos kpos:Pos} {e o:Expr} {es:List Expr} {kws:List Keyword} {te ta:TE} {t tk:TA} {nm:Option Str}
variable {g:List Value -> List Value -> List Value} {gV:List V -> List V -> List V}
end
structure FnScope (N P:List Str) (sc:Scope):Prop where
 kind:sc.kind = .function
 co:sc.isCoroutine = false
 gen:sc.isGenerator = false
 nd:N.Nodup
 pre:N.take P.length = P
 par:∀ x ∈ P,sc.names.lookup x = some .local \/ sc.names.lookup x = some .cell
 nofree:∀ y ∈ sc.names,y.2 ≠ .free
theorem kc8 {kindOf:Str -> Option NameKind} {x:Str}:∀ {binds:List (Str × Value)} {m:Str -> Option Value},(∀ v,(x,v) ∉ binds) -> bindL kindOf binds m x = m x
 | [],_,_=>rfl
 | (n,v) :: r,m,h=>by
  unfold bindL
  rw [kc8 fun w hw=>h w (List.mem_cons_of_mem _ hw)]
  split
  ·have:x ≠ n:=by rintro rfl; exact h v List.mem_cons_self
   simp [this]
  ·rfl
theorem ka8 {kindOf:Str -> Option NameKind} {x:Str}:∀ {binds:List (Str × Value)} {m:Str -> Option Value},(∀ v,(x,v) ∉ binds) -> bindC kindOf binds m x = m x
 | [],_,_=>rfl
 | (n,v) :: r,m,h=>by
  unfold bindC
  rw [ka8 fun w hw=>h w (List.mem_cons_of_mem _ hw)]
  split
  ·rfl
  ·have:x ≠ n:=by rintro rfl; exact h v List.mem_cons_self
   simp [this]
theorem kd5 {kindOf:Str -> Option NameKind} {x:Str} {v:Value}:∀ {P:List Str} {vs:List Value} {i:Nat} {m:Str -> Option Value},P.Nodup -> P[i]? = some x -> vs[i]? = some v -> kindOf x = some .local ->
  bindL kindOf (P.zip vs) m x = some v
 | [],_,_,_,_,h,_,_=>by simp at h
 | _ :: _,[],_,_,_,_,h,_=>by simp at h
 | p :: P,w :: vs,0,m,nd,h1,h2,hk=>by
  simp at h1 h2; subst h1; subst h2
  show bindL kindOf ((p,w) :: P.zip vs) m p = _
  unfold bindL
  rw [kc8 fun v hv=>(List.nodup_cons.mp nd).1 (List.of_mem_zip hv).1,if_pos hk]
  simp
 | p :: P,w :: vs,i + 1,m,nd,h1,h2,hk=>by
  show bindL kindOf ((p,w) :: P.zip vs) m x = _
  unfold bindL
  exact kd5 (i:=i) (List.nodup_cons.mp nd).2 (by simpa using h1) (by simpa using h2) hk
theorem kf0 {kindOf:Str -> Option NameKind} {x:Str} {v:Value}:∀ {P:List Str} {vs:List Value} {i:Nat} {m:Str -> Option Value},P.Nodup -> P[i]? = some x -> vs[i]? = some v -> kindOf x ≠ some .local ->
  bindC kindOf (P.zip vs) m x = some v
 | [],_,_,_,_,h,_,_=>by simp at h
 | _ :: _,[],_,_,_,_,h,_=>by simp at h
 | p :: P,w :: vs,0,m,nd,h1,h2,hk=>by
  simp at h1 h2; subst h1; subst h2
  show bindC kindOf ((p,w) :: P.zip vs) m p = _
  unfold bindC
  rw [ka8 fun v hv=>(List.nodup_cons.mp nd).1 (List.of_mem_zip hv).1,if_neg hk]
  simp
 | p :: P,w :: vs,i + 1,m,nd,h1,h2,hk=>by
  show bindC kindOf ((p,w) :: P.zip vs) m x = _
  unfold bindC
  exact kf0 (i:=i) (List.nodup_cons.mp nd).2 (by simpa using h1) (by simpa using h2) hk
noncomputable def start (N:List Str) (vs:List V):St:=vs.map some ++ List.replicate (N.length - vs.length) none
noncomputable def cxOf (CX:CXT) (P:Program) (w:World) (K:PySem.W.Frag) (mg:Str -> Option Value) (base:Heap) (N:List Str) (qual:Str) (scope:Scope) (f:Addr) (cd:Value) (A:Around) (outer:List Env) (s:Shared) (H:Hp) (E:XK):Cx where
 prog:=P
 w:=w
 K:=K
 mg:=mg
 base:=base
 A:=A.deeper (envOfC qual scope s.heap.objs.size f cd)
 N:=N
 s₀:=s
 H₀:=H
 env:=envOfC qual scope s.heap.objs.size f cd
 outer:=outer
 stack:=envOfC qual scope s.heap.objs.size f cd :: outer
 ex:=[]
 calm:=true
 fn:=fun _=>true
 pn:=[]
 xe:=fun e s'=>wpAny (model P w) (A.deeper (envOfC qual scope s.heap.objs.size f cd)) (leaving (envOfC qual scope s.heap.objs.size f cd) e) (fun _ s''=>CX outer H s E e s'') (fun e' s''=>CX outer H s E e' s'') s'
theorem ki8 {sc:Scope} {n:Nat} {x:Str} (h:sc.names.lookup x = some .cell):∃ c,(cellsFrom n sc.names []).lookup x = some c:=by
 have q:=PySem.W.cellsFrom_some sc.names n [] (.inl h)
 exact Option.isSome_iff_exists.mp q
theorem qa3 {CX:CXT} {P:Program} {w:World} {K:PySem.W.Frag} {mg:Str -> Option Value} {base:Heap} {N ps:List Str} {qual:Str} {scope:Scope} {f:Addr} {cd:Value} {A:Around} {outer:List Env} {s s1:Shared} {H:Hp} {E:XK} {us:List Value} {vs:List V}
  (S:FnScope N ps scope) (hd:A.handled = none) (e0:Env0 P w K mg base A outer s H) (hl:vs.length = ps.length) (r:Vals vs us)
  (x:InCallC s s.heap.objs.size (bindL (envOfC qual scope s.heap.objs.size f cd).kindOf (ps.zip us) fun _=>none) (cellsFrom (s.heap.objs.size + 1) scope.names []) (bindC (envOfC qual scope s.heap.objs.size f cd).kindOf (ps.zip us) fun _=>none) s1) :
  Inv (cxOf CX P w K mg base N qual scope f cd A outer s H E) [] (start N vs) H s1:=by
 have hpl:ps.length <= N.length:=by have:=congrArg List.length S.pre; rw [List.length_take] at this; lia
 refine x2_2 x.done fun h1 tk zo2 hk=>?_
 obtain rfl:=zo2
 have noA:∀ b:Addr,b ∉ (cxOf CX P w K mg base N qual scope f cd A outer s H E).ex:=fun b z=>absurd (show b ∈ ([]:List Addr) from z) (by simp)
 refine ⟨⟨e0.mod,S.kind,rfl,rfl,Nat.le_refl _,fun y z c h1 h2=>?_,fun y hy=>?_,fun y c _ h=>?_,fun _=>hd,Around.frames_deeper e0.frames,.inr ⟨rfl,rfl⟩,fun b z=>absurd z (noA b),e0.bs,e0.bsz,fun b _ _=>noA b,fun b z=>absurd z (noA b),e0.funs,e0.frf⟩,
  rfl,e0.bare,Un.kept hk,⟨_,x.toInCall.ns,fun i y v h1 h2 h3=>?_⟩,fun y c h=>⟨_,x.cell y c h⟩,e0.hok.fresh (Nat.le_refl _),fun y c h=>?_,fun p hp=>absurd (show p ∈ ([]:List (Addr × Obj)) from hp) (by simp),e0.hok.kept hk,?_⟩
 ·exact name_of_addr x.apart (PySem.mem_of_lookup h1) (PySem.mem_of_lookup h2)
 ·have hy:scope.names.lookup y = some .cell \/ scope.names.lookup y = some .free:=hy
  rcases hy with hy | hy
  ·exact ki8 hy
  ·exact absurd rfl (S.nofree _ (PySem.mem_of_lookup hy))
 ·exact Nat.le_of_lt (x.above y c (PySem.mem_of_lookup h))
 ·have hi:i < vs.length:=by
   unfold start at h2
   by_cases hi:i < vs.length
   ·exact hi
   ·rw [List.getElem?_append_right (by simpa using hi)] at h2
    rw [List.getElem?_replicate] at h2
    split at h2 <;> cases h2
  have ha:vs[i]? = some v:=by
   unfold start at h2
   rw [List.getElem?_append_left (by simpa using hi),List.getElem?_map] at h2
   cases e:vs[i]? with
   | none=>rw [e] at h2; cases h2
   | some a=>rw [e] at h2; cases h2; rfl
  refine x1_2 (r.get ha) fun u hu rv=>?_
  have hp:ps[i]? = some y:=by
   rw [<- S.pre,List.getElem?_take_of_lt (by lia)]; exact h1
  have ndP:ps.Nodup:=by rw [<- S.pre]; exact S.nd.sublist (List.take_sublist _ _)
  refine ⟨u,rv,?_⟩
  rcases S.par y (List.mem_of_getElem? hp) with k | k
  ·exact .inl ⟨k,kd5 ndP hp hu k⟩
  ·obtain ⟨c,e⟩:=ki8 (n:=s.heap.objs.size + 1) k
   refine .inr ⟨.inl k,c,e,?_⟩
   have q:=x.cell y c e
   rw [kf0 ndP hp hu (by show scope.names.lookup y ≠ _; rw [k]; decide)] at q
   exact q
 ·exact e0.hok.fresh (Nat.le_of_lt (x.above y c (PySem.mem_of_lookup h)))
 ·unfold start
  show _ = N.length
  rw [List.length_append,List.length_map,List.length_replicate]
  lia
theorem qy9 {CX:CXT} {P:Program} {w:World} {K:PySem.W.Frag} {mg:Str -> Option Value} {base:Heap} {k:Nat} {f:Addr} {name qual:Str} {params:Arguments} {body:List Stmt} {scope:Scope} {dV kV doc pm cdv ct oc:Value} {an od:Option Addr}
  {osl:Array (Option Value)} {N ps:List Str} {sp:Sp} (lk:K.lookup f = some ⟨oc,od,.func (PySem.W.fnOf name qual params body scope dV kV doc pm an cdv ct),osl⟩) (hcd:PySem.W.codeIn K cdv qual = true) (S:FnScope N ps scope)
  (len:∀ vs H Q E,sp vs H Q E -> vs.length = ps.length)
  (hbody:∀ (A:Around) (outer:List Env) (s:Shared) (H:Hp) (vs:List V) (Q:VK) (E:XK),Room k (A.deeper (envOfC qual scope s.heap.objs.size f cdv)) -> sp vs H Q E ->
   ∃ t,PSs (cxOf CX P w K mg base N qual scope f cdv A outer s H E) body t /\ t { nx:=fun _ H'=>Q .non H',rt:=Q } (start N vs) H) :
  FnOk P w K mg base CX (k + 1) f (PySem.W.fnOf name qual params body scope dV kV doc pm an cdv ct) ps sp:=by
 refine ⟨len,fun A outer s H args us vs Q E hr e0 hb r hsp=>?_⟩
 have hl:=len _ _ _ _ hsp
 have KX:K.In s.heap:=e0.mod.kin.keeps fun b o e=>(e0.bs b o e).1
 have lim:s.heap.NoLimit:=e0.mod.nolimit.keeps fun b o e=>(e0.bs b o e).1
 have hkind:∀ y ∈ ps.zip us,scope.names.lookup y.1 = some .local \/ (scope.names.lookup y.1 = some .cell /\ ((cellsFrom (s.heap.objs.size + 1) scope.names []).lookup y.1).isSome = true):=fun zz172 hy=>by
  obtain ⟨n,v⟩:=zz172
  rcases S.par n (List.of_mem_zip hy).1 with q | q
  ·exact .inl q
  ·exact .inr ⟨q,PySem.W.cellsFrom_some _ _ _ (.inl q)⟩
 refine codeAny_call_function hr.depth (KX _ _ lk) rfl S.co S.gen rfl (PySem.W.codeRec_of KX hcd) (hb _ _ _ _ ?_)
 refine wpAny_newFunctionEnv_cells S.kind hkind fun env he s1 x=>?_
 subst he
 refine ⟨lim.keeps x.toInCall.keep,codeAny_func ?_⟩
 refine x1_2 (hbody A outer s H vs Q E (hr.deeper _) hsp) fun t ht hq=>?_
 have I:Inv (cxOf CX P w K mg base N qual scope f cdv A outer s H E) [] (start N vs) H s1:=qa3 S hr.hd e0 hl r x
 refine wpAny_mono (ht [] s1 (start N vs) H _ I hq) (fun fl s' hs=>?_) fun e s' hs=>hs
 have fin:∀ {σ':St} {H':Hp} {v:V} {u:Value},Inv (cxOf CX P w K mg base N qual scope f cdv A outer s H E) [] σ' H' s' -> RelV v u -> Q v H' -> CE outer P w H s Q u s' :=
  fun {σ' H' v u} J rv q=>⟨v,H',J.os,J.bare,J.base,J.hok,rv,q⟩
 cases fl with
 | ret u =>
  refine x3_3 hs fun v σ' H' J rv q=>?_
  clear hs
  exact fin J rv q
 | next =>
  refine x2_2 hs fun σ' H' J q=>?_
  clear hs
  exact fin (v:=V.non) (u:=Value.none) J rfl q
 | brk =>
  refine x2_2 hs fun _ _ _ q=>?_
  clear hs
  exact False.elim q
 | cont =>
  refine x2_2 hs fun _ _ _ q=>?_
  clear hs
  exact False.elim q
end L2
namespace L2
open PySem PySem.Spec PyProof.Rows
section
variable {X:Cx} {x:Str} {p pos:Pos} {e:Expr} {es:List Expr} {t:TA} {id T:String} {r:List V -> Hp -> VK -> Prop}
noncomputable def tCB (r:List V -> Hp -> VK -> Prop) (t:TA):TE:=fun σ H Q=>t σ H fun vs H1=>r vs H1 Q
theorem z9 (hc:CallR X (.builtin id) r) (hg:Gl X x) (hm:X.mg x = none) (hv:bootBuiltins x = some (.builtin id)) (ha:PA X (e :: es) t) (hn:x ≠ "__name__":=by decide) (hdb:(x == ("__debug__" : Str)) = false:=by decide)
  (he:starEach (e :: es) X.env = (false,eval e X.env) :: starEach es X.env:=by rfl) (hpl:(backTo pos (starEach es X.env)).any (·.1) = false:=by rfl):PE X (.Call (.Name x p) (e :: es) [] pos) (tCB r t):=by
 intro pins s σ H Q I h
 refine wpAny_Call_Name_kw (ju1 I hg hm hv ?_ hn hdb)
 exact PyProof.Rows.callWith_builtin1 (thn (ha pos pins s σ H _ I h) fun us s1 zz173=>zz173.elim fun vs zz174=>zz174.elim fun H1 zz175=>zz175.elim fun I1 zz176=>zz176.elim fun r1 q1=>hc pins s1 σ H1 vs us Q I1 r1 q1) he hpl
theorem ji1 (hc:CallR X (.type T) r) (hg:Gl X x) (hm:X.mg x = none) (hv:bootBuiltins x = some (.type T)) (ha:PA X (e :: es) t) (hn:x ≠ "__name__":=by decide) (hdb:(x == ("__debug__" : Str)) = false:=by decide)
  (he:starEach (e :: es) X.env = (false,eval e X.env) :: starEach es X.env:=by rfl) (hpl:(backTo pos (starEach es X.env)).any (·.1) = false:=by rfl):PE X (.Call (.Name x p) (e :: es) [] pos) (tCB r t):=by
 intro pins s σ H Q I h
 refine wpAny_Call_Name_kw (ju1 I hg hm hv ?_ hn hdb)
 exact PyProof.Rows.callWith_type1 (thn (ha pos pins s σ H _ I h) fun us s1 zz177=>zz177.elim fun vs zz178=>zz178.elim fun H1 zz179=>zz179.elim fun I1 zz180=>zz180.elim fun r1 q1=>hc pins s1 σ H1 vs us Q I1 r1 q1) he hpl
end
end L2
namespace HT
open PySem PyProof.Rows
noncomputable def U2:List Int -> List Int -> Bool
 | [],[]=>false
 | [],_ :: _=>true
 | _ :: _,[]=>false
 | x :: xs,y :: ys=>if x = y then U2 xs ys else decide (x < y)
theorem Q8 (x y:Int) (xs ys:List Int):U2 (x :: xs) (y :: ys) = if x = y then U2 xs ys else decide (x < y):=rfl
theorem jb5:U2 [] [] = false:=rfl
theorem jj7 (y:Int) (ys:List Int):U2 [] (y :: ys) = true:=rfl
theorem jd6 (x:Int) (xs:List Int):U2 (x :: xs) [] = false:=rfl
theorem qe1 (A:Around) (s:Shared) (a:Int) (t:Tok) (c:Int) (u:Tok) (prog:Program) (w:World) (E:Value -> Shared -> Prop) (Q:Value -> Shared -> Prop) (h:Q (.bool (decide (a < c))) s) :
  wpAny (model prog w) A (richCompare .Lt (.int a t) (.int c u)) Q E s :=
 (PyProof.Rows.lt_int h:wpAny (model prog w) A (compareOp .Lt (.int a t) (.int c u)) Q E s)
section
open PySem.SeqAt
open PySem.AutoSeq1 (wpAny_loadPart')
open PySem.MeetsSeq PySem.MeetsSeq2 PySem.MeetsSeq3
end
section
variable {prog:Program} {w:World} {A:Around} {E:Value -> Shared -> Prop} {s:Shared}
noncomputable def sIx (n d:Nat):Option Int -> Nat
 | none=>d
 | some v=>if v < 0 then (v + (n:Int)).toNat else min v.toNat n
end
end HT
namespace L2
open PySem PySem.Spec PyProof.Rows
noncomputable abbrev TO:=St -> Hp -> (Option Int -> Hp -> Prop) -> Prop
noncomputable def PO (X:Cx) (e:Option Expr) (t:TO):Prop :=
 ∀ (pins:List (Addr × Obj)) (s:Shared) (σ:St) (H:Hp) (Q:Option Int -> Hp -> Prop),Inv X pins σ H s -> t σ H Q ->
  wpAny (model X.prog X.w) X.A (evalPart e X.env) (fun u s'=>∃ o H',Inv X pins σ H' s' /\ IsPart u o /\ Q o H') X.xe s
noncomputable def qr0:TO:=fun _ H Q=>Q none H
noncomputable def vd8 (t:TE):TO:=fun σ H Q=>t σ H fun x H1=>∃ i,x = .int i /\ Q (some i) H1
section
variable {X:Cx} {e:Expr} {te:TE} {lo hi:Option Expr} {tl th:TO} {pos p2:Pos}
theorem qq7:PO X none qr0:=by
 intro pins s σ H Q I h
 rw [evalPart_none]
 exact wpAny_pure ⟨none,H,I,.none,h⟩
theorem qn9 (h:PE X e te):PO X (some e) (vd8 te):=by
 intro pins s σ H Q I hw
 rw [evalPart_some]
 refine thn (h pins s σ H _ I hw) fun u s1 zz181=>?_
 refine x2_3 zz181 fun x H1 I1 r1 q1=>?_
 clear zz181
 refine x1_2 q1 fun i zo1 q=>?_
 clear q1
 obtain rfl:=zo1
 obtain ⟨t,rfl⟩:=r1
 exact ⟨some i,H1,I1,.int i t,q⟩
noncomputable def SlR (X:Cx) (r:V -> Option Int -> Option Int -> Hp -> VK -> Prop):Prop :=
 ∀ (pins:List (Addr × Obj)) (s:Shared) (σ:St) (H:Hp) (x:V) (v vl vu:Value) (lo hi:Option Int) (sl:Addr) (Q:VK),Inv X pins σ H s -> RelV x v -> s.heap.IsSliceOf sl vl vu .none -> IsPart vl lo -> IsPart vu hi -> r x lo hi H Q ->
  ∃ T id,typeLookup (.type T) "__getitem__" = pure (some (.builtin id)) /\ s.TypeIs v T /\ wpAny (model X.prog X.w) X.A (getItem v (.ref sl)) (EP X pins σ Q) X.xe s
theorem SlR.or {r r':V -> Option Int -> Option Int -> Hp -> VK -> Prop} (h:SlR X r) (h':SlR X r'):SlR X (fun x lo hi H Q=>r x lo hi H Q \/ r' x lo hi H Q):=by
 intro pins s σ H x v vl vu lo hi sl Q I rx hs pl pu q
 rcases q with q | q
 ·exact h pins s σ H x v vl vu lo hi sl Q I rx hs pl pu q
 ·exact h' pins s σ H x v vl vu lo hi sl Q I rx hs pl pu q
noncomputable def tSl (r:V -> Option Int -> Option Int -> Hp -> VK -> Prop) (te:TE) (tl th:TO):TE:=fun σ H Q=>te σ H fun x H1=>tl σ H1 fun l H2=>th σ H2 fun u H3=>r x l u H3 Q
theorem qi5 {r:V -> Option Int -> Option Int -> Hp -> VK -> Prop} (hr:SlR X r) (he:PE X e te) (hl:PO X lo tl) (hu:PO X hi th):PE X (.Subscript e (.Slice lo hi none p2) pos) (tSl r te tl th):=by
 intro pins s σ H Q I h
 refine Subscript_ (thn (he pins s σ H _ I h) fun v s1 zz182=>?_)
 refine x2_3 zz182 fun x H1 I1 r1 q1=>?_
 clear zz182
 refine wpAny_Slice (thn (hl pins s1 σ H1 _ I1 q1) fun vl s2 zz183=>zz183.elim fun l zz184=>zz184.elim fun H2 zz185=>zz185.elim fun I2 zz186=>zz186.elim fun pl q2=>thn (hu pins s2 σ H2 _ I2 q2) fun vu s3 zz187=>?_)
 refine x2_3 zz187 fun u H3 I3 pu q3=>?_
 clear zz187
 rw [evalPart_none]
 refine wpAny_pure ?_
 have I4:Inv X pins σ H3 { s3 with heap:=s3.heap.push { cls:=.type "slice",data:=.fields #[vl,vu,.none] } }:=I3.kept (t':=s3.toks) fun b ob q=>Heap.get?_push_of_some _ q
 refine x2_3 (hr pins { s3 with heap:=s3.heap.push { cls:=.type "slice",data:=.fields #[vl,vu,.none] } } σ H3 x v vl vu l u s3.heap.objs.size Q I4 r1 (Heap.IsSliceOf.new ..) pl pu q3) fun T id hT ht hg=>?_
 show wpAny (model X.prog X.w) X.A (subscriptTail e (.Slice lo hi none p2) v (.ref s3.heap.objs.size)) (EP X pins σ Q) X.xe { s3 with heap:=s3.heap.push { cls:=.type "slice",data:=.fields #[vl,vu,.none] } }
 exact tail_any (ops:=[.ref s3.heap.objs.size,v]) ht hT hg (by with_unfolding_all rfl)
noncomputable def cutV (xs:List V) (lo hi:Option Int):List V:=(xs.drop (HT.sIx xs.length 0 lo)).take (HT.sIx xs.length xs.length hi - HT.sIx xs.length 0 lo)
theorem kg4 (xs:List V) (lo hi:Option Int):(cutV xs lo hi).length <= xs.length:=by
 unfold cutV
 rw [List.length_take,List.length_drop]
 lia
end
end L2
namespace L2
open PySem PySem.Spec PyProof.Rows
noncomputable def ixN (n:Nat) (i:Int):Option Nat:=if 0 <= i then (if i < n then some i.toNat else none) else if -(n:Int) <= i then some (i + n).toNat else none
noncomputable def atI {α:Type} (xs:List α) (i:Int):Option α:=(ixN xs.length i).bind fun j=>xs[j]?
theorem ks5 {n:Nat} {i:Int} {j:Nat} (h:ixN n i = some j):seqIndex? i n = some j /\ j < n /\ -(n:Int) <= i /\ i < n:=by
 unfold ixN at h
 by_cases h0:0 <= i
 ·rw [if_pos h0] at h
  by_cases h1:i < n
  ·rw [if_pos h1] at h
   have e:i.toNat = j:=Option.some.inj h
   exact ⟨by rw [seqIndex_of h0 h1,e],by lia,by lia,h1⟩
  ·rw [if_neg h1] at h; cases h
 ·rw [if_neg h0] at h
  by_cases h1 : -(n:Int) <= i
  ·rw [if_pos h1] at h
   have e:(i + n).toNat = j:=Option.some.inj h
   exact ⟨by rw [seqIndex_neg (by lia) h1,e],by lia,h1,by lia⟩
  ·rw [if_neg h1] at h; cases h
theorem ku1 {α:Type} {xs:List α} {i:Int} {v:α} (h:atI xs i = some v):∃ j,seqIndex? i xs.length = some j /\ xs[j]? = some v /\ j < xs.length /\ -(xs.length:Int) <= i /\ i < xs.length:=by
 unfold atI at h
 cases e:ixN xs.length i with
 | none=>rw [e] at h; cases h
 | some j =>
  rw [e] at h
  refine x0_4 (ks5 e) fun h1 h2 h3 h4=>?_
  exact ⟨j,h1,h,h2,h3,h4⟩
noncomputable def jm9 (b:Expr):Prop:=∀ o i,subscripted b false o i = operate [o,i] (getItem o i)
noncomputable def IxR (X:Cx) (r:R2):Prop :=
 ∀ (value slice:Expr) (pins:List (Addr × Obj)) (s:Shared) (σ:St) (H:Hp) (x y:V) (v u:Value) (Q:VK),Inv X pins σ H s -> RelV x v -> RelV y u -> r x y H Q ->
  subscripted slice false v u = operate [v,u] (getItem v u) -> wpAny (model X.prog X.w) X.A (subscriptTail value slice v u) (EP X pins σ Q) X.xe s
noncomputable def MtR (X:Cx) (id:String) (r:V -> List V -> Hp -> VK -> Prop):Prop :=
 ∀ (pins:List (Addr × Obj)) (s:Shared) (σ:St) (H:Hp) (x:V) (xs:List V) (v:Value) (us:List Value) (Q:VK),Inv X pins σ H s -> RelV x v -> Vals xs us -> r x xs H Q ->
  wpAny (model X.prog X.w) X.A (call (.builtin id) (v :: us)) (EP X pins σ Q) X.xe s
section
variable {X:Cx} {a b:Expr} {ta tb:TE} {pos:Pos}
theorem IxR.or {r r':R2} (h:IxR X r) (h':IxR X r'):IxR X (fun x y H Q=>r x y H Q \/ r' x y H Q):=by
 intro value slice pins s σ H x y v u Q I rx ry q hs
 rcases q with q | q
 ·exact h value slice pins s σ H x y v u Q I rx ry q hs
 ·exact h' value slice pins s σ H x y v u Q I rx ry q hs
theorem MtR.or {id:String} {r r':V -> List V -> Hp -> VK -> Prop} (h:MtR X id r) (h':MtR X id r'):MtR X id (fun x xs H Q=>r x xs H Q \/ r' x xs H Q):=by
 intro pins s σ H x xs v us Q I rx rs q
 rcases q with q | q
 ·exact h pins s σ H x xs v us Q I rx rs q
 ·exact h' pins s σ H x xs v us Q I rx rs q
theorem qv6 {r:R2} (hr:IxR X r) (ha:PE X a ta) (hb:PE X b tb) (hs:jm9 b):PE X (.Subscript a b pos) (tOp r ta tb):=by
 intro pins s σ H Q I h
 exact Subscript_ (binT ha hb I h fun v u s2 x y H2 I2 rx ry q=>hr a b pins s2 σ H2 x y v u Q I2 rx ry q (hs _ _))
noncomputable def rIxL (K:PySem.W.Frag):R2:=fun x y H Q=>∃ p xs i v,x = .ref p /\ y = .int i /\ SqL K H p xs /\ atI xs i = some v /\ Q v H
noncomputable def rIxT (K:PySem.W.Frag):R2:=fun x y H Q=>∃ p xs i v,x = .ref p /\ y = .int i /\ SqT K H p xs /\ atI xs i = some v /\ Q v H
theorem qs1:IxR X (rIxL X.K):=by
 intro value slice pins s σ H x y v u Q I rx ry h hs
 refine x4_5 h fun p xs i z zo4 zo5 hq he q=>?_
 clear h
 obtain rfl:=zo4
 obtain rfl:=zo5
 cases rx
 obtain ⟨t,rfl⟩:=ry
 refine x1_3 (I.list hq) fun its r pl hz=>?_
 refine x1_5 (ku1 he) fun j h1 h2 h3 h4 h5=>?_
 refine x1_2 (r.get h2) fun w ew rw'=>?_
 have hl:=r.length
 have hn:=km5
 have fin:EP X pins σ Q w s:=⟨z,H,I,rw',q⟩
 by_cases h0:0 <= i
 ·have hj:i.toNat = j:=by
   rw [seqIndex_of h0 h5] at h1
   exact Option.some.inj h1
  exact item_listR pl.isList h0 (by lia) (by rw [hj]; simpa using ew) fin hs
 ·have hj:(i + (its.toArray.size:Int)).toNat = j:=by
   rw [seqIndex_neg (by lia) h4] at h1
   rw [List.size_toArray,<- hl]
   exact Option.some.inj h1
  exact subscriptTail_builtinR (x:=w) pl.isList.typeIs slot_list_getitem.lookup
   (wpAny_getItem_list_neg (Q:=fun r s'=>r = w /\ EP X pins σ Q r s') pl.isList (by lia) (by rw [List.size_toArray] <;> lia) (by lia) (by rw [hj]; simpa using ew) ⟨rfl,fin⟩) hs
theorem qz0:IxR X (rIxT X.K):=by
 intro value slice pins s σ H x y v u Q I rx ry h hs
 refine x4_5 h fun p xs i z zo4 zo5 hq he q=>?_
 clear h
 obtain rfl:=zo4
 obtain rfl:=zo5
 cases rx
 obtain ⟨t,rfl⟩:=ry
 refine x1_3 (I.tuple hq) fun its r pl hz=>?_
 refine x1_5 (ku1 he) fun j h1 h2 h3 h4 h5=>?_
 refine x1_2 (r.get h2) fun w ew rw'=>?_
 have hl:=r.length
 have hn:=km5
 have fin:EP X pins σ Q w s:=⟨z,H,I,rw',q⟩
 exact subscriptTail_builtinR (x:=w) pl.typeIs slot_tuple_getitem.lookup
  (getItem_tuple (j:=j) (Q:=fun r s'=>r = w /\ EP X pins σ Q r s') pl (by lia) (by lia) (by rw [List.size_toArray,<- hl]; exact h1) (by simpa using ew) ⟨rfl,fin⟩) hs
theorem kq2 (its:List Value) (n j:Nat) (u:Value):Obj.mapSeq (·.setIfInBounds j u) { cls:=.type "list",data:=.seq its.toArray n } = { cls:=.type "list",data:=.seq (its.set j u).toArray n }:=by
 simp [Obj.mapSeq]
theorem Inv.lst {pins:List (Addr × Obj)} {σ:St} {H:Hp} {s:Shared} {p:Addr} {xs:List V} (I:Inv X pins σ H s) (h:H p = some (.lst xs)) :
  ∃ (its:List Value) (n:Nat),Vals xs its /\ s.heap.get? p = some { cls:=.type "list",data:=.seq its.toArray n } /\ xs.length <= sizeLine:=by
 obtain ⟨z,its,n,r,e⟩:=I.hok p _ h
 exact ⟨its,n,r,e,z⟩
theorem Inv.lstUpd {pins:List (Addr × Obj)} {σ:St} {H:Hp} {s:Shared} {p:Addr} {xs ys:List V} {its its':List Value} {n n':Nat} {f:Obj -> Obj} (I:Inv X pins σ H s) (h:H p = some (.lst xs))
  (ho:s.heap.get? p = some { cls:=.type "list",data:=.seq its.toArray n }) (hf:f { cls:=.type "list",data:=.seq its.toArray n } = { cls:=.type "list",data:=.seq its'.toArray n' }) (r:Vals ys its') (hz:ys.length <= sizeLine) (t:Nat) :
  Inv X pins σ (upd H p (.lst ys)) { s with heap:=s.heap.update p f,toks:=t }:=by
 have e:(s.heap.update p f).get? p = some { cls:=.type "list",data:=.seq its'.toArray n' }:=by
  rw [Heap.get?_update_self f ho (by rw [hf] <;> rfl),hf]
 refine I.write (x:=p) (e:=p) (by rw [h]; trivial) (.inl rfl) (fun b u hb q=>(Heap.get?_update_other _ _ (Ne.symm hb)).trans q) ⟨_,e⟩ ?_
 exact ⟨hz,its',n',r,e⟩
noncomputable def vf1:V -> V -> V -> Hp -> (Hp -> Prop) -> Prop:=fun o i v H Q=>∃ p xs k j,o = .ref p /\ i = .int k /\ H p = some (.lst xs) /\ ixN xs.length k = some j /\ Q (upd H p (.lst (xs.set j v)))
theorem qg4:PSet X vf1:=by
 intro pins s σ H o i v ov iv u Q I ro ri rv h
 refine x4_5 h fun p xs k j zo4 zo5 hp hj q=>?_
 clear h
 obtain rfl:=zo4
 obtain rfl:=zo5
 cases ro
 obtain ⟨t,rfl⟩:=ri
 refine x2_3 (I.lst hp) fun its n r ho hz=>?_
 refine x0_4 (ks5 hj) fun h1 h2 h3 h4=>?_
 have hl:=r.length
 have hn:=km5
 have I':Inv X pins σ (upd H p (.lst (xs.set j v))) { s with heap:=s.heap.update p (Obj.mapSeq (·.setIfInBounds j u)) } :=
  I.lstUpd hp ho (kq2 its n j u) (r.set rv j) (by rw [List.length_set]; exact hz) s.toks
 by_cases h0:0 <= k
 ·have hk:k.toNat = j:=by
   rw [seqIndex_of h0 h4] at h1
   exact Option.some.inj h1
  exact PySem.W.ki_setAt ho h0 (by lia) (by rw [List.size_toArray,<- hl]; exact h4) (by rw [hk]; exact ⟨_,I',q⟩)
 ·have hk:(k + (its.toArray.size:Int)).toNat = j:=by
   rw [seqIndex_neg (by lia) h3] at h1
   rw [List.size_toArray,<- hl]
   exact Option.some.inj h1
  exact PySem.W.ki_setBack ho (by lia) (by rw [List.size_toArray,<- hl]; exact h3) (by lia) (by rw [hk]; exact ⟨_,I',q⟩)
theorem kd2 (lo hi:Option Int) (n:Nat):(sliceBounds lo hi none n).1 = ((HT.sIx n 0 lo:Nat):Int) /\ (sliceBounds lo hi none n).2.1 = ((HT.sIx n n hi:Nat):Int) /\ (sliceBounds lo hi none n).2.2 = 1:=by
 refine ⟨?_,?_,rfl⟩
 ·cases lo with
  | none=>simp [sliceBounds,HT.sIx]
  | some i =>
   simp only [sliceBounds,HT.sIx,Option.getD_none,show (1:Int) > 0 by decide,if_true]
   by_cases h:i < 0
   ·simp only [h,if_true] <;> lia
   ·simp only [h,if_false] <;> lia
 ·cases hi with
  | none=>simp [sliceBounds,HT.sIx]
  | some i =>
   simp only [sliceBounds,HT.sIx,Option.getD_none,show (1:Int) > 0 by decide,if_true]
   by_cases h:i < 0
   ·simp only [h,if_true] <;> lia
   ·simp only [h,if_false] <;> lia
theorem jw8 (its:List Value) (lo hi:Option Int):slicePick its.toArray lo hi none = ((its.drop (HT.sIx its.length 0 lo)).take (HT.sIx its.length its.length hi - HT.sIx its.length 0 lo)).toArray:=by
 refine x0_3 (kd2 lo hi its.toArray.size) fun h1 h2 h3=>?_
 unfold slicePick
 rw [h1,h2,h3]
 simp only [sliceRange_one,pick_run,List.size_toArray] <;> rfl
noncomputable def rSlL (K:PySem.W.Frag):V -> Option Int -> Option Int -> Hp -> VK -> Prop:=fun x lo hi H Q=>∃ a xs,x = .ref a /\ SqL K H a xs /\ ∀ p,H p = none -> Q (.ref p) (upd H p (.lst (cutV xs lo hi)))
theorem qq3:SlR X (rSlL X.K):=by
 intro pins s σ H x v vl vu lo hi sl Q I rx hs pl pu h
 refine x2_3 h fun a xs zo2 hx q=>?_
 clear h
 obtain rfl:=zo2
 cases rx
 refine x1_3 (I.list hx) fun its r ht hz=>?_
 have hlen:=r.length
 refine ⟨"list",_,slot_list_getitem.lookup,ht.isList.typeIs,?_⟩
 refine wpAny_getItem_list_slice ht.isList hs pl pu .none (by simp) ?_ (by rw [List.size_toArray] <;> lia)
 rw [jw8,<- hlen]
 refine ⟨.ref s.heap.objs.size,_,I.laid (t':=s.toks) (o:=.lst (cutV xs lo hi)) (fun b ob q=>Heap.get?_push_of_some _ q) (Nat.le_refl _) ?_,rfl,q _ (I.hok.fresh (Nat.le_refl _))⟩
 exact ⟨Nat.le_trans (kg4 xs lo hi) hz,_,0,(r.drop (HT.sIx xs.length 0 lo)).take (HT.sIx xs.length xs.length hi - HT.sIx xs.length 0 lo),Heap.get?_push_size _ rfl⟩
theorem y6:CallR X (.builtin "len") (fun xs H Q=>∃ p ys,xs = [.ref p] /\ (SqL X.K H p ys \/ SqT X.K H p ys) /\ Q (.int ys.length) H):=by
 intro pins s σ H xs us Q I r h
 refine x2_3 h fun p ys zo2 hq q=>?_
 clear h
 obtain rfl:=zo2
 refine x1_2 (kc2 r) fun u zo1 rx=>?_
 obtain rfl:=zo1
 cases rx
 have hn:=km5
 rcases hq with hq | hq
 ·refine x1_3 (I.list hq) fun its r' pl hz=>?_
  have hlen:=r'.length
  exact Calls.call_len_list pl.isList (by simp only [List.size_toArray] <;> lia) ⟨.int ys.length,H,I.tok _,⟨s.toks + 1,by rw [List.size_toArray,hlen]⟩,q⟩
 ·refine x1_3 (I.tuple hq) fun its r' pl hz=>?_
  have hlen:=r'.length
  exact len_tuple pl (by simp only [List.size_toArray] <;> lia) ⟨.int ys.length,H,I.tok _,⟨s.toks + 1,by rw [List.size_toArray,hlen]⟩,q⟩
theorem CallR.or {f:Value} {r r':List V -> Hp -> VK -> Prop} (h:CallR X f r) (h':CallR X f r'):CallR X f (fun xs H Q=>r xs H Q \/ r' xs H Q):=by
 intro pins s σ H xs us Q I rs q
 rcases q with q | q
 ·exact h pins s σ H xs us Q I rs q
 ·exact h' pins s σ H xs us Q I rs q
theorem jd2:CallR X (.type "list") (fun xs H Q=>∃ p ys,xs = [.ref p] /\ (SqL X.K H p ys \/ SqT X.K H p ys) /\ ∀ l,H l = none -> Q (.ref l) (upd H l (.lst ys))):=by
 intro pins s σ H xs us Q I r h
 refine x2_3 h fun p ys zo2 hq q=>?_
 clear h
 obtain rfl:=zo2
 refine x1_2 (kc2 r) fun u zo1 rx=>?_
 obtain rfl:=zo1
 cases rx
 have fin:∀ (its:List Value),Vals ys its -> ys.length <= sizeLine -> ∀ (h':Heap) (c':Nat),(∀ b o',s.heap.get? b = some o' -> h'.get? b = some o') ->
   h'.get? s.heap.objs.size = some { cls:=.type "list",dict:=none,data:=.seq its.toArray c',slots:=#[] } -> EP X pins σ Q (.ref s.heap.objs.size) { s with heap:=h' }:=fun its r' hz h' c' kp e =>
  ⟨.ref s.heap.objs.size,_,I.laid (t':=s.toks) kp (Nat.le_refl _) (show ObjOk X.prog X.w _ h' _ (.lst ys) from ⟨hz,its,c',r',e⟩),rfl,q _ (I.hok.fresh (Nat.le_refl _))⟩
 rcases hq with hq | hq
 ·refine x1_3 (I.list hq) fun its r' pl hz=>?_
  have hlen:=r'.length
  obtain ⟨o,ho,hc,n,hd⟩:=pl.isList
  exact call_list_seq p (.inl rfl) ho hc hd (fun h' c' kp e=>fin its r' hz h' c' kp e) (by simp only [List.size_toArray] <;> lia)
 ·refine x1_3 (I.tuple hq) fun its r' pl hz=>?_
  have hlen:=r'.length
  obtain ⟨o,ho,hc,n,hd⟩:=pl
  exact call_list_seq p (.inr rfl) ho hc hd (fun h' c' kp e=>fin its r' hz h' c' kp e) (by simp only [List.size_toArray] <;> lia)
noncomputable def tyV (K:PySem.W.Frag) (T:String) (x:V) (H:Hp):Prop:=match x with
 | .str _=>T = "str"
 | .int _=>T = "int"
 | .ref p=>(T = "list" /\ ∃ xs,SqL K H p xs) \/ (T = "tuple" /\ ∃ o,K.lookup p = some o /\ o.cls = .type "tuple" /\ o.dict = none) \/
   (T = "dict" /\ ((∃ kvs,H p = some (.dK kvs)) \/ ∃ kvs,H p = some (.dT kvs))) \/ (T = "set" /\ ∃ S n,H p = some (.set S n))
 | _=>False
theorem qw7 {pins:List (Addr × Obj)} {σ:St} {H:Hp} {s:Shared} {T:String} {x:V} {v:Value} (I:Inv X pins σ H s) (r:RelV x v) (ty:tyV X.K T x H) :
  s.TypeIs v T /\ ∀ a,v = .ref a -> ∃ ob,s.heap.get? a = some ob /\ ob.dict = none:=by
 cases x with
 | str z =>
  obtain ⟨t,rfl⟩:=r
  cases (show T = "str" from ty)
  exact ⟨typeIs_str s z t,fun _ e=>nomatch e⟩
 | int i =>
  obtain ⟨t,rfl⟩:=r
  cases (show T = "int" from ty)
  exact ⟨typeIs_int s i t,fun _ e=>nomatch e⟩
 | ref p =>
  cases r
  rcases ty with ⟨rfl,xs,hq⟩ | ⟨rfl,o,hk,hc,hd⟩ | ⟨rfl,hk⟩ | ⟨rfl,S,n,hk⟩
  ·refine x1_3 (I.list hq) fun its _ pl _=>?_
   refine ⟨pl.isList.typeIs,fun a e=>?_⟩
   cases e
   refine x2_4 pl fun o n e c hd _=>?_
   clear pl
   exact ⟨o,e,hd⟩
  ·refine ⟨⟨o,I.kIn p o hk,hc⟩,fun a e=>?_⟩
   cases e
   exact ⟨o,I.kIn _ o hk,hd⟩
  ·have z:∃ o,s.heap.get? p = some o /\ o.ExactDict:=by
    rcases hk with ⟨kvs,hk⟩ | ⟨kvs,hk⟩
    ·obtain ⟨_,_,_,_,o,_,_,e,ex,_⟩:=I.hok p _ hk
     exact ⟨o,e,ex⟩
    ·obtain ⟨_,_,_,_,o,_,_,e,ex,_⟩:=I.hok p _ hk
     exact ⟨o,e,ex⟩
   refine x1_2 z fun o e ex=>?_
   clear z
   refine ⟨⟨o,e,ex.1⟩,fun a e2=>?_⟩
   cases e2
   exact ⟨o,e,ex.2.1⟩
  ·refine x4_3 (I.hok p _ hk) fun o _ _ _ e ex _=>?_
   refine ⟨⟨o,e,ex.1⟩,fun a e2=>?_⟩
   cases e2
   exact ⟨o,e,ex.2.1⟩
 | _=>exact False.elim ty
noncomputable def tBM (K:PySem.W.Frag) (T:String) (r:V -> List V -> Hp -> VK -> Prop) (to:TE) (t:TA):TE:=fun σ H Q=>to σ H fun x H1=>tyV K T x H1 /\ t σ H1 fun xs H2=>r x xs H2 Q
variable {o e:Expr} {es:List Expr} {to:TE} {t:TA} {name:Str} {apos cpos:Pos} {T id:String} {r:V -> List V -> Hp -> VK -> Prop}
theorem qa5 (pa:PlainAttrs T) (slot:Slot T name id) (hty:typeOf (.builtin id) = pure (.type "method_descriptor")) (hm:MtR X id r) (ho:PE X o to) (ha:PA X (e :: es) t)
  (hbase:attributeBase o name X.env (eval o X.env) = eval o X.env:=by rfl)
  (hfew:((backTo cpos (starEach (e :: es) X.env)).all (fun x=>!x.1) && (backToKw cpos (keywordEach [] X.env)).all (fun x=>x.1.isSome)
   && decide ((e :: es).length + ([]:List Keyword).length + (if ([]:List Keyword).isEmpty then 0 else 1) < 30)) = true:=by rfl)
  (hline:(apos.endLine == cpos.line) = true:=by rfl) (hs:starEach (e :: es) X.env = (false,eval e X.env) :: starEach es X.env:=by rfl) (hplain:(backTo cpos (starEach es X.env)).any (·.1) = false:=by rfl) :
  PE X (.Call (.Attribute o name apos) (e :: es) [] cpos) (tBM X.K T r to t):=by
 intro pins s σ H Q I h
 refine wpAny_Call_method_late hbase hfew hline rfl (thn (ho pins s σ H _ I h) fun v s1 zz189=>?_)
 refine x2_4 zz189 fun x H1 I1 r1 ty q1=>?_
 clear zz189
 obtain ⟨h1,h2⟩:=qw7 I1 r1 ty
 refine ⟨T,id,pa,slot,hty,h1,h2,?_⟩
 have hA:=ha cpos pins s1 σ H1 _ I1 q1
 rw [hs] at hA ⊢
 refine Calls.callWith_builtin (by show (false || (backTo cpos (starEach es X.env)).any (·.1)) = false; rw [hplain] <;> rfl) (Calls.evalArgs_plain ?_)
 exact thn hA fun us s2 zz190=>zz190.elim fun vs zz191=>zz191.elim fun H2 zz192=>zz192.elim fun I2 zz193=>zz193.elim fun r2 q2=>hm pins s2 σ H2 x vs v us Q I2 r1 r2 q2
end
end L2
namespace L2
open PySem PySem.Spec PyProof.Rows
noncomputable def MtM (X:Cx) (id:String) (r:V -> List V -> Hp -> VK -> Prop):Prop :=
 ∀ (pins:List (Addr × Obj)) (s:Shared) (σ:St) (H:Hp) (x:V) (xs:List V) (v:Value) (us:List Value) (Q:VK),Inv X pins σ H s -> RelV x v -> Vals xs us -> r x xs H Q ->
  wpAny (model X.prog X.w) X.A (call (.builtin id) (v :: us)) (EP X pins σ Q) X.xe s
theorem Vals.inv {x:V} {xs:List V} {us:List Value} (h:Vals (x :: xs) us):∃ u vs,us = u :: vs /\ RelV x u /\ Vals xs vs:=by
 cases h with
 | cons r t=>exact ⟨_,_,rfl,r,t⟩
theorem Vals.zero {us:List Value} (h:Vals [] us):us = []:=by
 cases h
 rfl
theorem Vals.one {x:V} {us:List Value} (h:Vals [x] us):∃ u,us = [u] /\ RelV x u:=by
 refine x2_3 h.inv fun u vs zo2 r t=>?_
 obtain rfl:=zo2
 obtain rfl:=t.zero
 exact ⟨u,rfl,r⟩
theorem Vals.two {x y:V} {us:List Value} (h:Vals [x,y] us):∃ u v,us = [u,v] /\ RelV x u /\ RelV y v:=by
 refine x2_3 h.inv fun u vs zo2 r t=>?_
 obtain rfl:=zo2
 refine x1_2 t.one fun v zo1 q=>?_
 obtain rfl:=zo1
 exact ⟨u,v,rfl,r,q⟩
theorem Vals.eraseIdx:∀ {xs:List V} {us:List Value} (i:Nat),Vals xs us -> Vals (xs.eraseIdx i) (us.eraseIdx i)
 | _,_,_,.nil=>.nil
 | _,_,0,.cons _ t=>t
 | _,_,i + 1,.cons r t=>.cons r (Vals.eraseIdx i t)
theorem Vals.reverse {xs:List V} {us:List Value} (h:Vals xs us):Vals xs.reverse us.reverse:=by
 induction h with
 | nil=>exact .nil
 | cons r t ih=>rw [List.reverse_cons,List.reverse_cons]; exact Vals.append ih (.cons r .nil)
theorem Vals.rep {xs:List V} {us:List Value} (h:Vals xs us):∀ k:Nat,Vals (List.replicate k xs).flatten (List.replicate k us).flatten
 | 0=>.nil
 | k + 1=>by
  rw [List.replicate_succ,List.replicate_succ,List.flatten_cons,List.flatten_cons]
  exact Vals.append h (Vals.rep h k)
section
variable {X:Cx} {pins:List (Addr × Obj)} {σ:St} {H:Hp} {s:Shared} {l b:Addr} {xs ys zs:List V}
theorem Inv.lset {its its':List Value} {n:Nat} {f:Array Value -> Array Value} {t':Nat} (I:Inv X pins σ H s) (hH:H l = some (.lst xs))
  (e:s.heap.get? l = some { cls:=.type "list",data:=.seq its.toArray n }) (hf:f its.toArray = its'.toArray) (hv:Vals ys its') (hz:ys.length <= sizeLine) :
  Inv X pins σ (upd H l (.lst ys)) { s with heap:=s.heap.update l (Obj.mapSeq f),toks:=t' }:=by
 have q:=PySem.IsL.update e f
 rw [hf] at q
 refine I.write (x:=l) (e:=l) (by rw [hH]; exact trivial) (.inl rfl) (fun b' u hb hu=>(Heap.get?_update_other s.heap (Obj.mapSeq f) (Ne.symm hb)).trans hu) ⟨_,q⟩ ?_
 exact ⟨hz,its',_,hv,q⟩
theorem Inv.lnew {its:List Value} {t':Nat} (I:Inv X pins σ H s) (hv:Vals ys its) (hz:ys.length <= sizeLine) :
  Inv X pins σ (upd H s.heap.objs.size (.lst ys)) { s with heap:=s.heap.push { cls:=.type "list",data:=.seq its.toArray },toks:=t' } :=
 I.laid (fun _ _ q=>Heap.get?_push_of_some _ q) (Nat.le_refl _) ⟨hz,its,0,hv,Heap.get?_push_size _ rfl⟩
theorem Inv.fresh (I:Inv X pins σ H s):H s.heap.objs.size = none:=I.hok.fresh (Nat.le_refl _)
theorem Inv.lstM (I:Inv X pins σ H s) (hH:H l = some (.lst xs)):xs.length <= sizeLine /\ ∃ (its:List Value) (n:Nat),Vals xs its /\ xs.length = its.length /\ s.heap.get? l = some { cls:=.type "list",data:=.seq its.toArray n }:=by
 obtain ⟨z,its,n,r,e⟩:=I.hok l _ hH
 exact ⟨z,its,n,r,r.length,e⟩
end
section
variable {X:Cx}
noncomputable def ks8:V -> List V -> Hp -> VK -> Prop:=fun x vs H Q=>∃ l xs y,x = .ref l /\ vs = [y] /\ H l = some (.lst xs) /\ xs.length < sizeLine /\ Q .non (upd H l (.lst (xs ++ [y])))
theorem jh6:MtM X "list.append" ks8:=by
 intro pins s σ H x vs v us Q I rx rv h
 refine x3_5 h fun l xs y zo3 zo4 hH hz q=>?_
 clear h
 obtain rfl:=zo3
 obtain rfl:=zo4
 cases rx
 refine x1_2 rv.one fun u zo1 ru=>?_
 obtain rfl:=zo1
 obtain ⟨z,its,n,r,hl,e⟩:=I.lstM hH
 refine call_meets F.slot_list_append ⟨_,e,rfl⟩ F.entry_list_append (F.args_list_append_2 _ _) (PySem.list_append l its.toArray n u (by rw [List.size_toArray]; lia)) ⟨e,?_⟩
 refine ⟨.non,_,I.lset (its':=its ++ [u]) hH e (by simp) (r.append (.cons ru .nil)) ?_,rfl,q⟩
 rw [List.length_append,List.length_singleton]
 lia
end
section
variable {prog:Program} {w:World} {A:Around} {E:Value -> Shared -> Prop} {s:Shared}
end
section
variable {X:Cx}
end
end L2
namespace Att
open PySem PySem.W PySem.Calls PyProof.Rows
theorem jp8 {P:Params} {h:Heap}:∀ (ns:List Int) (vs:List Value),WellAll P h vs (ns.map WData.int) -> IntsAre vs ns:=by
 intro ns
 induction ns with
 | nil =>
  intro vs w
  rw [List.map_nil] at w
  cases w
  exact .nil
 | cons n ns ih =>
  intro vs w
  rw [List.map_cons] at w
  cases w with
  | cons a b =>
   cases a
   exact .cons _ _ (ih _ b)
theorem ku6 {l:OpenLaw} {n:Nat} (hn:l.most = some n) {P:Params} {h:Heap} {args:List WData} {vals:List Value}
  (hpre:l.row.toRowW.claim.pre args = true) (hwl:WellAll P h vals args) :
  ∃ a vs ns,vals = [Value.ref a] /\ args = [WData.list (ns.map WData.int)] /\ h.get? a = some { cls:=.type "list",data:=.seq vs.toArray } /\ IntsAre vs ns /\ ns.length <= n:=by
 have hsh:WShape.hasAll [] args [.list .int] = true:=(pre_splitW hpre).1
 have hc:l.pre.holds [] { args:=args } = true:=(pre_splitW hpre).2
 refine x2_3 (hasAllW_cons hsh) fun d r zo2 h1 h2=>?_
 obtain rfl:=zo2
 obtain rfl:=hasAllW_nil h2
 refine x1_2 (hasW_list h1) fun xs zo1 h3=>?_
 obtain rfl:=zo1
 obtain ⟨ns,rfl⟩:=items_int h3
 have hlen:ns.length <= n:=by
  unfold OpenLaw.pre at hc
  have h4:(WTm.not (.lt (.lit (.int (n:Int))) (.len (.arg 0)))).holds [] { args:=[.list (ns.map .int)] } = true:=by
   have h4:=(holds_andW hc).1
   rw [hn] at h4
   exact h4
  have h5:=condW_of h4 (w_not (w_lt w_lit (w_len_list (w_arg rfl))))
  rw [List.length_map] at h5
  refine Nat.le_of_not_lt fun q=>?_
  have q':(n:Int) < ((ns.length:Nat):Int):=by lia
  first
   | (rw [decide_eq_true q'] at h5; exact absurd h5 (by decide))
   | (simp at h5; lia)
 cases hwl with
 | cons w1 w2 =>
  cases w2
  cases w1 with
  | list ho hall=>exact ⟨_,_,ns,rfl,rfl,ho,jp8 ns _ hall,hlen⟩
theorem kr7 (l:OpenLaw) (args:List WData):l.row.toRowW.claim.post args (.bool true) args = true :=
 postW_of (r:=l.row.toRowW) (X:=(true == true))
  (show WShape.has [] (.bool true) .bool = true by first | rfl | decide | simp [WShape.has,WShape.arms,WShape.armsAll])
  (show (WTm.eq .res (.lit (.bool true))).value [] { args:=args,res:=some (.bool true),after:=args } = some (.bool (true == true)) from w_eq_bool (w_res rfl) w_lit) rfl
theorem attach_call {l:OpenLaw} {n:Nat} {q:Program} {loose:List Str} {XP:(Str -> Option Value) -> Heap -> Prop} {YP:World -> Heap -> Prop} {d:DefRec}
  (hn:l.most = some n) (hdf:d.params.defaults = [])
  (call:∀ (w:World) (s₀ s₁:Shared) (mg mb:Str -> Option Value) (fa:Addr) (o:Obj) (pm cd doc:Value) (a:Addr) (vs:List Value) (ns:List Int),
   Ground q loose [] XP w s₀ mg mb s₁.heap -> YP w s₁.heap ->
   s₁.heap.get? fa = some o -> o.data = .func (docDef d.name d.params d.body d.scope pm cd doc) -> s₁.heap.CodeRec cd d.name -> mg d.name = some (.ref fa) ->
   s₁.heap.get? a = some { cls:=.type "list",data:=.seq vs.toArray } -> IntsAre vs ns -> ns.length <= n -> s₁.gens = #[] ->
   codeAny (model l.prog w) callerA (.call (.ref fa) ⟨[.ref a],[]⟩) (fun r s'=>r = .ok (.ret (.bool true)) /\ OldK s₁.heap s'.heap /\ s'.os = s₁.os /\ AllBare s'.gens) s₁) :
  WalkO q loose XP YP l.row.toRowW d [] (fun f vs=>PySem.call f vs):=by
 intro w s₀ s₁ mg mb G Y fa o pm cd doc dV kV ho hd hcd hD hmg hg args vals as hpre hlay hrd hwl hlo
 obtain rfl:dV = .none:=Dflts.none hD hdf
 obtain rfl:kV = .none:=Dflts.noKw hD
 refine x3_5 (ku6 hn hpre hwl) fun a vs ns zo3 zo4 hobj hints hlen=>?_
 obtain rfl:=zo3
 obtain rfl:=zo4
 refine enter_call (codeAny_mono (call w s₀ s₁ mg mb fa o pm cd doc a vs ns G Y ho (fd_plain hd) hcd hmg hobj hints hlen hg) fun r s' hq=>?_)
 refine x0_4 hq fun zo0 h2 h3 h4=>?_
 clear hq
 obtain rfl:=zo0
 exact ⟨.inl ⟨.bool true,.bool true,[],rfl,fun _=>rfl,.bool true,kr7 l _,fun _=>⟨List.Pairwise.nil,fun _ hm=>(nomatch hm)⟩⟩,h2,h3,h4⟩
section
variable {prog:Program} {w:World} {A:Around} {E:Value -> Shared -> Prop} {s:Shared} {K:Frag}
end
end Att
namespace L2
open PySem PySem.Spec PyProof.Rows
theorem ka6:∀ {vs:List Value} {ns:List Int},IntsAre vs ns -> Vals (ns.map V.int) vs
 | _,_,.nil=>.nil
 | _,_,.cons n t h=>.cons ⟨t,rfl⟩ (ka6 h)
noncomputable def Only (H:Hp):Prop:=∀ b,H b = none \/ ∃ o xs,H b = some (.frz o (.lst xs))
theorem qg5 {P:Program} {w:World} {K:PySem.W.Frag} {mg mb:Str -> Option Value} {CX:CXT} {k:Nat} {fa a:Addr} {fd:FuncData} {x:Str} {sp:Sp} {s₁:Shared} {vs:List Value} {ns:List Int}
  (KX:K.In s₁.heap) (hns:s₁.heap.Ns mainGlobals mg) (hb:s₁.heap.Ns builtinsNs mb) (hbb:∀ x:Str,x ≠ "__name__" -> mb x = bootBuiltins x) (hlim:s₁.heap.NoLimit) (hg:s₁.gens = #[])
  (ha:s₁.heap.get? a = some { cls:=.type "list",data:=.seq vs.toArray }) (hi:IntsAre vs ns) (hl:ns.length <= sizeLine) (hr:Room k callerA)
  (F:∀ base:Heap,K.In base -> base.Ns mainGlobals mg -> FnOk P w K mg base CX k fa fd [x] sp) (hbind:∀ (s:Shared) (u:Value),BindsTo s fd ⟨[u],[]⟩ [(x,u)])
  (hsp:∀ H:Hp,Only H -> SqL K H a (ns.map V.int) -> sp [.ref a] H (fun v _=>v = .bl true) fun _ _ _=>False)
  (hCX:∀ H e s',CX [] H s₁ (fun _ _ _=>False) e s' -> False) :
  codeAny (model P w) callerA (.call (.ref fa) ⟨[.ref a],[]⟩) (fun r s'=>r = .ok (.ret (.bool true)) /\ OldK s₁.heap s'.heap /\ s'.os = s₁.os /\ AllBare s'.gens) s₁:=by
 have rv:=ka6 hi
 have lenV:=hi.length
 have core:∀ H:Hp,Only H -> SqL K H a (ns.map V.int) -> HOk P w H s₁.heap -> (∀ b,H b ≠ none -> b = a) -> (H a ≠ none -> K.lookup a = none) ->
   codeAny (model P w) callerA (.call (.ref fa) ⟨[.ref a],[]⟩) (fun r s'=>r = .ok (.ret (.bool true)) /\ OldK s₁.heap s'.heap /\ s'.os = s₁.os /\ AllBare s'.gens) s₁:=by
  intro H hO hS hok hA hK
  have ka1:∀ {b:Addr} {o:Obj},s₁.heap.get? b = some o -> H b = none -> (hidT s₁.heap H).get? b = some o:=fun e n=>qh4 e n
  have noA:∀ {b:Addr} {o:Obj} {es:Array DictEntry} {ep:Nat},s₁.heap.get? b = some o -> o.data = .dict es ep -> H b = none:=fun {b o es ep} e d=>by
   cases q:H b with
   | none=>rfl
   | some u =>
    have e':b = a:=hA b (by rw [q]; simp)
    subst e'
    rw [ha] at e; cases e
    have d':Data.seq vs.toArray _ = Data.dict es ep:=d
    cases d'
  have nsK:∀ {b:Addr} {m:Str -> Option Value},s₁.heap.Ns b m -> (hidT s₁.heap H).Ns b m:=fun {b m} zz194=>zz194.elim fun o zz195=>zz195.elim fun es zz196=>zz196.elim fun ep zz197=>zz197.elim fun e zz198=>zz198.elim fun d r=>⟨o,es,ep,ka1 e (noA e d),d,r⟩
  have hKb:K.In (hidT s₁.heap H):=fun b o e=>ka1 (KX b o e) (by
   cases q:H b with
   | none=>rfl
   | some u =>
    have e':b = a:=hA b (by rw [q]; simp)
    subst e'
    rw [hK (by rw [q]; simp)] at e; cases e)
  have hM:Mod K mg (hidT s₁.heap H):=⟨hKb,nsK hns,⟨mb,nsK hb,hbb⟩,let ⟨mc,h1,h2⟩:=hlim; ⟨mc,nsK h1,h2⟩⟩
  have e0:Env0 P w K mg (hidT s₁.heap H) callerA [] s₁ H:=⟨rfl,hM,fun b o e=>qr9 e,Nat.le_of_eq (kw1 _ _),trivial,fun b hb=>absurd (show b ∈ ([]:List Addr) from hb) (by simp),hok,.of_eq hg⟩
  refine codeAny_mono ((F _ hKb (nsK hns)).run callerA [] s₁ H ⟨[.ref a],[]⟩ [.ref a] [.ref a] _ _ hr e0 (hbind s₁ (.ref a)) (.cons rfl .nil) (hsp H hO hS)) fun r s' h=>?_
  cases r with
  | error e=>exact (hCX H e s' h).elim
  | ok fl =>
   cases fl with
   | next=>exact False.elim h
   | brk=>exact False.elim h
   | cont=>exact False.elim h
   | ret u =>
    refine x2_6 h fun v H' os bare un hok' r' q=>?_
    clear h
    have q':v = .bl true:=q
    subst q'
    obtain rfl:u = Value.bool true:=r'
    refine ⟨rfl,OldK.of_keep fun b o e=>?_,os,bare⟩
    cases q:H b with
    | none=>exact un.keep b o e q (by intro z; exact absurd (show b ∈ ([]:List Addr) from z) (by simp)) (by simp)
    | some u =>
     rcases hO b with z | ⟨ob,xs,z⟩
     ·rw [q] at z; cases z
     ·have z2:=un.frzs b ob _ z
      obtain ⟨e1,_⟩:=hok b _ z
      obtain ⟨e2,_⟩:=hok' b _ z2
      rw [e] at e1; cases e1
      exact e2
 cases hk:K.lookup a with
 | some o =>
  have e:=KX a o hk
  rw [ha] at e
  cases e
  refine core (fun _=>none) (fun _=>.inl rfl) (.inr ⟨_,vs.toArray,_,hk,rfl,rfl,rfl,by rw [List.size_toArray,lenV]; exact hl,by simpa using rv⟩) (fun b u z=>by have z':(none:Option HO) = some u:=z; cases z') (fun b z=>absurd rfl z) fun z=>absurd rfl z
 | none =>
  refine core (fun b=>if b = a then some (.frz { cls:=.type "list",data:=.seq vs.toArray } (.lst (ns.map V.int))) else none) (fun b=>?_) (.inl (.inr ⟨{ cls:=.type "list",data:=.seq vs.toArray },if_pos rfl⟩)) (fun b u z=>?_) (fun b z=>?_) fun _=>hk
  ·by_cases hb:b = a
   ·exact .inr ⟨_,_,if_pos hb⟩
   ·exact .inl (if_neg hb)
  ·by_cases hb:b = a
   ·have z':=(if_pos hb).symm.trans z
    cases z'
    subst hb
    exact ⟨ha,by rw [List.length_map]; exact hl,vs,_,rv,ha⟩
   ·have z':=(if_neg hb).symm.trans z
    cases z'
  ·by_cases hb:b = a
   ·exact hb
   ·exact absurd (if_neg hb) z
end L2
namespace L2
open PySem PySem.Spec PyProof.Rows
theorem walk_of {l:PySem.W.OpenLaw} {n k:Nat} {q:Program} {loose:List Str} {XP:(Str -> Option Value) -> Heap -> Prop} {YP:World -> Heap -> Prop} {d:DefRec} {K:Params -> PySem.W.Frag} {CX:World -> CXT} {sp:World -> Sp} {x:Str}
  (hn:l.most = some n) (hn2:n <= sizeLine) (hdf:d.params.defaults = []) (hr:Room k callerA)
  (hY:∀ (w:World) (h:Heap),YP w h -> (K w.params).In h)
  (F:∀ (w:World) (mg:Str -> Option Value) (fa:Addr) (h:Heap),(K w.params).In h -> h.Ns mainGlobals mg -> mg d.name = some (.ref fa) ->
   ∃ fd:FuncData,(∀ (s:Shared) (u:Value),BindsTo s fd ⟨[u],[]⟩ [(x,u)]) /\
    ∀ base:Heap,(K w.params).In base -> base.Ns mainGlobals mg -> FnOk l.prog w (K w.params) mg base (CX w) k fa fd [x] (sp w))
  (hsp:∀ (w:World) (H:Hp) (a:Addr) (ns:List Int),ns.length <= n -> Only H -> SqL (K w.params) H a (ns.map V.int) -> sp w [.ref a] H (fun v _=>v = .bl true) fun _ _ _=>False)
  (hCX:∀ (w:World) (H:Hp) (s:Shared) (e:Value) (s':Shared),CX w [] H s (fun _ _ _=>False) e s' -> False) :
  PySem.W.WalkO q loose XP YP l.row.toRowW d [] (fun f vs=>PySem.call f vs):=by
 refine Att.attach_call hn hdf fun w s₀ s₁ mg mb fa o pm cd doc a vs ns G Y ho hd hcd hmg hobj hints hlen hg=>?_
 have KX:=hY w _ Y
 refine x1_2 (F w mg fa _ KX G.T.g hmg) fun fd hb hF=>?_
 exact qg5 KX G.T.g G.T.b G.T.builtins G.T.nolimit hg hobj hints (Nat.le_trans hlen hn2) hr hF hb (fun H hO hS=>hsp w H a ns hlen hO hS) fun H e s'=>hCX w H s₁ e s'
end L2
namespace L2
open PySem PySem.Spec PyProof.Rows
noncomputable def qt4 (s:Stmt) (j:Nat):Stmt:=match s with
 | .ClassDef _ _ _ body _ _ _ _ _ _ _=>body.getD j (.Pass ⟨0,0,0,0⟩)
 | _=>.Pass ⟨0,0,0,0⟩
noncomputable def v9 (s:Stmt):Arguments:=match s with
 | .FunctionDef _ a _ _ _ _ _ _ _ _=>a
 | _=>{ posonlyargs:=[],args:=[],vararg:=none,kwonlyargs:=[],kw_defaults:=[],kwarg:=none,defaults:=[] }
noncomputable def v5 (s:Stmt):List Stmt:=match s with
 | .FunctionDef _ _ b _ _ _ _ _ _ _=>b
 | _=>[]
noncomputable def j4 (s:Stmt):Scope:=match s with
 | .FunctionDef _ _ _ _ _ _ sc _ _ _=>sc
 | _=>{ kind:=.function,names:=[],isGenerator:=false,isCoroutine:=false }
noncomputable abbrev CX0:CXT:=fun _ _ _ _ _ _=>False
noncomputable abbrev E0:XK:=fun _ _ _=>False
structure Fun (K:PySem.W.Frag) (x qual:Str) (st:Stmt) (f:Addr) (fd:FuncData):Prop where
 ex:∃ (oc:Value) (od:Option Addr) (kV doc pm:Value) (an:Option Addr) (cdv ct:Value) (osl:Array (Option Value)),
  fd = PySem.W.fnOf x qual (v9 st) (v5 st) (j4 st) .none kV doc pm an cdv ct /\ K.lookup f = some ⟨oc,od,.func fd,osl⟩ /\ PySem.W.codeIn K cdv qual = true
 kp:PySem.W.keepIn K (.ref f) = true
section
variable {P:Program} {w:World} {K:PySem.W.Frag} {mg:Str -> Option Value} {base:Heap}
theorem Fun.ok {x qual:Str} {st:Stmt} {f:Addr} {fd:FuncData} {N ps:List Str} {k:Nat} {sp:Sp} (F:Fun K x qual st f fd) (S:FnScope N ps (j4 st)) (len:∀ vs H Q E,sp vs H Q E -> vs.length = ps.length)
  (hbody:∀ (cdv:Value) (A:Around) (outer:List Env) (s:Shared) (H:Hp) (vs:List V) (Q:VK) (E:XK),Room k (A.deeper (envOfC qual (j4 st) s.heap.objs.size f cdv)) -> sp vs H Q E ->
   ∃ t,PSs (cxOf CX0 P w K mg base N qual (j4 st) f cdv A outer s H E).nox (v5 st) t /\ t { nx:=fun _ H'=>Q .non H',rt:=Q } (start N vs) H):FnOk P w K mg base CX0 (k + 1) f fd ps sp:=by
 refine x9_3 F.ex fun oc od kV doc pm an cdv ct osl zo9 lk hcd=>?_
 obtain rfl:=zo9
 refine qy9 lk hcd S len fun A outer s H vs Q E hr hsp=>?_
 refine x1_2 (hbody cdv A outer s H vs Q E hr hsp) fun t h q=>?_
 exact ⟨t,h.nox,q⟩
theorem Fun.binds {x qual:Str} {st:Stmt} {f:Addr} {fd:FuncData} {ps:List Str} (F:Fun K x qual st f fd)
  (h:∀ (kV doc pm:Value) (an:Option Addr) (cdv ct:Value) (us:List Value),us.length = ps.length -> bindArgs (PySem.W.fnOf x qual (v9 st) (v5 st) (j4 st) .none kV doc pm an cdv ct) ⟨us,[]⟩ = pure (ps.zip us)):Binds K fd ps []:=by
 refine x9_3 F.ex fun oc od kV doc pm an cdv ct osl zo9 lk hcd=>?_
 obtain rfl:=zo9
 exact .all (h kV doc pm an cdv ct)
theorem kk3 {x qual:Str} {st:Stmt} {f:Addr} {oc:Value} {od an:Option Addr} {osl:Array (Option Value)} {kV doc pm cdv ct:Value} (l:K.lookup f = some ⟨oc,od,.func (PySem.W.fnOf x qual (v9 st) (v5 st) (j4 st) .none kV doc pm an cdv ct),osl⟩)
  (c:PySem.W.codeIn K cdv qual = true) (k:PySem.W.keepIn K (.ref f) = true):Fun K x qual st f (PySem.W.fnOf x qual (v9 st) (v5 st) (j4 st) .none kV doc pm an cdv ct):=⟨⟨oc,od,kV,doc,pm,an,cdv,ct,osl,rfl,l,c⟩,k⟩
end
section
variable {X:Cx}
theorem pv (i:Nat) {x:Str} {pos:Pos} (hN:X.N[i]? = some x:=by rfl) (hv:Vis X.env.scope x:=by first | exact Or.inl rfl | exact Or.inr (Or.inl rfl) | exact Or.inr (Or.inr rfl)) (hd:(x == ("__debug__" : Str)) = false:=by decide)
  (hcd:(x == ("__classdict__" : Str)) = false:=by decide):PE X (.Name x pos) (tVar i):=vb7 hN hv hd hcd
end
noncomputable def Same (H H':Hp):Prop:=∀ b o,H b = some o -> H' b = some o
theorem Same.refl (H:Hp):Same H H:=fun _ _ h=>h
theorem Same.trans {H H1 H2:Hp} (a:Same H H1) (b:Same H1 H2):Same H H2:=fun c o h=>b c o (a c o h)
theorem Same.free {H H':Hp} (e:Same H H') {l:Addr} (h:H' l = Option.none):H l = Option.none:=by
 cases q:H l with
 | none=>rfl
 | some o =>
  rw [e l o q] at h
  cases h
theorem Same.seq {K:PySem.W.Frag} {H H':Hp} {a:Addr} {xs:List V} (e:Same H H') (h:SqL K H a xs):SqL K H' a xs:=by
 rcases h with (h | ⟨o,h⟩) | h
 ·exact .inl (.inl (e _ _ h))
 ·exact .inl (.inr ⟨o,e _ _ h⟩)
 ·exact .inr h
end L2
end T_PpL
section T_Dd
namespace Dm
open PySem PyProof.Rows L2
inductive D where
 | non | bl (b:Bool) | int (i:Int) | str (x:Str) | tup (ds:List D) | lst (ds:List D) | brd (t:Nat) (ds:List D)
mutual
noncomputable def dep:D -> Nat
 | .tup ds=>deps ds + 1
 | .lst ds=>deps ds + 1
 | .brd tb ds=>deps ds + 2
 | _=>0
noncomputable def deps:List D -> Nat
 | []=>0
 | d :: ds=>max (dep d) (deps ds)
end
theorem jb1:∀ {ds:List D} {d:D},d ∈ ds -> dep d <= deps ds
 | _ :: _,_,.head _=>Nat.le_max_left _ _
 | _ :: ds,_,.tail _ h=>Nat.le_trans (jb1 h) (Nat.le_max_right _ _)
theorem jq1 {n:Nat}:∀ {ds:List D},(∀ d ∈ ds,dep d <= n) -> deps ds <= n
 | [],_=>Nat.zero_le _
 | d :: ds,h=>Nat.max_le.mpr ⟨h d (.head _),jq1 fun x hx=>h x (.tail _ hx)⟩
mutual
noncomputable def eqD:D -> D -> Bool
 | .non,.non=>true
 | .bl a,.bl b=>a == b
 | .bl a,.int j=>(if a then 1 else 0) == j
 | .int i,.bl b=>i == (if b then 1 else 0)
 | .int i,.int j=>i == j
 | .str x,.str y=>x == y
 | .tup xs,.tup ys=>eqDs xs ys
 | .lst xs,.lst ys=>eqDs xs ys
 | _,_=>false
noncomputable def eqDs:List D -> List D -> Bool
 | [],[]=>true
 | x :: xs,y :: ys=>eqD x y && eqDs xs ys
 | _,_=>false
end
theorem kk4:∀ {xs ys:List D},eqDs xs ys = true -> xs.length = ys.length
 | [],[],_=>rfl
 | [],_ :: _,h=>by simp [eqDs] at h
 | _ :: _,[],h=>by simp [eqDs] at h
 | x :: xs,y :: ys,h=>by
  rw [eqDs,Bool.and_eq_true] at h
  rw [List.length_cons,List.length_cons,kk4 h.2]
theorem kl6:∀ {xs ys:List D},xs.length = ys.length -> eqDs xs ys = (List.range xs.length).all fun j=>eqD (xs.getD j .non) (ys.getD j .non)
 | [],[],_=>rfl
 | x :: xs,y :: ys,h=>by
  rw [eqDs,kl6 (xs:=xs) (ys:=ys) (by simpa using h),List.length_cons,List.range_succ_eq_map,List.all_cons,List.all_map]
  rfl
mutual
noncomputable def flat:D -> Bool
 | .tup ds=>Q0 ds
 | .lst ds=>Q0 ds
 | .brd _ _=>false
 | _=>true
noncomputable def Q0:List D -> Bool
 | []=>true
 | d :: ds=>flat d && Q0 ds
end
theorem Q2:∀ {ds:List D} {d:D},Q0 ds = true -> d ∈ ds -> flat d = true
 | _ :: _,_,h,.head _=>by rw [Q0,Bool.and_eq_true] at h; exact h.1
 | _ :: ds,_,h,.tail _ m=>by rw [Q0,Bool.and_eq_true] at h; exact Q2 h.2 m
theorem jg0:∀ {ds:List D},(∀ d ∈ ds,flat d = true) -> Q0 ds = true
 | [],_=>rfl
 | d :: ds,h=>by rw [Q0,Bool.and_eq_true]; exact ⟨h d (.head _),jg0 fun x hx=>h x (.tail _ hx)⟩
mutual
noncomputable def DAt (h:Heap):D -> Value -> Prop
 | .non,v=>v = .none
 | .bl b,v=>v = .bool b
 | .int i,v=>∃ t,v = .int i t
 | .str x,v=>∃ t,v = .str x t
 | .tup ds,v=>∃ a items,v = .ref a /\ IsTup h a items /\ DAts h ds items.toList
 | .lst ds,v=>∃ a items,v = .ref a /\ PlainL h a items /\ DAts h ds items.toList
 | .brd _ _,_=>False
noncomputable def DAts (h:Heap):List D -> List Value -> Prop
 | [],vs=>vs = []
 | d :: ds,vs=>∃ v r,vs = v :: r /\ DAt h d v /\ DAts h ds r
end
theorem DAts.len {h:Heap}:∀ {ds:List D} {vs:List Value},DAts h ds vs -> vs.length = ds.length
 | [],_,e=>by rw [DAts] at e; subst e; rfl
 | d :: ds,_,e=>by
  rw [DAts] at e
  obtain ⟨v,r,rfl,_,q⟩:=e
  rw [List.length_cons,List.length_cons,q.len]
theorem DAts.get {h:Heap}:∀ {ds:List D} {vs:List Value} (j:Nat) (hj:j < vs.length),DAts h ds vs -> DAt h (ds.getD j .non) vs[j] /\ ds.getD j .non ∈ ds
 | [],_,j,hj,e=>by rw [DAts] at e; subst e; exact absurd hj (Nat.not_lt_zero _)
 | d :: ds,_,j,hj,e=>by
  rw [DAts] at e
  obtain ⟨v,r,rfl,q1,q⟩:=e
  cases j with
  | zero=>exact ⟨q1,.head _⟩
  | succ j =>
   obtain ⟨a,b⟩:=q.get j (by simpa using hj)
   exact ⟨by simpa using a,by simpa using .inr b⟩
mutual
theorem qe8:∀ d:D,flat d = true -> eqD d d = true
 | .non,_=>by rw [eqD]
 | .bl b,_=>by rw [eqD]; exact beq_self_eq_true b
 | .int i,_=>by rw [eqD]; exact beq_self_eq_true i
 | .str x,_=>by rw [eqD]; exact beq_self_eq_true x
 | .tup xs,h=>by rw [eqD]; rw [flat] at h; exact jh4 xs h
 | .lst xs,h=>by rw [eqD]; rw [flat] at h; exact jh4 xs h
 | .brd tb xs,h=>by rw [flat] at h; cases h
theorem jh4:∀ ds:List D,Q0 ds = true -> eqDs ds ds = true
 | [],_=>by rw [eqDs]
 | d :: ds,h=>by
  rw [Q0,Bool.and_eq_true] at h
  rw [eqDs,qe8 d h.1,jh4 ds h.2]; rfl
end
inductive Vw (h:Heap):D -> Value -> Prop
 | non:Vw h .non .none
 | bl (b:Bool):Vw h (.bl b) (.bool b)
 | int (i:Int) (t:Tok):Vw h (.int i) (.int i t)
 | str (x:Str) (t:Tok):Vw h (.str x) (.str x t)
 | tup {ds:List D} {a:Addr} {its:Array Value} (q:IsTup h a its) (p:DAts h ds its.toList):Vw h (.tup ds) (.ref a)
 | lst {ds:List D} {a:Addr} {its:Array Value} (q:PlainL h a its) (p:DAts h ds its.toList):Vw h (.lst ds) (.ref a)
theorem vw {h:Heap} {d:D} {u:Value} (x:DAt h d u):Vw h d u:=by
 cases d with
 | non=>rw [DAt] at x; subst x; exact .non
 | bl b=>rw [DAt] at x; subst x; exact .bl b
 | int i=>rw [DAt] at x; obtain ⟨t,rfl⟩:=x; exact .int i t
 | str y=>rw [DAt] at x; obtain ⟨t,rfl⟩:=x; exact .str y t
 | tup ds=>rw [DAt] at x; obtain ⟨a,its,rfl,q,p⟩:=x; exact .tup q p
 | lst ds=>rw [DAt] at x; obtain ⟨a,its,rfl,q,p⟩:=x; exact .lst q p
 | brd _ _=>rw [DAt] at x; exact x.elim
theorem DAts.inj {h:Heap} {ds es:List D} {vs:List Value} (H:∀ d ∈ ds,∀ (e:D) (v:Value),DAt h d v -> DAt h e v -> d = e) (x:DAts h ds vs) (y:DAts h es vs):ds = es:=by
 induction ds generalizing es vs with
 | nil =>
  rw [DAts] at x
  subst x
  cases es with
  | nil=>rfl
  | cons e es=>rw [DAts] at y; obtain ⟨_,_,z,_⟩:=y; cases z
 | cons d ds ih =>
  rw [DAts] at x
  obtain ⟨v,r,rfl,p1,p2⟩:=x
  cases es with
  | nil=>rw [DAts] at y; cases y
  | cons e es =>
   rw [DAts] at y
   obtain ⟨v',r',z,q1,q2⟩:=y
   cases z
   rw [H d (.head _) e v p1 q1,ih (fun d hd=>H d (.tail _ hd)) p2 q2]
theorem DAt.inj {h:Heap} (d e:D) {v:Value} (hu:DAt h d v) (hv:DAt h e v):d = e:=by
 generalize hn:dep d = n
 induction n using Nat.strongRecOn generalizing d e v with
 | ind n ih =>
 have x:=vw hu
 have y:=vw hv
 clear hu hv
 cases x with
 | non=>cases y; rfl
 | bl b=>cases y; rfl
 | int i t=>cases y; rfl
 | str s t=>cases y; rfl
 | tup q p =>
  rw [dep] at hn
  cases y with
  | tup q' p' =>
   obtain ⟨o1,q1,_,n1,d1⟩:=q
   obtain ⟨o2,q2,_,n2,d2⟩:=q'
   obtain rfl:=Option.some.inj (q1.symm.trans q2)
   rw [d1] at d2
   cases d2
   rw [DAts.inj (fun d hd e v a b=>ih _ (by have:=jb1 hd; lia) d e a b rfl) p p']
  | lst q' p' =>
   obtain ⟨o1,q1,c1,_⟩:=q
   obtain ⟨o2,n2,q2,c2,_⟩:=q'
   obtain rfl:=Option.some.inj (q1.symm.trans q2)
   rw [c1] at c2
   exact absurd c2 (by decide)
 | lst q p =>
  rw [dep] at hn
  cases y with
  | tup q' p' =>
   obtain ⟨o2,n2,q2,c2,_⟩:=q
   obtain ⟨o1,q1,c1,_⟩:=q'
   obtain rfl:=Option.some.inj (q1.symm.trans q2)
   rw [c1] at c2
   exact absurd c2 (by decide)
  | lst q' p' =>
   obtain ⟨o1,n1,q1,_,_,d1⟩:=q
   obtain ⟨o2,n2,q2,_,_,d2⟩:=q'
   obtain rfl:=Option.some.inj (q1.symm.trans q2)
   rw [d1] at d2
   cases d2
   rw [DAts.inj (fun d hd e v a b=>ih _ (by have:=jb1 hd; lia) d e a b rfl) p p']
open PySem.SeqAt
section
variable {s:Shared}
theorem j8 {h:Heap} {a:Addr} {items:Array Value} (x:IsTup h a items):h.IsTuple a items:=by
 obtain ⟨o,h1,h2,n,h3⟩:=x
 exact ⟨o,h1,h2,n,h3⟩
theorem ji8 {A:Around} {xs ys:List D} {its jts:Array Value} (pu:DAts s.heap xs its.toList) (pv:DAts s.heap ys jts.toList) (h:∀ (x y:D) (u v:Value),x ∈ xs -> y ∈ ys -> DAt s.heap x u -> DAt s.heap y v -> EqAt A s u v (eqD x y)):∀ j (h1:j < its.size) (h2:j < jts.size),EqAt A s its[j] jts[j] (eqD (xs.getD j .non) (ys.getD j .non)):=fun j h1 h2=>by
 obtain ⟨g1,m1⟩:=pu.get j (by rw [Array.length_toList]; exact h1)
 obtain ⟨g2,m2⟩:=pv.get j (by rw [Array.length_toList]; exact h2)
 rw [Array.getElem_toList] at g1 g2
 exact h _ _ _ _ m1 m2 g1 g2
theorem kb6 {xs ys:List D} {its jts:Array Value} (pu:DAts s.heap xs its.toList) (pv:DAts s.heap ys jts.toList):((List.range (min its.size jts.size)).all (fun j=>eqD (xs.getD j .non) (ys.getD j .non)) && (its.size == jts.size)) = eqDs xs ys:=by
 have lu:its.size = xs.length:=by rw [<- Array.length_toList]; exact pu.len
 have lv:jts.size = ys.length:=by rw [<- Array.length_toList]; exact pv.len
 by_cases hl:its.size = jts.size
 ·rw [<- hl,Nat.min_self,beq_self_eq_true,Bool.and_true,lu,<- kl6 (lu.symm.trans (hl.trans lv))]
 ·rw [beq_eq_false_iff_ne.mpr hl,Bool.and_false]
  exact (Bool.eq_false_iff.mpr fun z=>hl (by rw [lu,lv]; exact kk4 z)).symm
theorem qa2 {xs ys:List D} {its jts:Array Value} (pu:DAts s.heap xs its.toList) (pv:DAts s.heap ys jts.toList) (hl:its.size = jts.size):(List.range its.size).all (fun j=>eqD (xs.getD j .non) (ys.getD j .non)) = eqDs xs ys:=by
 rw [<- kb6 pu pv,<- hl,Nat.min_self,beq_self_eq_true,Bool.and_true]
theorem kv4 {xs ys:List D} {its jts:Array Value} (pu:DAts s.heap xs its.toList) (pv:DAts s.heap ys jts.toList) (hl:¬ its.size = jts.size):false = eqDs xs ys:=by
 rw [<- kb6 pu pv,beq_eq_false_iff_ne.mpr hl,Bool.and_false]
theorem qn6 {A:Around} {d e:D} {u v:Value} {n:Nat} (x:Vw s.heap d u) (y:Vw s.heap e v) (hr0:A.units < cLine) (hn:dep d = n) (fx:flat d = true) (fy:flat e = true)
  (ht:∀ {xs ys:List D} {a b:Addr} {its jts:Array Value},dep (.tup xs) = n -> Q0 xs = true -> Q0 ys = true -> IsTup s.heap a its -> DAts s.heap xs its.toList -> IsTup s.heap b jts -> DAts s.heap ys jts.toList -> EqAt A s (.ref a) (.ref b) (eqDs xs ys))
  (hl:∀ {xs ys:List D} {a b:Addr} {its jts:Array Value},dep (.lst xs) = n -> Q0 xs = true -> Q0 ys = true -> PlainL s.heap a its -> DAts s.heap xs its.toList -> PlainL s.heap b jts -> DAts s.heap ys jts.toList -> EqAt A s (.ref a) (.ref b) (eqDs xs ys)):EqAt A s u v (eqD d e):=by
 cases x with
 | non =>
  cases y with
  | non=>exact EqAt.same _
  | bl c=>exact EqAt.none_bool c
  | int j r=>exact EqAt.none_int j r
  | str y r=>exact EqAt.none_str y r
  | tup q' p'=>exact EqAt.none_tuple (j8 q') hr0
  | lst q' p'=>exact EqAt.none_list q'.isList hr0
 | bl b =>
  cases y with
  | non=>exact EqAt.bool_none b
  | bl c=>exact EqAt.bool_bool b c
  | int j r=>exact EqAt.bool_int b j r
  | str y r=>exact EqAt.bool_str b y r
  | tup q' p'=>exact EqAt.bool_tuple b (j8 q') hr0
  | lst q' p'=>exact EqAt.bool_list b q'.isList hr0
 | int i t =>
  cases y with
  | non=>exact EqAt.int_none i t
  | bl c=>exact EqAt.int_bool i t c
  | int j r=>exact EqAt.int_int i t j r
  | str y r=>exact EqAt.int_str i t y r
  | tup q' p'=>exact EqAt.int_tuple i t (j8 q') hr0
  | lst q' p'=>exact EqAt.int_list i t q'.isList hr0
 | str x t =>
  cases y with
  | non=>exact EqAt.str_none x t
  | bl c=>exact EqAt.str_bool x t c
  | int j r=>exact EqAt.str_int x t j r
  | str y r=>exact EqAt.str_str x t y r
  | tup q' p'=>exact EqAt.str_tuple x t (j8 q') hr0
  | lst q' p'=>exact EqAt.str_list x t q'.isList hr0
 | tup q p =>
  cases y with
  | non=>exact EqAt.tuple_none (j8 q) hr0
  | bl c=>exact EqAt.tuple_bool c (j8 q) hr0
  | int j r=>exact EqAt.tuple_int j r (j8 q) hr0
  | str y r=>exact EqAt.tuple_str y r (j8 q) hr0
  | tup q' p'=>exact ht hn (by rw [flat] at fx; exact fx) (by rw [flat] at fy; exact fy) q p q' p'
  | lst q' p'=>exact EqAt.tuple_list (j8 q) q'.isList hr0
 | lst q p =>
  cases y with
  | non=>exact EqAt.list_none q.isList hr0
  | bl c=>exact EqAt.list_bool c q.isList hr0
  | int j r=>exact EqAt.list_int j r q.isList hr0
  | str y r=>exact EqAt.list_str y r q.isList hr0
  | tup q' p'=>exact EqAt.list_tuple q.isList (j8 q') hr0
  | lst q' p'=>exact hl hn (by rw [flat] at fx; exact fx) (by rw [flat] at fy; exact fy) q p q' p'
theorem ju9 (d e:D) {A:Around} {u v:Value} (fx:flat d = true) (fy:flat e = true) (hu:DAt s.heap d u) (hv:DAt s.heap e v) (hr:A.units + dep d < cLine):EqAt A s u v (eqD d e):=by
 generalize hn:dep d = n at hr
 induction n using Nat.strongRecOn generalizing d e A u v with
 | ind n ih =>
 have hr0:A.units < cLine:=Nat.lt_of_le_of_lt (Nat.le_add_right _ _) hr
 refine qn6 (vw hu) (vw hv) hr0 hn fx fy (fun {xs ys a b its jts} hn fx fy q p q' p'=>?_) (fun {xs ys a b its jts} hn fx fy q p q' p'=>?_)
 ·by_cases hab:a = b
  ·subst hab
   have e:D.tup xs = D.tup ys:=DAt.inj (h:=s.heap) _ _ (v:=.ref a) (by rw [DAt]; exact ⟨a,its,rfl,q,p⟩) (by rw [DAt]; exact ⟨a,jts,rfl,q',p'⟩)
   obtain rfl:xs = ys:=by injection e
   rw [jh4 xs fx]
   exact EqAt.same _
  ·rw [<- kb6 p p']
   exact EqAt.of_refs hab (RcAt.tuples (j8 q) (j8 q') hr0 (ji8 p p' fun x y u v m1 m2 g1 g2=>ih _ (by rw [<- hn,dep]; have:=jb1 m1; lia) _ _ (Q2 fx m1) (Q2 fy m2) g1 g2 rfl (by show A.units + 1 + _ < _; rw [<- hn,dep] at hr; have:=jb1 m1; lia)))
 ·by_cases hab:a = b
  ·subst hab
   have e:D.lst xs = D.lst ys:=DAt.inj (h:=s.heap) _ _ (v:=.ref a) (by rw [DAt]; exact ⟨a,its,rfl,q,p⟩) (by rw [DAt]; exact ⟨a,jts,rfl,q',p'⟩)
   obtain rfl:xs = ys:=by injection e
   rw [jh4 xs fx]
   exact EqAt.same _
  ·refine EqAt.of_refs hab ?_
   by_cases hl:its.size = jts.size
   ·rw [<- qa2 p p' hl]
    exact RcAt.lists q.isList q'.isList hl hr0 (ji8 p p' fun x y u v m1 m2 g1 g2=>ih _ (by rw [<- hn,dep]; have:=jb1 m1; lia) _ _ (Q2 fx m1) (Q2 fy m2) g1 g2 rfl (by show A.units + 1 + _ < _; rw [<- hn,dep] at hr; have:=jb1 m1; lia))
   ·rw [<- kv4 p p' hl]
    exact RcAt.lists_lengths q.isList q'.isList (by simpa using hl) hr0
end
end Dm
end T_Dd
section T_Dl
namespace Dm
open PySem PyProof.Rows L2 HT
mutual
noncomputable def decD:(a b:D) -> Decidable (a = b)
 | .non,.non=>Decidable.isTrue rfl
 | .bl a,.bl b=>if h:a = b then Decidable.isTrue (by rw [h]) else Decidable.isFalse fun e=>h (by injection e)
 | .int a,.int b=>if h:a = b then Decidable.isTrue (by rw [h]) else Decidable.isFalse fun e=>h (by injection e)
 | .str a,.str b=>if h:a = b then Decidable.isTrue (by rw [h]) else Decidable.isFalse fun e=>h (by injection e)
 | .tup a,.tup b=>match qe4 a b with
  | Decidable.isTrue h=>Decidable.isTrue (by rw [h])
  | Decidable.isFalse h=>Decidable.isFalse fun e=>h (by injection e)
 | .lst a,.lst b=>match qe4 a b with
  | Decidable.isTrue h=>Decidable.isTrue (by rw [h])
  | Decidable.isFalse h=>Decidable.isFalse fun e=>h (by injection e)
 | .brd t a,.brd u b=>if ht:t = u then match qe4 a b with
  | Decidable.isTrue h=>Decidable.isTrue (by rw [h,ht])
  | Decidable.isFalse h=>Decidable.isFalse fun e=>h (by injection e)
  else Decidable.isFalse fun e=>ht (by injection e)
 | .non,.bl _=>Decidable.isFalse nofun | .non,.int _=>Decidable.isFalse nofun | .non,.str _=>Decidable.isFalse nofun | .non,.tup _=>Decidable.isFalse nofun | .non,.lst _=>Decidable.isFalse nofun | .non,.brd _ _=>Decidable.isFalse nofun
 | .bl _,.non=>Decidable.isFalse nofun | .bl _,.int _=>Decidable.isFalse nofun | .bl _,.str _=>Decidable.isFalse nofun | .bl _,.tup _=>Decidable.isFalse nofun | .bl _,.lst _=>Decidable.isFalse nofun | .bl _,.brd _ _=>Decidable.isFalse nofun
 | .int _,.non=>Decidable.isFalse nofun | .int _,.bl _=>Decidable.isFalse nofun | .int _,.str _=>Decidable.isFalse nofun | .int _,.tup _=>Decidable.isFalse nofun | .int _,.lst _=>Decidable.isFalse nofun | .int _,.brd _ _=>Decidable.isFalse nofun
 | .str _,.non=>Decidable.isFalse nofun | .str _,.bl _=>Decidable.isFalse nofun | .str _,.int _=>Decidable.isFalse nofun | .str _,.tup _=>Decidable.isFalse nofun | .str _,.lst _=>Decidable.isFalse nofun | .str _,.brd _ _=>Decidable.isFalse nofun
 | .tup _,.non=>Decidable.isFalse nofun | .tup _,.bl _=>Decidable.isFalse nofun | .tup _,.int _=>Decidable.isFalse nofun | .tup _,.str _=>Decidable.isFalse nofun | .tup _,.lst _=>Decidable.isFalse nofun | .tup _,.brd _ _=>Decidable.isFalse nofun
 | .lst _,.non=>Decidable.isFalse nofun | .lst _,.bl _=>Decidable.isFalse nofun | .lst _,.int _=>Decidable.isFalse nofun | .lst _,.str _=>Decidable.isFalse nofun | .lst _,.tup _=>Decidable.isFalse nofun | .lst _,.brd _ _=>Decidable.isFalse nofun
 | .brd _ _,.non=>Decidable.isFalse nofun | .brd _ _,.bl _=>Decidable.isFalse nofun | .brd _ _,.int _=>Decidable.isFalse nofun | .brd _ _,.str _=>Decidable.isFalse nofun | .brd _ _,.tup _=>Decidable.isFalse nofun | .brd _ _,.lst _=>Decidable.isFalse nofun
noncomputable def qe4:(a b:List D) -> Decidable (a = b)
 | [],[]=>Decidable.isTrue rfl
 | [],_ :: _=>Decidable.isFalse nofun
 | _ :: _,[]=>Decidable.isFalse nofun
 | a :: as,b :: bs=>match decD a b,qe4 as bs with
  | Decidable.isTrue h,Decidable.isTrue h'=>Decidable.isTrue (by rw [h,h'])
  | Decidable.isFalse h,_=>Decidable.isFalse fun e=>h (by injection e)
  | _,Decidable.isFalse h=>Decidable.isFalse fun e=>h (by injection e)
end
noncomputable instance:DecidableEq D:=decD
mutual
noncomputable def fl:D -> List Int
 | .int i=>[i]
 | .tup ds=>fls ds
 | .lst ds=>fls ds
 | _=>[]
noncomputable def fls:List D -> List Int
 | []=>[]
 | d :: ds=>fl d ++ fls ds
end
mutual
noncomputable def shp:D -> D -> Bool
 | .int _,.int _=>true
 | .tup xs,.tup ys=>shps xs ys
 | .lst xs,.lst ys=>shps xs ys
 | _,_=>false
noncomputable def shps:List D -> List D -> Bool
 | [],[]=>true
 | x :: xs,y :: ys=>shp x y && shps xs ys
 | _,_=>false
end
mutual
theorem jz0:∀ (x y:D),shp x y = true -> (fl x).length = (fl y).length
 | .int _,.int _,_=>rfl
 | .tup xs,.tup ys,h=>by rw [fl,fl]; exact jx2 xs ys (by rw [shp] at h; exact h)
 | .lst xs,.lst ys,h=>by rw [fl,fl]; exact jx2 xs ys (by rw [shp] at h; exact h)
 | .non,y,h=>by cases y <;> simp [shp] at h
 | .bl _,y,h=>by cases y <;> simp [shp] at h
 | .str _,y,h=>by cases y <;> simp [shp] at h
 | .brd _ _,y,h=>by cases y <;> simp [shp] at h
 | .int _,.non,h=>by simp [shp] at h
 | .int _,.bl _,h=>by simp [shp] at h
 | .int _,.str _,h=>by simp [shp] at h
 | .int _,.tup _,h=>by simp [shp] at h
 | .int _,.lst _,h=>by simp [shp] at h
 | .int _,.brd _ _,h=>by simp [shp] at h
 | .tup _,.non,h=>by simp [shp] at h
 | .tup _,.bl _,h=>by simp [shp] at h
 | .tup _,.str _,h=>by simp [shp] at h
 | .tup _,.int _,h=>by simp [shp] at h
 | .tup _,.lst _,h=>by simp [shp] at h
 | .tup _,.brd _ _,h=>by simp [shp] at h
 | .lst _,.non,h=>by simp [shp] at h
 | .lst _,.bl _,h=>by simp [shp] at h
 | .lst _,.str _,h=>by simp [shp] at h
 | .lst _,.int _,h=>by simp [shp] at h
 | .lst _,.tup _,h=>by simp [shp] at h
 | .lst _,.brd _ _,h=>by simp [shp] at h
theorem jx2:∀ (xs ys:List D),shps xs ys = true -> (fls xs).length = (fls ys).length
 | [],[],_=>rfl
 | [],_ :: _,h=>by simp [shps] at h
 | _ :: _,[],h=>by simp [shps] at h
 | x :: xs,y :: ys,h=>by
  rw [shps,Bool.and_eq_true] at h
  rw [fls,fls,List.length_append,List.length_append,jz0 x y h.1,jx2 xs ys h.2]
end
theorem W7 {x y:D} (h:shp x y = true):(∃ i j,x = .int i /\ y = .int j) \/ (∃ xs ys,x = .tup xs /\ y = .tup ys /\ shps xs ys = true) \/ (∃ xs ys,x = .lst xs /\ y = .lst ys /\ shps xs ys = true):=by
 cases x <;> cases y <;> simp [shp] at h
 ·exact .inl ⟨_,_,rfl,rfl⟩
 ·exact .inr (.inl ⟨_,_,rfl,rfl,h⟩)
 ·exact .inr (.inr ⟨_,_,rfl,rfl,h⟩)
mutual
theorem qa9:∀ (x y:D),shp x y = true -> fl x = fl y -> x = y
 | .int i,y,h,e=>by
  rcases W7 h with ⟨i',j,e1,rfl⟩ | ⟨_,_,e1,_⟩ | ⟨_,_,e1,_⟩
  ·rw [fl,fl] at e; injection e with e; rw [e]
  ·cases e1
  ·cases e1
 | .tup xs,y,h,e=>by
  rcases W7 h with ⟨_,_,e1,_⟩ | ⟨xs',ys,e1,rfl,q⟩ | ⟨_,_,e1,_⟩
  ·cases e1
  ·obtain rfl:xs = xs':=by injection e1
   rw [fl,fl] at e
   rw [jw9 xs ys q e]
  ·cases e1
 | .lst xs,y,h,e=>by
  rcases W7 h with ⟨_,_,e1,_⟩ | ⟨_,_,e1,_⟩ | ⟨xs',ys,e1,rfl,q⟩
  ·cases e1
  ·cases e1
  ·obtain rfl:xs = xs':=by injection e1
   rw [fl,fl] at e
   rw [jw9 xs ys q e]
 | .non,y,h,_=>by cases y <;> simp [shp] at h
 | .bl _,y,h,_=>by cases y <;> simp [shp] at h
 | .str _,y,h,_=>by cases y <;> simp [shp] at h
 | .brd _ _,y,h,_=>by cases y <;> simp [shp] at h
theorem jw9:∀ (xs ys:List D),shps xs ys = true -> fls xs = fls ys -> xs = ys
 | [],[],_,_=>rfl
 | [],_ :: _,h,_=>by simp [shps] at h
 | _ :: _,[],h,_=>by simp [shps] at h
 | x :: xs,y :: ys,h,e=>by
  rw [shps,Bool.and_eq_true] at h
  rw [fls,fls] at e
  obtain ⟨e1,e2⟩:=List.append_inj e (jz0 x y h.1)
  rw [qa9 x y h.1 e1,jw9 xs ys h.2 e2]
end
mutual
theorem jy8:∀ (x y:D),shp x y = true -> flat x = true /\ flat y = true
 | .int i,y,h=>by
  rcases W7 h with ⟨_,j,_,rfl⟩ | ⟨_,_,e1,_⟩ | ⟨_,_,e1,_⟩
  ·exact ⟨by rw [flat] <;> simp,by rw [flat] <;> simp⟩
  ·cases e1
  ·cases e1
 | .tup xs,y,h=>by
  rcases W7 h with ⟨_,_,e1,_⟩ | ⟨xs',ys,e1,rfl,q⟩ | ⟨_,_,e1,_⟩
  ·cases e1
  ·obtain rfl:xs = xs':=by injection e1
   rw [flat,flat]; exact jr4 xs ys q
  ·cases e1
 | .lst xs,y,h=>by
  rcases W7 h with ⟨_,_,e1,_⟩ | ⟨_,_,e1,_⟩ | ⟨xs',ys,e1,rfl,q⟩
  ·cases e1
  ·cases e1
  ·obtain rfl:xs = xs':=by injection e1
   rw [flat,flat]; exact jr4 xs ys q
 | .non,y,h=>by cases y <;> simp [shp] at h
 | .bl _,y,h=>by cases y <;> simp [shp] at h
 | .str _,y,h=>by cases y <;> simp [shp] at h
 | .brd _ _,y,h=>by cases y <;> simp [shp] at h
theorem jr4:∀ (xs ys:List D),shps xs ys = true -> Q0 xs = true /\ Q0 ys = true
 | [],[],_=>⟨by rw [Q0],by rw [Q0]⟩
 | [],_ :: _,h=>by simp [shps] at h
 | _ :: _,[],h=>by simp [shps] at h
 | x :: xs,y :: ys,h=>by
  rw [shps,Bool.and_eq_true] at h
  obtain ⟨a,b⟩:=jy8 x y h.1
  obtain ⟨c,d⟩:=jr4 xs ys h.2
  rw [Q0,Q0,a,b,c,d]; exact ⟨rfl,rfl⟩
end
mutual
theorem qj7:∀ (x y:D),shp x y = true -> eqD x y = decide (fl x = fl y)
 | .int i,y,h=>by
  rcases W7 h with ⟨_,j,_,rfl⟩ | ⟨_,_,e1,_⟩ | ⟨_,_,e1,_⟩
  ·rw [eqD,fl,fl]
   by_cases c:i = j
   ·subst c; simp
   ·simp [c]
  ·cases e1
  ·cases e1
 | .tup xs,y,h=>by
  rcases W7 h with ⟨_,_,e1,_⟩ | ⟨xs',ys,e1,rfl,q⟩ | ⟨_,_,e1,_⟩
  ·cases e1
  ·obtain rfl:xs = xs':=by injection e1
   rw [eqD,fl,fl]; exact kg9 xs ys q
  ·cases e1
 | .lst xs,y,h=>by
  rcases W7 h with ⟨_,_,e1,_⟩ | ⟨_,_,e1,_⟩ | ⟨xs',ys,e1,rfl,q⟩
  ·cases e1
  ·cases e1
  ·obtain rfl:xs = xs':=by injection e1
   rw [eqD,fl,fl]; exact kg9 xs ys q
 | .non,y,h=>by cases y <;> simp [shp] at h
 | .bl _,y,h=>by cases y <;> simp [shp] at h
 | .str _,y,h=>by cases y <;> simp [shp] at h
 | .brd _ _,y,h=>by cases y <;> simp [shp] at h
theorem kg9:∀ (xs ys:List D),shps xs ys = true -> eqDs xs ys = decide (fls xs = fls ys)
 | [],[],_=>by rw [eqDs]; simp [fls]
 | [],_ :: _,h=>by simp [shps] at h
 | _ :: _,[],h=>by simp [shps] at h
 | x :: xs,y :: ys,h=>by
  rw [shps,Bool.and_eq_true] at h
  rw [eqDs,qj7 x y h.1,kg9 xs ys h.2,fls,fls]
  have l:=jz0 x y h.1
  by_cases c1:fl x = fl y
  ·rw [c1]
   by_cases c2:fls xs = fls ys
   ·rw [c2]; simp
   ·simp [c2]
  ·have:¬ (fl x ++ fls xs = fl y ++ fls ys):=fun z=>c1 (List.append_inj z l).1
   simp [c1,this]
end
theorem kg2:∀ {a c b d:List Int},a.length = c.length -> U2 (a ++ b) (c ++ d) = if a = c then U2 b d else U2 a c
 | [],[],b,d,_=>by simp
 | x :: a,y :: c,b,d,h=>by
  rw [List.cons_append,List.cons_append,Q8,Q8,kg2 (a:=a) (c:=c) (by simpa using h)]
  by_cases e:x = y
  ·subst e
   by_cases e2:a = c
   ·subst e2; simp
   ·simp [e2]
  ·simp [e]
theorem jx9:∀ a:List Int,U2 a a = false
 | []=>rfl
 | x :: a=>by rw [Q8,if_pos rfl]; exact jx9 a
theorem kh3:∀ a b:List Int,U2 a b = false -> U2 b a = false -> a = b
 | [],[],_,_=>rfl
 | [],_ :: _,h,_=>by rw [jj7] at h; cases h
 | _ :: _,[],_,h=>by rw [jj7] at h; cases h
 | x :: a,y :: b,h1,h2=>by
  rw [Q8] at h1 h2
  by_cases e:x = y
  ·subst e
   rw [if_pos rfl] at h1 h2
   rw [kh3 a b h1 h2]
  ·rw [if_neg e] at h1
   rw [if_neg (fun z=>e z.symm)] at h2
   have:=of_decide_eq_false h1
   have:=of_decide_eq_false h2
   lia
theorem jk5:∀ a b c:List Int,U2 a b = true -> U2 b c = true -> U2 a c = true
 | [],[],_,h,_=>by rw [jb5] at h; cases h
 | [],_ :: _,[],_,h=>by rw [jd6] at h; cases h
 | [],_ :: _,_ :: _,_,_=>rfl
 | _ :: _,[],_,h,_=>by rw [jd6] at h; cases h
 | _ :: _,_ :: _,[],_,h=>by rw [jd6] at h; cases h
 | x :: a,y :: b,z :: c,h1,h2=>by
  rw [Q8] at h1 h2 ⊢
  by_cases e1:x = y
  ·subst e1
   rw [if_pos rfl] at h1
   by_cases e2:x = z
   ·subst e2
    rw [if_pos rfl] at h2 ⊢
    exact jk5 a b c h1 h2
   ·rw [if_neg e2] at h2 ⊢; exact h2
  ·rw [if_neg e1] at h1
   have k1:=of_decide_eq_true h1
   by_cases e2:y = z
   ·subst e2
    rw [if_neg e1]; exact h1
   ·rw [if_neg e2] at h2
    have k2:=of_decide_eq_true h2
    rw [if_neg (by lia)]
    exact decide_eq_true (by lia)
theorem qf2 (a b:List Int) (h:U2 a b = true):U2 b a = false:=by
 cases q:U2 b a with
 | false=>rfl
 | true=>have:=jk5 a b a h q; rw [jx9] at this; cases this
noncomputable def leL (a b:List Int):Bool:=!U2 b a
theorem qb4 (a b:List Int):(leL a b || leL b a) = true:=by
 unfold leL
 cases q:U2 b a with
 | false=>rfl
 | true=>rw [qf2 b a q]; rfl
theorem kb0 (a b c:List Int) (h1:leL a b = true) (h2:leL b c = true):leL a c = true:=by
 unfold leL at h1 h2 ⊢
 have h1:U2 b a = false:=by simpa using h1
 have h2:U2 c b = false:=by simpa using h2
 cases q:U2 c a with
 | false=>rfl
 | true =>
  by_cases e:a = b
  ·subst e; rw [h2] at q; cases q
  ·have:U2 a b = true:=by
    cases z:U2 a b with
    | true=>rfl
    | false=>exact absurd (kh3 a b z h1) e
   have:=jk5 c a b q this
   rw [h2] at this; cases this
theorem qh2 (a b:List Int) (h1:leL a b = true) (h2:leL b a = true):a = b:=kh3 a b (by simpa [leL] using h2) (by simpa [leL] using h1)
noncomputable def jc4 (ds:List D):List D:=ds.mergeSort fun a b=>leL (fl a) (fl b)
theorem W0 (ds:List D):(jc4 ds).Perm ds:=List.mergeSort_perm _ _
theorem jo8 (ds:List D):(jc4 ds).Pairwise fun a b=>leL (fl a) (fl b) = true :=
 List.pairwise_mergeSort (le:=fun a b=>leL (fl a) (fl b)) (fun a b c=>kb0 (fl a) (fl b) (fl c)) (fun a b=>qb4 (fl a) (fl b)) ds
theorem Z0 {ds es:List D} (hs:∀ a ∈ ds,∀ b ∈ ds,shp a b = true) (hp:es.Perm ds) (hw:es.Pairwise fun a b=>leL (fl a) (fl b) = true):es = jc4 ds:=by
 refine List.Perm.eq_of_pairwise (le:=fun a b=>leL (fl a) (fl b) = true) (fun a b ha hb h1 h2=>?_) hw (jo8 ds) (hp.trans (W0 ds).symm)
 exact qa9 a b (hs a (hp.mem_iff.mp ha) b ((W0 ds).mem_iff.mp hb)) (qh2 _ _ h1 h2)
end Dm
end T_Dl
section T_Dm2
namespace Dm
open PySem PyProof.Rows L2 HT PySem.SeqAt
noncomputable def LtAt (A:Around) (s:Shared) (u v:Value) (b:Bool):Prop :=
 ∀ (prog:Program) (w:World) (E:Value -> Shared -> Prop) (Q:Value -> Shared -> Prop),Q (.bool b) s -> wpAny (model prog w) A (richCompare .Lt u v) Q E s
inductive PL (A:Around) (s:Shared):List Value -> List Value -> List D -> List D -> Prop
 | nil:PL A s [] [] [] []
 | cons {v w:Value} {x y:D} {vs ws:List Value} {xs ys:List D}:EqAt A s v w (decide (fl x = fl y)) -> LtAt A s v w (U2 (fl x) (fl y)) -> (fl x).length = (fl y).length -> PL A s vs ws xs ys -> PL A s (v :: vs) (w :: ws) (x :: xs) (y :: ys)
theorem PL.len {A:Around} {s:Shared} {vs ws:List Value} {xs ys:List D} (h:PL A s vs ws xs ys):vs.length = ws.length:=by
 induction h with
 | nil=>rfl
 | cons _ _ _ _ ih=>rw [List.length_cons,List.length_cons,ih]
section
open PySem.AutoSeq1 (wpAny_loadPart')
open PySem.MeetsSeq PySem.MeetsSeq2 PySem.MeetsSeq3
theorem ko6 (l b:Addr) (items items2:Array Value) (n n2:Nat) (dd dd2:Option Addr) (sl sl2:Array (Option Value)) (xs ys:List D) :
  Meets (Builtin.«tuple.__lt__» ⟨[.ref l,.ref b],[]⟩) (fun A R s =>
   s.heap.get? l = some { cls:=.type "tuple",dict:=dd,data:=.seq items n,slots:=sl } /\
   s.heap.get? b = some { cls:=.type "tuple",dict:=dd2,data:=.seq items2 n2,slots:=sl2 } /\
   PL A.in1 s items.toList items2.toList xs ys /\ R (.ok (.ret (.bool (U2 (fls xs) (fls ys))))) s) :=
 .of_wp fun prog w A R s h=>by
  obtain ⟨hp,g,d,tk,os⟩:=s
  obtain ⟨hl,hb,hP,h⟩:=h
  have f2:=AutoSeq1.sub_tuple_tuple
  have lens:items.size = items2.size:=by simpa using hP.len
  wp_walk using wpAny_loadPart' hl,wpAny_loadPart' hb,wpAny_forIn_list _ (fun rest b s'=>b.1 = none /\ s' = ⟨hp,g,d,tk,os⟩ /\ ∃ (vs ws:List Value) (xs' ys':List D),rest = vs.zip ws /\
   PL A.in1 ⟨hp,g,d,tk,os⟩ vs ws xs' ys' /\ R (.ok (.ret (.bool (U2 (fls xs') (fls ys'))))) ⟨hp,g,d,tk,os⟩) _
  case turn =>
   rintro ⟨y,x⟩ rest b s' ⟨hb',rfl,vs,ws,xs',ys',hz,hP',hR⟩
   cases hP' with
   | nil=>cases hz
   | @cons v0 w0 x0 y0 _ _ _ _ he hlt hfl hP'' =>
    rw [List.zip_cons_cons] at hz
    injection hz with hyx hrest
    injection hyx with hy hx
    subst hy hx
    rw [fls,fls,kg2 hfl] at hR
    refine wpAny_bind (he prog w _ _ ?_)
    by_cases c:fl x0 = fl y0
    ·rw [if_pos c] at hR
     rw [decide_eq_true c]
     wp_walk
     exact ⟨rfl,rfl,_,_,_,_,hrest,hP'',hR⟩
    ·rw [if_neg c] at hR
     rw [decide_eq_false c]
     have hri:=hlt prog w
     wp_walk using hri
     exact ⟨_,rfl,by simpa using hR⟩
  case fin =>
   rintro ⟨b1,b2⟩ s' ⟨hb',rfl,vs,ws,xs',ys',hz,hP',hR⟩
   simp only at hb'
   subst hb'
   cases hP' with
   | cons _ _ _ _=>cases hz
   | nil =>
    wp_walk
    refine ⟨_,rfl,?_⟩
    simpa [Builtin.Tuple.tupleCompareSizes,lens,fls,jb5] using hR
  case h=>exact ⟨rfl,rfl,items.toList,items2.toList,xs,ys,rfl,hP,h⟩
end
mutual
noncomputable def nl:D -> Bool
 | .lst _=>false
 | .tup ds=>nls ds
 | _=>true
noncomputable def nls:List D -> Bool
 | []=>true
 | d :: ds=>nl d && nls ds
end
section
variable {s:Shared}
mutual
theorem qu9:∀ (x y:D) {A:Around} {u v:Value},shp x y = true -> nl x = true -> DAt s.heap x u -> DAt s.heap y v -> A.units + dep x < cLine -> LtAt A s u v (U2 (fl x) (fl y))
 | .int i,y,A,u,v,h,_,hu,hv,_=>by
  rcases W7 h with ⟨_,j,_,rfl⟩ | ⟨_,_,e1,_⟩ | ⟨_,_,e1,_⟩
  ·rw [DAt] at hu
   rw [DAt] at hv
   obtain ⟨t,rfl⟩:=hu
   obtain ⟨t',rfl⟩:=hv
   intro prog w E Q hq
   refine qe1 A s i t j t' prog w E Q ?_
   rw [fl,fl,Q8,jb5] at hq
   by_cases c:i = j
   ·rw [if_pos c] at hq
    rw [decide_eq_false (by lia)]; exact hq
   ·rw [if_neg c] at hq; exact hq
  ·cases e1
  ·cases e1
 | .tup xs,y,A,u,v,h,hn,hu,hv,hr=>by
  rcases W7 h with ⟨_,_,e1,_⟩ | ⟨xs',ys,e1,rfl,q⟩ | ⟨_,_,e1,_⟩
  ·cases e1
  ·obtain rfl:xs = xs':=by injection e1
   rw [DAt] at hu
   rw [DAt] at hv
   refine x2_3 hu fun a it zo2 t1 p1=>?_
   clear hu
   obtain rfl:=zo2
   refine x2_3 hv fun b it2 zo2 t2 p2=>?_
   clear hv
   obtain rfl:=zo2
   rw [dep] at hr
   rw [nl] at hn
   obtain ⟨⟨cls,dd,data,sl⟩,ho,hc,n,hd⟩:=id t1
   obtain ⟨⟨cls2,dd2,data2,sl2⟩,ho2,hc2,n2,hd2⟩:=id t2
   simp only at hc hd hc2 hd2
   subst hc hd hc2 hd2
   intro prog w E Q hq
   rw [fl,fl] at hq
   exact richCompare_meets_room (op:=.Lt) ⟨_,ho,rfl⟩ ⟨_,ho2,rfl⟩ PySem.F.slot_tuple_lt PySem.F.entry_tuple_lt (PySem.F.args_tuple_lt_2 _ _) (ko6 a b it it2 n n2 dd dd2 sl sl2 xs ys)
    ⟨ho,ho2,pl_D xs ys q hn p1 p2 (A:=A.in1) (by show A.units + 1 + _ < _; lia),show Value.bool (U2 (fls xs) (fls ys)) ≠ Value.notImplemented /\ Q _ s from ⟨(fun x=>nomatch x),hq⟩⟩ (by lia)
  ·cases e1
 | .lst xs,y,A,u,v,h,hn,_,_,_=>by rw [nl] at hn; cases hn
 | .non,y,_,_,_,h,_,_,_,_=>by cases y <;> simp [shp] at h
 | .bl _,y,_,_,_,h,_,_,_,_=>by cases y <;> simp [shp] at h
 | .str _,y,_,_,_,h,_,_,_,_=>by cases y <;> simp [shp] at h
 | .brd _ _,y,_,_,_,h,_,_,_,_=>by cases y <;> simp [shp] at h
theorem pl_D:∀ (xs ys:List D) {A:Around} {vs ws:List Value},shps xs ys = true -> nls xs = true -> DAts s.heap xs vs -> DAts s.heap ys ws -> A.units + deps xs < cLine -> PL A s vs ws xs ys
 | [],[],A,vs,ws,_,_,h1,h2,_=>by rw [DAts] at h1 h2; subst h1; subst h2; exact .nil
 | [],_ :: _,_,_,_,h,_,_,_,_=>by simp [shps] at h
 | _ :: _,[],_,_,_,h,_,_,_,_=>by simp [shps] at h
 | x :: xs,y :: ys,A,vs,ws,h,hn,h1,h2,hr=>by
  rw [DAts] at h1
  rw [DAts] at h2
  refine x2_3 h1 fun v r zo2 a1 a2=>?_
  clear h1
  obtain rfl:=zo2
  refine x2_3 h2 fun v' r' zo2 b1 b2=>?_
  clear h2
  obtain rfl:=zo2
  rw [shps,Bool.and_eq_true] at h
  rw [nls,Bool.and_eq_true] at hn
  rw [deps] at hr
  obtain ⟨f1,f2⟩:=jy8 x y h.1
  refine .cons ?_ (qu9 x y h.1 hn.1 a1 b1 (by lia)) (jz0 x y h.1) (pl_D xs ys h.2 hn.2 a2 b2 (by lia))
  rw [<- qj7 x y h.1]
  exact ju9 x y f1 f2 a1 b1 (by lia)
end
end
end Dm
end T_Dm2
section T_Dm3
namespace Dm
open PySem PySem.W PyProof.Rows L2 HT PySem.SeqAt So
mutual
theorem DAt.keep {h h':Heap} (k:∀ b o,h.get? b = some o -> h'.get? b = some o):∀ (d:D) {v:Value},DAt h d v -> DAt h' d v
 | .non,v,q=>by rw [DAt] at q ⊢; exact q
 | .bl b,v,q=>by rw [DAt] at q ⊢; exact q
 | .int i,v,q=>by rw [DAt] at q ⊢; exact q
 | .str x,v,q=>by rw [DAt] at q ⊢; exact q
 | .tup ds,v,q=>by
  rw [DAt] at q ⊢
  refine x2_3 q fun a it e t p=>?_
  clear q
  exact ⟨a,it,e,t.keeps k,DAts.keep k ds p⟩
 | .lst ds,v,q=>by
  rw [DAt] at q ⊢
  refine x2_3 q fun a it e t p=>?_
  clear q
  exact ⟨a,it,e,t.keeps k,DAts.keep k ds p⟩
 | .brd tb ds,v,q=>by rw [DAt] at q; exact q.elim
theorem DAts.keep {h h':Heap} (k:∀ b o,h.get? b = some o -> h'.get? b = some o):∀ (ds:List D) {vs:List Value},DAts h ds vs -> DAts h' ds vs
 | [],_,q=>by rw [DAts] at q ⊢; exact q
 | d :: ds,_,q=>by
  rw [DAts] at q ⊢
  refine x2_3 q fun v r e a b=>?_
  clear q
  exact ⟨v,r,e,DAt.keep k d a,DAts.keep k ds b⟩
end
theorem DAts.of_map {h:Heap} {α:Type} (f:α -> D) (g:α -> Value):∀ (l:List α),(∀ x ∈ l,DAt h (f x) (g x)) -> DAts h (l.map f) (l.map g)
 | [],_=>by rw [List.map_nil,DAts]; rfl
 | x :: l,hx=>by
  rw [List.map_cons,List.map_cons,DAts]
  exact ⟨_,_,rfl,hx x (.head _),DAts.of_map f g l fun y hy=>hx y (.tail _ hy)⟩
theorem ku8 {α:Type} {p q:α -> Bool}:∀ (l:List α),(∀ x ∈ l,p x = true -> q x = true) -> l.countP p <= l.countP q
 | [],_=>Nat.le_refl _
 | x :: l,h=>by
  rw [List.countP_cons,List.countP_cons]
  have ih:=ku8 l fun y hy=>h y (.tail _ hy)
  by_cases c:p x = true
  ·rw [if_pos c,if_pos (h x (.head _) c)]; lia
  ·rw [if_neg c]; lia
theorem ql1 {α:Type} {p q:α -> Bool}:∀ (l:List α),(∀ x ∈ l,p x = true -> q x = true) -> ∀ z ∈ l,q z = true -> p z = false -> l.countP p < l.countP q
 | x :: l,h,z,hz,hq,hp=>by
  rw [List.countP_cons,List.countP_cons]
  rcases List.mem_cons.mp hz with e | e
  ·subst e
   rw [if_neg (by rw [hp]; exact Bool.false_ne_true),if_pos hq]
   have:=ku8 l fun y hy=>h y (.tail _ hy)
   lia
  ·have ih:=ql1 l (fun y hy=>h y (.tail _ hy)) z e hq hp
   by_cases c:p x = true
   ·rw [if_pos c,if_pos (h x (.head _) c)]; lia
   ·rw [if_neg c]; lia
noncomputable def rk (ds:List D) (i:Nat):Nat:=(List.range ds.length).countP fun j=>U2 (fl (ds.getD j .non)) (fl (ds.getD i .non))
theorem va5 (ds:List D) {i j:Nat} (hi:i < ds.length):U2 (fl (ds.getD i .non)) (fl (ds.getD j .non)) = decide (rk ds i < rk ds j):=by
 cases q:U2 (fl (ds.getD i .non)) (fl (ds.getD j .non)) with
 | true =>
  refine (decide_eq_true ?_).symm
  exact ql1 _ (fun k _ hk=>jk5 _ _ _ hk q) i (List.mem_range.mpr hi) q (jx9 _)
 | false =>
  refine (decide_eq_false (Nat.not_lt.mpr ?_)).symm
  refine ku8 _ fun k _ hk=>?_
  cases z:U2 (fl (ds.getD k .non)) (fl (ds.getD i .non)) with
  | true=>rfl
  | false =>
   have a:leL (fl (ds.getD i .non)) (fl (ds.getD k .non)) = true:=by unfold leL; rw [z]; rfl
   have b:leL (fl (ds.getD j .non)) (fl (ds.getD i .non)) = true:=by unfold leL; rw [q]; rfl
   have c:=kb0 _ _ _ b a
   unfold leL at c
   rw [hk] at c
   cases c
theorem kr4 {α:Type} (ds:List α) (z:α):(List.range ds.length).map (fun i=>ds.getD i z) = ds:=by
 refine List.ext_getElem (by simp) fun i h1 h2=>?_
 simp at h1
 simp [h1]
theorem qg3 {ds:List D} (hs:∀ a ∈ ds,∀ b ∈ ds,shp a b = true) {p:Array Nat} (hp:p.Perm (List.range ds.length).toArray) (hu:Up (rk ds) p ds.length):p.toList.map (fun i=>ds.getD i .non) = jc4 ds:=by
 have pm:p.toList.Perm (List.range ds.length):=by
  have:=Array.perm_iff_toList_perm.mp hp
  simpa using this
 refine Z0 hs ?_ ?_
 ·have:=pm.map fun i=>ds.getD i D.non
  rw [kr4] at this
  exact this
 ·rw [List.pairwise_map,List.pairwise_iff_getElem]
  intro i j hi hj hij
  have sz:p.toList.length = ds.length:=by rw [pm.length_eq,List.length_range]
  have u:=hu i j (Nat.le_of_lt hij) (by lia)
  have e:∀ k (hk:k < p.toList.length),vl (rk ds) p k = rk ds p.toList[k]:=fun k hk=>by
   unfold vl
   have:k < p.size:=by rw [<- Array.length_toList]; exact hk
   simp [Array.getD,this]
  rw [e i hi,e j hj] at u
  unfold leL
  rw [va5 ds (i:=p.toList[j])]
  ·rw [decide_eq_false (by lia)]; rfl
  ·have:=pm.mem_iff.mp (List.getElem_mem hj)
   exact List.mem_range.mp this
inductive Sk:List D -> SortKind -> Prop
 | few {ds:List D} {kd:SortKind}:ds.length < 2 -> Sk ds kd
 | nums {ds:List D}:(∀ d ∈ ds,∃ i,d = .int i) -> Sk ds oneType'
 | tups {ds:List D}:(∀ d ∈ ds,∃ i xs,d = .tup (.int i :: xs)) -> Sk ds (tuples' true)
 | tupt {ds:List D}:(∀ d ∈ ds,∃ ys xs,d = .tup (.tup ys :: xs)) -> Sk ds (tuples' false)
section
variable {prog:Program} {w:World} {A:Around} {E:Value -> Shared -> Prop} {s:Shared}
theorem kh1 (i j:Int):U2 [i] [j] = decide (i < j):=by
 rw [Q8,jb5]
 by_cases c:i = j
 ·rw [if_pos c,decide_eq_false (by lia)]
 ·rw [if_neg c]
theorem kk7 {b fin:Bool} {Q:Bool -> Shared -> Prop}:∀ (xs ys:List D) (vs ws:List Value) (i:Nat),(b = true -> i = 0 -> ∃ m n xs' ys',xs = .int m :: xs' /\ ys = .int n :: ys') -> shps xs ys = true -> PL A s vs ws xs ys -> DAts s.heap xs vs -> DAts s.heap ys ws -> fin = false -> Q (U2 (fls xs) (fls ys)) s ->
  KatLex prog w A b fin Q (vs.zip ws) i s
 | [],[],vs,ws,i,_,_,hP,h1,h2,hf,hq=>by
  rw [DAts] at h1 h2
  subst h1; subst h2
  show Q fin s
  rw [hf]
  exact hq
 | [],_ :: _,_,_,_,_,h,_,_,_,_,_=>by simp [shps] at h
 | _ :: _,[],_,_,_,_,h,_,_,_,_,_=>by simp [shps] at h
 | x :: xs,y :: ys,vs,ws,i,hb,h,hP,h1,h2,hf,hq=>by
  rw [DAts] at h1
  rw [DAts] at h2
  refine x2_3 h1 fun v r zo2 a1 a2=>?_
  clear h1
  obtain rfl:=zo2
  refine x2_3 h2 fun v' r' zo2 b1 b2=>?_
  clear h2
  obtain rfl:=zo2
  rw [shps,Bool.and_eq_true] at h
  cases hP with
  | cons he hl hfl hP' =>
   rw [fls,fls,kg2 hfl] at hq
   refine kat_cons (he prog w _ _ (kat_go (fun c=>kat_yes ?_) (fun c=>kat_no ?_)))
   ·have c:=of_decide_eq_true c
    rw [if_pos c] at hq
    exact kk7 xs ys r r' (i + 1) (fun _ z=>absurd z (Nat.succ_ne_zero _)) h.2 hP' a2 b2 hf hq
   ·have c:=of_decide_eq_false c
    rw [if_neg c] at hq
    by_cases hb':b = true /\ i = 0
    ·obtain ⟨hb1,hb2⟩:=hb'
     refine x4_2 (hb hb1 hb2) fun m n _ _ e1 e2=>?_
     obtain ⟨rfl,_⟩ : x = .int m /\ _:=List.cons.inj e1
     obtain ⟨rfl,_⟩ : y = .int n /\ _:=List.cons.inj e2
     rw [DAt] at a1
     rw [DAt] at b1
     obtain ⟨t,rfl⟩:=a1
     obtain ⟨t',rfl⟩:=b1
     rw [hb1,hb2]
     refine oneLt_int ?_
     rw [fl,fl,kh1] at hq
     exact hq
    ·have:(b && i == 0) = false:=by
      cases b with
      | false=>rfl
      | true =>
       have:i ≠ 0:=fun z=>hb' ⟨rfl,z⟩
       simp [this]
     rw [this]
     exact kat_one _ _ (hl prog w _ _ (show PySem.W.BoolBack Q (.bool (U2 (fl x) (fl y))) s from hq))
theorem jp6 {h:Heap} {ds:List D} {vs:List Value} (p:DAts h ds vs) {i:Nat} (hi:i < ds.length):DAt h (ds.getD i .non) (vs.getD i Value.none) /\ ds.getD i .non ∈ ds:=by
 have hv:i < vs.length:=by rw [p.len]; exact hi
 obtain ⟨a,b⟩:=p.get i hv
 have e:vs.getD i Value.none = vs[i]:=by simp [hv]
 rw [e]
 exact ⟨a,b⟩
theorem vb3 {ds:List D} {kd:SortKind} {vs:List Value} {i j:Nat} {C:Bool -> Shared -> Prop} (k:Sk ds kd) (h2:2 <= ds.length) (hs:∀ a ∈ ds,∀ b ∈ ds,shp a b = true) (hn:∀ a ∈ ds,nl a = true) (hd:∀ a ∈ ds,A.units + dep a < cLine) (p:DAts s.heap ds vs)
  (hi:i < ds.length) (hj:j < ds.length) (hc:C (decide (rk ds i < rk ds j)) s):wpAny (model prog w) A (keyLt' kd (vs.getD i Value.none) (vs.getD j Value.none)) C (fun _ _=>False) s:=by
 rw [<- va5 ds hi] at hc
 obtain ⟨ai,mi⟩:=jp6 p hi
 obtain ⟨aj,mj⟩:=jp6 p hj
 generalize ds.getD i .non = x at hc ai mi
 generalize ds.getD j .non = y at hc aj mj
 have tup:∀ {b:Bool} {xs ys:List D},x = .tup xs -> y = .tup ys -> (b = true -> ∃ m n xs' ys',xs = .int m :: xs' /\ ys = .int n :: ys') -> wpAny (model prog w) A (keyLt' (tuples' b) (vs.getD i Value.none) (vs.getD j Value.none)) C (fun _ _=>False) s:=by
  intro b xs ys ex ey hb
  have sh:=hs x mi y mj
  have nx:=hn x mi
  have dx:=hd x mi
  subst ex; subst ey
  rw [shp] at sh
  rw [nl] at nx
  rw [dep] at dx
  rw [DAt] at ai
  rw [DAt] at aj
  refine x2_3 ai fun a it e1 zo3 p1=>?_
  clear ai
  obtain ⟨o1,q1,_,n1,d1⟩:=zo3
  refine x2_3 aj fun b' it2 e2 zo3 p2=>?_
  clear aj
  obtain ⟨o2,q2,_,n2,d2⟩:=zo3
  rw [e1,e2]
  have P:=pl_D xs ys (A:=A) sh nx p1 p2 (by lia)
  refine kat_lt q1 d1 q2 d2 (kk7 xs ys _ _ 0 (fun h _=>hb h) sh P p1 p2 (decide_eq_false ?_) ?_)
  ·have:it.toList.length = it2.toList.length:=P.len
   simp at this
   lia
  ·rw [fl,fl] at hc
   exact hc
 cases k with
 | few h=>lia
 | nums h =>
  obtain ⟨m,rfl⟩:=h x mi
  obtain ⟨n,rfl⟩:=h y mj
  rw [DAt] at ai
  rw [DAt] at aj
  obtain ⟨t,e1⟩:=ai
  obtain ⟨t',e2⟩:=aj
  rw [e1,e2,keyLt'_oneType]
  refine oneLt_int ?_
  rw [fl,fl,kh1] at hc
  exact hc
 | tups h =>
  refine x2_1 (h x mi) fun m xs e1=>?_
  refine x2_1 (h y mj) fun n ys e2=>?_
  exact tup e1 e2 fun _=>⟨m,n,xs,ys,rfl,rfl⟩
 | tupt h =>
  refine x2_1 (h x mi) fun m xs e1=>?_
  refine x2_1 (h y mj) fun n ys e2=>?_
  exact tup e1 e2 fun z=>nomatch z
theorem kh8 {h:Heap}:∀ {ds:List D} {vs:List Value} (f:D -> Prop),(∀ d ∈ ds,∃ x xs,d = .tup (x :: xs) /\ f x) -> DAts h ds vs -> ∃ fs:List Value,fs.length = ds.length /\ KatTups h vs fs /\ ∀ v ∈ fs,∃ x,f x /\ DAt h x v
 | [],vs,f,_,p=>by
  rw [DAts] at p; subst p
  exact ⟨[],rfl,.nil,fun v hv=>absurd hv (by simp)⟩
 | d :: ds,vs,f,hd,p=>by
  rw [DAts] at p
  refine x2_3 p fun v r zo2 a b=>?_
  clear p
  obtain rfl:=zo2
  refine x1_3 (kh8 f (fun d hd'=>hd d (.tail _ hd')) b) fun fs l k e=>?_
  refine x2_2 (hd d (.head _)) fun x xs zo2 fx=>?_
  obtain rfl:=zo2
  rw [DAt] at a
  refine x2_3 a fun ad it zo2 zo3 p1=>?_
  clear a
  obtain rfl:=zo2
  obtain ⟨o1,q1,c1,n1,d1⟩:=zo3
  rw [DAts] at p1
  refine x2_3 p1 fun y r' e1 a1 _=>?_
  clear p1
  refine ⟨y :: fs,by rw [List.length_cons,List.length_cons,l],.cons q1 c1 d1 ?_ k,fun z hz=>?_⟩
  ·rw [<- Array.getElem?_toList,e1]; rfl
  ·rcases List.mem_cons.mp hz with rfl | hz
   ·exact ⟨x,fx,a1⟩
   ·exact e z hz
theorem qf7 {ds:List D} {kd:SortKind} {vs:List Value} {Q:SortKind -> Shared -> Prop} (k:Sk ds kd) (h2:2 <= ds.length) (p:DAts s.heap ds vs) (hq:Q kd s):wpAny (model prog w) A (keyKind' vs.toArray) Q E s:=by
 cases k with
 | few h=>lia
 | nums h =>
  refine kas_kind (T:=.type "int") (by rw [p.len]; exact h2) (fun v hv=>?_) (by decide) (by decide) hq
  obtain ⟨i,hi,e⟩:=List.mem_iff_getElem.mp hv
  obtain ⟨a,b⟩:=p.get i hi
  obtain ⟨m,em⟩:=h _ b
  rw [em,DAt] at a
  obtain ⟨t,et⟩:=a
  rw [<- e,et]
  exact Looks.now
 | tups h =>
  obtain ⟨fs,l,kt,e⟩:=kh8 (fun x=>∃ i,x = .int i) (fun d hd=>by obtain ⟨i,xs,e⟩:=h d hd; exact ⟨_,xs,e,i,rfl⟩) p
  refine kat_kind (T:=.type "int") kt (by lia) (fun v hv=>?_) (by decide) hq
  refine x1_2 (e v hv) fun x zo1 q=>?_
  obtain ⟨i,rfl⟩:=zo1
  rw [DAt] at q
  obtain ⟨t,rfl⟩:=q
  exact Looks.now
 | tupt h =>
  obtain ⟨fs,l,kt,e⟩:=kh8 (fun x=>∃ ys,x = .tup ys) (fun d hd=>by obtain ⟨ys,xs,e⟩:=h d hd; exact ⟨_,xs,e,ys,rfl⟩) p
  refine kat_kind (T:=.type "tuple") kt (by lia) (fun v hv=>?_) (by decide) hq
  refine x1_2 (e v hv) fun x zo1 q=>?_
  obtain ⟨ys,rfl⟩:=zo1
  rw [DAt] at q
  refine x2_3 q fun a it zo2 zo3 _=>?_
  clear q
  obtain rfl:=zo2
  obtain ⟨o1,q1,c1,_⟩:=zo3
  have lk:Looks (model prog w) s.heap (typeOf (.ref a)) o1.cls:=(Looks.ld q1).andThen .now
  rw [c1] at lk
  exact lk
theorem jr7 {v:Value} {Pd:List D -> SortKind -> List Value -> Prop} {Q:Value -> Shared -> Prop}
  (hk:∀ es kd vs,Pd es kd vs -> Sk es kd /\ es.length < 64 /\ (∀ a ∈ es,∀ b ∈ es,shp a b = true) /\ (∀ a ∈ es,nl a = true) /\ ∀ a ∈ es,A.units + 2 + dep a < cLine)
  (hcol:∀ R:List Value -> Shared -> Prop,(∀ h' tk es kd vs,(∀ b ob,s.heap.get? b = some ob -> h'.get? b = some ob) -> Pd es kd vs -> DAts h' es vs -> R vs { s with heap:=h',toks:=tk }) -> wpAny (model prog w) A.in1 (collect v) R E s)
  (h:∀ (h1 h':Heap) tk es kd vs L n (pm:List Nat),(∀ b ob,s.heap.get? b = some ob -> h1.get? b = some ob) -> (∀ b ob,h1.get? b = some ob -> h'.get? b = some ob) -> Pd es kd vs -> DAts h1 es vs -> h1.objs.size <= L -> (∀ i ∈ pm,i < es.length) -> jc4 es = pm.map (fun i=>es.getD i .non) ->
   h'.get? L = some (seqObj "list" (pm.map fun i=>vs.getD i Value.none).toArray n) -> Q (.ref L) { s with heap:=h',toks:=tk }) :
  wpAny (model prog w) A (call (.builtin "sorted") [v]) Q E s:=by
 refine Calls.call_function_entry kind_sorted plain_sorted entry_sorted (args_sorted1 _) ?_
 unfold Builtin.«sorted»
 refine wpAny_bind (m:=checkCount "sorted" 1 1 _) (wpAny_pure ?_)
 refine wpAny_bind (hcol _ fun h1 tk es kd vs k1 pd p=>?_)
 refine x0_5 (hk es kd vs pd) fun sk l64 hs hn hd=>?_
 have lv:vs.length = es.length:=p.len
 have big:64 <= sizeLine:=by rw [sizeLine_eq]; decide
 refine wpAny_bind (wpAny_newList ?_ (by lia))
 have oL:(h1.push (seqObj "list" vs.toArray 0)).get? h1.objs.size = some (seqObj "list" vs.toArray 0):=Heap.get?_push_size _ rfl
 have nk:∀ h',qb2 h1.objs.size (h1.push (seqObj "list" vs.toArray 0)) h' -> ∀ b ob,h1.get? b = some ob -> h'.get? b = some ob:=fun h' kh b ob e=>kh b ob (Nat.ne_of_lt (Heap.lt_size e)) (Heap.get?_push_of_some _ e)
 refine wpAny_bind (wpAny_holding (wpAny_call_entry slot_list_sort ⟨_,oL,rfl⟩ entry_list_sort ?body (args_list_sort _)))
 case body =>
  refine ke4 (kd:=kd) (r:=rk es) (s:={ s with heap:=h1.push (seqObj "list" vs.toArray 0),toks:=tk }) oL (by lia) (fun h2 h' R kh hR=>qf7 sk (by lia) (p.keep (nk h' kh)) hR) (fun h2 h' i j C kh hi hj hC=>?_) fun h' n' pm kh hp hu ho=>?_
  ·exact vb3 sk (by lia) hs hn (fun a ha=>by have:=hd a ha; show A.units + 1 + 1 + _ < _; lia) (p.keep (nk h' kh)) (by lia) (by lia) hC
  ·rw [lv] at hp hu
   have lt:∀ i ∈ pm.toList,i < es.length:=fun i hi=>by
    have:=(Array.perm_iff_toList_perm.mp hp).mem_iff.mp hi
    simpa using this
   exact ⟨_,rfl,wpAny_pure ⟨_,rfl,h h1 h' tk es kd vs _ n' pm.toList k1 (nk h' kh) pd p (Nat.le_refl _) lt (qg3 hs hp hu).symm ho⟩⟩
end
end Dm
end T_Dm3
section T_Dn
namespace Dm
open PySem PyProof.Rows L2 PySem.SeqAt
section
variable {s:Shared}
theorem qu5 {A:Around} {d e:D} {u v:Value} {n:Nat} (x:Vw s.heap d u) (y:Vw s.heap e v) (hr0:A.units < cLine) (hn:dep d = n) (fx:flat d = true) (fy:flat e = true)
  (ht:∀ {xs ys:List D} {a b:Addr} {its jts:Array Value},dep (.tup xs) = n -> Q0 xs = true -> Q0 ys = true -> IsTup s.heap a its -> DAts s.heap xs its.toList -> IsTup s.heap b jts -> DAts s.heap ys jts.toList -> RcAt A s (.ref a) (.ref b) (eqDs xs ys))
  (hl:∀ {xs ys:List D} {a b:Addr} {its jts:Array Value},dep (.lst xs) = n -> Q0 xs = true -> Q0 ys = true -> PlainL s.heap a its -> DAts s.heap xs its.toList -> PlainL s.heap b jts -> DAts s.heap ys jts.toList -> RcAt A s (.ref a) (.ref b) (eqDs xs ys)):RcAt A s u v (eqD d e):=by
 cases x with
 | non =>
  cases y with
  | non=>exact RcAt.none_none
  | bl c=>exact RcAt.none_bool c
  | int j r=>exact RcAt.none_int j r
  | str y r=>exact RcAt.none_str y r
  | tup q' p'=>exact RcAt.none_tuple (j8 q') hr0
  | lst q' p'=>exact RcAt.none_list q'.isList hr0
 | bl b =>
  cases y with
  | non=>exact RcAt.bool_none b
  | bl c=>exact RcAt.bool_bool b c
  | int j r=>exact RcAt.bool_int b j r
  | str y r=>exact RcAt.bool_str b y r
  | tup q' p'=>exact RcAt.bool_tuple b (j8 q') hr0
  | lst q' p'=>exact RcAt.bool_list b q'.isList hr0
 | int i t =>
  cases y with
  | non=>exact RcAt.int_none i t
  | bl c=>exact RcAt.int_bool i t c
  | int j r=>exact RcAt.int_int i t j r
  | str y r=>exact RcAt.int_str i t y r
  | tup q' p'=>exact RcAt.int_tuple i t (j8 q') hr0
  | lst q' p'=>exact RcAt.int_list i t q'.isList hr0
 | str x t =>
  cases y with
  | non=>exact RcAt.str_none x t
  | bl c=>exact RcAt.str_bool x t c
  | int j r=>exact RcAt.str_int x t j r
  | str y r=>exact RcAt.str_str x t y r
  | tup q' p'=>exact RcAt.str_tuple x t (j8 q') hr0
  | lst q' p'=>exact RcAt.str_list x t q'.isList hr0
 | tup q p =>
  cases y with
  | non=>exact RcAt.tuple_none (j8 q) hr0
  | bl c=>exact RcAt.tuple_bool c (j8 q) hr0
  | int j r=>exact RcAt.tuple_int j r (j8 q) hr0
  | str y r=>exact RcAt.tuple_str y r (j8 q) hr0
  | tup q' p'=>exact ht hn (by rw [flat] at fx; exact fx) (by rw [flat] at fy; exact fy) q p q' p'
  | lst q' p'=>exact RcAt.tuple_list (j8 q) q'.isList hr0
 | lst q p =>
  cases y with
  | non=>exact RcAt.list_none q.isList hr0
  | bl c=>exact RcAt.list_bool c q.isList hr0
  | int j r=>exact RcAt.list_int j r q.isList hr0
  | str y r=>exact RcAt.list_str y r q.isList hr0
  | tup q' p'=>exact RcAt.list_tuple q.isList (j8 q') hr0
  | lst q' p'=>exact hl hn (by rw [flat] at fx; exact fx) (by rw [flat] at fy; exact fy) q p q' p'
theorem qx3 (d e:D) {A:Around} {u v:Value} (fx:flat d = true) (fy:flat e = true) (hu:DAt s.heap d u) (hv:DAt s.heap e v) (hr:A.units + dep d < cLine):RcAt A s u v (eqD d e):=by
 have hr0:A.units < cLine:=Nat.lt_of_le_of_lt (Nat.le_add_right _ _) hr
 refine qu5 (vw hu) (vw hv) hr0 rfl fx fy (fun {xs ys a b its jts} hn fx fy q p q' p'=>?_) (fun {xs ys a b its jts} hn fx fy q p q' p'=>?_)
 ·rw [<- kb6 p p']
  exact RcAt.tuples (j8 q) (j8 q') hr0 (ji8 p p' fun x y u v m1 m2 g1 g2=>ju9 _ _ (Q2 fx m1) (Q2 fy m2) g1 g2 (by show A.units + 1 + _ < _; rw [<- hn,dep] at hr; have:=jb1 m1; lia))
 ·by_cases hl:its.size = jts.size
  ·rw [<- qa2 p p' hl]
   exact RcAt.lists q.isList q'.isList hl hr0 (ji8 p p' fun x y u v m1 m2 g1 g2=>ju9 _ _ (Q2 fx m1) (Q2 fy m2) g1 g2 (by show A.units + 1 + _ < _; rw [<- hn,dep] at hr; have:=jb1 m1; lia))
  ·rw [<- kv4 p p' hl]
   exact RcAt.lists_lengths q.isList q'.isList (by simpa using hl) hr0
theorem kt8 {A:Around} {d e:D} {u v:Value} {n:Nat} (x:Vw s.heap d u) (y:Vw s.heap e v) (hr0:A.units < cLine) (hn:dep d = n) (fx:flat d = true) (fy:flat e = true)
  (ht:∀ {xs ys:List D} {a b:Addr} {its jts:Array Value},dep (.tup xs) = n -> Q0 xs = true -> Q0 ys = true -> IsTup s.heap a its -> DAts s.heap xs its.toList -> IsTup s.heap b jts -> DAts s.heap ys jts.toList -> RcNeAt A s (.ref a) (.ref b) (!eqDs xs ys))
  (hl:∀ {xs ys:List D} {a b:Addr} {its jts:Array Value},dep (.lst xs) = n -> Q0 xs = true -> Q0 ys = true -> PlainL s.heap a its -> DAts s.heap xs its.toList -> PlainL s.heap b jts -> DAts s.heap ys jts.toList -> RcNeAt A s (.ref a) (.ref b) (!eqDs xs ys)):RcNeAt A s u v (!eqD d e):=by
 cases x with
 | non =>
  cases y with
  | non=>exact RcNeAt.none_none
  | bl c=>exact RcNeAt.none_bool c
  | int j r=>exact RcNeAt.none_int j r
  | str y r=>exact RcNeAt.none_str y r
  | tup q' p'=>exact RcNeAt.none_tuple (j8 q') hr0
  | lst q' p'=>exact RcNeAt.none_list q'.isList hr0
 | bl b =>
  cases y with
  | non=>exact RcNeAt.bool_none b
  | bl c=>exact RcNeAt.bool_bool b c
  | int j r=>exact RcNeAt.bool_int b j r
  | str y r=>exact RcNeAt.bool_str b y r
  | tup q' p'=>exact RcNeAt.bool_tuple b (j8 q') hr0
  | lst q' p'=>exact RcNeAt.bool_list b q'.isList hr0
 | int i t =>
  cases y with
  | non=>exact RcNeAt.int_none i t
  | bl c=>exact RcNeAt.int_bool i t c
  | int j r=>exact RcNeAt.int_int i t j r
  | str y r=>exact RcNeAt.int_str i t y r
  | tup q' p'=>exact RcNeAt.int_tuple i t (j8 q') hr0
  | lst q' p'=>exact RcNeAt.int_list i t q'.isList hr0
 | str x t =>
  cases y with
  | non=>exact RcNeAt.str_none x t
  | bl c=>exact RcNeAt.str_bool x t c
  | int j r=>exact RcNeAt.str_int x t j r
  | str y r=>exact RcNeAt.str_str x t y r
  | tup q' p'=>exact RcNeAt.str_tuple x t (j8 q') hr0
  | lst q' p'=>exact RcNeAt.str_list x t q'.isList hr0
 | tup q p =>
  cases y with
  | non=>exact RcNeAt.tuple_none (j8 q) hr0
  | bl c=>exact RcNeAt.tuple_bool c (j8 q) hr0
  | int j r=>exact RcNeAt.tuple_int j r (j8 q) hr0
  | str y r=>exact RcNeAt.tuple_str y r (j8 q) hr0
  | tup q' p'=>exact ht hn (by rw [flat] at fx; exact fx) (by rw [flat] at fy; exact fy) q p q' p'
  | lst q' p'=>exact RcNeAt.tuple_list (j8 q) q'.isList hr0
 | lst q p =>
  cases y with
  | non=>exact RcNeAt.list_none q.isList hr0
  | bl c=>exact RcNeAt.list_bool c q.isList hr0
  | int j r=>exact RcNeAt.list_int j r q.isList hr0
  | str y r=>exact RcNeAt.list_str y r q.isList hr0
  | tup q' p'=>exact RcNeAt.list_tuple q.isList (j8 q') hr0
  | lst q' p'=>exact hl hn (by rw [flat] at fx; exact fx) (by rw [flat] at fy; exact fy) q p q' p'
theorem qe6 (d e:D) {A:Around} {u v:Value} (fx:flat d = true) (fy:flat e = true) (hu:DAt s.heap d u) (hv:DAt s.heap e v) (hr:A.units + dep d < cLine):RcNeAt A s u v (!eqD d e):=by
 have hr0:A.units < cLine:=Nat.lt_of_le_of_lt (Nat.le_add_right _ _) hr
 refine kt8 (vw hu) (vw hv) hr0 rfl fx fy (fun {xs ys a b its jts} hn fx fy q p q' p'=>?_) (fun {xs ys a b its jts} hn fx fy q p q' p'=>?_)
 ·rw [<- kb6 p p']
  exact RcNeAt.tuples (j8 q) (j8 q') hr0 (ji8 p p' fun x y u v m1 m2 g1 g2=>ju9 _ _ (Q2 fx m1) (Q2 fy m2) g1 g2 (by show A.units + 1 + _ < _; rw [<- hn,dep] at hr; have:=jb1 m1; lia))
 ·by_cases hl:its.size = jts.size
  ·rw [<- qa2 p p' hl]
   exact RcNeAt.lists q.isList q'.isList hl hr0 (ji8 p p' fun x y u v m1 m2 g1 g2=>ju9 _ _ (Q2 fx m1) (Q2 fy m2) g1 g2 (by show A.units + 1 + _ < _; rw [<- hn,dep] at hr; have:=jb1 m1; lia))
  ·rw [<- kv4 p p' hl]
   exact RcNeAt.lists_lengths q.isList q'.isList (by simpa using hl) hr0
end
end Dm
end T_Dn
section T_Rp
namespace Dm
open PySem PyProof.Rows L2 PySem.SeqAt
theorem Same.tup {K:PySem.W.Frag} {H H':Hp} {a:Addr} {xs:List V} (e:Same H H') (h:SqT K H a xs):SqT K H' a xs:=by
 rcases h with (h | ⟨o,h⟩) | h
 ·exact .inl (.inl (e _ _ h))
 ·exact .inl (.inr ⟨o,e _ _ h⟩)
 ·exact .inr h
noncomputable def er (H:Hp) (A:List Addr):Hp:=fun a=>if a ∈ A then none else H a
theorem jb8 {H:Hp} {A:List Addr} {a:Addr} (h:a ∈ A):er H A a = none:=if_pos h
theorem w8 {H:Hp} {A:List Addr} {a:Addr} (h:a ∉ A):er H A a = H a:=if_neg h
theorem q9 (H:Hp) (A:List Addr):Same (er H A) H:=fun b o h=>by
 by_cases q:b ∈ A
 ·rw [jb8 q] at h; cases h
 ·rwa [w8 q] at h
theorem q0 {H H':Hp} {A:List Addr} (e:Same H H'):Same (er H A) (er H' A):=fun b o h=>by
 by_cases q:b ∈ A
 ·rw [jb8 q] at h; cases h
 ·rw [w8 q] at h ⊢; exact e b o h
structure Cfg where
 ob:Nat -> PySem.W.Frag -> Hp -> Addr -> List V -> Prop
 mono:∀ {t:Nat} {K:PySem.W.Frag} {H H':Hp} {a:Addr} {vs:List V},Same H H' -> ob t K H a vs -> ob t K H' a vs
noncomputable def cfg0:Cfg:=⟨fun _ _ _ _ _=>False,fun _ h=>h⟩
mutual
noncomputable def Rep (K:PySem.W.Frag) (C:Cfg):Hp -> D -> V -> Prop
 | _,.non,v=>v = .non
 | _,.bl b,v=>v = .bl b
 | _,.int i,v=>v = .int i
 | _,.str x,v=>v = .str x
 | H,.tup ds,v=>∃ a xs,v = .ref a /\ SqT K H a xs /\ Reps K C H ds xs
 | H,.lst ds,v=>∃ a xs,v = .ref a /\ SqL K H a xs /\ Reps K C (er H [a]) ds xs
 | H,.brd t ds,v=>∃ a xs,v = .ref a /\ C.ob t K H a xs /\ Reps K C H ds xs
noncomputable def Reps (K:PySem.W.Frag) (C:Cfg):Hp -> List D -> List V -> Prop
 | _,[],vs=>vs = []
 | H,d :: ds,vs=>∃ v r,vs = v :: r /\ Rep K C H d v /\ Reps K C H ds r
end
section
variable {K:PySem.W.Frag} {C:Cfg}
mutual
theorem Rep.same:∀ {H H':Hp} (e:Same H H') (d:D) {v:V},Rep K C H d v -> Rep K C H' d v
 | _,_,e,.non,v,q=>by rw [Rep] at q ⊢; exact q
 | _,_,e,.bl b,v,q=>by rw [Rep] at q ⊢; exact q
 | _,_,e,.int i,v,q=>by rw [Rep] at q ⊢; exact q
 | _,_,e,.str x,v,q=>by rw [Rep] at q ⊢; exact q
 | _,_,e,.tup ds,v,q=>by
  rw [Rep] at q ⊢
  refine x2_3 q fun a xs h1 h2 h3=>?_
  clear q
  exact ⟨a,xs,h1,Same.tup e h2,Reps.same e ds h3⟩
 | _,_,e,.lst ds,v,q=>by
  rw [Rep] at q ⊢
  refine x2_3 q fun a xs h1 h2 h3=>?_
  clear q
  exact ⟨a,xs,h1,e.seq h2,Reps.same (q0 e) ds h3⟩
 | _,_,e,.brd t ds,v,q=>by
  rw [Rep] at q ⊢
  refine x2_3 q fun a xs h1 h2 h3=>?_
  clear q
  exact ⟨a,xs,h1,C.mono e h2,Reps.same e ds h3⟩
theorem Reps.same:∀ {H H':Hp} (e:Same H H') (ds:List D) {vs:List V},Reps K C H ds vs -> Reps K C H' ds vs
 | _,_,e,[],_,q=>by rw [Reps] at q ⊢; exact q
 | _,_,e,d :: ds,_,q=>by
  rw [Reps] at q ⊢
  refine x2_3 q fun v r e1 a b=>?_
  clear q
  exact ⟨v,r,e1,Rep.same e d a,Reps.same e ds b⟩
end
variable {H H':Hp}
theorem Rep.items {ds:List D} {v:V} (q:Rep K C H (.lst ds) v):∃ a xs,v = .ref a /\ SqL K H a xs /\ Reps K C H ds xs:=by
 rw [Rep] at q
 refine x2_3 q fun a xs h1 h2 h3=>?_
 clear q
 exact ⟨a,xs,h1,h2,h3.same (q9 _ _) _⟩
theorem Reps.len:∀ {ds:List D} {vs:List V},Reps K C H ds vs -> vs.length = ds.length
 | [],_,e=>by rw [Reps] at e; subst e; rfl
 | d :: ds,_,e=>by
  rw [Reps] at e
  refine x2_3 e fun v r zo2 _ q=>?_
  clear e
  obtain rfl:=zo2
  rw [List.length_cons,List.length_cons,q.len]
theorem Reps.get:∀ {ds:List D} {vs:List V} {j:Nat} {v:V},Reps K C H ds vs -> vs[j]? = some v -> ∃ d,ds[j]? = some d /\ Rep K C H d v
 | [],_,j,v,e,h=>by rw [Reps] at e; subst e; cases h
 | d :: ds,_,j,v,e,h=>by
  rw [Reps] at e
  refine x2_3 e fun u r zo2 a q=>?_
  clear e
  obtain rfl:=zo2
  cases j with
  | zero=>cases h; exact ⟨d,rfl,a⟩
  | succ j=>exact q.get (by simpa using h)
theorem Reps.get':∀ {ds:List D} {vs:List V} {j:Nat} {d:D},Reps K C H ds vs -> ds[j]? = some d -> ∃ v,vs[j]? = some v /\ Rep K C H d v
 | [],_,j,v,e,h=>by cases h
 | d :: ds,_,j,v,e,h=>by
  rw [Reps] at e
  refine x2_3 e fun u r zo2 a q=>?_
  clear e
  obtain rfl:=zo2
  cases j with
  | zero=>cases h; exact ⟨u,rfl,a⟩
  | succ j =>
   refine x1_2 (q.get' (j:=j) (by simpa using h)) fun z h1 h2=>?_
   exact ⟨z,by simpa using h1,h2⟩
theorem Reps.nil:Reps K C H [] []:=by rw [Reps]
theorem Reps.cons {d:D} {ds:List D} {v:V} {vs:List V} (a:Rep K C H d v) (b:Reps K C H ds vs):Reps K C H (d :: ds) (v :: vs):=by rw [Reps]; exact ⟨v,vs,rfl,a,b⟩
theorem Reps.app:∀ {ds es:List D} {vs ws:List V},Reps K C H ds vs -> Reps K C H es ws -> Reps K C H (ds ++ es) (vs ++ ws)
 | [],_,_,_,a,b=>by rw [Reps] at a; subst a; exact b
 | d :: ds,_,_,_,a,b=>by
  rw [Reps] at a
  refine x2_3 a fun v r zo2 a1 a2=>?_
  clear a
  obtain rfl:=zo2
  exact .cons a1 (a2.app b)
theorem Reps.take:∀ {ds:List D} {vs:List V} (n:Nat),Reps K C H ds vs -> Reps K C H (ds.take n) (vs.take n)
 | [],_,n,a=>by rw [Reps] at a; subst a; simp [Reps]
 | d :: ds,_,0,a=>by simp [Reps]
 | d :: ds,_,n + 1,a=>by
  rw [Reps] at a
  refine x2_3 a fun v r zo2 a1 a2=>?_
  clear a
  obtain rfl:=zo2
  rw [List.take_succ_cons,List.take_succ_cons]
  exact .cons a1 (a2.take n)
theorem Reps.drop:∀ {ds:List D} {vs:List V} (n:Nat),Reps K C H ds vs -> Reps K C H (ds.drop n) (vs.drop n)
 | [],_,n,a=>by rw [Reps] at a; subst a; simp [Reps]
 | d :: ds,_,0,a=>a
 | d :: ds,_,n + 1,a=>by
  rw [Reps] at a
  refine x2_3 a fun v r zo2 a1 a2=>?_
  clear a
  obtain rfl:=zo2
  rw [List.drop_succ_cons,List.drop_succ_cons]
  exact a2.drop n
theorem Reps.ints:∀ ns:List Int,Reps K C H (ns.map D.int) (ns.map V.int)
 | []=>.nil
 | n :: ns=>.cons (by rw [Rep]) (Reps.ints ns)
end
section
variable {X:Cx} {pins:List (Addr × Obj)} {σ:L2.St} {H:Hp} {s:Shared} {C:Cfg}
mutual
theorem Inv.dat (I:Inv X pins σ H s):∀ (d:D) {v:V} {u:Value},flat d = true -> Rep X.K C H d v -> RelV v u -> DAt s.heap d u
 | .non,v,u,_,q,r=>by rw [Rep] at q; subst q; rw [DAt]; exact r
 | .bl b,v,u,_,q,r=>by rw [Rep] at q; subst q; rw [DAt]; exact r
 | .int i,v,u,_,q,r=>by rw [Rep] at q; subst q; rw [DAt]; exact r
 | .str x,v,u,_,q,r=>by rw [Rep] at q; subst q; rw [DAt]; exact r
 | .tup ds,v,u,f,q,r=>by
  rw [Rep] at q
  rw [flat] at f
  refine x2_3 q fun a xs zo2 h2 h3=>?_
  clear q
  obtain rfl:=zo2
  obtain rfl:u = .ref a:=r
  refine x1_3 (I.tuple h2) fun its r1 t _=>?_
  rw [DAt]
  exact ⟨a,its.toArray,rfl,t,Inv.dats I ds f h3 r1⟩
 | .lst ds,v,u,f,q,r=>by
  have q:=q.items
  rw [flat] at f
  refine x2_3 q fun a xs zo2 h2 h3=>?_
  clear q
  obtain rfl:=zo2
  obtain rfl:u = .ref a:=r
  refine x1_3 (I.list h2) fun its r1 t _=>?_
  rw [DAt]
  exact ⟨a,its.toArray,rfl,t,Inv.dats I ds f h3 r1⟩
 | .brd tb ds,v,u,f,q,r=>by rw [flat] at f; cases f
theorem Inv.dats (I:Inv X pins σ H s):∀ (ds:List D) {vs:List V} {us:List Value},Q0 ds = true -> Reps X.K C H ds vs -> Vals vs us -> DAts s.heap ds us
 | [],_,_,_,q,r=>by rw [Reps] at q; subst q; cases r; rw [DAts]
 | d :: ds,_,_,f,q,r=>by
  rw [Reps] at q
  refine x2_3 q fun v vs' zo2 a b=>?_
  clear q
  obtain rfl:=zo2
  rw [Q0,Bool.and_eq_true] at f
  cases r with
  | cons r1 r2 =>
   rw [DAts]
   exact ⟨_,_,rfl,Inv.dat I d f.1 a r1,Inv.dats I ds f.2 b r2⟩
end
noncomputable def rEqD (K:PySem.W.Frag) (C:Cfg) (neg:Bool):R2:=fun x y H Q=>∃ d e,Rep K C H d x /\ Rep K C H e y /\ flat d = true /\ flat e = true /\ dep d <= 60 /\ Q (.bl (if neg then !eqD d e else eqD d e)) H
theorem ju5 (hu:X.A.units + 64 < cLine):OpR X (compareOp .Eq) (rEqD X.K C false):=by
 intro pins s σ H x y v u Q I rx ry ⟨d,e,h1,h2,f1,f2,h3,q⟩
 exact qx3 d e f1 f2 (Inv.dat I d f1 h1 rx) (Inv.dat I e f2 h2 ry) (by lia) _ _ _ _ ⟨.bl (eqD d e),H,I,rfl,q⟩
theorem ks2 (hu:X.A.units + 64 < cLine):OpR X (compareOp .NotEq) (rEqD X.K C true):=by
 intro pins s σ H x y v u Q I rx ry ⟨d,e,h1,h2,f1,f2,h3,q⟩
 exact qe6 d e f1 f2 (Inv.dat I d f1 h1 rx) (Inv.dat I e f2 h2 ry) (by lia) _ _ _ _ ⟨.bl (!eqD d e),H,I,rfl,q⟩
noncomputable def rInD (K:PySem.W.Frag) (C:Cfg) (neg:Bool):R2:=fun x y H Q=>∃ d es,Rep K C H d x /\ (Rep K C H (.lst es) y \/ Rep K C H (.tup es) y) /\ flat d = true /\ Q0 es = true /\ deps es <= 60 /\ Q (.bl (if neg then !(es.any fun e=>eqD e d) else es.any fun e=>eqD e d)) H
noncomputable def jt5 (h:Heap) (d:D) (y:Value):Bool:=@decide (∃ e,DAt h e y /\ eqD e d = true) (Classical.propDecidable _)
theorem jz2 {h:Heap} {d e:D} {y:Value} (q:DAt h e y):jt5 h d y = eqD e d:=by
 unfold jt5
 cases z:eqD e d with
 | true=>exact @decide_eq_true _ (Classical.propDecidable _) ⟨e,q,z⟩
 | false =>
  refine @decide_eq_false _ (Classical.propDecidable _) ?_
  rintro ⟨e',q',z'⟩
  rw [DAt.inj e e' q q'] at z
  rw [z] at z'; cases z'
theorem jh3 {h:Heap} {d:D}:∀ (es:List D) {ys:List Value},DAts h es ys -> ys.any (jt5 h d) = es.any fun e=>eqD e d
 | [],_,q=>by rw [DAts] at q; subst q; rfl
 | e :: es,_,q=>by
  rw [DAts] at q
  refine x2_3 q fun v r zo2 a b=>?_
  clear q
  obtain rfl:=zo2
  rw [List.any_cons,List.any_cons,jz2 a,jh3 es b]
theorem je1 {A:Around} {d:D} {x:Value} (fd:flat d = true) (hx:DAt s.heap d x) {es:List D} {ys:List Value} (f:Q0 es = true) (q:DAts s.heap es ys) (hu:A.units + deps es < cLine):∀ y ∈ ys,EqAt A s y x (jt5 s.heap d y):=fun y hy=>by
 obtain ⟨j,hj,e⟩:=List.mem_iff_getElem.mp hy
 obtain ⟨a,b⟩:=q.get j hj
 rw [e] at a
 rw [jz2 a]
 have:=jb1 b
 exact ju9 _ _ (Q2 f b) fd a hx (by lia)
theorem ju2 (hu:X.A.units + 64 < cLine):OpR X (compareOp .In) (rInD X.K C false):=by
 intro pins s σ H x y v u Q I rx ry ⟨d,es,h1,h2,f1,f2,h3,q⟩
 have hd:=Inv.dat I d f1 h1 rx
 rcases h2 with h2 | h2
 ·have he:=Inv.dat I (.lst es) (by rw [flat]; exact f2) h2 ry
  rw [DAt] at he
  refine x2_3 he fun a it zo2 t p=>?_
  clear he
  obtain rfl:=zo2
  refine in_listAt (jt5 s.heap d) t.isList (fun y hy=>je1 f1 hd f2 p (by show X.A.units + 1 + _ < _; lia) y (Array.mem_toList_iff.mpr hy)) ?_
  rw [<- Array.any_toList,jh3 es p]
  exact ⟨.bl (es.any fun e=>eqD e d),H,I,rfl,q⟩
 ·have he:=Inv.dat I (.tup es) (by rw [flat]; exact f2) h2 ry
  rw [DAt] at he
  refine x2_3 he fun a it zo2 t p=>?_
  clear he
  obtain rfl:=zo2
  refine in_tupleAt (jt5 s.heap d) (j8 t) (fun y hy=>je1 f1 hd f2 p (by show X.A.units + 1 + _ < _; lia) y (Array.mem_toList_iff.mpr hy)) ?_
  rw [<- Array.any_toList,jh3 es p]
  exact ⟨.bl (es.any fun e=>eqD e d),H,I,rfl,q⟩
theorem jm4 (hu:X.A.units + 64 < cLine):OpR X (compareOp .NotIn) (rInD X.K C true):=by
 intro pins s σ H x y v u Q I rx ry ⟨d,es,h1,h2,f1,f2,h3,q⟩
 have hd:=Inv.dat I d f1 h1 rx
 rcases h2 with h2 | h2
 ·have he:=Inv.dat I (.lst es) (by rw [flat]; exact f2) h2 ry
  rw [DAt] at he
  refine x2_3 he fun a it zo2 t p=>?_
  clear he
  obtain rfl:=zo2
  refine notIn_listAt (jt5 s.heap d) t.isList (fun y hy=>je1 f1 hd f2 p (by show X.A.units + 1 + _ < _; lia) y (Array.mem_toList_iff.mpr hy)) ?_
  rw [<- Array.any_toList,jh3 es p]
  exact ⟨.bl (!es.any fun e=>eqD e d),H,I,rfl,q⟩
 ·have he:=Inv.dat I (.tup es) (by rw [flat]; exact f2) h2 ry
  rw [DAt] at he
  refine x2_3 he fun a it zo2 t p=>?_
  clear he
  obtain rfl:=zo2
  refine notIn_tupleAt (jt5 s.heap d) (j8 t) (fun y hy=>je1 f1 hd f2 p (by show X.A.units + 1 + _ < _; lia) y (Array.mem_toList_iff.mpr hy)) ?_
  rw [<- Array.any_toList,jh3 es p]
  exact ⟨.bl (!es.any fun e=>eqD e d),H,I,rfl,q⟩
end
end Dm
end T_Rp
section T_Rq
namespace Dm
open PySem PyProof.Rows L2 PySem.SeqAt Ts
section
variable {X:Cx} {C:Cfg}
theorem kg6 {ws:List V} {vs:List Value} (r:Vals ws vs):∀ (pm:List Nat),(∀ i ∈ pm,i < ws.length) -> Vals (pm.map fun i=>ws.getD i .non) (pm.map fun i=>vs.getD i Value.none)
 | [],_=>.nil
 | i :: pm,h=>by
  refine .cons ?_ (kg6 r pm fun j hj=>h j (.tail _ hj))
  have hi:=h i (.head _)
  refine x1_2 (r.get (List.getElem?_eq_getElem hi)) fun u h1 h2=>?_
  have e1:ws.getD i .non = ws[i]:=by simp [hi]
  have e2:vs.getD i Value.none = u:=by simp [h1]
  show RelV (ws.getD i .non) (vs.getD i Value.none)
  rw [e1,e2]; exact h2
theorem kh2 {K:PySem.W.Frag} {H:Hp} {ws:List V} {ds:List D} (r:Reps K C H ds ws):∀ (pm:List Nat),(∀ i ∈ pm,i < ds.length) -> Reps K C H (pm.map fun i=>ds.getD i .non) (pm.map fun i=>ws.getD i .non)
 | [],_=>.nil
 | i :: pm,h=>by
  refine .cons ?_ (kh2 r pm fun j hj=>h j (.tail _ hj))
  have hi:=h i (.head _)
  refine x1_2 (r.get' (List.getElem?_eq_getElem hi)) fun u h1 h2=>?_
  have e1:ds.getD i .non = ds[i]:=by simp [hi]
  have e2:ws.getD i .non = u:=by simp [h1]
  show Rep K C H (ds.getD i .non) (ws.getD i .non)
  rw [e1,e2]; exact h2
structure Sortable (ds:List D):Prop where
 kd:∃ kd,Sk ds kd
 few:ds.length < 64
 shp:∀ a ∈ ds,∀ b ∈ ds,shp a b = true
 nl:∀ a ∈ ds,nl a = true
 dep:∀ a ∈ ds,dep a <= 50
theorem jx1 {ds:List D} (h:∀ a ∈ ds,∀ b ∈ ds,shp a b = true):Q0 ds = true:=jg0 fun d hd=>(jy8 d d (h d hd d hd)).1
noncomputable def qk1 (K:PySem.W.Frag) (C:Cfg):List V -> Hp -> VK -> Prop:=fun xs H Q=>∃ v ds,xs = [v] /\ Rep K C H (.lst ds) v /\ Sortable ds /\ ∀ p ws,H p = none -> Reps K C H (jc4 ds) ws -> Q (.ref p) (upd H p (.lst ws))
theorem kn1 {pins:List (Addr × Obj)} {σ:L2.St} {H:Hp} {s:Shared} {Q:VK} {h1 h':Heap} {tk L n:Nat} {ws:List V} {vs:List Value} (I:L2.Inv X pins σ H s) (k1:∀ b ob,s.heap.get? b = some ob -> h1.get? b = some ob) (k2:∀ b ob,h1.get? b = some ob -> h'.get? b = some ob)
  (hL:h1.objs.size <= L) (ho:h'.get? L = some (seqObj "list" vs.toArray n)) (r:Vals ws vs) (hz:ws.length <= sizeLine) (q:H L = none -> Q (.ref L) (upd H L (.lst ws))):EP X pins σ Q (.ref L) { s with heap:=h',toks:=tk }:=by
 have I1:L2.Inv X pins σ H { s with heap:=h1,toks:=tk }:=I.kept k1
 have hn:H L = none:=I1.hok.fresh hL
 refine ⟨.ref L,upd H L (.lst ws),I1.laid (t':=tk) k2 hL ⟨hz,vs,n,r,ho⟩,rfl,q hn⟩
theorem jh7 (hu:X.A.units + 64 < cLine):CallR X (.builtin "sorted") (qk1 X.K C):=by
 intro pins s σ H xs us Q I r ⟨v,ds,e,h1,S,q⟩
 subst e
 refine x1_2 (kc2 r) fun u zo1 rv=>?_
 obtain rfl:=zo1
 have h1:=h1.items
 refine x2_3 h1 fun a ws zo2 h2 h3=>?_
 clear h1
 obtain rfl:=zo2
 obtain rfl:u = .ref a:=rv
 refine x1_3 (I.list h2) fun its r1 pl hz=>?_
 have ff:=jx1 S.shp
 obtain ⟨kd,sk⟩:=S.kd
 have ld:its.length = ds.length:=by rw [<- r1.length,h3.len]
 refine jr7 (Pd:=fun es kd' vs=>es = ds /\ kd' = kd /\ vs = its) (fun es kd' vs hp=>?_) (fun R hR=>?_) fun h1 h' tk es kd' vs L n pm k1 k2 hp hd hL hlt hs ho=>?_
 ·refine x0_3 hp fun zo0 zo1 zo2=>?_
  clear hp
  obtain rfl:=zo0
  obtain rfl:=zo1
  obtain rfl:=zo2
  exact ⟨sk,S.few,S.shp,S.nl,fun a ha=>by have:=S.dep a ha; lia⟩
 ·refine collect_list (vs:=its) (s:=s) pl.isList ?_ (by rw [<- r1.length]; exact hz)
  have keep:∀ b ob,s.heap.get? b = some ob -> ((s.heap.push (seqObj "list" #[] 0)).update s.heap.objs.size (Obj.mapSeq (· ++ its.toArray))).get? b = some ob:=fun b ob e=>by
   rw [Heap.get?_update_ne _ _ _ _ (Nat.ne_of_lt (Heap.lt_size e))]
   exact Heap.get?_push_of_some _ e
  exact hR _ s.toks ds kd its keep ⟨rfl,rfl,rfl⟩ ((Inv.dats I ds ff h3 r1).keep keep)
 ·refine x0_3 hp fun zo0 zo1 zo2=>?_
  clear hp
  obtain rfl:=zo0
  obtain rfl:=zo1
  obtain rfl:=zo2
  have lw:ws.length = es.length:=h3.len
  have lp:pm.length = es.length:=by
   have:=congrArg List.length hs
   rw [List.length_map,(W0 es).length_eq] at this
   exact this.symm
  refine kn1 I k1 k2 hL ho (kg6 r1 pm fun i hi=>by rw [lw]; exact hlt i hi) (by rw [List.length_map,lp,<- lw]; exact hz) fun hn=>q L _ hn ?_
  rw [hs]
  exact kh2 h3 pm hlt
end
end Dm
end T_Rq
section T_Sk
namespace Dm
open PySem PyProof.Rows L2 PySem.SeqAt Ts Tb
theorem jw7 {prog:Program} {w:World} {ks:List Int} {vs:List Value} (h:ItemsAre (intKind prog w) ks vs):∀ v ∈ vs,∃ i t,v = Value.int i t:=by
 induction h with
 | nil=>intro v hv; cases hv
 | cons h1 _ ih =>
  intro v hv
  rcases List.mem_cons.mp hv with rfl | hv
  ·obtain ⟨t,e⟩:=Value.isInt_shape h1
   exact ⟨_,t,e⟩
  ·exact ih v hv
noncomputable def tupS (prog:Program) (w:World):SKind prog w (List Int) where
 toHeapKind:=tupleKind (intKind prog w)
 noCls:=fun {A E s k a Q} hk h=>by
  have hT:=hk.typeIs
  refine x3_4 hk fun o items n ho _ hd hi=>?_
  clear hk
  unfold ofAClassStatement
  refine wpAny_bind (wpAny_typeOf hT ?_)
  dsimp only
  rw [if_pos (by decide)]
  refine wpAny_bind (wpAny_pure ?_)
  simp only [Bool.not_true,Bool.false_eq_true,if_false]
  refine wpAny_bind (wpAny_seqItems ho hd ?_)
  dsimp only
  refine wpAny_bind ?_
  rw [<- Array.forIn_toList]
  refine wpAny_forIn_list _ (fun rest r s'=>r.1 = none /\ s' = s /\ ∀ v ∈ rest,∃ i t,v = Value.int i t) _ ?_ ?_ _ _ ⟨rfl,rfl,jw7 hi⟩
  ·rintro v rest r s' ⟨hr,rfl,hall⟩
   refine x2_1 (hall v List.mem_cons_self) fun i t zo2=>?_
   obtain rfl:=zo2
   unfold ofAClassStatement
   refine wpAny_bind (wpAny_pure ?_)
   simp only [Bool.false_eq_true,if_false]
   exact wpAny_pure ⟨rfl,rfl,fun u hu=>hall u (List.mem_cons_of_mem _ hu)⟩
  ·rintro ⟨r1,r2⟩ s' ⟨hr,rfl,_⟩
   simp only at hr
   subst hr
   exact wpAny_pure h
 byVal:=fun {A E s k a Q} hk h=>by
  have hT:=hk.typeIs
  refine x3_4 hk fun o items n ho _ hd hi=>?_
  clear hk
  unfold hashByValue
  refine wpAny_bind (wpAny_specialOf hT F.slot_tuple_hash.lookup ?_)
  dsimp only
  refine wpAny_bind (wpAny_seqItems ho hd ?_)
  dsimp only [Option.getD]
  refine wpAny_bind ?_
  rw [<- Array.forIn_toList]
  refine wpAny_forIn_list _ (fun rest r s'=>r.1 = none /\ s' = s /\ ∀ v ∈ rest,∃ i t,v = Value.int i t) _ ?_ ?_ _ _ ⟨rfl,rfl,jw7 hi⟩
  ·rintro v rest r s' ⟨hr,rfl,hall⟩
   refine x2_1 (hall v List.mem_cons_self) fun i t zo2=>?_
   obtain rfl:=zo2
   unfold hashByValue
   refine wpAny_bind (wpAny_pure ?_)
   simp only [Bool.not_true,Bool.false_eq_true,if_false]
   exact wpAny_pure ⟨rfl,rfl,fun u hu=>hall u (List.mem_cons_of_mem _ hu)⟩
  ·rintro ⟨r1,r2⟩ s' ⟨hr,rfl,_⟩
   simp only at hr
   subst hr
   exact wpAny_pure h
 mono:=fun hk e=>by
  refine x3_4 hk fun o items n ho hc hd hi=>?_
  clear hk
  exact ⟨o,items,n,e _ _ ho hc,hc,hd,hi⟩
theorem kj9 {prog:Program} {w:World} {h:Heap}:∀ {ns:List Int} {vs:List Value},DAts h (ns.map D.int) vs -> ItemsAre (intKind prog w) ns vs
 | [],_,q=>by rw [List.map_nil,DAts] at q; subst q; exact .nil
 | n :: ns,_,q=>by
  rw [List.map_cons,DAts] at q
  refine x2_3 q fun v r zo2 a b=>?_
  clear q
  obtain rfl:=zo2
  rw [DAt] at a
  obtain ⟨t,rfl⟩:=a
  exact .cons (by show Value.isInt n (.int n t) = true; simp [Value.isInt]) (kj9 b)
theorem ve2 {prog:Program} {w:World} {h:Heap} {ns:List Int} {a:Addr} (q:DAt h (.tup (ns.map D.int)) (.ref a)):(tupS prog w).is h ns a:=by
 rw [DAt] at q
 refine x2_3 q fun b it e zo3 p=>?_
 clear q
 obtain ⟨o,h1,h2,n,h3⟩:=zo3
 obtain rfl:a = b:=by injection e
 exact ⟨o,it,n,h1,h2,h3,kj9 p⟩
noncomputable def SObj (prog:Program) (w:World) (a:Addr) (zs:List (List Int × Addr)) (h:Heap):Prop :=
 ∃ o ep t,h.get? a = some o /\ o.ExactSet /\ o.data = .set (zs.map (entry (tupS prog w))).toArray ep t /\ Good t zs.length /\ kb2 t (fun i=>((zs.map (entry (tupS prog w))).toArray[i]?.map (·.1)).getD 0) zs.length /\
  t.led = je8 w /\ t.plain = true /\ zs.length * 5 < t.mask * 3 /\ (zs.map (·.1)).Nodup
section
variable {X:Cx} {C:Cfg}
noncomputable def kf3 (K:PySem.W.Frag) (H:Hp) (zs:List (List Int × Addr)):Prop:=∀ z ∈ zs,SqT K H z.2 (z.1.map V.int)
noncomputable def qh0 (X:Cx) (C:Cfg):List V -> Hp -> VK -> Prop:=fun xs H Q=>∃ (v:V) (nss:List (List Int)),xs = [v] /\ Rep X.K C H (.lst (nss.map fun ns=>.tup (ns.map D.int))) v /\ nss.length <= 50 /\
 ∀ p zs,H p = none -> kf3 X.K H zs -> (zs.map (·.1)).Nodup -> (∀ ns,ns ∈ zs.map (·.1) ↔ ns ∈ nss) -> Q (.ref p) (upd H p (.ext (SObj X.prog X.w p zs)))
theorem kd6 {K:PySem.W.Frag} {H:Hp}:∀ {nss:List (List Int)} {ws:List V},Reps K C H (nss.map fun ns=>.tup (ns.map D.int)) ws -> ∃ ys:List (List Int × Addr),ys.map (·.1) = nss /\ ws = (ys.map fun y=>V.ref y.2) /\ kf3 K H ys
 | [],_,q=>by rw [List.map_nil,Reps] at q; subst q; exact ⟨[],rfl,rfl,fun z hz=>by cases hz⟩
 | ns :: nss,_,q=>by
  rw [List.map_cons,Reps] at q
  refine x2_3 q fun v r zo2 a b=>?_
  clear q
  obtain rfl:=zo2
  refine x1_3 (kd6 b) fun ys e1 e2 m=>?_
  rw [Rep] at a
  refine x2_3 a fun ad xs zo2 t p=>?_
  clear a
  obtain rfl:=zo2
  have exs:xs = ns.map V.int:=by
   clear t
   induction ns generalizing xs with
   | nil=>rw [List.map_nil,Reps] at p; exact p
   | cons n ns ih =>
    rw [List.map_cons,Reps] at p
    refine x2_3 p fun v r' zo2 a1 a2=>?_
    clear p
    obtain rfl:=zo2
    rw [Rep] at a1
    rw [a1,ih _ a2]; rfl
  subst exs
  refine ⟨(ns,ad) :: ys,by rw [List.map_cons,e1],by rw [List.map_cons,e2],fun z hz=>?_⟩
  rcases List.mem_cons.mp hz with rfl | hz
  ·exact t
  ·exact m z hz
theorem ql3 {pins:List (Addr × Obj)} {σ:L2.St} {H:Hp} {s:Shared} (I:L2.Inv X pins σ H s) {z:List Int × Addr} (h:SqT X.K H z.2 (z.1.map V.int)):(tupS X.prog X.w).is s.heap z.1 z.2:=by
 refine ve2 ?_
 refine Inv.dat (C:=cfg0) I _ (v:=V.ref z.2) ?_ ?_ rfl
 ·rw [flat]
  exact jg0 fun d hd=>by
   refine x1_2 (List.mem_map.mp hd) fun n _ zo2=>?_
   obtain rfl:=zo2
   rw [flat] <;> simp
 ·rw [Rep]
  exact ⟨z.2,_,rfl,h,Reps.ints z.1⟩
theorem kb5 {vs:List Value}:∀ {ys:List (List Int × Addr)},Vals (ys.map fun y=>V.ref y.2) vs -> vs = ys.map fun y=>Value.ref y.2
 | [],r=>by cases r; rfl
 | y :: ys,r=>by
  cases r with
  | cons r1 r2 =>
   rw [List.map_cons,kb5 r2]
   congr 1
theorem ks3 (hh:X.A.handled = none) (hu:X.A.units + 64 < cLine):CallR X (.type "set") (qh0 X C):=by
 intro pins s σ H xs us Q I r ⟨v,nss,e,h1,hn,q⟩
 subst e
 refine x1_2 (kc2 r) fun u zo1 rv=>?_
 obtain rfl:=zo1
 have h1:=h1.items
 refine x2_3 h1 fun a ws zo2 h2 h3=>?_
 clear h1
 obtain rfl:=zo2
 obtain rfl:u = .ref a:=rv
 refine x1_3 (I.list h2) fun its r1 pl hz=>?_
 refine x1_3 (kd6 h3) fun ys e1 e2 m=>?_
 subst e2
 obtain rfl:=kb5 r1
 have ly:ys.length = nss.length:=by rw [<- e1,List.length_map]
 refine qg9 (κ:=tupS X.prog X.w) (ys:=ys) hh (by show X.A.units + 1 + 1 + 1 < cLine; lia) pl.isList (by lia) (fun y hy=>ql3 I (m y hy)) fun h' tk o ep t zs k S m1 m2=>?_
 have hf:H s.heap.objs.size = none:=I.hok.fresh (Nat.le_refl _)
 refine ⟨.ref s.heap.objs.size,upd H s.heap.objs.size (.ext (SObj X.prog X.w s.heap.objs.size zs)),I.laid (t':=tk) k (Nat.le_refl _) ?_,rfl,q _ zs hf (fun z hz=>m z (m1 z hz)) S.keys fun ns=>?_⟩
 ·refine ⟨⟨o,ep,t,S.obj,S.exact',S.data,S.good,S.paths,S.led',S.plain,S.few,S.keys⟩,⟨o,S.obj⟩,?_⟩
  rintro h1 h2 ⟨o',ep',t',q1,q2⟩ ke
  exact ⟨o',ep',t',ke _ q1,q2⟩
 ·constructor
  ·intro hm
   refine x1_2 (List.mem_map.mp hm) fun z hz zo2=>?_
   obtain rfl:=zo2
   rw [<- e1]
   exact List.mem_map.mpr ⟨z,m1 z hz,rfl⟩
  ·intro hm
   rw [<- e1] at hm
   refine x1_2 (List.mem_map.mp hm) fun y hy zo2=>?_
   obtain rfl:=zo2
   exact m2 y hy
noncomputable def Rows (nss:List (List Int)):Prop:=∃ n,∀ ns ∈ nss,ns.length = n + 1
theorem jr2:∀ {a b:List Int},a.length = b.length -> shps (a.map D.int) (b.map D.int) = true
 | [],[],_=>by simp [shps]
 | x :: a,y :: b,h=>by
  rw [List.map_cons,List.map_cons,shps,jr2 (by simpa using h)]
  simp [shp]
theorem ki6:∀ a:List Int,nls (a.map D.int) = true
 | []=>by simp [nls]
 | x :: a=>by rw [List.map_cons,nls,ki6 a]; simp [nl]
theorem kw5 (a:List Int):deps (a.map D.int) = 0:=by
 have:deps (a.map D.int) <= 0:=jq1 fun d hd=>by
  refine x1_2 (List.mem_map.mp hd) fun n _ zo2=>?_
  obtain rfl:=zo2
  rw [dep] <;> simp
 lia
theorem ka0 {nss:List (List Int)} (h:Rows nss) (few:nss.length < 64):Sortable (nss.map fun ns=>.tup (ns.map D.int)):=by
 obtain ⟨n,hn⟩:=h
 have mem:∀ d ∈ nss.map (fun ns=>D.tup (ns.map D.int)),∃ ns ∈ nss,d = .tup (ns.map D.int):=fun d hd=>by
  refine x1_2 (List.mem_map.mp hd) fun ns h1 h2=>?_
  exact ⟨ns,h1,h2.symm⟩
 refine ⟨⟨_,.tups fun d hd=>?_⟩,by rw [List.length_map]; exact few,fun a ha b hb=>?_,fun a ha=>?_,fun a ha=>?_⟩
 ·refine x1_2 (mem d hd) fun ns h1 zo2=>?_
  obtain rfl:=zo2
  have:=hn ns h1
  match ns,this with
  | i :: r,_=>exact ⟨i,r.map D.int,rfl⟩
 ·refine x1_2 (mem a ha) fun ns h1 zo2=>?_
  obtain rfl:=zo2
  refine x1_2 (mem b hb) fun ms h2 zo2=>?_
  obtain rfl:=zo2
  rw [shp]
  exact jr2 (by rw [hn ns h1,hn ms h2])
 ·refine x1_2 (mem a ha) fun ns h1 zo2=>?_
  obtain rfl:=zo2
  rw [nl]; exact ki6 ns
 ·refine x1_2 (mem a ha) fun ns h1 zo2=>?_
  obtain rfl:=zo2
  rw [dep,kw5]; decide
noncomputable def kr6 (X:Cx) (C:Cfg):List V -> Hp -> VK -> Prop:=fun xs H Q=>∃ a zs,xs = [.ref a] /\ H a = some (.ext (SObj X.prog X.w a zs)) /\ kf3 X.K H zs /\ zs.length <= 50 /\ Rows (zs.map (·.1)) /\
 ∀ p ws (es:List (List Int)),H p = none -> es.Perm (zs.map (·.1)) -> Reps X.K C H (jc4 (es.map fun ns=>.tup (ns.map D.int))) ws -> Q (.ref p) (upd H p (.lst ws))
theorem kw8 {α β:Type} {f:α -> β}:∀ {l:List α} {m:List β},m.Perm (l.map f) -> ∃ l':List α,l'.Perm l /\ m = l'.map f:=by
 intro l m h
 generalize e:l.map f = k at h
 induction h generalizing l with
 | nil =>
  exact ⟨l,.refl _,e.symm⟩
 | cons x _ ih =>
  match l,e with
  | a :: l,e =>
   rw [List.map_cons] at e
   injection e with e1 e2
   refine x1_2 (ih e2) fun l' p q=>?_
   exact ⟨a :: l',p.cons a,by rw [List.map_cons,e1,q]⟩
 | swap x y k =>
  match l,e with
  | a :: b :: l,e =>
   rw [List.map_cons,List.map_cons] at e
   injection e with e1 e2
   injection e2 with e2 e3
   exact ⟨b :: a :: l,.swap a b l,by rw [List.map_cons,List.map_cons,e1,e2,e3]⟩
 | trans _ _ ih1 ih2 =>
  refine x1_2 (ih2 e) fun l1 p1 q1=>?_
  refine x1_2 (ih1 q1.symm) fun l2 p2 q2=>?_
  exact ⟨l2,p2.trans p1,q2⟩
theorem kb4 (hh:X.A.handled = none) (hu:X.A.units + 64 < cLine):CallR X (.builtin "sorted") (kr6 X C):=by
 intro pins s σ H xs us Q I r ⟨a,zs,e,h1,hm,hn,hr,q⟩
 subst e
 refine x1_2 (kc2 r) fun u zo1 rv=>?_
 obtain rfl:=zo1
 obtain rfl:u = .ref a:=rv
 refine x0_3 (I.hok a _ h1) fun zo0 _ _=>?_
 obtain ⟨o,ep,t,g1,g2,g3,g4,g5,g6,g7,g8,g9⟩:=zo0
 have S:SetO (tupS X.prog X.w) s.heap a (je8 X.w) zs o ep t:=⟨g1,g2,g3,g4,g5,g6,g7,g8,g9,fun x hx=>ql3 I (hm x hx)⟩
 refine jr7 (Pd:=fun es kd vs=>kd = tuples' true /\ ∃ l:List (List Int × Addr),l.Perm zs /\ es = (l.map fun y=>.tup (y.1.map D.int)) /\ vs = l.map fun y=>Value.ref y.2) (fun es kd vs hp=>?_) (fun R hR=>?_) fun h1 h' tk es kd vs L n pm k1 k2 hp hd hL hlt hs ho=>?_
 ·obtain ⟨rfl,l,p,rfl,rfl⟩:=hp
  obtain ⟨m,hm'⟩:=hr
  have rows:Rows (l.map (·.1)):=⟨m,fun ns hns=>hm' ns ((p.map _).mem_iff.mp hns)⟩
  have so:=ka0 rows (by rw [List.length_map,p.length_eq]; lia)
  rw [List.map_map] at so
  refine ⟨.tups fun d hd=>?_,so.few,so.shp,so.nl,fun a ha=>by have:=so.dep a ha; lia⟩
  refine x1_2 (List.mem_map.mp hd) fun y hy zo2=>?_
  obtain rfl:=zo2
  have:=hm' y.1 (List.mem_map.mpr ⟨y,p.mem_iff.mp hy,rfl⟩)
  match h:y.1,this with
  | i :: r,_=>exact ⟨i,r.map D.int,rfl⟩
 ·refine kg3 (κ:=tupS X.prog X.w) hh S hn fun h' tk vs k pv=>?_
  refine x1_2 (kw8 pv) fun l p zo2=>?_
  obtain rfl:=zo2
  refine hR h' tk _ _ _ k ⟨rfl,l,p,rfl,rfl⟩ (DAts.of_map _ _ l fun y hy=>DAt.keep k _ ?_)
  have t:=hm y (p.mem_iff.mp hy)
  refine Inv.dat (C:=cfg0) I _ (v:=V.ref y.2) ?_ ?_ rfl
  ·rw [flat]
   exact jg0 fun d hd=>by
    refine x1_2 (List.mem_map.mp hd) fun n _ zo2=>?_
    obtain rfl:=zo2
    rw [flat] <;> simp
  ·rw [Rep]
   exact ⟨y.2,_,rfl,t,Reps.ints y.1⟩
 ·obtain ⟨rfl,l,p,rfl,rfl⟩:=hp
  have ll:l.length <= 50:=by rw [p.length_eq]; exact hn
  have lp:pm.length = l.length:=by
   have:=congrArg List.length hs
   rw [List.length_map,(W0 _).length_eq,List.length_map] at this
   exact this.symm
  have rv:∀ l:List (List Int × Addr),Vals (l.map fun y=>V.ref y.2) (l.map fun y=>Value.ref y.2):=fun l=>by
   induction l with
   | nil=>exact .nil
   | cons y l ih=>exact .cons rfl ih
  have lt':∀ i ∈ pm,i < l.length:=fun i hi=>by have:=hlt i hi; rwa [List.length_map] at this
  have rp:Reps X.K C H (l.map fun y=>.tup (y.1.map D.int)) (l.map fun y=>V.ref y.2):=by
   have hm2:∀ y ∈ l,SqT X.K H y.2 (y.1.map V.int):=fun y hy=>hm y (p.mem_iff.mp hy)
   clear hs hlt lt' lp hd ho p ll
   induction l with
   | nil=>exact .nil
   | cons y l ih =>
    refine .cons ?_ (ih fun z hz=>hm2 z (List.mem_cons_of_mem _ hz))
    rw [Rep]
    exact ⟨y.2,_,rfl,hm2 y List.mem_cons_self,Reps.ints y.1⟩
  have big:64 <= sizeLine:=by rw [sizeLine_eq]; decide
  refine kn1 I k1 k2 hL ho (kg6 (rv l) pm fun i hi=>by rw [List.length_map]; exact lt' i hi) (by rw [List.length_map,lp]; lia) fun hn'=>q L _ (l.map (·.1)) hn' (p.map _) ?_
  rw [List.map_map]
  show Reps X.K C H (jc4 (l.map fun y=>.tup (y.1.map D.int))) _
  rw [hs]
  exact kh2 rp pm hlt
end
end Dm
end T_Sk
section T_Ex
namespace Dm
open PySem PySem.Spec PyProof.Rows L2
noncomputable def Cov (l:List Env) (B h:Heap):Prop:=∀ b o,h.get? b = some o -> b ∉ frs l -> B.get? b = some o
noncomputable def CXr (P:Program) (w:World):CXT:=fun outer H s E e s'=>∃ a cls a0 H' h B,e = .ref a /\ Heap.FlyingW B outer a cls a0 s'.heap /\ Cov outer B h /\ h.UpToSlots s'.heap /\ E cls none H' /\ s'.os = s.os /\ AllBare s'.gens /\
 Un (frs outer) [] H H' s.heap h /\ HOk P w H' h
structure Made (h h':Heap) (a:Addr) (cls:Value):Prop where
 keeps:∀ b o,h.get? b = some o -> h'.get? b = some o
 new:h.get? a = none
 there:∃ o a0,h'.get? a = some o /\ o.cls = cls /\ o.data = .fields #[a0,.none,.none,.none,.bool false,.none]
theorem Made.of {h h':Heap} {a:Addr} {cls:Value} {vs:List Value} (x:Heap.MadeExcOf h h' a cls vs):Made h h' a cls:=by
 refine x1_3 x.there fun t he _ _=>?_
 exact ⟨x.keeps,x.new,_,_,he,rfl,rfl⟩
noncomputable def Fly (X:Cx) (E:L2.St -> XK) (e:Value) (s':Shared):Prop:=∃ a cls σ H h,e = .ref a /\ L2.Inv X [] σ H { s' with heap:=h } /\ E σ cls none H /\
 (Made h s'.heap a cls \/ (∃ a0 B,Cov X.stack B h /\ h.UpToSlots s'.heap /\ (Heap.FlyingW B X.stack a cls a0 s'.heap \/ Heap.HeldW B X.stack a cls a0 X.env.locals s'.heap)))
theorem jv5 {X:Cx} {pins:List (Addr × Obj)} {σ:L2.St} {H:Hp} {s:Shared} (I:L2.Inv X pins σ H s):L2.Inv X [] σ H s:=I.pins_of fun p hp=>by cases hp
section
variable {X:Cx} {E:L2.St -> XK}
theorem qo7 {pins:List (Addr × Obj)} {σ:L2.St} {H:Hp} {s:Shared} {h':Heap} {a:Addr} {cls:Value} (I:L2.Inv X pins σ H s) (hx:Made s.heap h' a cls) (q:E σ cls none H):Fly X E (.ref a) { s with heap:=h' } :=
 ⟨a,cls,σ,H,s.heap,rfl,jv5 I,q,.inl hx⟩
theorem kk2 {pins:List (Addr × Obj)} {σ:L2.St} {H:Hp} {s s':Shared} {e:Value} (I:L2.Inv X pins σ H s) (c:CXr X.prog X.w X.stack H s (E σ) e s'):Fly X E e s':=by
 refine x6_9 c fun a cls a0 H' h B zo6 f cv up q os bare un hok=>?_
 clear c
 obtain rfl:=zo6
 have I':L2.Inv X pins σ H' { s' with heap:=h }:=Inv.call' I (s':={ s' with heap:=h }) os un hok bare (fun b z=>absurd z (by simp))
 exact ⟨a,cls,σ,H',h,rfl,jv5 I',q,.inr ⟨a0,B,cv,up,.inl f⟩⟩
theorem ka1 {h base:Heap} {l:List Env} (f:h.FunFrames base l):∃ B:Heap,Cov l B h /\ B.StaysIn h /\ h.FunFrames B l /\ ∀ b,h.get? b = none -> B.get? b = none:=by
 have st:(PySem.W.hideAll h (frs l)).StaysIn h:=fun b o e=>PySem.W.of_hideAll _ e
 refine ⟨PySem.W.hideAll h (frs l),fun b o e n=>PySem.W.hideAll_get _ e n,st,PySem.W.funFrames_hide f fun env he a ha=>List.mem_filterMap.mpr ⟨env,he,ha⟩,fun b hb=>?_⟩
 cases hq:(PySem.W.hideAll h (frs l)).get? b with
 | none=>rfl
 | some o'=>have:=st b o' hq; rw [hb] at this; cases this
structure Own1 (X:Cx):Prop where
 stk:X.stack = X.env :: X.outer
 fr:X.env.frame = some X.env.locals
theorem kl5 {e:Value} {s':Shared} {Q:Unit -> Shared -> Prop} {E':Value -> Shared -> Prop} (O:Own1 X) (f:Fly X E e s')
  (hq:∀ (a:Addr) cls a0 σ H h B h',e = .ref a -> L2.Inv X [] σ H { s' with heap:=h } -> E σ cls none H -> Cov X.stack B h -> h.UpToSlots h' -> Heap.HeldW B X.stack a cls a0 X.env.locals h' -> Q () { s' with heap:=h' }) :
  wpAny (model X.prog X.w) X.A (noteFrame e X.env) Q E' s':=by
 obtain ⟨a,cls,σ,H,h,rfl,I,q,f⟩:=f
 have fr:X.A.frames = some (X.env :: X.outer):=by rw [I.ok.frames,O.stk]
 rcases f with hx | ⟨a0,B,cv,up,f | f⟩
 ·obtain ⟨oe,a0,he,hcl,hdt⟩:=hx.there
  subst hcl
  obtain ⟨B,b1,b2,b3,b4⟩:=ka1 I.stack
  have ff:s'.heap.FunFrames B X.stack:=b3.of_keeps fun b o hb _=>⟨o,hx.keeps b o hb,rfl⟩
  rw [O.stk] at ff
  unfold noteFrame
  simp only [O.fr]
  refine wpAny_bind (wpAny_field he (vs:=#[a0,.none,.none,.none,.bool false,.none]) hdt (x:=.none) rfl ?_)
  rw [if_neg (by decide)]
  refine wpAny_entryW (a0:=a0) fr ff O.fr he (fun b o hb=>hx.keeps b o (b2 b o hb)) (b4 a hx.new) hdt (by simp) rfl fun h' hN=>?_
  obtain ⟨k1,k2,k3,k4⟩:=hN
  refine hq a _ a0 σ H h B h' rfl I q b1 ((Heap.UpToSlots.of_keeps hx.keeps).trans k4) ⟨k1,b4 a hx.new,?_,k3⟩
  rw [O.stk]; exact k2
 ·rw [O.stk] at f
  refine wpAny_looks_onW fr O.fr f fun h' hh us=>?_
  exact hq a cls a0 σ H h B h' rfl I q cv (up.trans us) (by rw [O.stk]; exact hh)
 ·refine wpAny_noteFrame_againW O.fr f.2.2.2 ?_
  exact hq a cls a0 σ H h B s'.heap rfl I q cv up f
theorem v8 (O:Own1 X):PassesOwn (model X.prog X.w) X.A X.env (Fly X E):=by
 intro e s' f
 refine kl5 O f fun a cls a0 σ H h B h' ea I q cv up hd=>?_
 subst ea
 unfold cameBackBy
 obtain ⟨k1,k2,k3,oe,vs,T,oT,ts,he,hc,hdd,h1,hnT,hTe,hT,hdT,h3⟩:=hd
 refine wpAny_bind (wpAny_field he hdd h1 ?_)
 rw [if_neg (by simp)]
 unfold setFlight
 refine wpAny_bind (wpAny_field he hdd h1 ?_)
 rw [if_pos (show (Value.ref T != Value.none) = true from by simp)]
 have h3s:3 < ts.size:=(Array.getElem?_eq_some_iff.mp h3).1
 rw [O.fr]
 refine wpAny_setField hT hdT h3s ?_
 have other:∀ b,b ≠ T -> (h'.update T (Obj.mapFields (·.setIfInBounds 3 (rawInt X.env.locals)))).get? b = h'.get? b:=fun b hb=>Heap.get?_update_other _ _ (Ne.symm hb)
 have noRec:∀ b o,h'.get? b = some o -> (∀ vs,o.data ≠ .fields vs) -> b ≠ T:=fun b o hb hnf z=>by
  rw [z,hT] at hb; injection hb with hb; subst hb; exact hnf ts hdT
 refine ⟨a,cls,σ,H,h,rfl,I,q,.inr ⟨a0,B,cv,fun b o hb hn=>?_,.inr ⟨fun b o hb=>?_,k2,k3.of_keeps fun b o hb hnf=>⟨o,(other b (noRec b o hb hnf)).trans hb,rfl⟩,?_⟩⟩⟩
 ·obtain ⟨sl,e1⟩:=up b o hb hn
  exact ⟨sl,(other b (noRec b _ e1 fun vs z=>hn vs z)).trans e1⟩
 ·refine (other b fun z=>?_).trans (k1 b o hb)
  rw [z,hnT] at hb; cases hb
 ·refine ⟨oe,vs,T,_,_,(other a (Ne.symm hTe)).trans he,hc,hdd,h1,hnT,hTe,Heap.get?_update_self _ hT (Obj.isFreed_of_fields (Obj.data_mapFields hdT _)),Obj.data_mapFields hdT _,?_⟩
  simp [h3s]
end
section
variable {P:Program} {w:World} {K:PySem.W.Frag} {mg:Str -> Option Value} {base:Heap} {N:List Str} {qual:Str} {scope:Scope} {f:Addr} {cd:Value} {A:Around} {outer:List Env} {s:Shared} {H:Hp} {E:XK}
theorem qb6 {e:Value} {s':Shared} (fl:Fly (cxOf (CXr P w) P w K mg base N qual scope f cd A outer s H E) (fun _=>E) e s'):(cxOf (CXr P w) P w K mg base N qual scope f cd A outer s H E).xe e s':=by
 let X:=cxOf (CXr P w) P w K mg base N qual scope f cd A outer s H E
 have O:Own1 X:=⟨rfl,rfl⟩
 show wpAny (model P w) X.A (leaving X.env e) (fun _ s''=>CXr P w outer H s E e s'') (fun e' s''=>CXr P w outer H s E e' s'') s'
 unfold leaving
 refine wpAny_bind (kl5 O fl fun a cls a0 σ H' h B h' ea I q cv up hd=>?_)
 subst ea
 refine wpAny_landsW hd fun h2 fl2 us=>?_
 refine x0_4 fl2 fun k1 k2 zo2 k4=>?_
 clear fl2
 obtain ⟨_,⟨L',o',e1,e2,e3,e4⟩,k3⟩:=zo2
 obtain rfl:X.env.locals = L':=Option.some.inj e1
 have hL:H' X.env.locals = none:=I.free
 have fr:∀ b,b ∈ frs X.stack ↔ b = X.env.locals \/ b ∈ frs outer:=fun b=>by
  show b ∈ frs (X.env :: outer) ↔ _
  unfold frs
  rw [List.filterMap_cons_some (show X.env.frame = some X.env.locals from rfl),List.mem_cons]
 have get:∀ b o,b ≠ X.env.locals -> h.get? b = some o -> (PySem.W.hideAll h [X.env.locals]).get? b = some o:=fun b o n e=>PySem.W.hideAll_get _ e (by simpa using n)
 refine ⟨a,cls,a0,H',PySem.W.hideAll h [X.env.locals],B,rfl,⟨k1,k2,k3,k4⟩,fun b o e nb=>?_,fun b o e hn=>?_,q,I.os,I.bare,?_,?_⟩
 ·have nl:b ≠ X.env.locals:=fun z=>by
   have z':=PySem.W.hideAll_none [X.env.locals] (h:=h) (b:=b) (by simp [z])
   rw [e] at z'
   cases z'
  exact cv b o (PySem.W.of_hideAll _ e) fun z=>by
   rcases (fr b).mp z with z | z
   ·exact nl z
   ·exact nb z
 ·exact (up.trans us) b o (PySem.W.of_hideAll _ e) hn
 ·have u:Un (frs outer) [] H H' s.heap h:=I.base
  have ne:∀ b o,s.heap.get? b = some o -> b ≠ X.env.locals:=fun b o e=>Nat.ne_of_lt (Nat.lt_of_lt_of_le (Heap.lt_size e) I.ok.above)
  refine ⟨fun b o e n nf nx=>get b o (ne b o e) (u.keep b o e n nf nx),fun b o e n nf nx=>?_,u.free,fun b o e nx=>?_,u.tups,u.frzs,u.tbls⟩
  ·obtain ⟨sl,e1⟩:=u.slot b o e n nf nx
   exact ⟨sl,get b _ (ne b o e) e1⟩
  ·obtain ⟨o',e1⟩:=u.there b o e nx
   exact ⟨o',get b _ (ne b o e) e1⟩
 ·intro b u e
  refine (I.hok b u e).stay (fun c v hc q'=>get c v ?_ q') (fun _ z=>z) fun _ _ z=>z
  rcases hc with z | z
  ·rintro rfl; rw [<- z,hL] at e; cases e
  ·rintro rfl; rw [hL] at z; cases z
end
end Dm
end T_Ex
section T_Ex2
namespace Dm
open PySem PySem.Spec PyProof.Rows L2 PySem.W
noncomputable def exD (K:Frag) (C:Addr) (bmB:List Value) (newId:String) (o:Obj):Bool:=match o.data with
 | .cls cd=>!cd.hasDel && cd.mro.head? == some (.ref C) && tailIn K bmB cd.mro.tail && nsOkIn K cd.ns && nsIn K cd.ns "__init__" == some none && o.cls == .type "type" && o.slots.toList[4]? == some (some (.builtin newId)) && o.slots.toList.length == 6
 | _=>false
noncomputable def exB (K:Frag) (C:Addr) (bmB:List Value) (newId:String):Bool:=(K.lookup C).any (exD K C bmB newId)
theorem six {l:List (Option Value)} {a:Option Value} (h:l.length = 6) (e:l[4]? = some a):∃ k0 k1 k2 k3 k5,l = [k0,k1,k2,k3,a,k5]:=by
 refine x2_1 (List.exists_cons_of_length_eq_add_one h) fun k0 l zo2=>?_
 obtain rfl:=zo2
 refine x2_1 (List.exists_cons_of_length_eq_add_one (Nat.succ.inj h)) fun k1 l zo2=>?_
 obtain rfl:=zo2
 refine x2_1 (List.exists_cons_of_length_eq_add_one (Nat.succ.inj (Nat.succ.inj h))) fun k2 l zo2=>?_
 obtain rfl:=zo2
 refine x2_1 (List.exists_cons_of_length_eq_add_one (Nat.succ.inj (Nat.succ.inj (Nat.succ.inj h)))) fun k3 l zo2=>?_
 obtain rfl:=zo2
 refine x2_1 (List.exists_cons_of_length_eq_add_one (Nat.succ.inj (Nat.succ.inj (Nat.succ.inj (Nat.succ.inj h))))) fun k4 l zo2=>?_
 obtain rfl:=zo2
 refine x2_1 (List.exists_cons_of_length_eq_add_one (Nat.succ.inj (Nat.succ.inj (Nat.succ.inj (Nat.succ.inj (Nat.succ.inj h)))))) fun k5 l zo2=>?_
 obtain rfl:=zo2
 obtain rfl:=List.eq_nil_of_length_eq_zero (Nat.succ.inj (Nat.succ.inj (Nat.succ.inj (Nat.succ.inj (Nat.succ.inj (Nat.succ.inj h))))))
 cases e
 exact ⟨k0,k1,k2,k3,k5,rfl⟩
theorem qv8 {K:Frag} {h:Heap} {mg:Str -> Option Value} {x:Str} {C:Addr} {bmB:List Value} {newId:String} (X:K.In h) (hb:mg x = some (.ref C)) (q:exB K C bmB newId = true):OwnCls x C bmB newId mg h:=by
 refine ⟨hb,?_⟩
 unfold exB at q
 cases ho:K.lookup C with
 | none=>rw [ho] at q; cases q
 | some o =>
  rw [ho] at q
  replace q:exD K C bmB newId o = true:=q
  obtain ⟨oc,dd,dt,sl⟩:=o
  cases dt with
  | cls cd =>
   obtain ⟨nm,bs,mro,ns,qn,hd,sn,sub,ab,col,del⟩:=cd
   obtain ⟨l⟩:=sl
   unfold exD at q
   simp only [Bool.and_eq_true,beq_iff_eq,Bool.not_eq_true'] at q
   obtain ⟨⟨⟨⟨⟨⟨⟨rfl,q1⟩,q2⟩,q3⟩,q4⟩,rfl⟩,q5⟩,q6⟩:=q
   cases mro with
   | nil=>cases q1
   | cons m bm =>
    cases q1
    refine x5_1 (six q6 q5) fun k0 k1 k2 k3 k5 zo5=>?_
    obtain rfl:=zo5
    exact ⟨bm,ns,nm,qn,bs,hd,sn,sub,ab,col,dd,k0,k1,k2,k3,k5,_,X _ _ ho,.of_isNs (isNs_of_in X q3),nsMap_none_of_in X q3 q4,tail_of_in X q2⟩
  | _=>exact nomatch q
section
variable {X:Cx} {E:L2.St -> XK} {x:Str} {C:Addr} {B newId initId:String} {bm:List Value} {np cpos pos:Pos} {e₀:Expr} {rest:List Expr} {ta:TA}
noncomputable def qw3 (E:L2.St -> XK) (cls:Value) (ta:TA):TS:=fun _ σ H=>ta σ H fun vs H1=>vs.length <= sizeLine /\ E σ cls none H1
theorem qf4 (FB:ExcBaseFacts B newId initId bm) (hh:X.A.handled = none) (hm:X.mg x = some (.ref C)) (hc:exB X.K C bm newId = true) (hg:Gl X x) (ha:PA (X.wish (Fly X E)) (e₀ :: rest) ta)
  (he:starEach (e₀ :: rest) X.env = (false,eval e₀ X.env) :: starEach rest X.env:=by rfl) (hplain:(backTo cpos (starEach rest X.env)).any (·.1) = false:=by rfl) (hd:(x == ("__debug__" : Str)) = false:=by decide) :
  PS (X.wish (Fly X E)) (.Raise (some (.Call (.Name x np) (e₀ :: rest) [] cpos)) none pos) (qw3 E (.ref C) ta):=by
 intro pins s σ H D I h
 have O:OwnCls x C bm newId X.mg X.base:=qv8 I.ok.mod.kin hm hc
 obtain ⟨tl,N,nm,q,bs,hdct,sn,sub,ab,col,dd,k0,k1,k2,k3,k5,mN,hC,hN,hni,T⟩:=O.obj
 refine wpAny_Raise_call_subT (C:=C) (nm:=nm) (q:=q) (N:=N) (bs:=bs) (bm:=tl) (hdct:=hdct) (sn:=sn) (sub:=sub) (ab:=ab) (col:=col) (dd:=dd) (k0:=k0) (k1:=k1) (k2:=k2) (k3:=k3) (k5:=k5)
  FB (mN:=mN) (T.hasType FB.hasBase) hh (by rw [he]; show (false || (backTo cpos (starEach rest X.env)).any (·.1)) = false; rw [hplain]; rfl) hni (js3 I hg hm ⟨rfl,?_⟩ hd)
 have hp:=ha cpos pins s σ H _ I h
 rw [he] at hp ⊢
 refine Calls.evalArgs_plain (wpAny_mono hp (fun us s2 zz1=>?_) fun _ _ y=>y)
 refine x2_4 zz1 fun vs H1 I1 r z w=>?_
 clear zz1
 exact ⟨rfl,by rw [<- r.length]; exact z,I1.bk _ _ hC,hN.keeps I1.bk,T.keeps I1.bk,fun h' e hx=>qo7 I1.unwish (.of hx) w⟩
noncomputable def qj6 (sp:Sp) (E:L2.St -> XK) (t:TA):TE:=fun σ H Q=>t σ H fun vs H1=>sp vs H1 Q (E σ)
theorem qt5 {CX:CXT} {k:Nat} {f:Addr} {fd:FuncData} {ps:List Str} {sp:Sp} {pins:List (Addr × Obj)} {σ:L2.St} {H:Hp} {s:Shared} {Q:VK} {us:List Value} {vs:List V} (F:FnOk X.prog X.w X.K X.mg X.base (CXr X.prog X.w) k f fd ps sp) (hr:Room k X.A) (hb:Binds X.K fd ps [])
  (I:L2.Inv X pins σ H s) (r:Vals vs us) (h:sp vs H Q (E σ)):wpAny (model X.prog X.w) X.A (call (.ref f) us) (EP X pins σ Q) (Fly X E) s:=by
 have hl:(us ++ []).length = ps.length:=by rw [List.append_nil,<- r.length]; exact F.len _ _ _ _ h
 have hbd:=hb s us I.kIn hl
 rw [List.append_nil] at hbd
 refine wpAny_call (codeAny_mono (F.run X.A X.stack s H ⟨us,[]⟩ us vs Q (E σ) hr I.env0 hbd r h) fun r s' hq=>?_)
 cases r with
 | error e=>exact kk2 I hq
 | ok fl =>
  cases fl with
  | ret u=>exact I.after hq
  | next=>exact False.elim hq
  | brk=>exact False.elim hq
  | cont=>exact False.elim hq
theorem qi4 {k:Nat} {f:Addr} {fd:FuncData} {ps:List Str} {sp:Sp} {e:Expr} {es:List Expr} {t:TA} {p:Pos} (F:FnOk X.prog X.w X.K X.mg X.base (CXr X.prog X.w) k f fd ps sp) (hr:Room k X.A) (hg:Gl X x) (hm:X.mg x = some (.ref f)) (hk:PySem.W.keepIn X.K (.ref f) = true) (hb:Binds X.K fd ps [])
  (ha:PA (X.wish (Fly X E)) (e :: es) t) (hdb:(x == ("__debug__" : Str)) = false:=by decide) (he:starEach (e :: es) X.env = (false,eval e X.env) :: starEach es X.env:=by rfl) (hpl:(backTo pos (starEach es X.env)).any (·.1) = false:=by rfl) :
  PE (X.wish (Fly X E)) (.Call (.Name x p) (e :: es) [] pos) (qj6 sp E t):=by
 intro pins s σ H Q I h
 refine wpAny_Call_Name_kw (js3 I hg hm ?_ hdb)
 refine PySem.W.callWith_K (h₀:=X.base) I.ok.mod.kin hk (thn (ha pos pins s σ H _ I h) fun us s1 zz2=>zz2.elim fun vs zz3=>zz3.elim fun H1 zz4=>zz4.elim fun I1 zz5=>zz5.elim fun r q=>⟨I1.kIn,?_⟩) he hpl
 refine thn (qt5 (CX:=CXr X.prog X.w) F hr hb I1.unwish r q) fun u s2 zz6=>zz6.elim fun v zz7=>zz7.elim fun H2 zz8=>zz8.elim fun I2 zz9=>zz9.elim fun r2 q2=>⟨v,H2,I2.wish _,r2,q2⟩
noncomputable def vb4 (C:Addr) (sp:Sp) (E:L2.St -> XK) (t:TA):TE:=fun σ H Q=>t σ H fun vs H1=>∀ x dx,H1 x = none -> H1 dx = none -> dx ≠ x ->
 sp (.ref x :: vs) (upd (upd H1 dx (.own x)) x (.ins C dx [])) (fun v H2=>v = .non /\ Q (.ref x) H2) (E σ)
theorem kx9 {k:Nat} {f:Addr} {fd:FuncData} {ps:List Str} {sp:Sp} {pins:List (Addr × Obj)} {σ:L2.St} {H:Hp} {s:Shared} {Q:VK} {us:List Value} {vs:List V} (M:Mk X.K C f) (F:FnOk X.prog X.w X.K X.mg X.base (CXr X.prog X.w) k f fd ps sp) (hr:Room (k + 1) X.A) (hb:Binds X.K fd ps [])
  (I:L2.Inv X pins σ H s) (r:Vals vs us) (h:∀ x dx,H x = none -> H dx = none -> dx ≠ x -> sp (.ref x :: vs) (upd (upd H dx (.own x)) x (.ins C dx [])) (fun v H2=>v = .non /\ Q (.ref x) H2) (E σ)) :
  wpAny (model X.prog X.w) X.A (call (.ref C) us) (EP X pins σ Q) (Fly X E) s:=by
 have hq:=h (s.heap.objs.size + 1) s.heap.objs.size (I.hok.fresh (Nat.le_succ _)) (I.hok.fresh (Nat.le_refl _)) (Nat.ne_of_lt (Nat.lt_succ_self _))
 have I2:=Inv.made (C:=C) I
 have r2:Vals (V.ref (s.heap.objs.size + 1) :: vs) (Value.ref (s.heap.objs.size + 1) :: us):=.cons rfl r
 have hl:(Value.ref (s.heap.objs.size + 1) :: us ++ []).length = ps.length:=by
  rw [List.append_nil,<- r2.length]; exact F.len _ _ _ _ hq
 have hbd:=hb _ (Value.ref (s.heap.objs.size + 1) :: us) I2.kIn hl
 rw [List.append_nil] at hbd
 refine wpAny_call (qi8 (f:=f) I.kIn M.makes M.init (beq_iff_eq.mp M.fn) (codeAny_mono (F.run _ X.stack _ _ ⟨Value.ref (s.heap.objs.size + 1) :: us,[]⟩ (Value.ref (s.heap.objs.size + 1) :: us) _ _ (E σ) (hr.make C us [])
  (I2.env0.make C us []) hbd r2 hq) fun r s' hq'=>?_))
 cases r with
 | error e=>exact kk2 I2 hq'
 | ok fl =>
  cases fl with
  | ret u =>
   refine x2_4 (I2.after hq') fun v H' I3 rv ev q3=>?_
   subst ev
   exact ⟨rv,⟨V.ref (s.heap.objs.size + 1),H',I3,rfl,q3⟩⟩
  | next=>exact False.elim hq'
  | brk=>exact False.elim hq'
  | cont=>exact False.elim hq'
theorem qf5 {k:Nat} {f:Addr} {fd:FuncData} {ps:List Str} {sp:Sp} {e:Expr} {es:List Expr} {t:TA} {p:Pos} (M:Mk X.K C f) (F:FnOk X.prog X.w X.K X.mg X.base (CXr X.prog X.w) k f fd ps sp) (hr:Room (k + 1) X.A) (hg:Gl X x) (hm:X.mg x = some (.ref C)) (hb:Binds X.K fd ps [])
  (ha:PA (X.wish (Fly X E)) (e :: es) t) (hdb:(x == ("__debug__" : Str)) = false:=by decide) (he:starEach (e :: es) X.env = (false,eval e X.env) :: starEach es X.env:=by rfl) (hpl:(backTo pos (starEach es X.env)).any (·.1) = false:=by rfl) :
  PE (X.wish (Fly X E)) (.Call (.Name x p) (e :: es) [] pos) (vb4 C sp E t):=by
 intro pins s σ H Q I h
 refine wpAny_Call_Name_kw (js3 I hg hm ?_ hdb)
 refine PySem.W.callWith_K (h₀:=X.base) I.ok.mod.kin M.kp (thn (ha pos pins s σ H _ I h) fun us s1 zz10=>zz10.elim fun vs zz11=>zz11.elim fun H1 zz12=>zz12.elim fun I1 zz13=>zz13.elim fun r q=>⟨I1.kIn,?_⟩) he hpl
 refine thn (kx9 M F hr hb I1.unwish r q) fun u s2 zz14=>zz14.elim fun v zz15=>zz15.elim fun H2 zz16=>zz16.elim fun I2 zz17=>zz17.elim fun r2 q2=>⟨v,H2,I2.wish _,r2,q2⟩
theorem ke1 {P:Program} {w:World} {K:PySem.W.Frag} {mg:Str -> Option Value} {base:Heap} {x qual:Str} {st:Stmt} {f:Addr} {fd:FuncData} {N ps:List Str} {k:Nat} {sp:Sp} (F:Fun K x qual st f fd) (S:FnScope N ps (j4 st)) (len:∀ vs H Q E,sp vs H Q E -> vs.length = ps.length)
  (hbody:∀ (cdv:Value) (A:Around) (outer:List Env) (s:Shared) (H:Hp) (vs:List V) (Q:VK) (E:XK),Room k (A.deeper (envOfC qual (j4 st) s.heap.objs.size f cdv)) -> sp vs H Q E ->
   ∃ t,PSs ((cxOf (CXr P w) P w K mg base N qual (j4 st) f cdv A outer s H E).wish (Fly (cxOf (CXr P w) P w K mg base N qual (j4 st) f cdv A outer s H E) fun _=>E)) (v5 st) t /\ t { nx:=fun _ H'=>Q .non H',rt:=Q } (start N vs) H) :
  FnOk P w K mg base (CXr P w) (k + 1) f fd ps sp:=by
 refine x9_3 F.ex fun oc od kV doc pm an cdv ct osl zo9 lk hcd=>?_
 obtain rfl:=zo9
 refine qy9 lk hcd S len fun A outer s H vs Q E hr h=>?_
 refine x1_2 (hbody cdv A outer s H vs Q E hr h) fun t ht q=>?_
 refine ⟨t,fun pins s' σ H' D I hw=>?_,q⟩
 exact wpAny_mono (ht pins s' σ H' D (I.wish _) hw) (fun fl s'' hs=>SP.unwish hs) fun e s'' hs=>qb6 hs
end
end Dm
end T_Ex2
section T_Ex3
namespace Dm
open PySem PySem.Spec PyProof.Rows L2 PySem.W
section
variable {M:Model} {A:Around} {E:Value -> Shared -> Prop} {K:Frag} {h:Heap} {g:Array GenState} {d:Drawn} {t:Nat} {os:OsState} {e:Addr} {oe:Obj}
variable {nm q:Str} {C N:Addr} {bs bm:List Value} {hdct:Bool} {sn:List Str} {sub:List Value} {ab:Bool} {col:Option Bool} {dd:Option Addr} {k0 k1 k2 k3 k5:Option Value} {newId:String}
end
section
variable {K:Frag} {prog:Program} {w:World} {A:Around} {E:Value -> Shared -> Prop} {s:Shared} {Q:Value -> Shared -> Prop} {e C:Addr} {c:Value}
noncomputable def ve6 (e:Addr) (cls:Value) (h:Heap):Prop:=∃ o,h.get? e = some o /\ o.cls = cls
end
end Dm
end T_Ex3
section T_De
namespace Dm
open PySem PySem.Spec PyProof.Rows L2
inductive R (α:Type) where
 | ok (a:α) | ex (c:Addr) (p:Option Int) | bad
noncomputable def R.bind {α β:Type} (r:R α) (f:α -> R β):R β:=match r with | .ok a=>f a | .ex c p=>.ex c p | .bad=>.bad
noncomputable abbrev DSt:=List (Option D)
noncomputable abbrev DF:=DSt -> R D
noncomputable abbrev DA:=DSt -> R (List D)
inductive Out where
 | nx (st:DSt) | rt (d:D) | bk (st:DSt) | ct (st:DSt) | ex (c:Addr) (p:Option Int) (st:DSt) | bad
noncomputable abbrev DS:=DSt -> Out
noncomputable def exP (E:XK) (c:Addr) (p:Option Int) (H:Hp):Prop:=match p with
 | none=>E (.ref c) none H
 | some n=>∀ dx,H dx = some (.xd [("at",.int n)]) -> E (.ref c) (some dx) H
noncomputable def keepN:Option HO -> Bool
 | none=>true
 | some (.tup _)=>true
 | some (.frz _ (.tup _))=>true
 | _=>false
noncomputable def nw (G H:Hp):Hp:=fun a=>if keepN (G a) = true then H a else none
theorem Z6 (G H:Hp):Same (nw G H) H:=fun b o h=>by
 unfold nw at h; split at h
 ·exact h
 ·cases h
theorem J1 {G H H':Hp} (e:Same H H'):Same (nw G H) (nw G H'):=fun b o h=>by
 unfold nw at h ⊢; split at h
 ·rename_i q; rw [if_pos q]; exact e b o h
 ·cases h
theorem jn4 {G G':Hp} (e:Same G G') {a:Addr} (h:keepN (G' a) = true):keepN (G a) = true:=by
 cases q:G a with
 | none=>rfl
 | some o=>rw [e a o q] at h; exact h
theorem jz1 {G G' H:Hp} (e:Same G G'):Same (nw G' H) (nw G H):=fun b o h=>by
 unfold nw at h ⊢; split at h
 ·rename_i q; rw [if_pos (jn4 e q)]; exact h
 ·cases h
theorem jm5 {G H:Hp} {a:Addr} (h:G a = none):nw G H a = H a:=by unfold nw; rw [h]; rfl
noncomputable def KeepT (H G:Hp):Prop:=Same G H /\ ∀ a xs,Rd H a (.tup xs) -> Rd G a (.tup xs)
theorem KeepT.refl (H:Hp):KeepT H H:=⟨.refl _,fun _ _ h=>h⟩
theorem KeepT.trans {H G F:Hp} (a:KeepT H G) (b:KeepT G F):KeepT H F:=⟨b.1.trans a.1,fun x xs h=>b.2 x xs (a.2 x xs h)⟩
theorem KeepT.nw {G H:Hp} (e:Same G H):KeepT H (nw G H):=⟨Z6 _ _,fun a xs h=>by
 have k:keepN (G a) = true:=by
  cases q:G a with
  | none=>rfl
  | some o =>
   have:=e a o q
   rcases h with h | ⟨u,h⟩
   ·rw [h] at this; cases this; rfl
   ·rw [h] at this; cases this; rfl
 unfold Rd Dm.nw
 rw [if_pos k]; exact h⟩
theorem KeepT.er {H:Hp} {A:List Addr} (h:∀ a ∈ A,∃ xs,H a = some (.lst xs)):KeepT H (er H A):=⟨q9 _ _,fun a xs r=>by
 have k:a ∉ A:=fun m=>by
  obtain ⟨ys,q⟩:=h a m
  rcases r with r | ⟨u,r⟩
  ·rw [q] at r; cases r
  ·rw [q] at r; cases r
 unfold Rd
 rw [w8 k]; exact r⟩
mutual
noncomputable def noL:D -> Bool
 | .tup ds=>noLs ds
 | .lst _=>false
 | .brd _ _=>false
 | _=>true
noncomputable def noLs:List D -> Bool
 | []=>true
 | d :: ds=>noL d && noLs ds
end
theorem jf1:∀ {ds:List D} {d:D},noLs ds = true -> d ∈ ds -> noL d = true
 | _ :: _,_,h,.head _=>by rw [noLs,Bool.and_eq_true] at h; exact h.1
 | _ :: ds,_,h,.tail _ m=>by rw [noLs,Bool.and_eq_true] at h; exact jf1 h.2 m
theorem jc6:∀ {ds:List D},(∀ d ∈ ds,noL d = true) -> noLs ds = true
 | [],_=>rfl
 | d :: ds,h=>by rw [noLs,Bool.and_eq_true]; exact ⟨h d (.head _),jc6 fun x hx=>h x (.tail _ hx)⟩
section
variable {K:PySem.W.Frag} {C:Cfg} {H G:Hp}
theorem KeepT.sq (k:KeepT H G) {a:Addr} {xs:List V} (h:SqT K H a xs):SqT K G a xs:=by
 rcases h with h | h
 ·exact .inl (k.2 a xs h)
 ·exact .inr h
mutual
theorem Rep.part (k:KeepT H G):∀ (d:D) {v:V},noL d = true -> Rep K C H d v -> Rep K C G d v
 | .non,v,_,q=>by rw [Rep] at q ⊢; exact q
 | .bl b,v,_,q=>by rw [Rep] at q ⊢; exact q
 | .int i,v,_,q=>by rw [Rep] at q ⊢; exact q
 | .str x,v,_,q=>by rw [Rep] at q ⊢; exact q
 | .tup ds,v,n,q=>by
  rw [Rep] at q ⊢
  rw [noL] at n
  refine x2_3 q fun a xs h1 h2 h3=>?_
  clear q
  exact ⟨a,xs,h1,k.sq h2,Reps.part k ds n h3⟩
 | .lst ds,v,n,q=>by rw [noL] at n; cases n
 | .brd t ds,v,n,q=>by rw [noL] at n; cases n
theorem Reps.part (k:KeepT H G):∀ (ds:List D) {vs:List V},noLs ds = true -> Reps K C H ds vs -> Reps K C G ds vs
 | [],_,_,q=>by rw [Reps] at q ⊢; exact q
 | d :: ds,_,n,q=>by
  rw [Reps] at q ⊢
  rw [noLs,Bool.and_eq_true] at n
  refine x2_3 q fun v r e1 a b=>?_
  clear q
  exact ⟨v,r,e1,Rep.part k d n.1 a,Reps.part k ds n.2 b⟩
end
end
inductive Kd where
 | new | nwo | loc | old | tmn | tmp
inductive SK where
 | par | loc | own (n:Bool) | any
noncomputable def TopL (K:PySem.W.Frag) (C:Cfg) (G F:Hp) (d:D) (v:V):Prop:=∀ ds,d = .lst ds -> ∃ p xs,v = .ref p /\ G p = none /\ F p = some (.lst xs) /\ Reps K C (er F [p]) ds xs
section
variable (K:PySem.W.Frag) (C:Cfg)
noncomputable def Val (κ:Kd) (G0:Hp) (A:List Addr) (H H':Hp) (d:D) (v:V):Prop:=match κ with
 | .new=>Rep K C (nw H H') d v /\ TopL K C H (nw H H') d v
 | .nwo=>Rep K C (er H' A) d v /\ TopL K C H (er H' A) d v
 | .loc=>Rep K C (nw G0 (er H' A)) d v /\ TopL K C G0 (nw G0 (er H' A)) d v
 | .old=>Rep K C (er H' A) d v
 | .tmn=>Rep K C (nw G0 H') d v /\ TopL K C G0 (nw G0 H') d v
 | .tmp=>Rep K C H' d v
noncomputable def eh (n:Bool) (G0:Hp) (A:List Addr) (H:Hp):Hp:=if n = true then nw G0 (er H A) else er H A
noncomputable def Slot (k:SK) (G0:Hp) (A:List Addr) (H:Hp) (d:D) (v:V):Prop:=match k with
 | .par=>Rep K C (er H A) d v
 | .loc=>Rep K C (nw G0 (er H A)) d v /\ TopL K C G0 (nw G0 (er H A)) d v
 | .own n=>(∃ ds p xs,d = .lst ds /\ v = .ref p /\ p ∈ A /\ G0 p = none /\ H p = some (.lst xs) /\ Reps K C (eh n G0 A H) ds xs) \/ ((∀ ds,d ≠ .lst ds) /\ Rep K C (eh n G0 A H) d v)
 | .any=>Rep K C H d v
structure RS (G0:Hp) (Γ:List SK) (σ:L2.St) (H:Hp) (A:List Addr) (st:DSt):Prop where
 base:Same G0 (er H A)
 lists:∀ a ∈ A,∃ xs,H a = some (.lst xs)
 len:σ.length = st.length
 slot:∀ (i:Nat) (d:D),st[i]? = some (some d) -> ∃ k v,Γ[i]? = some k /\ σ[i]? = some (some v) /\ Slot K C k G0 A H d v
 apart:∀ (i j:Nat) (n m:Bool) (p:Addr) (ds es:List D),i ≠ j -> Γ[i]? = some (.own n) -> Γ[j]? = some (.own m) -> st[i]? = some (some (.lst ds)) -> st[j]? = some (some (.lst es)) -> σ[i]? = some (some (.ref p)) -> σ[j]? ≠ some (some (.ref p))
end
section
variable {K:PySem.W.Frag} {C:Cfg} {G0:Hp} {Γ:List SK} {σ:L2.St} {H H' H'' H1:Hp} {A:List Addr} {st:DSt} {κ:Kd} {d:D} {v:V}
theorem TopL.mono {G F F':Hp} (f:Same F F') (t:TopL K C G F d v):TopL K C G F' d v:=fun ds h=>by
 refine x2_4 (t ds h) fun p xs a b c q=>?_
 exact ⟨p,xs,a,b,f _ _ c,q.same (q0 f) _⟩
theorem TopL.early {G G' F:Hp} (e:Same G G') (t:TopL K C G' F d v):TopL K C G F d v:=fun ds h=>by
 refine x2_3 (t ds h) fun p xs a b c=>?_
 exact ⟨p,xs,a,e.free b,c⟩
theorem TopL.noL {G F:Hp} (n:noL d = true):TopL K C G F d v:=fun ds h=>by subst h; rw [Dm.noL] at n; cases n
theorem Val.later (e:Same H' H'') (q:Val K C κ G0 A H H' d v):Val K C κ G0 A H H'' d v:=by
 cases κ with
 | new=>exact ⟨q.1.same (J1 e) _,q.2.mono (J1 e)⟩
 | nwo=>exact ⟨q.1.same (q0 e) _,q.2.mono (q0 e)⟩
 | loc=>exact ⟨q.1.same (J1 (q0 e)) _,q.2.mono (J1 (q0 e))⟩
 | old=>exact Rep.same (q0 e) _ q
 | tmn=>exact ⟨q.1.same (J1 e) _,q.2.mono (J1 e)⟩
 | tmp=>exact Rep.same e _ q
theorem Val.early (e:Same H H1) (q:Val K C κ G0 A H1 H' d v):Val K C κ G0 A H H' d v:=by
 cases κ with
 | new=>exact ⟨q.1.same (jz1 e) _,(q.2.early e).mono (jz1 e)⟩
 | nwo=>exact ⟨q.1,q.2.early e⟩
 | loc=>exact q
 | old=>exact q
 | tmn=>exact q
 | tmp=>exact q
theorem Val.rep (q:Val K C κ G0 A H H' d v):Rep K C H' d v:=by
 cases κ with
 | new=>exact q.1.same (Z6 _ _) _
 | nwo=>exact q.1.same (q9 _ _) _
 | loc=>exact q.1.same ((Z6 _ _).trans (q9 _ _)) _
 | old=>exact Rep.same (q9 _ _) _ q
 | tmn=>exact q.1.same (Z6 _ _) _
 | tmp=>exact q
theorem RS.mono (r:RS K C G0 Γ σ H A st) (e:Same H H'):RS K C G0 Γ σ H' A st where
 base:=r.base.trans (q0 e)
 lists:=fun a m=>let ⟨xs,h⟩:=r.lists a m; ⟨xs,e _ _ h⟩
 len:=r.len
 slot:=fun i d h=>by
  refine x2_3 (r.slot i d h) fun k v h1 h2 h3=>?_
  refine ⟨k,v,h1,h2,?_⟩
  have ee:∀ n,Same (eh n G0 A H) (eh n G0 A H'):=fun n=>by
   unfold eh; cases n
   ·exact q0 e
   ·exact J1 (q0 e)
  cases k with
  | par=>exact Rep.same (q0 e) _ h3
  | loc=>exact ⟨h3.1.same (J1 (q0 e)) _,h3.2.mono (J1 (q0 e))⟩
  | own n =>
   rcases h3 with ⟨ds,p,xs,a,b,c,f,g,j⟩ | ⟨a,b⟩
   ·exact .inl ⟨ds,p,xs,a,b,c,f,e _ _ g,j.same (ee n) _⟩
   ·exact .inr ⟨a,b.same (ee n) _⟩
  | any=>exact Rep.same e _ h3
 apart:=r.apart
theorem RS.g0 (r:RS K C G0 Γ σ H A st):Same G0 H:=r.base.trans (q9 _ _)
theorem RS.keepE (r:RS K C G0 Γ σ H A st):KeepT H (er H A):=.er r.lists
theorem RS.keepN (r:RS K C G0 Γ σ H A st):KeepT H (nw G0 (er H A)):=r.keepE.trans (.nw r.base)
theorem Val.flat (r:RS K C G0 Γ σ H A st) (e:Same H H') (n:noL d = true) (q:Rep K C H' d v) (κ:Kd):Val K C κ G0 A H H' d v:=by
 have r':=r.mono e
 cases κ with
 | new=>exact ⟨q.part (.nw e) _ n,.noL n⟩
 | nwo=>exact ⟨q.part r'.keepE _ n,.noL n⟩
 | loc=>exact ⟨q.part r'.keepN _ n,.noL n⟩
 | old=>exact Rep.part r'.keepE _ n q
 | tmn=>exact ⟨q.part (.nw r'.g0) _ n,.noL n⟩
 | tmp=>exact q
theorem RS.new_er (r:RS K C G0 Γ σ H A st) (e:Same H H'):Same (nw H H') (er H' A):=fun b o h=>by
 unfold nw at h; split at h
 ·rename_i q
  have:b ∉ A:=fun m=>by
   obtain ⟨xs,hx⟩:=r.lists b m
   rw [hx] at q; cases q
  rw [w8 this]; exact h
 ·cases h
theorem RS.new_loc (r:RS K C G0 Γ σ H A st) (e:Same H H'):Same (nw H H') (nw G0 (er H' A)):=fun b o h=>by
 have h1:=r.new_er e b o h
 unfold nw at h; split at h
 ·rename_i q
  unfold nw
  rw [if_pos (jn4 r.g0 q)]; exact h1
 ·cases h
noncomputable def Kd.le:Kd -> Kd -> Bool
 | .new,_=>true
 | .nwo,.nwo=>true | .nwo,.old=>true | .nwo,.tmp=>true
 | .loc,.loc=>true | .loc,.old=>true | .loc,.tmn=>true | .loc,.tmp=>true
 | .old,.old=>true | .old,.tmp=>true
 | .tmn,.tmn=>true | .tmn,.tmp=>true
 | .tmp,.tmp=>true
 | _,_=>false
theorem Val.le (r:RS K C G0 Γ σ H A st) (e:Same H H') {κ κ':Kd} (l:κ.le κ' = true) (q:Val K C κ G0 A H H' d v):Val K C κ' G0 A H H' d v:=by
 have ne:=r.new_er e
 have nl:=r.new_loc e
 cases κ <;> cases κ' <;> first
  | exact q
  | (cases l; done)
  | exact q.rep
  | exact ⟨q.1.same ne _,q.2.mono ne⟩
  | exact ⟨q.1.same nl _,(q.2.early r.g0).mono nl⟩
  | exact q.1.same ne _
  | exact ⟨q.1.same (nl.trans (J1 (q9 _ _))) _,(q.2.early r.g0).mono (nl.trans (J1 (q9 _ _)))⟩
  | exact q.1
  | exact q.1.same (Z6 _ _) _
  | exact ⟨q.1.same (J1 (q9 _ _)) _,q.2.mono (J1 (q9 _ _))⟩
end
end Dm
end T_De
section T_De2
namespace Dm
open PySem PySem.Spec PyProof.Rows L2
noncomputable def Kd.hp (κ:Kd) (G0:Hp) (A:List Addr) (H H':Hp):Hp:=match κ with
 | .new=>nw H H' | .nwo=>er H' A | .loc=>nw G0 (er H' A) | .old=>er H' A | .tmn=>nw G0 H' | .tmp=>H'
noncomputable def SK.kd:SK -> Kd
 | .par=>.old | .loc=>.loc | .own true=>.tmn | .own false=>.tmp | .any=>.tmp
noncomputable def SK.takes:SK -> Kd -> Bool
 | .par,κ=>κ.le .old
 | .loc,κ=>κ.le .loc
 | .own true,κ=>κ.le .new
 | .own false,κ=>κ.le .nwo
 | .any,_=>true
theorem Kd.le_new:∀ {κ:Kd},κ.le .new = true -> κ = .new
 | .new,_=>rfl
section
variable {K:PySem.W.Frag} {C:Cfg} {G0:Hp} {Γ:List SK} {σ:L2.St} {H H' H'' H1:Hp} {A:List Addr} {st:DSt} {κ:Kd} {d:D} {v:V}
theorem Val.hp (q:Val K C κ G0 A H H' d v):Rep K C (κ.hp G0 A H H') d v:=by
 cases κ with
 | new=>exact q.1
 | nwo=>exact q.1
 | loc=>exact q.1
 | old=>exact q
 | tmn=>exact q.1
 | tmp=>exact q
theorem Kd.hp_later (e:Same H' H''):Same (κ.hp G0 A H H') (κ.hp G0 A H H''):=by
 cases κ with
 | new=>exact J1 e
 | nwo=>exact q0 e
 | loc=>exact J1 (q0 e)
 | old=>exact q0 e
 | tmn=>exact J1 e
 | tmp=>exact e
theorem Kd.hp_early (e:Same H H1):Same (κ.hp G0 A H1 H') (κ.hp G0 A H H'):=by
 cases κ with
 | new=>exact jz1 e
 | nwo=>exact .refl _
 | loc=>exact .refl _
 | old=>exact .refl _
 | tmn=>exact .refl _
 | tmp=>exact .refl _
theorem Kd.hp_all:Same (κ.hp G0 A H H') H':=by
 cases κ with
 | new=>exact Z6 _ _
 | nwo=>exact q9 _ _
 | loc=>exact (Z6 _ _).trans (q9 _ _)
 | old=>exact q9 _ _
 | tmn=>exact Z6 _ _
 | tmp=>exact .refl _
theorem RS.keep (r:RS K C G0 Γ σ H A st) (e:Same H H'):KeepT H' (κ.hp G0 A H H'):=by
 have r':=r.mono e
 cases κ with
 | new=>exact .nw e
 | nwo=>exact r'.keepE
 | loc=>exact r'.keepN
 | old=>exact r'.keepE
 | tmn=>exact .nw r'.g0
 | tmp=>exact .refl _
theorem Y5 {p:Addr} {o:HO} (h:H p = none):Same H (upd H p o):=fun b u q=>by rw [y3 (J5 q h)]; exact q
theorem qs8 (r:RS K C G0 Γ σ H A st) (e:Same H H') {p:Addr} {o:HO} (h:H' p = none):κ.hp G0 A H (upd H' p o) p = some o:=by
 have h0:H p = none:=e.free h
 have g0:G0 p = none:=r.g0.free h0
 have nA:p ∉ A:=fun m=>by obtain ⟨xs,q⟩:=r.lists p m; rw [h0] at q; cases q
 have u:upd H' p o p = some o:=Q7
 cases κ with
 | new=>show nw H _ p = _; rw [jm5 h0]; exact u
 | nwo=>show er _ A p = _; rw [w8 nA]; exact u
 | loc=>show nw G0 _ p = _; rw [jm5 g0,w8 nA]; exact u
 | old=>show er _ A p = _; rw [w8 nA]; exact u
 | tmn=>show nw G0 _ p = _; rw [jm5 g0]; exact u
 | tmp=>exact u
theorem Val.tup (r:RS K C G0 Γ σ H A st) (e:Same H H') {p:Addr} {ds:List D} {xs:List V} (h:H' p = none) (q:Reps K C (κ.hp G0 A H H') ds xs):Val K C κ G0 A H (upd H' p (.tup xs)) (.tup ds) (.ref p):=by
 have R:Rep K C (κ.hp G0 A H (upd H' p (.tup xs))) (.tup ds) (.ref p):=by
  rw [Rep]
  exact ⟨p,xs,rfl,.of (qs8 r e h),q.same (Kd.hp_later (Y5 h)) _⟩
 have T:∀ G F,TopL K C G F (.tup ds) (.ref p):=fun G F ds' z=>by cases z
 cases κ with
 | new=>exact ⟨R,T _ _⟩
 | nwo=>exact ⟨R,T _ _⟩
 | loc=>exact ⟨R,T _ _⟩
 | old=>exact R
 | tmn=>exact ⟨R,T _ _⟩
 | tmp=>exact R
theorem Val.lst (r:RS K C G0 Γ σ H A st) (e:Same H H') {p:Addr} {ds:List D} {xs:List V} (h:H' p = none) (q:Reps K C (κ.hp G0 A H H') ds xs):Val K C κ G0 A H (upd H' p (.lst xs)) (.lst ds) (.ref p):=by
 have h0:H p = none:=e.free h
 have R0:Reps K C (er (κ.hp G0 A H (upd H' p (.lst xs))) [p]) ds xs:=by
  refine q.same (fun b u z=>?_) _
  have nb:b ≠ p:=fun w=>by
   have:=Kd.hp_all _ _ z
   rw [w,h] at this; cases this
  rw [w8 (by simpa using nb)]
  exact Kd.hp_later (Y5 h) _ _ z
 have R:Rep K C (κ.hp G0 A H (upd H' p (.lst xs))) (.lst ds) (.ref p):=by
  rw [Rep]
  exact ⟨p,xs,rfl,.of (qs8 r e h),R0⟩
 have T:∀ G,G p = none -> TopL K C G (κ.hp G0 A H (upd H' p (.lst xs))) (.lst ds) (.ref p):=fun G g ds' z=>by cases z; exact ⟨p,xs,rfl,g,qs8 r e h,R0⟩
 cases κ with
 | new=>exact ⟨R,T _ h0⟩
 | nwo=>exact ⟨R,T _ h0⟩
 | loc=>exact ⟨R,T _ (r.g0.free h0)⟩
 | old=>exact R
 | tmn=>exact ⟨R,T _ (r.g0.free h0)⟩
 | tmp=>exact R
theorem RS.read (r:RS K C G0 Γ σ H A st) {i:Nat} {k:SK} (hk:Γ[i]? = some k) (h:st[i]? = some (some d)):∃ v,σ[i]? = some (some v) /\ Val K C k.kd G0 A H H d v:=by
 refine x2_3 (r.slot i d h) fun k' v h1 h2 h3=>?_
 rw [hk] at h1; cases h1
 refine ⟨v,h2,?_⟩
 cases k with
 | par=>exact h3
 | loc=>exact h3
 | any=>exact h3
 | own n =>
  rcases h3 with ⟨ds,p,xs,rfl,rfl,c,f,g,j⟩ | ⟨a,b⟩
  ·have R0:∀ F:Hp,Same (eh n G0 A H) F -> Reps K C (er F [p]) ds xs:=fun F e=>by
    refine j.same (fun b u w=>?_) _
    have nb:b ≠ p:=fun w'=>by
     subst w'
     unfold eh at w
     cases n with
     | true=>have:=Z6 _ _ _ _ w; rw [jb8 c] at this; cases this
     | false=>rw [if_neg (by decide),jb8 c] at w; cases w
    rw [w8 (by simpa using nb)]
    exact e _ _ w
   have R:∀ F:Hp,Same (eh n G0 A H) F -> F p = some (.lst xs) -> Rep K C F (.lst ds) (.ref p):=fun F e z=>by
    rw [Rep]
    exact ⟨p,xs,rfl,.of z,R0 F e⟩
   cases n with
   | true=>exact ⟨R _ (by unfold eh; exact J1 (q9 _ _)) (by rw [jm5 f]; exact g),fun ds' z=>by cases z; exact ⟨p,xs,rfl,f,by rw [jm5 f]; exact g,R0 _ (by unfold eh; exact J1 (q9 _ _))⟩⟩
   | false=>exact R _ (by unfold eh; exact q9 _ _) g
  ·cases n with
   | true=>exact ⟨b.same (by unfold eh; exact J1 (q9 _ _)) _,fun ds z=>absurd z (a ds)⟩
   | false=>exact b.same (by unfold eh; exact q9 _ _) _
theorem RS.set (r:RS K C G0 Γ σ H A st) (e:Same H H') {i:Nat} {k:SK} (hk:Γ[i]? = some k) (l:k.takes κ = true) (q:Val K C κ G0 A H H' d v) :
  ∃ A',RS K C G0 Γ (σ.set i (some v)) H' A' (st.set i (some d)) /\ Same (er H A) (er H' A') /\ ∀ a ∈ A,a ∈ A':=by
 have r':=r.mono e
 have same:(∀ n,k = .own n -> ∀ ds,d ≠ .lst ds) -> Slot K C k G0 A H' d v -> ∃ A',RS K C G0 Γ (σ.set i (some v)) H' A' (st.set i (some d)) /\ Same (er H A) (er H' A') /\ ∀ a ∈ A,a ∈ A':=fun nl s=>by
  refine ⟨A,⟨r'.base,r'.lists,by simp [r.len],fun j d' h=>?_,fun a b n m p ds es hab g1 g2 s1 s2 w1 w2=>?_⟩,q0 e,fun _ m=>m⟩
  ·by_cases hj:i = j
   ·subst hj
    have hlt:i < st.length:=by
     have:=(List.getElem?_eq_some_iff.mp h).1
     simpa using this
    rw [List.getElem?_set_self hlt] at h
    cases h
    exact ⟨k,v,hk,List.getElem?_set_self (by rw [r.len]; exact hlt),s⟩
   ·rw [List.getElem?_set_ne hj] at h ⊢
    exact r'.slot j d' h
  ·have ha:a ≠ i:=fun z=>by
    subst z
    have hlt:a < st.length:=by
     have:=(List.getElem?_eq_some_iff.mp s1).1
     simpa using this
    rw [List.getElem?_set_self hlt] at s1
    rw [hk] at g1
    exact nl n (Option.some.inj g1) ds (Option.some.inj (Option.some.inj s1))
   have hb:b ≠ i:=fun z=>by
    subst z
    have hlt:b < st.length:=by
     have:=(List.getElem?_eq_some_iff.mp s2).1
     simpa using this
    rw [List.getElem?_set_self hlt] at s2
    rw [hk] at g2
    exact nl m (Option.some.inj g2) es (Option.some.inj (Option.some.inj s2))
   rw [List.getElem?_set_ne (Ne.symm ha)] at s1 w1
   rw [List.getElem?_set_ne (Ne.symm hb)] at s2 w2
   exact r.apart a b n m p ds es hab g1 g2 s1 s2 w1 w2
 cases k with
 | par=>exact same (fun _ z=>by cases z) (Val.le r e (κ':=.old) l q)
 | loc=>exact same (fun _ z=>by cases z) (Val.le r e (κ':=.loc) l q)
 | any=>exact same (fun _ z=>by cases z) q.rep
 | own n =>
  have q1:Val K C .nwo G0 A H H' d v:=Val.le r e (κ':=.nwo) (by cases n <;> cases κ <;> first | rfl | cases l) q
  have q2:n = true -> Val K C .loc G0 A H H' d v:=fun z=>by
   subst z
   obtain rfl:=Kd.le_new (κ:=κ) l
   exact Val.le r e rfl q
  by_cases hd:∃ ds,d = .lst ds
  ·obtain ⟨ds,rfl⟩:=hd
   refine x2_4 (q1.2 ds rfl) fun p xs zo2 h0 hp' i1=>?_
   obtain rfl:=zo2
   have hp:H' p = some (.lst xs):=q9 _ _ _ _ hp'
   have pA:p ∉ A:=fun m=>by obtain ⟨ys,z⟩:=r.lists p m; rw [h0] at z; cases z
   have g0:G0 p = none:=r.g0.free h0
   have ee:Same (er H A) (er H' (p :: A)):=fun b u z=>by
    have nb:b ≠ p:=fun w=>by have:=q9 _ _ _ _ z; rw [w,h0] at this; cases this
    by_cases mb:b ∈ A
    ·rw [jb8 mb] at z; cases z
    ·rw [w8 (by simp [nb,mb])]
     rw [w8 mb] at z
     exact e _ _ z
   have eeh:∀ m,Same (eh m G0 A H) (eh m G0 (p :: A) H'):=fun m=>by
    unfold eh; cases m
    ·exact ee
    ·exact J1 ee
   have items:Reps K C (eh n G0 (p :: A) H') ds xs:=by
    cases n with
    | false=>exact i1.same (fun b u z=>by
      by_cases mb:b ∈ [p]
      ·rw [jb8 mb] at z; cases z
      ·rw [w8 mb] at z
       by_cases ma:b ∈ A
       ·rw [jb8 ma] at z; cases z
       ·rw [w8 ma] at z
        show er H' (p :: A) b = _
        rw [w8 (by simpa [ma] using mb)]; exact z) _
    | true =>
     refine x2_4 ((q2 rfl).2 ds rfl) fun p' xs' e1 _ e2 i2=>?_
     cases e1
     have e2:=q9 _ _ _ _ (Z6 _ _ _ _ e2)
     rw [hp] at e2
     cases e2
     exact i2.same (fun b u z=>by
      by_cases mb:b ∈ [p]
      ·rw [jb8 mb] at z; cases z
      ·rw [w8 mb] at z
       show nw G0 (er H' (p :: A)) b = _
       unfold nw at z ⊢
       split at z
       ·rename_i kk
        rw [if_pos kk]
        by_cases ma:b ∈ A
        ·rw [jb8 ma] at z; cases z
        ·rw [w8 ma] at z
         rw [w8 (by simpa [ma] using mb)]; exact z
       ·cases z) _
   refine ⟨p :: A,⟨r.base.trans ee,fun a m=>?_,by simp [r.len],fun j d' h=>?_,fun a b n' m' p' ds' es' hab g1 g2 s1 s2 w1 w2=>?_⟩,ee,fun _ m=>.tail _ m⟩
   ·rcases List.mem_cons.mp m with rfl | m
    ·exact ⟨xs,hp⟩
    ·exact r'.lists a m
   ·by_cases hj:i = j
    ·subst hj
     have hlt:i < st.length:=by
      have:=(List.getElem?_eq_some_iff.mp h).1
      simpa using this
     rw [List.getElem?_set_self hlt] at h
     cases h
     exact ⟨.own n,.ref p,hk,List.getElem?_set_self (by rw [r.len]; exact hlt),.inl ⟨ds,p,xs,rfl,rfl,.head _,g0,hp,items⟩⟩
    ·rw [List.getElem?_set_ne hj] at h ⊢
     refine x2_3 (r.slot j d' h) fun k' v' h1 h2 h3=>?_
     refine ⟨k',v',h1,h2,?_⟩
     cases k' with
     | par=>exact Rep.same ee _ h3
     | loc=>exact ⟨h3.1.same (J1 ee) _,h3.2.mono (J1 ee)⟩
     | any=>exact Rep.same e _ h3
     | own m =>
      rcases h3 with ⟨ds2,p2,xs2,a,b,c,f,g,j⟩ | ⟨a,b⟩
      ·exact .inl ⟨ds2,p2,xs2,a,b,.tail _ c,f,e _ _ g,j.same (eeh m) _⟩
      ·exact .inr ⟨a,b.same (eeh m) _⟩
   ·
    have old:∀ {c:Nat} {nn:Bool} {cs:List D},c ≠ i -> Γ[c]? = some (.own nn) -> (st.set i (some (.lst ds)))[c]? = some (some (.lst cs)) -> (σ.set i (some (.ref p)))[c]? ≠ some (some (.ref p)):=fun {c nn cs} hc gc sc wc=>by
     rw [List.getElem?_set_ne (Ne.symm hc)] at sc wc
     refine x2_3 (r.slot c _ sc) fun k' v' h1 h2 h3=>?_
     rw [gc] at h1; cases h1
     rw [wc] at h2; cases h2
     rcases h3 with ⟨ds2,p2,xs2,a,b,c',_⟩ | ⟨a,_⟩
     ·cases b; exact pA c'
     ·exact a _ rfl
    by_cases ha:a = i
    ·subst ha
     have hlt:a < st.length:=by
      have:=(List.getElem?_eq_some_iff.mp s1).1
      simpa using this
     rw [List.getElem?_set_self (by rw [r.len]; exact hlt)] at w1
     cases w1
     exact old (Ne.symm hab) g2 s2 w2
    ·by_cases hb:b = i
     ·subst hb
      have hlt:b < st.length:=by
       have:=(List.getElem?_eq_some_iff.mp s2).1
       simpa using this
      rw [List.getElem?_set_self (by rw [r.len]; exact hlt)] at w2
      cases w2
      exact old ha g1 s1 w1
     ·rw [List.getElem?_set_ne (Ne.symm ha)] at s1 w1
      rw [List.getElem?_set_ne (Ne.symm hb)] at s2 w2
      exact r.apart a b n' m' p' ds' es' hab g1 g2 s1 s2 w1 w2
  ·refine same (fun _ _ ds z=>hd ⟨ds,z⟩) (.inr ⟨fun ds z=>hd ⟨ds,z⟩,?_⟩)
   cases n with
   | false=>exact q1.1
   | true=>exact (q2 rfl).1
end
end Dm
end T_De2
section T_De3
namespace Dm
open PySem PySem.Spec PyProof.Rows L2
section
variable (K:PySem.W.Frag) (C:Cfg) (G0:Hp) (Γ:List SK) (E:L2.St -> XK)
noncomputable def tD (f:DF) (κ:Kd):TE:=fun σ H Q=>∃ A st,RS K C G0 Γ σ H A st /\ match f st with
 | .ok d=>∀ v H',Same H H' -> Val K C κ G0 A H H' d v -> Q v H'
 | .ex c p=>∀ H',Same H H' -> exP (E σ) c p H'
 | .bad=>False
noncomputable def tDA (f:DA) (κ:Kd):TA:=fun σ H Q=>∃ A st,RS K C G0 Γ σ H A st /\ match f st with
 | .ok ds=>∀ vs H',Same H H' -> Reps K C (κ.hp G0 A H H') ds vs -> Q vs H'
 | .ex c p=>∀ H',Same H H' -> exP (E σ) c p H'
 | .bad=>False
noncomputable def tDT (f:DF):TT:=fun σ H Q=>∃ A st,RS K C G0 Γ σ H A st /\ match f st with
 | .ok (.bl b)=>∀ H',Same H H' -> Q b H'
 | .ex c p=>∀ H',Same H H' -> exP (E σ) c p H'
 | _=>False
end
theorem _root_.L2.PE.imp {X:Cx} {e:Expr} {t t':TE} (h:PE X e t) (i:∀ σ H Q,t' σ H Q -> t σ H Q):PE X e t':=fun pins s σ H Q I q=>h pins s σ H Q I (i σ H Q q)
theorem _root_.L2.PT.imp {X:Cx} {e:Expr} {t t':TT} (h:PT X e t) (i:∀ σ H Q,t' σ H Q -> t σ H Q):PT X e t':=fun pins s σ H Q I q=>h pins s σ H Q I (i σ H Q q)
theorem _root_.L2.PW.imp {X:Cx} {e:Expr} {t t':TT} (h:PW X e t) (i:∀ σ H Q,t' σ H Q -> t σ H Q):PW X e t':=fun w pins s σ H Q I q=>h w pins s σ H Q I (i σ H Q q)
theorem _root_.L2.PA.imp {X:Cx} {e:List Expr} {t t':TA} (h:PA X e t) (i:∀ σ H Q,t' σ H Q -> t σ H Q):PA X e t':=fun p pins s σ H Q I q=>h p pins s σ H Q I (i σ H Q q)
theorem _root_.L2.PS.imp {X:Cx} {e:Stmt} {t t':TS} (h:PS X e t) (i:∀ D σ H,t' D σ H -> t D σ H):PS X e t':=fun pins s σ H D I q=>h pins s σ H D I (i D σ H q)
theorem _root_.L2.PSs.imp {X:Cx} {e:List Stmt} {t t':TS} (h:PSs X e t) (i:∀ D σ H,t' D σ H -> t D σ H):PSs X e t':=fun pins s σ H D I q=>h pins s σ H D I (i D σ H q)
noncomputable def dVar (i:Nat):DF:=fun st=>match st[i]? with | some (some d)=>.ok d | _=>.bad
noncomputable def dC (d:D):DF:=fun _=>.ok d
noncomputable def v6 (f:DF):DF:=fun st=>(f st).bind fun d=>if noL d = true then .ok d else .bad
noncomputable def dOp (g:D -> D -> R D) (fa fb:DF):DF:=fun st=>(fa st).bind fun a=>(fb st).bind fun b=>g a b
noncomputable def dUn (g:D -> R D) (fa:DF):DF:=fun st=>(fa st).bind g
noncomputable def aNil:DA:=fun _=>.ok []
noncomputable def j2 (f:DF) (g:DA):DA:=fun st=>(f st).bind fun d=>(g st).bind fun ds=>.ok (d :: ds)
noncomputable def dFn (g:List D -> R D) (f:DA):DF:=fun st=>(f st).bind g
noncomputable def dAnd (fa fb:DF):DF:=fun st=>(fa st).bind fun a=>match a with | .bl true=>fb st | .bl false=>.ok (.bl false) | _=>.bad
noncomputable def dOr (fa fb:DF):DF:=fun st=>(fa st).bind fun a=>match a with | .bl true=>.ok (.bl true) | .bl false=>fb st | _=>.bad
noncomputable def dNot (fa:DF):DF:=fun st=>(fa st).bind fun a=>match a with | .bl b=>.ok (.bl (!b)) | _=>.bad
section
variable {X:Cx} {C:Cfg} {G0:Hp} {Γ:List SK} {E:L2.St -> XK} {e a b c:Expr} {f fa fb fc:DF} {κ κ' κa κb:Kd} {es:List Expr} {fs:DA} {pos:Pos}
theorem kv2 (i:Nat) {k:SK} (h:PE X e (tVar i)) (hk:Γ[i]? = some k:=by rfl):PE X e (tD X.K C G0 Γ E (dVar i) k.kd):=h.imp fun σ H Q zz=>by
 refine x2_2 zz fun A st r q=>?_
 clear zz
 unfold dVar at q
 cases hs:st[i]? with
 | none=>rw [hs] at q; exact q.elim
 | some o =>
  cases o with
  | none=>rw [hs] at q; exact q.elim
  | some d =>
   rw [hs] at q
   refine x1_2 (r.read hk hs) fun v h1 h2=>?_
   exact ⟨v,h1,q v H (.refl _) h2⟩
theorem de_c {v:V} {d:D} (h:PE X e (tC v)) (n:noL d = true) (q:∀ H,Rep X.K C H d v):PE X e (tD X.K C G0 Γ E (dC d) .new):=h.imp fun σ H Q zz1=>zz1.elim fun A zz2=>zz2.elim fun st zz3=>zz3.elim fun r k=>k v H (.refl _) (.flat r (.refl _) n (q H) _)
theorem j5 {i:Int} {j}:PE X (.Constant (.int i) j pos) (tD X.K C G0 Γ E (dC (.int i)) .new):=de_c qw0 (by rw [noL] <;> simp) fun H=>by rw [Rep]
theorem kd7 {i:Bool} {j}:PE X (.Constant (.bool i) j pos) (tD X.K C G0 Γ E (dC (.bl i)) .new):=de_c vd6 (by rw [noL] <;> simp) fun H=>by rw [Rep]
theorem jk0 {x:Str} {i:Int} {t:Tok} (hg:Gl X x) (hm:X.mg x = some (.int i t)) (hd:(x == ("__debug__" : Str)) = false:=by decide):PE X (.Name x pos) (tD X.K C G0 Γ E (dC (.int i)) .new):=de_c (qs0 hg hm (v:=.int i) ⟨t,rfl⟩ hd) (by rw [noL] <;> simp) fun H=>by rw [Rep]
theorem y8 (h:PE X e (tD X.K C G0 Γ E f κ)):PE X e (tD X.K C G0 Γ E (v6 f) .new):=h.imp fun σ H Q zz7=>zz7.elim fun A zz8=>zz8.elim fun st zz9=>zz9.elim fun r q=>⟨A,st,r,by
 unfold v6 R.bind at q
 cases hf:f st with
 | ok d =>
  rw [hf] at q
  dsimp only at q ⊢
  by_cases n:noL d = true
  ·rw [if_pos n] at q
   exact fun v H' e w=>q v H' e (.flat r e n w.rep _)
  ·rw [if_neg n] at q; exact q.elim
 | ex c p=>rw [hf] at q; exact q
 | bad=>rw [hf] at q; exact q⟩
noncomputable def OpD (K:PySem.W.Frag) (C:Cfg) (r2:R2) (g:D -> D -> R D) (κ:Kd):Prop:=∀ (G0:Hp) (Γ:List SK) (E:XK) (σ:L2.St) (A:List Addr) (st:DSt) (H:Hp) (a b:D) (x y:V) (Q:VK),RS K C G0 Γ σ H A st -> Rep K C H a x -> Rep K C H b y ->
 (match g a b with | .ok d=>∀ v H',Same H H' -> Val K C κ G0 A H H' d v -> Q v H' | .ex c p=>∀ H',Same H H' -> exP E c p H' | .bad=>False) -> r2 x y H Q
theorem two {r2:R2} {g:D -> D -> R D} (ho:OpD X.K C r2 g κ):∀ σ H Q,tD X.K C G0 Γ E (dOp g fa fb) κ σ H Q -> tOp r2 (tD X.K C G0 Γ E fa κa) (tD X.K C G0 Γ E fb κb) σ H Q:=fun σ H Q zz=>by
 refine x2_2 zz fun A st r q=>?_
 clear zz
 refine ⟨A,st,r,?_⟩
 unfold dOp R.bind at q
 cases ha:fa st with
 | bad=>rw [ha] at q; exact q
 | ex c p=>rw [ha] at q; exact q
 | ok a =>
  rw [ha] at q
  intro x H1 e1 w1
  refine ⟨A,st,r.mono e1,?_⟩
  dsimp only at q
  cases hb:fb st with
  | bad=>rw [hb] at q; exact q
  | ex c p=>rw [hb] at q; exact fun H' e'=>q H' (e1.trans e')
  | ok b =>
   rw [hb] at q
   intro y H2 e2 w2
   refine ho G0 Γ (E σ) σ A st H2 a b x y Q ((r.mono e1).mono e2) (w1.rep.same e2 _) w2.rep ?_
   dsimp only at q
   cases hg:g a b with
   | bad=>rw [hg] at q; exact q
   | ex c p=>rw [hg] at q; exact fun H' e'=>q H' ((e1.trans e2).trans e')
   | ok d=>rw [hg] at q; exact fun v H' e' w=>q v H' ((e1.trans e2).trans e') (w.early (e1.trans e2))
theorem y9 {op:Operator} {r2:R2} {g:D -> D -> R D} (hr:OpR X (binaryOp op) r2) (ho:OpD X.K C r2 g κ) (ha:PE X a (tD X.K C G0 Γ E fa κa)) (hb:PE X b (tD X.K C G0 Γ E fb κb)):PE X (.BinOp a op b pos) (tD X.K C G0 Γ E (dOp g fa fb) κ):=(ve3 hr ha hb).imp (two ho)
theorem ka7 {op:CmpOp} {r2:R2} {g:D -> D -> R D} (hr:OpR X (compareOp op) r2) (ho:OpD X.K C r2 g κ) (ha:PE X a (tD X.K C G0 Γ E fa κa)) (hb:PE X b (tD X.K C G0 Γ E fb κb)) (hm:behindInMarks op b = false):PE X (.Compare a [op] [b] pos) (tD X.K C G0 Γ E (dOp g fa fb) κ):=(ql6 hr ha hb hm).imp (two ho)
theorem ve1 {r2:R2} {g:D -> D -> R D} (hr:IxR X r2) (ho:OpD X.K C r2 g κ) (ha:PE X a (tD X.K C G0 Γ E fa κa)) (hb:PE X b (tD X.K C G0 Γ E fb κb)) (hs:jm9 b):PE X (.Subscript a b pos) (tD X.K C G0 Γ E (dOp g fa fb) κ):=(qv6 hr ha hb hs).imp (two ho)
theorem OpD.flat {K:PySem.W.Frag} {r2:R2} {g:D -> D -> R D} (h:∀ (H:Hp) (a b:D) (x y:V) (Q:VK),Rep K C H a x -> Rep K C H b y -> (match g a b with | .ok d=>noL d = true /\ ∀ v,Rep K C H d v -> Q v H | _=>False) -> r2 x y H Q) (hg:∀ a b,(∀ c p,g a b ≠ .ex c p) /\ ∀ d,g a b = .ok d -> noL d = true):OpD K C r2 g κ:=fun G0 Γ E σ A st H a b x y Q r qa qb q=>h H a b x y Q qa qb (by
 cases hz:g a b with
 | bad=>rw [hz] at q; exact q
 | ex c p=>exact absurd hz ((hg a b).1 c p)
 | ok d=>rw [hz] at q; exact ⟨(hg a b).2 d hz,fun v w=>q v H (.refl _) (.flat r (.refl _) ((hg a b).2 d hz) w _)⟩)
noncomputable def iOp (Cd:Int -> Int -> Bool) (g:Int -> Int -> D):D -> D -> R D:=fun a b=>match a,b with | .int i,.int j=>if Cd i j = true then .ok (g i j) else .bad | _,_=>.bad
theorem qj4 {Cd:Int -> Int -> Bool} {g:Int -> Int -> D} {a b d:D} (h:iOp Cd g a b = .ok d):∃ i j,a = .int i /\ b = .int j /\ Cd i j = true /\ d = g i j:=by
 unfold iOp at h
 split at h
 ·split at h
  ·rename_i q; cases h; exact ⟨_,_,rfl,rfl,q,rfl⟩
  ·cases h
 ·cases h
theorem ql4 {Cd:Int -> Int -> Bool} {g:Int -> Int -> D} {a b:D} {c:Addr} {p:Option Int}:iOp Cd g a b ≠ .ex c p:=by
 unfold iOp
 split
 ·split <;> exact fun h=>by cases h
 ·exact fun h=>by cases h
theorem ji0 {K:PySem.W.Frag} {r2:R2} {Cd:Int -> Int -> Bool} {g:Int -> Int -> D} (h:∀ (H:Hp) (i j:Int) (Q:VK),Cd i j = true -> (∀ v,Rep K C H (g i j) v -> Q v H) -> r2 (.int i) (.int j) H Q) (n:∀ i j,noL (g i j) = true):OpD K C r2 (iOp Cd g) κ:=.flat (fun H a b x y Q qa qb q=>by
  cases hz:iOp Cd g a b with
  | bad=>rw [hz] at q; exact q.elim
  | ex c p=>exact absurd hz ql4
  | ok d =>
   rw [hz] at q
   refine x2_4 (qj4 hz) fun i j zo2 zo3 hc zo5=>?_
   obtain rfl:=zo2
   obtain rfl:=zo3
   obtain rfl:=zo5
   rw [Rep] at qa qb; subst qa; subst qb
   exact h H i j Q hc q.2) fun a b=>⟨fun c p=>ql4,fun d hd=>by obtain ⟨i,j,_,_,_,rfl⟩:=qj4 hd; exact n i j⟩
noncomputable def gAdd:=iOp (fun _ _=>true) fun i j=>.int (i + j)
noncomputable def gSub:=iOp (fun _ _=>true) fun i j=>.int (i - j)
noncomputable def sm (i:Int):Bool:=decide (-(2 ^ 64) < i) && decide (i < 2 ^ 64)
noncomputable def gMul:=iOp (fun i j=>sm i || sm j) fun i j=>.int (i * j)
noncomputable def gDiv:=iOp (fun _ j=>decide (0 < j) && decide (j < 1073741824)) fun i j=>.int (i / j)
noncomputable def gMod:=iOp (fun _ j=>decide (0 < j)) fun i j=>.int (i % j)
noncomputable def gLt:=iOp (fun _ _=>true) fun i j=>.bl (decide (i < j))
noncomputable def gLe:=iOp (fun _ _=>true) fun i j=>.bl (decide (i <= j))
noncomputable def gGt:=iOp (fun _ _=>true) fun i j=>.bl (decide (j < i))
theorem repI {K:PySem.W.Frag} {H:Hp} {i:Int}:Rep K C H (.int i) (.int i):=by rw [Rep]
theorem repB {K:PySem.W.Frag} {H:Hp} {i:Bool}:Rep K C H (.bl i) (.bl i):=by rw [Rep]
theorem Q4 {K:PySem.W.Frag}:OpD K C (rI0 fun i j=>.int (i + j)) gAdd .new:=ji0 (fun H i j Q _ q=>⟨i,j,rfl,rfl,q _ repI⟩) fun i j=>by rw [noL] <;> simp
theorem jg2 {K:PySem.W.Frag}:OpD K C (rI0 fun i j=>.int (i - j)) gSub .new:=ji0 (fun H i j Q _ q=>⟨i,j,rfl,rfl,q _ repI⟩) fun i j=>by rw [noL] <;> simp
theorem jn1 {K:PySem.W.Frag}:OpD K C (rI CMul fun i j=>.int (i * j)) gMul .new:=ji0 (fun H i j Q c q=>⟨i,j,rfl,rfl,by
 rcases Bool.or_eq_true _ _ |>.mp c with c | c
 ·simp [sm] at c; exact .inl ⟨by lia,by lia⟩
 ·simp [sm] at c; exact .inr ⟨by lia,by lia⟩,q _ repI⟩) fun i j=>by rw [noL] <;> simp
theorem jh5 {K:PySem.W.Frag}:OpD K C (rI CDiv fun i j=>.int (i / j)) gDiv .new:=ji0 (fun H i j Q c q=>⟨i,j,rfl,rfl,by simp at c; exact ⟨c.1,c.2⟩,q _ repI⟩) fun i j=>by rw [noL] <;> simp
theorem jb0 {K:PySem.W.Frag}:OpD K C (rI (fun _ j=>0 < j) fun i j=>.int (i % j)) gMod .new:=ji0 (fun H i j Q c q=>⟨i,j,rfl,rfl,by simpa using c,q _ repI⟩) fun i j=>by rw [noL] <;> simp
theorem kb7 {K:PySem.W.Frag}:OpD K C (rI0 fun i j=>.bl (decide (i < j))) gLt .new:=ji0 (fun H i j Q _ q=>⟨i,j,rfl,rfl,q _ repB⟩) fun i j=>by rw [noL] <;> simp
theorem jo1 {K:PySem.W.Frag}:OpD K C (rI0 fun i j=>.bl (decide (i <= j))) gLe .new:=ji0 (fun H i j Q _ q=>⟨i,j,rfl,rfl,q _ repB⟩) fun i j=>by rw [noL] <;> simp
theorem ki9 {K:PySem.W.Frag}:OpD K C (rI0 fun i j=>.bl (decide (j < i))) gGt .new:=ji0 (fun H i j Q _ q=>⟨i,j,rfl,rfl,q _ repB⟩) fun i j=>by rw [noL] <;> simp
noncomputable def gEq (neg:Bool):D -> D -> R D:=fun a b=>if (Dm.flat a && Dm.flat b && decide (dep a <= 60)) = true then .ok (.bl (if neg then !eqD a b else eqD a b)) else .bad
theorem jl0 {K:PySem.W.Frag} {neg:Bool}:OpD K C (rEqD K C neg) (gEq neg) .new:=.flat (fun H a b x y Q qa qb q=>by
  unfold gEq at q
  split at q
  ·rename_i c
   split at c
   ·rename_i c'
    cases c
    simp only [Bool.and_eq_true,decide_eq_true_eq] at c'
    exact ⟨a,b,qa,qb,c'.1.1,c'.1.2,c'.2,q.2 _ repB⟩
   ·cases c
  ·exact q.elim) fun a b=>⟨fun c p=>(by unfold gEq; split <;> exact fun h=>(by cases h)),fun d h=>by unfold gEq at h; split at h <;> cases h; rw [noL] <;> simp⟩
noncomputable def gIn (neg:Bool):D -> D -> R D:=fun a b=>match b with
 | .lst es=>if (Dm.flat a && Q0 es && decide (deps es <= 60)) = true then .ok (.bl (if neg then !(es.any fun e=>eqD e a) else es.any fun e=>eqD e a)) else .bad
 | .tup es=>if (Dm.flat a && Q0 es && decide (deps es <= 60)) = true then .ok (.bl (if neg then !(es.any fun e=>eqD e a) else es.any fun e=>eqD e a)) else .bad
 | _=>.bad
theorem jj4 {K:PySem.W.Frag} {neg:Bool}:OpD K C (rInD K C neg) (gIn neg) .new:=.flat (fun H a b x y Q qa qb q=>by
  cases b with
  | lst es =>
   unfold gIn at q
   dsimp only at q
   split at q
   ·rename_i c
    split at c
    ·rename_i c'
     cases c
     simp only [Bool.and_eq_true,decide_eq_true_eq] at c'
     exact ⟨a,es,qa,.inl qb,c'.1.1,c'.1.2,c'.2,q.2 _ repB⟩
    ·cases c
   ·exact q.elim
  | tup es =>
   unfold gIn at q
   dsimp only at q
   split at q
   ·rename_i c
    split at c
    ·rename_i c'
     cases c
     simp only [Bool.and_eq_true,decide_eq_true_eq] at c'
     exact ⟨a,es,qa,.inr qb,c'.1.1,c'.1.2,c'.2,q.2 _ repB⟩
    ·cases c
   ·exact q.elim
  | _=>exact q.elim) fun a b=>⟨fun c p=>(by unfold gIn; split <;> (try split) <;> exact fun h=>(by cases h)),fun d h=>by unfold gIn at h; split at h <;> (try split at h) <;> cases h <;> (rw [noL] <;> simp)⟩
noncomputable def gIx:D -> D -> R D:=fun a b=>match a,b with
 | .lst ds,.int i=>match atI ds i with | some d=>.ok d | none=>.bad
 | .tup ds,.int i=>match atI ds i with | some d=>.ok d | none=>.bad
 | _,_=>.bad
theorem ki7 {K:PySem.W.Frag} {H:Hp} {ds:List D} {xs:List V} {i:Int} {d:D} (q:Reps K C H ds xs) (h:atI ds i = some d):∃ v,atI xs i = some v /\ Rep K C H d v:=by
 unfold atI at h ⊢
 rw [q.len]
 cases hj:ixN ds.length i with
 | none=>rw [hj] at h; cases h
 | some j =>
  rw [hj] at h
  exact q.get' h
end
end Dm
end T_De3
section T_De4
namespace Dm
open PySem PySem.Spec PyProof.Rows L2
section
variable {X:Cx} {C:Cfg} {G0:Hp} {Γ:List SK} {E:L2.St -> XK} {e a b c:Expr} {f fa fb fc:DF} {κ κ' κa κb:Kd} {es rest:List Expr} {fs:DA} {pos:Pos}
theorem vb5 {K:PySem.W.Frag} {H:Hp} {a d:D} {x:V} {i:Int} (qa:Rep K C H a x) (h:gIx a (.int i) = .ok d):(∃ p xs v,x = .ref p /\ (SqL K H p xs \/ SqT K H p xs) /\ atI xs i = some v /\ Rep K C H d v):=by
 cases a with
 | lst ds =>
  unfold gIx at h
  dsimp only at h
  cases hz:atI ds i with
  | none=>rw [hz] at h; cases h
  | some d' =>
   rw [hz] at h; cases h
   refine x2_3 qa.items fun p xs zo2 h2 h3=>?_
   obtain rfl:=zo2
   refine x1_2 (ki7 h3 hz) fun v h4 h5=>?_
   exact ⟨p,xs,v,rfl,.inl h2,h4,h5⟩
 | tup ds =>
  unfold gIx at h
  dsimp only at h
  cases hz:atI ds i with
  | none=>rw [hz] at h; cases h
  | some d' =>
   rw [hz] at h; cases h
   rw [Rep] at qa
   refine x2_3 qa fun p xs zo2 h2 h3=>?_
   clear qa
   obtain rfl:=zo2
   refine x1_2 (ki7 h3 hz) fun v h4 h5=>?_
   exact ⟨p,xs,v,rfl,.inr h2,h4,h5⟩
 | _=>cases h
noncomputable def rIxD (K:PySem.W.Frag):R2:=fun x y H Q=>rIxL K x y H Q \/ rIxT K x y H Q
theorem ix_D:IxR X (rIxD X.K):=qs1.or qz0
theorem SqL.part {K:PySem.W.Frag} {G H:Hp} (e:Same G H) {p:Addr} {xs:List V} (h:SqL K G p xs \/ SqT K G p xs):SqL K H p xs \/ SqT K H p xs:=h.imp (fun h=>e.seq h) fun h=>Same.tup e h
noncomputable def Kd.item:Kd -> Kd
 | .nwo=>.old
 | .new=>.old
 | .loc=>.old
 | .old=>.old
 | _=>.tmp
theorem qm3 {a b d:D} (h:gIx a b = .ok d):∃ i,b = .int i:=by
 cases b with
 | int i=>exact ⟨i,rfl⟩
 | _=>cases a <;> cases h
theorem va7 {a b:D} {c:Addr} {p:Option Int}:gIx a b ≠ .ex c p:=by
 unfold gIx
 split
 ·split <;> exact fun h=>(by cases h)
 ·split <;> exact fun h=>(by cases h)
 ·exact fun h=>(by cases h)
theorem qj8 (ha:PE X a (tD X.K C G0 Γ E fa κa)) (hb:PE X b (tD X.K C G0 Γ E fb κb)) (hs:jm9 b):PE X (.Subscript a b pos) (tD X.K C G0 Γ E (dOp gIx fa fb) κa.item):=(qv6 ix_D ha hb hs).imp fun σ H Q zz=>by
 refine x2_2 zz fun A st r q=>?_
 clear zz
 refine ⟨A,st,r,?_⟩
 unfold dOp R.bind at q
 cases ha:fa st with
 | bad=>rw [ha] at q; exact q
 | ex c p=>rw [ha] at q; exact q
 | ok a =>
  rw [ha] at q
  intro x H1 e1 w1
  refine ⟨A,st,r.mono e1,?_⟩
  dsimp only at q
  cases hb:fb st with
  | bad=>rw [hb] at q; exact q
  | ex c p=>rw [hb] at q; exact fun H' e'=>q H' (e1.trans e')
  | ok b =>
   rw [hb] at q
   intro y H2 e2 w2
   dsimp only at q
   cases hg:gIx a b with
   | bad=>rw [hg] at q; exact q.elim
   | ex c p=>exact absurd hg va7
   | ok d =>
    rw [hg] at q
    obtain ⟨i,rfl⟩:=qm3 hg
    have e12:=e1.trans e2
    have w:=w1.later e2
    obtain rfl:y = .int i:=by have:=w2.rep; rw [Rep] at this; exact this
    have fin:∀ G:Hp,Same G H2 -> Rep X.K C G a x -> (∀ v,Rep X.K C G d v -> Val X.K C κa.item G0 A H H2 d v) -> rIxD X.K x (.int i) H2 Q:=fun G e qa k=>by
     refine x3_4 (vb5 qa hg) fun p xs v zo3 s at' rv=>?_
     obtain rfl:=zo3
     rcases SqL.part e s with s | s
     ·exact .inl ⟨p,xs,i,v,rfl,rfl,s,at',q v H2 e12 (k v rv)⟩
     ·exact .inr ⟨p,xs,i,v,rfl,rfl,s,at',q v H2 e12 (k v rv)⟩
    cases κa with
    | new=>exact fin _ (q9 _ _) (w.le r e12 (κ':=.old) rfl) fun v z=>z
    | nwo=>exact fin _ (q9 _ _) (w.le r e12 (κ':=.old) rfl) fun v z=>z
    | loc=>exact fin _ (q9 _ _) (w.le r e12 (κ':=.old) rfl) fun v z=>z
    | old=>exact fin _ (q9 _ _) w fun v z=>z
    | tmn=>exact fin _ (.refl _) w.rep fun v z=>z
    | tmp=>exact fin _ (.refl _) w fun v z=>z
theorem j6:PA X [] (tDA X.K C G0 Γ E aNil κ):=jl8.imp fun σ H Q zz1=>zz1.elim fun A zz2=>zz2.elim fun st zz3=>zz3.elim fun r q=>q [] H (.refl _) .nil
theorem j1 (ha:PE X e (tD X.K C G0 Γ E f κa)) (hr:PA X es (tDA X.K C G0 Γ E fs κ)) (l:κa.le κ = true:=by rfl) (hs:starEach (e :: es) X.env = (false,eval e X.env) :: starEach es X.env:=by rfl):PA X (e :: es) (tDA X.K C G0 Γ E (j2 f fs) κ):=(jf3 ha hr hs).imp fun σ H Q zz=>by
 refine x2_2 zz fun A st r q=>?_
 clear zz
 refine ⟨A,st,r,?_⟩
 unfold j2 R.bind at q
 cases hf:f st with
 | bad=>rw [hf] at q; exact q
 | ex c p=>rw [hf] at q; exact q
 | ok a =>
  rw [hf] at q
  intro x H1 e1 w1
  refine ⟨A,st,r.mono e1,?_⟩
  dsimp only at q
  cases hb:fs st with
  | bad=>rw [hb] at q; exact q
  | ex c p=>rw [hb] at q; exact fun H' e'=>q H' (e1.trans e')
  | ok b =>
   rw [hb] at q
   intro y H2 e2 w2
   exact q (x :: y) H2 (e1.trans e2) (.cons ((w1.le r e1 l).hp.same (Kd.hp_later e2) _) (w2.same (Kd.hp_early e1) _))
theorem jz3 {α:Type} {l:List α} (h:l.length <= 100):l.length <= sizeLine:=Nat.le_trans h (by rw [sizeLine_eq]; decide)
noncomputable def z8 (n:Nat) (f:DA):DF:=fun st=>(f st).bind fun ds=>if ds.length <= n then .ok (.tup ds) else .bad
theorem U6 {x1} (h:PA X es (tDA X.K C G0 Γ E fs κ)):PE X (.Tuple es x1 pos) (tD X.K C G0 Γ E (z8 100 fs) κ):=(qv5 h).imp fun σ H Q zz=>by
 refine x2_2 zz fun A st r q=>?_
 clear zz
 refine ⟨A,st,r,?_⟩
 unfold z8 R.bind at q
 cases hf:fs st with
 | bad=>rw [hf] at q; exact q
 | ex c p=>rw [hf] at q; exact q
 | ok ds =>
  rw [hf] at q
  dsimp only at q
  split at q
  ·rename_i d hz
   split at hz
   ·rename_i hl
    cases hz
    exact fun vs H1 e1 w1=>⟨jz3 (by rw [w1.len]; exact hl),fun p hp=>q _ _ (e1.trans (Y5 hp)) (.tup r e1 hp w1)⟩
   ·cases hz
  ·rename_i hz; split at hz <;> cases hz
  ·exact q.elim
noncomputable def Z2 (n:Nat) (f:DA):DF:=fun st=>(f st).bind fun ds=>if ds.length <= n then .ok (.lst ds) else .bad
theorem jd3 (h:PA X es (tDA X.K C G0 Γ E fs κ)):PE X (.List es pos) (tD X.K C G0 Γ E (Z2 100 fs) κ):=(qx4 h).imp fun σ H Q zz=>by
 refine x2_2 zz fun A st r q=>?_
 clear zz
 refine ⟨A,st,r,?_⟩
 unfold Z2 R.bind at q
 cases hf:fs st with
 | bad=>rw [hf] at q; exact q
 | ex c p=>rw [hf] at q; exact q
 | ok ds =>
  rw [hf] at q
  dsimp only at q
  split at q
  ·rename_i d hz
   split at hz
   ·rename_i hl
    cases hz
    exact fun vs H1 e1 w1=>⟨jz3 (by rw [w1.len]; exact hl),fun p hp=>q _ _ (e1.trans (Y5 hp)) (.lst r e1 hp w1)⟩
   ·cases hz
  ·rename_i hz; split at hz <;> cases hz
  ·exact q.elim
noncomputable def FnD (K:PySem.W.Frag) (C:Cfg) (r1:List V -> Hp -> VK -> Prop) (g:List D -> R D) (κ:Kd):Prop:=∀ (G0:Hp) (Γ:List SK) (E:XK) (σ:L2.St) (A:List Addr) (st:DSt) (H:Hp) (ds:List D) (xs:List V) (Q:VK),RS K C G0 Γ σ H A st -> Reps K C H ds xs ->
 (match g ds with | .ok d=>∀ v H',Same H H' -> Val K C κ G0 A H H' d v -> Q v H' | .ex c p=>∀ H',Same H H' -> exP E c p H' | .bad=>False) -> r1 xs H Q
theorem jb4 {r1:List V -> Hp -> VK -> Prop} {g:List D -> R D} (ho:FnD X.K C r1 g κ) (h:PE X e (tCB r1 (tDA X.K C G0 Γ E fs κa))):PE X e (tD X.K C G0 Γ E (dFn g fs) κ):=h.imp fun σ H Q zz=>by
 refine x2_2 zz fun A st r q=>?_
 clear zz
 refine ⟨A,st,r,?_⟩
 unfold dFn R.bind at q
 cases hf:fs st with
 | bad=>rw [hf] at q; exact q
 | ex c p=>rw [hf] at q; exact q
 | ok ds =>
  rw [hf] at q
  dsimp only at q
  intro vs H1 e1 w1
  refine ho G0 Γ (E σ) σ A st H1 ds vs Q (r.mono e1) (w1.same Kd.hp_all _) ?_
  cases hg:g ds with
  | bad=>rw [hg] at q; exact q
  | ex c p=>rw [hg] at q; exact fun H' e'=>q H' (e1.trans e')
  | ok d=>rw [hg] at q; exact fun v H' e' w=>q v H' (e1.trans e') (w.early e1)
theorem jk7 {K:PySem.W.Frag} {H:Hp} {d:D} {xs:List V} (h:Reps K C H [d] xs):∃ v,xs = [v] /\ Rep K C H d v:=by
 rw [Reps] at h
 refine x2_3 h fun v r zo2 q z=>?_
 clear h
 obtain rfl:=zo2
 rw [Reps] at z; subst z
 exact ⟨v,rfl,q⟩
noncomputable def gLen:List D -> R D:=fun ds=>match ds with | [.lst xs]=>.ok (.int xs.length) | [.tup xs]=>.ok (.int xs.length) | _=>.bad
theorem ja5 {K:PySem.W.Frag}:FnD K C (fun xs H Q=>∃ p ys,xs = [.ref p] /\ (SqL K H p ys \/ SqT K H p ys) /\ Q (.int ys.length) H) gLen .new:=fun G0 Γ E σ A st H ds xs Q r w q=>by
 unfold gLen at q
 split at q
 ·rename_i z
  split at z
  ·cases z
   refine x1_2 (jk7 w) fun v zo1 w1=>?_
   obtain rfl:=zo1
   refine x2_3 w1.items fun p ys zo2 s t=>?_
   obtain rfl:=zo2
   exact ⟨p,ys,rfl,.inl s,q _ H (.refl _) (.flat r (.refl _) (by rw [noL] <;> simp) (by rw [t.len]; exact repI) _)⟩
  ·cases z
   refine x1_2 (jk7 w) fun v zo1 w1=>?_
   obtain rfl:=zo1
   rw [Rep] at w1
   refine x2_3 w1 fun p ys zo2 s t=>?_
   clear w1
   obtain rfl:=zo2
   exact ⟨p,ys,rfl,.inr s,q _ H (.refl _) (.flat r (.refl _) (by rw [noL] <;> simp) (by rw [t.len]; exact repI) _)⟩
  ·cases z
 ·rename_i z; split at z <;> cases z
 ·exact q.elim
noncomputable def jo3:List D -> R D:=fun ds=>match ds with | [.lst xs]=>if noLs xs = true then .ok (.lst xs) else .bad | [.tup xs]=>if noLs xs = true then .ok (.lst xs) else .bad | _=>.bad
theorem jp5 {K:PySem.W.Frag}:FnD K C (fun xs H Q=>∃ p ys,xs = [.ref p] /\ (SqL K H p ys \/ SqT K H p ys) /\ ∀ l,H l = none -> Q (.ref l) (upd H l (.lst ys))) jo3 .new:=fun G0 Γ E σ A st H ds xs Q r w q=>by
 have fin:∀ (es:List D) (p:Addr) (ys:List V),(SqL K H p ys \/ SqT K H p ys) -> Reps K C H es ys -> noLs es = true -> (∀ v H',Same H H' -> Val K C .new G0 A H H' (.lst es) v -> Q v H') -> ∃ p' ys',[V.ref p] = [.ref p'] /\ (SqL K H p' ys' \/ SqT K H p' ys') /\ ∀ l,H l = none -> Q (.ref l) (upd H l (.lst ys')):=fun es p ys s t n q =>
  ⟨p,ys,rfl,s,fun l hl=>q _ _ (Y5 hl) (.lst r (.refl _) hl (t.part (.nw (.refl _)) _ n))⟩
 unfold jo3 at q
 split at q
 ·rename_i z
  split at z
  ·split at z
   ·rename_i n
    cases z
    refine x1_2 (jk7 w) fun v zo1 w1=>?_
    obtain rfl:=zo1
    refine x2_3 w1.items fun p ys zo2 s t=>?_
    obtain rfl:=zo2
    exact fin _ _ _ (.inl s) t n q
   ·cases z
  ·split at z
   ·rename_i n
    cases z
    refine x1_2 (jk7 w) fun v zo1 w1=>?_
    obtain rfl:=zo1
    rw [Rep] at w1
    refine x2_3 w1 fun p ys zo2 s t=>?_
    clear w1
    obtain rfl:=zo2
    exact fin _ _ _ (.inr s) t n q
   ·cases z
  ·cases z
 ·rename_i z; split at z <;> (try split at z) <;> cases z
 ·exact q.elim
theorem kp2 (h:PE X e (tD X.K C G0 Γ E f κ)) (he:∀ whole,isTrue e X.env whole = (do let v <- whole; standAt e.pos; holding [v] (truthy v)):=by intro _; rfl):PT X e (tDT X.K C G0 Γ E f):=(qy3 h he).imp fun σ H Q zz=>by
 refine x2_2 zz fun A st r q=>?_
 clear zz
 refine ⟨A,st,r,?_⟩
 cases hf:f st with
 | bad=>rw [hf] at q; exact q
 | ex c p=>rw [hf] at q; exact q
 | ok d =>
  rw [hf] at q
  cases d with
  | bl b=>exact fun v H' e' w=>⟨b,by have:=w.rep; rw [Rep] at this; exact this,q H' e'⟩
  | _=>exact q.elim
theorem W1 {op:CmpOp} {r2:R2} {g:D -> D -> R D} (hr:OpR X (compareOp op) r2) (ho:OpD X.K C r2 g .new) (ha:PE X a (tD X.K C G0 Γ E fa κa)) (hb:PE X b (tD X.K C G0 Γ E fb κb)) (hm:behindInMarks op b = false):PT X (.Compare a [op] [b] pos) (tDT X.K C G0 Γ E (dOp g fa fb)):=(qn8 hr ha hb hm).imp fun σ H Q zz=>by
 refine x2_2 zz fun A st r q=>?_
 clear zz
 refine two (κ:=.new) ho σ H _ ⟨A,st,r,?_⟩
 cases hf:dOp g fa fb st with
 | bad=>rw [hf] at q; exact q
 | ex c p=>rw [hf] at q; exact q
 | ok d =>
  rw [hf] at q
  cases d with
  | bl b=>exact fun v H' e' w=>⟨b,by have:=w.rep; rw [Rep] at this; exact this,q H' e'⟩
  | _=>exact q.elim
theorem js5 (h:PT X a (tDT X.K C G0 Γ E fa)):PT X (.UnaryOp .Not a pos) (tDT X.K C G0 Γ E (dNot fa)):=(qv0 h).imp fun σ H Q zz=>by
 refine x2_2 zz fun A st r q=>?_
 clear zz
 refine ⟨A,st,r,?_⟩
 unfold dNot R.bind at q
 cases hf:fa st with
 | bad=>rw [hf] at q; exact q
 | ex c p=>rw [hf] at q; exact q
 | ok d =>
  rw [hf] at q
  cases d with
  | bl b=>exact q
  | _=>exact q.elim
theorem kx3 (ha:PT X a (tDT X.K C G0 Γ E fa)):PW X (.BoolOp .And [a] pos) (tDT X.K C G0 Γ E fa):=qr2 ha
theorem kv7 (ha:PT X a (tDT X.K C G0 Γ E fa)):PW X (.BoolOp .Or [a] pos) (tDT X.K C G0 Γ E fa):=vc1 ha
theorem qj3 (ha:PT X a (tDT X.K C G0 Γ E fa)) (hb:PW X (.BoolOp .And (b :: rest) pos) (tDT X.K C G0 Γ E fb)):PW X (.BoolOp .And (a :: b :: rest) pos) (tDT X.K C G0 Γ E (dAnd fa fb)):=(qz7 ha hb).imp fun σ H Q zz=>by
 refine x2_2 zz fun A st r q=>?_
 clear zz
 refine ⟨A,st,r,?_⟩
 unfold dAnd R.bind at q
 cases hf:fa st with
 | bad=>rw [hf] at q; exact q
 | ex c p=>rw [hf] at q; exact q
 | ok d =>
  rw [hf] at q
  cases d with
  | bl b =>
   intro H1 e1
   cases b with
   | false=>rw [if_neg Bool.false_ne_true]; exact q H1 e1
   | true =>
    rw [if_pos rfl]
    refine ⟨A,st,r.mono e1,?_⟩
    dsimp only at q
    cases hb:fb st with
    | bad=>rw [hb] at q; exact q
    | ex c p=>rw [hb] at q; exact fun H' e'=>q H' (e1.trans e')
    | ok d =>
     rw [hb] at q
     cases d with
     | bl b=>exact fun H' e'=>q H' (e1.trans e')
     | _=>exact q.elim
  | _=>exact q.elim
theorem qn1 (ha:PT X a (tDT X.K C G0 Γ E fa)) (hb:PW X (.BoolOp .Or (b :: rest) pos) (tDT X.K C G0 Γ E fb)):PW X (.BoolOp .Or (a :: b :: rest) pos) (tDT X.K C G0 Γ E (dOr fa fb)):=(vc9 ha hb).imp fun σ H Q zz=>by
 refine x2_2 zz fun A st r q=>?_
 clear zz
 refine ⟨A,st,r,?_⟩
 unfold dOr R.bind at q
 cases hf:fa st with
 | bad=>rw [hf] at q; exact q
 | ex c p=>rw [hf] at q; exact q
 | ok d =>
  rw [hf] at q
  cases d with
  | bl b =>
   intro H1 e1
   cases b with
   | true=>rw [if_pos rfl]; exact q H1 e1
   | false =>
    rw [if_neg Bool.false_ne_true]
    refine ⟨A,st,r.mono e1,?_⟩
    dsimp only at q
    cases hb:fb st with
    | bad=>rw [hb] at q; exact q
    | ex c p=>rw [hb] at q; exact fun H' e'=>q H' (e1.trans e')
    | ok d =>
     rw [hb] at q
     cases d with
     | bl b=>exact fun H' e'=>q H' (e1.trans e')
     | _=>exact q.elim
  | _=>exact q.elim
theorem qj1 {op} (ha:PE X a (tD X.K C G0 Γ E fa κ)):PE X (.BoolOp op [a] pos) (tD X.K C G0 Γ E fa κ):=vc3 ha
theorem vbl {K:PySem.W.Frag} {A:List Addr} {H H':Hp} {b:Bool} {v:V} (w:Val K C κ G0 A H H' (.bl b) v):v = .bl b:=by have:=w.rep; rw [Rep] at this; exact this
theorem kz7 (ha:PE X a (tD X.K C G0 Γ E fa κa)) (hb:PE X (.BoolOp .And (b :: rest) pos) (tD X.K C G0 Γ E fb κ)):PE X (.BoolOp .And (a :: b :: rest) pos) (tD X.K C G0 Γ E (dAnd fa fb) κ):=(vb9 ha hb).imp fun σ H Q zz=>by
 refine x2_2 zz fun A st r q=>?_
 clear zz
 refine ⟨A,st,r,?_⟩
 unfold dAnd R.bind at q
 cases hf:fa st with
 | bad=>rw [hf] at q; exact q
 | ex c p=>rw [hf] at q; exact q
 | ok d =>
  rw [hf] at q
  cases d with
  | bl b =>
   intro v H1 e1 w1
   refine ⟨b,vbl w1,?_⟩
   cases b with
   | false=>rw [if_neg Bool.false_ne_true]; exact q _ H1 e1 (.flat r e1 (by rw [noL] <;> simp) repB _)
   | true =>
    rw [if_pos rfl]
    refine ⟨A,st,r.mono e1,?_⟩
    dsimp only at q
    cases hb:fb st with
    | bad=>rw [hb] at q; exact q
    | ex c p=>rw [hb] at q; exact fun H' e'=>q H' (e1.trans e')
    | ok d=>rw [hb] at q; exact fun v H' e' w=>q v H' (e1.trans e') (w.early e1)
  | _=>exact q.elim
end
end Dm
end T_De4
section T_De5
namespace Dm
open PySem PySem.Spec PyProof.Rows L2
noncomputable def RetV (K:PySem.W.Frag) (C:Cfg) (κr:Bool) (G0 H':Hp) (d:D) (v:V):Prop:=match κr with
 | true=>Rep K C (nw G0 H') d v /\ TopL K C G0 (nw G0 H') d v
 | false=>Rep K C H' d v
section
variable (K:PySem.W.Frag) (C:Cfg) (G0:Hp) (Γ:List SK) (E:L2.St -> XK) (κr:Bool)
noncomputable def tDS (F:DS):TS:=fun D σ H=>∃ A st,RS K C G0 Γ σ H A st /\ match F st with
 | .nx st'=>∀ σ' H' A',RS K C G0 Γ σ' H' A' st' -> Same (er H A) (er H' A') -> D.nx σ' H'
 | .bk st'=>∀ σ' H' A',RS K C G0 Γ σ' H' A' st' -> Same (er H A) (er H' A') -> D.bk σ' H'
 | .ct st'=>∀ σ' H' A',RS K C G0 Γ σ' H' A' st' -> Same (er H A) (er H' A') -> D.ct σ' H'
 | .rt d=>∀ v H',Same G0 H' -> RetV K C κr G0 H' d v -> D.rt v H'
 | .ex c p st'=>∀ σ' H' A',RS K C G0 Γ σ' H' A' st' -> Same (er H A) (er H' A') -> exP (E σ') c p H'
 | .bad=>False
end
noncomputable def dSeq (F G:DS):DS:=fun st=>match F st with | .nx st'=>G st' | o=>o
noncomputable def J2:DS:=fun st=>.nx st
noncomputable def dAsg (i:Nat) (f:DF):DS:=fun st=>match f st with | .ok d=>.nx (st.set i (some d)) | .ex c p=>.ex c p st | .bad=>.bad
noncomputable def jx5 (f:DF):DS:=fun st=>match f st with | .ok _=>.nx st | .ex c p=>.ex c p st | .bad=>.bad
noncomputable def dRet (f:DF):DS:=fun st=>match f st with | .ok d=>.rt d | .ex c p=>.ex c p st | .bad=>.bad
noncomputable def dIfS (fc:DF) (F G:DS):DS:=fun st=>match fc st with | .ok (.bl true)=>F st | .ok (.bl false)=>G st | .ok _=>.bad | .ex c p=>.ex c p st | .bad=>.bad
section
variable {X:Cx} {C:Cfg} {G0:Hp} {Γ:List SK} {E:L2.St -> XK} {κr:Bool} {e a b c:Expr} {f fa fb fc:DF} {κ κ' κa κb:Kd} {es rest:List Expr} {fs:DA} {pos:Pos} {s:Stmt} {ss:List Stmt} {F G:DS}
theorem W6:PSs X [] (tDS X.K C G0 Γ E κr J2):=qo5.imp fun D σ H zz1=>zz1.elim fun A zz2=>zz2.elim fun st zz3=>zz3.elim fun r q=>q σ H A r (.refl _)
theorem j9 (h1:PS X s (tDS X.K C G0 Γ E κr F)) (h2:PSs X ss (tDS X.K C G0 Γ E κr G)):PSs X (s :: ss) (tDS X.K C G0 Γ E κr (dSeq F G)):=(kj8 h1 h2).imp fun D σ H zz=>by
 refine x2_2 zz fun A st r q=>?_
 clear zz
 refine ⟨A,st,r,?_⟩
 unfold dSeq at q
 cases hf:F st with
 | nx st' =>
  rw [hf] at q
  intro σ' H' A' r' e'
  refine ⟨A',st',r',?_⟩
  dsimp only at q
  cases hg:G st' with
  | nx st2=>rw [hg] at q; exact fun σ2 H2 A2 r2 e2=>q σ2 H2 A2 r2 (e'.trans e2)
  | bk st2=>rw [hg] at q; exact fun σ2 H2 A2 r2 e2=>q σ2 H2 A2 r2 (e'.trans e2)
  | ct st2=>rw [hg] at q; exact fun σ2 H2 A2 r2 e2=>q σ2 H2 A2 r2 (e'.trans e2)
  | rt d=>rw [hg] at q; exact q
  | ex c p st2=>rw [hg] at q; exact fun σ2 H2 A2 r2 e2=>q σ2 H2 A2 r2 (e'.trans e2)
  | bad=>rw [hg] at q; exact q
 | bk st'=>rw [hf] at q; exact q
 | ct st'=>rw [hf] at q; exact q
 | rt d=>rw [hf] at q; exact q
 | ex c p st'=>rw [hf] at q; exact q
 | bad=>rw [hf] at q; exact q
theorem q8 (h1:PS X s (tDS X.K C G0 Γ E κr F)):PSs X [s] (tDS X.K C G0 Γ E κr F):=ku5 h1
theorem J7 {i:Nat} {k:SK} {x:Str} {pos':Pos} (hN:X.N.Nodup) (he:PE X e (tD X.K C G0 Γ E f κ)) (hk:Γ[i]? = some k:=by rfl) (hl:k.takes κ = true:=by rfl) (hi:X.N[i]? = some x:=by rfl) (hx:Loc X.env.scope x:=by first | exact Or.inl rfl | exact Or.inr rfl) (hs:swapsWith e (some (.Name x pos')) pos.line X.env = pure false:=by rfl)
  (hf:X.fn x = true \/ X.env.scope.names.lookup x = some .local:=by first | exact .inl rfl | exact .inr rfl | assumption):PS X (.Assign [.Name x pos'] e pos) (tDS X.K C G0 Γ E κr (dAsg i f)):=(qv4 hN hi hx he hs hf).imp fun D σ H zz=>by
 refine x2_2 zz fun A st r q=>?_
 clear zz
 refine ⟨A,st,r,?_⟩
 unfold dAsg at q
 cases hf:f st with
 | bad=>rw [hf] at q; exact q
 | ex c p=>rw [hf] at q; exact fun H' e'=>q σ H' A (r.mono e') (q0 e')
 | ok d =>
  rw [hf] at q
  intro v H' e' w
  refine x1_3 (r.set e' hk hl w) fun A' r' e2 _=>?_
  exact q _ _ A' r' e2
theorem jn2 (he:PE X e (tD X.K C G0 Γ E f κ)) (hs:swapsWith e none pos.line X.env = pure false:=by rfl):PS X (.Expr e pos) (tDS X.K C G0 Γ E κr (jx5 f)):=(kf2 he hs).imp fun D σ H zz=>by
 refine x2_2 zz fun A st r q=>?_
 clear zz
 refine ⟨A,st,r,?_⟩
 unfold jx5 at q
 cases hf:f st with
 | bad=>rw [hf] at q; exact q
 | ex c p=>rw [hf] at q; exact fun H' e'=>q σ H' A (r.mono e') (q0 e')
 | ok d=>rw [hf] at q; exact fun v H' e' w=>q σ H' A (r.mono e') (q0 e')
noncomputable def retK:Bool -> Kd | true=>.tmn | false=>.tmp
theorem J8 (he:PE X e (tD X.K C G0 Γ E f κ)) (l:κ.le (retK κr) = true:=by rfl):PS X (.Return (some e) pos) (tDS X.K C G0 Γ E κr (dRet f)):=(qx0 he).imp fun D σ H zz=>by
 refine x2_2 zz fun A st r q=>?_
 clear zz
 refine ⟨A,st,r,?_⟩
 unfold dRet at q
 cases hf:f st with
 | bad=>rw [hf] at q; exact q
 | ex c p=>rw [hf] at q; exact fun H' e'=>q σ H' A (r.mono e') (q0 e')
 | ok d =>
  rw [hf] at q
  intro v H' e' w
  have w':=w.le r e' l
  refine q v H' (r.g0.trans e') ?_
  cases κr with
  | true=>exact w'
  | false=>exact w'
theorem jc7 (hc:PT X c (tDT X.K C G0 Γ E fc)) (ha:PSs X ss (tDS X.K C G0 Γ E κr F)) {ss':List Stmt} (hb:PSs X ss' (tDS X.K C G0 Γ E κr G)):PS X (.If c ss ss' pos) (tDS X.K C G0 Γ E κr (Dm.dIfS fc F G)):=(ve7 hc ha hb).imp fun D σ H zz=>by
 refine x2_2 zz fun A st r q=>?_
 clear zz
 refine ⟨A,st,r,?_⟩
 unfold Dm.dIfS at q
 have sub:∀ {H1:Hp} (e1:Same H H1) {G:DS},(match G st with
   | .nx st'=>∀ σ' H' A',RS X.K C G0 Γ σ' H' A' st' -> Same (er H A) (er H' A') -> D.nx σ' H'
   | .bk st'=>∀ σ' H' A',RS X.K C G0 Γ σ' H' A' st' -> Same (er H A) (er H' A') -> D.bk σ' H'
   | .ct st'=>∀ σ' H' A',RS X.K C G0 Γ σ' H' A' st' -> Same (er H A) (er H' A') -> D.ct σ' H'
   | .rt d=>∀ v H',Same G0 H' -> RetV X.K C κr G0 H' d v -> D.rt v H'
   | .ex c p st'=>∀ σ' H' A',RS X.K C G0 Γ σ' H' A' st' -> Same (er H A) (er H' A') -> exP (E σ') c p H'
   | .bad=>False) -> tDS X.K C G0 Γ E κr G D σ H1:=fun {H1} e1 {G} q=>by
  refine ⟨A,st,r.mono e1,?_⟩
  cases hg:G st with
  | nx st2=>rw [hg] at q; exact fun σ2 H2 A2 r2 e2=>q σ2 H2 A2 r2 ((q0 e1).trans e2)
  | bk st2=>rw [hg] at q; exact fun σ2 H2 A2 r2 e2=>q σ2 H2 A2 r2 ((q0 e1).trans e2)
  | ct st2=>rw [hg] at q; exact fun σ2 H2 A2 r2 e2=>q σ2 H2 A2 r2 ((q0 e1).trans e2)
  | rt d=>rw [hg] at q; exact q
  | ex c p st2=>rw [hg] at q; exact fun σ2 H2 A2 r2 e2=>q σ2 H2 A2 r2 ((q0 e1).trans e2)
  | bad=>rw [hg] at q; exact q
 cases hf:fc st with
 | bad=>rw [hf] at q; exact q
 | ex c p=>rw [hf] at q; exact fun H' e'=>q σ H' A (r.mono e') (q0 e')
 | ok d =>
  rw [hf] at q
  cases d with
  | bl b =>
   intro H1 e1
   cases b with
   | true=>rw [if_pos rfl]; exact sub e1 q
   | false=>rw [if_neg Bool.false_ne_true]; exact sub e1 q
  | _=>exact q.elim
noncomputable def ky1:List SK -> Bool:=fun Γ=>Γ.all fun k=>match k with | .any=>false | _=>true
theorem qg7 {Γ:List SK} (h:ky1 Γ = true) {i:Nat}:Γ[i]? ≠ some .any:=fun z=>by
 unfold ky1 at h
 have:=List.all_eq_true.mp h _ (List.mem_of_getElem? z)
 cases this
theorem RS.mut {K:PySem.W.Frag} {σ:L2.St} {H:Hp} {A:List Addr} {st:DSt} (r:RS K C G0 Γ σ H A st) (na:ky1 Γ = true) {i:Nat} {n:Bool} {p:Addr} {ds':List D} {xs':List V} {d0:D} (hk:Γ[i]? = some (.own n)) (hs:st[i]? = some (some d0)) (hv:σ[i]? = some (some (.ref p))) (hp:p ∈ A) (g0:G0 p = none)
  (hd0:∃ ds,d0 = .lst ds) (q:Reps K C (eh n G0 A H) ds' xs'):RS K C G0 Γ σ (upd H p (.lst xs')) A (st.set i (some (.lst ds'))) /\ Same (er H A) (er (upd H p (.lst xs')) A):=by
 have ee:er (upd H p (.lst xs')) A = er H A:=by
  funext b
  by_cases mb:b ∈ A
  ·rw [jb8 mb,jb8 mb]
  ·rw [w8 mb,w8 mb,y3 (fun z:b = p=>mb (by rw [z]; exact hp))]
 have eeh:∀ m,eh m G0 A (upd H p (.lst xs')) = eh m G0 A H:=fun m=>by unfold eh; rw [ee]
 refine ⟨⟨by rw [ee]; exact r.base,fun a m=>?_,by simp [r.len],fun j d h=>?_,fun a b n' m' p' ds es hab g1 g2 s1 s2 w1 w2=>?_⟩,by rw [ee]; exact .refl _⟩
 ·by_cases ha:a = p
  ·subst ha; exact ⟨xs',Q7⟩
  ·rw [y3 ha]; exact r.lists a m
 ·by_cases hj:i = j
  ·subst hj
   rw [List.getElem?_set_self (List.getElem?_eq_some_iff.mp hs).1] at h
   cases h
   exact ⟨_,_,hk,hv,.inl ⟨ds',p,xs',rfl,rfl,hp,g0,Q7,by rw [eeh]; exact q⟩⟩
  ·rw [List.getElem?_set_ne hj] at h
   refine x2_3 (r.slot j d h) fun k v h1 h2 h3=>?_
   refine ⟨k,v,h1,h2,?_⟩
   cases k with
   | par=>show Rep K C (er _ A) d v; rw [ee]; exact h3
   | loc=>show _ /\ _; rw [ee]; exact h3
   | any=>exact absurd h1 (qg7 na)
   | own m =>
    rcases h3 with ⟨ds2,p2,xs2,a,b,c,f,g,q2⟩ | ⟨a,b⟩
    ·subst a; subst b
     have np:p2 ≠ p:=fun z=>by
      subst z
      obtain ⟨ds0,rfl⟩:=hd0
      exact r.apart i j n m p2 ds0 ds2 hj hk h1 hs h hv h2
     exact .inl ⟨ds2,p2,xs2,rfl,rfl,c,f,by rw [y3 np]; exact g,by rw [eeh]; exact q2⟩
    ·exact .inr ⟨a,by rw [eeh]; exact b⟩
 ·have back:∀ {c:Nat} {cs:List D},(st.set i (some (.lst ds')))[c]? = some (some (.lst cs)) -> ∃ es,st[c]? = some (some (.lst es)):=fun {c cs} h=>by
   by_cases hc:i = c
   ·subst hc
    obtain ⟨ds0,rfl⟩:=hd0
    exact ⟨ds0,hs⟩
   ·rw [List.getElem?_set_ne hc] at h; exact ⟨_,h⟩
  obtain ⟨ds1,s1⟩:=back s1
  obtain ⟨es1,s2⟩:=back s2
  exact r.apart a b n' m' p' ds1 es1 hab g1 g2 s1 s2 w1 w2
theorem RS.owned {K:PySem.W.Frag} {σ:L2.St} {H:Hp} {A:List Addr} {st:DSt} (r:RS K C G0 Γ σ H A st) {i:Nat} {n:Bool} {ds:List D} (hk:Γ[i]? = some (.own n)) (hs:st[i]? = some (some (.lst ds))) :
  ∃ p xs,σ[i]? = some (some (.ref p)) /\ p ∈ A /\ G0 p = none /\ H p = some (.lst xs) /\ Reps K C (eh n G0 A H) ds xs:=by
 refine x2_3 (r.slot i _ hs) fun k v h1 h2 h3=>?_
 rw [hk] at h1; cases h1
 rcases h3 with ⟨ds2,p2,xs2,a,b,c,f,g,q2⟩ | ⟨a,b⟩
 ·cases a; cases b
  exact ⟨p2,xs2,h2,c,f,g,q2⟩
 ·exact absurd rfl (a ds)
noncomputable def inK:Bool -> Kd | true=>.loc | false=>.old
theorem Val.inK {K:PySem.W.Frag} {σ:L2.St} {H H':Hp} {A:List Addr} {st:DSt} {n:Bool} {d:D} {v:V} (r:RS K C G0 Γ σ H A st) (e:Same H H') (l:κ.le (inK n) = true) (w:Val K C κ G0 A H H' d v):Rep K C (eh n G0 A H') d v:=by
 have:=w.le r e l
 cases n with
 | true=>exact this.1
 | false=>exact this
noncomputable def dApp (i:Nat) (f:DF):DS:=fun st=>match st[i]? with
 | some (some (.lst ds))=>match f st with
  | .ok d=>if ds.length <= 1000 then .nx (st.set i (some (.lst (ds ++ [d])))) else .bad
  | .ex c p=>.ex c p st
  | .bad=>.bad
 | _=>.bad
theorem ki5 {i:Nat} {n:Bool} {to:TE} (h:PE X e (tBM X.K "list" ks8 (tVar i) (ky0 (tD X.K C G0 Γ E f κ) tNil))) (na:ky1 Γ = true) (hk:Γ[i]? = some (.own n):=by rfl) (hl:κ.le (inK n) = true:=by rfl) (hs:swapsWith e none pos.line X.env = pure false:=by rfl):PS X (.Expr e pos) (tDS X.K C G0 Γ E κr (dApp i f)):=(kf2 h hs).imp fun D σ H zz=>by
 refine x2_2 zz fun A st r q=>?_
 clear zz
 unfold dApp at q
 split at q
 all_goals first
  | (rename_i z; split at z <;> (try split at z) <;> (try split at z) <;> cases z; done)
  | skip
 ·rename_i st' z
  split at z
  ·rename_i ds hs
   cases hf:f st with
   | bad=>rw [hf] at z; cases z
   | ex c p=>rw [hf] at z; cases z
   | ok d =>
    rw [hf] at z
    dsimp only at z
    split at z
    ·rename_i hlen
     cases z
     refine x2_5 (r.owned hk hs) fun p xs h1 h2 h3 h4 h5=>?_
     refine ⟨_,h1,.inl ⟨rfl,xs,.of h4⟩,A,st,r,?_⟩
     rw [hf]
     intro v H' e' w
     have r':=r.mono e'
     have q5:Reps X.K C (eh n G0 A H') ds xs:=h5.same (by
      unfold eh; cases n
      ·exact q0 e'
      ·exact J1 (q0 e')) _
     refine ⟨p,xs,v,rfl,rfl,e' _ _ h4,?_,?_⟩
     ·rw [h5.len]
      have:1001 <= sizeLine:=by rw [sizeLine_eq]; decide
      lia
     ·obtain ⟨r2,e2⟩:=r'.mut na hk hs h1 h2 h3 ⟨ds,rfl⟩ (q5.app (.cons (w.inK r e' hl) .nil))
      exact q _ _ A r2 ((q0 e').trans e2)
    ·cases z
  ·cases z
 ·rename_i c p st' z
  split at z
  ·rename_i ds hs
   cases hf:f st with
   | bad=>rw [hf] at z; cases z
   | ok d=>rw [hf] at z; dsimp only at z; split at z <;> cases z
   | ex c p =>
    rw [hf] at z
    cases z
    refine x2_5 (r.owned hk hs) fun p' xs h1 h2 h3 h4 h5=>?_
    refine ⟨_,h1,.inl ⟨rfl,xs,.of h4⟩,A,st,r,?_⟩
    rw [hf]
    exact fun H' e'=>q σ H' A (r.mono e') (q0 e')
  ·cases z
 ·exact q.elim
end
end Dm
end T_De5
section T_De6
namespace Dm
open PySem PySem.Spec PyProof.Rows L2
noncomputable def spD (K:PySem.W.Frag) (C:Cfg) (n:Nat) (F:List D -> R D) (κr:Bool):Sp:=fun vs H Q E=>∃ ds,ds.length = n /\ Reps K C H ds vs /\ match F ds with
 | .ok d=>∀ v H',Same H H' -> RetV K C κr H H' d v -> Q v H'
 | .ex c p=>∀ H',Same H H' -> exP E c p H'
 | .bad=>False
noncomputable def J4 (m:Nat) (Fb:DS):List D -> R D:=fun ds=>match Fb (ds.map some ++ List.replicate (m - ds.length) none) with
 | .rt d=>.ok d | .nx _=>.ok .non | .ex c p _=>.ex c p | _=>.bad
section
variable {K:PySem.W.Frag} {C:Cfg} {Γ:List SK} {H:Hp}
theorem jq8:er H [] = H:=by funext a; exact w8 (by simp)
theorem qc8 {n:Nat} {N:List Str} {ds:List D} {vs:List V} (hn:ds.length = n) (hΓ:∀ i,i < n -> Γ[i]? = some .par) (q:Reps K C H ds vs):RS K C H Γ (L2.start N vs) H [] (ds.map some ++ List.replicate (N.length - ds.length) none) where
 base:=by rw [jq8]; exact .refl _
 lists:=fun a m=>by cases m
 len:=by unfold L2.start; simp [q.len]
 slot:=fun i d h=>by
  have hi:i < ds.length:=by
   apply Decidable.byContradiction
   intro hlt
   rw [List.getElem?_append_right (by simp; lia)] at h
   simp at h
   rw [List.getElem?_replicate] at h
   split at h <;> cases h
  rw [List.getElem?_append_left (by simpa using hi),List.getElem?_map] at h
  cases hd:ds[i]? with
  | none=>rw [hd] at h; cases h
  | some d' =>
   rw [hd] at h; cases h
   refine x1_2 (q.get' hd) fun v h1 h2=>?_
   refine ⟨.par,v,hΓ i (by lia),?_,?_⟩
   ·unfold L2.start
    rw [List.getElem?_append_left (by rw [List.length_map,q.len]; exact hi),List.getElem?_map,h1]; rfl
   ·show Rep K C (er H []) d v
    rw [jq8]; exact h2
 apart:=fun i j a b p ds' es hij g1 g2 s1 s2 w1 w2=>by
  have hi:i < ds.length:=by
   apply Decidable.byContradiction
   intro hlt
   rw [List.getElem?_append_right (by simp; lia)] at s1
   simp at s1
   rw [List.getElem?_replicate] at s1
   split at s1 <;> cases s1
  rw [hΓ i (by lia)] at g1; cases g1
theorem qu7 {P:Program} {w:World} {mg:Str -> Option Value} {base:Heap} {x qual:Str} {st:Stmt} {f:Addr} {fd:FuncData} {N ps:List Str} {k n:Nat} {κr:Bool} {Fb:DS} (F:Fun K x qual st f fd) (S:FnScope N ps (j4 st)) (hn:ps.length = n) (hΓ:∀ i,i < n -> Γ[i]? = some .par)
  (body:∀ (cdv:Value) (A:Around) (outer:List Env) (s:Shared) (H:Hp) (E:XK),Room k (A.deeper (envOfC qual (j4 st) s.heap.objs.size f cdv)) ->
   PSs ((cxOf (CXr P w) P w K mg base N qual (j4 st) f cdv A outer s H E).wish (Fly (cxOf (CXr P w) P w K mg base N qual (j4 st) f cdv A outer s H E) fun _=>E)) (v5 st) (tDS K C H Γ (fun _=>E) κr Fb)) :
  FnOk P w K mg base (CXr P w) (k + 1) f fd ps (spD K C n (J4 N.length Fb) κr):=by
 refine ke1 F S (fun vs H Q E zz1=>by obtain ⟨ds,h1,h2,_⟩:=zz1; rw [h2.len,h1,hn]) fun cdv A outer s H vs Q E hr zz2=>?_
 refine x1_3 zz2 fun ds h1 h2 q=>?_
 clear zz2
 refine ⟨_,body cdv A outer s H E hr,[],_,qc8 h1 hΓ h2,?_⟩
 unfold J4 at q
 cases hf:Fb (ds.map some ++ List.replicate (N.length - ds.length) none) with
 | nx st' =>
  rw [hf] at q
  intro σ' H' A' r' e'
  refine q .non H' (r'.g0) ?_
  have R:∀ H:Hp,Rep K C H .non .non:=fun H=>by rw [Rep]
  cases κr with
  | true=>exact ⟨R (nw H H'),fun ds z=>by cases z⟩
  | false=>exact R H'
 | bk st'=>rw [hf] at q; exact q.elim
 | ct st'=>rw [hf] at q; exact q.elim
 | rt d=>rw [hf] at q; exact q
 | ex c p st'=>rw [hf] at q; exact fun σ' H' A' r' e'=>q H' r'.g0
 | bad=>rw [hf] at q; exact q.elim
end
section
variable {X:Cx} {C:Cfg} {G0:Hp} {Γ:List SK} {E:L2.St -> XK} {κr:Bool} {e a b c:Expr} {f fa fb fc:DF} {κ κ' κa κb:Kd} {es rest:List Expr} {fs:DA} {pos:Pos} {s:Stmt} {ss:List Stmt} {F G:DS}
noncomputable def qm0:Bool -> Kd | true=>.new | false=>.tmp
theorem qc2 {n:Nat} {Fd:List D -> R D} {κc:Bool} {K:PySem.W.Frag}:∀ σ H Q,tD K C G0 Γ E (dFn Fd fs) (qm0 κc) σ H Q -> (∀ st ds,fs st = .ok ds -> ds.length = n) -> qj6 (spD K C n Fd κc) E (tDA K C G0 Γ E fs κ) σ H Q:=fun σ H Q zz3 hlen=>by
 refine x2_2 zz3 fun A st r q=>?_
 clear zz3
 refine ⟨A,st,r,?_⟩
 unfold dFn R.bind at q
 cases hf:fs st with
 | bad=>rw [hf] at q; exact q
 | ex c p=>rw [hf] at q; exact q
 | ok ds =>
  rw [hf] at q
  dsimp only at q
  intro vs H1 e1 w1
  refine ⟨ds,hlen st ds hf,w1.same Kd.hp_all _,?_⟩
  cases hg:Fd ds with
  | bad=>rw [hg] at q; exact q
  | ex c p=>rw [hg] at q; exact fun H' e'=>q H' (e1.trans e')
  | ok d =>
   rw [hg] at q
   refine fun v H' e' w=>q v H' (e1.trans e') ?_
   cases κc with
   | true =>
    have w':Val K C .new G0 A H1 H' d v:=w
    exact w'.early e1
   | false=>exact w
theorem k6:∀ st ds,aNil st = .ok ds -> ds.length = 0:=fun st ds h=>by cases h; rfl
theorem j3 {n:Nat} (h:∀ st ds,fs st = .ok ds -> ds.length = n):∀ st ds,j2 f fs st = .ok ds -> ds.length = n + 1:=fun st ds q=>by
 unfold j2 R.bind at q
 cases hf:f st with
 | bad=>rw [hf] at q; cases q
 | ex c p=>rw [hf] at q; cases q
 | ok d =>
  rw [hf] at q
  dsimp only at q
  cases hg:fs st with
  | bad=>rw [hg] at q; cases q
  | ex c p=>rw [hg] at q; cases q
  | ok ds' =>
   rw [hg] at q; cases q
   rw [List.length_cons,h st _ hg]
theorem qp4 {X:Cx} {x:Str} {k n:Nat} {ff:Addr} {fd:FuncData} {ps:List Str} {Fd:List D -> R D} {κc:Bool} {p:Pos} (Fn:FnOk X.prog X.w X.K X.mg X.base (CXr X.prog X.w) k ff fd ps (spD X.K C n Fd κc)) (hr:Room k X.A) (hm:X.mg x = some (.ref ff)) (hk:PySem.W.keepIn X.K (.ref ff) = true) (hb:Binds X.K fd ps [])
  (ha:PA (X.wish (Fly X E)) (e :: es) (tDA X.K C G0 Γ E fs κ)) (hlen:∀ st ds,fs st = .ok ds -> ds.length = n) (hg:Gl X x:=by rfl) (hdb:(x == ("__debug__" : Str)) = false:=by decide) (he:starEach (e :: es) X.env = (false,eval e X.env) :: starEach es X.env:=by rfl) (hpl:(backTo pos (starEach es X.env)).any (·.1) = false:=by rfl) :
  PE (X.wish (Fly X E)) (.Call (.Name x p) (e :: es) [] pos) (tD X.K C G0 Γ E (dFn Fd fs) (qm0 κc)):=(qi4 Fn hr hg hm hk hb ha hdb he hpl).imp fun σ H Q q=>qc2 σ H Q q hlen
noncomputable abbrev DB:=D -> DSt -> Option DSt
noncomputable def jb3 (bind:DB) (F:DS):List D -> DSt -> Out
 | [],st=>.nx st
 | d :: ds,st=>match bind d st with
  | none=>.bad
  | some st1=>match F st1 with
   | .nx st'=>jb3 bind F ds st'
   | .ct st'=>jb3 bind F ds st'
   | .bk st'=>.nx st'
   | o=>o
noncomputable abbrev DI:=DSt -> R (List D)
noncomputable def dFor (g:DI) (bind:DB) (F:DS):DS:=fun st=>match g st with | .ok ds=>jb3 bind F ds st | .ex c p=>.ex c p st | .bad=>.bad
noncomputable def jt8 (K:PySem.W.Frag) (C:Cfg) (G0:Hp) (Γ:List SK) (t:TG) (bind:DB):Prop:=∀ (σ:L2.St) (H:Hp) (A:List Addr) (st st1:DSt) (d:D) (v:V) (Q:L2.St -> Hp -> Prop),RS K C G0 Γ σ H A st -> Rep K C (er H A) d v -> bind d st = some st1 ->
 (∀ σ' A',RS K C G0 Γ σ' H A' st1 -> Same (er H A) (er H A') -> (∀ a ∈ A,a ∈ A') -> Q σ' H) -> t v σ H Q
noncomputable def Q6 (i:Nat):DB:=fun d st=>some (st.set i (some d))
noncomputable def jj3 (i j:Nat):DB:=fun d st=>match d with | .tup [a,b]=>some ((st.set i (some a)).set j (some b)) | _=>none
theorem U4 {K:PySem.W.Frag} {i:Nat} {k:SK} (hk:Γ[i]? = some k:=by rfl) (l:k.takes .old = true:=by rfl):jt8 K C G0 Γ (kq8 i) (Q6 i):=fun σ H A st st1 d v Q r w hb q=>by
 cases hb
 refine x1_3 (r.set (.refl _) hk l (κ:=.old) w) fun A' r' e' sb=>?_
 exact q _ A' r' e' sb
theorem jn8 {K:PySem.W.Frag} {i j:Nat} {k k':SK} (hk:Γ[i]? = some k:=by rfl) (hj:Γ[j]? = some k':=by rfl) (l:k.takes .old = true:=by rfl) (l':k'.takes .old = true:=by rfl):jt8 K C G0 Γ (gTup K 2 (qs6 (kq8 i) (qs6 (kq8 j) gNil))) (jj3 i j):=fun σ H A st st1 d v Q r w hb q=>by
 unfold jj3 at hb
 split at hb
 ·rename_i a b
  cases hb
  rw [Rep] at w
  refine x2_3 w fun p xs zo2 h2 h3=>?_
  clear w
  obtain rfl:=zo2
  have h2':=Same.tup (q9 _ _) h2
  rw [Reps] at h3
  obtain ⟨x,r1,rfl,wx,h3⟩:=h3
  rw [Reps] at h3
  obtain ⟨y,r2,rfl,wy,h3⟩:=h3
  rw [Reps] at h3
  subst h3
  refine ⟨p,_,rfl,h2',rfl,x,[y],rfl,y,[],rfl,rfl,?_⟩
  refine x1_3 (r.set (.refl _) hk l (κ:=.old) wx) fun A1 s1 e1 b1=>?_
  refine x1_3 (s1.set (.refl _) hj l' (κ:=.old) (wy.same e1 _)) fun A2 s2 e2 b2=>?_
  exact q _ A2 s2 (e1.trans e2) fun a m=>b2 a (b1 a m)
 ·cases hb
noncomputable def ItOk (K:PySem.W.Frag) (C:Cfg) (A:List Addr) (H1:Hp) (J:It) (ds:List D):Prop:=∀ (i:Nat) (H:Hp) (A':List Addr),Same (er H1 A) (er H A') -> (∀ a ∈ A',H a ≠ none) ->
 (∀ d,ds[i]? = some d -> J.go i H /\ ∀ x H',J.yld i H x H' -> Same H H' /\ Rep K C (er H' A') d x) /\ (ds[i]? = none -> J.stop i H)
theorem jr9 {K:PySem.W.Frag} {J:It} {ds:List D} {bind:DB} {g:TG} {A:List Addr} {H H1:Hp} {σ:L2.St} {st:DSt} {D:Ends} (hB:jt8 K C G0 Γ g bind) (hJ:ItOk K C A H1 J ds) (r:RS K C G0 Γ σ H A st) (e1:Same H H1) (q:match jb3 bind F ds st with
   | .nx st'=>∀ σ' H' A',RS K C G0 Γ σ' H' A' st' -> Same (er H A) (er H' A') -> D.nx σ' H'
   | .bk st'=>∀ σ' H' A',RS K C G0 Γ σ' H' A' st' -> Same (er H A) (er H' A') -> D.bk σ' H'
   | .ct st'=>∀ σ' H' A',RS K C G0 Γ σ' H' A' st' -> Same (er H A) (er H' A') -> D.ct σ' H'
   | .rt d=>∀ v H',Same G0 H' -> RetV K C κr G0 H' d v -> D.rt v H'
   | .ex c p st'=>∀ σ' H' A',RS K C G0 Γ σ' H' A' st' -> Same (er H A) (er H' A') -> exP (E σ') c p H'
   | .bad=>False) :
  ∃ W:Nat -> Nat -> L2.St -> Hp -> Prop,(∃ m,W 0 m σ H1) /\ ∀ i m σ H,W i m σ H ->
   (J.stop i H /\ D.nx σ H) \/ (J.go i H /\ ∃ N:L2.St -> Hp -> Prop,(∀ σ' H',N σ' H' -> ∃ m',m' < m /\ W (i + 1) m' σ' H') /\ ∀ x H',J.yld i H x H' -> g x σ H' fun σ2 H2=>tDS K C G0 Γ E κr F { D with nx:=N,ct:=N,bk:=D.nx } σ2 H2):=by
 refine ⟨fun i m σ' H'=>m = ds.length - i /\ i <= ds.length /\ ∃ A' st',RS K C G0 Γ σ' H' A' st' /\ Same (er H1 A) (er H' A') /\ jb3 bind F (ds.drop i) st' = jb3 bind F ds st,⟨ds.length,rfl,Nat.zero_le _,A,st,r.mono e1,.refl _,rfl⟩,?_⟩
 rintro i m σ3 H3 ⟨rfl,hi,A3,st3,r3,e3,g3⟩
 obtain ⟨hgo,hst⟩:=hJ i H3 A3 e3 (fun a m=>by obtain ⟨xs,q⟩:=r3.lists a m; rw [q]; simp)
 cases hd:ds[i]? with
 | none =>
  have:ds.drop i = []:=List.drop_eq_nil_iff.mpr (List.getElem?_eq_none_iff.mp hd)
  rw [this] at g3
  rw [<- g3] at q
  exact .inl ⟨hst hd,q σ3 H3 A3 r3 ((q0 e1).trans e3)⟩
 | some d =>
  obtain ⟨go,yl⟩:=hgo d hd
  have hlt:i < ds.length:=(List.getElem?_eq_some_iff.mp hd).1
  have hdr:ds.drop i = d :: ds.drop (i + 1):=by
   rw [List.drop_eq_getElem_cons hlt]
   congr 1
   exact (List.getElem?_eq_some_iff.mp hd).2
  refine .inr ⟨go,fun σ' H'=>∃ A' st',RS K C G0 Γ σ' H' A' st' /\ Same (er H1 A) (er H' A') /\ jb3 bind F (ds.drop (i + 1)) st' = jb3 bind F ds st,fun σ' H' zz4=>zz4.elim fun A' zz5=>zz5.elim fun st' zz6=>zz6.elim fun h1 zz7=>zz7.elim fun h2 h3=>⟨ds.length - (i + 1),by lia,rfl,hlt,A',st',h1,h2,h3⟩,fun x H' hy=>?_⟩
  obtain ⟨e4,wx⟩:=yl x H' hy
  rw [hdr,jb3] at g3
  cases hb:bind d st3 with
  | none=>rw [hb] at g3; rw [<- g3] at q; exact q.elim
  | some st4 =>
   rw [hb] at g3
   dsimp only at g3
   refine hB σ3 H' A3 st3 st4 d x _ (r3.mono e4) wx hb fun σ5 A5 r5 e5 _=>⟨A5,st4,r5,?_⟩
   have eall:Same (er H1 A) (er H' A5):=(e3.trans (q0 e4)).trans e5
   cases hf:F st4 with
   | nx st5=>rw [hf] at g3; exact fun σ6 H6 A6 r6 e6=>⟨A6,st5,r6,eall.trans e6,g3⟩
   | ct st5=>rw [hf] at g3; exact fun σ6 H6 A6 r6 e6=>⟨A6,st5,r6,eall.trans e6,g3⟩
   | bk st5=>rw [hf] at g3; rw [<- g3] at q; exact fun σ6 H6 A6 r6 e6=>q σ6 H6 A6 r6 (((q0 e1).trans eall).trans e6)
   | rt d=>rw [hf] at g3; rw [<- g3] at q; exact q
   | ex c p st5=>rw [hf] at g3; rw [<- g3] at q; exact fun σ6 H6 A6 r6 e6=>q σ6 H6 A6 r6 (((q0 e1).trans eall).trans e6)
   | bad=>rw [hf] at g3; rw [<- g3] at q; exact q.elim
noncomputable def iLst (f:DF):DI:=fun st=>match f st with | .ok (.lst ds)=>.ok ds | .ok _=>.bad | .ex c p=>.ex c p | .bad=>.bad
theorem Q5 {tg iter:Expr} {bind:DB} {g:TG} (hp:PassesOwn (model X.prog X.w) X.A X.env X.xe) (hc:X.calm = true) (he:PE X iter (tD X.K C G0 Γ E f κ)) (l:κ.le .old = true) (hg:PG X tg g) (hB:jt8 X.K C G0 Γ g bind) (hb:PSs X ss (tDS X.K C G0 Γ E κr F)) (hs:∀ x,foldedSetIterable iter X.env x = pure x:=by intro _; rfl) :
  PS X (.For tg iter ss [] pos) (tDS X.K C G0 Γ E κr (dFor (iLst f) bind F)):=(kz5 hp hc (kz0 he) hg hb hs).imp fun D σ H zz=>by
 refine x2_2 zz fun A st r q=>?_
 clear zz
 refine ⟨A,st,r,?_⟩
 unfold dFor iLst at q
 cases hf:f st with
 | bad=>rw [hf] at q; exact q.elim
 | ex c p=>rw [hf] at q; exact fun H' e'=>q σ H' A (r.mono e') (q0 e')
 | ok d =>
  rw [hf] at q
  cases d with
  | lst ds =>
   dsimp only at q
   intro v H1 e1 w
   have w':Rep X.K C (er H1 A) (.lst ds) v:=w.le r e1 (κ':=.old) l
   rw [Rep] at w'
   refine x2_3 w' fun a xs zo2 h2 h3=>?_
   clear w'
   obtain rfl:=zo2
   refine ⟨a,rfl,⟨xs,(q9 _ _).seq h2⟩,?_⟩
   refine jr9 hB (fun i H3 A3 e3 _=>⟨fun d hd=>?_,fun hd=>?_⟩) r e1 q
   ·refine x1_2 (h3.get' hd) fun v hv rv=>?_
    have s3:SqL X.K H3 a xs:=(e3.trans (q9 _ _)).seq h2
    refine ⟨⟨xs,v,s3,hv⟩,fun x H' zz8=>?_⟩
    obtain ⟨hH,hx⟩:=zz8
    subst hH
    have:=hx xs s3
    rw [hv] at this; cases this
    exact ⟨.refl _,rv.same ((q9 _ _).trans e3) _⟩
   ·exact ⟨xs,(e3.trans (q9 _ _)).seq h2,by rw [h3.len]; exact List.getElem?_eq_none_iff.mp hd⟩
  | _=>exact q.elim
noncomputable def iRng (fs:DA):DI:=fun st=>match fs st with | .ok [.int j]=>if (decide (-(2 ^ 62) <= j) && decide (j < 2 ^ 62)) = true then .ok ((List.range j.toNat).map fun i=>.int (i:Nat)) else .bad | .ok _=>.bad | .ex c p=>.ex c p | .bad=>.bad
theorem jg9 {tg:Expr} {bind:DB} {g:TG} {p:Pos} (hp:PassesOwn (model X.prog X.w) X.A X.env X.xe) (hc:X.calm = true) (hm:X.mg "range" = none) (ha:PA X [a] (tDA X.K C G0 Γ E fs κ)) (hg:PG X tg g) (hB:jt8 X.K C G0 Γ g bind) (hb:PSs X ss (tDS X.K C G0 Γ E κr F)) (hgl:Gl X "range":=by rfl)
  (hs1:starEach [a] X.env = [(false,eval a X.env)]:=by rfl) (hs:∀ x,foldedSetIterable (.Call (.Name "range" p) [a] [] pos) X.env x = pure x:=by intro _; rfl) {pos':Pos} :
  PS X (.For tg (.Call (.Name "range" p) [a] [] pos) ss [] pos') (tDS X.K C G0 Γ E κr (dFor (iRng fs) bind F)):=(kz5 hp hc (ke7 hgl hm ha hs1) hg hb hs).imp fun D σ H zz=>by
 refine x2_2 zz fun A st r q=>?_
 clear zz
 refine ⟨A,st,r,?_⟩
 unfold dFor at q
 cases hg:iRng fs st with
 | bad=>rw [hg] at q; exact q.elim
 | ex c p =>
  rw [hg] at q
  have hf:fs st = .ex c p:=by
   unfold iRng at hg
   split at hg
   ·split at hg <;> cases hg
   ·cases hg
   ·rename_i z; rw [z]; cases hg; rfl
   ·cases hg
  rw [hf]
  exact fun H' e'=>q σ H' A (r.mono e') (q0 e')
 | ok ds' =>
  rw [hg] at q
  unfold iRng at hg
  split at hg
  ·rename_i j hf
   rw [hf]
   split at hg
   ·rename_i hc
    cases hg
    simp only [Bool.and_eq_true,decide_eq_true_eq] at hc
    intro vs H1 e1 w1
    refine x1_2 (jk7 w1) fun v zo1 wv=>?_
    obtain rfl:=zo1
    obtain rfl:v = .int j:=by rw [Rep] at wv; exact wv
    refine ⟨j,rfl,hc.1,hc.2,?_⟩
    refine jr9 hB (fun i H3 A3 e3 _=>⟨fun d hd=>?_,fun hd=>?_⟩) r e1 q
    ·rw [List.getElem?_map] at hd
     have hi:i < j.toNat:=by
      apply Decidable.byContradiction
      intro hlt
      rw [List.getElem?_eq_none (by simpa using hlt)] at hd
      cases hd
     rw [List.getElem?_range hi] at hd
     cases hd
     refine ⟨hi,fun x H' zz9=>?_⟩
     obtain ⟨hH,hx⟩:=zz9
     subst hH; subst hx
     refine ⟨.refl _,?_⟩
     rw [Rep,Int.zero_add]
    ·show j.toNat <= i
     have:=List.getElem?_eq_none_iff.mp hd
     simpa using this
   ·cases hg
  ·cases hg
  ·cases hg
  ·cases hg
end
end Dm
end T_De6
section T_De7
namespace Dm
open PySem PySem.Spec PyProof.Rows L2
section
variable {X:Cx} {C:Cfg} {G0:Hp} {Γ:List SK} {E:L2.St -> XK} {κr:Bool} {e a b c:Expr} {f fa fb fc:DF} {κ κ' κa κb κc:Kd} {es rest:List Expr} {fs:DA} {pos:Pos} {s:Stmt} {ss:List Stmt} {F G:DS}
noncomputable def ji3 (g g':D -> D -> R D) (fa fb fc:DF):DF:=fun st=>(fa st).bind fun a=>(fb st).bind fun b=>(g a b).bind fun z=>match z with
 | .bl true=>(fc st).bind fun c=>g' b c
 | .bl false=>.ok (.bl false)
 | _=>.bad
theorem kc0 {K:PySem.W.Frag} {r2 r2':R2} {g g':D -> D -> R D} (ho:OpD K C r2 g .new) (ho':OpD K C r2' g' .new):∀ σ H Q,tD K C G0 Γ E (ji3 g g' fa fb fc) .new σ H Q -> kv8 r2 r2' (tD K C G0 Γ E fa κa) (tD K C G0 Γ E fb κb) (tD K C G0 Γ E fc κc) σ H Q:=fun σ H Q zz=>by
 refine x2_2 zz fun A st r q=>?_
 clear zz
 refine ⟨A,st,r,?_⟩
 unfold ji3 R.bind at q
 cases ha:fa st with
 | bad=>rw [ha] at q; exact q
 | ex c p=>rw [ha] at q; exact q
 | ok a =>
  rw [ha] at q
  intro x H1 e1 w1
  refine ⟨A,st,r.mono e1,?_⟩
  dsimp only at q
  cases hb:fb st with
  | bad=>rw [hb] at q; exact q
  | ex c p=>rw [hb] at q; exact fun H' e'=>q H' (e1.trans e')
  | ok b =>
   rw [hb] at q
   intro y H2 e2 w2
   dsimp only at q
   have e12:=e1.trans e2
   refine ho G0 Γ (E σ) σ A st H2 a b x y _ (r.mono e12) (w1.rep.same e2 _) w2.rep ?_
   cases hg:g a b with
   | bad=>rw [hg] at q; exact q
   | ex c p=>rw [hg] at q; exact fun H' e'=>q H' (e12.trans e')
   | ok z =>
    rw [hg] at q
    cases z with
    | bl k =>
     intro v H3 e3 w3
     refine ⟨k,vbl w3,?_⟩
     have e13:=e12.trans e3
     cases k with
     | false=>rw [if_neg Bool.false_ne_true]; exact q _ H3 e13 (.flat r e13 (by rw [noL] <;> simp) repB _)
     | true =>
      rw [if_pos rfl]
      refine ⟨A,st,r.mono e13,?_⟩
      dsimp only at q
      cases hc:fc st with
      | bad=>rw [hc] at q; exact q
      | ex c p=>rw [hc] at q; exact fun H' e'=>q H' (e13.trans e')
      | ok c =>
       rw [hc] at q
       intro w' H4 e4 w4
       dsimp only at q
       refine ho' G0 Γ (E σ) σ A st H4 b c y w' Q (r.mono (e13.trans e4)) (w2.rep.same (e3.trans e4) _) w4.rep ?_
       cases hg':g' b c with
       | bad=>rw [hg'] at q; exact q
       | ex c p=>rw [hg'] at q; exact fun H' e'=>q H' ((e13.trans e4).trans e')
       | ok d=>rw [hg'] at q; exact fun v H' e' w=>q v H' ((e13.trans e4).trans e') (w.early (e13.trans e4))
    | _=>exact q.elim
theorem kl9 {op op':CmpOp} {r2 r2':R2} {g g':D -> D -> R D} (hr:OpR X (compareOp op) r2) (hr':OpR X (compareOp op') r2') (ho:OpD X.K C r2 g .new) (ho':OpD X.K C r2' g' .new) (ha:PE X a (tD X.K C G0 Γ E fa κa)) (hb:PE X b (tD X.K C G0 Γ E fb κb)) (hc:PE X c (tD X.K C G0 Γ E fc κc))
  (hm:lastMarks [op,op'] [b,c] = false:=by with_unfolding_all rfl):PE X (.Compare a [op,op'] [b,c] pos) (tD X.K C G0 Γ E (ji3 g g' fa fb fc) .new):=(qd2 hr hr' ha hb hc hm).imp (kc0 ho ho')
theorem ki3 {op op':CmpOp} {r2 r2':R2} {g g':D -> D -> R D} (hr:OpR X (compareOp op) r2) (hr':OpR X (compareOp op') r2') (ho:OpD X.K C r2 g .new) (ho':OpD X.K C r2' g' .new) (ha:PE X a (tD X.K C G0 Γ E fa κa)) (hb:PE X b (tD X.K C G0 Γ E fb κb)) (hc:PE X c (tD X.K C G0 Γ E fc κc))
  (hm:lastMarks [op,op'] [b,c] = false:=by with_unfolding_all rfl):PT X (.Compare a [op,op'] [b,c] pos) (tDT X.K C G0 Γ E (ji3 g g' fa fb fc)):=(qd4 hr hr' ha hb hc hm).imp fun σ H Q zz=>by
 refine x2_2 zz fun A st r q=>?_
 clear zz
 refine kc0 ho ho' σ H _ ⟨A,st,r,?_⟩
 cases hf:ji3 g g' fa fb fc st with
 | bad=>rw [hf] at q; exact q
 | ex c p=>rw [hf] at q; exact q
 | ok d =>
  rw [hf] at q
  cases d with
  | bl b=>exact fun v H' e' w=>⟨b,vbl w,q H' e'⟩
  | _=>exact q.elim
noncomputable def gNeg:D -> R D:=fun a=>match a with | .int i=>.ok (.int (-i)) | _=>.bad
theorem qz5 (ha:PE X a (tD X.K C G0 Γ E fa κa)):PE X (.UnaryOp .USub a pos) (tD X.K C G0 Γ E (dUn gNeg fa) .new):=(vd0 vc4 ha).imp fun σ H Q zz=>by
 refine x2_2 zz fun A st r q=>?_
 clear zz
 refine ⟨A,st,r,?_⟩
 unfold dUn R.bind at q
 cases ha:fa st with
 | bad=>rw [ha] at q; exact q
 | ex c p=>rw [ha] at q; exact q
 | ok a =>
  rw [ha] at q
  intro x H1 e1 w1
  cases a with
  | int i =>
   have:=w1.rep
   rw [Rep] at this
   exact ⟨i,this,q _ H1 e1 (.flat r e1 (by rw [noL] <;> simp) repI _)⟩
  | _=>exact q.elim
noncomputable def cutD (ds:List D) (lo hi:Option Int):List D:=(ds.drop (HT.sIx ds.length 0 lo)).take (HT.sIx ds.length ds.length hi - HT.sIx ds.length 0 lo)
noncomputable def jt9 (o:Option DF):DSt -> R (Option Int):=fun st=>match o with
 | none=>.ok none
 | some f=>(f st).bind fun d=>match d with | .int i=>.ok (some i) | _=>.bad
noncomputable def dSl (fa:DF) (lo hi:Option DF):DF:=fun st=>(fa st).bind fun a=>(jt9 lo st).bind fun l=>(jt9 hi st).bind fun h=>match a with
 | .lst ds=>if noLs ds = true then .ok (.lst (cutD ds l h)) else .bad
 | _=>.bad
noncomputable def tDO (K:PySem.W.Frag) (C:Cfg) (G0:Hp) (Γ:List SK) (E:L2.St -> XK) (o:Option DF):TO:=fun σ H Q=>∃ A st,RS K C G0 Γ σ H A st /\ match jt9 o st with
 | .ok i=>∀ H',Same H H' -> Q i H'
 | .ex c p=>∀ H',Same H H' -> exP (E σ) c p H'
 | .bad=>False
theorem ki1:PO X none (tDO X.K C G0 Γ E none):=fun pins s σ H Q I zz1=>zz1.elim fun A zz2=>zz2.elim fun st zz3=>zz3.elim fun r q=>qq7 pins s σ H Q I (q H (.refl _))
theorem kf5 (h:PE X e (tD X.K C G0 Γ E f κ)):PO X (some e) (tDO X.K C G0 Γ E (some f)):=fun pins s σ H Q I zz4=>zz4.elim fun A zz5=>zz5.elim fun st zz6=>zz6.elim fun r q=>qn9 h pins s σ H Q I ⟨A,st,r,by
 unfold jt9 R.bind at q
 cases hf:f st with
 | bad=>simp only [hf] at q
 | ex c p=>simp only [hf] at q; exact q
 | ok d =>
  simp only [hf] at q
  cases d with
  | int i=>exact fun v H' e' w=>⟨i,by have:=w.rep; rw [Rep] at this; exact this,q H' e'⟩
  | _=>exact q.elim⟩
theorem qb8 {K:PySem.W.Frag} {H:Hp} {ds:List D} {xs:List V} {lo hi:Option Int} (q:Reps K C H ds xs):Reps K C H (cutD ds lo hi) (cutV xs lo hi):=by
 unfold cutD cutV
 rw [q.len]
 exact (q.drop _).take _
theorem kz4:∀ {ds:List D} (n:Nat),noLs ds = true -> noLs (ds.take n) = true:=fun n h=>jc6 fun d hd=>jf1 h (List.mem_of_mem_take hd)
theorem qa8:∀ {ds:List D} (n:Nat),noLs ds = true -> noLs (ds.drop n) = true:=fun n h=>jc6 fun d hd=>jf1 h (List.mem_of_mem_drop hd)
theorem qg1 {ds es:List D} (h:noLs ds = true) (h':noLs es = true):noLs (ds ++ es) = true:=jc6 fun d hd=>(List.mem_append.mp hd).elim (jf1 h) (jf1 h')
theorem jy2 {lo hi:Option Expr} {fl fh:Option DF} {p2:Pos} (he:PE X e (tD X.K C G0 Γ E fa κa)) (hl:PO X lo (tDO X.K C G0 Γ E fl)) (hu:PO X hi (tDO X.K C G0 Γ E fh)):PE X (.Subscript e (.Slice lo hi none p2) pos) (tD X.K C G0 Γ E (dSl fa fl fh) .new):=(qi5 qq3 he hl hu).imp fun σ H Q zz=>by
 refine x2_2 zz fun A st r q=>?_
 clear zz
 refine ⟨A,st,r,?_⟩
 unfold dSl R.bind at q
 cases ha:fa st with
 | bad=>rw [ha] at q; exact q
 | ex c p=>rw [ha] at q; exact q
 | ok a =>
  rw [ha] at q
  intro x H1 e1 w1
  refine ⟨A,st,r.mono e1,?_⟩
  dsimp only at q
  cases hb:jt9 fl st with
  | bad=>rw [hb] at q; exact q
  | ex c p=>rw [hb] at q; exact fun H' e'=>q H' (e1.trans e')
  | ok l =>
   rw [hb] at q
   intro H2 e2
   refine ⟨A,st,r.mono (e1.trans e2),?_⟩
   dsimp only at q
   cases hc:jt9 fh st with
   | bad=>rw [hc] at q; exact q
   | ex c p=>rw [hc] at q; exact fun H' e'=>q H' ((e1.trans e2).trans e')
   | ok h =>
    rw [hc] at q
    intro H3 e3
    dsimp only at q
    cases a with
    | lst ds =>
     dsimp only at q
     by_cases n:noLs ds = true
     ·rw [if_pos n] at q
      refine x2_3 ((w1.rep.same (e2.trans e3) _).items) fun p xs zo2 h2 h3=>?_
      obtain rfl:=zo2
      have e13:=(e1.trans e2).trans e3
      refine ⟨p,xs,rfl,h2,fun l' hl'=>q _ _ (e13.trans (Y5 hl')) (.lst r e13 hl' ?_)⟩
      exact (qb8 h3).part (.nw e13) _ (kz4 _ (qa8 _ n))
     ·rw [if_neg n] at q; exact q.elim
    | _=>exact q.elim
noncomputable def va6 (K:PySem.W.Frag):R2:=fun x y H Q=>∃ l b xs zs,x = .ref l /\ y = .ref b /\ SqL K H l xs /\ SqL K H b zs /\ xs.length + zs.length <= sizeLine /\ ∀ p,H p = none -> Q (.ref p) (upd H p (.lst (xs ++ zs)))
theorem qa4:OpR X (binaryOp .Add) (va6 X.K):=by
 intro pins s σ H x y v u Q I rx ry h
 refine x4_6 h fun l b xs zs zo4 zo5 hH hB hz q=>?_
 clear h
 obtain rfl:=zo4
 obtain rfl:=zo5
 cases rx
 cases ry
 refine x1_3 (I.list hH) fun its r p1 _=>?_
 refine x1_3 (I.list hB) fun its2 r2 p2 _=>?_
 obtain ⟨⟨cls,dd,data,sl⟩,ho,hc,n,hd⟩:=id p1.isList
 obtain ⟨⟨cls2,dd2,data2,sl2⟩,ho2,hc2,n2,hd2⟩:=id p2.isList
 simp only at hc hd hc2 hd2
 subst hc hd hc2 hd2
 have l1:=r.length
 have l2:=r2.length
 refine concat_meets ⟨_,ho,rfl⟩ ⟨_,ho2,rfl⟩ noFill_list_add seq_list_add PySem.F.slot_list_add PySem.F.entry_list_add (PySem.F.args_list_add_2 _ _) (list_addW l b its.toArray its2.toArray n n2 dd dd2 sl sl2 (by simp; lia)) ⟨ho,ho2,?_⟩
 have ea:its.toArray ++ its2.toArray = (its ++ its2).toArray:=by simp
 rw [ea]
 exact ⟨.ref _,_,I.lnew (t':=s.toks) (r.append r2) (by rw [List.length_append]; lia),rfl,q _ I.fresh⟩
noncomputable def gCat:D -> D -> R D:=fun a b=>match a,b with
 | .lst ds,.lst es=>if (noLs ds && noLs es && decide (ds.length + es.length <= 1000)) = true then .ok (.lst (ds ++ es)) else .bad
 | _,_=>.bad
theorem kq7 {K:PySem.W.Frag}:OpD K C (va6 K) gCat .new:=fun G0 Γ E σ A st H a b x y Q r qa qb q=>by
 cases hg:gCat a b with
 | bad=>rw [hg] at q; exact q.elim
 | ex c p=>unfold gCat at hg; split at hg <;> (try split at hg) <;> cases hg
 | ok d =>
  rw [hg] at q
  unfold gCat at hg
  split at hg
  ·rename_i ds es
   split at hg
   ·rename_i hc
    cases hg
    simp only [Bool.and_eq_true,decide_eq_true_eq] at hc
    refine x2_3 qa.items fun p xs zo2 h2 h3=>?_
    obtain rfl:=zo2
    refine x2_3 qb.items fun p' ys zo2 h2' h3'=>?_
    obtain rfl:=zo2
    refine ⟨p,p',xs,ys,rfl,rfl,h2,h2',?_,fun l hl=>q _ _ (Y5 hl) (.lst r (.refl _) hl ?_)⟩
    ·rw [h3.len,h3'.len]
     have:1000 <= sizeLine:=by rw [sizeLine_eq]; decide
     lia
    ·exact (h3.app h3').part (.nw (.refl _)) _ (qg1 hc.1.1 hc.1.2)
   ·cases hg
  ·cases hg
noncomputable def rowI:D -> Option (List Int)
 | .tup ds=>ds.mapM fun d=>match d with | .int i=>some i | _=>none
 | _=>none
theorem qq4:∀ {d:D} {ns:List Int},rowI d = some ns -> d = .tup (ns.map D.int)
 | .tup ds,ns,h=>by
  rw [rowI] at h
  congr 1
  revert ns
  induction ds with
  | nil=>intro ns h; simp at h; subst h; rfl
  | cons d ds ih =>
   intro ns h
   rw [List.mapM_cons] at h
   cases d with
   | int i =>
    dsimp only at h
    cases hm:ds.mapM fun d=>match d with | .int i=>some i | _=>(none:Option Int) with
    | none=>rw [hm] at h; cases h
    | some ms =>
     rw [hm] at h
     have h':i :: ms = ns:=Option.some.inj h
     subst h'
     rw [List.map_cons,<- ih ms hm]
   | _=>cases h
noncomputable def kw3 (ds:List D):Option (List (List Int)):=ds.mapM rowI
theorem km6:∀ {ds:List D} {nss:List (List Int)},kw3 ds = some nss -> ds = nss.map fun ns=>.tup (ns.map D.int)
 | [],nss,h=>by
  have h':some [] = some nss:=h
  cases h'; rfl
 | d :: ds,nss,h=>by
  unfold kw3 at h
  rw [List.mapM_cons] at h
  cases hd:rowI d with
  | none=>rw [hd] at h; cases h
  | some ns =>
   rw [hd] at h
   cases hm:ds.mapM rowI with
   | none=>rw [hm] at h; cases h
   | some ms =>
    rw [hm] at h
    have h':ns :: ms = nss:=Option.some.inj h
    subst h'
    rw [List.map_cons,<- km6 (ds:=ds) hm,qq4 hd]
noncomputable def jm7 (nss:List (List Int)):Bool:=match nss with | []=>true | ns :: _=>decide (ns.length ≠ 0) && nss.all fun ms=>decide (ms.length = ns.length)
theorem kf8 {nss:List (List Int)} (h:jm7 nss = true):Rows nss:=by
 cases nss with
 | nil=>exact ⟨0,fun ns hm=>by cases hm⟩
 | cons ns nss =>
  unfold jm7 at h
  rw [Bool.and_eq_true] at h
  have h1:ns.length ≠ 0:=by simpa using h.1
  refine ⟨ns.length - 1,fun ms hm=>?_⟩
  have:=List.all_eq_true.mp h.2 ms hm
  have:ms.length = ns.length:=by simpa using this
  lia
noncomputable def dRow (ns:List Int):D:=.tup (ns.map D.int)
theorem qs3 (ns:List Int):noL (dRow ns) = true:=by
 unfold dRow
 rw [noL]
 exact jc6 fun d hd=>by
  refine x1_2 (List.mem_map.mp hd) fun n _ zo2=>?_
  obtain rfl:=zo2
  rw [noL] <;> simp
theorem ks4 (nss:List (List Int)):noLs (nss.map dRow) = true:=jc6 fun d hd=>by
 refine x1_2 (List.mem_map.mp hd) fun n _ zo2=>?_
 obtain rfl:=zo2
 exact qs3 n
noncomputable def dd {α:Type} [DecidableEq α]:List α -> List α
 | []=>[]
 | x :: xs=>if x ∈ xs then dd xs else x :: dd xs
theorem jw0 {α:Type} [DecidableEq α] {x:α}:∀ {xs:List α},x ∈ dd xs ↔ x ∈ xs
 | []=>Iff.rfl
 | y :: ys=>by
  rw [dd]
  split
  ·rename_i h
   rw [jw0,List.mem_cons]
   constructor
   ·exact .inr
   ·rintro (rfl | q)
    ·exact h
    ·exact q
  ·rw [List.mem_cons,List.mem_cons,jw0]
theorem jp2 {α:Type} [DecidableEq α]:∀ (xs:List α),(dd xs).Nodup
 | []=>.nil
 | y :: ys=>by
  rw [dd]
  split
  ·exact jp2 ys
  ·rename_i h
   exact List.nodup_cons.mpr ⟨fun q=>h (jw0.mp q),jp2 ys⟩
noncomputable def jf9:D -> R D:=fun a=>match a with
 | .lst es=>match kw3 es with
  | some nss=>if (jm7 nss && decide (nss.length <= 50)) = true then .ok (.lst (jc4 ((dd nss).map dRow))) else .bad
  | none=>.bad
 | _=>.bad
theorem kf4 {ds es:List D} (hs:∀ a ∈ ds,∀ b ∈ ds,shp a b = true) (hp:es.Perm ds):jc4 es = jc4 ds:=Z0 hs ((W0 es).trans hp) (jo8 es)
end
end Dm
end T_De7
section T_De8
namespace Dm
open PySem PySem.Spec PyProof.Rows L2
section
variable {X:Cx} {C:Cfg} {G0:Hp} {Γ:List SK} {E:L2.St -> XK} {κr:Bool} {e a b c:Expr} {f fa fb fc:DF} {κ κ' κa κb κc:Kd} {es rest:List Expr} {fs:DA} {pos:Pos} {s:Stmt} {ss:List Stmt} {F G:DS}
theorem vb1:bootBuiltins "set" = some (.type "set"):=by decide +kernel
theorem jm3:bootBuiltins "sorted" = some (.builtin "sorted"):=by decide +kernel
theorem qc0 {nss:List (List Int)} (h:Rows nss):∀ a ∈ nss.map dRow,∀ b ∈ nss.map dRow,shp a b = true:=fun a ha b hb=>by
 obtain ⟨n,hn⟩:=h
 refine x1_2 (List.mem_map.mp ha) fun x hx zo2=>?_
 obtain rfl:=zo2
 refine x1_2 (List.mem_map.mp hb) fun y hy zo2=>?_
 obtain rfl:=zo2
 unfold dRow
 rw [shp]
 exact jr2 (by rw [hn x hx,hn y hy])
theorem qx1 (l:List (List Int)):(dd l).length <= l.length:=by
 induction l with
 | nil=>exact Nat.le_refl _
 | cons x l ih =>
  rw [dd]
  split
  ·exact Nat.le_succ_of_le ih
  ·rw [List.length_cons,List.length_cons]; lia
theorem ko4 {p1 p2 pos1:Pos} (hh:X.A.handled = none) (hu:X.A.units + 64 < cLine) (hm:X.mg "sorted" = none) (hm2:X.mg "set" = none) (he:PE X e (tD X.K C G0 Γ E f κ)) (hg:Gl X "sorted":=by rfl) (hg2:Gl X "set":=by rfl)
  (h1:starEach [Expr.Call (.Name "set" p2) [e] [] pos1] X.env = [(false,eval (.Call (.Name "set" p2) [e] [] pos1) X.env)]:=by rfl) (h2:starEach [e] X.env = [(false,eval e X.env)]:=by rfl) :
  PE X (.Call (.Name "sorted" p1) [.Call (.Name "set" p2) [e] [] pos1] [] pos) (tD X.K C G0 Γ E (dUn jf9 f) .new):=by
 have P1:PE X (.Call (.Name "set" p2) [e] [] pos1) (tCB (qh0 X C) (ky0 (tD X.K C G0 Γ E f κ) tNil)):=ji1 (ks3 hh hu) hg2 hm2 vb1 (jf3 he jl8 h2) (by decide) (by decide) h2
 have P2:PE X (.Call (.Name "sorted" p1) [.Call (.Name "set" p2) [e] [] pos1] [] pos) (tCB (kr6 X C) (ky0 (tCB (qh0 X C) (ky0 (tD X.K C G0 Γ E f κ) tNil)) tNil)):=z9 (kb4 hh hu) hg hm jm3 (jf3 P1 jl8 h1) (by decide) (by decide) h1
 refine P2.imp fun σ H Q zz1=>zz1.elim fun A zz2=>zz2.elim fun st zz3=>zz3.elim fun r q=>⟨A,st,r,?_⟩
 unfold dUn R.bind at q
 cases hf:f st with
 | bad=>rw [hf] at q; exact q
 | ex c p=>rw [hf] at q; exact q
 | ok d =>
  rw [hf] at q
  dsimp only at q
  intro v H1 e1 w1
  show qh0 X C [v] H1 (fun x H2=>kr6 X C [x] H2 Q)
  cases hg:jf9 d with
  | bad=>rw [hg] at q; exact q.elim
  | ex c p=>unfold jf9 at hg; split at hg <;> (try split at hg) <;> (try split at hg) <;> cases hg
  | ok d' =>
   rw [hg] at q
   unfold jf9 at hg
   split at hg
   ·rename_i es
    split at hg
    ·rename_i nss hr
     split at hg
     ·rename_i hc
      cases hg
      simp only [Bool.and_eq_true,decide_eq_true_eq] at hc
      have he:=km6 hr
      have hrow:=kf8 hc.1
      refine ⟨v,nss,rfl,by rw [<- he]; exact w1.rep,hc.2,fun p zs hp hmem nod mm=>?_⟩
      have pz:(zs.map (·.1)).Perm (dd nss):=(List.perm_ext_iff_of_nodup nod (jp2 nss)).mpr fun ns=>by rw [mm ns,jw0]
      have hl:zs.length <= 50:=by
       have h1:=pz.length_eq
       rw [List.length_map] at h1
       have:=qx1 nss
       lia
      have hR:Rows (zs.map (·.1)):=by
       obtain ⟨n,hn⟩:=hrow
       exact ⟨n,fun ns h=>hn ns ((mm ns).mp h)⟩
      have e2:Same H1 (upd H1 p (.ext (SObj X.prog X.w p zs))):=Y5 hp
      refine ⟨p,zs,rfl,Q7,fun z hz=>Same.tup e2 (hmem z hz),hl,hR,fun p' ws es' hp' pe' rw'=>?_⟩
      have e13:=e1.trans e2
      refine q _ _ (e13.trans (Y5 hp')) (.lst r e13 hp' ?_)
      have hs:jc4 (es'.map dRow) = jc4 ((dd nss).map dRow):=kf4 (qc0 (by obtain ⟨n,hn⟩:=hrow; exact ⟨n,fun ns h=>hn ns (jw0.mp h)⟩)) ((pe'.trans pz).map _)
      have rw2:Reps X.K C (upd H1 p (.ext (SObj X.prog X.w p zs))) (jc4 ((dd nss).map dRow)) ws:=by rw [<- hs]; exact rw'
      exact rw2.part (.nw e13) _ (jc6 fun d hd=>jf1 (ks4 _) ((W0 _).mem_iff.mp hd))
     ·cases hg
    ·cases hg
   ·cases hg
noncomputable def dSet (i:Nat) (fi f:DF):DS:=fun st=>match f st with
 | .ok d=>match st[i]? with
  | some (some (.lst ds))=>match fi st with
   | .ok (.int k)=>match ixN ds.length k with
    | some j=>.nx (st.set i (some (.lst (ds.set j d))))
    | none=>.bad
   | .ok _=>.bad
   | .ex c p=>.ex c p st
   | .bad=>.bad
  | _=>.bad
 | .ex c p=>.ex c p st
 | .bad=>.bad
theorem Reps.set {K:PySem.W.Frag} {H:Hp} {d:D} {v:V} (w:Rep K C H d v):∀ {ds:List D} {xs:List V} (j:Nat),Reps K C H ds xs -> Reps K C H (ds.set j d) (xs.set j v)
 | [],_,j,q=>by rw [Reps] at q; subst q; simp [Reps]
 | d' :: ds,_,0,q=>by
  rw [Reps] at q
  refine x2_3 q fun v' r zo2 h1 h2=>?_
  clear q
  obtain rfl:=zo2
  exact .cons w h2
 | d' :: ds,_,j + 1,q=>by
  rw [Reps] at q
  refine x2_3 q fun v' r zo2 h1 h2=>?_
  clear q
  obtain rfl:=zo2
  exact .cons h1 (Reps.set w j h2)
theorem qx8 {i:Nat} {n:Bool} {x:Str} {p1 p2:Pos} {ix:Expr} {fi:DF} (hx:PE X (.Name x p1) (tVar i)) (hi:PE X ix (tD X.K C G0 Γ E fi κ')) (he:PE X e (tD X.K C G0 Γ E f κ)) (na:ky1 Γ = true) (hk:Γ[i]? = some (.own n):=by rfl) (hl:κ.le (inK n) = true:=by rfl)
  (ha:∀ v,assign (.Subscript (.Name x p1) ix p2) X.env v = (do
   let ov <- holding [v] (eval (.Name x p1) X.env)
   let iv <- holding [v,ov] (eval ix X.env)
   standAt p2
   holding [v,ov,iv] (setItem ov iv v)
   release [v,ov,iv] []):=by intro _; rfl)
  (hs:swapsWithSole [Expr.Subscript (.Name x p1) ix p2] e pos.line X.env = pure false:=by rfl) (hw:swappedStores [Expr.Subscript (.Name x p1) ix p2] e X.env = pure none:=by rfl)
  (h1:(assignEach [Expr.Subscript (.Name x p1) ix p2] X.env).map (·.2) = [assign (.Subscript (.Name x p1) ix p2) X.env]:=by rfl) :
  PS X (.Assign [.Subscript (.Name x p1) ix p2] e pos) (tDS X.K C G0 Γ E κr (dSet i fi f)):=(qj2 he (qy7 hx hi qg4 ha) hs hw h1).imp fun D σ H zz=>by
 refine x2_2 zz fun A st r q=>?_
 clear zz
 refine ⟨A,st,r,?_⟩
 unfold dSet at q
 cases hf:f st with
 | bad=>rw [hf] at q; exact q
 | ex c p=>rw [hf] at q; exact fun H' e'=>q σ H' A (r.mono e') (q0 e')
 | ok d =>
  rw [hf] at q
  dsimp only at q
  cases hst:st[i]? with
  | none=>rw [hst] at q; exact q.elim
  | some o =>
   cases o with
   | none=>rw [hst] at q; exact q.elim
   | some d0 =>
    cases d0 with
    | lst ds =>
     rw [hst] at q
     dsimp only at q
     intro v H1 e1 w1
     refine x2_5 (r.owned hk hst) fun p xs h1 h2 h3 h4 h5=>?_
     refine ⟨_,h1,A,st,r.mono e1,?_⟩
     cases hi:fi st with
     | bad=>rw [hi] at q; exact q
     | ex c p=>rw [hi] at q; exact fun H' e'=>q σ H' A (r.mono (e1.trans e')) (q0 (e1.trans e'))
     | ok di =>
      rw [hi] at q
      cases di with
      | int k =>
       dsimp only at q
       intro vi H2 e2 w2
       have e12:=e1.trans e2
       have r':=r.mono e12
       have q5:Reps X.K C (eh n G0 A H2) ds xs:=h5.same (by
        unfold eh; cases n
        ·exact q0 e12
        ·exact J1 (q0 e12)) _
       cases hj:ixN ds.length k with
       | none=>rw [hj] at q; exact q.elim
       | some j =>
        rw [hj] at q
        refine ⟨p,xs,k,j,rfl,by have:=w2.rep; rw [Rep] at this; exact this,e12 _ _ h4,by rw [h5.len]; exact hj,?_⟩
        obtain ⟨r2,e3⟩:=r'.mut na hk hst h1 h2 h3 ⟨ds,rfl⟩ (Reps.set ((w1.later e2).inK r e12 hl) j q5)
        exact q _ _ A r2 ((q0 e12).trans e3)
      | _=>exact q.elim
    | _=>rw [hst] at q; exact q.elim
noncomputable def dPar (i j:Nat) (fs:DA):DS:=fun st=>match fs st with | .ok [a,b]=>.nx ((st.set i (some a)).set j (some b)) | .ok _=>.bad | .ex c p=>.ex c p st | .bad=>.bad
theorem qk0 {i j:Nat} {x y:Str} {k k':SK} {px py pt:Pos} {kt k2 pt2} (hc:X.calm = true) (hN:X.N.Nodup) (ha:PA X [a,b] (tDA X.K C G0 Γ E fs .new)) (hij:i ≠ j) (hk:Γ[i]? = some k:=by rfl) (hk':Γ[j]? = some k':=by rfl)
  (hl:k.takes .old = true:=by rfl) (hl':k'.takes .old = true:=by rfl) (hi:X.N[i]? = some x:=by rfl) (hj:X.N[j]? = some y:=by rfl) (hx:X.env.scope.names.lookup x = some .local:=by rfl) (hy:X.env.scope.names.lookup y = some .local:=by rfl)
  (hw:swappedStores [.Tuple [.Name x px,.Name y py] kt pt] (.Tuple [a,b] k2 pt2) X.env = pure (some [x,y]):=by rfl)
  (hs:swapsWithSole [.Tuple [.Name x px,.Name y py] kt pt] (.Tuple [a,b] k2 pt2) pos.line X.env = pure false:=by rfl) :
  PS X (.Assign [.Tuple [.Name x px,.Name y py] kt pt] (.Tuple [a,b] k2 pt2) pos) (tDS X.K C G0 Γ E κr (dPar i j fs)):=(qu6 hc hN hi hj hij hx hy ha hw hs).imp fun D σ H zz=>by
 refine x2_2 zz fun A st r q=>?_
 clear zz
 refine ⟨A,st,r,?_⟩
 unfold dPar at q
 cases hf:fs st with
 | bad=>rw [hf] at q; exact q
 | ex c p=>rw [hf] at q; exact fun H' e'=>q σ H' A (r.mono e') (q0 e')
 | ok ds =>
  rw [hf] at q
  match ds,q with
  | [a,b],q =>
   intro vs H1 e1 w
   rw [Reps] at w
   obtain ⟨v,r1,rfl,wa,w⟩:=w
   obtain ⟨v',rfl,wb⟩:=jk7 w
   refine ⟨v,v',rfl,?_⟩
   have wa':Rep X.K C (er H1 A) a v:=wa.same (r.new_er e1) _
   have wb':Rep X.K C (er H1 A) b v':=wb.same (r.new_er e1) _
   refine x1_3 ((r.mono e1).set (.refl _) hk hl (κ:=.old) wa') fun A1 s1 ee1 _=>?_
   refine x1_3 (s1.set (.refl _) hk' hl' (κ:=.old) (wb'.same ee1 _)) fun A2 s2 ee2 _=>?_
   exact q _ _ A2 s2 (((q0 e1).trans ee1).trans ee2)
  | [],q=>exact q.elim
  | [_],q=>exact q.elim
  | _ :: _ :: _ :: _,q=>exact q.elim
noncomputable def ke3 (bind:DB) (f:DF):DS:=fun st=>match f st with | .ok d=>(match bind d st with | some st'=>.nx st' | none=>.bad) | .ex c p=>.ex c p st | .bad=>.bad
theorem ky3 {tg:Expr} {g:TG} {bind:DB} (he:PE X e (tD X.K C G0 Γ E f κ)) (l:κ.le .old = true) (hg:PG X tg g) (hB:jt8 X.K C G0 Γ g bind) (hs:swapsWithSole [tg] e pos.line X.env = pure false:=by rfl) (hw:swappedStores [tg] e X.env = pure none:=by rfl)
  (h1:(assignEach [tg] X.env).map (·.2) = [assign tg X.env]:=by rfl):PS X (.Assign [tg] e pos) (tDS X.K C G0 Γ E κr (ke3 bind f)):=(qj2 he hg hs hw h1).imp fun D σ H zz=>by
 refine x2_2 zz fun A st r q=>?_
 clear zz
 refine ⟨A,st,r,?_⟩
 unfold ke3 at q
 cases hf:f st with
 | bad=>rw [hf] at q; exact q
 | ex c p=>rw [hf] at q; exact fun H' e'=>q σ H' A (r.mono e') (q0 e')
 | ok d =>
  rw [hf] at q
  dsimp only at q
  intro v H1 e1 w
  cases hb:bind d st with
  | none=>rw [hb] at q; exact q.elim
  | some st' =>
   rw [hb] at q
   exact hB σ H1 A st st' d v _ (r.mono e1) (w.le r e1 (κ':=.old) l) hb fun σ' A' r' e' _=>q σ' H1 A' r' ((q0 e1).trans e')
noncomputable def PStr (X:Cx) (P:L2.St -> Prop) (n:Nat) (e:Expr):Prop:=∀ (pins:List (Addr × Obj)) (s:Shared) (σ:L2.St) (H:Hp) (Q:Value -> Shared -> Prop) (Ex:Value -> Shared -> Prop),L2.Inv X pins σ H s -> P σ -> (∀ x t s',L2.Inv X pins σ H s' -> x.length <= n -> Q (.str x t) s') -> wpAny (model X.prog X.w) X.A (eval e X.env) Q Ex s
theorem Z5 {P:L2.St -> Prop} {x:Str} {j} {n:Nat} (h:x.length <= n:=by decide):PStr X P n (.Constant (.str x) j pos):=fun pins s σ H Q Ex I p q=>Calls.Constant_str (q _ _ _ (I.tok _) h)
theorem jp3 {P:L2.St -> Prop} {x:Str} {i:Int} {t:Tok} {n:Nat} {p:Pos} (hm:X.mg x = some (.int i t)) (hs:i.natAbs.log2 < 1920) (hl:(toString i:Str).length <= n) (hg:Gl X x:=by rfl) (hd:(x == ("__debug__" : Str)) = false:=by decide):PStr X P n (.FormattedValue (.Name x p) (-1) none pos):=fun pins s σ H Q Ex I pp q =>
 FormattedValue_plain (js3 I hg hm (formatField_int_small hs (q _ _ _ (I.tok _) hl)) hd)
end
end Dm
end T_De8
section T_Tr
namespace Dm
open PySem PySem.Spec PyProof.Rows L2 PySem.W
noncomputable def PS0 (X:Cx) (st:Stmt) (t:TS):Prop:=∀ (s:Shared) (σ:L2.St) (H:Hp) (D:Ends),L2.Inv X [] σ H s -> t D σ H -> wpAny (model X.prog X.w) X.A (exec st X.env) (SP X [] D) X.xe s
noncomputable def PSs0 (X:Cx) (st:List Stmt) (t:TS):Prop:=∀ (s:Shared) (σ:L2.St) (H:Hp) (D:Ends),L2.Inv X [] σ H s -> t D σ H -> wpAny (model X.prog X.w) X.A (execs st X.env) (SP X [] D) X.xe s
theorem _root_.L2.PS.zero {X:Cx} {st:Stmt} {t:TS} (h:PS X st t):PS0 X st t:=fun s σ H D I q=>h [] s σ H D I q
theorem _root_.L2.PSs.zero {X:Cx} {st:List Stmt} {t:TS} (h:PSs X st t):PSs0 X st t:=fun s σ H D I q=>h [] s σ H D I q
section
variable {X:Cx} {e:Value} {pins:List (Addr × Obj)} {σ:L2.St} {H:Hp} {s:Shared}
theorem gone {h':Heap} {m:Str -> Option Value} {t:Nat} (I:L2.Inv X [] σ H s) (hn:h'.Ns X.env.locals m) (hs:Heap.SameBut X.env.locals s.heap h'):L2.Inv X [] (List.replicate X.N.length none) H { s with heap:=h',toks:=t }:=by
 have cne:=I.cne
 have nl:∀ b o,H b = some o -> b ≠ X.env.locals:=fun b o e z=>by subst z; rw [I.free] at e; cases e
 refine ⟨I.ok,I.os,I.bare,⟨fun b o e n hb hx=>?_,fun b o e n hb hx=>?_,I.base.free,fun b o e hx=>?_,I.base.tups,I.base.frzs,I.base.tbls⟩,⟨m,hn,fun i x v e1 e2 e3=>?_⟩,fun y c e=>?_,I.free,I.freeC,fun p hp=>?_,fun b u e=>?_,by simp⟩
 ·exact (hs.2 b (Nat.ne_of_lt (Nat.lt_of_lt_of_le (Heap.lt_size e) I.ok.above))).trans (I.base.keep b o e n hb hx)
 ·obtain ⟨sl,e1⟩:=I.base.slot b o e n hb hx
  exact ⟨sl,(hs.2 b (Nat.ne_of_lt (Nat.lt_of_lt_of_le (Heap.lt_size e) I.ok.above))).trans e1⟩
 ·obtain ⟨o',e1⟩:=I.base.there b o e hx
  exact ⟨o',(hs.2 b (Nat.ne_of_lt (Nat.lt_of_lt_of_le (Heap.lt_size e) I.ok.above))).trans e1⟩
 ·rw [List.getElem?_replicate] at e2
  split at e2 <;> cases e2
 ·obtain ⟨w',z⟩:=I.cell y c e
  exact ⟨w',z.sameBut hs (cne y c e)⟩
 ·refine x0_5 (I.pin p hp) fun e n ne nf d=>?_
  exact ⟨(hs.2 p.1 ne).trans e,n,ne,nf,d⟩
 ·refine (I.hok b u e).stay (fun c v hc q=>(hs.2 c ?_).trans q) (fun _ q=>q) fun _ _ q=>q
  rcases hc with rfl | hc
  ·exact nl _ _ e
  ·exact nl _ _ hc
end
noncomputable def xTag (c:Addr):Nat:=c + 2
section
variable {X:Cx} {C:Cfg} {G0:Hp} {Γ:List SK} {E E0:L2.St -> XK} {κr:Bool} {F G:DS} {pos np hpos:Pos}
end
end Dm
end T_Tr
section T_Lc
namespace Dm
open PySem PySem.Spec PyProof.Rows L2
noncomputable abbrev cCx (X:Cx) (scope:Scope) (cl:List (Str × Addr)) (N':List Str) (fp:List Addr) (s:Shared) (H:Hp) (L:Addr):Cx :=
 { X with N:=N',s₀:=s,H₀:=H,env:=compEnvC scope cl L X.env,outer:=X.stack,ex:=fp,fn:=fun _=>false,pn:=[],xe:=fun _ _=>False }
noncomputable def Cap (X:Cx) (scope:Scope) (cl:List (Str × Addr)):List (Nat × Str) -> Prop
 | []=>True
 | (i,x) :: r=>(X.N[i]? = some x /\ X.env.kindOf x = some .cell /\ cl.lookup x = X.env.cells.lookup x /\ (relabel scope X.env).names.lookup x = some .cell) /\ Cap X scope cl r
theorem Cap.get {X:Cx} {scope:Scope} {cl:List (Str × Addr)}:∀ {l:List (Nat × Str)} {p:Nat × Str},Cap X scope cl l -> p ∈ l -> X.N[p.1]? = some p.2 /\ X.env.kindOf p.2 = some .cell /\ cl.lookup p.2 = X.env.cells.lookup p.2 /\ (relabel scope X.env).names.lookup p.2 = some .cell
 | _ :: _,_,h,.head _=>h.1
 | _ :: _,_,h,.tail _ m=>h.2.get m
section
variable {X:Cx} {pins:List (Addr × Obj)} {σ:L2.St} {H:Hp} {s:Shared} {scope:Scope} {cl:List (Str × Addr)} {N':List Str} {fp:List Addr} {L:Addr}
theorem qx9 (I:L2.Inv X pins σ H s) (hk:scope.kind = .function) (hL:s.heap.objs.size <= L) (hcl:∀ x c,cl.lookup x = some c -> X.env.cells.lookup x = some c) (hhas:∀ x,((relabel scope X.env).names.lookup x = some .cell \/ (relabel scope X.env).names.lookup x = some .free) -> ∃ c,cl.lookup x = some c)
  (hf:∀ b ∈ fp,FpOk X pins H b) (hfs:∀ b ∈ fp,b < s.heap.objs.size):(cCx X scope cl N' fp s H L).Ok where
 mod:=I.ok.mod
 kind:=hk
 glob:=I.ok.glob
 blt:=I.ok.blt
 above:=hL
 inj:=fun x y c h1 h2=>I.ok.inj x y c (hcl _ _ h1) (hcl _ _ h2)
 has:=hhas
 cab:=fun x c z=>(nomatch z)
 hd:=I.ok.hd
 frames:=I.ok.frames
 stk:=.inl rfl
 exf:=fun b hb=>⟨Nat.ne_of_lt (Nat.lt_of_lt_of_le (hfs b hb) hL),fun x c h=>(hf b hb).2.2.2.2.1 x c (hcl _ _ h)⟩
 bs:=I.bs
 bsz:=Nat.le_trans I.ok.bsz I.sz
 noex:=fun b o e hb=>by
  rcases (hf b hb).2.2.2.1 with z | z
  ·exact I.ok.noex b o e z
  ·exact absurd (Nat.lt_of_lt_of_le (Heap.lt_size e) (Nat.le_trans I.ok.bsz z)) (Nat.lt_irrefl _)
 exfs:=fun b hb z=>by
  rcases List.mem_cons.mp (I.stkSub b z) with e | e
  ·exact (hf b hb).2.1 e
  ·exact (hf b hb).2.2.1 e
 funs:=I.stack
 frf:=I.stkFree
noncomputable def inσ {α:Type} (k:Nat) (fr:List Nat) (σ:List (Option α)):List (Option α):=List.replicate k none ++ fr.map fun i=>(σ[i]?).join
theorem kx5 {α:Type} {k:Nat} {fr:List Nat} {σ:List (Option α)} {j:Nat} {v:α} (h:(inσ k fr σ)[j]? = some (some v)):∃ i,k <= j /\ fr[j - k]? = some i /\ σ[i]? = some (some v):=by
 unfold inσ at h
 by_cases hj:j < k
 ·rw [List.getElem?_append_left (by simpa using hj),List.getElem?_replicate,if_pos hj] at h; cases h
 ·rw [List.getElem?_append_right (by simpa using Nat.le_of_not_lt hj),List.length_replicate,List.getElem?_map] at h
  cases hi:fr[j - k]? with
  | none=>rw [hi] at h; cases h
  | some i =>
   rw [hi] at h
   have h':(σ[i]?).join = some v:=Option.some.inj h
   refine ⟨i,Nat.le_of_not_lt hj,rfl,?_⟩
   cases hs:σ[i]? with
   | none=>rw [hs] at h'; cases h'
   | some o=>rw [hs] at h'; rw [show o = some v from h']
theorem qn3 {α:Type} {k:Nat} {fr:List Nat} {σ:List (Option α)} {j i:Nat} {v:α} (hj:k <= j) (hi:fr[j - k]? = some i) (h:σ[i]? = some (some v)):(inσ k fr σ)[j]? = some (some v):=by
 unfold inσ
 rw [List.getElem?_append_right (by simpa using hj),List.length_replicate,List.getElem?_map,hi]
 show some ((σ[i]?).join) = _
 rw [h]; rfl
theorem qo2 {s1:Shared} {H1:Hp} {tgs:List Str} {caps:List (Nat × Str)} {m:Str -> Option Value} (I:L2.Inv X pins σ H s) (ok:(cCx X scope cl (tgs ++ caps.map (·.2)) fp s H L).Ok) (hcap:Cap X scope cl caps) (hcl:∀ x c,cl.lookup x = some c -> X.env.cells.lookup x = some c)
  (ho:s1.os = s.os) (hb:AllBare s1.gens) (un:Un (frs X.stack) fp H H1 s.heap s1.heap) (kc:∀ b o,s.heap.get? b = some o -> s1.heap.get? b = some o) (hn:s1.heap.Ns L m) (hL:H1 L = none) (hfree:∀ x c,cl.lookup x = some c -> H1 c = none) (hok:HOk X.prog X.w H1 s1.heap) :
  L2.Inv (cCx X scope cl (tgs ++ caps.map (·.2)) fp s H L) [] (inσ tgs.length (caps.map (·.1)) σ) H1 s1:=by
 refine ⟨ok,ho,hb,un,⟨m,hn,fun j x v h1 h2 h3=>?_⟩,fun x c h=>?_,hL,hfree,fun p hp=>(by cases hp),hok,(by unfold inσ; simp)⟩
 ·refine x1_3 (kx5 h2) fun i hj hi hs=>?_
  rw [List.getElem?_append_right hj,List.getElem?_map] at h1
  rw [List.getElem?_map] at hi
  cases hc:caps[j - tgs.length]? with
  | none=>rw [hc] at h1; cases h1
  | some p =>
   rw [hc] at h1 hi
   cases h1; cases hi
   refine x0_4 (hcap.get (List.mem_of_getElem? hc)) fun c1 c2 c3 c4=>?_
   refine x1_2 I.loc fun m0 hn0 hl0=>?_
   refine x1_2 (hl0 p.1 p.2 v c1 hs (.inr (.inl c2))) fun u ru lk=>?_
   refine ⟨u,ru,.inr ⟨.inl c4,?_⟩⟩
   rcases lk with ⟨z,_⟩ | ⟨_,c,e1,e2⟩
   ·rw [c2] at z; cases z
   ·refine x1_2 e2 fun o e3 e4=>?_
    clear e2
    exact ⟨c,c3.trans e1,o,kc _ _ e3,e4⟩
 ·obtain ⟨v,q⟩:=I.cell x c (hcl _ _ h)
  refine x1_2 q fun o e3 e4=>?_
  clear q
  exact ⟨v,o,kc _ _ e3,e4⟩
end
end Dm
end T_Lc
section T_Lc2
namespace Dm
open PySem PySem.Spec PyProof.Rows L2
noncomputable abbrev Eno:L2.St -> XK:=fun _ _ _ _=>False
theorem jy4 {X:Cx} {e:Value} {s:Shared} (h:Fly X Eno e s):False:=by
 refine x5_4 h fun _ _ _ _ _ _ _ q _=>?_
 clear h
 exact q
noncomputable def jc0 (bind:DB) (test elt:DF):List D -> DSt -> R (List D)
 | [],_=>.ok []
 | d :: ds,st=>match bind d st with
  | none=>.bad
  | some st1=>match test st1 with
   | .ok (.bl true)=>(match elt st1 with
    | .ok e=>(match jc0 bind test elt ds st1 with | .ok r=>.ok (e :: r) | _=>.bad)
    | _=>.bad)
   | .ok (.bl false)=>jc0 bind test elt ds st1
   | _=>.bad
noncomputable def kl1 (Γ:List SK):Prop:=∀ (i:Nat) (k:SK),Γ[i]? = some k -> k = SK.par
section
variable {K:PySem.W.Frag} {C:Cfg} {G0:Hp} {Γ:List SK} {σ:L2.St} {H H':Hp} {A B:List Addr} {st:DSt}
theorem ks1 {A B:List Addr} (h:∀ a ∈ B,a ∈ A):Same (er H A) (er H B):=fun b o e=>by
 by_cases ha:b ∈ A
 ·rw [jb8 ha] at e; cases e
 ·rw [w8 ha] at e
  rw [w8 fun z=>ha (h b z)]; exact e
theorem RS.fewer (r:RS K C G0 Γ σ H A st) (hΓ:kl1 Γ) (sub:∀ a ∈ B,a ∈ A):RS K C G0 Γ σ H B st where
 base:=r.base.trans (ks1 sub)
 lists:=fun a m=>r.lists a (sub a m)
 len:=r.len
 slot:=fun i d h=>by
  refine x2_3 (r.slot i d h) fun k v h1 h2 h3=>?_
  obtain rfl:=hΓ i k h1
  exact ⟨.par,v,h1,h2,Rep.same (ks1 sub) _ h3⟩
 apart:=fun i j n m p ds es hij g1=>by have:=hΓ i _ g1; cases this
theorem RS.accUpd (r:RS K C G0 Γ σ H A st) (hΓ:kl1 Γ) {a:Addr} {ys:List V} (ha:a ∈ A):RS K C G0 Γ σ (upd H a (.lst ys)) A st:=by
 have ee:er (upd H a (.lst ys)) A = er H A:=by
  funext b
  by_cases mb:b ∈ A
  ·rw [jb8 mb,jb8 mb]
  ·rw [w8 mb,w8 mb,y3 (fun z:b = a=>mb (by rw [z]; exact ha))]
 refine ⟨by rw [ee]; exact r.base,fun b m=>?_,r.len,fun i d h=>?_,fun i j n m p ds es hij g1=>by have:=hΓ i _ g1; cases this⟩
 ·by_cases hb:b = a
  ·subst hb; exact ⟨ys,Q7⟩
  ·rw [y3 hb]; exact r.lists b m
 ·refine x2_3 (r.slot i d h) fun k v h1 h2 h3=>?_
  obtain rfl:=hΓ i k h1
  exact ⟨.par,v,h1,h2,by show Rep K C (er _ A) d v; rw [ee]; exact h3⟩
end
noncomputable def part (n:Bool) (H2:Hp) (acc:Addr) (B:List Addr) (H:Hp):Hp:=if n = true then nw H2 (er H [acc]) else er H (acc :: B)
theorem kd3 {n:Bool} {H2 H H':Hp} {acc:Addr} {B:List Addr} (e:Same H H'):Same (part n H2 acc B H) (part n H2 acc B H'):=by
 unfold part; cases n
 ·exact q0 e
 ·exact J1 (q0 e)
theorem qd8 {n:Bool} {H2 H:Hp} {acc:Addr} {B:List Addr} {o:HO}:part n H2 acc B (upd H acc o) = part n H2 acc B H:=by
 have e:∀ A:List Addr,acc ∈ A -> er (upd H acc o) A = er H A:=fun A m=>by
  funext b
  by_cases mb:b ∈ A
  ·rw [jb8 mb,jb8 mb]
  ·rw [w8 mb,w8 mb,y3 (fun z:b = acc=>mb (by rw [z]; exact m))]
 unfold part
 rw [e [acc] (.head _),e (acc :: B) (.head _)]
theorem jh1 {X:Cx} {ft:DF} {C:Cfg} {G0:Hp} {Γ:List SK} {E:L2.St -> XK}:∀ (pins:List (Addr × Obj)) (s:Shared) (σ:L2.St) (H:Hp) (Q:Bool -> Hp -> Prop),L2.Inv X pins σ H s -> tDT X.K C G0 Γ E (dC (.bl true)) σ H Q ->
  wpAny (model X.prog X.w) X.A (forIn ([]:List Expr) true fun c r=>if r = true then do let ok <- isTrue c X.env (eval c X.env); pure (ForInStep.yield ok) else pure (ForInStep.yield r)) (TP X pins σ Q) X.xe s:=fun pins s σ H Q I zz1=>zz1.elim fun A zz2=>zz2.elim fun st zz3=>zz3.elim fun r q=>wpAny_tests_nil ⟨H,I,q H (.refl _)⟩
theorem jk9 {X:Cx} {c:Expr} {ft:DF} {C:Cfg} {G0:Hp} {Γ:List SK} {E:L2.St -> XK} (h:PT X c (tDT X.K C G0 Γ E ft)):∀ (pins:List (Addr × Obj)) (s:Shared) (σ:L2.St) (H:Hp) (Q:Bool -> Hp -> Prop),L2.Inv X pins σ H s -> tDT X.K C G0 Γ E ft σ H Q ->
  wpAny (model X.prog X.w) X.A (forIn [c] true fun c r=>if r = true then do let ok <- isTrue c X.env (eval c X.env); pure (ForInStep.yield ok) else pure (ForInStep.yield r)) (TP X pins σ Q) X.xe s:=fun pins s σ H Q I q=>wpAny_tests_one (h pins s σ H Q I q)
section
variable {X:Cx} {C:Cfg} {G0:Hp} {Γ:List SK} {tg iter elt:Expr} {ifs:List Expr} {scope:Scope} {pos:Pos} {fp:List Addr} {it acc:Addr} {tn:Nat -> Heap -> Prop} {J:It} {g:TG} {bind:DB} {ft fe:DF} {κe:Kd} {n:Bool} {H2:Hp} {B:List Addr} {ds total:List D} {R:Result -> Shared -> Prop}
noncomputable def kb9 (X:Cx) (C:Cfg) (G0:Hp) (Γ:List SK) (acc:Addr) (bind:DB) (ft fe:DF) (n:Bool) (H2:Hp) (B:List Addr) (ds total:List D) (i:Nat) (s:Shared) (σ:L2.St) (H:Hp):Prop :=
 ∃ st ys es,L2.Inv X [] σ H s /\ H acc = some (.lst ys) /\ RS X.K C G0 Γ σ H (acc :: B) st /\ Same H2 (er H [acc]) /\ Reps X.K C (part n H2 acc B H) es ys /\ es.length <= i /\
  ∃ rest,jc0 bind ft fe (ds.drop i) st = .ok rest /\ es ++ rest = total
theorem ky2 (T:Turn X.prog X.w X.K tg J fp it tn) (hcalm:X.calm = true) (hfp:∀ b ∈ fp,b ∈ X.ex /\ b ≠ X.env.locals /\ b ∉ X.fs /\ (∀ x c,X.env.cells.lookup x = some c -> c ≠ b)) (hpn:X.pn = []) (hΓ:kl1 Γ) (hJ:ItOk X.K C B H2 J ds) (hB:jt8 X.K C G0 Γ g bind) (hG:PG (X.wish (Fly X Eno)) tg g)
  (hT:∀ (pins:List (Addr × Obj)) (s:Shared) (σ:L2.St) (H:Hp) (Q:Bool -> Hp -> Prop),L2.Inv (X.wish (Fly X Eno)) pins σ H s -> tDT X.K C G0 Γ Eno ft σ H Q ->
   wpAny (model X.prog X.w) X.A (forIn ifs true fun c r=>if r = true then do let ok <- isTrue c X.env (eval c X.env); pure (ForInStep.yield ok) else pure (ForInStep.yield r)) (TP (X.wish (Fly X Eno)) pins σ Q) (Fly X Eno) s)
  (hE:PE (X.wish (Fly X Eno)) elt (tD X.K C G0 Γ Eno fe κe)) (hn:n = true -> κe = .new) (hn':n = false -> κe.le .old = true) (hacc:H2 acc = none) (few:ds.length <= 1000)
  (fin:∀ s σ H,kb9 X C G0 Γ acc bind ft fe n H2 B ds total ds.length s σ H -> R (.ok .next) s) :
  ∀ s σ H,kb9 X C G0 Γ acc bind ft fe n H2 B ds total 0 s σ H -> tn 0 s.heap -> (∀ b ∈ fp,H b = none) -> codeAny (model X.prog X.w) X.A (.compLoop (.ListComp elt [⟨tg,iter,ifs,0⟩] scope pos) 0 (.ref it) (.ref acc) X.env) R s:=fun s0 σ0 H0 h0 t0 f0=>by
 refine codeAny_loop rfl (fun m s=>∃ i σ H,m = ds.length - i /\ i <= ds.length /\ kb9 X C G0 Γ acc bind ft fe n H2 B ds total i s σ H /\ tn i s.heap /\ ∀ b ∈ fp,H b = none) (fun m s zz4=>?_) ds.length ⟨0,σ0,H0,rfl,Nat.zero_le _,h0,t0,f0⟩
 refine x3_5 zz4 fun i σ H hm hi iv htn hfn=>?_
 clear zz4
 subst hm
 show wpAny _ X.A ((compTurn (.ListComp elt [⟨tg,iter,ifs,0⟩] scope pos) 0 (.ref it) (.ref acc) X.env).onRaise (fun x=>do noteFrame x X.env; theTreesLotGoes x)) _ _ s
 refine wpAny_noted ?_
 rw [compTurn_list]
 obtain ⟨st,ys,es,I,hH,r,e2,rp,hl,rest,hgo,htot⟩:=id iv
 have fpok:∀ {H':Hp},(∀ b ∈ fp,H' b = none) -> ∀ b ∈ fp,FpOk X [] H' b:=fun hn b hb=>⟨hn b hb,(hfp b hb).2.1,(hfp b hb).2.2.1,.inl (hfp b hb).1,(hfp b hb).2.2.2,fun p hp=>by rw [hpn] at hp; cases hp⟩
 have hJi:=hJ i H (acc :: B) (fun b o e=>by
  by_cases hb:b ∈ B
  ·rw [jb8 hb] at e; cases e
  ·rw [w8 hb] at e
   have z:=e2 b o e
   by_cases ha:b = acc
   ·subst ha; rw [hacc] at e; cases e
   ·rw [w8 (by simpa using ha)] at z
    rw [w8 (by simp [ha,hb])]; exact z) (fun a m=>by obtain ⟨xs,q⟩:=r.lists a m; rw [q]; simp)
 cases hd:ds[i]? with
 | none =>
  have hge:=List.getElem?_eq_none_iff.mp hd
  obtain rfl:i = ds.length:=Nat.le_antisymm hi hge
  refine wpAny_bind (wpAny_standAt (wpAny_bind (wpAny_mono (T.done X rfl rfl rfl hcalm _ [] s σ H _ I (fpok hfn) htn (hJi.2 hd)) (fun rr s1 zz5=>?_) fun _ _ h=>h)))
  obtain ⟨hr,I1⟩:=zz5
  subst hr
  exact wpAny_pure (fin s1 σ H ⟨st,ys,es,I1,hH,r,e2,rp,hl,rest,hgo,htot⟩)
 | some d =>
  have hlt:i < ds.length:=(List.getElem?_eq_some_iff.mp hd).1
  have hdr:ds.drop i = d :: ds.drop (i + 1):=by
   rw [List.drop_eq_getElem_cons hlt]
   congr 1
   exact (List.getElem?_eq_some_iff.mp hd).2
  rw [hdr,jc0] at hgo
  obtain ⟨go,yl⟩:=hJi.1 d hd
  refine wpAny_bind (wpAny_standAt (wpAny_bind (wpAny_mono (T.item X rfl rfl rfl hcalm i [] s σ H _ I (fpok hfn) htn go) (fun rr s1 zz6=>?_) fun _ _ h=>h)))
  refine x1_2 zz6 fun u hr h1=>?_
  clear zz6
  subst hr
  refine wpAny_bind (wpAny_mono h1 (fun _ s3 zz7=>?_) fun _ _ h=>h)
  refine x2_5 zz7 fun x H3 I3 rx hy tn3 fn3=>?_
  clear zz7
  obtain ⟨e3,wx⟩:=yl x H3 hy
  have I3p:=I3.pinned (fpok fn3) (T.obj _ _ tn3)
  cases hb:bind d st with
  | none=>rw [hb] at hgo; cases hgo
  | some st1 =>
   rw [hb] at hgo
   dsimp only at hgo
   have r3:=r.mono e3
   refine wpAny_bind (wpAny_mono (hG _ s3 σ H3 x u (fun σ4 H4=>H4 = H3 /\ ∃ A4,RS X.K C G0 Γ σ4 H3 A4 st1 /\ ∀ a ∈ acc :: B,a ∈ A4) (I3p.wish _) rx (hB σ H3 (acc :: B) st st1 d x _ r3 wx hb fun σ4 A4 r4 _ sb=>⟨rfl,A4,r4,sb⟩)) (fun _ s4 zz8=>?_) fun _ _ h=>(jy4 h).elim)
   obtain ⟨σ4,H4,I4,hH4,A4,r4,sb⟩:=zz8
   subst hH4
   have r4':=r4.fewer hΓ sb
   have hH3:H4 acc = some (.lst ys):=e3 _ _ hH
   have again:∀ {s9:Shared} {σ9:L2.St} {H9:Hp},L2.Inv X ([] ++ ke9 fp s3.heap) σ9 H9 s9 -> kb9 X C G0 Γ acc bind ft fe n H2 B ds total (i + 1) s9 σ9 H9 -> ∃ m,m < ds.length - i /\ ∃ i' σ' H',m = ds.length - i' /\ i' <= ds.length /\ kb9 X C G0 Γ acc bind ft fe n H2 B ds total i' s9 σ' H' /\ tn i' s9.heap /\ ∀ b ∈ fp,H' b = none:=fun {s9 σ9 H9} I9 c9=>by
    refine ⟨ds.length - (i + 1),by lia,i + 1,σ9,H9,rfl,hlt,c9,T.keep _ _ _ tn3 fun b hb o e=>(I9.pin (b,o) (List.mem_append_right _ (List.mem_append_right _ (ji5 hb e)))).1,fun b hb=>?_⟩
    refine x1_2 (T.obj _ _ tn3 b hb) fun o e _=>?_
    exact (I9.pin (b,o) (List.mem_append_right _ (List.mem_append_right _ (ji5 hb e)))).2.1
   have ep:Same H2 (er H4 [acc]):=e2.trans (q0 e3)
   refine wpAny_bind (wpAny_mono (hT _ s4 σ4 H4 (fun b H5=>Same H4 H5 /\ ft st1 = .ok (.bl b)) I4 ⟨acc :: B,st1,r4',?_⟩) (fun ok s5 zz9=>zz9.elim fun H5 zz10=>zz10.elim fun I5 zz11=>zz11.elim fun e5 hok=>?_) fun _ _ h=>(jy4 h).elim)
   ·cases hf:ft st1 with
    | bad=>rw [hf] at hgo; cases hgo
    | ex c p=>rw [hf] at hgo; cases hgo
    | ok t =>
     rw [hf] at hgo
     cases t with
     | bl b=>exact fun H' e'=>⟨e',rfl⟩
     | _=>cases hgo
   ·rw [hok] at hgo
    have ep5:=ep.trans (q0 e5)
    cases ok with
    | false =>
     dsimp only at hgo
     exact wpAny_pure ⟨rfl,again I5.unwish ⟨st1,ys,es,(I5.unwish).pins_of (fun p hp=>by cases hp),e5 _ _ hH3,r4'.mono e5,ep5,rp.same (kd3 (e3.trans e5)) _,by lia,rest,hgo,htot⟩⟩
    | true =>
     dsimp only at hgo
     cases hfe:fe st1 with
     | bad=>rw [hfe] at hgo; cases hgo
     | ex c p=>rw [hfe] at hgo; cases hgo
     | ok de =>
      rw [hfe] at hgo
      dsimp only at hgo
      refine wpAny_bind (wpAny_bind (wpAny_mono (hE _ s5 σ4 H5 (fun v H6=>Same H5 H6 /\ Val X.K C κe G0 (acc :: B) H5 H6 de v) I5 ⟨acc :: B,st1,r4'.mono e5,?_⟩) (fun ue s6 zz12=>zz12.elim fun v zz13=>zz13.elim fun H6 zz14=>zz14.elim fun I6 zz15=>zz15.elim fun rv zz16=>zz16.elim fun e6 wv=>?_) fun _ _ h=>(jy4 h).elim))
      ·rw [hfe]; exact fun v H' e' w=>⟨e',w⟩
      ·have e56:=e5.trans e6
       have hH6:H6 acc = some (.lst ys):=e56 _ _ hH3
       have wp:Rep X.K C (part n H2 acc B H6) de v:=by
        cases n with
        | true =>
         obtain rfl:=hn rfl
         refine wv.1.same (fun b o z=>?_) _
         unfold nw at z
         split at z
         ·rename_i kk
          have hb:b ≠ acc:=fun w=>by subst w; rw [e5 _ _ hH3] at kk; cases kk
          show nw H2 (er H6 [acc]) b = _
          unfold nw
          rw [if_pos (jn4 (ep5.trans (q9 _ _)) kk),w8 (by simpa using hb)]
          exact z
         ·cases z
        | false=>exact Val.le (r4'.mono e5) e6 (κ':=.old) (hn' rfl) wv
       refine wpAny_bind (wpAny_mono (jh6 (X:=X.wish (Fly X Eno)) _ s6 σ4 H6 (.ref acc) [v] (.ref acc) [ue] (fun z H7=>H7 = upd H6 acc (.lst (ys ++ [v]))) I6 rfl (.cons rv .nil) ⟨acc,ys,v,rfl,rfl,hH6,?_,rfl⟩) (fun _ s7 zz17=>zz17.elim fun z zz18=>zz18.elim fun H7 zz19=>zz19.elim fun I7w zz20=>zz20.elim fun _ hH7=>?_) fun _ _ h=>(jy4 h).elim)
       ·rw [rp.len]
        have:1001 <= sizeLine:=by rw [sizeLine_eq]; decide
        lia
       ·subst hH7
        have I7:=I7w.unwish
        refine wpAny_pure (wpAny_pure ⟨rfl,again I7 ?_⟩)
        cases hgr:jc0 bind ft fe (ds.drop (i + 1)) st1 with
        | bad=>rw [hgr] at hgo; cases hgo
        | ex c p=>rw [hgr] at hgo; cases hgo
        | ok rest2 =>
         rw [hgr] at hgo
         cases hgo
         refine ⟨st1,ys ++ [v],es ++ [de],I7.pins_of (fun p hp=>by cases hp),Q7,((r4'.mono e56)).accUpd hΓ (.head _),?_,?_,by simp; lia,rest2,hgr,by simpa using htot⟩
         ·have:er (upd H6 acc (.lst (ys ++ [v]))) [acc] = er H6 [acc]:=by
           funext b
           by_cases mb:b ∈ [acc]
           ·rw [jb8 mb,jb8 mb]
           ·rw [w8 mb,w8 mb,y3 (by simpa using mb)]
          rw [this]
          exact ep.trans (q0 e56)
         ·rw [qd8]
          exact (rp.same (kd3 (e3.trans e56)) _).app (.cons wp .nil)
end
end Dm
end T_Lc2
section T_Lc3
namespace Dm
open PySem PySem.Spec PyProof.Rows L2
noncomputable def zB (z:Bool) (A:List Addr):List Addr:=if z = true then A else []
noncomputable def tDI (K:PySem.W.Frag) (C:Cfg) (G0:Hp) (Γ:List SK) (E:L2.St -> XK) (z:Bool) (gi:DI):TI:=fun σ H Rr=>∃ A st,RS K C G0 Γ σ H A st /\ match gi st with
 | .ok ds=>∀ J H',Same H H' -> ItOk K C (zB z A) H' J ds -> Rr J H'
 | .ex c p=>∀ H',Same H H' -> exP (E σ) c p H'
 | .bad=>False
theorem _root_.L2.PI.imp {X:Cx} {tg e:Expr} {t t':TI} (h:PI X tg e t) (i:∀ σ H Q,t' σ H Q -> t σ H Q):PI X tg e t':=fun pins s σ H Q I q=>h pins s σ H Q I (i σ H Q q)
section
variable {X:Cx} {C:Cfg} {G0:Hp} {Γ:List SK} {E:L2.St -> XK} {tg iter elt a:Expr} {f:DF} {fs:DA} {κ:Kd} {pos:Pos} {z:Bool}
theorem ql0 {A:List Addr}:∀ a ∈ zB z A,a ∈ A:=fun a h=>by unfold zB at h; cases z with | true=>exact h | false=>cases h
theorem jk3 (he:PE X iter (tD X.K C G0 Γ E f κ)) (l:z = true -> κ.le .old = true):PI X tg iter (tDI X.K C G0 Γ E z (iLst f)):=(kz0 he).imp fun σ H Q zz=>by
 refine x2_2 zz fun A st r q=>?_
 clear zz
 refine ⟨A,st,r,?_⟩
 unfold iLst at q
 cases hf:f st with
 | bad=>rw [hf] at q; exact q
 | ex c p=>rw [hf] at q; exact q
 | ok d =>
  rw [hf] at q
  cases d with
  | lst ds =>
   dsimp only at q
   intro v H1 e1 w
   have w':Rep X.K C (er H1 (zB z A)) (.lst ds) v:=by
    unfold zB
    cases z with
    | true=>exact w.le r e1 (κ':=.old) (l rfl)
    | false=>rw [if_neg (by decide),jq8]; exact w.rep
   rw [Rep] at w'
   refine x2_3 w' fun a xs zo2 h2 h3=>?_
   clear w'
   obtain rfl:=zo2
   refine ⟨a,rfl,⟨xs,(q9 _ _).seq h2⟩,q _ _ e1 fun i H3 A3 e3 _=>⟨fun d hd=>?_,fun hd=>?_⟩⟩
   ·refine x1_2 (h3.get' hd) fun v hv rv=>?_
    have s3:SqL X.K H3 a xs:=(e3.trans (q9 _ _)).seq h2
    refine ⟨⟨xs,v,s3,hv⟩,fun x H' zz1=>?_⟩
    obtain ⟨hH,hx⟩:=zz1
    subst hH
    have:=hx xs s3
    rw [hv] at this; cases this
    exact ⟨.refl _,rv.same ((q9 _ _).trans e3) _⟩
   ·exact ⟨xs,(e3.trans (q9 _ _)).seq h2,by rw [h3.len]; exact List.getElem?_eq_none_iff.mp hd⟩
  | _=>exact q.elim
theorem qm8 {st:DSt} {ds:List D} (h:iRng fs st = .ok ds):∃ j:Int,fs st = .ok [.int j] /\ -(2 ^ 62) <= j /\ j < 2 ^ 62 /\ ds = (List.range j.toNat).map fun i=>.int (i:Nat):=by
 unfold iRng at h
 split at h
 ·rename_i j hf
  split at h
  ·rename_i hc
   cases h
   simp only [Bool.and_eq_true,decide_eq_true_eq] at hc
   exact ⟨j,hf,hc.1,hc.2,rfl⟩
  ·cases h
 ·cases h
 ·cases h
 ·cases h
theorem qu2 {st:DSt} {c:Addr} {p:Option Int} (h:iRng fs st = .ex c p):fs st = .ex c p:=by
 unfold iRng at h
 split at h
 ·split at h <;> cases h
 ·cases h
 ·rename_i z; rw [z]; cases h; rfl
 ·cases h
theorem qh8 {p:Pos} (hm:X.mg "range" = none) (ha:PA X [a] (tDA X.K C G0 Γ E fs κ)) (hgl:Gl X "range":=by rfl) (hs1:starEach [a] X.env = [(false,eval a X.env)]:=by rfl):PI X tg (.Call (.Name "range" p) [a] [] pos) (tDI X.K C G0 Γ E z (iRng fs)):=(ke7 hgl hm ha hs1).imp fun σ H Q zz=>by
 refine x2_2 zz fun A st r q=>?_
 clear zz
 refine ⟨A,st,r,?_⟩
 cases hg:iRng fs st with
 | bad=>rw [hg] at q; exact q.elim
 | ex c p=>rw [hg] at q; rw [qu2 hg]; exact q
 | ok ds =>
  rw [hg] at q
  refine x1_4 (qm8 hg) fun j hf h1 h2 zo4=>?_
  obtain rfl:=zo4
  rw [hf]
  intro vs H1 e1 w1
  refine x1_2 (jk7 w1) fun v zo1 wv=>?_
  obtain rfl:=zo1
  obtain rfl:v = .int j:=by rw [Rep] at wv; exact wv
  refine ⟨j,rfl,h1,h2,q _ _ e1 fun i H3 A3 e3 _=>⟨fun d hd=>?_,fun hd=>?_⟩⟩
  ·rw [List.getElem?_map] at hd
   have hi:i < j.toNat:=by
    apply Decidable.byContradiction
    intro hlt
    rw [List.getElem?_eq_none (by simpa using hlt)] at hd
    cases hd
   rw [List.getElem?_range hi] at hd
   cases hd
   refine ⟨hi,fun x H' zz2=>?_⟩
   obtain ⟨hH,hx⟩:=zz2
   subst hH; subst hx
   refine ⟨.refl _,?_⟩
   rw [Rep,Int.zero_add]
  ·show j.toNat <= i
   have:=List.getElem?_eq_none_iff.mp hd
   simpa using this
theorem kj2 {pins:List (Addr × Obj)} {σ:L2.St} {H:Hp} {s:Shared} {L:Addr} {h':Heap} (I:L2.Inv X pins σ H s) (hH:H L = none) (hL:L ≠ X.env.locals) (hS:X.s₀.heap.objs.size <= L) (hc:∀ x c,X.env.cells.lookup x = some c -> c ≠ L) (hp:∀ p ∈ X.pn ++ pins,p.1 ≠ L) (hs:Heap.SameBut L s.heap h'):L2.Inv X pins σ H { s with heap:=h' }:=by
 have kp:∀ b o,b ≠ L -> s.heap.get? b = some o -> h'.get? b = some o:=fun b o hb e=>(hs.2 b hb).trans e
 refine Inv.call' I (s':={ s with heap:=h' }) (ch:=[L]) rfl ⟨fun b o e n nf nx=>kp b o (by simpa using nx) e,fun b o e n nf nx=>⟨o.slots,kp b o (by simpa using nx) e⟩,fun b o e n nx=>n,fun b o e nx=>⟨o,kp b o (by simpa using nx) e⟩,fun b xs q=>q,fun b o u q=>q,fun b ps q=>⟨#[],by rw [q]; simp⟩⟩ (fun b u e=>?_) I.bare (fun b hb=>?_)
 ·refine (I.hok b u e).stay (fun c v hc' q=>kp c v ?_ q) (fun _ q=>q) fun _ _ q=>q
  rintro rfl
  rcases hc' with rfl | hc'
  ·rw [hH] at e; cases e
  ·rw [hH] at hc'; cases hc'
 ·obtain rfl:b = L:=by simpa using hb
  exact ⟨.inr hS,hL,hc,hp⟩
end
section
variable {X:Cx} {C:Cfg} {G0:Hp} {Γ:List SK} {E0:Value -> Shared -> Prop} {pins:List (Addr × Obj)} {σ:L2.St} {H2:Hp} {s2:Shared} {A:List Addr} {st:DSt} {tg iter elt:Expr} {ifs:List Expr} {scope:Scope} {cl:List (Str × Addr)} {pos:Pos} {fp:List Addr} {it:Addr} {tn:Nat -> Heap -> Prop} {J:It} {g:TG} {bind:DB} {ft fe:DF} {κe:Kd} {n z:Bool} {ds total:List D}
 {tgs:List Str} {caps:List (Nat × Str)} {RR:Value -> Addr -> Result -> Shared -> Prop}
noncomputable def parΓ (m:Nat):List SK:=List.replicate m .par
theorem kn3 (m:Nat):kl1 (parΓ m):=fun i k h=>by unfold parΓ at h; rw [List.getElem?_replicate] at h; split at h <;> cases h; rfl
structure BlockEnd (X:Cx) (C:Cfg) (pins:List (Addr × Obj)) (σ:L2.St) (n:Bool) (H2:Hp) (B:List Addr) (total:List D) (acc L:Addr) (s':Shared) (H':Hp) (ys:List V):Prop where
 inv:L2.Inv X pins σ H' s'
 ns:∃ m,s'.heap.Ns L m
 hL:H' L = none
 lL:L ≠ X.env.locals
 sL:X.s₀.heap.objs.size <= L
 cL:∀ x c,X.env.cells.lookup x = some c -> c ≠ L
 pL:∀ p ∈ X.pn ++ pins,p.1 ≠ L
 new:H2 acc = none
 at':H' acc = some (.lst ys)
 same:Same H2 (er H' [acc])
 reps:Reps X.K C (part n H2 acc B H') total ys
theorem jw6 (I2:L2.Inv X pins σ H2 s2) (hcalm:X.calm = true) (r2:RS X.K C G0 Γ σ H2 A st) (T:Turn X.prog X.w X.K tg J fp it tn) (htn:tn 0 s2.heap) (hf:∀ b ∈ fp,FpOk X pins H2 b) (hJ:ItOk X.K C (zB z A) H2 J ds) (hz:z = true -> ∀ p ∈ caps,Γ[p.1]? = some .par \/ Γ[p.1]? = some .loc)
  (hgo:jc0 bind ft fe ds (inσ tgs.length (caps.map (·.1)) st) = .ok total) (few:ds.length <= 1000) (hk:scope.kind = .function) (hcell:∀ y ∈ scope.names,y.2 ≠ .cell) (hcl:∀ x c,cl.lookup x = some c -> X.env.cells.lookup x = some c)
  (hhas:∀ x,((relabel scope X.env).names.lookup x = some .cell \/ (relabel scope X.env).names.lookup x = some .free) -> ∃ c,cl.lookup x = some c) (hcap:Cap X scope cl caps)
  (hB:jt8 X.K C G0 (parΓ (tgs.length + caps.length)) g bind)
  (hG:∀ s H L,PG ((cCx X scope cl (tgs ++ caps.map (·.2)) fp s H L).wish (Fly (cCx X scope cl (tgs ++ caps.map (·.2)) fp s H L) Eno)) tg g)
  (hT:∀ s0 H0 L (pins:List (Addr × Obj)) (s:Shared) (σ:L2.St) (H:Hp) (Q:Bool -> Hp -> Prop),L2.Inv ((cCx X scope cl (tgs ++ caps.map (·.2)) fp s0 H0 L).wish (Fly (cCx X scope cl (tgs ++ caps.map (·.2)) fp s0 H0 L) Eno)) pins σ H s -> tDT X.K C G0 (parΓ (tgs.length + caps.length)) Eno ft σ H Q ->
   wpAny (model X.prog X.w) X.A (forIn ifs true fun c r=>if r = true then do let ok <- isTrue c (compEnvC scope cl L X.env) (eval c (compEnvC scope cl L X.env)); pure (ForInStep.yield ok) else pure (ForInStep.yield r)) (TP ((cCx X scope cl (tgs ++ caps.map (·.2)) fp s0 H0 L).wish (Fly (cCx X scope cl (tgs ++ caps.map (·.2)) fp s0 H0 L) Eno)) pins σ Q) (Fly (cCx X scope cl (tgs ++ caps.map (·.2)) fp s0 H0 L) Eno) s)
  (hE:∀ s H L,PE ((cCx X scope cl (tgs ++ caps.map (·.2)) fp s H L).wish (Fly (cCx X scope cl (tgs ++ caps.map (·.2)) fp s H L) Eno)) elt (tD X.K C G0 (parΓ (tgs.length + caps.length)) Eno fe κe)) (hn:n = true -> κe = .new) (hn':n = false -> κe.le .old = true)
  (hRR:∀ acc L s' H' ys,BlockEnd X C pins σ n H2 (zB z A) total acc L s' H' ys -> RR (.ref acc) L (.ok .next) s') :
  wpAny (model X.prog X.w) X.A (newList []) (fun acc s₃=>wpAny (model X.prog X.w) X.A (newFunctionEnv scope X.env.globals cl [] X.env.qual none .none (some X.env)) (fun cenv s₄ =>
   codeAny (model X.prog X.w) X.A (.compStart (.ListComp elt [⟨tg,iter,ifs,0⟩] scope pos) 0 (.ref it) acc { cenv with scope:=relabel scope X.env }) (RR acc cenv.locals) s₄) E0 s₃) E0 s2:=by
 refine wpAny_newObj_type (wpAny_newFunctionEnv hcell (by intro y hy; simp at hy) (fun h₁ hns₁ hsb₁=>?_) hk)
 dsimp only at hns₁ hsb₁ ⊢
 generalize hH2:s2.heap.push { cls:=.type "list",dict:=none,data:=.seq ([]:List Value).toArray } = G2 at hns₁ hsb₁ ⊢
 have hC:G2.objs.size = s2.heap.objs.size + 1:=by rw [<- hH2,Heap.size_push]
 have hDC:s2.heap.objs.size ≠ G2.objs.size:=by rw [hC]; exact Nat.ne_of_lt (Nat.lt_succ_self _)
 have below:∀ b,b < s2.heap.objs.size -> b ≠ G2.objs.size /\ b ≠ s2.heap.objs.size:=fun b hb=>⟨by rw [hC]; exact Nat.ne_of_lt (Nat.lt_succ_of_lt hb),Nat.ne_of_lt hb⟩
 have old:∀ b o,s2.heap.get? b = some o -> h₁.get? b = some o:=fun b o e=>hsb₁.extBut b o (below b (Heap.lt_size e)).1 (Heap.get?_push_of_some _ (hH2 ▸ Heap.get?_push_of_some _ e))
 have hacc:h₁.get? s2.heap.objs.size = some { cls:=.type "list",data:=.seq ([]:List Value).toArray 0 }:=hsb₁.extBut _ _ hDC (Heap.get?_push_of_some _ (hH2 ▸ Heap.get?_push_size _ rfl))
 have nacc:H2 s2.heap.objs.size = none:=I2.hok.fresh (Nat.le_refl _)
 have hLle:s2.heap.objs.size <= G2.objs.size:=by rw [hC]; exact Nat.le_succ _
 have nL:H2 G2.objs.size = none:=I2.hok.fresh hLle
 have hfs:∀ b ∈ fp,b < s2.heap.objs.size:=fun b hb=>by obtain ⟨o,e,_⟩:=T.obj _ _ htn b hb; exact Heap.lt_size e
 have ok:=qx9 (N':=tgs ++ caps.map (·.2)) (L:=G2.objs.size) I2 hk hLle hcl hhas hf hfs
 have un:Un (frs X.stack) fp H2 (upd H2 s2.heap.objs.size (.lst [])) s2.heap h₁:=Un.laid old (Nat.le_refl _) nacc
 have hok:HOk X.prog X.w (upd H2 s2.heap.objs.size (.lst [])) h₁:=I2.hok.laid old (Nat.le_refl _) ⟨Nat.zero_le _,[],0,.nil,hacc⟩
 have inn:L2.Inv (cCx X scope cl (tgs ++ caps.map (·.2)) fp s2 H2 G2.objs.size) [] (inσ tgs.length (caps.map (·.1)) σ) (upd H2 s2.heap.objs.size (.lst [])) { s2 with heap:=h₁,toks:=s2.toks + ([]:List (Str × Value)).length }:=by
  refine qo2 I2 ok hcap hcl rfl I2.bare un old hns₁ (by rw [y3 (Ne.symm hDC)]; exact nL) (fun x c h=>?_) hok
  have hc:=I2.freeC x c (hcl _ _ h)
  have hc2:c ≠ s2.heap.objs.size:=fun w=>by
   obtain ⟨v,q⟩:=I2.cell x c (hcl _ _ h)
   exact absurd q.lt (by rw [w]; exact Nat.lt_irrefl _)
  rw [y3 hc2]; exact hc
 have e2:Same H2 (upd H2 s2.heap.objs.size (.lst [])):=Y5 nacc
 have ee:Same H2 (er (upd H2 s2.heap.objs.size (.lst [])) [s2.heap.objs.size]):=fun b o e=>by
  have:b ≠ s2.heap.objs.size:=fun w=>by rw [w,nacc] at e; cases e
  rw [w8 (by simpa using this)]; exact e2 b o e
 have eB:Same (er H2 (zB z A)) (er (upd H2 s2.heap.objs.size (.lst [])) (s2.heap.objs.size :: zB z A)):=fun b o e=>by
  by_cases mb:b ∈ zB z A
  ·rw [jb8 mb] at e; cases e
  ·rw [w8 mb] at e
   have:b ≠ s2.heap.objs.size:=fun w=>by rw [w,nacc] at e; cases e
   rw [w8 (by simp [this,mb])]; exact e2 b o e
 have rin:RS X.K C G0 (parΓ (tgs.length + caps.length)) (inσ tgs.length (caps.map (·.1)) σ) (upd H2 s2.heap.objs.size (.lst [])) (s2.heap.objs.size :: zB z A) (inσ tgs.length (caps.map (·.1)) st):=by
  refine ⟨(r2.base.trans (ks1 ql0)).trans eB,fun a m=>?_,by unfold inσ; simp,fun j d h=>?_,fun i j n' m' p ds' es hij g1=>by have:=kn3 _ i _ g1; cases this⟩
  ·rcases List.mem_cons.mp m with rfl | m
   ·exact ⟨[],Q7⟩
   ·obtain ⟨xs,q⟩:=r2.lists a (ql0 a m)
    exact ⟨xs,e2 _ _ q⟩
  ·refine x1_3 (kx5 h) fun i hj hi hs=>?_
   refine x2_3 (r2.slot i d hs) fun k v h1 h2 h3=>?_
   have hlt:j - tgs.length < caps.length:=by have:=(List.getElem?_eq_some_iff.mp hi).1; simpa using this
   refine ⟨.par,v,?_,qn3 hj hi h2,?_⟩
   ·unfold parΓ; rw [List.getElem?_replicate,if_pos (by lia)]
   ·refine Rep.same eB _ ?_
    refine x1_2 (r2.read h1 hs) fun v' w1 w2=>?_
    rw [h2] at w1; cases w1
    unfold zB
    cases z with
    | false=>rw [if_neg (by decide),jq8]; exact w2.rep
    | true =>
     rw [List.getElem?_map] at hi
     cases hc:caps[j - tgs.length]? with
     | none=>rw [hc] at hi; cases hi
     | some p =>
      rw [hc] at hi; cases hi
      rcases hz rfl p (List.mem_of_getElem? hc) with q | q
      ·rw [h1] at q; cases q; exact h3
      ·rw [h1] at q; cases q; exact h3.1.same (Z6 _ _) _
 have loop:∀ s3:Shared,s3 = { s2 with heap:=h₁,toks:=s2.toks + ([]:List (Str × Value)).length } ->
   codeAny (model X.prog X.w) X.A (.compLoop (.ListComp elt [⟨tg,iter,ifs,0⟩] scope pos) 0 (.ref it) (.ref s2.heap.objs.size) (compEnvC scope cl G2.objs.size X.env)) (RR (.ref s2.heap.objs.size) G2.objs.size) s3:=by
  rintro s3 rfl
  refine ky2 (X:=cCx X scope cl (tgs ++ caps.map (·.2)) fp s2 H2 G2.objs.size) (C:=C) (G0:=G0) (B:=zB z A) (H2:=H2) (total:=total) T hcalm (fun b hb=>⟨hb,(ok.exf b hb).1,ok.exfs b hb,(ok.exf b hb).2⟩) rfl (kn3 _) hJ hB (hG _ _ _) (hT _ _ _) (hE _ _ _) hn hn' nacc few
   (fun s' σ' H' zz3=>zz3.elim fun st' zz4=>zz4.elim fun ys zz5=>zz5.elim fun es zz6=>zz6.elim fun I' zz7=>zz7.elim fun hy zz8=>zz8.elim fun r' zz9=>zz9.elim fun e' zz10=>zz10.elim fun rp zz11=>zz11.elim fun hl zz12=>zz12.elim fun rest zz13=>zz13.elim fun hg ht=>?_) _ _ _ ⟨_,[],[],inn,Q7,rin,ee,.nil,Nat.zero_le _,total,by simpa using hgo,rfl⟩ (T.keep _ _ _ htn fun b hb o e=>old b o e) (fun b hb=>by rw [y3 (below b (hfs b hb)).2]; exact (hf b hb).1)
  have hr:rest = []:=by
   rw [List.drop_length] at hg
   exact (R.ok.inj hg).symm
  subst hr
  rw [List.append_nil] at ht
  subst ht
  have Iout:L2.Inv X pins σ H' s':=Inv.call' I2 I'.os I'.base I'.hok I'.bare fun b hb=>⟨(hf b hb).2.2.2.1,(hf b hb).2.1,(hf b hb).2.2.2.2.1,(hf b hb).2.2.2.2.2⟩
  refine hRR _ _ s' H' ys ⟨Iout,I'.loc.imp fun m h=>h.1,I'.free,?_,Nat.le_trans I2.sz hLle,fun x c h w=>?_,fun p hp w=>?_,nacc,hy,e',rp⟩
  ·exact Ne.symm (below _ I2.lt).1
  ·obtain ⟨v,q⟩:=I2.cell x c h
   exact (below _ q.lt).1 w
  ·exact (below _ (Heap.lt_size (I2.pin p hp).1)).1 w
 exact codeAny_compStart_list (loop _ rfl) (T.self X.A 0 _ _ _ (T.keep _ _ _ htn fun b hb o e=>old b o e) (loop _ rfl))
end
end Dm
end T_Lc3
section T_Lc4
namespace Dm
open PySem PySem.Spec PyProof.Rows L2
noncomputable def kh9 (z n:Bool):Kd:=if n = true then .new else if z = true then .nwo else .tmp
noncomputable def jf7 (gi:DI) (k:Nat) (fr:List Nat) (bind:DB) (ft fe:DF):DF:=fun st=>match gi st with
 | .ok ds=>if ds.length <= 1000 then (match jc0 bind ft fe ds (inσ k fr st) with | .ok es=>.ok (.lst es) | _=>.bad) else .bad
 | .ex c p=>.ex c p
 | .bad=>.bad
section
variable {X:Cx} {C:Cfg} {G0:Hp} {Γ:List SK} {E:L2.St -> XK} {κr:Bool} {tg iter elt:Expr} {ifs:List Expr} {scope:Scope} {cl:List (Str × Addr)} {pos:Pos} {g:TG} {bind:DB} {gi:DI} {ft fe:DF} {κe:Kd} {n z:Bool} {tgs:List Str} {caps:List (Nat × Str)}
theorem BlockEnd.val {pins:List (Addr × Obj)} {σ:L2.St} {H H2:Hp} {A:List Addr} {total:List D} {acc L:Addr} {s':Shared} {H':Hp} {ys:List V} {st:DSt} (b:BlockEnd X C pins σ n H2 (zB z A) total acc L s' H' ys) (r:RS X.K C G0 Γ σ H A st) (e:Same H H2):Same H H' /\ Val X.K C (kh9 z n) G0 A H H' (.lst total) (.ref acc):=by
 have e2:Same H2 H':=b.same.trans (q9 _ _)
 have eH:=e.trans e2
 refine ⟨eH,?_⟩
 have h0:H acc = none:=e.free b.new
 have rp:=b.reps
 unfold kh9
 cases n with
 | true =>
  rw [if_pos rfl]
  have R0:Reps X.K C (er (nw H H') [acc]) total ys:=rp.same (fun c o z=>by
   unfold part at z
   rw [if_pos rfl] at z
   by_cases hc:c = acc
   ·subst hc
    have:=Z6 _ _ _ _ z
    rw [jb8 (.head _)] at this; cases this
   ·rw [w8 (by simpa using hc)]
    exact jz1 e _ _ (J1 (q9 _ _) _ _ z)) _
  have ha:nw H H' acc = some (.lst ys):=by rw [jm5 h0]; exact b.at'
  exact ⟨by rw [Rep]; exact ⟨acc,ys,rfl,.of ha,R0⟩,fun ds z=>by cases z; exact ⟨acc,ys,rfl,h0,ha,R0⟩⟩
 | false =>
  rw [if_neg (by decide)]
  cases z with
  | true =>
   rw [if_pos rfl]
   have hA:acc ∉ A:=fun m=>by obtain ⟨xs,q⟩:=r.lists acc m; rw [h0] at q; cases q
   have R0:Reps X.K C (er (er H' A) [acc]) total ys:=rp.same (fun c o z=>by
    unfold part zB at z
    rw [if_neg (by decide),if_pos rfl] at z
    by_cases hc:c ∈ acc :: A
    ·rw [jb8 hc] at z; cases z
    ·rw [w8 hc] at z
     have h1:c ≠ acc:=fun w=>hc (by rw [w]; exact .head _)
     have h2:c ∉ A:=fun w=>hc (.tail _ w)
     rw [w8 (by simpa using h1),w8 h2]; exact z) _
   have ha:er H' A acc = some (.lst ys):=by rw [w8 hA]; exact b.at'
   exact ⟨by rw [Rep]; exact ⟨acc,ys,rfl,.of ha,R0⟩,fun ds z=>by cases z; exact ⟨acc,ys,rfl,h0,ha,R0⟩⟩
  | false =>
   rw [if_neg (by decide)]
   show Rep X.K C H' _ _
   rw [Rep]
   refine ⟨acc,ys,rfl,.of b.at',rp.same (fun c o z=>?_) _⟩
   unfold part zB at z
   rw [if_neg (by decide),if_neg (by decide)] at z
   exact z
structure Blk (X:Cx) (C:Cfg) (G0:Hp) (Γ:List SK) (tg elt:Expr) (ifs:List Expr) (scope:Scope) (cl:List (Str × Addr)) (g:TG) (bind:DB) (ft fe:DF) (κe:Kd) (n z:Bool) (tgs:List Str) (caps:List (Nat × Str)):Prop where
 calm:X.calm = true
 hk:scope.kind = .function
 hcell:∀ y ∈ scope.names,y.2 ≠ .cell
 hcl:∀ x c,cl.lookup x = some c -> X.env.cells.lookup x = some c
 hhas:∀ x,((relabel scope X.env).names.lookup x = some .cell \/ (relabel scope X.env).names.lookup x = some .free) -> ∃ c,cl.lookup x = some c
 hclos:closureFor scope X.env = pure cl
 hnames:∀ y ∈ scope.names,y.2 = .local -> scope.names.lookup y.1 = some .local
 hcap:Cap X scope cl caps
 hz:z = true -> ∀ p ∈ caps,Γ[p.1]? = some .par \/ Γ[p.1]? = some .loc
 hB:jt8 X.K C G0 (parΓ (tgs.length + caps.length)) g bind
 hG:∀ fp s H L,PG ((cCx X scope cl (tgs ++ caps.map (·.2)) fp s H L).wish (Fly (cCx X scope cl (tgs ++ caps.map (·.2)) fp s H L) Eno)) tg g
 hT:∀ fp s0 H0 L (pins:List (Addr × Obj)) (s:Shared) (σ:L2.St) (H:Hp) (Q:Bool -> Hp -> Prop),L2.Inv ((cCx X scope cl (tgs ++ caps.map (·.2)) fp s0 H0 L).wish (Fly (cCx X scope cl (tgs ++ caps.map (·.2)) fp s0 H0 L) Eno)) pins σ H s -> tDT X.K C G0 (parΓ (tgs.length + caps.length)) Eno ft σ H Q ->
   wpAny (model X.prog X.w) X.A (forIn ifs true fun c r=>if r = true then do let ok <- isTrue c (compEnvC scope cl L X.env) (eval c (compEnvC scope cl L X.env)); pure (ForInStep.yield ok) else pure (ForInStep.yield r)) (TP ((cCx X scope cl (tgs ++ caps.map (·.2)) fp s0 H0 L).wish (Fly (cCx X scope cl (tgs ++ caps.map (·.2)) fp s0 H0 L) Eno)) pins σ Q) (Fly (cCx X scope cl (tgs ++ caps.map (·.2)) fp s0 H0 L) Eno) s
 hE:∀ fp s H L,PE ((cCx X scope cl (tgs ++ caps.map (·.2)) fp s H L).wish (Fly (cCx X scope cl (tgs ++ caps.map (·.2)) fp s H L) Eno)) elt (tD X.K C G0 (parΓ (tgs.length + caps.length)) Eno fe κe)
 hn:n = true -> κe = .new
 hn':n = false -> κe.le .old = true
theorem ql8 (hsrc:PI X tg iter (tDI X.K C G0 Γ E z gi)) (b:Blk X C G0 Γ tg elt ifs scope cl g bind ft fe κe n z tgs caps) (hs:∀ x,foldedSetIterable iter X.env x = pure x:=by intro _; rfl) :
  PE X (.ListComp elt [⟨tg,iter,ifs,0⟩] scope pos) (tD X.K C G0 Γ E (jf7 gi tgs.length (caps.map (·.1)) bind ft fe) (kh9 z n)):=fun pins s σ H Q I zz=>by
 refine x2_2 zz fun A st r q=>?_
 clear zz
 rw [eval_ListComp]
 unfold jf7 at q
 refine wpAny_comprehension_free (use:=none) rfl hs b.hclos b.hk b.hnames (wpAny_mono (hsrc pins s σ H (fun J H'=>∃ ds total,Same H H' /\ ItOk X.K C (zB z A) H' J ds /\ ds.length <= 1000 /\ jc0 bind ft fe ds (inσ tgs.length (caps.map (·.1)) st) = .ok total /\ ∀ v H',Same H H' -> Val X.K C (kh9 z n) G0 A H H' (.lst total) v -> Q v H') I ⟨A,st,r,?_⟩) (fun xv s1 h1=>wpAny_mono h1 (fun itv s2 h2=>?_) fun _ _ e=>e) fun _ _ e=>e)
 ·cases hg:gi st with
  | bad=>rw [hg] at q; exact q
  | ex c p=>rw [hg] at q; exact q
  | ok ds =>
   rw [hg] at q
   dsimp only at q
   by_cases hl:ds.length <= 1000
   ·rw [if_pos hl] at q
    cases hc:jc0 bind ft fe ds (inσ tgs.length (caps.map (·.1)) st) with
    | bad=>rw [hc] at q; exact q.elim
    | ex c p=>rw [hc] at q; exact q.elim
    | ok total=>rw [hc] at q; exact fun J H' e' hJ=>⟨ds,total,e',hJ,hl,hc,q⟩
   ·rw [if_neg hl] at q; exact q.elim
 ·obtain ⟨it,fp,tn,J,H2,rfl,I2,T,t0,f0,ds,total,e2,hJ,hl,hgo,hq⟩:=h2
  refine jw6 (RR:=fun acc L=>compPost (model X.prog X.w) X.A X.xe none (EP X pins σ Q) acc L) I2 b.calm (r.mono e2) T t0 f0 hJ b.hz hgo hl b.hk b.hcell b.hcl b.hhas b.hcap b.hB (b.hG fp) (b.hT fp) (b.hE fp) b.hn b.hn' fun acc L s' H' ys be=>?_
  obtain ⟨e',w⟩:=be.val r e2
  obtain ⟨m,hm⟩:=be.ns
  exact ⟨m,hm,fun h' hsb=>⟨.ref acc,H',kj2 be.inv be.hL be.lL be.sL be.cL be.pL hsb,rfl,hq _ _ e' w⟩⟩
theorem qr6 {i:Nat} {k:SK} {x:Str} {pos' spos:Pos} (hN:X.N.Nodup) (hsrc:PI X tg iter (tDI X.K C G0 Γ E z gi)) (b:Blk X C G0 Γ tg elt ifs scope cl g bind ft fe κe n z tgs caps) (hk:Γ[i]? = some k:=by rfl) (hl:k.takes (kh9 z n) = true:=by rfl) (hi:X.N[i]? = some x:=by rfl) (hx:X.env.scope.names.lookup x = some .local:=by rfl)
  (hsw:swapsWith (.ListComp elt [⟨tg,iter,ifs,0⟩] scope pos) (some (.Name x pos')) spos.line X.env = pure true:=by rfl) (hs:∀ x,foldedSetIterable iter X.env x = pure x:=by intro _; rfl) :
  PS X (.Assign [.Name x pos'] (.ListComp elt [⟨tg,iter,ifs,0⟩] scope pos) spos) (tDS X.K C G0 Γ E κr (dAsg i (jf7 gi tgs.length (caps.map (·.1)) bind ft fe))):=fun pins s σ H D I zz=>by
 refine x2_2 zz fun A st r q=>?_
 clear zz
 rw [exec_Assign_Name_used _ _ _ _ hsw]
 refine wpAny_bind (wpAny_standAt (wpAny_bind ?_))
 show wpAny _ X.A (do let _ <- comprehension (.ListComp elt [⟨tg,iter,ifs,0⟩] scope pos) scope X.env _ (newList []) false (eval iter X.env) (some (assign (.Name x pos') X.env))) _ _ s
 unfold dAsg jf7 at q
 refine wpAny_bind (wpAny_mono (wpAny_comprehension_free (use:=some (assign (.Name x pos') X.env)) (Q:=fun _ s'=>SP X pins D .next s') rfl hs b.hclos b.hk b.hnames (wpAny_mono (hsrc pins s σ H (fun J H'=>∃ ds total,Same H H' /\ ItOk X.K C (zB z A) H' J ds /\ ds.length <= 1000 /\ jc0 bind ft fe ds (inσ tgs.length (caps.map (·.1)) st) = .ok total /\ ∀ σ' H' A',RS X.K C G0 Γ σ' H' A' (st.set i (some (.lst total))) -> Same (er H A) (er H' A') -> D.nx σ' H') I ⟨A,st,r,?_⟩) (fun xv s1 h1=>wpAny_mono h1 (fun itv s2 h2=>?_) fun _ _ e=>e) fun _ _ e=>e))
  (fun _ s' hq=>wpAny_pure (wpAny_pure hq)) fun _ _ e=>e)
 ·cases hg:gi st with
  | bad=>rw [hg] at q; exact q
  | ex c p=>rw [hg] at q; exact fun H' e'=>q σ H' A (r.mono e') (q0 e')
  | ok ds =>
   rw [hg] at q
   dsimp only at q
   by_cases hl:ds.length <= 1000
   ·rw [if_pos hl] at q
    cases hc:jc0 bind ft fe ds (inσ tgs.length (caps.map (·.1)) st) with
    | bad=>rw [hc] at q; exact q.elim
    | ex c p=>rw [hc] at q; exact q.elim
    | ok total=>rw [hc] at q; exact fun J H' e' hJ=>⟨ds,total,e',hJ,hl,hc,q⟩
   ·rw [if_neg hl] at q; exact q.elim
 ·obtain ⟨it,fp,tn,J,H2,rfl,I2,T,t0,f0,ds,total,e2,hJ,hlen,hgo,hq⟩:=h2
  refine jw6 (RR:=fun acc L=>compPost (model X.prog X.w) X.A X.xe (some (assign (.Name x pos') X.env)) (fun _ s'=>SP X pins D .next s') acc L) I2 b.calm (r.mono e2) T t0 f0 hJ b.hz hgo hlen b.hk b.hcell b.hcl b.hhas b.hcap b.hB (b.hG fp) (b.hT fp) (b.hE fp) b.hn b.hn' fun acc L s' H' ys be=>?_
  obtain ⟨e',w⟩:=be.val r e2
  obtain ⟨m,hm⟩:=be.ns
  refine x1_3 (r.set e' hk hl w) fun A' r' ea _=>?_
  refine wpAny_assign_Name (ka9 be.inv hN hi (.inl hx) (v:=.ref acc) rfl (fun s3 I3 zz1=>?_) (.inr hx))
  refine x1_2 zz1 fun c hsb hc=>?_
  clear zz1
  have hcL:L ≠ c:=by
   rcases hc with rfl | hc
   ·exact be.lL
   ·exact fun z=>be.cL x c hc z.symm
  exact ⟨m,hm.sameBut hsb hcL,fun h' hs'=>⟨_,H',kj2 I3 be.hL be.lL be.sL be.cL be.pL hs',hq _ _ A' r' ea⟩⟩
end
end Dm
end T_Lc4
section T_Dz
namespace Dz
open PySem PyProof.Rows
noncomputable abbrev jj9 (h:Heap) (z TI TO T:Addr) (b:Bool):Prop :=
 h.get? z = some { cls:=.type "zip",dict:=none,data:=.fields #[rawInt T,.bool b,.bool false,.ref TI,.ref TO],slots:=#[] }
section
variable {prog:Program} {w:World} {A:Around} {E:Value -> Shared -> Prop} {s:Shared}
theorem va8 {a:Addr} {Q:Option Obj -> Shared -> Prop} (h:Q (s.heap.get? a) s):wpAny (model prog w) A (loadIfAlive a) Q E s:=fun Γ p hΓ=>by
 unfold loadIfAlive
 rw [Sem.wp_loadIfAlive,Sem.wp_pure]
 exact h
theorem qa1 {z TI TO T:Addr} {b:Bool} {oT:Obj} {Q:Bool -> Shared -> Prop} (hz:jj9 s.heap z TI TO T b) (hT:s.heap.get? T = some oT)
  (hQ:∀ h',jj9 h' z TI TO T true -> Heap.SameBut z s.heap h' -> Q false { s with heap:=h' }):wpAny (model prog w) A (Builtin.SmallTypes.ownedTupleIsFree (.ref z)) Q E s:=by
 unfold Builtin.SmallTypes.ownedTupleIsFree
 refine wpAny_bind (wpAny_field hz rfl (x:=rawInt T) rfl ?_)
 show wpAny _ _ (loadIfAlive (T:Int).toNat >>= _) _ _ _
 refine wpAny_bind (va8 ?_)
 rw [Int.toNat_natCast,hT]
 simp only [Option.isNone_some,Bool.false_eq_true,if_false]
 refine wpAny_bind (wpAny_field hz rfl (x:=.bool b) rfl ?_)
 cases b with
 | true =>
  rw [if_neg (by decide)]
  exact wpAny_pure (hQ s.heap hz ⟨rfl,fun _ _=>rfl⟩)
 | false =>
  rw [if_pos (by decide)]
  refine wpAny_bind (wpAny_setField_rec hz (by simp) fun h₁ hz₁ hs₁=>wpAny_pure ?_)
  exact hQ h₁ hz₁ hs₁
theorem kv3 {z TI TO T i1 i2 l1 l2:Addr} {b:Bool} {oT:Obj} {k1 k2:Nat} {xs ys:Array Value} {x y:Value} {Q:Value -> Shared -> Prop} (D:ZipApart z TI TO i1 i2 l1 l2)
  (hz:jj9 s.heap z TI TO T b) (hT:s.heap.get? T = some oT) (hTI:IsPair s.heap TI (.ref i1) (.ref i2))
  (h1:s.heap.IsListIter i1 l1 k1) (h2:s.heap.IsListIter i2 l2 k2) (hl1:s.heap.IsList l1 xs) (hl2:s.heap.IsList l2 ys) (hx:xs[k1]? = some x) (hy:ys[k2]? = some y)
  (hQ:∀ h',jj9 h' z TI TO T true -> h'.IsListIter i1 l1 (k1 + 1) -> h'.IsListIter i2 l2 (k2 + 1) -> IsPair h' s.heap.objs.size x y -> h'.objs.size = s.heap.objs.size + 1 ->
   (∀ c o,c ≠ z -> c ≠ i1 -> c ≠ i2 -> s.heap.get? c = some o -> h'.get? c = some o) -> Q (.ref s.heap.objs.size) { s with heap:=h' }) :
  wpAny (model prog w) A (Builtin.«zip.__next__» ⟨[.ref z],[]⟩) (fun fin s'=>∃ v,fin = .done (.ret v) /\ Q v s') E s:=by
 show wpAny _ _ (field (.ref z) 2 >>= _) _ _ _
 refine wpAny_bind (wpAny_field hz rfl (x:=.bool false) rfl ?_)
 show wpAny _ _ (field (.ref z) 3 >>= _) _ _ _
 refine wpAny_bind (wpAny_field hz rfl (x:=.ref TI) rfl ?_)
 refine wpAny_bind (wpAny_seqItems hTI rfl ?_)
 show wpAny _ _ (Builtin.SmallTypes.ownedTupleIsFree (.ref z) >>= _) _ _ _
 refine wpAny_bind (qa1 hz hT fun h₁ hz₁ hs₁=>?_)
 simp only [Bool.false_eq_true,if_false]
 simp only [Array.forIn_toList.symm,List.forIn_cons,List.forIn_nil]
 refine wpAny_bind (wpAny_bind (wpAny_bind (wpAny_holding ?_)))
 show wpAny _ _ (Builtin.SmallTypes.nextOf (.ref i1) >>= _) _ _ _
 refine wpAny_bind (wpAny_nextOf_list_item (h1.extBut hs₁.extBut D.i1z) (hl1.extBut hs₁.extBut D.l1z) hx fun h₂ h1₂ hs₂=>wpAny_pure (wpAny_pure ?_))
 refine wpAny_bind (wpAny_bind (wpAny_holding ?_))
 show wpAny _ _ (Builtin.SmallTypes.nextOf (.ref i2) >>= _) _ _ _
 refine wpAny_bind (wpAny_nextOf_list_item ((h2.extBut hs₁.extBut D.i2z).extBut hs₂.extBut D.i12.symm) ((hl2.extBut hs₁.extBut D.l2z).extBut hs₂.extBut D.l2i1) hy fun h₃ h2₃ hs₃=>wpAny_pure (wpAny_pure (wpAny_pure ?_)))
 show wpAny _ _ (newTuple [x,y] >>= _) _ _ _
 refine wpAny_bind (wpAny_newTuple ?_)
 have hsz:h₃.objs.size = s.heap.objs.size:=by rw [hs₃.1,hs₂.1,hs₁.1]
 have hz₃:jj9 h₃ z TI TO T true:=hs₃.extBut _ _ D.i2z.symm (hs₂.extBut _ _ D.i1z.symm hz₁)
 have hk:∀ c o,c ≠ z -> c ≠ i1 -> c ≠ i2 -> s.heap.get? c = some o -> h₃.get? c = some o:=fun c o c1 c3 c4 e=>hs₃.extBut _ _ c4 (hs₂.extBut _ _ c3 (hs₁.extBut _ _ c1 e))
 have h1₃:h₃.IsListIter i1 l1 (k1 + 1):=h1₂.extBut hs₃.extBut D.i12
 refine wpAny_pure ⟨_,rfl,?_⟩
 show Q (.ref h₃.objs.size) _
 rw [hsz]
 refine hQ (h₃.push { cls:=.type "tuple",data:=.seq #[x,y] }) (Heap.get?_push_of_some _ hz₃) (h1₃.at fun o e=>Heap.get?_push_of_some _ e) (h2₃.at fun o e=>Heap.get?_push_of_some _ e) ?_ (by rw [Heap.size_push,hsz]) fun c o c1 c3 c4 e=>Heap.get?_push_of_some _ (hk c o c1 c3 c4 e)
 rw [<- hsz]
 exact Heap.get?_push_size _ rfl
theorem qh3 {z TI TO T i1 i2 l1 l2:Addr} {b:Bool} {oT:Obj} {k1 k2:Nat} {xs ys:Array Value} {Q:Fin -> Shared -> Prop} (hh:A.handled = none) (D:ZipApart z TI TO i1 i2 l1 l2)
  (hz:jj9 s.heap z TI TO T b) (hT:s.heap.get? T = some oT) (hTI:IsPair s.heap TI (.ref i1) (.ref i2))
  (h1:s.heap.IsListIter i1 l1 k1) (hl1:s.heap.IsList l1 xs) (hend:xs[k1]? = none)
  (hE:∀ h' e,(∀ c o,c ≠ z -> c ≠ i1 -> s.heap.get? c = some o -> h'.get? c = some o) -> (∃ o,h'.get? e = some o /\ o.cls = .type "StopIteration") -> E (.ref e) { s with heap:=h' }) :
  wpAny (model prog w) A (Builtin.«zip.__next__» ⟨[.ref z],[]⟩) Q E s:=by
 show wpAny _ _ (field (.ref z) 2 >>= _) _ _ _
 refine wpAny_bind (wpAny_field hz rfl (x:=.bool false) rfl ?_)
 show wpAny _ _ (field (.ref z) 3 >>= _) _ _ _
 refine wpAny_bind (wpAny_field hz rfl (x:=.ref TI) rfl ?_)
 refine wpAny_bind (wpAny_seqItems hTI rfl ?_)
 show wpAny _ _ (Builtin.SmallTypes.ownedTupleIsFree (.ref z) >>= _) _ _ _
 refine wpAny_bind (qa1 hz hT fun h₁ hz₁ hs₁=>?_)
 simp only [Bool.false_eq_true,if_false]
 simp only [Array.forIn_toList.symm,List.forIn_cons,List.forIn_nil]
 refine wpAny_bind (wpAny_bind (wpAny_bind (wpAny_holding ?_)))
 show wpAny _ _ (Builtin.SmallTypes.nextOf (.ref i1) >>= _) _ _ _
 refine wpAny_bind (wpAny_nextOf_list_end hh (h1.extBut hs₁.extBut D.i1z) (hl1.extBut hs₁.extBut D.l1z) hend fun h₂ e hs₂ he=>?_)
 exact hE h₂ e (fun c o c1 c3 x=>hs₂ _ _ c3 (hs₁.extBut _ _ c1 x)) he
theorem kh4 {z TI TO T i1 i2 l1 l2:Addr} {b:Bool} {oT:Obj} {k1 k2:Nat} {xs ys:Array Value} {x y:Value} {Q:Option Value -> Shared -> Prop} (D:ZipApart z TI TO i1 i2 l1 l2)
  (hz:jj9 s.heap z TI TO T b) (hT:s.heap.get? T = some oT) (hTI:IsPair s.heap TI (.ref i1) (.ref i2))
  (h1:s.heap.IsListIter i1 l1 k1) (h2:s.heap.IsListIter i2 l2 k2) (hl1:s.heap.IsList l1 xs) (hl2:s.heap.IsList l2 ys) (hx:xs[k1]? = some x) (hy:ys[k2]? = some y)
  (hQ:∀ h',jj9 h' z TI TO T true -> h'.IsListIter i1 l1 (k1 + 1) -> h'.IsListIter i2 l2 (k2 + 1) -> IsPair h' s.heap.objs.size x y -> h'.objs.size = s.heap.objs.size + 1 ->
   (∀ c o,c ≠ z -> c ≠ i1 -> c ≠ i2 -> s.heap.get? c = some o -> h'.get? c = some o) -> Q (some (.ref s.heap.objs.size)) { s with heap:=h' }) :
  wpAny (model prog w) A (pyNext (.ref z)) Q E s:=by
 have hT':s.TypeIs (.ref z) "zip":=⟨_,hz,rfl⟩
 unfold pyNext
 exact wpAny_bind (wpAny_attempt (wpAny_callSpecial?_slot (name:=Str.ofString "__next__") hT' F.slot_zip_next
  (wpAny_call_entry F.slot_zip_next hT' F.entry_zip_next
   (kv3 D hz hT hTI h1 h2 hl1 hl2 hx hy fun h' a1 a3 a4 a5 a6 a7=>wpAny_pure (hQ h' a1 a3 a4 a5 a6 a7)) (F.args_zip_next_1 _))))
theorem kp6 {z TI TO T i1 i2 l1 l2:Addr} {b:Bool} {oT:Obj} {k1 k2:Nat} {xs ys:Array Value} {Q:Option Value -> Shared -> Prop} (hh:A.handled = none) (D:ZipApart z TI TO i1 i2 l1 l2)
  (hz:jj9 s.heap z TI TO T b) (hT:s.heap.get? T = some oT) (hTI:IsPair s.heap TI (.ref i1) (.ref i2))
  (h1:s.heap.IsListIter i1 l1 k1) (hl1:s.heap.IsList l1 xs) (hend:xs[k1]? = none)
  (hQ:∀ h',(∀ c o,c ≠ z -> c ≠ i1 -> s.heap.get? c = some o -> h'.get? c = some o) -> Q none { s with heap:=h' }):wpAny (model prog w) A (pyNext (.ref z)) Q E s:=by
 have hT':s.TypeIs (.ref z) "zip":=⟨_,hz,rfl⟩
 unfold pyNext
 refine wpAny_bind (wpAny_attempt (wpAny_callSpecial?_slot (name:=Str.ofString "__next__") hT' F.slot_zip_next
  (wpAny_call_entry F.slot_zip_next hT' F.entry_zip_next (qh3 (ys:=ys) (k2:=k2) hh D hz hT hTI h1 hl1 hend fun h' e hk he=>?_) (F.args_zip_next_1 _))))
 refine x1_2 he fun o ho hc=>?_
 clear he
 refine wpAny_bind (wpAny_isInstance (T:="StopIteration") (b:=true) ⟨o,ho,hc⟩ isSubtype_stop ?_)
 exact wpAny_pure (hQ _ hk)
end
end Dz
end T_Dz
section T_Dz1
namespace Dz
open PySem PyProof.Rows
theorem ke5:entryFor table "zip.__getattribute__" = some Builtin.«object.__getattribute__» :=
 entryFor_alias (id':="object.__getattribute__") (by kernel_rfl) (by first | rfl | decide +kernel) (by decide +kernel) (by kernel_rfl)
theorem kf7:typeLookup (.type "zip") "keys" = pure none:=by rw [typeLookup_type,builtinLookup_eq_fast]; kernel_rfl
theorem jt1:typeLookup (.type "zip") "__getattr__" = pure none:=by rw [typeLookup_type,builtinLookup_eq_fast]; kernel_rfl
theorem kp7 (a:Addr) (fs:Array Value) (u:Tok) :
  Meets (Builtin.«object.__getattribute__» ⟨[.ref a,.str "keys" u],[]⟩) (fun A R s=>s.heap.get? a = some { cls:=.type "zip",dict:=none,data:=.fields fs,slots:=#[] } /\ raisesAttr (.ref a) "keys" A R s) :=
 Meets.of_wp fun prog w A R s hs=>by
  obtain ⟨hp,g,d,tk,os⟩:=s
  obtain ⟨hx,hs⟩:=hs
  have hT:(⟨hp,g,d,tk,os⟩ : Shared).TypeIs (.ref a) "zip":=⟨_,hx,rfl⟩
  have f4:=kf7
  repeat (any_goals (first | assumption | wp_step))
  exact wpAny_raiseAttrError hs.1 hs.2 (attrMsg_fits (by decide +kernel) (by size_fits))
theorem ky8 {prog:Program} {w:World} {A:Around} {E:Value -> Shared -> Prop} {s:Shared} {a:Addr} {fs:Array Value} {Q:Option Value -> Shared -> Prop} (hx:s.heap.get? a = some { cls:=.type "zip",dict:=none,data:=.fields fs,slots:=#[] }) (hA:A.handled = none)
  (h:∀ h' tk,(∀ b o,s.heap.get? b = some o -> h'.get? b = some o) -> Q none { s with heap:=h',toks:=tk }):wpAny (model prog w) A (getAttr? (.ref a) "keys") Q E s:=by
 obtain ⟨hp,g,d,tk,os⟩:=s
 have hT:∀ tk',(⟨hp,g,d,tk',os⟩ : Shared).TypeIs (.ref a) "zip":=fun _=>⟨_,hx,rfl⟩
 have f1:=sub_AttributeError
 have f3:=F.slot_zip_getattribute.lookup
 have f4:=F.slot_zip_getattribute.bind (.ref a)
 have f5:=jt1
 unfold getAttr? getAttrBy? getAttrBy
 repeat (any_goals (first | assumption | exact hT _ | ((with_reducible show wpAny _ _ (call (Value.builtin "zip.__getattribute__") _ _) _ _ _); refine call_meets F.slot_zip_getattribute (hT _) ke5 (F.args_zip_getattribute_2 _ _) (kp7 a fs _) ⟨hx,hA,fun h' tk' e hx'=>?_⟩) | wp_step))
 refine x2_1 hx'.there fun t' u' he=>?_
 show wpAny _ _ (getattributeRaised _ _ _ _ _ _ _) _ _ _
 unfold getattributeRaised
 repeat (any_goals (first | assumption | wp_step))
 trace_state
 exact h _ _ hx'.keeps
end Dz
end T_Dz1
section T_Dz2
namespace Dz
open PySem PyProof.Rows
structure ZSt (z TI TO i1 i2 l1 l2:Addr) (xs ys:Array Value) (k:Nat) (h:Heap):Prop where
 ti:IsPair h TI (.ref i1) (.ref i2)
 it1:h.IsListIter i1 l1 k
 it2:h.IsListIter i2 l2 k
 ls1:h.IsList l1 xs
 ls2:h.IsList l2 ys
 zp:(IsZip h z TI TO .none /\ ∃ a b,IsPair h TO a b) \/ ∃ T b oT,jj9 h z TI TO T b /\ h.get? T = some oT
section
variable {prog:Program} {w:World} {A:Around} {E:Value -> Shared -> Prop} {s:Shared} {z TI TO i1 i2 l1 l2:Addr} {xs ys:Array Value} {k:Nat}
theorem qg2 {x y:Value} {Q:Option Value -> Shared -> Prop} (D:ZipApart z TI TO i1 i2 l1 l2) (st:ZSt z TI TO i1 i2 l1 l2 xs ys k s.heap) (hx:xs[k]? = some x) (hy:ys[k]? = some y)
  (hQ:∀ h',ZSt z TI TO i1 i2 l1 l2 xs ys (k + 1) h' -> IsPair h' s.heap.objs.size x y -> h'.objs.size = s.heap.objs.size + 1 ->
   (∀ c o,c ≠ z -> c ≠ TO -> c ≠ i1 -> c ≠ i2 -> s.heap.get? c = some o -> h'.get? c = some o) -> Q (some (.ref s.heap.objs.size)) { s with heap:=h' }) :
  wpAny (model prog w) A (pyNext (.ref z)) Q E s:=by
 obtain ⟨ti,it1,it2,ls1,ls2,zp⟩:=st
 rcases zp with ⟨hz,a,b,hTO⟩ | ⟨T,b,oT,hz,hT⟩
 ·refine wpAny_pyNext_zip_item D hz ti hTO it1 it2 ls1 ls2 hx hy fun h' a1 a2 a3 a4 a5 a6 a7=>hQ h' ⟨a7 _ _ D.TIz D.TITO D.TIi1 D.TIi2 ti,a3,a4,ls1.at fun o e=>a7 _ _ D.l1z D.l1TO D.l1i1 D.l1i2 e,ls2.at fun o e=>a7 _ _ D.l2z D.l2TO D.l2i1 D.l2i2 e,.inr ⟨_,false,_,a1,a5⟩⟩ a5 a6 a7
 ·refine kh4 D hz hT ti it1 it2 ls1 ls2 hx hy fun h' a1 a3 a4 a5 a6 a7=>hQ h' ⟨a7 _ _ D.TIz D.TIi1 D.TIi2 ti,a3,a4,ls1.at fun o e=>a7 _ _ D.l1z D.l1i1 D.l1i2 e,ls2.at fun o e=>a7 _ _ D.l2z D.l2i1 D.l2i2 e,.inr ?_⟩ a5 a6 fun c o c1 _ c3 c4 e=>a7 c o c1 c3 c4 e
  by_cases q1:T = z
  ·exact ⟨T,true,_,a1,by rw [q1]; exact a1⟩
  ·by_cases q2:T = i1
   ·obtain ⟨o,e,_⟩:=a3; exact ⟨T,true,o,a1,by rw [q2]; exact e⟩
   ·by_cases q3:T = i2
    ·obtain ⟨o,e,_⟩:=a4; exact ⟨T,true,o,a1,by rw [q3]; exact e⟩
    ·exact ⟨T,true,oT,a1,a7 _ _ q1 q2 q3 hT⟩
theorem qq0 {Q:Option Value -> Shared -> Prop} (hh:A.handled = none) (D:ZipApart z TI TO i1 i2 l1 l2) (st:ZSt z TI TO i1 i2 l1 l2 xs ys k s.heap) (hend:xs[k]? = none)
  (hQ:∀ h',(∀ c o,c ≠ z -> c ≠ TO -> c ≠ i1 -> c ≠ i2 -> s.heap.get? c = some o -> h'.get? c = some o) -> Q none { s with heap:=h' }) :
  wpAny (model prog w) A (pyNext (.ref z)) Q E s:=by
 obtain ⟨ti,it1,it2,ls1,ls2,zp⟩:=st
 rcases zp with ⟨hz,a,b,hTO⟩ | ⟨T,b,oT,hz,hT⟩
 ·exact wpAny_pyNext_zip_end hh D hz ti hTO it1 it2 ls1 ls2 (.inl hend) hQ
 ·exact kp6 (ys:=ys) (k2:=k) hh D hz hT ti it1 ls1 hend fun h' a=>hQ h' fun c o c1 _ c3 _ e=>a c o c1 c3 e
end
theorem je2:entryFor table "dict.update.loop" = some Builtin.«dict.update.loop»:=entryFor_of_tree (by kernel_rfl)
theorem jb6:plainId "dict.update.loop" = true:=by decide +kernel
section
variable {prog:Program} {w:World} {K:Type} [DecidableEq K] {kd:KeyKind prog w K} {A:Around} {s:Shared} {z TI TO i1 i2 l1 l2 d:Addr} {xs ys:Array Value}
theorem kt3 {h h':Heap} {k:List K} {a:Addr} (q:(tupleKind kd).is h k a) (e:∀ o,h.get? a = some o -> h'.get? a = some o):(tupleKind kd).is h' k a:=by
 refine x3_2 q fun o its n h1 h2=>?_
 clear q
 exact ⟨o,its,n,e o h1,h2⟩
theorem jr1 {h h':Heap} {ps:List (List K × Addr × Value)} (q:h.DictOfH (tupleKind kd) d ps) (e:∀ o,h.get? d = some o -> h'.get? d = some o) (ek:∀ p ∈ ps,∀ o,h.get? p.2.1 = some o -> h'.get? p.2.1 = some o):h'.DictOfH (tupleKind kd) d ps:=by
 refine x3_6 q fun o es ep h1 h2 h3 h4 h5 h6=>?_
 clear q
 exact ⟨o,es,ep,e o h1,h2,h3,h4,fun p hp=>kt3 (h5 p hp) (ek p hp),h6⟩
theorem ZSt.same {k:Nat} {h h':Heap} (st:ZSt z TI TO i1 i2 l1 l2 xs ys k h) (hs:Heap.SameBut d h h') (hd:∃ o,h'.get? d = some o) (n1:z ≠ d) (n2:TI ≠ d) (n3:TO ≠ d) (n4:i1 ≠ d) (n5:i2 ≠ d) (n6:l1 ≠ d) (n7:l2 ≠ d):ZSt z TI TO i1 i2 l1 l2 xs ys k h':=by
 obtain ⟨ti,it1,it2,ls1,ls2,zp⟩:=st
 have kp:∀ b o,b ≠ d -> h.get? b = some o -> h'.get? b = some o:=fun b o nb e=>(hs.2 b nb).trans e
 refine ⟨kp _ _ n2 ti,it1.at fun o e=>kp _ _ n4 e,it2.at fun o e=>kp _ _ n5 e,ls1.at fun o e=>kp _ _ n6 e,ls2.at fun o e=>kp _ _ n7 e,?_⟩
 rcases zp with ⟨hz,a,b,hTO⟩ | ⟨T,b,oT,hz,hT⟩
 ·exact .inl ⟨kp _ _ n1 hz,a,b,kp _ _ n3 hTO⟩
 ·by_cases q:T = d
  ·obtain ⟨o,e⟩:=hd
   exact .inr ⟨T,b,o,kp _ _ n1 hz,by rw [q]; exact e⟩
  ·exact .inr ⟨T,b,oT,kp _ _ n1 hz,kp _ _ q hT⟩
noncomputable def pairUp (kas:List (List K × Addr)) (vs:List Value):List (List K × Addr × Value):=(kas.zip vs).map fun p=>(p.1.1,p.1.2,p.2)
theorem qo4 (hh:A.handled = none) (D:ZipApart z TI TO i1 i2 l1 l2) (room:A.units + 1 < cLine) {h0:Heap} {kas:List (List K × Addr)} {vs:List Value}
  (hx:∀ i:Nat,xs[i]? = (kas[i]?).map fun p=>Value.ref p.2) (hy:∀ i:Nat,ys[i]? = vs[i]?) (hlen:vs.length = kas.length) (hsz:kas.length <= sizeLine) (hk:∀ p ∈ kas,(tupleKind kd).is h0 p.1 p.2) (nd:(kas.map (·.1)).Nodup)
  (ap:∀ b o,h0.get? b = some o -> b ≠ z /\ b ≠ TO /\ b ≠ i1 /\ b ≠ i2 /\ b ≠ d) (n1:z ≠ d) (n2:TI ≠ d) (n3:TO ≠ d) (n4:i1 ≠ d) (n5:i2 ≠ d) (n6:l1 ≠ d) (n7:l2 ≠ d)
  {R:Result -> Shared -> Prop}:∀ (j k:Nat) (s:Shared),kas.length - k = j -> k <= kas.length -> ZSt z TI TO i1 i2 l1 l2 xs ys k s.heap -> (∀ b o,h0.get? b = some o -> s.heap.get? b = some o) ->
   s.heap.DictOfH (tupleKind kd) d ((pairUp kas vs).take k) ->
   (∀ h' tk,(∀ b o,h0.get? b = some o -> h'.get? b = some o) -> h'.DictOfH (tupleKind kd) d (pairUp kas vs) -> R (.ok (.ret .none)) { s with heap:=h',toks:=tk }) ->
   codeAny (model prog w) A (.builtin "dict.update.loop" ⟨[.ref d,.ref z,rawInt k,.none],[]⟩) R s:=by
 have pl:(pairUp kas vs).length = kas.length:=by unfold pairUp; rw [List.length_map,List.length_zip,hlen,Nat.min_self]
 have pk:∀ p ∈ pairUp kas vs,(p.1,p.2.1) ∈ kas:=fun p hp=>by
  unfold pairUp at hp
  refine x1_2 (List.mem_map.mp hp) fun q hq zo2=>?_
  obtain rfl:=zo2
  obtain ⟨⟨q1,q2⟩,q3⟩:=q
  exact (List.of_mem_zip hq).1
 have kin:∀ p ∈ pairUp kas vs,∃ o,h0.get? p.2.1 = some o:=fun p hp=>by
  refine x3_2 (hk _ (pk p hp)) fun o _ _ e _=>?_
  exact ⟨o,e⟩
 intro j
 induction j with
 | zero =>
  intro k s hj hkl st kp dd hR
  have hkn:k = kas.length:=by lia
  refine codeAny_builtin je2 ?_
  rw [Around.under_plainId jb6 _]
  unfold Builtin.«dict.update.loop»
  refine wpAny_bind (qq0 (A:=A.in1) hh D st (by rw [hx,List.getElem?_eq_none (by lia)]; rfl) fun h' hk'=>?_)
  have keep:∀ b o,h0.get? b = some o -> h'.get? b = some o:=fun b o e=>by
   refine x0_5 (ap b o e) fun a1 a2 a3 a4 _=>?_
   exact hk' b o a1 a2 a3 a4 (kp b o e)
  have dd':h'.DictOfH (tupleKind kd) d (pairUp kas vs):=by
   rw [List.take_of_length_le (by lia)] at dd
   refine jr1 dd (fun o e=>hk' d o n1.symm n3.symm n4.symm n5.symm e) fun p hp o e=>?_
   obtain ⟨o',e'⟩:=kin p hp
   have e2:=kp _ _ e'
   rw [e] at e2; cases e2
   exact keep _ _ e'
  exact wpAny_bind (wpAny_pure (wpAny_pure (hR h' s.toks keep dd')))
 | succ j ih =>
  intro k s hj hkl st kp dd hR
  have hkn:k < kas.length:=by lia
  have hka:kas[k]? = some kas[k]:=List.getElem?_eq_getElem hkn
  have hva:vs[k]? = some (vs[k]'(by lia)):=List.getElem?_eq_getElem (by lia)
  refine codeAny_builtin je2 ?_
  rw [Around.under_plainId jb6 _]
  unfold Builtin.«dict.update.loop»
  refine wpAny_bind (qg2 (A:=A.in1) D st (x:=.ref kas[k].2) (y:=vs[k]'(by lia)) (by rw [hx,hka]; rfl) (by rw [hy,hva]) fun h' st' hT hsz' hk'=>?_)
  have keep:∀ b o,h0.get? b = some o -> h'.get? b = some o:=fun b o e=>by
   refine x0_5 (ap b o e) fun a1 a2 a3 a4 _=>?_
   exact hk' b o a1 a2 a3 a4 (kp b o e)
  have dd':h'.DictOfH (tupleKind kd) d ((pairUp kas vs).take k):=by
   refine jr1 dd (fun o e=>hk' d o n1.symm n3.symm n4.symm n5.symm e) fun p hp o e=>?_
   obtain ⟨o',e'⟩:=kin p (List.mem_of_mem_take hp)
   have e2:=kp _ _ e'
   rw [e] at e2; cases e2
   exact keep _ _ e'
  dsimp only
  refine wpAny_bind (wpAny_holding (wpAny_bind (wpAny_tryCatch ?_)))
  unfold Builtin.Dict.pairItems
  refine wpAny_bind (wpAny_typeOf (T:="tuple") ⟨_,hT,rfl⟩ ?_)
  rw [if_pos (by decide)]
  refine wpAny_bind (wpAny_seqItems hT rfl (wpAny_pure ?_))
  show wpAny _ _ (holding [.ref kas[k].2,vs[k]'(by lia)] (dictSet d (.ref kas[k].2) (vs[k]'(by lia)))) _ _ _
  have pn:(pairUp kas vs)[k]? = some (kas[k].1,kas[k].2,vs[k]'(by lia)):=by
   unfold pairUp
   rw [List.getElem?_map,(List.getElem?_zip_eq_some (z:=(kas[k],vs[k]'(by lia)))).mpr ⟨hka,hva⟩]; rfl
  have pnd:((pairUp kas vs).map (·.1)).Nodup:=by
   have:(pairUp kas vs).map (·.1) = kas.map (·.1):=by
    unfold pairUp
    rw [List.map_map]
    have:(kas.zip vs).map (fun p=>p.1) = kas:=List.map_fst_zip (by lia)
    conv=>rhs; rw [<- this]
    rw [List.map_map]; rfl
   rw [this]; exact nd
  have none':atKey ((pairUp kas vs).take k) kas[k].1 = none:=by
   refine atKey_none_of_get fun i p hi=>?_
   have hik:i < k:=by
    have:=(List.getElem?_eq_some_iff.mp hi).1
    simp at this; lia
   rw [List.getElem?_take_of_lt hik] at hi
   have e1:((pairUp kas vs).map (·.1))[i]? = some kas[k].1:=by rw [List.getElem?_map,hi]; rfl
   have e2:((pairUp kas vs).map (·.1))[k]? = some kas[k].1:=by rw [List.getElem?_map,pn]; rfl
   have:=(List.getElem?_inj (by rw [List.length_map,pl]; lia) pnd).mp (e1.trans e2.symm)
   lia
  have iskey:(tupleKind kd).is h' kas[k].1 kas[k].2:=kt3 (hk _ (List.getElem_mem hkn)) fun o e=>keep _ _ e
  refine wpAny_holding (wpAny_dictSet_heap (hsz:=by rw [List.length_take]; lia) (show A.in1.units < cLine from room) iskey dd' fun h2 dd2 hs2=>?_)
  refine wpAny_pure ⟨Code.quiet_builtin _ (by decide +kernel),?_⟩
  rw [storedH_new none'] at dd2
  have tk:(pairUp kas vs).take (k + 1) = (pairUp kas vs).take k ++ [(kas[k].1,kas[k].2,vs[k]'(by lia))]:=by
   rw [List.take_add_one,pn]; rfl
  refine ih (k + 1) _ (by lia) (by lia) (st'.same hs2 (by obtain ⟨o,_,_,e,_⟩:=dd2; exact ⟨o,e⟩) n1 n2 n3 n4 n5 n6 n7) (fun b o e=>(hs2.2 b (ap b o e).2.2.2.2).trans (keep b o e)) (by rw [tk]; exact dd2) hR
end
end Dz
end T_Dz2
section T_Dz3
namespace Dz
open PySem PyProof.Rows
section
variable {prog:Program} {w:World} {K:Type} [DecidableEq K] {kd:KeyKind prog w K} {A:Around} {E:Value -> Shared -> Prop} {s:Shared} {z TI TO i1 i2 l1 l2:Addr} {xs ys:Array Value}
theorem call_dict (hh:A.handled = none) (D:ZipApart z TI TO i1 i2 l1 l2) (room:A.units + 2 < cLine) {h0:Heap} {kas:List (List K × Addr)} {vs:List Value}
  (hx:∀ i:Nat,xs[i]? = (kas[i]?).map fun p=>Value.ref p.2) (hy:∀ i:Nat,ys[i]? = vs[i]?) (hlen:vs.length = kas.length) (hsz:kas.length <= sizeLine) (hk:∀ p ∈ kas,(tupleKind kd).is h0 p.1 p.2) (nd:(kas.map (·.1)).Nodup)
  (ap:∀ b o,h0.get? b = some o -> b ≠ z /\ b ≠ TO /\ b ≠ i1 /\ b ≠ i2) (hz:IsZip s.heap z TI TO .none) (st:ZSt z TI TO i1 i2 l1 l2 xs ys 0 s.heap) (kp:∀ b o,h0.get? b = some o -> s.heap.get? b = some o) {Q:Value -> Shared -> Prop}
  (hQ:∀ h' tk,(∀ b o,h0.get? b = some o -> h'.get? b = some o) -> h'.DictOfH (tupleKind kd) s.heap.objs.size (pairUp kas vs) -> Q (.ref s.heap.objs.size) { s with heap:=h',toks:=tk }) :
  wpAny (model prog w) A (call (.type "dict") [.ref z]) Q E s:=by
 refine callType_codes (Q₁:=fun obj s₁=>obj = .ref s.heap.objs.size /\ s₁ = { s with heap:=s.heap.push { cls:=.type "dict",data:=.dict #[] } }) F.kt_called_dict (F.kt_typeCall_dict_1 _) F.entry_dict_init (kt_code_dict_new _ ⟨rfl,rfl⟩) ?_
 rintro obj s₁ ⟨rfl,rfl⟩
 have hnew:(s.heap.push { cls:=.type "dict",data:=.dict #[] }).DictOfH (tupleKind kd) s.heap.objs.size []:=Heap.DictOfH.new s.heap
 have up:∀ b o,s.heap.get? b = some o -> (s.heap.push { cls:=.type "dict",data:=.dict #[] }).get? b = some o:=fun b o e=>Heap.get?_push_of_some _ e
 have lt:∀ b o,s.heap.get? b = some o -> b ≠ s.heap.objs.size:=fun b o e=>Nat.ne_of_lt (Heap.lt_size e)
 refine ⟨hnew.typeIs,F.args_dict_init_2 _ _,?_⟩
 unfold Builtin.«dict.__init__»
 refine wpAny_bind ?_
 unfold Builtin.Dict.selfAndRest
 refine wpAny_bind (wpAny_notOrdered_dict hnew.typeIs ?_)
 show wpAny _ _ (pure (s.heap.objs.size,[Value.ref z])) _ _ _
 refine wpAny_pure ?_
 show wpAny _ _ (Builtin.Dict.updateFrom "dict.__init__" s.heap.objs.size (.ref z) [] .none) _ _ _
 unfold Builtin.Dict.updateFrom
 refine wpAny_bind (wpAny_typeOf (T:="zip") ⟨_,up _ _ hz,rfl⟩ ?_)
 rw [if_pos (by decide)]
 refine wpAny_bind (ky8 (up _ _ hz) hh fun h1 tk1 kp1=>?_)
 simp only [Option.isNone_none,if_true]
 refine wpAny_bind (wpAny_rule ?_)
 refine wpAny_bind (wpAny_pyIter_zip (kp1 _ _ (up _ _ hz)) ?_)
 obtain ⟨ti,it1,it2,ls1,ls2,zp⟩:=st
 obtain ⟨_,a,b,hTO⟩ | ⟨T,b,oT,hz',_⟩:=zp
 ·refine wpAny_pure ⟨Code.quiet_builtin _ (by decide +kernel),?_⟩
  have n4:i1 ≠ s.heap.objs.size:=by obtain ⟨o,e,_⟩:=it1; exact lt _ _ e
  have n5:i2 ≠ s.heap.objs.size:=by obtain ⟨o,e,_⟩:=it2; exact lt _ _ e
  have n6:l1 ≠ s.heap.objs.size:=by obtain ⟨o,e,_⟩:=ls1; exact lt _ _ e
  have n7:l2 ≠ s.heap.objs.size:=by obtain ⟨o,e,_⟩:=ls2; exact lt _ _ e
  have up1:∀ b o,s.heap.get? b = some o -> h1.get? b = some o:=fun b o e=>kp1 _ _ (up b o e)
  refine qo4 (A:=A.in1) (h0:=h0) hh D (show A.in1.units + 1 < cLine from room) hx hy hlen hsz hk nd (fun b o e=>⟨(ap b o e).1,(ap b o e).2.1,(ap b o e).2.2.1,(ap b o e).2.2.2,lt b o (kp b o e)⟩) (lt _ _ hz) (lt _ _ ti) (lt _ _ hTO) n4 n5 n6 n7 kas.length 0 ⟨h1,s.gens,s.drawn,tk1,s.os⟩ (by lia) (by lia)
   ⟨up1 _ _ ti,it1.at fun o e=>up1 _ _ e,it2.at fun o e=>up1 _ _ e,ls1.at fun o e=>up1 _ _ e,ls2.at fun o e=>up1 _ _ e,.inl ⟨up1 _ _ hz,a,b,up1 _ _ hTO⟩⟩ (fun b o e=>up1 b o (kp b o e)) ?_ fun h' tk k' dd'=>⟨rfl,hQ h' tk k' dd'⟩
  rw [List.take_zero]
  exact jr1 hnew (fun o e=>kp1 _ _ e) fun p hp=>by cases hp
 ·exfalso
  have e:=hz.symm.trans hz'
  simp [rawInt] at e
end
end Dz
end T_Dz3
section T_Dw0
namespace Dm
open PySem PySem.Spec PyProof.Rows L2
noncomputable abbrev DP:=(Int × Int) × Addr × Int × Tok
noncomputable def dxs (ps:List DP):List (List Int × Addr × Value):=ps.map fun p=>([p.1.1,p.1.2],p.2.1,.int p.2.2.1 p.2.2.2)
noncomputable def DX (a:Addr) (ps:List DP) (h:Heap):Prop:=∃ o es ep,h.get? a = some o /\ o.ExactDict /\ o.data = .dict es ep /\ (∀ (P:Program) (w:World),es.toList = (dxs ps).map (entryOfKey (tupleKind (intKind P w)))) /\ ((dxs ps).map (·.1)).Nodup
noncomputable def dvs (ps:List DP):List V:=ps.flatMap fun p=>[.int p.1.1,.int p.1.2,.int p.2.2.1]
noncomputable def DAtD (K:PySem.W.Frag) (H:Hp) (a:Addr) (vs:List V):Prop:=∃ ps,vs = dvs ps /\ H a = some (.ext (DX a ps)) /\ ∀ p ∈ ps,SqT K H p.2.1 [.int p.1.1,.int p.1.2]
theorem DAtD.mono {K:PySem.W.Frag} {H H':Hp} {a:Addr} {vs:List V} (e:Same H H') (h:DAtD K H a vs):DAtD K H' a vs:=by
 refine x1_3 h fun ps h1 h2 h3=>?_
 clear h
 exact ⟨ps,h1,e _ _ h2,fun p hp=>Same.tup e (h3 p hp)⟩
theorem DX.of {P:Program} {w:World} {a:Addr} {ps:List DP} {h:Heap} (q:h.DictOfH (tupleKind (intKind P w)) a (dxs ps)):DX a ps h:=by
 refine x3_6 q fun o es ep h1 h2 h3 h4 _ h6=>?_
 clear q
 exact ⟨o,es,ep,h1,h2,h3,fun P' w'=>h4,h6⟩
theorem DX.dict {P:Program} {w:World} {a:Addr} {ps:List DP} {h:Heap} (q:DX a ps h) (k:∀ p ∈ ps,(tupleKind (intKind P w)).is h [p.1.1,p.1.2] p.2.1):h.DictOfH (tupleKind (intKind P w)) a (dxs ps):=by
 refine x3_5 q fun o es ep h1 h2 h3 h4 h6=>?_
 clear q
 refine ⟨o,es,ep,h1,h2,h3,h4 P w,fun x hx=>?_,h6⟩
 refine x1_2 (List.mem_map.mp hx) fun p hp zo2=>?_
 obtain rfl:=zo2
 exact k p hp
theorem DX.keep {a:Addr} {ps:List DP} {h h':Heap} (q:DX a ps h) (e:∀ o,h.get? a = some o -> h'.get? a = some o):DX a ps h':=by
 refine x3_2 q fun o es ep h1 h2=>?_
 clear q
 exact ⟨o,es,ep,e o h1,h2⟩
section
variable {X:Cx} {pins:List (Addr × Obj)} {σ:L2.St} {H:Hp} {s:Shared} {a:Addr}
theorem jy3 (I:L2.Inv X pins σ H s) {r c:Int} (h:SqT X.K H a [.int r,.int c]):(tupleKind (intKind X.prog X.w)).is s.heap [r,c] a:=by
 refine x1_3 (I.tuple h) fun its rv zo2 _=>?_
 obtain ⟨o,e,hc,n,hd⟩:=zo2
 refine ⟨o,its.toArray,n,e,hc,hd,?_⟩
 cases rv with
 | cons r1 t1 =>
  cases t1 with
  | cons r2 t2 =>
   cases t2
   obtain ⟨t,rfl⟩:=r1
   obtain ⟨u,rfl⟩:=r2
   exact .cons (by simp [intKind,Value.isInt]) (.cons (by simp [intKind,Value.isInt]) .nil)
theorem kr2:bootBuiltins "dict" = some (.type "dict"):=by decide +kernel
theorem qh5:bootBuiltins "zip" = some (.type "zip"):=by decide +kernel
end
noncomputable def tDZ (K:PySem.W.Frag) (ta:TA):TE:=fun σ H Q=>ta σ H fun vs H1=>∃ (p q:Addr) (l:List ((Int × Int) × Addr × Int)),vs = [.ref p,.ref q] /\ SqL K H1 p (l.map fun z=>.ref z.2.1) /\ SqL K H1 q (l.map fun z=>.int z.2.2) /\
 (∀ z ∈ l,SqT K H1 z.2.1 [.int z.1.1,.int z.1.2]) /\ (l.map (·.1)).Nodup /\ ∀ (d:Addr) (ps:List DP),H1 d = none -> ps.map (fun p=>(p.1,p.2.1,p.2.2.1)) = l -> Q (.ref d) (upd H1 d (.ext (DX d ps)))
theorem km2:∀ {ns:List Int} {us:List Value},Vals (ns.map V.int) us -> ∃ ts:List Tok,ts.length = ns.length /\ us = (ns.zip ts).map fun p=>Value.int p.1 p.2
 | [],_,r=>by rw [List.map_nil] at r; cases r; exact ⟨[],rfl,rfl⟩
 | n :: ns,_,r=>by
  rw [List.map_cons] at r
  cases r with
  | cons h t =>
   obtain ⟨t1,rfl⟩:=h
   refine x1_2 (km2 t) fun ts hl zo2=>?_
   obtain rfl:=zo2
   exact ⟨t1 :: ts,by simp [hl],rfl⟩
theorem ki2:∀ {l:List Addr} {us:List Value},Vals (l.map V.ref) us -> us = l.map Value.ref
 | [],_,r=>by rw [List.map_nil] at r; cases r; rfl
 | n :: ns,_,r=>by
  rw [List.map_cons] at r
  cases r with
  | cons h t=>cases h; rw [ki2 t]; rfl
section
variable {X:Cx} {a b:Expr} {ta:TA} {p1 p2 pos pos2:Pos}
theorem kp5 (hc:X.calm = true) (hu:X.A.units + 2 < cLine) (hgd:Gl X "dict") (hgz:Gl X "zip") (hmd:X.mg "dict" = none) (hmz:X.mg "zip" = none) (ha:PA X [a,b] ta)
  (hs:starEach [a,b] X.env = (false,eval a X.env) :: starEach [b] X.env:=by rfl) (hpl:(backTo pos2 (starEach [b] X.env)).any (·.1) = false:=by rfl)
  (hs1:starEach [Expr.Call (.Name "zip" p2) [a,b] [] pos2] X.env = [(false,eval (.Call (.Name "zip" p2) [a,b] [] pos2) X.env)]:=by rfl) :
  PE X (.Call (.Name "dict" p1) [.Call (.Name "zip" p2) [a,b] [] pos2] [] pos) (tDZ X.K ta):=by
 intro pins s σ H Q I h
 refine wpAny_Call_Name_kw (ju1 I hgd hmd kr2 ?_)
 refine PyProof.Rows.callWith_type1 ?_ hs1 rfl
 rw [hs1]
 show wpAny _ _ (spliced ((false,eval (.Call (.Name "zip" p2) [a,b] [] pos2) X.env) :: [])) _ _ s
 refine Calls.spliced_cons ?_
 refine wpAny_Call_Name_kw (ju1 I hgz hmz qh5 ?_)
 refine PyProof.Rows.callWith_type1 (thn (ha pos2 pins s σ H _ I h) fun us s1 zz1=>?_) hs hpl
 refine x2_3 zz1 fun vs H1 I1 r1 q1=>?_
 clear zz1
 refine x3_6 q1 fun p q l zo3 hp hq ht nd fin=>?_
 clear q1
 obtain rfl:=zo3
 cases r1 with
 | cons rp t1 =>
  cases t1 with
  | cons rq t2 =>
   cases t2
   cases rp
   cases rq
   refine x1_3 (I1.list hp) fun its1 rv1 pl1 hz1=>?_
   refine x1_3 (I1.list hq) fun its2 rv2 pl2 hz2=>?_
   rw [show (l.map fun z=>V.ref z.2.1) = (l.map fun z=>z.2.1).map V.ref by rw [List.map_map]; rfl] at rv1
   rw [show (l.map fun z=>V.int z.2.2) = (l.map fun z=>z.2.2).map V.int by rw [List.map_map]; rfl] at rv2
   have e1:=ki2 rv1
   refine x1_2 (km2 rv2) fun ts hts e2=>?_
   subst e1 e2
   have lt1:p < s1.heap.objs.size:=by obtain ⟨o,e,_⟩:=pl1.isList; exact Heap.lt_size e
   have lt2:q < s1.heap.objs.size:=by obtain ⟨o,e,_⟩:=pl2.isList; exact Heap.lt_size e
   refine call_zip_2 pl1.isList pl2.isList fun h' hz hTI hTO it1 it2 hsz hk=>?_
   refine Calls.spliced_nil ?_
   have lt:∀ b o,s1.heap.get? b = some o -> b < s1.heap.objs.size:=fun b o e=>Heap.lt_size e
   let ps:List DP:=(l.zip ts).map fun z=>(z.1.1,z.1.2.1,z.1.2.2,z.2)
   have pl':ps.map (fun p=>(p.1,p.2.1,p.2.2.1)) = l:=by
    show ((l.zip ts).map _).map _ = l
    rw [List.map_map]
    have:(l.zip ts).map (fun p=>p.1) = l:=List.map_fst_zip (by rw [hts,List.length_map]; exact Nat.le_refl _)
    conv=>rhs; rw [<- this]
    rfl
   have hdx:Dz.pairUp (l.map fun z=>([z.1.1,z.1.2],z.2.1)) (((l.map fun z=>z.2.2).zip ts).map fun p=>Value.int p.1 p.2) = dxs ps:=by
    unfold Dz.pairUp dxs
    show _ = ((l.zip ts).map _).map _
    rw [List.zip_map,List.map_map,List.map_map]
    have key:∀ (l:List ((Int × Int) × Addr × Int)) (ts:List Tok),(l.zip ((l.map fun z=>z.2.2).zip ts)).map ((fun p=>(p.1.1,p.1.2,p.2)) ∘ Prod.map (fun z=>([z.1.1,z.1.2],z.2.1)) fun p=>Value.int p.1 p.2) = (l.zip ts).map ((fun p=>([p.1.1,p.1.2],p.2.1,Value.int p.2.2.1 p.2.2.2)) ∘ fun z=>(z.1.1,z.1.2.1,z.1.2.2,z.2)):=by
     intro l
     induction l with
     | nil=>intro ts; rfl
     | cons z l ih =>
      intro ts
      cases ts with
      | nil=>rfl
      | cons t ts=>simp only [List.map_cons,List.zip_cons_cons]; rw [ih ts]; rfl
    exact key l ts
   refine Dz.call_dict (kd:=intKind X.prog X.w) (h0:=s1.heap) (kas:=l.map fun z=>([z.1.1,z.1.2],z.2.1)) (vs:=((l.map fun z=>z.2.2).zip ts).map fun p=>Value.int p.1 p.2) (I1.ok.hd hc) (zipApart_new lt1 lt2) hu (fun i=>?_) (fun i=>?_) ?_ ?_ (fun k hk'=>?_) ?_ (fun b o e=>?_) hz ⟨hTI,it1,it2,pl1.isList.at fun o e=>hk _ _ e,pl2.isList.at fun o e=>hk _ _ e,.inl ⟨hz,_,_,hTO⟩⟩ hk fun h2 tk k2 dd=>?_
   ·rw [List.getElem?_toArray,List.getElem?_map,List.getElem?_map,List.getElem?_map]; cases l[i]? <;> rfl
   ·rw [List.getElem?_toArray]
   ·simp [hts]
   ·rw [List.length_map]; simpa using hz1
   ·refine x1_2 (List.mem_map.mp hk') fun z hz' zo2=>?_
    obtain rfl:=zo2
    exact jy3 I1 (ht z hz')
   ·rw [List.map_map]
    have:(l.map fun z=>[z.1.1,z.1.2]) = (l.map (·.1)).map fun z=>[z.1,z.2]:=by rw [List.map_map]; rfl
    show (l.map fun z=>[z.1.1,z.1.2]).Nodup
    rw [this]
    rw [List.nodup_iff_pairwise_ne] at nd ⊢
    refine List.Pairwise.map _ (fun a b hab e=>hab ?_) nd
    injection e with e1 e2
    injection e2 with e2 _
    exact Prod.ext e1 e2
   ·have:=lt b o e
    exact ⟨Nat.ne_of_lt (Nat.lt_of_lt_of_le this (Nat.le_add_right _ 4)),Nat.ne_of_lt (Nat.lt_of_lt_of_le this (Nat.le_add_right _ 3)),Nat.ne_of_lt this,Nat.ne_of_lt (Nat.lt_of_lt_of_le this (Nat.le_add_right _ 1))⟩
   ·rw [hdx] at dd
    have dx:=DX.of dd
    refine ⟨.ref h'.objs.size,_,I1.laid (a:=h'.objs.size) (o:=.ext (DX h'.objs.size ps)) (h':=h2) (t':=tk) (fun b o e=>k2 b o e) (by rw [hsz]; lia) ⟨dx,?_,fun h1 h3 q k3=>q.keep k3⟩,rfl,fin _ ps (I1.hok.fresh (by rw [hsz]; lia)) pl'⟩
    refine x3_2 dx fun o _ _ e _=>?_
    clear dx
    exact ⟨o,e⟩
end
end Dm
end T_Dw0
section T_Bd
namespace Dm
open PySem PySem.Spec PyProof.Rows L2 PySem.W
noncomputable def cfgB (Cb:Addr):Cfg where
 ob:=fun t K H a vs=>((t = 0 /\ ∃ dx fs l,H a = some (.ins Cb dx fs) /\ fs.lookup ("cells" : Str) = some (.ref l) /\ H l = some (.lst vs)) \/ (vs = [] /\ ∃ c,t = xTag c /\ H a = some (.ext (ve6 a (.ref c))))) \/ (t = 1 /\ DAtD K H a vs)
 mono:=fun {t K H H' a vs} e h=>by
  rcases h with (⟨h0,dx,fs,l,h1,h2,h3⟩ | ⟨h0,c,h1,h2⟩) | ⟨h0,h1⟩
  ·exact .inl (.inl ⟨h0,dx,fs,l,e _ _ h1,h2,e _ _ h3⟩)
  ·exact .inl (.inr ⟨h0,c,h1,e _ _ h2⟩)
  ·exact .inr ⟨h0,h1.mono e⟩
section
variable {X:Cx} {Cb:Addr} {G0:Hp} {Γ:List SK} {E:L2.St -> XK} {κr:Bool} {e a b c:Expr} {f fa fb fc:DF} {κ κ' κa κb κc:Kd} {es rest:List Expr} {fs:DA} {pos:Pos} {s:Stmt} {ss:List Stmt} {F G:DS}
noncomputable def U3:D -> R D:=fun a=>match a with | .brd 0 ds=>if noLs ds = true then .ok (.lst ds) else .bad | _=>.bad
theorem ku3 {a d:D} (h:U3 a = .ok d):∃ ds,a = .brd 0 ds /\ noLs ds = true /\ d = .lst ds:=by
 unfold U3 at h
 split at h
 ·split at h
  ·rename_i n; cases h; exact ⟨_,rfl,n,rfl⟩
  ·cases h
 ·cases h
theorem kt5 {a:D} {c:Addr} {p:Option Int}:U3 a ≠ .ex c p:=by
 unfold U3
 split
 ·split <;> exact fun h=>(by cases h)
 ·exact fun h=>(by cases h)
theorem ku0 {K:Frag} {H:Hp} {ds:List D} {x:V} (n:noLs ds = true) (q:Rep K (cfgB Cb) H (.brd 0 ds) x):∃ a dx fs l,x = .ref a /\ H a = some (.ins Cb dx fs) /\ fs.lookup ("cells" : Str) = some (.ref l) /\ Rep K (cfgB Cb) H (.lst ds) (.ref l):=by
 rw [Rep] at q
 refine x2_3 q fun a xs zo2 h2 h3=>?_
 clear q
 obtain rfl:=zo2
 rcases h2 with (⟨_,dx,fs,l,h4,h5,h6⟩ | ⟨_,c,z,_⟩) | ⟨z,_⟩
 ·refine ⟨a,dx,fs,l,rfl,h4,h5,?_⟩
  rw [Rep]
  exact ⟨l,xs,rfl,.of h6,h3.part (.er fun b m=>by rw [List.mem_singleton.mp m]; exact ⟨xs,h6⟩) _ n⟩
 ·unfold xTag at z; lia
 ·cases z
theorem qb9 (hC:Cls X.K Cb) (hA:NoAttr X.K Cb "cells") (ha:PE X a (tD X.K (cfgB Cb) G0 Γ E fa κa)) (hb:attributeBase a ("cells" : Str) X.env (eval a X.env) = eval a X.env:=by rfl):PE X (.Attribute a "cells" pos) (tD X.K (cfgB Cb) G0 Γ E (dUn U3 fa) κa.item):=(qw6 ha hb).imp fun σ H Q zz=>by
 refine x2_2 zz fun A st r q=>?_
 clear zz
 refine ⟨A,st,r,?_⟩
 unfold dUn R.bind at q
 cases ha:fa st with
 | bad=>rw [ha] at q; exact q
 | ex c p=>rw [ha] at q; exact q
 | ok a =>
  rw [ha] at q
  dsimp only at q
  intro x H1 e1 w1
  cases hg:U3 a with
  | bad=>rw [hg] at q; exact q.elim
  | ex c p=>exact absurd hg kt5
  | ok d =>
   rw [hg] at q
   refine x1_3 (ku3 hg) fun ds zo1 n zo3=>?_
   obtain rfl:=zo1
   obtain rfl:=zo3
   have fin:∀ G:Hp,Same G H1 -> Rep X.K (cfgB Cb) G (.brd 0 ds) x -> (∀ v,Rep X.K (cfgB Cb) G (.lst ds) v -> Val X.K (cfgB Cb) κa.item G0 A H H1 (.lst ds) v) -> ∃ a C dx fs v,x = .ref a /\ H1 a = some (.ins C dx fs) /\ Cls X.K C /\ NoAttr X.K C "cells" /\ fs.lookup ("cells" : Str) = some v /\ Q v H1:=fun G e qa k=>by
    refine x4_4 (ku0 n qa) fun a dx fs l zo4 h1 h2 h3=>?_
    obtain rfl:=zo4
    exact ⟨a,Cb,dx,fs,.ref l,rfl,e _ _ h1,hC,hA,h2,q _ _ e1 (k _ h3)⟩
   cases κa with
   | new=>exact fin _ (q9 _ _) (w1.le r e1 (κ':=.old) rfl) fun v z=>z
   | nwo=>exact fin _ (q9 _ _) (w1.le r e1 (κ':=.old) rfl) fun v z=>z
   | loc=>exact fin _ (q9 _ _) (w1.le r e1 (κ':=.old) rfl) fun v z=>z
   | old=>exact fin _ (q9 _ _) w1 fun v z=>z
   | tmn=>exact fin _ (.refl _) w1.rep fun v z=>z
   | tmp=>exact fin _ (.refl _) w1 fun v z=>z
noncomputable def km4 (K:Frag) (Cb:Addr) (Fc:List D -> R D):Sp:=fun vs H Q E=>∃ x dx ds v,vs = [.ref x,v] /\ H x = some (.ins Cb dx []) /\ Rep K (cfgB Cb) H (.lst ds) v /\ match Fc [.lst ds] with
 | .ok _=>noLs ds = true /\ ∀ l H' ys,H l = none -> (∀ b o,b ≠ x -> H b = some o -> H' b = some o) -> H' x = some (.ins Cb dx [("cells",.ref l)]) -> H' l = some (.lst ys) -> Reps K (cfgB Cb) H' ds ys -> Q .non H'
 | .ex c p=>∀ H',Same H H' -> exP E c p H'
 | .bad=>False
theorem qm1 {P:Program} {w:World} {K:Frag} {mg:Str -> Option Value} {base:Heap} {x qual:Str} {st:Stmt} {f:Addr} {fd:FuncData} {k:Nat} {Fc:List D -> R D} (F:Fun K x qual st f fd) (S:FnScope ["self","cells"] ["self","cells"] (j4 st)) (hC:Cls K Cb) (hA:NoAttr K Cb "cells")
  (hbody:∀ (cdv:Value) (A:Around) (outer:List Env) (s:Shared) (H:Hp) (E:XK),Room k (A.deeper (envOfC qual (j4 st) s.heap.objs.size f cdv)) ->
   PSs ((cxOf (CXr P w) P w K mg base ["self","cells"] qual (j4 st) f cdv A outer s H E).wish (Fly (cxOf (CXr P w) P w K mg base ["self","cells"] qual (j4 st) f cdv A outer s H E) fun _=>E)) (v5 st)
    (tSeq (qy1 (tD K (cfgB Cb) H [.par,.par] (fun _=>E) (dFn Fc (j2 (dVar 1) aNil)) κ)) (sFld K (tVar 0) (tD K (cfgB Cb) H [.par,.par] (fun _=>E) (dFn jo3 (j2 (dVar 1) aNil)) .new) "cells"))) :
  FnOk P w K mg base (CXr P w) (k + 1) f fd ["self","cells"] (km4 K Cb Fc):=by
 refine ke1 F S (fun vs H Q E zz1=>by obtain ⟨x,dx,ds,v,h,_⟩:=zz1; rw [h]; rfl) fun cdv A outer s H vs Q E hr zz2=>?_
 refine x4_4 zz2 fun x dx ds v hvs hx hd q=>?_
 clear zz2
 subst hvs
 have r0:RS K (cfgB Cb) H [.par,.par] [some (.ref x),some v] H [] [none,some (.lst ds)]:=⟨by rw [jq8]; exact .refl _,fun a m=>(by cases m),rfl,fun i d h=>(by
  match i,h with
  | 1,h =>
   cases h
   exact ⟨.par,v,rfl,rfl,by show Rep _ _ (er H []) _ _; rw [jq8]; exact hd⟩),fun i j n m p ds es hij g1=>(by
  match i,g1 with
  | 0,g1=>cases g1
  | 1,g1=>cases g1)⟩
 refine ⟨_,hbody cdv A outer s H E hr,[],[none,some (.lst ds)],r0,?_⟩
 have hf:dFn Fc (j2 (dVar 1) aNil) [none,some (.lst ds)] = Fc [.lst ds]:=rfl
 rw [hf]
 cases hF:Fc [.lst ds] with
 | bad=>rw [hF] at q; exact q
 | ex c p=>rw [hF] at q; exact q
 | ok d0 =>
  rw [hF] at q
  obtain ⟨n,q⟩:=q
  intro v1 H1 e1 w1
  refine ⟨[],[none,some (.lst ds)],r0.mono e1,?_⟩
  have hg:dFn jo3 (j2 (dVar 1) aNil) [none,some (.lst ds)] = .ok (.lst ds):=by
   show jo3 [.lst ds] = _
   unfold jo3
   dsimp only
   rw [if_pos n]
  rw [hg]
  intro y H2 e2 w2
  refine x2_4 (w2.2 ds rfl) fun l ys zo2 nl hl rl=>?_
  obtain rfl:=zo2
  have hl2:H2 l = some (.lst ys):=Z6 _ _ _ _ hl
  have e12:=e1.trans e2
  have hx2:H2 x = some (.ins Cb dx []):=e12 _ _ hx
  have nlx:l ≠ x:=fun z=>by rw [z,e1 _ _ hx] at nl; cases nl
  refine ⟨.ref x,rfl,x,Cb,dx,[],rfl,hx2,hC,hA,by show 0 < 1000; decide,?_⟩
  have keep:Same (er H2 [x]) (upd H2 x (.ins Cb dx (putF "cells" (.ref l) []))):=fun b o z=>by
   by_cases hb:b = x
   ·rw [hb,jb8 (.head _)] at z; cases z
   ·rw [y3 hb]
    rw [w8 (by simpa using hb)] at z; exact z
  refine q l _ ys (e1.free nl) (fun b o hb z=>by rw [y3 hb]; exact e12 _ _ z) Q7 (by rw [y3 nlx]; exact hl2) ?_
  have rl2:Reps K (cfgB Cb) H2 ds ys:=rl.same ((q9 _ _).trans (Z6 _ _)) _
  refine Reps.same keep _ (rl2.part ⟨q9 _ _,fun b xs z=>?_⟩ _ n)
  unfold Rd
  have:b ≠ x:=fun w=>by
   subst w
   rcases z with z | ⟨o,z⟩
   ·rw [hx2] at z; cases z
   ·rw [hx2] at z; cases z
  rw [w8 (by simpa using this)]; exact z
noncomputable def jr3 (Fc:List D -> R D):List D -> R D:=fun ds=>match ds with
 | [.lst es]=>(match Fc [.lst es] with | .ok _=>if noLs es = true then .ok (.brd 0 es) else .bad | .ex c p=>.ex c p | .bad=>.bad)
 | _=>.bad
theorem qc5 {X:Cx} {x:Str} {k:Nat} {fi:Addr} {fd:FuncData} {Fc:List D -> R D} {p:Pos} (M:Mk X.K Cb fi) (Fn:FnOk X.prog X.w X.K X.mg X.base (CXr X.prog X.w) k fi fd ["self","cells"] (km4 X.K Cb Fc)) (hr:Room (k + 1) X.A) (hm:X.mg x = some (.ref Cb)) (hb:Binds X.K fd ["self","cells"] [])
  (ha:PA (X.wish (Fly X E)) [e] (tDA X.K (cfgB Cb) G0 Γ E fs κ)) (hg:Gl X x:=by rfl) (hdb:(x == ("__debug__" : Str)) = false:=by decide) (he:starEach [e] X.env = [(false,eval e X.env)]:=by rfl) :
  PE (X.wish (Fly X E)) (.Call (.Name x p) [e] [] pos) (tD X.K (cfgB Cb) G0 Γ E (dFn (jr3 Fc) fs) .new):=(qf5 M Fn hr hg hm hb ha hdb he).imp fun σ H Q zz=>by
 refine x2_2 zz fun A st r q=>?_
 clear zz
 refine ⟨A,st,r,?_⟩
 unfold dFn R.bind at q
 cases hf:fs st with
 | bad=>rw [hf] at q; exact q
 | ex c p=>rw [hf] at q; exact q
 | ok ds =>
  rw [hf] at q
  dsimp only at q
  intro vs H1 e1 w1 y dx hy hdx hne
  have s0:Same H1 (upd (upd H1 dx (.own y)) y (.ins Cb dx [])):=fun b o z=>by
   rw [y3 (J5 z hy),y3 (J5 z hdx)]; exact z
  match ds,q,w1 with
  | [.lst es],q,w1 =>
   refine x1_2 (jk7 w1) fun v zo1 wv=>?_
   obtain rfl:=zo1
   refine ⟨y,dx,es,v,rfl,Q7,(wv.same Kd.hp_all _).same s0 _,?_⟩
   unfold jr3 at q
   dsimp only at q
   cases hF:Fc [.lst es] with
   | bad=>rw [hF] at q; exact q
   | ex c p=>rw [hF] at q; exact fun H' e'=>q H' ((e1.trans s0).trans e')
   | ok d0 =>
    rw [hF] at q
    dsimp only at q
    by_cases n:noLs es = true
    ·rw [if_pos n] at q
     refine ⟨n,fun l H' ys nl kp hx' hl' rp=>⟨rfl,?_⟩⟩
     have e':Same H1 H':=fun b o z=>kp b o (J5 z hy) (s0 b o z)
     have eH:=e1.trans e'
     have hy0:H y = none:=e1.free hy
     have hl0:H l = none:=e1.free (s0.free nl)
     refine q _ _ eH ⟨?_,fun ds' z=>by cases z⟩
     rw [Rep]
     refine ⟨y,ys,rfl,.inl (.inl ⟨rfl,dx,_,l,by rw [jm5 hy0]; exact hx',rfl,by rw [jm5 hl0]; exact hl'⟩),rp.part (.nw eH) _ n⟩
    ·rw [if_neg n] at q; exact q.elim
  | [],q,_=>exact q.elim
  | [.non],q,_=>exact q.elim
  | [.bl _],q,_=>exact q.elim
  | [.int _],q,_=>exact q.elim
  | [.str _],q,_=>exact q.elim
  | [.tup _],q,_=>exact q.elim
  | [.brd _ _],q,_=>exact q.elim
  | d1 :: d2 :: dr,q,_ =>
   have:jr3 Fc (d1 :: d2 :: dr) = .bad:=by unfold jr3; cases d1 <;> rfl
   rw [this] at q; exact q.elim
end
end Dm
end T_Bd
section T_Bt
namespace Dm
open PySem PySem.Spec PyProof.Rows L2 PySem.W
section
variable {X:Cx} {C:Cfg} {Cb:Addr} {G0:Hp} {Γ:List SK} {E:L2.St -> XK} {κr:Bool} {e a b c:Expr} {f fa fb fc:DF} {κ κ' κa κb κc:Kd} {es rest:List Expr} {fs:DA} {pos:Pos} {s:Stmt} {ss:List Stmt} {F G:DS}
theorem ju3 {P:L2.St -> Prop} {n:Nat}:∀ (es:List Expr) (out:Str) (m:Nat),(∀ e ∈ es,PStr X P n e) -> out.length + es.length * n <= m -> m <= 100000 -> ∀ (pins:List (Addr × Obj)) (s:Shared) (σ:L2.St) (H:Hp) (Q:Value -> Shared -> Prop) (Ex:Value -> Shared -> Prop),L2.Inv X pins σ H s -> P σ -> (∀ x t s',L2.Inv X pins σ H s' -> x.length <= m -> Q (.str x t) s') -> wpAny (model X.prog X.w) X.A (joinParts out (evalEach es X.env)) Q Ex s
 | [],out,m,_,hl,hm,pins,s,σ,H,Q,Ex,I,p,q=>joinParts_nil (q _ _ _ (I.tok _) (by simp at hl; lia)) (by rw [sizeLine_eq]; simp at hl; lia)
 | e :: es,out,m,h,hl,hm,pins,s,σ,H,Q,Ex,I,p,q=>by
  show wpAny _ _ (joinParts out (eval e X.env :: evalEach es X.env)) Q Ex s
  refine joinParts_cons (h e (.head _) pins s σ H _ Ex I p fun x t s' I' hx=>?_)
  have hlen:(out ++ x).length = out.length + x.length:=strLen_append out x
  rw [List.length_cons,Nat.add_mul,Nat.one_mul] at hl
  refine ⟨by rw [hlen,sizeLine_eq]; lia,?_⟩
  exact ju3 es (out ++ x) m (fun e' m'=>h e' (.tail _ m')) (by rw [hlen]; lia) hm pins s' σ H Q Ex I' p q
theorem jy7 {P:L2.St -> Prop} {n:Nat} {v1 v2:Expr} {rest:List Expr} (h:∀ e ∈ v1 :: v2 :: rest,PStr X P n e) (hm:(v1 :: v2 :: rest).length * n <= 100000):PStr X P ((v1 :: v2 :: rest).length * n) (.JoinedStr (v1 :: v2 :: rest) pos):=fun pins s σ H Q Ex I p q =>
 JoinedStr_many (ju3 (v1 :: v2 :: rest) Str.empty _ h (by show 0 + _ <= _; lia) hm pins s σ H Q Ex I p q)
theorem kg8 {P:L2.St -> Prop} {n:Nat}:∀ e ∈ ([]:List Expr),PStr X P n e:=fun e h=>by cases h
theorem all_cons {P:L2.St -> Prop} {n:Nat} {e:Expr} {es:List Expr} (h:PStr X P n e) (t:∀ e ∈ es,PStr X P n e):∀ e' ∈ e :: es,PStr X P n e':=fun e' m=>by
 rcases List.mem_cons.mp m with rfl | m
 ·exact h
 ·exact t e' m
noncomputable def W9 (c:Addr):DS:=fun st=>.ex c none st
theorem jb7 {x:Str} {K0:Addr} {B newId initId:String} {bm:List Value} {np cpos:Pos} {e₀:Expr} {X:Cx} {n:Nat} (FB:ExcBaseFacts B newId initId bm) (hh:X.A.handled = none) (hm:X.mg x = some (.ref K0)) (hc:exB X.K K0 bm newId = true) (ha:PStr (X.wish (Fly X E)) (fun _=>True) n e₀) (hg:Gl X x:=by rfl)
  (he:starEach [e₀] X.env = [(false,eval e₀ X.env)]:=by rfl) (hd:(x == ("__debug__" : Str)) = false:=by decide) :
  PS (X.wish (Fly X E)) (.Raise (some (.Call (.Name x np) [e₀] [] cpos)) none pos) (tDS X.K C G0 Γ E κr (W9 K0)):=by
 have P1:PE (X.wish (Fly X E)) e₀ (fun σ H Q=>∀ x:Str,Q (.str x) H):=fun pins s σ H Q I q=>ha pins s σ H _ _ I trivial fun x t s' I' _=>⟨.str x,H,I',⟨t,rfl⟩,q x⟩
 refine (qf4 FB hh hm hc hg (jf3 P1 jl8 he) he rfl hd).imp fun D σ H zz1=>?_
 refine x2_2 zz1 fun A st r q=>?_
 clear zz1
 intro x
 exact ⟨jz3 (by show 1 <= 100; decide),q σ H A r (.refl _)⟩
end
end Dm
end T_Bt
section T_Gx
namespace Dm
open PySem PySem.Spec PyProof.Rows L2 PySem.W
theorem j0 {X:Cx} {C:Cfg} {G0:Hp} {Γ:List SK} {E:L2.St -> XK} {e:Expr} (i:Nat) (h:PE X e (tVar i)) (hk:Γ[i]? = some .par:=by rfl):PE X e (tD X.K C G0 Γ E (dVar i) .old):=kv2 i h hk
theorem kg1 {X:Cx} {C:Cfg} {G0:Hp} {Γ:List SK} {E:L2.St -> XK} {e:Expr} (i:Nat) (h:PE X e (tVar i)) (hk:Γ[i]? = some .loc:=by rfl):PE X e (tD X.K C G0 Γ E (dVar i) .loc):=kv2 i h hk
theorem jc5 {X:Cx} {C:Cfg} {G0:Hp} {Γ:List SK} {E:L2.St -> XK} {e:Expr} (i:Nat) (h:PE X e (tVar i)) (hk:Γ[i]? = some (.own true):=by rfl):PE X e (tD X.K C G0 Γ E (dVar i) .tmn):=kv2 i h hk
theorem w6 {X:Cx} {C:Cfg} {G0:Hp} {Γ:List SK} {E:L2.St -> XK} {a b:Expr} {fa fb:DF} {κa κb:Kd} {pos:Pos} (ha:PE X a (tD X.K C G0 Γ E fa κa)) (hb:PE X b (tD X.K C G0 Γ E fb κb)) (hs:jm9 b) (hk:κa.item = .old:=by rfl):PE X (.Subscript a b pos) (tD X.K C G0 Γ E (dOp gIx fa fb) .old):=hk ▸ qj8 ha hb hs
theorem kd1 {X:Cx} {C:Cfg} {G0:Hp} {Γ:List SK} {E:L2.St -> XK} {a b:Expr} {fa fb:DF} {κa κb:Kd} {pos:Pos} (ha:PE X a (tD X.K C G0 Γ E fa κa)) (hb:PE X b (tD X.K C G0 Γ E fb κb)) (hs:jm9 b) (hk:κa.item = .tmp:=by rfl):PE X (.Subscript a b pos) (tD X.K C G0 Γ E (dOp gIx fa fb) .tmp):=hk ▸ qj8 ha hb hs
theorem jf4 {X:Cx} {Cb:Addr} {G0:Hp} {Γ:List SK} {E:L2.St -> XK} {a:Expr} {fa:DF} {κa:Kd} {pos:Pos} (hC:Cls X.K Cb) (hA:NoAttr X.K Cb "cells") (ha:PE X a (tD X.K (cfgB Cb) G0 Γ E fa κa)) (hb:attributeBase a ("cells" : Str) X.env (eval a X.env) = eval a X.env:=by rfl) (hk:κa.item = .old:=by rfl):PE X (.Attribute a "cells" pos) (tD X.K (cfgB Cb) G0 Γ E (dUn U3 fa) .old):=hk ▸ qb9 hC hA ha hb
noncomputable def Fn1 (K:Frag) (mg:Str -> Option Value) (x qual:Str) (st:Stmt) (ps:List Str):Prop:=∃ a fd,Fun K x qual st a fd /\ mg x = some (.ref a) /\ Binds K fd ps []
noncomputable def AllL (n:Nat) (P:List Value -> Prop):Prop:=match n with | 0=>P [] | n + 1=>∀ u,AllL n fun us=>P (u :: us)
theorem allL {n:Nat} {P:List Value -> Prop} (h:AllL n P) {us:List Value} (hl:us.length = n):P us:=by
 subst hl
 induction us generalizing P with
 | nil=>exact h
 | cons u us ih=>exact ih (h u)
theorem kd0 {K:Frag} {x qual:Str} {st:Stmt} {f:Addr} {fd:FuncData} {ps:List Str} (F:Fun K x qual st f fd) (h:∀ (kV doc pm:Value) (an:Option Addr) (cdv ct:Value),AllL ps.length fun us=>bindArgs (PySem.W.fnOf x qual (v9 st) (v5 st) (j4 st) .none kV doc pm an cdv ct) ⟨us,[]⟩ = pure (ps.zip us)):Binds K fd ps []:=F.binds fun kV doc pm an cdv ct us hl=>allL (h kV doc pm an cdv ct) hl
theorem U0 {K:Frag} {h:Heap} {mg:Str -> Option Value} {x:Str} {st:Stmt} {ps:List Str} {f:Addr} {oc:Value} {od an:Option Addr} {osl:Array (Option Value)} {kV doc pm cdv ct:Value} (X:K.In h) (G:h.Ns mainGlobals mg) (a:nsIn K mainGlobals x = some (some (.ref f))) (l:K.lookup f = some ⟨oc,od,.func (PySem.W.fnOf x x (v9 st) (v5 st) (j4 st) .none kV doc pm an cdv ct),osl⟩)
  (c:PySem.W.codeIn K cdv x = true) (k:PySem.W.keepIn K (.ref f) = true) (hb:∀ (kV doc pm:Value) (an:Option Addr) (cdv ct:Value),AllL ps.length fun us=>bindArgs (PySem.W.fnOf x x (v9 st) (v5 st) (j4 st) .none kV doc pm an cdv ct) ⟨us,[]⟩ = pure (ps.zip us)):Fn1 K mg x x st ps :=
 ⟨_,_,kk3 (st:=st) l c k,mg_of X G a,kd0 (kk3 (st:=st) l c k) hb⟩
structure FD (P:Program) (w:World) (K:Frag) (mg:Str -> Option Value) (base:Heap) (C:Cfg) (k:Nat) (x:Str) (ps:List Str) (n:Nat) (F:List D -> R D) (κ:Bool):Prop where
 ex:∃ a fd,FnOk P w K mg base (CXr P w) k a fd ps (spD K C n F κ) /\ mg x = some (.ref a) /\ keepIn K (.ref a) = true /\ Binds K fd ps [] /\ ∃ o,K.lookup a = some o /\ o.data = .func fd
theorem kk9 {K:Frag} {x qual:Str} {st:Stmt} {a:Addr} {fd:FuncData} (F:Fun K x qual st a fd):∃ o,K.lookup a = some o /\ o.data = .func fd:=by
 refine x9_3 F.ex fun oc od kV doc pm an cdv ct osl e lk hcd=>?_
 exact ⟨_,lk,rfl⟩
theorem ja6 {P:Program} {w:World} {K:Frag} {mg:Str -> Option Value} {base:Heap} {C:Cfg} {x qual:Str} {st:Stmt} {N ps:List Str} {Γ:List SK} {k n:Nat} {κr:Bool} {Fb:DS} (T:Fn1 K mg x qual st ps) (S:FnScope N ps (j4 st)) (hn:ps.length = n) (hΓ:∀ i,i < n -> Γ[i]? = some .par)
  (body:∀ (f:Addr) (cdv:Value) (A:Around) (outer:List Env) (s:Shared) (H:Hp) (E:XK),Room k (A.deeper (envOfC qual (j4 st) s.heap.objs.size f cdv)) ->
   PSs ((cxOf (CXr P w) P w K mg base N qual (j4 st) f cdv A outer s H E).wish (Fly (cxOf (CXr P w) P w K mg base N qual (j4 st) f cdv A outer s H E) fun _=>E)) (v5 st) (tDS K C H Γ (fun _=>E) κr Fb)) :
  FD P w K mg base C (k + 1) x ps n (J4 N.length Fb) κr:=by
 refine x2_3 T fun a fd Fu hm hb=>?_
 clear T
 exact ⟨a,fd,qu7 Fu S hn hΓ (body a),hm,Fu.kp,hb,kk9 Fu⟩
theorem j7 {X:Cx} {C:Cfg} {G0:Hp} {Γ:List SK} {E:L2.St -> XK} {e:Expr} {es:List Expr} {fs:DA} {κ:Kd} {pos p:Pos} {x:Str} {k j n:Nat} {ps:List Str} {F:List D -> R D} {κc:Bool} {κc':Kd} (Fn:FD X.prog X.w X.K X.mg X.base C k x ps n F κc) (hr:Room j X.A) (hj:k <= j)
  (ha:PA (X.wish (Fly X E)) (e :: es) (tDA X.K C G0 Γ E fs κ)) (hlen:∀ st ds,fs st = .ok ds -> ds.length = n) (hkc:qm0 κc = κc':=by rfl) (hg:Gl X x:=by rfl) (hdb:(x == ("__debug__" : Str)) = false:=by decide) (he:starEach (e :: es) X.env = (false,eval e X.env) :: starEach es X.env:=by rfl) (hpl:(backTo pos (starEach es X.env)).any (·.1) = false:=by rfl) :
  PE (X.wish (Fly X E)) (.Call (.Name x p) (e :: es) [] pos) (tD X.K C G0 Γ E (dFn F fs) κc'):=by
 refine x2_5 Fn.ex fun a fd h1 h2 h3 h4 _=>?_
 subst hkc
 exact qp4 h1 (hr.mono hj) h2 h3 h4 ha hlen hg hdb he hpl
theorem jl5 {cl cs:List (Str × Addr)} (h:∀ p ∈ cl,cs.lookup p.1 = some p.2):∀ x c,cl.lookup x = some c -> cs.lookup x = some c:=fun x c e=>by
 induction cl with
 | nil=>cases e
 | cons p cl ih =>
  obtain ⟨n,a⟩:=p
  rw [List.lookup_cons] at e
  by_cases hx:(x == n) = true
  ·rw [hx] at e
   cases e
   rw [beq_iff_eq.mp hx]
   exact h (n,c) (.head _)
  ·rw [Bool.not_eq_true] at hx
   rw [hx] at e
   exact ih (fun q m=>h q (.tail _ m)) e
theorem jw1 {β:Type} {x:Str} {k:β}:∀ {names:List (Str × β)},names.lookup x = some k -> (x,k) ∈ names
 | [],e=>by cases e
 | (n,k') :: ns,e=>by
  rw [List.lookup_cons] at e
  by_cases hx:(x == n) = true
  ·rw [hx] at e
   cases e
   rw [beq_iff_eq.mp hx]; exact .head _
  ·rw [Bool.not_eq_true] at hx
   rw [hx] at e
   exact .tail _ (jw1 e)
theorem jf0 {names:List (Str × NameKind)} {cl:List (Str × Addr)} (h:(names.all fun p=>(p.2 != .cell && p.2 != .free) || (cl.lookup p.1).isSome) = true):∀ x,(names.lookup x = some .cell \/ names.lookup x = some .free) -> ∃ c,cl.lookup x = some c:=fun x e=>by
 have go:∀ {k:NameKind},names.lookup x = some k -> (k != .cell && k != .free) = false -> ∃ c,cl.lookup x = some c:=fun {k} e hk=>by
  have:=List.all_eq_true.mp h _ (jw1 e)
  dsimp only at this
  rw [hk,Bool.false_or] at this
  exact Option.isSome_iff_exists.mp this
 rcases e with e | e
 ·exact go e rfl
 ·exact go e rfl
theorem jj1 {X:Cx} {C:Cfg} {G0:Hp} {Γ:List SK} {E:L2.St -> XK} {tg iter elt:Expr} {ifs:List Expr} {scope:Scope} {cl:List (Str × Addr)} {pos:Pos} {g:TG} {bind:DB} {gi:DI} {ft fe:DF} {κe κc:Kd} {n z:Bool} {tgs:List Str} {caps:List (Nat × Str)} {kk:Nat} {fr:List Nat}
  (hsrc:PI X tg iter (tDI X.K C G0 Γ E z gi)) (b:Blk X C G0 Γ tg elt ifs scope cl g bind ft fe κe n z tgs caps) (hs:∀ x,foldedSetIterable iter X.env x = pure x:=by intro _; rfl) (hk:kh9 z n = κc:=by rfl) (h1:tgs.length = kk:=by rfl) (h2:caps.map (·.1) = fr:=by rfl) :
  PE X (.ListComp elt [⟨tg,iter,ifs,0⟩] scope pos) (tD X.K C G0 Γ E (jf7 gi kk fr bind ft fe) κc):=by
 subst hk; subst h1; subst h2
 exact ql8 hsrc b hs
theorem jz6 {X:Cx} {C:Cfg} {G0:Hp} {Γ:List SK} {E:L2.St -> XK} {κr:Bool} {tg iter elt:Expr} {ifs:List Expr} {scope:Scope} {cl:List (Str × Addr)} {pos:Pos} {g:TG} {bind:DB} {gi:DI} {ft fe:DF} {κe:Kd} {n z:Bool} {tgs:List Str} {caps:List (Nat × Str)} {kk:Nat} {fr:List Nat}
  {i:Nat} {k:SK} {x:Str} {pos' spos:Pos} (hN:X.N.Nodup) (hsrc:PI X tg iter (tDI X.K C G0 Γ E z gi)) (b:Blk X C G0 Γ tg elt ifs scope cl g bind ft fe κe n z tgs caps) (hk:Γ[i]? = some k:=by rfl) (hl:k.takes (kh9 z n) = true:=by rfl) (hi:X.N[i]? = some x:=by rfl) (hx:X.env.scope.names.lookup x = some .local:=by rfl)
  (hsw:swapsWith (.ListComp elt [⟨tg,iter,ifs,0⟩] scope pos) (some (.Name x pos')) spos.line X.env = pure true:=by rfl) (hs:∀ x,foldedSetIterable iter X.env x = pure x:=by intro _; rfl) (h1:tgs.length = kk:=by rfl) (h2:caps.map (·.1) = fr:=by rfl) :
  PS X (.Assign [.Name x pos'] (.ListComp elt [⟨tg,iter,ifs,0⟩] scope pos) spos) (tDS X.K C G0 Γ E κr (dAsg i (jf7 gi kk fr bind ft fe))):=by
 subst h1; subst h2
 exact qr6 hN hsrc b hk hl hi hx hsw hs
end Dm
end T_Gx
section T_En
namespace Dm
open PySem PySem.Spec PyProof.Rows L2
noncomputable def Ite (K:PySem.W.Frag) (a:Addr):It :=
 ⟨fun i H=>∃ xs x,SqL K H a xs /\ xs[i]? = some x,fun i H x H'=>∃ T y,H T = none /\ H' = upd H T (.tup [.int i,y]) /\ x = .ref T /\ ∀ xs,SqL K H a xs -> xs[i]? = some y,fun i H=>∃ xs,SqL K H a xs /\ xs.length <= i⟩
theorem kr8 {P:Program} {w:World} {K:PySem.W.Frag} {elts:List Expr} {x1} {pos:Pos} (a e it:Addr) (hei:e ≠ it):Turn P w K (.Tuple elts x1 pos) (Ite K a) [e,it] e (fun i h=>(∃ old,IsEnum h e it i old) /\ h.IsListIter it a i) where
 mem:=by simp
 obj:=fun i h st b hb=>by
  obtain ⟨⟨old,he⟩,o,ho,c,d⟩:=st
  rcases List.mem_cons.mp hb with rfl | hb
  ·exact ⟨_,he,fun v z=>by cases z⟩
  ·obtain rfl:b = it:=by simpa using hb
   exact ⟨o,ho,fun v z=>by rw [d] at z; cases z⟩
 keep:=fun i h h' st k=>⟨st.1.imp fun old he=>k e (by simp) _ he,st.2.at fun o z=>k it (by simp) o z⟩
 item:=by
  intro X hP hw hK hc i pins s σ H E I hf st hg
  subst hP hw hK
  obtain ⟨⟨old,he⟩,hit⟩:=st
  refine x2_2 hg fun xs x hq hx=>?_
  clear hg
  refine x1_3 (I.list hq) fun its rv p hz=>?_
  refine x1_2 (rv.get hx) fun u hu ru=>?_
  have fe:=hf e (by simp)
  have fi:=hf it (by simp)
  have hn:H s.heap.objs.size = none:=I.hok.fresh (Nat.le_refl _)
  refine wpAny_pyNext_enum_item he hit p.isList (x:=u) (by simpa using hu) hei fun h' ho hit' hT hsz hk=>⟨_,rfl,?_⟩
  have kp:∀ b o,b ∉ [e,it] -> s.heap.get? b = some o -> h'.get? b = some o:=fun b o hb q=>hk b o (fun z=>hb (by simp [z])) (fun z=>hb (by simp [z])) q
  have lt:∀ b o,s.heap.get? b = some o -> b ≠ s.heap.objs.size:=fun b o q=>Nat.ne_of_lt (Heap.lt_size q)
  have I1:L2.Inv X pins σ (upd H s.heap.objs.size (.tup [.int i,x])) { s with heap:=h',toks:=s.toks + 1 }:=by
   refine Inv.call' I (s':={ s with heap:=h',toks:=s.toks + 1 }) (ch:=[e,it]) rfl ⟨fun b o q n nf nx=>kp b o nx q,fun b o q n nf nx=>⟨o.slots,kp b o nx q⟩,fun b o q n nx=>?_,fun b o q nx=>⟨o,kp b o nx q⟩,fun b ys q=>?_,fun b o u' q=>?_,fun b ps q=>⟨#[],?_⟩⟩ (fun b o q=>?_) I.bare (fun b hb=>?_)
   ·rw [y3 (lt b o q)]; exact n
   ·rw [y3 (J5 q hn)]; exact q
   ·rw [y3 (J5 q hn)]; exact q
   ·rw [y3 (J5 q hn),q]; simp
   ·by_cases hb:b = s.heap.objs.size
    ·subst hb
     rw [Q7] at q; cases q
     exact ⟨by simp only [List.length_cons,List.length_nil]; rw [sizeLine_eq]; decide,[.int i s.toks,u],.cons ⟨_,rfl⟩ (.cons ru .nil),⟨_,hT,rfl,0,rfl⟩⟩
    ·rw [y3 hb] at q
     refine (I.hok b o q).stay (fun c v hc' z=>kp c v ?_ z) (fun c z=>by rw [y3 (J5 z hn)]; exact z) fun c ys z=>by rw [y3 (J5 z hn)]; exact z
     intro hm
     rcases List.mem_cons.mp hm with rfl | hm
     ·rcases hc' with rfl | hc'
      ·rw [fe.1] at q; cases q
      ·rw [fe.1] at hc'; cases hc'
     ·obtain rfl:c = it:=by simpa using hm
      rcases hc' with rfl | hc'
      ·rw [fi.1] at q; cases q
      ·rw [fi.1] at hc'; cases hc'
   ·refine x0_6 (hf b hb) fun f0 f1 f2 f3 f4 f5=>?_
    exact ⟨f3,f1,f4,f5⟩
  have ne:e ≠ s.heap.objs.size:=lt e _ he
  have ni:it ≠ s.heap.objs.size:=by obtain ⟨o,z,_⟩:=hit; exact lt it _ z
  refine x0_6 fe fun f0 f1 f2 f3 f4 f5=>?_
  clear fe
  refine wpAny_letOwnedTupleGo_enum ho fun h2 he2 hs2=>?_
  have I2:L2.Inv X pins σ (upd H s.heap.objs.size (.tup [.int i,x])) { s with heap:=h2,toks:=s.toks + 1 }:=I1.turned (t':=s.toks + 1) (fun b o hb q=>(hs2.2 b hb).trans q) (by rw [y3 ne]; exact f0) f1 f3 f4 f5
  refine ⟨.ref s.heap.objs.size,_,I2,rfl,⟨_,x,hn,rfl,rfl,fun ys hy=>by rw [I.list_inj hy hq]; exact hx⟩,⟨⟨u,by simpa using he2⟩,hit'.at fun o z=>(hs2.2 it (Ne.symm hei)).trans z⟩,fun b hb=>?_⟩
  rcases List.mem_cons.mp hb with rfl | hb
  ·rw [y3 ne]; exact f0
  ·obtain rfl:b = it:=by simpa using hb
   rw [y3 ni]; exact fi.1
 done:=by
  intro X hP hw hK hc i pins s σ H E I hf st hg
  subst hP hw hK
  obtain ⟨⟨old,he⟩,hit⟩:=st
  refine x1_2 hg fun xs hq hx=>?_
  clear hg
  refine x1_3 (I.list hq) fun its rv p hz=>?_
  refine x0_6 (hf it (by simp)) fun f0 f1 f2 f3 f4 f5=>?_
  have hl:=rv.length
  exact wpAny_pyNext_enum_end (I.ok.hd hc) he hit p.isList (Array.getElem?_eq_none (by simp; lia)) fun h' eb=>⟨rfl,I.turned (t':=s.toks) (fun b o hb e=>eb b o hb e) f0 f1 f3 f4 f5⟩
 self:=fun _ _ _ _ _ st h=>by
  obtain ⟨⟨old,he⟩,_⟩:=st
  exact wpAny_pyIter_enum he h
noncomputable def iEn (K:PySem.W.Frag) (ta:TA):TI:=fun σ H R=>ta σ H fun vs H1=>∃ a,vs = [.ref a] /\ (∃ xs,SqL K H1 a xs) /\ R (Ite K a) H1
theorem kv0:bootBuiltins "enumerate" = some (.type "enumerate"):=by decide +kernel
section
variable {X:Cx} {C:Cfg} {G0:Hp} {Γ:List SK} {E:L2.St -> XK} {iter elt a tg:Expr} {f:DF} {fs:DA} {κ:Kd} {pos:Pos} {z:Bool} {elts:List Expr} {x1:Nat} {F:DS} {κr:Bool} {ss:List Stmt}
theorem qs9 {p pos tp:Pos} {ta:TA} (hg:Gl X "enumerate") (hm:X.mg "enumerate" = none) (ha:PA X [a] ta) (hs:starEach [a] X.env = [(false,eval a X.env)]:=by rfl):PI X (.Tuple elts x1 tp) (.Call (.Name "enumerate" p) [a] [] pos) (iEn X.K ta):=by
 intro pins s σ H R I h
 refine Call_ (ju1 I hg hm kv0 (PyProof.Rows.callWith_type1 (thn (ha pos pins s σ H _ I h) fun us s1 zz1=>?_) hs rfl))
 refine x2_3 zz1 fun vs H1 I1 r1 q1=>?_
 clear zz1
 refine x1_3 q1 fun a e zo2 q=>?_
 clear q1
 obtain ⟨xs,hq⟩:=zo2
 subst e
 cases r1 with
 | cons r rr =>
  cases rr
  cases r
  refine x1_3 (I1.list hq) fun its rv p hz=>?_
  refine call_enumerate_list p.isList fun h' he hit hsz hk=>wpAny_pyIter_enum he ?_
  have I2:L2.Inv X pins σ H1 { s1 with heap:=h' }:=I1.kept (t':=s1.toks) hk
  refine ⟨s1.heap.objs.size + 1,[s1.heap.objs.size + 1,s1.heap.objs.size],_,_,H1,rfl,I2,kr8 a _ _ (Nat.succ_ne_self _),⟨⟨.none,he⟩,hit⟩,fun b hb=>?_,q⟩
  have hb':s1.heap.objs.size <= b:=by
   rcases List.mem_cons.mp hb with rfl | hb
   ·exact Nat.le_succ _
   ·obtain rfl:b = s1.heap.objs.size:=by simpa using hb
    exact Nat.le_refl _
  exact I1.fpOk hb' (I1.hok.fresh hb')
noncomputable def enD (ds:List D):List D:=ds.mapIdx fun i d=>.tup [.int i,d]
noncomputable def iEnu (f:DF):DI:=fun st=>match f st with | .ok (.lst ds)=>.ok (enD ds) | .ok _=>.bad | .ex c p=>.ex c p | .bad=>.bad
theorem kr1 {p tp:Pos} (hm:X.mg "enumerate" = none) (ha:PE X a (tD X.K C G0 Γ E f κ)) (l:z = true -> κ.le .old = true) (hgl:Gl X "enumerate":=by rfl) (hs1:starEach [a] X.env = [(false,eval a X.env)]:=by rfl):PI X (.Tuple elts x1 tp) (.Call (.Name "enumerate" p) [a] [] pos) (tDI X.K C G0 Γ E z (iEnu f)):=(qs9 hgl hm (jf3 ha jl8 hs1) hs1).imp fun σ H Q zz=>by
 refine x2_2 zz fun A st r q=>?_
 clear zz
 refine ⟨A,st,r,?_⟩
 unfold iEnu at q
 cases hf:f st with
 | bad=>rw [hf] at q; exact q
 | ex c p=>rw [hf] at q; exact q
 | ok d =>
  rw [hf] at q
  cases d with
  | lst ds =>
   dsimp only at q
   intro v H1 e1 w
   have w':Rep X.K C (er H1 (zB z A)) (.lst ds) v:=by
    unfold zB
    cases z with
    | true=>exact w.le r e1 (κ':=.old) (l rfl)
    | false=>rw [if_neg (by decide),jq8]; exact w.rep
   rw [Rep] at w'
   refine x2_3 w' fun a xs zo2 h2 h3=>?_
   clear w'
   obtain rfl:=zo2
   refine ⟨a,rfl,⟨xs,(q9 _ _).seq h2⟩,q _ _ e1 fun i H3 A3 e3 nA=>⟨fun d hd=>?_,fun hd=>?_⟩⟩
   ·unfold enD at hd
    rw [List.getElem?_mapIdx] at hd
    cases hd0:ds[i]? with
    | none=>rw [hd0] at hd; cases hd
    | some d0 =>
     rw [hd0] at hd; cases hd
     refine x1_2 (h3.get' hd0) fun v hv rv=>?_
     have s3:SqL X.K H3 a xs:=(e3.trans (q9 _ _)).seq h2
     refine ⟨⟨xs,v,s3,hv⟩,fun x H' zz2=>?_⟩
     refine x2_4 zz2 fun T y hT hH ex hx=>?_
     clear zz2
     subst hH ex
     have:=hx xs s3
     rw [hv] at this; cases this
     have nT:T ∉ A3:=fun m=>nA T m hT
     refine ⟨Y5 hT,?_⟩
     have up:Same (er H3 A3) (er (upd H3 T (.tup [.int i,v])) A3):=q0 (Y5 hT)
     rw [Rep]
     refine ⟨T,_,rfl,.inl (.inl (by rw [w8 nT,Q7])),?_⟩
     rw [Reps]
     refine ⟨.int i,[v],rfl,repI,?_⟩
     rw [Reps]
     refine ⟨v,[],rfl,rv.same ((q9 _ _).trans (e3.trans up)) _,?_⟩
     rw [Reps]
   ·unfold enD at hd
    rw [List.getElem?_mapIdx] at hd
    refine ⟨xs,(e3.trans (q9 _ _)).seq h2,by rw [h3.len]; exact List.getElem?_eq_none_iff.mp (by cases hd0:ds[i]? with | none=>rfl | some d=>rw [hd0] at hd; cases hd)⟩
  | _=>exact q.elim
theorem qo9 {bind:DB} {g:TG} {gi:DI} (hp:PassesOwn (model X.prog X.w) X.A X.env X.xe) (hc:X.calm = true) (hI:PI X tg iter (tDI X.K C G0 Γ E true gi)) (hg:PG X tg g) (hB:jt8 X.K C G0 Γ g bind) (hb:PSs X ss (tDS X.K C G0 Γ E κr F)) (hs:∀ x,foldedSetIterable iter X.env x = pure x:=by intro _; rfl) :
  PS X (.For tg iter ss [] pos) (tDS X.K C G0 Γ E κr (dFor gi bind F)):=(kz5 hp hc hI hg hb hs).imp fun D σ H zz=>by
 refine x2_2 zz fun A st r q=>?_
 clear zz
 refine ⟨A,st,r,?_⟩
 unfold dFor at q
 cases hg:gi st with
 | bad=>rw [hg] at q; exact q.elim
 | ex c p=>rw [hg] at q; exact fun H' e'=>q σ H' A (r.mono e') (q0 e')
 | ok ds =>
  rw [hg] at q
  intro J H1 e1 hJ
  exact jr9 hB hJ r e1 q
end
end Dm
end T_En
section T_Ru
namespace Dm
open PySem PySem.Spec PyProof.Rows L2 PySem.W
noncomputable def dBad:DS:=fun _=>.bad
section
variable {X:Cx} {C:Cfg} {G0:Hp} {Γ:List SK} {E:L2.St -> XK} {κr:Bool} {ss:List Stmt} {a b e:Expr} {fa fb:DF} {κa κb κ:Kd} {pos:Pos} {Cb:Addr}
theorem ql9:PSs X ss (tDS X.K C G0 Γ E κr dBad):=fun pins s σ H D I zz1=>zz1.elim fun A zz2=>zz2.elim fun st zz3=>zz3.elim fun r q=>q.elim
noncomputable def gAbs:List D -> R D:=fun ds=>match ds with | [.int i]=>.ok (.int (if i < 0 then -i else i)) | _=>.bad
theorem qj9:bootBuiltins "abs" = some (.builtin "abs"):=by decide +kernel
theorem kt4 {K:Frag}:FnD K C (fun xs H Q=>∃ i,xs = [.int i] /\ Q (.int (if i < 0 then -i else i)) H) gAbs .new:=fun G0 Γ E σ A st H ds xs Q r w q=>by
 unfold gAbs at q
 split at q
 ·rename_i z
  split at z
  ·rename_i i
   cases z
   refine x1_2 (jk7 w) fun v zo1 w1=>?_
   obtain rfl:=zo1
   rw [Rep] at w1
   subst w1
   exact ⟨i,rfl,q _ H (.refl _) (.flat r (.refl _) (by rw [noL] <;> simp) repI _)⟩
  ·cases z
 ·rename_i z; split at z <;> cases z
 ·exact q.elim
noncomputable def isI:D -> Bool | .int _=>true | _=>false
noncomputable def isTI:D -> Bool | .tup (.int _ :: _)=>true | _=>false
noncomputable def isTT:D -> Bool | .tup (.tup _ :: _)=>true | _=>false
noncomputable def jt6 (ds:List D):Bool:=decide (ds.length < 64) && noLs ds && ds.all (fun d=>nl d && decide (dep d <= 50)) && ds.all (fun a=>ds.all fun b=>shp a b) && (ds.all isI || ds.all isTI || ds.all isTT)
theorem qf6 {ds:List D} (h:jt6 ds = true):Sortable ds:=by
 unfold jt6 at h
 simp only [Bool.and_eq_true,Bool.or_eq_true,decide_eq_true_eq,List.all_eq_true] at h
 obtain ⟨⟨⟨⟨h1,h2⟩,h3⟩,h4⟩,h5⟩:=h
 refine ⟨?_,h1,fun a ha b hb=>h4 a ha b hb,fun a ha=>(h3 a ha).1,fun a ha=>(h3 a ha).2⟩
 rcases h5 with (h5 | h5) | h5
 ·exact ⟨_,.nums fun d hd=>by have:=h5 d hd; unfold isI at this; split at this; exact ⟨_,rfl⟩; cases this⟩
 ·exact ⟨_,.tups fun d hd=>by have:=h5 d hd; unfold isTI at this; split at this; exact ⟨_,_,rfl⟩; cases this⟩
 ·exact ⟨_,.tupt fun d hd=>by have:=h5 d hd; unfold isTT at this; split at this; exact ⟨_,_,rfl⟩; cases this⟩
noncomputable def ja4:List D -> R D:=fun ds=>match ds with
 | [.lst es]=>if jt6 es = true then .ok (.lst (jc4 es)) else .bad
 | _=>.bad
theorem jq0 {K:Frag}:FnD K C (qk1 K C) ja4 .new:=fun G0 Γ E σ A st H ds xs Q r w q=>by
 cases hg:ja4 ds with
 | bad=>rw [hg] at q; exact q.elim
 | ex c p=>unfold ja4 at hg; split at hg <;> (try split at hg) <;> cases hg
 | ok d =>
  rw [hg] at q
  unfold ja4 at hg
  split at hg
  ·rename_i es
   split at hg
   ·rename_i hc
    cases hg
    refine x1_2 (jk7 w) fun v zo1 w1=>?_
    obtain rfl:=zo1
    have n:noLs es = true:=by unfold jt6 at hc; simp only [Bool.and_eq_true] at hc; exact hc.1.1.1.2
    refine ⟨v,es,rfl,w1,qf6 hc,fun p ws hp rw'=>q _ _ (Y5 hp) (.lst r (.refl _) hp (rw'.part (.nw (.refl _)) _ ?_))⟩
    exact jc6 fun d hd=>jf1 n ((W0 es).mem_iff.mp hd)
   ·cases hg
  ·cases hg
end
end Dm
end T_Ru
section T_Rw
namespace Dm
open PySem PySem.Spec PyProof.Rows L2
inductive ValsN (K:PySem.W.Frag) (C:Cfg) (G0:Hp) (A:List Addr) (H H':Hp):List D -> List V -> Prop
 | nil:ValsN K C G0 A H H' [] []
 | cons {d:D} {v:V} {ds:List D} {vs:List V}:Val K C .new G0 A H H' d v -> ValsN K C G0 A H H' ds vs -> ValsN K C G0 A H H' (d :: ds) (v :: vs)
section
variable {K:PySem.W.Frag} {C:Cfg} {G0:Hp} {A:List Addr} {H H' H'' H1:Hp}
theorem ValsN.len:∀ {ds:List D} {vs:List V},ValsN K C G0 A H H' ds vs -> vs.length = ds.length
 | _,_,.nil=>rfl
 | _,_,.cons _ t=>by rw [List.length_cons,List.length_cons,t.len]
theorem ValsN.early (e:Same H H1):∀ {ds:List D} {vs:List V},ValsN K C G0 A H1 H' ds vs -> ValsN K C G0 A H H' ds vs
 | _,_,.nil=>.nil
 | _,_,.cons q t=>.cons (q.early e) (t.early e)
theorem ValsN.get:∀ {ds:List D} {vs:List V} {j:Nat} {d:D},ValsN K C G0 A H H' ds vs -> ds[j]? = some d -> ∃ v,vs[j]? = some v /\ Val K C .new G0 A H H' d v
 | _,_,_,_,.nil,h=>by simp at h
 | _,_,0,_,.cons q t,h=>by simp at h; subst h; exact ⟨_,rfl,q⟩
 | _,_,j + 1,_,.cons q t,h=>by
  rw [List.getElem?_cons_succ] at h ⊢
  exact t.get h
theorem ValsN.at {ds:List D} {vs:List V} {i:Int} {d:D} (q:ValsN K C G0 A H H' ds vs) (h:atI ds i = some d):∃ v,atI vs i = some v /\ Val K C .new G0 A H H' d v:=by
 unfold atI at h ⊢
 rw [q.len]
 cases hj:ixN ds.length i with
 | none=>rw [hj] at h; cases h
 | some j =>
  rw [hj] at h
  exact q.get h
end
section
variable {X:Cx} {C:Cfg} {G0:Hp} {Γ:List SK} {E:L2.St -> XK} {e a b c:Expr} {f fa fb fc:DF} {κ κ' κa κb:Kd} {es rest:List Expr} {fs:DA} {pos pos':Pos}
end
end Dm
end T_Rw
section T_Dw
namespace Dm
open PySem PySem.Spec PyProof.Rows L2
noncomputable def dD (l:List ((Int × Int) × Int)):D:=.brd 1 (l.flatMap fun q=>[.int q.1.1,.int q.1.2,.int q.2])
noncomputable def jk2:List D -> Option (List (Int × Int))
 | []=>some []
 | .tup [.int r,.int c] :: ds=>(jk2 ds).map ((r,c) :: ·)
 | _=>none
noncomputable def jo0:List D -> Option (List Int)
 | []=>some []
 | .int i :: ds=>(jo0 ds).map (i :: ·)
 | _=>none
noncomputable def gDZ:D -> D -> R D:=fun a b=>match a,b with
 | .lst xs,.lst ys=>(match jk2 xs,jo0 ys with
  | some cs,some ns=>if (decide (cs.length = ns.length) && decide cs.Nodup) = true then .ok (dD (cs.zip ns)) else .bad
  | _,_=>.bad)
 | _,_=>.bad
section
variable {K:PySem.W.Frag} {C:Cfg} {H:Hp}
theorem jv4:∀ {ds:List D} {cs:List (Int × Int)},jk2 ds = some cs -> ds = cs.map fun c=>.tup [.int c.1,.int c.2]
 | [],cs,h=>by cases h; rfl
 | .tup [.int r,.int c] :: ds,cs,h=>by
  rw [jk2] at h
  refine x1_2 (Option.map_eq_some_iff.mp h) fun cs' h1 zo2=>?_
  obtain rfl:=zo2
  rw [jv4 h1]; rfl
theorem jl2:∀ {ds:List D} {cs:List Int},jo0 ds = some cs -> ds = cs.map D.int
 | [],cs,h=>by cases h; rfl
 | .int r :: ds,cs,h=>by
  rw [jo0] at h
  refine x1_2 (Option.map_eq_some_iff.mp h) fun cs' h1 zo2=>?_
  obtain rfl:=zo2
  rw [jl2 h1]; rfl
theorem je0:∀ {ns:List Int} {vs:List V},Reps K C H (ns.map D.int) vs -> vs = ns.map V.int
 | [],_,h=>by rw [List.map_nil,Reps] at h; exact h
 | n :: ns,_,h=>by
  rw [List.map_cons,Reps] at h
  refine x2_3 h fun v r zo2 q t=>?_
  clear h
  obtain rfl:=zo2
  rw [Rep] at q
  subst q
  rw [je0 t]; rfl
theorem kd9:∀ (ns:List Int),Reps K C H (ns.map D.int) (ns.map V.int)
 | []=>by rw [List.map_nil,Reps]; rfl
 | n :: ns=>by
  rw [List.map_cons,List.map_cons,Reps]
  exact ⟨_,_,rfl,by rw [Rep],kd9 ns⟩
theorem jv2:∀ {cs:List (Int × Int)} {vs:List V},Reps K C H (cs.map fun c=>.tup [.int c.1,.int c.2]) vs -> ∃ as:List Addr,as.length = cs.length /\ vs = as.map V.ref /\ ∀ z ∈ cs.zip as,SqT K H z.2 [.int z.1.1,.int z.1.2]
 | [],_,h=>by rw [List.map_nil,Reps] at h; exact ⟨[],rfl,h,fun z hz=>by cases hz⟩
 | c :: cs,_,h=>by
  rw [List.map_cons,Reps] at h
  refine x2_3 h fun v r zo2 q t=>?_
  clear h
  obtain rfl:=zo2
  rw [Rep] at q
  refine x2_3 q fun a xs zo2 h2 h3=>?_
  clear q
  obtain rfl:=zo2
  refine x1_3 (jv2 t) fun as h4 zo2 h5=>?_
  obtain rfl:=zo2
  have e:=je0 (ns:=[c.1,c.2]) h3
  subst e
  refine ⟨a :: as,by simp [h4],rfl,fun z hz=>?_⟩
  rw [List.zip_cons_cons] at hz
  rcases List.mem_cons.mp hz with rfl | hz
  ·exact h2
  ·exact h5 z hz
end
theorem zip3:∀ (cs:List (Int × Int)) (as:List Addr) (ns:List Int),as.length = cs.length -> ns.length = cs.length -> (cs.zip (as.zip ns)).map (fun z=>z.2.1) = as /\ (cs.zip (as.zip ns)).map (fun z=>z.2.2) = ns /\ (cs.zip (as.zip ns)).map (·.1) = cs /\ (cs.zip (as.zip ns)).map (fun z=>(z.1,z.2.2)) = cs.zip ns /\ ∀ z ∈ cs.zip (as.zip ns),(z.1,z.2.1) ∈ cs.zip as
 | [],[],[],_,_=>⟨rfl,rfl,rfl,rfl,fun z hz=>by cases hz⟩
 | c :: cs,a :: as,n :: ns,h1,h2=>by
  refine x0_5 (zip3 cs as ns (by simpa using h1) (by simpa using h2)) fun i1 i2 i3 i4 i5=>?_
  simp only [List.zip_cons_cons,List.map_cons,i1,i2,i3,i4,true_and]
  intro z hz
  rcases List.mem_cons.mp hz with rfl | hz
  ·exact .head _
  ·exact .tail _ (i5 z hz)
section
variable {X:Cx} {Cb:Addr} {G0:Hp} {Γ:List SK} {E:L2.St -> XK} {a b:Expr} {fa fb:DF} {κa κb:Kd} {pos pos2 p1 p2:Pos}
theorem qz6 {ps:List DP} {l:List ((Int × Int) × Addr × Int)} (h:ps.map (fun p=>(p.1,p.2.1,p.2.2.1)) = l):dvs ps = (l.flatMap fun z=>[z.1.1,z.1.2,z.2.2]).map V.int:=by
 subst h
 unfold dvs
 rw [List.map_flatMap,List.flatMap_map]
 rfl
theorem ju7 (hc:X.calm = true) (hu:X.A.units + 2 < cLine) (hmd:X.mg "dict" = none) (hmz:X.mg "zip" = none) (ha:PE X a (tD X.K (cfgB Cb) G0 Γ E fa κa)) (hb:PE X b (tD X.K (cfgB Cb) G0 Γ E fb κb)) (hgd:Gl X "dict":=by rfl) (hgz:Gl X "zip":=by rfl) (la:κa.le .tmp = true:=by rfl) (lb:κb.le .tmp = true:=by rfl)
  (hs0:starEach [b] X.env = [(false,eval b X.env)]:=by rfl) (hs:starEach [a,b] X.env = (false,eval a X.env) :: starEach [b] X.env:=by rfl) (hpl:(backTo pos2 (starEach [b] X.env)).any (·.1) = false:=by rfl)
  (hs1:starEach [Expr.Call (.Name "zip" p2) [a,b] [] pos2] X.env = [(false,eval (.Call (.Name "zip" p2) [a,b] [] pos2) X.env)]:=by rfl) :
  PE X (.Call (.Name "dict" p1) [.Call (.Name "zip" p2) [a,b] [] pos2] [] pos) (tD X.K (cfgB Cb) G0 Γ E (dOp gDZ fa fb) .new):=(kp5 hc hu hgd hgz hmd hmz (j1 (κ:=.tmp) ha (j1 (κ:=.tmp) hb j6 lb hs0) la hs) hs hpl hs1).imp fun σ H Q zz=>by
 refine x2_2 zz fun A st r q=>?_
 clear zz
 refine ⟨A,st,r,?_⟩
 unfold dOp R.bind at q
 unfold j2 R.bind
 cases ha:fa st with
 | bad=>rw [ha] at q; exact q
 | ex c p=>rw [ha] at q; exact q
 | ok da =>
  rw [ha] at q
  dsimp only at q ⊢
  cases hb:fb st with
  | bad=>rw [hb] at q; exact q
  | ex c p=>rw [hb] at q; exact q
  | ok db =>
   rw [hb] at q
   dsimp only [aNil] at q ⊢
   intro vs H1 e1 w1
   cases hg:gDZ da db with
   | bad=>rw [hg] at q; exact q.elim
   | ex c p =>
    unfold gDZ at hg
    split at hg
    ·split at hg
     ·split at hg <;> cases hg
     ·cases hg
    ·cases hg
   | ok d =>
    rw [hg] at q
    unfold gDZ at hg
    split at hg
    ·rename_i xs ys
     split at hg
     ·rename_i cs ns hcs hns
      split at hg
      ·rename_i hcond
       cases hg
       rw [Bool.and_eq_true,decide_eq_true_eq,decide_eq_true_eq] at hcond
       obtain ⟨hlen,hnd⟩:=hcond
       rw [jv4 hcs,jl2 hns] at w1
       rw [Reps] at w1
       refine x2_3 w1 fun v1 r1 zo2 q1 t1=>?_
       clear w1
       obtain rfl:=zo2
       rw [Reps] at t1
       refine x2_3 t1 fun v2 r2 zo2 q2 t2=>?_
       clear t1
       obtain rfl:=zo2
       rw [Reps] at t2
       subst t2
       refine x2_3 (Rep.items (show Rep X.K (cfgB Cb) H1 _ _ from q1)) fun p xs1 zo2 s1 t1=>?_
       obtain rfl:=zo2
       refine x2_3 (Rep.items (show Rep X.K (cfgB Cb) H1 _ _ from q2)) fun p' xs2 zo2 s2 t2=>?_
       obtain rfl:=zo2
       refine x1_3 (jv2 t1) fun as has zo2 hsq=>?_
       obtain rfl:=zo2
       have e2:=je0 t2
       subst e2
       refine x0_5 (zip3 cs as ns has hlen.symm) fun i1 i2 i3 i4 i5=>?_
       refine ⟨p,p',cs.zip (as.zip ns),rfl,?_,?_,fun z hz=>hsq _ (i5 z hz),by rw [i3]; exact hnd,fun d ps hd hps=>?_⟩
       ·rw [show (cs.zip (as.zip ns)).map (fun z=>V.ref z.2.1) = ((cs.zip (as.zip ns)).map fun z=>z.2.1).map V.ref by rw [List.map_map]; rfl,i1]; exact s1
       ·rw [show (cs.zip (as.zip ns)).map (fun z=>V.int z.2.2) = ((cs.zip (as.zip ns)).map fun z=>z.2.2).map V.int by rw [List.map_map]; rfl,i2]; exact s2
       ·have e':Same H (upd H1 d (.ext (DX d ps))):=e1.trans (Y5 hd)
        have hd0:H d = none:=e1.free hd
        refine q (.ref d) _ e' ⟨?_,fun ds z=>by cases z⟩
        unfold dD
        rw [Rep]
        refine ⟨d,dvs ps,rfl,.inr ⟨rfl,ps,rfl,by rw [jm5 hd0]; exact Q7,fun z hz=>?_⟩,?_⟩
        ·refine (KeepT.nw e').sq (Same.tup (Y5 hd) (hsq (z.1,z.2.1) (i5 (z.1,z.2.1,z.2.2.1) ?_)))
         rw [<- hps]
         exact List.mem_map.mpr ⟨z,hz,rfl⟩
        ·rw [qz6 hps]
         have:((cs.zip ns).flatMap fun q=>[D.int q.1.1,D.int q.1.2,D.int q.2]) = ((cs.zip (as.zip ns)).flatMap fun z=>[z.1.1,z.1.2,z.2.2]).map D.int:=by
          rw [List.map_flatMap,<- i4,List.flatMap_map]
          rfl
         rw [this]
         exact kd9 _
      ·cases hg
     ·cases hg
    ·cases hg
end
end Dm
end T_Dw
section T_Dw2
namespace Dm
open PySem PySem.Spec PyProof.Rows L2
noncomputable def jj2:List D -> Int -> Int -> Option Int
 | .int r' :: .int c' :: .int n :: ds,r,c=>if r' = r /\ c' = c then some n else jj2 ds r c
 | _,_,_=>none
noncomputable def gGet:D -> D -> R D:=fun a b=>match a,b with
 | .brd 1 ds,.tup [.int r,.int c]=>(match jj2 ds r c with | some n=>.ok (.int n) | none=>.bad)
 | _,_=>.bad
noncomputable def rDX (K:PySem.W.Frag):R2:=fun x y H Q=>∃ (a b:Addr) (ps:List DP) (r c:Int) (p:DP),x = .ref a /\ y = .ref b /\ H a = some (.ext (DX a ps)) /\ (∀ p ∈ ps,SqT K H p.2.1 [.int p.1.1,.int p.1.2]) /\ SqT K H b [.int r,.int c] /\ p ∈ ps /\ p.1 = (r,c) /\ Q (.int p.2.2.1) H
theorem ve8 {ps:List DP} {p:DP} (hn:((dxs ps).map (·.1)).Nodup) (hp:p ∈ ps):atKey (dxs ps) [p.1.1,p.1.2] = some (p.2.1,.int p.2.2.1 p.2.2.2):=by
 obtain ⟨i,hi⟩:=List.getElem?_of_mem hp
 refine atKey_of_get hn (i:=i) ?_
 unfold dxs
 rw [List.getElem?_map,hi]; rfl
section
variable {X:Cx}
theorem vd7 (hu:X.A.units + 1 < cLine):IxR X (rDX X.K):=by
 intro value slice pins s σ H x y v u Q I rx ry h hs
 refine x6_8 h fun a b ps r c p zo6 zo7 ha hk hb hp he q=>?_
 clear h
 obtain rfl:=zo6
 obtain rfl:=zo7
 cases rx
 cases ry
 refine x0_3 ((show ObjOk X.prog X.w H s.heap a (.ext (DX a ps)) from I.hok a _ ha)) fun dx _ _=>?_
 have dd:s.heap.DictOfH (tupleKind (intKind X.prog X.w)) a (dxs ps):=dx.dict fun p hp=>jy3 I (hk p hp)
 have hT:s.TypeIs (.ref a) "dict":=dd.typeIs
 have hn:((dxs ps).map (·.1)).Nodup:=by obtain ⟨_,_,_,_,_,_,_,_,z⟩:=dd; exact z
 have at':=ve8 hn hp
 rw [he] at at'
 unfold subscriptTail
 refine wpAny_bind ?_
 rw [getitemInPython_of_ne hT.not_modules]
 refine wpAny_bind (wpAny_specialOf hT PySem.F.slot_dict_getitem.lookup ?_)
 have fin:wpAny (model X.prog X.w) X.A (subscripted slice false (.ref a) (.ref b)) (fun r s₃=>wpAny (model X.prog X.w) X.A (letTemporaryGo value (.ref a) r >>= fun _=>pure r) (EP X pins σ Q) X.xe s₃) X.xe s:=by
  rw [hs]
  refine wpAny_operating (wpAny_getItem_heap (tupleKind_room_in1 hu) (jy3 I hb) dd at' ?_)
  exact wpAny_bind (wpAny_letTemporaryGo (wpAny_pure ⟨.int p.2.2.1,H,I.tok _,⟨_,rfl⟩,q⟩))
 first
  | exact wpAny_pure (wpAny_bind fin)
  | exact wpAny_bind (wpAny_pure (wpAny_bind fin))
  | exact wpAny_bind fin
end
theorem kn0 {K:PySem.W.Frag} {C:Cfg} {H:Hp} {r c n:Int}:∀ (ps:List DP) {ds:List D},Reps K C H ds (dvs ps) -> jj2 ds r c = some n -> ∃ p ∈ ps,p.1 = (r,c) /\ p.2.2.1 = n
 | [],ds,w,h=>by
  cases ds with
  | nil=>simp [jj2] at h
  | cons d ds=>rw [Reps] at w; obtain ⟨v,r,e,_⟩:=w; cases e
 | p :: ps,ds,w,h=>by
  have e:dvs (p :: ps) = .int p.1.1 :: .int p.1.2 :: .int p.2.2.1 :: dvs ps:=rfl
  rw [e] at w
  match ds,w,h with
  | [],w,h=>simp [jj2] at h
  | [_],w,h=>simp [jj2] at h
  | [_,_],w,h=>simp [jj2] at h
  | d1 :: d2 :: d3 :: ds,w,h =>
   rw [Reps] at w
   obtain ⟨v1,r1,e1,q1,w⟩:=w
   rw [Reps] at w
   obtain ⟨v2,r2,e2,q2,w⟩:=w
   rw [Reps] at w
   obtain ⟨v3,r3,e3,q3,w⟩:=w
   subst e2
   subst e3
   injection e1 with e1 e4
   injection e4 with e2 e5
   injection e5 with e3 e6
   subst e1 e2 e3 e6
   cases d1 with
   | int r' =>
    cases d2 with
    | int c' =>
     cases d3 with
     | int n' =>
      rw [Rep] at q1 q2 q3
      injection q1 with q1
      injection q2 with q2
      injection q3 with q3
      rw [jj2] at h
      split at h
      ·rename_i hc
       cases h
       exact ⟨p,.head _,Prod.ext (q1.trans hc.1) (q2.trans hc.2),q3⟩
      ·obtain ⟨p',hp,h1⟩:=kn0 ps w h
       exact ⟨p',.tail _ hp,h1⟩
     | _=>simp [jj2] at h
    | _=>simp [jj2] at h
   | _=>simp [jj2] at h
theorem qo0 {a b d:D} (h:gGet a b = .ok d):∃ ds r c n,a = .brd 1 ds /\ b = .tup [.int r,.int c] /\ jj2 ds r c = some n /\ d = .int n:=by
 unfold gGet at h
 split at h
 ·split at h
  ·rename_i n hl
   cases h
   exact ⟨_,_,_,n,rfl,rfl,hl,rfl⟩
  ·cases h
 ·cases h
theorem qr7 {a b:D} {c:Addr} {p:Option Int}:gGet a b ≠ .ex c p:=by
 unfold gGet
 split
 ·split <;> exact fun h=>(by cases h)
 ·exact fun h=>(by cases h)
section
variable {X:Cx} {Cb:Addr} {G0:Hp} {Γ:List SK} {E:L2.St -> XK} {a b:Expr} {fa fb:DF} {κa κb:Kd} {pos:Pos}
theorem qp3 {K:PySem.W.Frag}:OpD K (cfgB Cb) (rDX K) gGet .new:=fun G0 Γ E σ A st H a b x y Q r qa qb q=>by
 cases hg:gGet a b with
 | bad=>rw [hg] at q; exact q.elim
 | ex c p=>exact absurd hg qr7
 | ok d =>
  rw [hg] at q
  refine x4_4 (qo0 hg) fun ds i c n zo4 zo5 hl zo7=>?_
  obtain rfl:=zo4
  obtain rfl:=zo5
  obtain rfl:=zo7
  rw [Rep] at qb
  have qa:=(show Rep K (cfgB Cb) H (.brd 1 ds) x from qa)
  rw [Rep] at qa
  refine x2_3 qa fun pa xs zo2 ob rs=>?_
  clear qa
  obtain rfl:=zo2
  refine x2_3 qb fun pb ys zo2 hb rb=>?_
  clear qb
  obtain rfl:=zo2
  have e2:=je0 (ns:=[i,c]) rb
  subst e2
  rcases ob with (⟨z,_⟩ | ⟨_,c',z,_⟩) | ⟨_,ps,rfl,h2,h3⟩
  ·cases z
  ·unfold xTag at z; lia
  ·refine x1_3 (kn0 ps rs hl) fun p hp hp1 hp2=>?_
   refine ⟨pa,pb,ps,i,c,p,rfl,rfl,h2,h3,hb,hp,hp1,?_⟩
   rw [hp2]
   exact q _ H (.refl _) (.flat r (.refl _) (by rw [noL] <;> simp) repI _)
theorem kk5 (hu:X.A.units + 1 < cLine) (ha:PE X a (tD X.K (cfgB Cb) G0 Γ E fa κa)) (hb:PE X b (tD X.K (cfgB Cb) G0 Γ E fb κb)) (hs:jm9 b):PE X (.Subscript a b pos) (tD X.K (cfgB Cb) G0 Γ E (dOp gGet fa fb) .new):=ve1 (vd7 hu) qp3 ha hb hs
end
end Dm
end T_Dw2
section T_Dx
namespace Dm
open PySem PySem.Spec PyProof.Rows L2
noncomputable def qq8 (K:PySem.W.Frag) (C:Cfg):V -> List V -> Hp -> VK -> Prop:=fun x xs H Q=>∃ v es d j,xs = [v] /\ Rep K C H (.lst es) x /\ Rep K C H d v /\ flat d = true /\ Q0 es = true /\ deps es <= 60 /\ es.findIdx? (fun e=>eqD e d) = some j /\ Q (.int j) H
theorem ju6 {h:Heap} {d:D}:∀ (es:List D) {ys:List Value},DAts h es ys -> ys.findIdx? (jt5 h d) = es.findIdx? fun e=>eqD e d
 | [],_,q=>by rw [DAts] at q; subst q; rfl
 | e :: es,_,q=>by
  rw [DAts] at q
  refine x2_3 q fun v r zo2 a b=>?_
  clear q
  obtain rfl:=zo2
  rw [List.findIdx?_cons,List.findIdx?_cons,jz2 a,ju6 es b]
section
variable {X:Cx} {C:Cfg}
theorem ks0 (hu:X.A.units + 64 < cLine):MtR X "list.index" (qq8 X.K C):=by
 intro pins s σ H x vs v us Q I rx rv h
 refine x4_8 h fun y es d j zo4 h1 h2 f1 f2 h3 hj q=>?_
 clear h
 obtain rfl:=zo4
 refine x1_2 rv.one fun u zo1 ru=>?_
 obtain rfl:=zo1
 have hd:=Inv.dat I d f1 h2 ru
 have he:=Inv.dat I (.lst es) (by rw [flat]; exact f2) h1 rx
 rw [DAt] at he
 refine x2_3 he fun a it zo2 zo3 p=>?_
 clear he
 obtain rfl:=zo2
 obtain ⟨o,n,e,hc,hdi,hda⟩:=zo3
 obtain ⟨oc,od,oda,os⟩:=o
 simp only at hc hdi hda
 subst hc hdi hda
 have hlen:it.size <= sizeLine:=by
  refine x2_3 (Rep.items h1) fun a' xs ea sq _=>?_
  subst ea
  cases rx
  refine x1_3 (I.list sq) fun its rv' pl hz=>?_
  refine x2_4 pl fun o' n' e' _ _ hd'=>?_
  clear pl
  rw [e] at e'; cases e'
  cases hd'
  have:=rv'.length
  simp; lia
 rw [<- ju6 es p,List.findIdx?_eq_some_iff_getElem] at hj
 refine x1_2 hj fun hj1 hj2 hj3=>?_
 clear hj
 refine call_meets PySem.F.slot_list_index ⟨_,e,rfl⟩ PySem.F.entry_list_index (PySem.F.args_list_index_2 _ _) (PySem.SeqAt.list_indexAt a it n none os u (jt5 s.heap d) j (by simpa using hj1) ?_ (by simpa using hj2) (fun m hm hlt=>by simpa using hj3 m hlt)) ⟨e,fun y hy=>je1 f1 hd f2 p (by show X.A.units + 1 + _ < _; lia) y (Array.mem_toList_iff.mpr hy),⟨.int j,H,I.tok _,⟨_,rfl⟩,q⟩⟩
 have:j < it.size:=by simpa using hj1
 have h24:sizeLine = 16777216:=by rw [sizeLine_eq]
 lia
end
noncomputable def jm2:D -> D -> R D:=fun a b=>match a with
 | .lst es=>if (flat b && Q0 es && decide (deps es <= 60)) = true then (match es.findIdx? (fun e=>eqD e b) with | some j=>.ok (.int (j:Nat)) | none=>.bad) else .bad
 | _=>.bad
theorem kv5 {a b d:D} (h:jm2 a b = .ok d):∃ es j,a = .lst es /\ flat b = true /\ Q0 es = true /\ deps es <= 60 /\ es.findIdx? (fun e=>eqD e b) = some j /\ d = .int (j:Nat):=by
 unfold jm2 at h
 split at h
 ·split at h
  ·rename_i hc
   simp only [Bool.and_eq_true,decide_eq_true_eq] at hc
   split at h
   ·rename_i j hj
    cases h
    exact ⟨_,j,rfl,hc.1.1,hc.1.2,hc.2,hj,rfl⟩
   ·cases h
  ·cases h
 ·cases h
theorem qb0 {a b:D} {c:Addr} {p:Option Int}:jm2 a b ≠ .ex c p:=by
 unfold jm2
 split
 ·split
  ·split <;> exact fun h=>(by cases h)
  ·exact fun h=>(by cases h)
 ·exact fun h=>(by cases h)
noncomputable def dIdx (fa fb:DF):DF:=fun st=>(fa st).bind fun a=>match a with | .lst es=>(fb st).bind fun b=>jm2 (.lst es) b | _=>.bad
section
variable {X:Cx} {C:Cfg} {G0:Hp} {Γ:List SK} {E:L2.St -> XK} {o b:Expr} {fa fb:DF} {κa κb:Kd} {apos cpos:Pos}
theorem jj0 (hu:X.A.units + 64 < cLine) (ho:PE X o (tD X.K C G0 Γ E fa κa)) (hb:PE X b (tD X.K C G0 Γ E fb κb)) (lb:κb.le .tmp = true:=by rfl) (hbase:attributeBase o "index" X.env (eval o X.env) = eval o X.env:=by rfl)
  (hfew:((backTo cpos (starEach [b] X.env)).all (fun x=>!x.1) && (backToKw cpos (keywordEach [] X.env)).all (fun x=>x.1.isSome) && decide (([b]:List Expr).length + ([]:List Keyword).length + (if ([]:List Keyword).isEmpty then 0 else 1) < 30)) = true:=by rfl)
  (hline:(apos.endLine == cpos.line) = true:=by rfl) (hs:starEach [b] X.env = [(false,eval b X.env)]:=by rfl) :
  PE X (.Call (.Attribute o "index" apos) [b] [] cpos) (tD X.K C G0 Γ E (dIdx fa fb) .new):=(qa5 PySem.F.plainAttrs_list PySem.F.slot_list_index PySem.F.type_list_index (ks0 (C:=C) hu) ho (j1 (κ:=.tmp) hb j6 lb hs) hbase hfew hline hs rfl).imp fun σ H Q zz=>by
 refine x2_2 zz fun A st r q=>?_
 clear zz
 refine ⟨A,st,r,?_⟩
 unfold dIdx R.bind at q
 cases ha:fa st with
 | bad=>rw [ha] at q; exact q
 | ex c p=>rw [ha] at q; exact q
 | ok da =>
  rw [ha] at q
  intro x H1 e1 w1
  dsimp only at q
  cases da with
  | lst es =>
   dsimp only at q
   refine x2_3 w1.rep.items fun p xs zo2 sq _=>?_
   obtain rfl:=zo2
   refine ⟨.inl ⟨rfl,xs,sq⟩,A,st,r.mono e1,?_⟩
   unfold j2 R.bind
   cases hb:fb st with
   | bad=>rw [hb] at q; exact q
   | ex c p=>rw [hb] at q; exact fun H' e'=>q H' (e1.trans e')
   | ok db =>
    rw [hb] at q
    dsimp only [aNil] at q ⊢
    intro vs H2 e2 w2
    cases hg:jm2 (.lst es) db with
    | bad=>rw [hg] at q; exact q.elim
    | ex c p=>exact absurd hg qb0
    | ok d =>
     rw [hg] at q
     refine x2_6 (kv5 hg) fun es' j e' f1 f2 h3 hj zo7=>?_
     obtain rfl:=zo7
     cases e'
     refine x1_2 (jk7 w2) fun v zo1 w3=>?_
     obtain rfl:=zo1
     exact ⟨v,es,db,j,rfl,w1.rep.same e2 _,w3,f1,f2,h3,hj,q _ H2 (e1.trans e2) (.flat r (e1.trans e2) (by rw [noL] <;> simp) repI _)⟩
  | _=>exact q.elim
end
theorem kc6 (ns:List Int):∀ k,k <= ns.length -> preSum (fun i=>ns.getD i 0) k = (ns.take k).sum
 | 0,_=>rfl
 | k + 1,h=>by
  have hk:k < ns.length:=by lia
  rw [preSum,kc6 ns k (by lia),List.take_succ_eq_append_getElem hk,List.sum_append]
  simp [hk]
noncomputable def minI (ns:List Int):Int:=ns.getD (argBest (fun i j=>decide (ns.getD i 0 < ns.getD j 0)) (ns.length - 1)) 0
theorem qr3 {ns:List Int} {n:Int} (h:n ∈ ns):minI ns <= n:=by
 obtain ⟨i,hi,rfl⟩:=List.mem_iff_getElem.mp h
 have:=(argBest_lt (fun i=>ns.getD i 0) (ns.length - 1)).2 i (by lia)
 simpa [minI,hi] using this
section
variable {X:Cx}
theorem jx6 {ns:List Int} {its:List Value} (rv:Vals (ns.map V.int) its) {i:Nat} {v:Value} (h:its.toArray[i]? = some v):∃ t,v = .int (ns.getD i 0) t:=by
 have h3:its[i]? = some v:=by simpa using h
 have hi:i < its.length:=(List.getElem?_eq_some_iff.mp h3).1
 have hl:its.length = ns.length:=by rw [<- rv.length,List.length_map]
 have hb:(ns.map V.int)[i]? = some (.int (ns.getD i 0)):=by
  rw [List.getElem?_map,List.getElem?_eq_getElem (by lia)]
  have:i < ns.length:=by lia
  simp [this]
 refine x1_2 (rv.get hb) fun u h1 h2=>?_
 rw [h1] at h3
 cases h3
 exact h2
theorem ku7 (hh:X.A.handled = none):CallR X (.builtin "sum") (fun xs H Q=>∃ (p:Addr) (ns:List Int),xs = [.ref p] /\ SqL X.K H p (ns.map V.int) /\ Q (.int ns.sum) H):=by
 intro pins s σ H xs us Q I r ⟨p,ns,e,hq,q⟩
 subst e
 refine x1_2 (kc2 r) fun u zo1 rx=>?_
 obtain rfl:=zo1
 cases rx
 refine x1_3 (I.list hq) fun its rv pl hz=>?_
 have hl:its.length = ns.length:=by rw [<- rv.length,List.length_map]
 have hlt:p < s.heap.objs.size:=by obtain ⟨o,h1,_⟩:=pl.isList; exact Heap.lt_size h1
 have keep:∀ b o,s.heap.get? b = some o -> (s.heap.push { cls:=.type "list_iterator",data:=.fields #[.ref p,.int 0 0] }).get? b = some o:=fun b o e=>Heap.get?_push_of_some _ e
 refine call_sum_walkG (wpAny_pyIter_list pl.isList ?_)
 refine ⟨s.heap.objs.size,_,_,_,_,_,fun i=>ns.getD i 0,rfl,Walks.list (A:=X.A.in1) hh _ p (Nat.ne_of_lt hlt) its.toArray,⟨⟨_,Heap.get?_push_size _ rfl,rfl,rfl⟩,pl.isList.at fun o e=>keep _ _ e⟩,?_,fun i v hP=>jx6 rv hP,fun h' tk t' hk=>?_⟩
 ·intro b hb
  simp only [List.mem_cons,List.not_mem_nil,or_false] at hb
  show b < (s.heap.push _).objs.size
  rw [Heap.size_push]
  first
   | (rcases hb with rfl | rfl; exact Nat.lt_succ_self _; exact Nat.lt_succ_of_lt hlt)
   | (subst hb; exact Nat.lt_succ_self _)
 ·refine ⟨.int ns.sum,H,I.kept fun b o e=>hk b o (by simpa using Nat.ne_of_lt (Heap.lt_size e)) (keep b o e),⟨t',?_⟩,q⟩
  rw [kc6 ns _ (by simp [hl]),List.take_of_length_le (by simp [hl])]
theorem kw0 (hh:X.A.handled = none):CallR X (.builtin "min") (fun xs H Q=>∃ (p:Addr) (ns:List Int),xs = [.ref p] /\ ns ≠ [] /\ SqL X.K H p (ns.map V.int) /\ Q (.int (minI ns)) H):=by
 intro pins s σ H xs us Q I r ⟨p,ns,e,hne,hq,q⟩
 subst e
 refine x1_2 (kc2 r) fun u zo1 rx=>?_
 obtain rfl:=zo1
 cases rx
 refine x1_3 (I.list hq) fun its rv pl hz=>?_
 have hl:its.length = ns.length:=by rw [<- rv.length,List.length_map]
 have hlt:p < s.heap.objs.size:=by obtain ⟨o,h1,_⟩:=pl.isList; exact Heap.lt_size h1
 have keep:∀ b o,s.heap.get? b = some o -> (s.heap.push { cls:=.type "list_iterator",data:=.fields #[.ref p,.int 0 0] }).get? b = some o:=fun b o e=>Heap.get?_push_of_some _ e
 have hpos:0 < ns.length:=List.length_pos_iff.mpr hne
 refine call_min_walk (wpAny_pyIter_list pl.isList ?_)
 refine ⟨s.heap.objs.size,_,_,_,_,_,fun i j=>decide (ns.getD i 0 < ns.getD j 0),rfl,Walks.list (A:=X.A.in1) hh _ p (Nat.ne_of_lt hlt) its.toArray,⟨⟨_,Heap.get?_push_size _ rfl,rfl,rfl⟩,pl.isList.at fun o e=>keep _ _ e⟩,?_,by simp; lia,CmpOf.ints_lt (fun i=>ns.getD i 0) fun i v hP=>jx6 rv hP,fun v h' tk hP hk=>?_⟩
 ·intro b hb
  simp only [List.mem_cons,List.not_mem_nil,or_false] at hb
  show b < (s.heap.push _).objs.size
  rw [Heap.size_push]
  first
   | (rcases hb with rfl | rfl; exact Nat.lt_succ_self _; exact Nat.lt_succ_of_lt hlt)
   | (subst hb; exact Nat.lt_succ_self _)
 ·obtain ⟨t,rfl⟩:=jx6 rv hP
  refine ⟨.int (minI ns),H,I.kept fun b o e=>hk b o (by simpa using Nat.ne_of_lt (Heap.lt_size e)) (keep b o e),⟨t,?_⟩,q⟩
  unfold minI
  rw [show its.toArray.size = ns.length by simp [hl]]
end
noncomputable def gSum:List D -> R D:=fun ds=>match ds with | [.lst es]=>(match jo0 es with | some ns=>.ok (.int ns.sum) | none=>.bad) | _=>.bad
noncomputable def gMin:List D -> R D:=fun ds=>match ds with | [.lst es]=>(match jo0 es with | some (n :: ns)=>.ok (.int (minI (n :: ns))) | _=>.bad) | _=>.bad
theorem qz9:bootBuiltins "sum" = some (.builtin "sum"):=by decide +kernel
theorem qx7:bootBuiltins "min" = some (.builtin "min"):=by decide +kernel
theorem qo8 {ds:List D} {d:D} (h:gSum ds = .ok d):∃ ns:List Int,ds = [.lst (ns.map D.int)] /\ d = .int ns.sum:=by
 unfold gSum at h
 split at h
 ·split at h
  ·rename_i ns hn
   cases h
   exact ⟨ns,by rw [jl2 hn],rfl⟩
  ·cases h
 ·cases h
theorem qs4 {ds:List D} {c:Addr} {p:Option Int}:gSum ds ≠ .ex c p:=by
 unfold gSum
 split
 ·split <;> exact fun h=>(by cases h)
 ·exact fun h=>(by cases h)
theorem qq5 {ds:List D} {d:D} (h:gMin ds = .ok d):∃ ns:List Int,ns ≠ [] /\ ds = [.lst (ns.map D.int)] /\ d = .int (minI ns):=by
 unfold gMin at h
 split at h
 ·split at h
  ·rename_i n ns hn
   cases h
   exact ⟨n :: ns,by simp,by rw [jl2 hn],rfl⟩
  ·cases h
 ·cases h
theorem qq1 {ds:List D} {c:Addr} {p:Option Int}:gMin ds ≠ .ex c p:=by
 unfold gMin
 split
 ·split <;> exact fun h=>(by cases h)
 ·exact fun h=>(by cases h)
section
variable {C:Cfg}
theorem qp0 {K:PySem.W.Frag}:FnD K C (fun xs H Q=>∃ (p:Addr) (ns:List Int),xs = [.ref p] /\ SqL K H p (ns.map V.int) /\ Q (.int ns.sum) H) gSum .new:=fun G0 Γ E σ A st H ds xs Q r w q=>by
 cases hg:gSum ds with
 | bad=>rw [hg] at q; exact q.elim
 | ex c p=>exact absurd hg qs4
 | ok d =>
  rw [hg] at q
  refine x1_2 (qo8 hg) fun ns zo1 zo2=>?_
  obtain rfl:=zo1
  obtain rfl:=zo2
  refine x1_2 (jk7 w) fun v zo1 w1=>?_
  obtain rfl:=zo1
  refine x2_3 w1.items fun p ys zo2 s t=>?_
  obtain rfl:=zo2
  have:=je0 t
  subst this
  exact ⟨p,ns,rfl,s,q _ H (.refl _) (.flat r (.refl _) (by rw [noL] <;> simp) repI _)⟩
theorem qu3 {K:PySem.W.Frag}:FnD K C (fun xs H Q=>∃ (p:Addr) (ns:List Int),xs = [.ref p] /\ ns ≠ [] /\ SqL K H p (ns.map V.int) /\ Q (.int (minI ns)) H) gMin .new:=fun G0 Γ E σ A st H ds xs Q r w q=>by
 cases hg:gMin ds with
 | bad=>rw [hg] at q; exact q.elim
 | ex c p=>exact absurd hg qq1
 | ok d =>
  rw [hg] at q
  refine x1_3 (qq5 hg) fun ns hne zo2 zo3=>?_
  obtain rfl:=zo2
  obtain rfl:=zo3
  refine x1_2 (jk7 w) fun v zo1 w1=>?_
  obtain rfl:=zo1
  refine x2_3 w1.items fun p ys zo2 s t=>?_
  obtain rfl:=zo2
  have:=je0 t
  subst this
  exact ⟨p,ns,rfl,hne,s,q _ H (.refl _) (.flat r (.refl _) (by rw [noL] <;> simp) repI _)⟩
end
end Dm
end T_Dx
section T_Dy
namespace Dm
open PySem PySem.Spec PyProof.Rows L2
section
variable {X:Cx} {pos:Pos}
noncomputable def vd2 (i j k:Nat) (ta:TA):TS:=fun D σ H=>ta σ H fun vs H1=>∃ v w u,vs = [v,w,u] /\ D.nx (((σ.set k (some u)).set j (some w)).set i (some v)) H1
theorem qo3 {i j k:Nat} {x y z:Str} {a b c:Expr} {ta:TA} {px py pz pt:Pos} {kt k2 pt2} (hc:X.calm = true) (hN:X.N.Nodup) (hi:X.N[i]? = some x) (hj:X.N[j]? = some y) (hk:X.N[k]? = some z)
  (hx:X.env.scope.names.lookup x = some .local) (hy:X.env.scope.names.lookup y = some .local) (hz:X.env.scope.names.lookup z = some .local) (ha:PA X [a,b,c] ta)
  (hw:swappedStores [.Tuple [.Name x px,.Name y py,.Name z pz] kt pt] (.Tuple [a,b,c] k2 pt2) X.env = pure (some [x,y,z]))
  (hs:swapsWithSole [.Tuple [.Name x px,.Name y py,.Name z pz] kt pt] (.Tuple [a,b,c] k2 pt2) pos.line X.env = pure false:=by rfl) :
  PS X (.Assign [.Tuple [.Name x px,.Name y py,.Name z pz] kt pt] (.Tuple [a,b,c] k2 pt2) pos) (vd2 i j k ta):=by
 intro pins s σ H D I h
 rw [exec_Assign_arm]
 refine wpAny_bind (wpAny_standAt ?_)
 rw [hs]
 refine wpAny_bind (wpAny_pure ?_)
 rw [if_neg (by decide)]
 refine wpAny_bind (Tuple_ (thn (ha _ pins s σ H _ I h) fun us s1 zz1=>?_))
 refine x2_3 zz1 fun vs H1 I1 r1 q1=>?_
 clear zz1
 obtain ⟨v,w,u,e1,q1⟩:=q1
 subst e1
 obtain ⟨u1,u2,u3,rfl,rv,rw',ru⟩ : ∃ u1 u2 u3,us = [u1,u2,u3] /\ L2.RelV v u1 /\ L2.RelV w u2 /\ L2.RelV u u3:=by
  cases r1 with
  | cons p q =>
   cases q with
   | cons p' q' =>
    cases q' with
    | cons p2 q2 =>
     cases q2
     exact ⟨_,_,_,rfl,p,p',p2⟩
 refine wpAny_newObj_type ?_ (by show 3 <= sizeLine; decide)
 have I2:L2.Inv X pins σ H1 { s1 with heap:=s1.heap.push { cls:=.type "tuple",data:=.seq [u1,u2,u3].toArray } }:=I1.kept (t':=s1.toks) fun b o e=>Heap.get?_push_of_some _ e
 rw [hw]
 refine wpAny_bind (wpAny_pure ?_)
 show wpAny (model X.prog X.w) X.A (do rule "assign.swapped-stores"; let items <- unpackItems (.ref s1.heap.objs.size) 3 none; assignInOrder [fun v=>bindName X.env z v,fun v=>bindName X.env y v,fun v=>bindName X.env x v] items.reverse; pure Flow.next) _ _ _
 refine wpAny_bind (wpAny_rule (wpAny_bind (unpackItems_tuple (items:=#[u1,u2,u3]) (I.ok.hd hc) (IsTup.new s1.heap _) fun h' hx'=>?_)))
 have I3:=I2.kept (h':=h') (t':=s1.toks) fun b o e=>hx' b o (Nat.ne_of_lt (Heap.lt_size e)) e
 show wpAny _ _ (assignInOrder [fun v=>bindName X.env z v,fun v=>bindName X.env y v,fun v=>bindName X.env x v] [u3,u2,u1] >>= fun _=>pure Flow.next) _ _ _
 refine wpAny_bind (assignInOrder_cons (wpAny_bindName (jf8 I3 hN hk (.inl hz) ru (fun s2 I4=>?_) (.inr hz))))
 refine assignInOrder_cons (wpAny_bindName (jf8 I4 hN hj (.inl hy) rw' (fun s3 I5=>?_) (.inr hy)))
 refine assignInOrder_cons (wpAny_bindName (jf8 I5 hN hi (.inl hx) rv (fun s4 I6=>assignInOrder_nil (wpAny_pure ?_)) (.inr hx)))
 exact ⟨_,H1,I6,q1⟩
end
section
variable {X:Cx} {C:Cfg} {G0:Hp} {Γ:List SK} {E:L2.St -> XK} {κr:Bool} {a b c:Expr} {fs:DA} {pos:Pos}
noncomputable def ka5 (i j k:Nat) (fs:DA):DS:=fun st=>match fs st with | .ok [a,b,c]=>.nx (((st.set k (some c)).set j (some b)).set i (some a)) | .ok _=>.bad | .ex c p=>.ex c p st | .bad=>.bad
theorem qs2 {i j k:Nat} {x y z:Str} {k1 k2 k3:SK} {px py pz pt:Pos} {kt kk pt2} (hc:X.calm = true) (hN:X.N.Nodup) (ha:PA X [a,b,c] (tDA X.K C G0 Γ E fs .new)) (hk1:Γ[i]? = some k1:=by rfl) (hk2:Γ[j]? = some k2:=by rfl) (hk3:Γ[k]? = some k3:=by rfl)
  (hl1:k1.takes .old = true:=by rfl) (hl2:k2.takes .old = true:=by rfl) (hl3:k3.takes .old = true:=by rfl) (hi:X.N[i]? = some x:=by rfl) (hj:X.N[j]? = some y:=by rfl) (hk:X.N[k]? = some z:=by rfl) (hx:X.env.scope.names.lookup x = some .local:=by rfl) (hy:X.env.scope.names.lookup y = some .local:=by rfl) (hz:X.env.scope.names.lookup z = some .local:=by rfl)
  (hw:swappedStores [.Tuple [.Name x px,.Name y py,.Name z pz] kt pt] (.Tuple [a,b,c] kk pt2) X.env = pure (some [x,y,z]):=by rfl)
  (hs:swapsWithSole [.Tuple [.Name x px,.Name y py,.Name z pz] kt pt] (.Tuple [a,b,c] kk pt2) pos.line X.env = pure false:=by rfl) :
  PS X (.Assign [.Tuple [.Name x px,.Name y py,.Name z pz] kt pt] (.Tuple [a,b,c] kk pt2) pos) (tDS X.K C G0 Γ E κr (ka5 i j k fs)):=(qo3 hc hN hi hj hk hx hy hz ha hw hs).imp fun D σ H zz=>by
 refine x2_2 zz fun A st r q=>?_
 clear zz
 refine ⟨A,st,r,?_⟩
 unfold ka5 at q
 cases hf:fs st with
 | bad=>rw [hf] at q; exact q
 | ex c p=>rw [hf] at q; exact fun H' e'=>q σ H' A (r.mono e') (q0 e')
 | ok ds =>
  rw [hf] at q
  match ds,q with
  | [a,b,c],q =>
   intro vs H1 e1 w
   rw [Reps] at w
   obtain ⟨v,r1,rfl,wa,w⟩:=w
   rw [Reps] at w
   obtain ⟨v2,r2,rfl,wb,w⟩:=w
   obtain ⟨v3,rfl,wc⟩:=jk7 w
   refine ⟨v,v2,v3,rfl,?_⟩
   have wa':Rep X.K C (er H1 A) a v:=wa.same (r.new_er e1) _
   have wb':Rep X.K C (er H1 A) b v2:=wb.same (r.new_er e1) _
   have wc':Rep X.K C (er H1 A) c v3:=wc.same (r.new_er e1) _
   refine x1_3 ((r.mono e1).set (.refl _) hk3 hl3 (κ:=.old) wc') fun A1 s1 ee1 _=>?_
   refine x1_3 (s1.set (.refl _) hk2 hl2 (κ:=.old) (wb'.same ee1 _)) fun A2 s2 ee2 _=>?_
   refine x1_3 (s2.set (.refl _) hk1 hl1 (κ:=.old) (wa'.same (ee1.trans ee2) _)) fun A3 s3 ee3 _=>?_
   exact q _ _ A3 s3 ((((q0 e1).trans ee1).trans ee2).trans ee3)
  | [],q=>exact q.elim
  | [_],q=>exact q.elim
  | [_,_],q=>exact q.elim
  | _ :: _ :: _ :: _ :: _,q=>exact q.elim
end
noncomputable def gIs (neg:Bool):D -> D -> R D:=fun a b=>match a,b with | .bl x,.bl y=>.ok (.bl (if neg then x != y else x == y)) | _,_=>.bad
noncomputable def rIsB (neg:Bool):R2:=fun x y H Q=>∃ a b,x = .bl a /\ y = .bl b /\ Q (.bl (if neg then a != b else a == b)) H
section
variable {X:Cx} {C:Cfg}
theorem kr0:OpR X (compareOp .IsNot) (rIsB true):=by
 intro pins s σ H x y v u Q I rx ry h
 refine x2_3 h fun a b zo2 zo3 q=>?_
 clear h
 obtain rfl:=zo2
 obtain rfl:=zo3
 cases rx
 cases ry
 have fin:EP X pins σ Q (.bool (a != b)) s:=⟨.bl (a != b),H,I,rfl,q⟩
 cases a <;> cases b <;> exact wpAny_of_eq (a:=.bool _) rfl fin
theorem qv2 {K:PySem.W.Frag} {neg:Bool}:OpD K C (rIsB neg) (gIs neg) .new:=fun G0 Γ E σ A st H a b x y Q r qa qb q=>by
 unfold gIs at q
 split at q
 ·rename_i d hd
  split at hd
  ·cases hd
   rw [Rep] at qa qb
   subst qa qb
   exact ⟨_,_,rfl,rfl,q _ H (.refl _) (.flat r (.refl _) (by rw [noL] <;> simp) repB _)⟩
  ·cases hd
 ·rename_i hd; split at hd <;> cases hd
 ·exact q.elim
end
end Dm
namespace Dm
theorem ql2 {u c:Nat} (h:u + 64 < c):u + 2 < c:=by lia
theorem kn2 {u c:Nat} (h:u + 64 < c):u + 1 < c:=by lia
end Dm
end T_Dy
section T_K07
namespace Pk
open PySem PySem.Spec PyProof.Rows L2 PySem.W Dm
noncomputable def top (i:Nat):Stmt:=PySem.Challenge.pw_pegleap_k07_whole_never_heavier.main.body.getD i (.Pass ⟨0,0,0,0⟩)
noncomputable abbrev jc2:Stmt:=top 9
noncomputable abbrev jh8:Stmt:=top 10
noncomputable abbrev Z8:Stmt:=top 11
noncomputable abbrev ji4:Stmt:=qt4 (top 12) 0
noncomputable abbrev ja8:Stmt:=top 13
noncomputable abbrev jc3:Stmt:=top 14
noncomputable abbrev jh2:Stmt:=top 15
noncomputable abbrev jq4:Stmt:=top 16
noncomputable abbrev Z9:Stmt:=top 19
noncomputable abbrev ja0:Stmt:=top 20
noncomputable abbrev ja7:Stmt:=top 21
noncomputable abbrev jk6:Stmt:=top 22
noncomputable abbrev jr0:Stmt:=top 23
noncomputable abbrev jl9:Stmt:=top 24
noncomputable abbrev je5:Stmt:=top 25
noncomputable abbrev W3:Stmt:=top 29
noncomputable abbrev kd8:Stmt:=top 30
noncomputable abbrev jk8:Stmt:=top 31
noncomputable abbrev Y3:Stmt:=top 33
noncomputable abbrev jd8:Stmt:=top 34
noncomputable abbrev W2:Stmt:=top 35
noncomputable abbrev Y2:Stmt:=top 36
noncomputable abbrev Y0:Stmt:=top 37
noncomputable abbrev ja9:Stmt:=top 38
noncomputable abbrev Q9:Stmt:=top 41
noncomputable abbrev Z7:Stmt:=top 42
noncomputable abbrev jb9:Stmt:=top 43
noncomputable abbrev ky6:Stmt:=top 45
structure Adr where
 c_PegError:Addr
 c_BadBoard:Addr
 c_BadPegs:Addr
 c_NoLeap:Addr
 c_BadWeights:Addr
 c_Board:Addr
 k_LAST:Tok
 k_MOST_CELLS:Tok
 k_LEAST:Tok
 k_MOST:Tok
 k_COLOURS:Tok
structure Txt (K:Frag) (mg:Str -> Option Value) (t:Adr):Prop where
 f_is_rising:Fn1 K mg "is_rising" "is_rising" jc2 ["cells"]
 f_is_cell:Fn1 K mg "is_cell" "is_cell" jh8 ["cell"]
 f_check_cells:Fn1 K mg "check_cells" "check_cells" Z8 ["cells"]
 f_check_pegs:Fn1 K mg "check_pegs" "check_pegs" ja8 ["board","pegs"]
 f_two_apart:Fn1 K mg "two_apart" "two_apart" jc3 ["cell"]
 f_between:Fn1 K mg "between" "between" jh2 ["cell","other"]
 f_leaps:Fn1 K mg "leaps" "leaps" jq4 ["board"]
 f_can_be_done:Fn1 K mg "can_be_done" "can_be_done" Z9 ["pegs","leap"]
 f_pegs_behind:Fn1 K mg "pegs_behind" "pegs_behind" ja0 ["pegs","leap"]
 f_open_leaps:Fn1 K mg "open_leaps" "open_leaps" ja7 ["board","pegs"]
 f_walked:Fn1 K mg "walked" "walked" jk6 ["board","pegs","row"]
 f_leapt:Fn1 K mg "leapt" "leapt" jr0 ["board","pegs","leap"]
 f_odd_on:Fn1 K mg "odd_on" "odd_on" jl9 ["colours","two"]
 f_class_of:Fn1 K mg "class_of" "class_of" je5 ["board","pegs"]
 f_check_weights:Fn1 K mg "check_weights" "check_weights" W3 ["board","weights"]
 f_fair:Fn1 K mg "fair" "fair" kd8 ["board","weights"]
 f_weight:Fn1 K mg "weight" "weight" jk8 ["board","weights","pegs"]
 f__law_cell_at:Fn1 K mg "_law_cell_at" "_law_cell_at" Y3 ["script","k"]
 f__law_mix:Fn1 K mg "_law_mix" "_law_mix" jd8 ["cell","k","many"]
 f__law_cells_by:Fn1 K mg "_law_cells_by" "_law_cells_by" W2 ["script","most"]
 f__law_pegs_by:Fn1 K mg "_law_pegs_by" "_law_pegs_by" Y2 ["cell","cells"]
 f__law_between:Fn1 K mg "_law_between" "_law_between" Y0 ["leap"]
 f__law_leaps:Fn1 K mg "_law_leaps" "_law_leaps" ja9 ["cells"]
 f__law_weights_by:Fn1 K mg "_law_weights_by" "_law_weights_by" Q9 ["cell","cells"]
 f__law_raised:Fn1 K mg "_law_raised" "_law_raised" Z7 ["cells","weights"]
 f__law_fair:Fn1 K mg "_law_fair" "_law_fair" jb9 ["cells","weights"]
 f_law:Fn1 K mg "law" "law" ky6 ["script"]
 n_abs:mg "abs" = none
 n_dict:mg "dict" = none
 n_enumerate:mg "enumerate" = none
 n_len:mg "len" = none
 n_list:mg "list" = none
 n_min:mg "min" = none
 n_range:mg "range" = none
 n_set:mg "set" = none
 n_sorted:mg "sorted" = none
 n_sum:mg "sum" = none
 n_zip:mg "zip" = none
 g_COLOURS:mg "COLOURS" = some (.int (3) t.k_COLOURS)
 g_LAST:mg "LAST" = some (.int (7) t.k_LAST)
 g_LEAST:mg "LEAST" = some (.int (-1000) t.k_LEAST)
 g_MOST:mg "MOST" = some (.int (1000) t.k_MOST)
 g_MOST_CELLS:mg "MOST_CELLS" = some (.int (24) t.k_MOST_CELLS)
 m_PegError:mg "PegError" = some (.ref t.c_PegError)
 m_BadBoard:mg "BadBoard" = some (.ref t.c_BadBoard)
 m_BadPegs:mg "BadPegs" = some (.ref t.c_BadPegs)
 m_NoLeap:mg "NoLeap" = some (.ref t.c_NoLeap)
 m_BadWeights:mg "BadWeights" = some (.ref t.c_BadWeights)
 m_Board:mg "Board" = some (.ref t.c_Board)
 e_BadBoard:exB K t.c_BadBoard [.type "ValueError",.type "Exception",.type "BaseException",.type "object"] "ValueError.__new__" = true
 e_BadPegs:exB K t.c_BadPegs [.type "ValueError",.type "Exception",.type "BaseException",.type "object"] "ValueError.__new__" = true
 e_BadWeights:exB K t.c_BadWeights [.type "ValueError",.type "Exception",.type "BaseException",.type "object"] "ValueError.__new__" = true
 clB:Cls K t.c_Board
 naB:NoAttr K t.c_Board "cells"
 iB:∃ a fd,Fun K "__init__" "Board.__init__" ji4 a fd /\ Mk K t.c_Board a /\ Binds K fd ["self","cells"] []
theorem kf9:ExcBaseFacts "ValueError" "ValueError.__new__" "ValueError.__init__" [.type "ValueError",.type "Exception",.type "BaseException",.type "object"]  :=PySem.F.excBase_ValueError
theorem je9:bootBuiltins "len" = some (.builtin "len"):=by decide +kernel
theorem jx4:bootBuiltins "list" = some (.type "list"):=by decide +kernel
noncomputable def J9 (t:Adr):List D -> R D:=J4 1 (dRet (dOp (gEq false) (dVar 0) (dUn jf9 (dVar 0))))
noncomputable def je4 (t:Adr):List D -> R D:=J4 1 (dRet (dAnd (ji3 gLe gLe (dC (.int 0)) (dOp gIx (dVar 0) (dC (.int 0))) (dC (.int (7)))) (ji3 gLe gLe (dC (.int 0)) (dOp gIx (dVar 0) (dC (.int 1))) (dC (.int (7))))))
noncomputable def w5 (t:Adr):List D -> R D:=J4 2 (dSeq (dIfS (dNot (ji3 gLe gLe (dC (.int 1)) (dFn gLen (j2 (dVar 0) aNil)) (dC (.int (24)))))
 (W9 t.c_BadBoard)
 J2)
 (dSeq (dIfS (dNot (dFn (J9 t) (j2 (dVar 0) aNil)))
 (W9 t.c_BadBoard)
 J2)
 (dFor (iLst (dVar 0)) (Q6 1)
 (dIfS (dNot (dFn (je4 t) (j2 (dVar 1) aNil)))
 (W9 t.c_BadBoard)
 J2))))
noncomputable def y7 (t:Adr):List D -> R D:=J4 3 (dSeq (dIfS (dNot (dFn (J9 t) (j2 (dVar 1) aNil)))
 (W9 t.c_BadPegs)
 J2)
 (dFor (iLst (dVar 1)) (Q6 2)
 (dIfS (dOp (gIn true) (dVar 2) (dUn U3 (dVar 0)))
 (W9 t.c_BadPegs)
 J2)))
noncomputable def Y6 (t:Adr):List D -> R D:=J4 3 (dSeq (dAsg 1 (v6 (dOp gIx (dVar 0) (dC (.int 0)))))
 (dSeq (dAsg 2 (v6 (dOp gIx (dVar 0) (dC (.int 1)))))
 (dRet (Z2 100 (j2 (z8 100 (j2 (dOp gSub (dVar 1) (dC (.int 2))) (j2 (v6 (dVar 2)) aNil))) (j2 (z8 100 (j2 (v6 (dVar 1)) (j2 (dOp gSub (dVar 2) (dC (.int 2))) aNil))) (j2 (z8 100 (j2 (v6 (dVar 1)) (j2 (dOp gAdd (dVar 2) (dC (.int 2))) aNil))) (j2 (z8 100 (j2 (dOp gAdd (dVar 1) (dC (.int 2))) (j2 (v6 (dVar 2)) aNil))) aNil))))))))
noncomputable def J6 (t:Adr):List D -> R D:=J4 2 (dRet (z8 100 (j2 (dOp gDiv (dOp gAdd (dOp gIx (dVar 0) (dC (.int 0))) (dOp gIx (dVar 1) (dC (.int 0)))) (dC (.int 2))) (j2 (dOp gDiv (dOp gAdd (dOp gIx (dVar 0) (dC (.int 1))) (dOp gIx (dVar 1) (dC (.int 1)))) (dC (.int 2))) aNil))))
noncomputable def jd7 (t:Adr):List D -> R D:=J4 4 (dSeq (dAsg 1 (Z2 100 aNil))
 (dSeq (dFor (iLst (dUn U3 (dVar 0))) (Q6 2)
 (dFor (iLst (dFn (Y6 t) (j2 (dVar 2) aNil))) (Q6 3)
 (dIfS (dAnd (dOp (gIn false) (dVar 3) (dUn U3 (dVar 0))) (dOp (gIn false) (dFn (J6 t) (j2 (dVar 2) (j2 (dVar 3) aNil))) (dUn U3 (dVar 0))))
 (dApp 1 (z8 100 (j2 (v6 (dVar 2)) (j2 (v6 (dVar 3)) aNil))))
 J2)))
 (dRet (dVar 1))))
noncomputable def Q1 (t:Adr):List D -> R D:=J4 2 (dRet (dAnd (dOp (gIn false) (dOp gIx (dVar 1) (dC (.int 0))) (dVar 0)) (dAnd (dOp (gIn true) (dOp gIx (dVar 1) (dC (.int 1))) (dVar 0)) (dOp (gIn false) (dFn (J6 t) (j2 (dOp gIx (dVar 1) (dC (.int 0))) (j2 (dOp gIx (dVar 1) (dC (.int 1))) aNil))) (dVar 0)))))
noncomputable def W8 (t:Adr):List D -> R D:=J4 3 (dSeq (dAsg 2 (z8 100 (j2 (v6 (dOp gIx (dVar 1) (dC (.int 0)))) (j2 (dFn (J6 t) (j2 (dOp gIx (dVar 1) (dC (.int 0))) (j2 (dOp gIx (dVar 1) (dC (.int 1))) aNil))) aNil))))
 (dRet (dFn ja4 (j2 (dOp gCat (jf7 (iLst (dVar 0)) 1 [2] (Q6 0) (dOp (gIn true) (dVar 0) (dVar 1)) (v6 (dVar 0))) (Z2 100 (j2 (v6 (dOp gIx (dVar 1) (dC (.int 1)))) aNil))) aNil))))
noncomputable def W4 (t:Adr):List D -> R D:=J4 2 (dSeq (jx5 (dFn (y7 t) (j2 (dVar 0) (j2 (dVar 1) aNil))))
 (dRet (jf7 (iLst (dFn (jd7 t) (j2 (dVar 0) aNil))) 1 [1] (Q6 0) (dFn (Q1 t) (j2 (dVar 1) (j2 (dVar 0) aNil))) (v6 (dVar 0)))))
noncomputable def jg1 (t:Adr):List D -> R D:=J4 7 (dSeq (jx5 (dFn (y7 t) (j2 (dVar 0) (j2 (dVar 1) aNil))))
 (dSeq (dAsg 3 (dFn jo3 (j2 (dVar 1) aNil)))
 (dSeq (dAsg 4 (dFn (jd7 t) (j2 (dVar 0) aNil)))
 (dSeq (dFor (iEnu (dVar 2)) (jj3 5 6)
 (dSeq (dIfS (dOr (dOp (gIn true) (dVar 6) (dVar 4)) (dNot (dFn (Q1 t) (j2 (dVar 3) (j2 (dVar 6) aNil)))))
 dBad
 J2)
 (dAsg 3 (dFn (W8 t) (j2 (dVar 3) (j2 (dVar 6) aNil))))))
 (dRet (dVar 3))))))
noncomputable def jn6 (t:Adr):List D -> R D:=J4 3 (dRet (dFn (jg1 t) (j2 (dVar 0) (j2 (dVar 1) (j2 (Z2 100 (j2 (v6 (dVar 2)) aNil)) aNil)))))
noncomputable def jc8 (t:Adr):List D -> R D:=J4 2 (dRet (dOp gMod (dFn gLen (j2 (jf7 (iLst (dVar 0)) 1 [1] (Q6 0) (dOp (gIn false) (dVar 0) (dVar 1)) (v6 (dVar 0))) aNil)) (dC (.int 2))))
noncomputable def Y8 (t:Adr):List D -> R D:=J4 4 (dSeq (jx5 (dFn (y7 t) (j2 (dVar 0) (j2 (dVar 1) aNil))))
 (dSeq (dAsg 2 (jf7 (iLst (dVar 1)) 1 [] (Q6 0) (dC (.bl true)) (dOp gMod (dOp gAdd (dOp gIx (dVar 0) (dC (.int 0))) (dOp gIx (dVar 0) (dC (.int 1)))) (dC (.int (3))))))
 (dSeq (dAsg 3 (jf7 (iLst (dVar 1)) 1 [] (Q6 0) (dC (.bl true)) (dOp gMod (dOp gSub (dOp gIx (dVar 0) (dC (.int 0))) (dOp gIx (dVar 0) (dC (.int 1)))) (dC (.int (3))))))
 (dRet (z8 100 (j2 (dFn (jc8 t) (j2 (dVar 2) (j2 (z8 100 (j2 (dC (.int 0)) (j2 (dC (.int 1)) aNil))) aNil))) (j2 (dFn (jc8 t) (j2 (dVar 2) (j2 (z8 100 (j2 (dC (.int 1)) (j2 (dC (.int 2)) aNil))) aNil))) (j2 (dFn (jc8 t) (j2 (dVar 3) (j2 (z8 100 (j2 (dC (.int 0)) (j2 (dC (.int 1)) aNil))) aNil))) (j2 (dFn (jc8 t) (j2 (dVar 3) (j2 (z8 100 (j2 (dC (.int 1)) (j2 (dC (.int 2)) aNil))) aNil))) aNil)))))))))
noncomputable def w9 (t:Adr):List D -> R D:=J4 3 (dSeq (dIfS (dOp (gEq true) (dFn gLen (j2 (dVar 1) aNil)) (dFn gLen (j2 (dUn U3 (dVar 0)) aNil)))
 (W9 t.c_BadWeights)
 J2)
 (dFor (iLst (dVar 1)) (Q6 2)
 (dIfS (dNot (ji3 gLe gLe (dC (.int (-1000))) (dVar 2) (dC (.int (1000)))))
 (W9 t.c_BadWeights)
 J2)))
noncomputable def ke2 (t:Adr):List D -> R D:=J4 4 (dSeq (jx5 (dFn (w9 t) (j2 (dVar 0) (j2 (dVar 1) aNil))))
 (dSeq (dAsg 2 (dOp gDZ (dUn U3 (dVar 0)) (dVar 1)))
 (dSeq (dFor (iLst (dFn (jd7 t) (j2 (dVar 0) aNil))) (Q6 3)
 (dIfS (dOp gLt (dOp gAdd (dOp gGet (dVar 2) (dOp gIx (dVar 3) (dC (.int 0)))) (dOp gGet (dVar 2) (dFn (J6 t) (j2 (dOp gIx (dVar 3) (dC (.int 0))) (j2 (dOp gIx (dVar 3) (dC (.int 1))) aNil))))) (dOp gGet (dVar 2) (dOp gIx (dVar 3) (dC (.int 1)))))
 (dRet (dC (.bl false)))
 J2))
 (dRet (dC (.bl true))))))
noncomputable def jc9 (t:Adr):List D -> R D:=J4 4 (dSeq (jx5 (dFn (w9 t) (j2 (dVar 0) (j2 (dVar 1) aNil))))
 (dSeq (jx5 (dFn (y7 t) (j2 (dVar 0) (j2 (dVar 2) aNil))))
 (dSeq (dAsg 3 (dOp gDZ (dUn U3 (dVar 0)) (dVar 1)))
 (dRet (dFn gSum (j2 (jf7 (iLst (dVar 2)) 1 [3] (Q6 0) (dC (.bl true)) (dOp gGet (dVar 1) (dVar 0))) aNil))))))
noncomputable def k8 (t:Adr):List D -> R D:=J4 2 (dSeq (dIfS (dOp gLt (dVar 1) (dFn gLen (j2 (dVar 0) aNil)))
 (dRet (v6 (dOp gIx (dVar 0) (dVar 1))))
 J2)
 (dRet (dC (.int 0))))
noncomputable def k9 (t:Adr):List D -> R D:=J4 5 (dSeq (dAsg 3 (Z2 100 (j2 (dC (.int 48271)) (j2 (dC (.int 69621)) (j2 (dC (.int 16807)) (j2 (dC (.int 39373)) (j2 (dC (.int 30269)) (j2 (dC (.int 40014)) (j2 (dC (.int 40692)) (j2 (dC (.int 50021)) (j2 (dC (.int 61687)) (j2 (dC (.int 71993)) (j2 (dC (.int 83869)) (j2 (dC (.int 95561)) (j2 (dC (.int 30307)) aNil)))))))))))))))
 (dSeq (dAsg 4 (dOp gMul (dOp gAdd (dOp gMod (dVar 0) (dC (.int 2147483647))) (dC (.int 12345))) (dOp gIx (dVar 3) (dOp gMod (dVar 1) (dC (.int 13))))))
 (dSeq (dAsg 4 (dOp gAdd (dOp gMul (dVar 4) (dOp gAdd (dOp gMul (dC (.int 2)) (dOp gDiv (dVar 1) (dC (.int 13)))) (dC (.int 1)))) (dOp gMul (dC (.int 977)) (dVar 1))))
 (dRet (dOp gMod (dOp gDiv (dOp gMod (dVar 4) (dC (.int 1000000007))) (dC (.int 7))) (dVar 2))))))
noncomputable def J0 (t:Adr):List D -> R D:=J4 9 (dSeq (dAsg 2 (dFn (k8 t) (j2 (dVar 0) (j2 (dC (.int 0)) aNil))))
 (dSeq (dPar 3 4 (j2 (dOp gAdd (dC (.int 1)) (dFn (k9 t) (j2 (dVar 2) (j2 (dC (.int 1)) (j2 (dC (.int 4)) aNil))))) (j2 (dOp gAdd (dC (.int 1)) (dFn (k9 t) (j2 (dVar 2) (j2 (dC (.int 2)) (j2 (dC (.int 6)) aNil))))) aNil)))
 (dSeq (dIfS (dOp (gEq false) (dOp gMod (dVar 2) (dC (.int 4))) (dC (.int 1)))
 (ke3 (jj3 3 4) (v6 (dOp gIx (Z2 100 (j2 (z8 100 (j2 (dOp gAdd (dC (.int 1)) (dOp gMod (dVar 3) (dC (.int 3)))) (j2 (dC (.int 8)) aNil))) (j2 (z8 100 (j2 (dC (.int 8)) (j2 (dOp gAdd (dC (.int 1)) (dOp gMod (dVar 4) (dC (.int 3)))) aNil))) aNil))) (dOp gMod (dOp gDiv (dVar 2) (dC (.int 4))) (dC (.int 2))))))
 J2)
 (dSeq (dPar 5 6 (j2 (dFn (k9 t) (j2 (dVar 2) (j2 (dC (.int 3)) (j2 (dOp gSub (dC (.int 9)) (dVar 3)) aNil)))) (j2 (dFn (k9 t) (j2 (dVar 2) (j2 (dC (.int 4)) (j2 (dOp gSub (dC (.int 9)) (dVar 4)) aNil)))) aNil)))
 (dSeq (dAsg 7 (Z2 100 aNil))
 (dSeq (dFor (iRng (j2 (dOp gMul (dVar 3) (dVar 4)) aNil)) (Q6 8)
 (dIfS (dOp gGt (dFn (k9 t) (j2 (dFn (k8 t) (j2 (dVar 0) (j2 (dC (.int 1)) aNil))) (j2 (dVar 8) (j2 (dC (.int 7)) aNil)))) (dC (.int 0)))
 (dApp 7 (z8 100 (j2 (dOp gAdd (dVar 5) (dOp gDiv (dVar 8) (dVar 4))) (j2 (dOp gAdd (dVar 6) (dOp gMod (dVar 8) (dVar 4))) aNil))))
 J2))
 (dSeq (dIfS (dOp (gEq false) (dFn gLen (j2 (dVar 7) aNil)) (dC (.int 0)))
 (dAsg 7 (Z2 100 (j2 (z8 100 (j2 (v6 (dVar 5)) (j2 (v6 (dVar 6)) aNil))) aNil)))
 J2)
 (dRet (dSl (dVar 7) none (some (dVar 1)))))))))))
noncomputable def U8 (t:Adr):List D -> R D:=J4 4 (dSeq (dAsg 2 (dFn (k9 t) (j2 (dVar 0) (j2 (dC (.int 40)) (j2 (dC (.int 4)) aNil)))))
 (dSeq (dIfS (dOp (gEq false) (dVar 2) (dC (.int 0)))
 (dSeq (dAsg 3 (dFn (k9 t) (j2 (dVar 0) (j2 (dC (.int 41)) (j2 (dFn gLen (j2 (dVar 1) aNil)) aNil)))))
 (dRet (dOp gCat (dSl (dVar 1) none (some (dVar 3))) (dSl (dVar 1) (some (dOp gAdd (dVar 3) (dC (.int 1)))) none))))
 J2)
 (dRet (jf7 (iEnu (dVar 1)) 2 [0,2] (jj3 0 1) (dOp gGt (dFn (k9 t) (j2 (dVar 2) (j2 (dVar 0) (j2 (dOp gIx (Z2 100 (j2 (dC (.int 0)) (j2 (dC (.int 2)) (j2 (dC (.int 3)) (j2 (dC (.int 4)) aNil))))) (dVar 3)) aNil)))) (dC (.int 0))) (v6 (dVar 1))))))
noncomputable def k7 (t:Adr):List D -> R D:=J4 1 (dRet (z8 100 (j2 (dOp gDiv (dOp gAdd (dOp gIx (dOp gIx (dVar 0) (dC (.int 0))) (dC (.int 0))) (dOp gIx (dOp gIx (dVar 0) (dC (.int 1))) (dC (.int 0)))) (dC (.int 2))) (j2 (dOp gDiv (dOp gAdd (dOp gIx (dOp gIx (dVar 0) (dC (.int 0))) (dC (.int 1))) (dOp gIx (dOp gIx (dVar 0) (dC (.int 1))) (dC (.int 1)))) (dC (.int 2))) aNil))))
noncomputable def J3 (t:Adr):List D -> R D:=J4 5 (dSeq (dAsg 1 (Z2 100 aNil))
 (dSeq (dFor (iLst (dVar 0)) (Q6 2)
 (dFor (iLst (dVar 0)) (Q6 3)
 (dSeq (dAsg 4 (dFn ja4 (j2 (Z2 100 (j2 (dFn gAbs (j2 (dOp gSub (dOp gIx (dVar 2) (dC (.int 0))) (dOp gIx (dVar 3) (dC (.int 0)))) aNil)) (j2 (dFn gAbs (j2 (dOp gSub (dOp gIx (dVar 2) (dC (.int 1))) (dOp gIx (dVar 3) (dC (.int 1)))) aNil)) aNil))) aNil)))
 (dIfS (dAnd (dOp (gEq false) (dVar 4) (Z2 100 (j2 (dC (.int 0)) (j2 (dC (.int 2)) aNil)))) (dOp (gIn false) (dFn (k7 t) (j2 (z8 100 (j2 (v6 (dVar 2)) (j2 (v6 (dVar 3)) aNil))) aNil)) (dVar 0)))
 (dApp 1 (z8 100 (j2 (v6 (dVar 2)) (j2 (v6 (dVar 3)) aNil))))
 J2))))
 (dRet (dFn ja4 (j2 (dVar 1) aNil)))))
noncomputable def U1 (t:Adr):List D -> R D:=J4 4 (dSeq (ke3 (jj3 2 3) (v6 (dOp gIx (Z2 100 (j2 (z8 100 (j2 (dC (.int 2)) (j2 (dC (.int 0)) aNil))) (j2 (z8 100 (j2 (dC (.int 5)) (j2 (dC (.int 1)) aNil))) (j2 (z8 100 (j2 (dC (.int 41)) (j2 (dC (.int 10)) aNil))) (j2 (z8 100 (j2 (dC (.int 2001)) (j2 (dC (.int 1000)) aNil))) aNil))))) (dFn (k9 t) (j2 (dVar 0) (j2 (dC (.int 30)) (j2 (dC (.int 4)) aNil)))))))
 (dRet (jf7 (iRng (j2 (dFn gLen (j2 (dVar 1) aNil)) aNil)) 1 [3,0,2] (Q6 0) (dC (.bl true)) (dOp gSub (dFn (k9 t) (j2 (dVar 2) (j2 (dOp gMul (dC (.int 2)) (dVar 0)) (j2 (dVar 3) aNil)))) (dVar 1)))))
noncomputable def ja1 (t:Adr):List D -> R D:=J4 9 (dSeq (dAsg 2 (dFn jo3 (j2 (dVar 1) aNil)))
 (dSeq (dFor (iRng (j2 (dFn gLen (j2 (dVar 0) aNil)) aNil)) (Q6 3)
 (dFor (iLst (dFn (J3 t) (j2 (dVar 0) aNil))) (jj3 4 5)
 (dSeq (ka5 6 7 8 (j2 (dIdx (dVar 0) (dVar 4)) (j2 (dIdx (dVar 0) (dFn (k7 t) (j2 (z8 100 (j2 (v6 (dVar 4)) (j2 (v6 (dVar 5)) aNil))) aNil))) (j2 (dIdx (dVar 0) (dVar 5)) aNil))))
 (dIfS (dOp gLt (dOp gAdd (dOp gIx (dVar 2) (dVar 6)) (dOp gIx (dVar 2) (dVar 7))) (dOp gIx (dVar 2) (dVar 8)))
 (dSet 2 (dVar 8) (dOp gAdd (dOp gIx (dVar 2) (dVar 6)) (dOp gIx (dVar 2) (dVar 7))))
 J2))))
 (dRet (dVar 2))))
noncomputable def Y7 (t:Adr):List D -> R D:=J4 5 (dSeq (dFor (iLst (dFn (J3 t) (j2 (dVar 0) aNil))) (jj3 2 3)
 (dSeq (dAsg 4 (dOp gAdd (dOp gIx (dVar 1) (dIdx (dVar 0) (dVar 2))) (dOp gIx (dVar 1) (dIdx (dVar 0) (dFn (k7 t) (j2 (z8 100 (j2 (v6 (dVar 2)) (j2 (v6 (dVar 3)) aNil))) aNil))))))
 (dIfS (dOp gLt (dVar 4) (dOp gIx (dVar 1) (dIdx (dVar 0) (dVar 3))))
 (dRet (dC (.bl false)))
 J2)))
 (dRet (dC (.bl true))))
noncomputable def kp3 (t:Adr):List D -> R D:=J4 11 (dSeq (dAsg 1 (dFn (J0 t) (j2 (dVar 0) (j2 (dC (.int 24)) aNil))))
 (dSeq (dAsg 2 (dFn (jr3 (w5 t)) (j2 (dFn jo3 (j2 (dVar 1) aNil)) aNil)))
 (dSeq (dAsg 3 (dFn (ja1 t) (j2 (dVar 1) (j2 (dFn (U1 t) (j2 (dFn (k8 t) (j2 (dVar 0) (j2 (dC (.int 3)) aNil))) (j2 (dVar 1) aNil))) aNil))))
 (dSeq (dIfS (dOr (dNot (dFn (Y7 t) (j2 (dVar 1) (j2 (dVar 3) aNil)))) (dOp gLt (dFn gMin (j2 (dVar 3) aNil)) (dUn gNeg (dC (.int 1000)))))
 (dAsg 3 (jf7 (iLst (dVar 1)) 1 [] (Q6 0) (dC (.bl true)) (dC (.int 1))))
 J2)
 (dSeq (dIfS (dOp (gIs true) (dFn (ke2 t) (j2 (dVar 2) (j2 (dVar 3) aNil))) (dC (.bl true)))
 (dRet (dC (.bl false)))
 J2)
 (dSeq (dAsg 4 (dFn (U8 t) (j2 (dFn (k8 t) (j2 (dVar 0) (j2 (dC (.int 2)) aNil))) (j2 (dVar 1) aNil))))
 (dSeq (dAsg 5 (dVar 4))
 (dSeq (dAsg 6 (Z2 100 aNil))
 (dSeq (dFor (iRng (j2 (dC (.int 15)) aNil)) (Q6 7)
 (dSeq (dAsg 8 (dFn (W4 t) (j2 (dVar 2) (j2 (dVar 5) aNil))))
 (dIfS (dOp gGt (dFn gLen (j2 (dVar 8) aNil)) (dC (.int 0)))
 (dSeq (dAsg 9 (v6 (dOp gIx (dVar 8) (dFn (k9 t) (j2 (dFn (k8 t) (j2 (dVar 0) (j2 (dC (.int 4)) aNil))) (j2 (dVar 7) (j2 (dFn gLen (j2 (dVar 8) aNil)) aNil)))))))
 (dSeq (dAsg 10 (dFn (jn6 t) (j2 (dVar 2) (j2 (dVar 5) (j2 (dVar 9) aNil)))))
 (dSeq (dIfS (dOr (dOp gGt (dFn (jc9 t) (j2 (dVar 2) (j2 (dVar 3) (j2 (dVar 10) aNil)))) (dFn (jc9 t) (j2 (dVar 2) (j2 (dVar 3) (j2 (dVar 5) aNil))))) (dOp (gEq true) (dFn gLen (j2 (dVar 10) aNil)) (dOp gSub (dFn gLen (j2 (dVar 5) aNil)) (dC (.int 1)))))
 (dRet (dC (.bl false)))
 J2)
 (dSeq (dIfS (dOp (gEq true) (dFn (Y8 t) (j2 (dVar 2) (j2 (dVar 10) aNil))) (dFn (Y8 t) (j2 (dVar 2) (j2 (dVar 5) aNil))))
 (dRet (dC (.bl false)))
 J2)
 (dSeq (dApp 6 (v6 (dVar 9)))
 (dAsg 5 (dVar 10)))))))
 J2)))
 (dRet (dOp (gEq false) (dFn (jg1 t) (j2 (dVar 2) (j2 (dVar 4) (j2 (dVar 6) aNil)))) (dVar 5))))))))))))
section
variable {P:Program} {w:World} {K:Frag} {mg:Str -> Option Value} {base:Heap} {t:Adr}
theorem kc1:FnScope ["cells"] ["cells"] (j4 jc2):=⟨rfl,rfl,rfl,by decide +kernel,rfl,by decide +kernel,by decide +kernel⟩
theorem kd4 (T:Txt K mg t):FD P w K mg base (cfgB t.c_Board) 1 "is_rising" ["cells"] 1 (J9 t) true :=
 ja6 (Γ:=[.par]) T.f_is_rising kc1 rfl (fun i h=>by match i,h with | 0,_=>rfl) fun f cdv A outer s H E hr =>
 by
 refine q8 ?_
 refine J8 (κ:=.new) ?_
 refine ka7 (κa:=.old) (κb:=.new) (ju5 hr.units) jl0 ?_ ?_ (Z4 _)
 exact j0 0 (pv 0)
 refine ko4 (κ:=.old) hr.hd hr.units T.n_sorted T.n_set ?_
 exact j0 0 (pv 0)
theorem kp0:FnScope ["cell"] ["cell"] (j4 jh8):=⟨rfl,rfl,rfl,by decide +kernel,rfl,by decide +kernel,by decide +kernel⟩
theorem ko0 (T:Txt K mg t):FD P w K mg base (cfgB t.c_Board) 1 "is_cell" ["cell"] 1 (je4 t) true :=
 ja6 (Γ:=[.par]) T.f_is_cell kp0 rfl (fun i h=>by match i,h with | 0,_=>rfl) fun f cdv A outer s H E hr =>
 by
 refine q8 ?_
 refine J8 (κ:=.new) ?_
 refine kz7 (κa:=.new) ?_ ?_
 refine kl9 (κa:=.new) (κb:=.old) (κc:=.new) kb1 kb1 jo1 jo1 ?_ ?_ ?_
 exact j5
 refine w6 (κa:=.old) (κb:=.new) ?_ ?_ (fun _ _=>rfl)
 exact j0 0 (pv 0)
 exact j5
 exact jk0 rfl T.g_LAST
 refine qj1 ?_
 refine kl9 (κa:=.new) (κb:=.old) (κc:=.new) kb1 kb1 jo1 jo1 ?_ ?_ ?_
 exact j5
 refine w6 (κa:=.old) (κb:=.new) ?_ ?_ (fun _ _=>rfl)
 exact j0 0 (pv 0)
 exact j5
 exact jk0 rfl T.g_LAST
theorem jj6:FnScope ["cells","cell"] ["cells"] (j4 Z8):=⟨rfl,rfl,rfl,by decide +kernel,rfl,by decide +kernel,by decide +kernel⟩
theorem ju0 (T:Txt K mg t) (G_is_rising:FD P w K mg base (cfgB t.c_Board) 1 "is_rising" ["cells"] 1 (J9 t) true) (G_is_cell:FD P w K mg base (cfgB t.c_Board) 1 "is_cell" ["cell"] 1 (je4 t) true):FD P w K mg base (cfgB t.c_Board) 2 "check_cells" ["cells"] 1 (w5 t) true :=
 ja6 (Γ:=[.par,.par]) T.f_check_cells jj6 rfl (fun i h=>by match i,h with | 0,_=>rfl) fun f cdv A outer s H E hr =>
 by
 refine j9 ?_ ?_
 refine jc7 ?_   ?_   W6
 refine js5 ?_
 refine ki3 (κa:=.new) (κb:=.new) (κc:=.new) kb1 kb1 jo1 jo1 ?_ ?_ ?_
 exact j5
 refine jb4 (κa:=.tmp) ja5 ?_
 refine z9 y6 rfl T.n_len je9 ?_
 refine j1 (κ:=.tmp) (κa:=.old) ?_ ?_
 exact j0 0 (pv 0)
 exact j6 (κ:=.tmp)
 exact jk0 rfl T.g_MOST_CELLS
 refine q8 ?_
 exact jb7 kf9 hr.hd T.m_BadBoard T.e_BadBoard (jy7 (all_cons (Z5 (n:=500) (by decide +kernel)) (all_cons (jp3 (n:=500) T.g_MOST_CELLS (by decide) (by decide +kernel)) (all_cons (Z5 (n:=500) (by decide +kernel)) kg8))) (by decide))
 refine j9 ?_ ?_
 refine jc7 ?_   ?_   W6
 refine js5 ?_
 refine kp2 (κ:=.new) ?_
 refine j7 (κ:=.tmp) G_is_rising hr (by decide) ?_ (j3 k6)
 refine j1 (κ:=.tmp) (κa:=.old) ?_ ?_
 exact j0 0 (pv 0)
 exact j6 (κ:=.tmp)
 refine q8 ?_
 exact jb7 kf9 hr.hd T.m_BadBoard T.e_BadBoard (Z5 (n:=500) (by decide +kernel))
 refine q8 ?_
 refine Q5 (κ:=.old) (v8 ⟨rfl,rfl⟩) rfl ?_ rfl (y4 (i:=1) (by exact jj6.nd) rfl (Or.inl rfl)) (U4 (i:=1) (k:=.par))   ?_
 exact j0 0 (pv 0)
 refine q8 ?_
 refine jc7 ?_   ?_   W6
 refine js5 ?_
 refine kp2 (κ:=.new) ?_
 refine j7 (κ:=.tmp) G_is_cell hr (by decide) ?_ (j3 k6)
 refine j1 (κ:=.tmp) (κa:=.old) ?_ ?_
 exact j0 1 (pv 1)
 exact j6 (κ:=.tmp)
 refine q8 ?_
 exact jb7 kf9 hr.hd T.m_BadBoard T.e_BadBoard (jy7 (all_cons (Z5 (n:=500) (by decide +kernel)) (all_cons (jp3 (n:=500) T.g_LAST (by decide) (by decide +kernel)) kg8)) (by decide))
theorem jl1:FnScope ["board","pegs","cell"] ["board","pegs"] (j4 ja8):=⟨rfl,rfl,rfl,by decide +kernel,rfl,by decide +kernel,by decide +kernel⟩
theorem jx3 (T:Txt K mg t) (G_is_rising:FD P w K mg base (cfgB t.c_Board) 1 "is_rising" ["cells"] 1 (J9 t) true):FD P w K mg base (cfgB t.c_Board) 2 "check_pegs" ["board","pegs"] 2 (y7 t) true :=
 ja6 (Γ:=[.par,.par,.par]) T.f_check_pegs jl1 rfl (fun i h=>by match i,h with | 0,_=>rfl | 1,_=>rfl) fun f cdv A outer s H E hr =>
 by
 refine j9 ?_ ?_
 refine jc7 ?_   ?_   W6
 refine js5 ?_
 refine kp2 (κ:=.new) ?_
 refine j7 (κ:=.tmp) G_is_rising hr (by decide) ?_ (j3 k6)
 refine j1 (κ:=.tmp) (κa:=.old) ?_ ?_
 exact j0 1 (pv 1)
 exact j6 (κ:=.tmp)
 refine q8 ?_
 exact jb7 kf9 hr.hd T.m_BadPegs T.e_BadPegs (Z5 (n:=500) (by decide +kernel))
 refine q8 ?_
 refine Q5 (κ:=.old) (v8 ⟨rfl,rfl⟩) rfl ?_ rfl (y4 (i:=2) (by exact jl1.nd) rfl (Or.inl rfl)) (U4 (i:=2) (k:=.par))   ?_
 exact j0 1 (pv 1)
 refine q8 ?_
 refine jc7 ?_   ?_   W6
 refine W1 (κa:=.old) (κb:=.old) (jm4 hr.units) jj4 ?_ ?_ (by with_unfolding_all rfl)
 exact j0 2 (pv 2)
 refine jf4 (κa:=.old) T.clB T.naB ?_
 exact j0 0 (pv 0)
 refine q8 ?_
 exact jb7 kf9 hr.hd T.m_BadPegs T.e_BadPegs (Z5 (n:=500) (by decide +kernel))
theorem jh9:FnScope ["cell","row","column"] ["cell"] (j4 jc3):=⟨rfl,rfl,rfl,by decide +kernel,rfl,by decide +kernel,by decide +kernel⟩
theorem kc3 (T:Txt K mg t):FD P w K mg base (cfgB t.c_Board) 1 "two_apart" ["cell"] 1 (Y6 t) true :=
 ja6 (Γ:=[.par,.par,.par]) T.f_two_apart jh9 rfl (fun i h=>by match i,h with | 0,_=>rfl) fun f cdv A outer s H E hr =>
 by
 refine j9 ?_ ?_
 refine J7 (i:=1) (k:=.par) (κ:=.new) ?_ ?_
 exact jh9.nd
 refine y8 (κ:=.old) ?_
 refine w6 (κa:=.old) (κb:=.new) ?_ ?_ (fun _ _=>rfl)
 exact j0 0 (pv 0)
 exact j5
 refine j9 ?_ ?_
 refine J7 (i:=2) (k:=.par) (κ:=.new) ?_ ?_
 exact jh9.nd
 refine y8 (κ:=.old) ?_
 refine w6 (κa:=.old) (κb:=.new) ?_ ?_ (fun _ _=>rfl)
 exact j0 0 (pv 0)
 exact j5
 refine q8 ?_
 refine J8 (κ:=.new) ?_
 refine jd3 ?_
 refine j1 (κ:=.new) (κa:=.new) ?_ ?_
 refine U6 ?_
 refine j1 (κ:=.new) (κa:=.new) ?_ ?_
 refine y9 (κa:=.old) (κb:=.new) jm6 jg2 ?_ ?_
 exact j0 1 (pv 1)
 exact j5
 refine j1 (κ:=.new) (κa:=.new) ?_ ?_
 refine y8 (κ:=.old) ?_
 exact j0 2 (pv 2)
 exact j6 (κ:=.new)
 refine j1 (κ:=.new) (κa:=.new) ?_ ?_
 refine U6 ?_
 refine j1 (κ:=.new) (κa:=.new) ?_ ?_
 refine y8 (κ:=.old) ?_
 exact j0 1 (pv 1)
 refine j1 (κ:=.new) (κa:=.new) ?_ ?_
 refine y9 (κa:=.old) (κb:=.new) jm6 jg2 ?_ ?_
 exact j0 2 (pv 2)
 exact j5
 exact j6 (κ:=.new)
 refine j1 (κ:=.new) (κa:=.new) ?_ ?_
 refine U6 ?_
 refine j1 (κ:=.new) (κa:=.new) ?_ ?_
 refine y8 (κ:=.old) ?_
 exact j0 1 (pv 1)
 refine j1 (κ:=.new) (κa:=.new) ?_ ?_
 refine y9 (κa:=.old) (κb:=.new) Y1 Q4 ?_ ?_
 exact j0 2 (pv 2)
 exact j5
 exact j6 (κ:=.new)
 refine j1 (κ:=.new) (κa:=.new) ?_ ?_
 refine U6 ?_
 refine j1 (κ:=.new) (κa:=.new) ?_ ?_
 refine y9 (κa:=.old) (κb:=.new) Y1 Q4 ?_ ?_
 exact j0 1 (pv 1)
 exact j5
 refine j1 (κ:=.new) (κa:=.new) ?_ ?_
 refine y8 (κ:=.old) ?_
 exact j0 2 (pv 2)
 exact j6 (κ:=.new)
 exact j6 (κ:=.new)
theorem ko5:FnScope ["cell","other"] ["cell","other"] (j4 jh2):=⟨rfl,rfl,rfl,by decide +kernel,rfl,by decide +kernel,by decide +kernel⟩
theorem kq1 (T:Txt K mg t):FD P w K mg base (cfgB t.c_Board) 1 "between" ["cell","other"] 2 (J6 t) true :=
 ja6 (Γ:=[.par,.par]) T.f_between ko5 rfl (fun i h=>by match i,h with | 0,_=>rfl | 1,_=>rfl) fun f cdv A outer s H E hr =>
 by
 refine q8 ?_
 refine J8 (κ:=.new) ?_
 refine U6 ?_
 refine j1 (κ:=.new) (κa:=.new) ?_ ?_
 refine y9 (κa:=.new) (κb:=.new) jh0 jh5 ?_ ?_
 refine y9 (κa:=.old) (κb:=.old) Y1 Q4 ?_ ?_
 refine w6 (κa:=.old) (κb:=.new) ?_ ?_ (fun _ _=>rfl)
 exact j0 0 (pv 0)
 exact j5
 refine w6 (κa:=.old) (κb:=.new) ?_ ?_ (fun _ _=>rfl)
 exact j0 1 (pv 1)
 exact j5
 exact j5
 refine j1 (κ:=.new) (κa:=.new) ?_ ?_
 refine y9 (κa:=.new) (κb:=.new) jh0 jh5 ?_ ?_
 refine y9 (κa:=.old) (κb:=.old) Y1 Q4 ?_ ?_
 refine w6 (κa:=.old) (κb:=.new) ?_ ?_ (fun _ _=>rfl)
 exact j0 0 (pv 0)
 exact j5
 refine w6 (κa:=.old) (κb:=.new) ?_ ?_ (fun _ _=>rfl)
 exact j0 1 (pv 1)
 exact j5
 exact j5
 exact j6 (κ:=.new)
theorem jo9:FnScope ["board","found","first","second"] ["board"] (j4 jq4):=⟨rfl,rfl,rfl,by decide +kernel,rfl,by decide +kernel,by decide +kernel⟩
theorem qi0 (T:Txt K mg t) (G_two_apart:FD P w K mg base (cfgB t.c_Board) 1 "two_apart" ["cell"] 1 (Y6 t) true) (G_between:FD P w K mg base (cfgB t.c_Board) 1 "between" ["cell","other"] 2 (J6 t) true):FD P w K mg base (cfgB t.c_Board) 2 "leaps" ["board"] 1 (jd7 t) true :=
 ja6 (Γ:=[.par,.own true,.par,.par]) T.f_leaps jo9 rfl (fun i h=>by match i,h with | 0,_=>rfl) fun f cdv A outer s H E hr =>
 by
 refine j9 ?_ ?_
 refine J7 (i:=1) (k:=(.own true)) (κ:=.new) ?_ ?_
 exact jo9.nd
 refine jd3 ?_
 exact j6 (κ:=.new)
 refine j9 ?_ ?_
 refine Q5 (κ:=.old) (v8 ⟨rfl,rfl⟩) rfl ?_ rfl (y4 (i:=2) (by exact jo9.nd) rfl (Or.inl rfl)) (U4 (i:=2) (k:=.par))   ?_
 refine jf4 (κa:=.old) T.clB T.naB ?_
 exact j0 0 (pv 0)
 refine q8 ?_
 refine Q5 (κ:=.new) (v8 ⟨rfl,rfl⟩) rfl ?_ rfl (y4 (i:=3) (by exact jo9.nd) rfl (Or.inl rfl)) (U4 (i:=3) (k:=.par))   ?_
 refine j7 (κ:=.tmp) G_two_apart hr (by decide) ?_ (j3 k6)
 refine j1 (κ:=.tmp) (κa:=.old) ?_ ?_
 exact j0 2 (pv 2)
 exact j6 (κ:=.tmp)
 refine q8 ?_
 refine jc7 ?_   ?_   W6
 refine PW.pt ?_
 refine qj3 ?_ ?_
 refine W1 (κa:=.old) (κb:=.old) (ju2 hr.units) jj4 ?_ ?_ (by with_unfolding_all rfl)
 exact j0 3 (pv 3)
 refine jf4 (κa:=.old) T.clB T.naB ?_
 exact j0 0 (pv 0)
 refine kx3 ?_
 refine W1 (κa:=.new) (κb:=.old) (ju2 hr.units) jj4 ?_ ?_ (by with_unfolding_all rfl)
 refine j7 (κ:=.tmp) G_between hr (by decide) ?_ (j3 (j3 k6))
 refine j1 (κ:=.tmp) (κa:=.old) ?_ ?_
 exact j0 2 (pv 2)
 refine j1 (κ:=.tmp) (κa:=.old) ?_ ?_
 exact j0 3 (pv 3)
 exact j6 (κ:=.tmp)
 refine jf4 (κa:=.old) T.clB T.naB ?_
 exact j0 0 (pv 0)
 refine q8 ?_
 refine ki5 (i:=1) (κ:=.new) (to:=tVar 1) ?_ rfl
 refine qa5 PySem.F.plainAttrs_list PySem.F.slot_list_append PySem.F.type_list_append jh6 (pv 1) ?_
 refine jf3 ?_ jl8
 refine U6 ?_
 refine j1 (κ:=.new) (κa:=.new) ?_ ?_
 refine y8 (κ:=.old) ?_
 exact j0 2 (pv 2)
 refine j1 (κ:=.new) (κa:=.new) ?_ ?_
 refine y8 (κ:=.old) ?_
 exact j0 3 (pv 3)
 exact j6 (κ:=.new)
 refine q8 ?_
 refine J8 (κ:=.tmn) ?_
 exact jc5 1 (pv 1)
theorem jt7:FnScope ["pegs","leap"] ["pegs","leap"] (j4 Z9):=⟨rfl,rfl,rfl,by decide +kernel,rfl,by decide +kernel,by decide +kernel⟩
theorem jt0 (T:Txt K mg t) (G_between:FD P w K mg base (cfgB t.c_Board) 1 "between" ["cell","other"] 2 (J6 t) true):FD P w K mg base (cfgB t.c_Board) 2 "can_be_done" ["pegs","leap"] 2 (Q1 t) true :=
 ja6 (Γ:=[.par,.par]) T.f_can_be_done jt7 rfl (fun i h=>by match i,h with | 0,_=>rfl | 1,_=>rfl) fun f cdv A outer s H E hr =>
 by
 refine q8 ?_
 refine J8 (κ:=.new) ?_
 refine kz7 (κa:=.new) ?_ ?_
 refine ka7 (κa:=.old) (κb:=.old) (ju2 hr.units) jj4 ?_ ?_ (by with_unfolding_all rfl)
 refine w6 (κa:=.old) (κb:=.new) ?_ ?_ (fun _ _=>rfl)
 exact j0 1 (pv 1)
 exact j5
 exact j0 0 (pv 0)
 refine kz7 (κa:=.new) ?_ ?_
 refine ka7 (κa:=.old) (κb:=.old) (jm4 hr.units) jj4 ?_ ?_ (by with_unfolding_all rfl)
 refine w6 (κa:=.old) (κb:=.new) ?_ ?_ (fun _ _=>rfl)
 exact j0 1 (pv 1)
 exact j5
 exact j0 0 (pv 0)
 refine qj1 ?_
 refine ka7 (κa:=.new) (κb:=.old) (ju2 hr.units) jj4 ?_ ?_ (by with_unfolding_all rfl)
 refine j7 (κ:=.tmp) G_between hr (by decide) ?_ (j3 (j3 k6))
 refine j1 (κ:=.tmp) (κa:=.old) ?_ ?_
 refine w6 (κa:=.old) (κb:=.new) ?_ ?_ (fun _ _=>rfl)
 exact j0 1 (pv 1)
 exact j5
 refine j1 (κ:=.tmp) (κa:=.old) ?_ ?_
 refine w6 (κa:=.old) (κb:=.new) ?_ ?_ (fun _ _=>rfl)
 exact j0 1 (pv 1)
 exact j5
 exact j6 (κ:=.tmp)
 exact j0 0 (pv 0)
theorem jj8:FnScope ["pegs","leap","taken"] ["pegs","leap"] (j4 ja0):=⟨rfl,rfl,rfl,by decide +kernel,rfl,by decide +kernel,by decide +kernel⟩
theorem jt4 (T:Txt K mg t) (G_between:FD P w K mg base (cfgB t.c_Board) 1 "between" ["cell","other"] 2 (J6 t) true):FD P w K mg base (cfgB t.c_Board) 2 "pegs_behind" ["pegs","leap"] 2 (W8 t) true :=
 ja6 (Γ:=[.par,.par,.par]) T.f_pegs_behind jj8 rfl (fun i h=>by match i,h with | 0,_=>rfl | 1,_=>rfl) fun f cdv A outer s H E hr =>
 by
 refine j9 ?_ ?_
 refine J7 (i:=2) (k:=.par) (κ:=.new) ?_ ?_
 exact jj8.nd
 refine U6 ?_
 refine j1 (κ:=.new) (κa:=.new) ?_ ?_
 refine y8 (κ:=.old) ?_
 refine w6 (κa:=.old) (κb:=.new) ?_ ?_ (fun _ _=>rfl)
 exact j0 1 (pv 1)
 exact j5
 refine j1 (κ:=.new) (κa:=.new) ?_ ?_
 refine j7 (κ:=.tmp) G_between hr (by decide) ?_ (j3 (j3 k6))
 refine j1 (κ:=.tmp) (κa:=.old) ?_ ?_
 refine w6 (κa:=.old) (κb:=.new) ?_ ?_ (fun _ _=>rfl)
 exact j0 1 (pv 1)
 exact j5
 refine j1 (κ:=.tmp) (κa:=.old) ?_ ?_
 refine w6 (κa:=.old) (κb:=.new) ?_ ?_ (fun _ _=>rfl)
 exact j0 1 (pv 1)
 exact j5
 exact j6 (κ:=.tmp)
 exact j6 (κ:=.new)
 refine q8 ?_
 refine J8 (κ:=.new) ?_
 refine jb4 (κa:=.tmp) jq0 ?_
 refine z9 (jh7 hr.units) rfl T.n_sorted jm3 ?_
 refine j1 (κ:=.tmp) (κa:=.new) ?_ ?_
 refine y9 (κa:=.new) (κb:=.new) qa4 kq7 ?_ ?_
 refine jj1 (n:=true) (z:=true) (tgs:=["cell"]) (caps:=[(2,"taken")]) ?_ (Blk.mk (κe:=.new) (n:=true) (z:=true) (tgs:=["cell"]) (caps:=[(2,"taken")]) rfl rfl (by decide +kernel) ?_ ?_ (by with_unfolding_all rfl) (by decide +kernel) ?_ (fun _ p hp=>by simp only [List.mem_cons,List.not_mem_nil,or_false] at hp; rcases hp with rfl <;> first | exact Or.inl rfl | exact Or.inr rfl) (U4 (i:=0) (k:=.par)) (fun fp s0 H0 L=>y4 (i:=0) (by exact (show List.Nodup (["cell","taken"]:List Str) from by decide +kernel)) rfl (Or.inl rfl) (Or.inr rfl)) (fun fp s0 H0 L=>jk9 ?_) (fun fp s0 H0 L=>?_) (fun _=>rfl) (fun h=>nomatch h))
 refine jk3 (κ:=.old) ?_ (fun _=>rfl)
 exact j0 0 (pv 0)
 exact jl5 (by intro p hp; simp only [List.mem_cons,List.not_mem_nil,or_false] at hp; rcases hp with rfl <;> rfl)
 exact jf0 (by rfl)
 exact ⟨⟨rfl,rfl,rfl,rfl⟩,trivial⟩
 refine W1 (κa:=.old) (κb:=.old) (jm4 hr.units) jj4 ?_ ?_ (by with_unfolding_all rfl)
 exact j0 0 (pv 0)
 exact j0 1 (pv 1)
 refine y8 (κ:=.old) ?_
 exact j0 0 (pv 0)
 refine jd3 ?_
 refine j1 (κ:=.new) (κa:=.new) ?_ ?_
 refine y8 (κ:=.old) ?_
 refine w6 (κa:=.old) (κb:=.new) ?_ ?_ (fun _ _=>rfl)
 exact j0 1 (pv 1)
 exact j5
 exact j6 (κ:=.new)
 exact j6 (κ:=.tmp)
theorem ka2:FnScope ["board","pegs"] ["board","pegs"] (j4 ja7):=⟨rfl,rfl,rfl,by decide +kernel,rfl,by decide +kernel,by decide +kernel⟩
theorem jz9 (T:Txt K mg t) (G_check_pegs:FD P w K mg base (cfgB t.c_Board) 2 "check_pegs" ["board","pegs"] 2 (y7 t) true) (G_leaps:FD P w K mg base (cfgB t.c_Board) 2 "leaps" ["board"] 1 (jd7 t) true) (G_can_be_done:FD P w K mg base (cfgB t.c_Board) 2 "can_be_done" ["pegs","leap"] 2 (Q1 t) true):FD P w K mg base (cfgB t.c_Board) 3 "open_leaps" ["board","pegs"] 2 (W4 t) true :=
 ja6 (Γ:=[.par,.par]) T.f_open_leaps ka2 rfl (fun i h=>by match i,h with | 0,_=>rfl | 1,_=>rfl) fun f cdv A outer s H E hr =>
 by
 refine j9 ?_ ?_
 refine jn2 (κ:=.new) ?_
 refine j7 (κ:=.tmp) G_check_pegs hr (by decide) ?_ (j3 (j3 k6))
 refine j1 (κ:=.tmp) (κa:=.old) ?_ ?_
 exact j0 0 (pv 0)
 refine j1 (κ:=.tmp) (κa:=.old) ?_ ?_
 exact j0 1 (pv 1)
 exact j6 (κ:=.tmp)
 refine q8 ?_
 refine J8 (κ:=.new) ?_
 refine jj1 (n:=true) (z:=true) (tgs:=["leap"]) (caps:=[(1,"pegs")]) ?_ (Blk.mk (κe:=.new) (n:=true) (z:=true) (tgs:=["leap"]) (caps:=[(1,"pegs")]) rfl rfl (by decide +kernel) ?_ ?_ (by with_unfolding_all rfl) (by decide +kernel) ?_ (fun _ p hp=>by simp only [List.mem_cons,List.not_mem_nil,or_false] at hp; rcases hp with rfl <;> first | exact Or.inl rfl | exact Or.inr rfl) (U4 (i:=0) (k:=.par)) (fun fp s0 H0 L=>y4 (i:=0) (by exact (show List.Nodup (["leap","pegs"]:List Str) from by decide +kernel)) rfl (Or.inl rfl) (Or.inr rfl)) (fun fp s0 H0 L=>jk9 ?_) (fun fp s0 H0 L=>?_) (fun _=>rfl) (fun h=>nomatch h))
 refine jk3 (κ:=.new) ?_ (fun _=>rfl)
 refine j7 (κ:=.tmp) G_leaps hr (by decide) ?_ (j3 k6)
 refine j1 (κ:=.tmp) (κa:=.old) ?_ ?_
 exact j0 0 (pv 0)
 exact j6 (κ:=.tmp)
 exact jl5 (by intro p hp; simp only [List.mem_cons,List.not_mem_nil,or_false] at hp; rcases hp with rfl <;> rfl)
 exact jf0 (by rfl)
 exact ⟨⟨rfl,rfl,rfl,rfl⟩,trivial⟩
 refine kp2 (κ:=.new) ?_
 refine j7 (κ:=.tmp) G_can_be_done hr (by decide) ?_ (j3 (j3 k6))
 refine j1 (κ:=.tmp) (κa:=.old) ?_ ?_
 exact j0 1 (pv 1)
 refine j1 (κ:=.tmp) (κa:=.old) ?_ ?_
 exact j0 0 (pv 0)
 exact j6 (κ:=.tmp)
 refine y8 (κ:=.old) ?_
 exact j0 0 (pv 0)
theorem je7:FnScope ["board","pegs","row","standing","all_leaps","at","leap"] ["board","pegs","row"] (j4 jk6):=⟨rfl,rfl,rfl,by decide +kernel,rfl,by decide +kernel,by decide +kernel⟩
theorem kw2 (T:Txt K mg t) (G_check_pegs:FD P w K mg base (cfgB t.c_Board) 2 "check_pegs" ["board","pegs"] 2 (y7 t) true) (G_leaps:FD P w K mg base (cfgB t.c_Board) 2 "leaps" ["board"] 1 (jd7 t) true) (G_can_be_done:FD P w K mg base (cfgB t.c_Board) 2 "can_be_done" ["pegs","leap"] 2 (Q1 t) true) (G_pegs_behind:FD P w K mg base (cfgB t.c_Board) 2 "pegs_behind" ["pegs","leap"] 2 (W8 t) true):FD P w K mg base (cfgB t.c_Board) 3 "walked" ["board","pegs","row"] 3 (jg1 t) true :=
 ja6 (Γ:=[.par,.par,.par,.loc,.par,.par,.par]) T.f_walked je7 rfl (fun i h=>by match i,h with | 0,_=>rfl | 1,_=>rfl | 2,_=>rfl) fun f cdv A outer s H E hr =>
 by
 refine j9 ?_ ?_
 refine jn2 (κ:=.new) ?_
 refine j7 (κ:=.tmp) G_check_pegs hr (by decide) ?_ (j3 (j3 k6))
 refine j1 (κ:=.tmp) (κa:=.old) ?_ ?_
 exact j0 0 (pv 0)
 refine j1 (κ:=.tmp) (κa:=.old) ?_ ?_
 exact j0 1 (pv 1)
 exact j6 (κ:=.tmp)
 refine j9 ?_ ?_
 refine J7 (i:=3) (k:=.loc) (κ:=.new) ?_ ?_
 exact je7.nd
 refine jb4 (κa:=.tmp) jp5 ?_
 refine ji1 jd2 rfl T.n_list jx4 ?_
 refine j1 (κ:=.tmp) (κa:=.old) ?_ ?_
 exact j0 1 (pv 1)
 exact j6 (κ:=.tmp)
 refine j9 ?_ ?_
 refine J7 (i:=4) (k:=.par) (κ:=.new) ?_ ?_
 exact je7.nd
 refine j7 (κ:=.tmp) G_leaps hr (by decide) ?_ (j3 k6)
 refine j1 (κ:=.tmp) (κa:=.old) ?_ ?_
 exact j0 0 (pv 0)
 exact j6 (κ:=.tmp)
 refine j9 ?_ ?_
 refine qo9 (v8 ⟨rfl,rfl⟩) rfl ?_ (jw5 rfl (Y4 (y4 (i:=5) (by exact je7.nd) rfl (Or.inl rfl)) (Y4 (y4 (i:=6) (by exact je7.nd) rfl (Or.inl rfl)) jn0))) (jn8 (i:=5) (j:=6) (k:=.par) (k':=.par))   ?_
 refine kr1 (κ:=.old) T.n_enumerate ?_ (fun _=>rfl)
 exact j0 2 (pv 2)
 refine j9 ?_ ?_
 refine jc7 ?_   ?_   W6
 refine PW.pt ?_
 refine qn1 ?_ ?_
 refine W1 (κa:=.old) (κb:=.old) (jm4 hr.units) jj4 ?_ ?_ (by with_unfolding_all rfl)
 exact j0 6 (pv 6)
 exact j0 4 (pv 4)
 refine kv7 ?_
 refine js5 ?_
 refine kp2 (κ:=.new) ?_
 refine j7 (κ:=.tmp) G_can_be_done hr (by decide) ?_ (j3 (j3 k6))
 refine j1 (κ:=.tmp) (κa:=.loc) ?_ ?_
 exact kg1 3 (pv 3)
 refine j1 (κ:=.tmp) (κa:=.old) ?_ ?_
 exact j0 6 (pv 6)
 exact j6 (κ:=.tmp)
 exact ql9
 refine q8 ?_
 refine J7 (i:=3) (k:=.loc) (κ:=.new) ?_ ?_
 exact je7.nd
 refine j7 (κ:=.tmp) G_pegs_behind hr (by decide) ?_ (j3 (j3 k6))
 refine j1 (κ:=.tmp) (κa:=.loc) ?_ ?_
 exact kg1 3 (pv 3)
 refine j1 (κ:=.tmp) (κa:=.old) ?_ ?_
 exact j0 6 (pv 6)
 exact j6 (κ:=.tmp)
 refine q8 ?_
 refine J8 (κ:=.loc) ?_
 exact kg1 3 (pv 3)
theorem qd6:FnScope ["board","pegs","leap"] ["board","pegs","leap"] (j4 jr0):=⟨rfl,rfl,rfl,by decide +kernel,rfl,by decide +kernel,by decide +kernel⟩
theorem qc4 (T:Txt K mg t) (G_walked:FD P w K mg base (cfgB t.c_Board) 3 "walked" ["board","pegs","row"] 3 (jg1 t) true):FD P w K mg base (cfgB t.c_Board) 4 "leapt" ["board","pegs","leap"] 3 (jn6 t) true :=
 ja6 (Γ:=[.par,.par,.par]) T.f_leapt qd6 rfl (fun i h=>by match i,h with | 0,_=>rfl | 1,_=>rfl | 2,_=>rfl) fun f cdv A outer s H E hr =>
 by
 refine q8 ?_
 refine J8 (κ:=.new) ?_
 refine j7 (κ:=.tmp) G_walked hr (by decide) ?_ (j3 (j3 (j3 k6)))
 refine j1 (κ:=.tmp) (κa:=.old) ?_ ?_
 exact j0 0 (pv 0)
 refine j1 (κ:=.tmp) (κa:=.old) ?_ ?_
 exact j0 1 (pv 1)
 refine j1 (κ:=.tmp) (κa:=.new) ?_ ?_
 refine jd3 ?_
 refine j1 (κ:=.new) (κa:=.new) ?_ ?_
 refine y8 (κ:=.old) ?_
 exact j0 2 (pv 2)
 exact j6 (κ:=.new)
 exact j6 (κ:=.tmp)
theorem kr9:FnScope ["colours","two"] ["colours","two"] (j4 jl9):=⟨rfl,rfl,rfl,by decide +kernel,rfl,by decide +kernel,by decide +kernel⟩
theorem kw4 (T:Txt K mg t):FD P w K mg base (cfgB t.c_Board) 1 "odd_on" ["colours","two"] 2 (jc8 t) true :=
 ja6 (Γ:=[.par,.par]) T.f_odd_on kr9 rfl (fun i h=>by match i,h with | 0,_=>rfl | 1,_=>rfl) fun f cdv A outer s H E hr =>
 by
 refine q8 ?_
 refine J8 (κ:=.new) ?_
 refine y9 (κa:=.new) (κb:=.new) jg7 jb0 ?_ ?_
 refine jb4 (κa:=.tmp) ja5 ?_
 refine z9 y6 rfl T.n_len je9 ?_
 refine j1 (κ:=.tmp) (κa:=.new) ?_ ?_
 refine jj1 (n:=true) (z:=true) (tgs:=["colour"]) (caps:=[(1,"two")]) ?_ (Blk.mk (κe:=.new) (n:=true) (z:=true) (tgs:=["colour"]) (caps:=[(1,"two")]) rfl rfl (by decide +kernel) ?_ ?_ (by with_unfolding_all rfl) (by decide +kernel) ?_ (fun _ p hp=>by simp only [List.mem_cons,List.not_mem_nil,or_false] at hp; rcases hp with rfl <;> first | exact Or.inl rfl | exact Or.inr rfl) (U4 (i:=0) (k:=.par)) (fun fp s0 H0 L=>y4 (i:=0) (by exact (show List.Nodup (["colour","two"]:List Str) from by decide +kernel)) rfl (Or.inl rfl) (Or.inr rfl)) (fun fp s0 H0 L=>jk9 ?_) (fun fp s0 H0 L=>?_) (fun _=>rfl) (fun h=>nomatch h))
 refine jk3 (κ:=.old) ?_ (fun _=>rfl)
 exact j0 0 (pv 0)
 exact jl5 (by intro p hp; simp only [List.mem_cons,List.not_mem_nil,or_false] at hp; rcases hp with rfl <;> rfl)
 exact jf0 (by rfl)
 exact ⟨⟨rfl,rfl,rfl,rfl⟩,trivial⟩
 refine W1 (κa:=.old) (κb:=.old) (ju2 hr.units) jj4 ?_ ?_ (by with_unfolding_all rfl)
 exact j0 0 (pv 0)
 exact j0 1 (pv 1)
 refine y8 (κ:=.old) ?_
 exact j0 0 (pv 0)
 exact j6 (κ:=.tmp)
 exact j5
theorem jk1:FnScope ["board","pegs","by_sum","by_difference"] ["board","pegs"] (j4 je5):=⟨rfl,rfl,rfl,by decide +kernel,rfl,by decide +kernel,by decide +kernel⟩
theorem kg0 (T:Txt K mg t) (G_check_pegs:FD P w K mg base (cfgB t.c_Board) 2 "check_pegs" ["board","pegs"] 2 (y7 t) true) (G_odd_on:FD P w K mg base (cfgB t.c_Board) 1 "odd_on" ["colours","two"] 2 (jc8 t) true):FD P w K mg base (cfgB t.c_Board) 3 "class_of" ["board","pegs"] 2 (Y8 t) true :=
 ja6 (Γ:=[.par,.par,.par,.par]) T.f_class_of jk1 rfl (fun i h=>by match i,h with | 0,_=>rfl | 1,_=>rfl) fun f cdv A outer s H E hr =>
 by
 refine j9 ?_ ?_
 refine jn2 (κ:=.new) ?_
 refine j7 (κ:=.tmp) G_check_pegs hr (by decide) ?_ (j3 (j3 k6))
 refine j1 (κ:=.tmp) (κa:=.old) ?_ ?_
 exact j0 0 (pv 0)
 refine j1 (κ:=.tmp) (κa:=.old) ?_ ?_
 exact j0 1 (pv 1)
 exact j6 (κ:=.tmp)
 refine j9 ?_ ?_
 refine jz6 (i:=2) (k:=.par) (n:=true) (z:=true) (tgs:=["cell"]) (caps:=[]) ?_ ?_ (Blk.mk (κe:=.new) (n:=true) (z:=true) (tgs:=["cell"]) (caps:=[]) rfl rfl (by decide +kernel) ?_ ?_ (by with_unfolding_all rfl) (by decide +kernel) ?_ (fun _ p hp=>by cases hp) (U4 (i:=0) (k:=.par)) (fun fp s0 H0 L=>y4 (i:=0) (by exact (show List.Nodup (["cell"]:List Str) from by decide +kernel)) rfl (Or.inl rfl) (Or.inr rfl)) (fun fp s0 H0 L=>jh1 (ft:=dC (.bl true))) (fun fp s0 H0 L=>?_) (fun _=>rfl) (fun h=>nomatch h))
 exact jk1.nd
 refine jk3 (κ:=.old) ?_ (fun _=>rfl)
 exact j0 1 (pv 1)
 exact jl5 (by intro p hp; cases hp)
 exact jf0 (by rfl)
 exact trivial
 refine y9 (κa:=.new) (κb:=.new) jg7 jb0 ?_ ?_
 refine y9 (κa:=.old) (κb:=.old) Y1 Q4 ?_ ?_
 refine w6 (κa:=.old) (κb:=.new) ?_ ?_ (fun _ _=>rfl)
 exact j0 0 (pv 0)
 exact j5
 refine w6 (κa:=.old) (κb:=.new) ?_ ?_ (fun _ _=>rfl)
 exact j0 0 (pv 0)
 exact j5
 exact jk0 rfl T.g_COLOURS
 refine j9 ?_ ?_
 refine jz6 (i:=3) (k:=.par) (n:=true) (z:=true) (tgs:=["cell"]) (caps:=[]) ?_ ?_ (Blk.mk (κe:=.new) (n:=true) (z:=true) (tgs:=["cell"]) (caps:=[]) rfl rfl (by decide +kernel) ?_ ?_ (by with_unfolding_all rfl) (by decide +kernel) ?_ (fun _ p hp=>by cases hp) (U4 (i:=0) (k:=.par)) (fun fp s0 H0 L=>y4 (i:=0) (by exact (show List.Nodup (["cell"]:List Str) from by decide +kernel)) rfl (Or.inl rfl) (Or.inr rfl)) (fun fp s0 H0 L=>jh1 (ft:=dC (.bl true))) (fun fp s0 H0 L=>?_) (fun _=>rfl) (fun h=>nomatch h))
 exact jk1.nd
 refine jk3 (κ:=.old) ?_ (fun _=>rfl)
 exact j0 1 (pv 1)
 exact jl5 (by intro p hp; cases hp)
 exact jf0 (by rfl)
 exact trivial
 refine y9 (κa:=.new) (κb:=.new) jg7 jb0 ?_ ?_
 refine y9 (κa:=.old) (κb:=.old) jm6 jg2 ?_ ?_
 refine w6 (κa:=.old) (κb:=.new) ?_ ?_ (fun _ _=>rfl)
 exact j0 0 (pv 0)
 exact j5
 refine w6 (κa:=.old) (κb:=.new) ?_ ?_ (fun _ _=>rfl)
 exact j0 0 (pv 0)
 exact j5
 exact jk0 rfl T.g_COLOURS
 refine q8 ?_
 refine J8 (κ:=.new) ?_
 refine U6 ?_
 refine j1 (κ:=.new) (κa:=.new) ?_ ?_
 refine j7 (κ:=.tmp) G_odd_on hr (by decide) ?_ (j3 (j3 k6))
 refine j1 (κ:=.tmp) (κa:=.old) ?_ ?_
 exact j0 2 (pv 2)
 refine j1 (κ:=.tmp) (κa:=.new) ?_ ?_
 refine U6 ?_
 refine j1 (κ:=.new) (κa:=.new) ?_ ?_
 exact j5
 refine j1 (κ:=.new) (κa:=.new) ?_ ?_
 exact j5
 exact j6 (κ:=.new)
 exact j6 (κ:=.tmp)
 refine j1 (κ:=.new) (κa:=.new) ?_ ?_
 refine j7 (κ:=.tmp) G_odd_on hr (by decide) ?_ (j3 (j3 k6))
 refine j1 (κ:=.tmp) (κa:=.old) ?_ ?_
 exact j0 2 (pv 2)
 refine j1 (κ:=.tmp) (κa:=.new) ?_ ?_
 refine U6 ?_
 refine j1 (κ:=.new) (κa:=.new) ?_ ?_
 exact j5
 refine j1 (κ:=.new) (κa:=.new) ?_ ?_
 exact j5
 exact j6 (κ:=.new)
 exact j6 (κ:=.tmp)
 refine j1 (κ:=.new) (κa:=.new) ?_ ?_
 refine j7 (κ:=.tmp) G_odd_on hr (by decide) ?_ (j3 (j3 k6))
 refine j1 (κ:=.tmp) (κa:=.old) ?_ ?_
 exact j0 3 (pv 3)
 refine j1 (κ:=.tmp) (κa:=.new) ?_ ?_
 refine U6 ?_
 refine j1 (κ:=.new) (κa:=.new) ?_ ?_
 exact j5
 refine j1 (κ:=.new) (κa:=.new) ?_ ?_
 exact j5
 exact j6 (κ:=.new)
 exact j6 (κ:=.tmp)
 refine j1 (κ:=.new) (κa:=.new) ?_ ?_
 refine j7 (κ:=.tmp) G_odd_on hr (by decide) ?_ (j3 (j3 k6))
 refine j1 (κ:=.tmp) (κa:=.old) ?_ ?_
 exact j0 3 (pv 3)
 refine j1 (κ:=.tmp) (κa:=.new) ?_ ?_
 refine U6 ?_
 refine j1 (κ:=.new) (κa:=.new) ?_ ?_
 exact j5
 refine j1 (κ:=.new) (κa:=.new) ?_ ?_
 exact j5
 exact j6 (κ:=.new)
 exact j6 (κ:=.tmp)
 exact j6 (κ:=.new)
theorem jg6:FnScope ["board","weights","number"] ["board","weights"] (j4 W3):=⟨rfl,rfl,rfl,by decide +kernel,rfl,by decide +kernel,by decide +kernel⟩
theorem jo4 (T:Txt K mg t):FD P w K mg base (cfgB t.c_Board) 1 "check_weights" ["board","weights"] 2 (w9 t) true :=
 ja6 (Γ:=[.par,.par,.par]) T.f_check_weights jg6 rfl (fun i h=>by match i,h with | 0,_=>rfl | 1,_=>rfl) fun f cdv A outer s H E hr =>
 by
 refine j9 ?_ ?_
 refine jc7 ?_   ?_   W6
 refine W1 (κa:=.new) (κb:=.new) (ks2 hr.units) jl0 ?_ ?_ (Z4 _)
 refine jb4 (κa:=.tmp) ja5 ?_
 refine z9 y6 rfl T.n_len je9 ?_
 refine j1 (κ:=.tmp) (κa:=.old) ?_ ?_
 exact j0 1 (pv 1)
 exact j6 (κ:=.tmp)
 refine jb4 (κa:=.tmp) ja5 ?_
 refine z9 y6 rfl T.n_len je9 ?_
 refine j1 (κ:=.tmp) (κa:=.old) ?_ ?_
 refine jf4 (κa:=.old) T.clB T.naB ?_
 exact j0 0 (pv 0)
 exact j6 (κ:=.tmp)
 refine q8 ?_
 exact jb7 kf9 hr.hd T.m_BadWeights T.e_BadWeights (Z5 (n:=500) (by decide +kernel))
 refine q8 ?_
 refine Q5 (κ:=.old) (v8 ⟨rfl,rfl⟩) rfl ?_ rfl (y4 (i:=2) (by exact jg6.nd) rfl (Or.inl rfl)) (U4 (i:=2) (k:=.par))   ?_
 exact j0 1 (pv 1)
 refine q8 ?_
 refine jc7 ?_   ?_   W6
 refine js5 ?_
 refine ki3 (κa:=.new) (κb:=.old) (κc:=.new) kb1 kb1 jo1 jo1 ?_ ?_ ?_
 exact jk0 rfl T.g_LEAST
 exact j0 2 (pv 2)
 exact jk0 rfl T.g_MOST
 refine q8 ?_
 exact jb7 kf9 hr.hd T.m_BadWeights T.e_BadWeights (jy7 (all_cons (Z5 (n:=500) (by decide +kernel)) (all_cons (jp3 (n:=500) T.g_LEAST (by decide) (by decide +kernel)) (all_cons (Z5 (n:=500) (by decide +kernel)) (all_cons (jp3 (n:=500) T.g_MOST (by decide) (by decide +kernel)) kg8)))) (by decide))
theorem kf1:FnScope ["board","weights","by_cell","leap"] ["board","weights"] (j4 kd8):=⟨rfl,rfl,rfl,by decide +kernel,rfl,by decide +kernel,by decide +kernel⟩
theorem qp7 (T:Txt K mg t) (G_check_weights:FD P w K mg base (cfgB t.c_Board) 1 "check_weights" ["board","weights"] 2 (w9 t) true) (G_leaps:FD P w K mg base (cfgB t.c_Board) 2 "leaps" ["board"] 1 (jd7 t) true) (G_between:FD P w K mg base (cfgB t.c_Board) 1 "between" ["cell","other"] 2 (J6 t) true):FD P w K mg base (cfgB t.c_Board) 3 "fair" ["board","weights"] 2 (ke2 t) true :=
 ja6 (Γ:=[.par,.par,.par,.par]) T.f_fair kf1 rfl (fun i h=>by match i,h with | 0,_=>rfl | 1,_=>rfl) fun f cdv A outer s H E hr =>
 by
 refine j9 ?_ ?_
 refine jn2 (κ:=.new) ?_
 refine j7 (κ:=.tmp) G_check_weights hr (by decide) ?_ (j3 (j3 k6))
 refine j1 (κ:=.tmp) (κa:=.old) ?_ ?_
 exact j0 0 (pv 0)
 refine j1 (κ:=.tmp) (κa:=.old) ?_ ?_
 exact j0 1 (pv 1)
 exact j6 (κ:=.tmp)
 refine j9 ?_ ?_
 refine J7 (i:=2) (k:=.par) (κ:=.new) ?_ ?_
 exact kf1.nd
 refine ju7 (κa:=.old) (κb:=.old) rfl (ql2 hr.units) T.n_dict T.n_zip ?_ ?_
 refine jf4 (κa:=.old) T.clB T.naB ?_
 exact j0 0 (pv 0)
 exact j0 1 (pv 1)
 refine j9 ?_ ?_
 refine Q5 (κ:=.new) (v8 ⟨rfl,rfl⟩) rfl ?_ rfl (y4 (i:=3) (by exact kf1.nd) rfl (Or.inl rfl)) (U4 (i:=3) (k:=.par))   ?_
 refine j7 (κ:=.tmp) G_leaps hr (by decide) ?_ (j3 k6)
 refine j1 (κ:=.tmp) (κa:=.old) ?_ ?_
 exact j0 0 (pv 0)
 exact j6 (κ:=.tmp)
 refine q8 ?_
 refine jc7 ?_   ?_   W6
 refine W1 (κa:=.new) (κb:=.new) ku4 kb7 ?_ ?_ (Z4 _)
 refine y9 (κa:=.new) (κb:=.new) Y1 Q4 ?_ ?_
 refine kk5 (κa:=.old) (κb:=.old) (kn2 hr.units) ?_ ?_ (fun _ _=>rfl)
 exact j0 2 (pv 2)
 refine w6 (κa:=.old) (κb:=.new) ?_ ?_ (fun _ _=>rfl)
 exact j0 3 (pv 3)
 exact j5
 refine kk5 (κa:=.old) (κb:=.new) (kn2 hr.units) ?_ ?_ (fun _ _=>rfl)
 exact j0 2 (pv 2)
 refine j7 (κ:=.tmp) G_between hr (by decide) ?_ (j3 (j3 k6))
 refine j1 (κ:=.tmp) (κa:=.old) ?_ ?_
 refine w6 (κa:=.old) (κb:=.new) ?_ ?_ (fun _ _=>rfl)
 exact j0 3 (pv 3)
 exact j5
 refine j1 (κ:=.tmp) (κa:=.old) ?_ ?_
 refine w6 (κa:=.old) (κb:=.new) ?_ ?_ (fun _ _=>rfl)
 exact j0 3 (pv 3)
 exact j5
 exact j6 (κ:=.tmp)
 refine kk5 (κa:=.old) (κb:=.old) (kn2 hr.units) ?_ ?_ (fun _ _=>rfl)
 exact j0 2 (pv 2)
 refine w6 (κa:=.old) (κb:=.new) ?_ ?_ (fun _ _=>rfl)
 exact j0 3 (pv 3)
 exact j5
 refine q8 ?_
 refine J8 (κ:=.new) ?_
 exact kd7
 refine q8 ?_
 refine J8 (κ:=.new) ?_
 exact kd7
theorem kb8:FnScope ["board","weights","pegs","by_cell"] ["board","weights","pegs"] (j4 jk8):=⟨rfl,rfl,rfl,by decide +kernel,rfl,by decide +kernel,by decide +kernel⟩
theorem kw9 (T:Txt K mg t) (G_check_weights:FD P w K mg base (cfgB t.c_Board) 1 "check_weights" ["board","weights"] 2 (w9 t) true) (G_check_pegs:FD P w K mg base (cfgB t.c_Board) 2 "check_pegs" ["board","pegs"] 2 (y7 t) true):FD P w K mg base (cfgB t.c_Board) 3 "weight" ["board","weights","pegs"] 3 (jc9 t) true :=
 ja6 (Γ:=[.par,.par,.par,.par]) T.f_weight kb8 rfl (fun i h=>by match i,h with | 0,_=>rfl | 1,_=>rfl | 2,_=>rfl) fun f cdv A outer s H E hr =>
 by
 refine j9 ?_ ?_
 refine jn2 (κ:=.new) ?_
 refine j7 (κ:=.tmp) G_check_weights hr (by decide) ?_ (j3 (j3 k6))
 refine j1 (κ:=.tmp) (κa:=.old) ?_ ?_
 exact j0 0 (pv 0)
 refine j1 (κ:=.tmp) (κa:=.old) ?_ ?_
 exact j0 1 (pv 1)
 exact j6 (κ:=.tmp)
 refine j9 ?_ ?_
 refine jn2 (κ:=.new) ?_
 refine j7 (κ:=.tmp) G_check_pegs hr (by decide) ?_ (j3 (j3 k6))
 refine j1 (κ:=.tmp) (κa:=.old) ?_ ?_
 exact j0 0 (pv 0)
 refine j1 (κ:=.tmp) (κa:=.old) ?_ ?_
 exact j0 2 (pv 2)
 exact j6 (κ:=.tmp)
 refine j9 ?_ ?_
 refine J7 (i:=3) (k:=.par) (κ:=.new) ?_ ?_
 exact kb8.nd
 refine ju7 (κa:=.old) (κb:=.old) rfl (ql2 hr.units) T.n_dict T.n_zip ?_ ?_
 refine jf4 (κa:=.old) T.clB T.naB ?_
 exact j0 0 (pv 0)
 exact j0 1 (pv 1)
 refine q8 ?_
 refine J8 (κ:=.new) ?_
 refine jb4 (κa:=.tmp) qp0 ?_
 refine z9 (ku7 hr.hd) rfl T.n_sum qz9 ?_
 refine j1 (κ:=.tmp) (κa:=.new) ?_ ?_
 refine jj1 (n:=true) (z:=true) (tgs:=["cell"]) (caps:=[(3,"by_cell")]) ?_ (Blk.mk (κe:=.new) (n:=true) (z:=true) (tgs:=["cell"]) (caps:=[(3,"by_cell")]) rfl rfl (by decide +kernel) ?_ ?_ (by with_unfolding_all rfl) (by decide +kernel) ?_ (fun _ p hp=>by simp only [List.mem_cons,List.not_mem_nil,or_false] at hp; rcases hp with rfl <;> first | exact Or.inl rfl | exact Or.inr rfl) (U4 (i:=0) (k:=.par)) (fun fp s0 H0 L=>y4 (i:=0) (by exact (show List.Nodup (["cell","by_cell"]:List Str) from by decide +kernel)) rfl (Or.inl rfl) (Or.inr rfl)) (fun fp s0 H0 L=>jh1 (ft:=dC (.bl true))) (fun fp s0 H0 L=>?_) (fun _=>rfl) (fun h=>nomatch h))
 refine jk3 (κ:=.old) ?_ (fun _=>rfl)
 exact j0 2 (pv 2)
 exact jl5 (by intro p hp; simp only [List.mem_cons,List.not_mem_nil,or_false] at hp; rcases hp with rfl <;> rfl)
 exact jf0 (by rfl)
 exact ⟨⟨rfl,rfl,rfl,rfl⟩,trivial⟩
 refine kk5 (κa:=.old) (κb:=.old) (kn2 hr.units) ?_ ?_ (fun _ _=>rfl)
 exact j0 1 (pv 1)
 exact j0 0 (pv 0)
 exact j6 (κ:=.tmp)
theorem jr6:FnScope ["script","k"] ["script","k"] (j4 Y3):=⟨rfl,rfl,rfl,by decide +kernel,rfl,by decide +kernel,by decide +kernel⟩
theorem jq5 (T:Txt K mg t):FD P w K mg base (cfgB t.c_Board) 1 "_law_cell_at" ["script","k"] 2 (k8 t) true :=
 ja6 (Γ:=[.par,.par]) T.f__law_cell_at jr6 rfl (fun i h=>by match i,h with | 0,_=>rfl | 1,_=>rfl) fun f cdv A outer s H E hr =>
 by
 refine j9 ?_ ?_
 refine jc7 ?_   ?_   W6
 refine W1 (κa:=.old) (κb:=.new) ku4 kb7 ?_ ?_ (Z4 _)
 exact j0 1 (pv 1)
 refine jb4 (κa:=.tmp) ja5 ?_
 refine z9 y6 rfl T.n_len je9 ?_
 refine j1 (κ:=.tmp) (κa:=.old) ?_ ?_
 exact j0 0 (pv 0)
 exact j6 (κ:=.tmp)
 refine q8 ?_
 refine J8 (κ:=.new) ?_
 refine y8 (κ:=.old) ?_
 refine w6 (κa:=.old) (κb:=.old) ?_ ?_ (fun _ _=>rfl)
 exact j0 0 (pv 0)
 exact j0 1 (pv 1)
 refine q8 ?_
 refine J8 (κ:=.new) ?_
 exact j5
theorem jf6:FnScope ["cell","k","many","some","number"] ["cell","k","many"] (j4 jd8):=⟨rfl,rfl,rfl,by decide +kernel,rfl,by decide +kernel,by decide +kernel⟩
theorem kh0 (T:Txt K mg t):FD P w K mg base (cfgB t.c_Board) 1 "_law_mix" ["cell","k","many"] 3 (k9 t) true :=
 ja6 (Γ:=[.par,.par,.par,.par,.par]) T.f__law_mix jf6 rfl (fun i h=>by match i,h with | 0,_=>rfl | 1,_=>rfl | 2,_=>rfl) fun f cdv A outer s H E hr =>
 by
 refine j9 ?_ ?_
 refine J7 (i:=3) (k:=.par) (κ:=.new) ?_ ?_
 exact jf6.nd
 refine jd3 ?_
 refine j1 (κ:=.new) (κa:=.new) ?_ ?_
 exact j5
 refine j1 (κ:=.new) (κa:=.new) ?_ ?_
 exact j5
 refine j1 (κ:=.new) (κa:=.new) ?_ ?_
 exact j5
 refine j1 (κ:=.new) (κa:=.new) ?_ ?_
 exact j5
 refine j1 (κ:=.new) (κa:=.new) ?_ ?_
 exact j5
 refine j1 (κ:=.new) (κa:=.new) ?_ ?_
 exact j5
 refine j1 (κ:=.new) (κa:=.new) ?_ ?_
 exact j5
 refine j1 (κ:=.new) (κa:=.new) ?_ ?_
 exact j5
 refine j1 (κ:=.new) (κa:=.new) ?_ ?_
 exact j5
 refine j1 (κ:=.new) (κa:=.new) ?_ ?_
 exact j5
 refine j1 (κ:=.new) (κa:=.new) ?_ ?_
 exact j5
 refine j1 (κ:=.new) (κa:=.new) ?_ ?_
 exact j5
 refine j1 (κ:=.new) (κa:=.new) ?_ ?_
 exact j5
 exact j6 (κ:=.new)
 refine j9 ?_ ?_
 refine J7 (i:=4) (k:=.par) (κ:=.new) ?_ ?_
 exact jf6.nd
 refine y9 (κa:=.new) (κb:=.old) jw2 jn1 ?_ ?_
 refine y9 (κa:=.new) (κb:=.new) Y1 Q4 ?_ ?_
 refine y9 (κa:=.old) (κb:=.new) jg7 jb0 ?_ ?_
 exact j0 0 (pv 0)
 exact j5
 exact j5
 refine w6 (κa:=.old) (κb:=.new) ?_ ?_ (fun _ _=>rfl)
 exact j0 3 (pv 3)
 refine y9 (κa:=.old) (κb:=.new) jg7 jb0 ?_ ?_
 exact j0 1 (pv 1)
 exact j5
 refine j9 ?_ ?_
 refine J7 (i:=4) (k:=.par) (κ:=.new) ?_ ?_
 exact jf6.nd
 refine y9 (κa:=.new) (κb:=.new) Y1 Q4 ?_ ?_
 refine y9 (κa:=.old) (κb:=.new) jw2 jn1 ?_ ?_
 exact j0 4 (pv 4)
 refine y9 (κa:=.new) (κb:=.new) Y1 Q4 ?_ ?_
 refine y9 (κa:=.new) (κb:=.new) jw2 jn1 ?_ ?_
 exact j5
 refine y9 (κa:=.old) (κb:=.new) jh0 jh5 ?_ ?_
 exact j0 1 (pv 1)
 exact j5
 exact j5
 refine y9 (κa:=.new) (κb:=.old) jw2 jn1 ?_ ?_
 exact j5
 exact j0 1 (pv 1)
 refine q8 ?_
 refine J8 (κ:=.new) ?_
 refine y9 (κa:=.new) (κb:=.old) jg7 jb0 ?_ ?_
 refine y9 (κa:=.new) (κb:=.new) jh0 jh5 ?_ ?_
 refine y9 (κa:=.old) (κb:=.new) jg7 jb0 ?_ ?_
 exact j0 4 (pv 4)
 exact j5
 exact j5
 exact j0 2 (pv 2)
theorem y1:FnScope ["script","most","cell","height","width","down","across","some","k"] ["script","most"] (j4 W2):=⟨rfl,rfl,rfl,by decide +kernel,rfl,by decide +kernel,by decide +kernel⟩
theorem jo6 (T:Txt K mg t) (G__law_cell_at:FD P w K mg base (cfgB t.c_Board) 1 "_law_cell_at" ["script","k"] 2 (k8 t) true) (G__law_mix:FD P w K mg base (cfgB t.c_Board) 1 "_law_mix" ["cell","k","many"] 3 (k9 t) true):FD P w K mg base (cfgB t.c_Board) 2 "_law_cells_by" ["script","most"] 2 (J0 t) true :=
 ja6 (Γ:=[.par,.par,.par,.par,.par,.par,.par,.own true,.par]) T.f__law_cells_by y1 rfl (fun i h=>by match i,h with | 0,_=>rfl | 1,_=>rfl) fun f cdv A outer s H E hr =>
 by
 refine j9 ?_ ?_
 refine J7 (i:=2) (k:=.par) (κ:=.new) ?_ ?_
 exact y1.nd
 refine j7 (κ:=.tmp) G__law_cell_at hr (by decide) ?_ (j3 (j3 k6))
 refine j1 (κ:=.tmp) (κa:=.old) ?_ ?_
 exact j0 0 (pv 0)
 refine j1 (κ:=.tmp) (κa:=.new) ?_ ?_
 exact j5
 exact j6 (κ:=.tmp)
 refine j9 ?_ ?_
 refine qk0 (i:=3) (j:=4) (k:=.par) (k':=.par) rfl ?_ ?_ (by decide)
 exact y1.nd
 refine j1 (κ:=.new) (κa:=.new) ?_ ?_
 refine y9 (κa:=.new) (κb:=.new) Y1 Q4 ?_ ?_
 exact j5
 refine j7 (κ:=.tmp) G__law_mix hr (by decide) ?_ (j3 (j3 (j3 k6)))
 refine j1 (κ:=.tmp) (κa:=.old) ?_ ?_
 exact j0 2 (pv 2)
 refine j1 (κ:=.tmp) (κa:=.new) ?_ ?_
 exact j5
 refine j1 (κ:=.tmp) (κa:=.new) ?_ ?_
 exact j5
 exact j6 (κ:=.tmp)
 refine j1 (κ:=.new) (κa:=.new) ?_ ?_
 refine y9 (κa:=.new) (κb:=.new) Y1 Q4 ?_ ?_
 exact j5
 refine j7 (κ:=.tmp) G__law_mix hr (by decide) ?_ (j3 (j3 (j3 k6)))
 refine j1 (κ:=.tmp) (κa:=.old) ?_ ?_
 exact j0 2 (pv 2)
 refine j1 (κ:=.tmp) (κa:=.new) ?_ ?_
 exact j5
 refine j1 (κ:=.tmp) (κa:=.new) ?_ ?_
 exact j5
 exact j6 (κ:=.tmp)
 exact j6 (κ:=.new)
 refine j9 ?_ ?_
 refine jc7 ?_   ?_   W6
 refine W1 (κa:=.new) (κb:=.new) (ju5 hr.units) jl0 ?_ ?_ (Z4 _)
 refine y9 (κa:=.old) (κb:=.new) jg7 jb0 ?_ ?_
 exact j0 2 (pv 2)
 exact j5
 exact j5
 refine q8 ?_
 refine ky3 (κ:=.new) ?_ rfl (jw5 rfl (Y4 (y4 (i:=3) (by exact y1.nd) rfl (Or.inl rfl)) (Y4 (y4 (i:=4) (by exact y1.nd) rfl (Or.inl rfl)) jn0))) (jn8 (i:=3) (j:=4) (k:=.par) (k':=.par))
 refine y8 (κ:=.old) ?_
 refine w6 (κa:=.new) (κb:=.new) ?_ ?_ (fun _ _=>rfl)
 refine jd3 ?_
 refine j1 (κ:=.new) (κa:=.new) ?_ ?_
 refine U6 ?_
 refine j1 (κ:=.new) (κa:=.new) ?_ ?_
 refine y9 (κa:=.new) (κb:=.new) Y1 Q4 ?_ ?_
 exact j5
 refine y9 (κa:=.old) (κb:=.new) jg7 jb0 ?_ ?_
 exact j0 3 (pv 3)
 exact j5
 refine j1 (κ:=.new) (κa:=.new) ?_ ?_
 exact j5
 exact j6 (κ:=.new)
 refine j1 (κ:=.new) (κa:=.new) ?_ ?_
 refine U6 ?_
 refine j1 (κ:=.new) (κa:=.new) ?_ ?_
 exact j5
 refine j1 (κ:=.new) (κa:=.new) ?_ ?_
 refine y9 (κa:=.new) (κb:=.new) Y1 Q4 ?_ ?_
 exact j5
 refine y9 (κa:=.old) (κb:=.new) jg7 jb0 ?_ ?_
 exact j0 4 (pv 4)
 exact j5
 exact j6 (κ:=.new)
 exact j6 (κ:=.new)
 refine y9 (κa:=.new) (κb:=.new) jg7 jb0 ?_ ?_
 refine y9 (κa:=.old) (κb:=.new) jh0 jh5 ?_ ?_
 exact j0 2 (pv 2)
 exact j5
 exact j5
 refine j9 ?_ ?_
 refine qk0 (i:=5) (j:=6) (k:=.par) (k':=.par) rfl ?_ ?_ (by decide)
 exact y1.nd
 refine j1 (κ:=.new) (κa:=.new) ?_ ?_
 refine j7 (κ:=.tmp) G__law_mix hr (by decide) ?_ (j3 (j3 (j3 k6)))
 refine j1 (κ:=.tmp) (κa:=.old) ?_ ?_
 exact j0 2 (pv 2)
 refine j1 (κ:=.tmp) (κa:=.new) ?_ ?_
 exact j5
 refine j1 (κ:=.tmp) (κa:=.new) ?_ ?_
 refine y9 (κa:=.new) (κb:=.old) jm6 jg2 ?_ ?_
 exact j5
 exact j0 3 (pv 3)
 exact j6 (κ:=.tmp)
 refine j1 (κ:=.new) (κa:=.new) ?_ ?_
 refine j7 (κ:=.tmp) G__law_mix hr (by decide) ?_ (j3 (j3 (j3 k6)))
 refine j1 (κ:=.tmp) (κa:=.old) ?_ ?_
 exact j0 2 (pv 2)
 refine j1 (κ:=.tmp) (κa:=.new) ?_ ?_
 exact j5
 refine j1 (κ:=.tmp) (κa:=.new) ?_ ?_
 refine y9 (κa:=.new) (κb:=.old) jm6 jg2 ?_ ?_
 exact j5
 exact j0 4 (pv 4)
 exact j6 (κ:=.tmp)
 exact j6 (κ:=.new)
 refine j9 ?_ ?_
 refine J7 (i:=7) (k:=(.own true)) (κ:=.new) ?_ ?_
 exact y1.nd
 refine jd3 ?_
 exact j6 (κ:=.new)
 refine j9 ?_ ?_
 refine jg9 (κ:=.tmp) (v8 ⟨rfl,rfl⟩) rfl T.n_range ?_ (y4 (i:=8) (by exact y1.nd) rfl (Or.inl rfl)) (U4 (i:=8) (k:=.par))   ?_
 refine j1 (κ:=.tmp) (κa:=.new) ?_ ?_
 refine y9 (κa:=.old) (κb:=.old) jw2 jn1 ?_ ?_
 exact j0 3 (pv 3)
 exact j0 4 (pv 4)
 exact j6 (κ:=.tmp)
 refine q8 ?_
 refine jc7 ?_   ?_   W6
 refine W1 (κa:=.new) (κb:=.new) qi3 ki9 ?_ ?_ (Z4 _)
 refine j7 (κ:=.tmp) G__law_mix hr (by decide) ?_ (j3 (j3 (j3 k6)))
 refine j1 (κ:=.tmp) (κa:=.new) ?_ ?_
 refine j7 (κ:=.tmp) G__law_cell_at hr (by decide) ?_ (j3 (j3 k6))
 refine j1 (κ:=.tmp) (κa:=.old) ?_ ?_
 exact j0 0 (pv 0)
 refine j1 (κ:=.tmp) (κa:=.new) ?_ ?_
 exact j5
 exact j6 (κ:=.tmp)
 refine j1 (κ:=.tmp) (κa:=.old) ?_ ?_
 exact j0 8 (pv 8)
 refine j1 (κ:=.tmp) (κa:=.new) ?_ ?_
 exact j5
 exact j6 (κ:=.tmp)
 exact j5
 refine q8 ?_
 refine ki5 (i:=7) (κ:=.new) (to:=tVar 7) ?_ rfl
 refine qa5 PySem.F.plainAttrs_list PySem.F.slot_list_append PySem.F.type_list_append jh6 (pv 7) ?_
 refine jf3 ?_ jl8
 refine U6 ?_
 refine j1 (κ:=.new) (κa:=.new) ?_ ?_
 refine y9 (κa:=.old) (κb:=.new) Y1 Q4 ?_ ?_
 exact j0 5 (pv 5)
 refine y9 (κa:=.old) (κb:=.old) jh0 jh5 ?_ ?_
 exact j0 8 (pv 8)
 exact j0 4 (pv 4)
 refine j1 (κ:=.new) (κa:=.new) ?_ ?_
 refine y9 (κa:=.old) (κb:=.new) Y1 Q4 ?_ ?_
 exact j0 6 (pv 6)
 refine y9 (κa:=.old) (κb:=.old) jg7 jb0 ?_ ?_
 exact j0 8 (pv 8)
 exact j0 4 (pv 4)
 exact j6 (κ:=.new)
 refine j9 ?_ ?_
 refine jc7 ?_   ?_   W6
 refine W1 (κa:=.new) (κb:=.new) (ju5 hr.units) jl0 ?_ ?_ (Z4 _)
 refine jb4 (κa:=.tmp) ja5 ?_
 refine z9 y6 rfl T.n_len je9 ?_
 refine j1 (κ:=.tmp) (κa:=.tmn) ?_ ?_
 exact jc5 7 (pv 7)
 exact j6 (κ:=.tmp)
 exact j5
 refine q8 ?_
 refine J7 (i:=7) (k:=(.own true)) (κ:=.new) ?_ ?_
 exact y1.nd
 refine jd3 ?_
 refine j1 (κ:=.new) (κa:=.new) ?_ ?_
 refine U6 ?_
 refine j1 (κ:=.new) (κa:=.new) ?_ ?_
 refine y8 (κ:=.old) ?_
 exact j0 5 (pv 5)
 refine j1 (κ:=.new) (κa:=.new) ?_ ?_
 refine y8 (κ:=.old) ?_
 exact j0 6 (pv 6)
 exact j6 (κ:=.new)
 exact j6 (κ:=.new)
 refine q8 ?_
 refine J8 (κ:=.new) ?_
 refine jy2 (κa:=.tmn) ?_ ki1 ?_
 exact jc5 7 (pv 7)
 refine kf5 (κ:=.old) ?_
 exact j0 1 (pv 1)
theorem jc1:FnScope ["cell","cells","way","gone"] ["cell","cells"] (j4 Y2):=⟨rfl,rfl,rfl,by decide +kernel,rfl,by decide +kernel,by decide +kernel⟩
theorem jq6 (T:Txt K mg t) (G__law_mix:FD P w K mg base (cfgB t.c_Board) 1 "_law_mix" ["cell","k","many"] 3 (k9 t) true):FD P w K mg base (cfgB t.c_Board) 2 "_law_pegs_by" ["cell","cells"] 2 (U8 t) true :=
 ja6 (Γ:=[.par,.par,.par,.par]) T.f__law_pegs_by jc1 rfl (fun i h=>by match i,h with | 0,_=>rfl | 1,_=>rfl) fun f cdv A outer s H E hr =>
 by
 refine j9 ?_ ?_
 refine J7 (i:=2) (k:=.par) (κ:=.new) ?_ ?_
 exact jc1.nd
 refine j7 (κ:=.tmp) G__law_mix hr (by decide) ?_ (j3 (j3 (j3 k6)))
 refine j1 (κ:=.tmp) (κa:=.old) ?_ ?_
 exact j0 0 (pv 0)
 refine j1 (κ:=.tmp) (κa:=.new) ?_ ?_
 exact j5
 refine j1 (κ:=.tmp) (κa:=.new) ?_ ?_
 exact j5
 exact j6 (κ:=.tmp)
 refine j9 ?_ ?_
 refine jc7 ?_   ?_   W6
 refine W1 (κa:=.old) (κb:=.new) (ju5 hr.units) jl0 ?_ ?_ (Z4 _)
 exact j0 2 (pv 2)
 exact j5
 refine j9 ?_ ?_
 refine J7 (i:=3) (k:=.par) (κ:=.new) ?_ ?_
 exact jc1.nd
 refine j7 (κ:=.tmp) G__law_mix hr (by decide) ?_ (j3 (j3 (j3 k6)))
 refine j1 (κ:=.tmp) (κa:=.old) ?_ ?_
 exact j0 0 (pv 0)
 refine j1 (κ:=.tmp) (κa:=.new) ?_ ?_
 exact j5
 refine j1 (κ:=.tmp) (κa:=.new) ?_ ?_
 refine jb4 (κa:=.tmp) ja5 ?_
 refine z9 y6 rfl T.n_len je9 ?_
 refine j1 (κ:=.tmp) (κa:=.old) ?_ ?_
 exact j0 1 (pv 1)
 exact j6 (κ:=.tmp)
 exact j6 (κ:=.tmp)
 refine q8 ?_
 refine J8 (κ:=.new) ?_
 refine y9 (κa:=.new) (κb:=.new) qa4 kq7 ?_ ?_
 refine jy2 (κa:=.old) ?_ ki1 ?_
 exact j0 1 (pv 1)
 refine kf5 (κ:=.old) ?_
 exact j0 3 (pv 3)
 refine jy2 (κa:=.old) ?_ ?_ ki1
 exact j0 1 (pv 1)
 refine kf5 (κ:=.new) ?_
 refine y9 (κa:=.old) (κb:=.new) Y1 Q4 ?_ ?_
 exact j0 3 (pv 3)
 exact j5
 refine q8 ?_
 refine J8 (κ:=.new) ?_
 refine jj1 (n:=true) (z:=true) (tgs:=["k","one"]) (caps:=[(0,"cell"),(2,"way")]) ?_ (Blk.mk (κe:=.new) (n:=true) (z:=true) (tgs:=["k","one"]) (caps:=[(0,"cell"),(2,"way")]) rfl rfl (by decide +kernel) ?_ ?_ (by with_unfolding_all rfl) (by decide +kernel) ?_ (fun _ p hp=>by simp only [List.mem_cons,List.not_mem_nil,or_false] at hp; rcases hp with rfl | rfl <;> first | exact Or.inl rfl | exact Or.inr rfl) (jn8 (i:=0) (j:=1) (k:=.par) (k':=.par)) (fun fp s0 H0 L=>jw5 rfl (Y4 (y4 (i:=0) (by exact (show List.Nodup (["k","one","cell","way"]:List Str) from by decide +kernel)) rfl (Or.inl rfl) (Or.inr rfl)) (Y4 (y4 (i:=1) (by exact (show List.Nodup (["k","one","cell","way"]:List Str) from by decide +kernel)) rfl (Or.inl rfl) (Or.inr rfl)) jn0))) (fun fp s0 H0 L=>jk9 ?_) (fun fp s0 H0 L=>?_) (fun _=>rfl) (fun h=>nomatch h))
 refine kr1 (κ:=.old) T.n_enumerate ?_ (fun _=>rfl)
 exact j0 1 (pv 1)
 exact jl5 (by intro p hp; simp only [List.mem_cons,List.not_mem_nil,or_false] at hp; rcases hp with rfl | rfl <;> rfl)
 exact jf0 (by rfl)
 exact ⟨⟨rfl,rfl,rfl,rfl⟩,⟨⟨rfl,rfl,rfl,rfl⟩,trivial⟩⟩
 refine W1 (κa:=.new) (κb:=.new) qi3 ki9 ?_ ?_ (Z4 _)
 refine j7 (κ:=.tmp) G__law_mix hr (by decide) ?_ (j3 (j3 (j3 k6)))
 refine j1 (κ:=.tmp) (κa:=.old) ?_ ?_
 exact j0 2 (pv 2)
 refine j1 (κ:=.tmp) (κa:=.old) ?_ ?_
 exact j0 0 (pv 0)
 refine j1 (κ:=.tmp) (κa:=.old) ?_ ?_
 refine w6 (κa:=.new) (κb:=.old) ?_ ?_ (fun _ _=>rfl)
 refine jd3 ?_
 refine j1 (κ:=.new) (κa:=.new) ?_ ?_
 exact j5
 refine j1 (κ:=.new) (κa:=.new) ?_ ?_
 exact j5
 refine j1 (κ:=.new) (κa:=.new) ?_ ?_
 exact j5
 refine j1 (κ:=.new) (κa:=.new) ?_ ?_
 exact j5
 exact j6 (κ:=.new)
 exact j0 3 (pv 3)
 exact j6 (κ:=.tmp)
 exact j5
 refine y8 (κ:=.old) ?_
 exact j0 1 (pv 1)
theorem js4:FnScope ["leap"] ["leap"] (j4 Y0):=⟨rfl,rfl,rfl,by decide +kernel,rfl,by decide +kernel,by decide +kernel⟩
theorem js6 (T:Txt K mg t):FD P w K mg base (cfgB t.c_Board) 1 "_law_between" ["leap"] 1 (k7 t) true :=
 ja6 (Γ:=[.par]) T.f__law_between js4 rfl (fun i h=>by match i,h with | 0,_=>rfl) fun f cdv A outer s H E hr =>
 by
 refine q8 ?_
 refine J8 (κ:=.new) ?_
 refine U6 ?_
 refine j1 (κ:=.new) (κa:=.new) ?_ ?_
 refine y9 (κa:=.new) (κb:=.new) jh0 jh5 ?_ ?_
 refine y9 (κa:=.old) (κb:=.old) Y1 Q4 ?_ ?_
 refine w6 (κa:=.old) (κb:=.new) ?_ ?_ (fun _ _=>rfl)
 refine w6 (κa:=.old) (κb:=.new) ?_ ?_ (fun _ _=>rfl)
 exact j0 0 (pv 0)
 exact j5
 exact j5
 refine w6 (κa:=.old) (κb:=.new) ?_ ?_ (fun _ _=>rfl)
 refine w6 (κa:=.old) (κb:=.new) ?_ ?_ (fun _ _=>rfl)
 exact j0 0 (pv 0)
 exact j5
 exact j5
 exact j5
 refine j1 (κ:=.new) (κa:=.new) ?_ ?_
 refine y9 (κa:=.new) (κb:=.new) jh0 jh5 ?_ ?_
 refine y9 (κa:=.old) (κb:=.old) Y1 Q4 ?_ ?_
 refine w6 (κa:=.old) (κb:=.new) ?_ ?_ (fun _ _=>rfl)
 refine w6 (κa:=.old) (κb:=.new) ?_ ?_ (fun _ _=>rfl)
 exact j0 0 (pv 0)
 exact j5
 exact j5
 refine w6 (κa:=.old) (κb:=.new) ?_ ?_ (fun _ _=>rfl)
 refine w6 (κa:=.old) (κb:=.new) ?_ ?_ (fun _ _=>rfl)
 exact j0 0 (pv 0)
 exact j5
 exact j5
 exact j5
 exact j6 (κ:=.new)
theorem ja3:FnScope ["cells","found","one","two","apart"] ["cells"] (j4 ja9):=⟨rfl,rfl,rfl,by decide +kernel,rfl,by decide +kernel,by decide +kernel⟩
theorem jx0 (T:Txt K mg t) (G__law_between:FD P w K mg base (cfgB t.c_Board) 1 "_law_between" ["leap"] 1 (k7 t) true):FD P w K mg base (cfgB t.c_Board) 2 "_law_leaps" ["cells"] 1 (J3 t) true :=
 ja6 (Γ:=[.par,.own true,.par,.par,.par]) T.f__law_leaps ja3 rfl (fun i h=>by match i,h with | 0,_=>rfl) fun f cdv A outer s H E hr =>
 by
 refine j9 ?_ ?_
 refine J7 (i:=1) (k:=(.own true)) (κ:=.new) ?_ ?_
 exact ja3.nd
 refine jd3 ?_
 exact j6 (κ:=.new)
 refine j9 ?_ ?_
 refine Q5 (κ:=.old) (v8 ⟨rfl,rfl⟩) rfl ?_ rfl (y4 (i:=2) (by exact ja3.nd) rfl (Or.inl rfl)) (U4 (i:=2) (k:=.par))   ?_
 exact j0 0 (pv 0)
 refine q8 ?_
 refine Q5 (κ:=.old) (v8 ⟨rfl,rfl⟩) rfl ?_ rfl (y4 (i:=3) (by exact ja3.nd) rfl (Or.inl rfl)) (U4 (i:=3) (k:=.par))   ?_
 exact j0 0 (pv 0)
 refine j9 ?_ ?_
 refine J7 (i:=4) (k:=.par) (κ:=.new) ?_ ?_
 exact ja3.nd
 refine jb4 (κa:=.tmp) jq0 ?_
 refine z9 (jh7 hr.units) rfl T.n_sorted jm3 ?_
 refine j1 (κ:=.tmp) (κa:=.new) ?_ ?_
 refine jd3 ?_
 refine j1 (κ:=.new) (κa:=.new) ?_ ?_
 refine jb4 (κa:=.tmp) kt4 ?_
 refine z9 km1 rfl T.n_abs qj9 ?_
 refine j1 (κ:=.tmp) (κa:=.new) ?_ ?_
 refine y9 (κa:=.old) (κb:=.old) jm6 jg2 ?_ ?_
 refine w6 (κa:=.old) (κb:=.new) ?_ ?_ (fun _ _=>rfl)
 exact j0 2 (pv 2)
 exact j5
 refine w6 (κa:=.old) (κb:=.new) ?_ ?_ (fun _ _=>rfl)
 exact j0 3 (pv 3)
 exact j5
 exact j6 (κ:=.tmp)
 refine j1 (κ:=.new) (κa:=.new) ?_ ?_
 refine jb4 (κa:=.tmp) kt4 ?_
 refine z9 km1 rfl T.n_abs qj9 ?_
 refine j1 (κ:=.tmp) (κa:=.new) ?_ ?_
 refine y9 (κa:=.old) (κb:=.old) jm6 jg2 ?_ ?_
 refine w6 (κa:=.old) (κb:=.new) ?_ ?_ (fun _ _=>rfl)
 exact j0 2 (pv 2)
 exact j5
 refine w6 (κa:=.old) (κb:=.new) ?_ ?_ (fun _ _=>rfl)
 exact j0 3 (pv 3)
 exact j5
 exact j6 (κ:=.tmp)
 exact j6 (κ:=.new)
 exact j6 (κ:=.tmp)
 refine q8 ?_
 refine jc7 ?_   ?_   W6
 refine PW.pt ?_
 refine qj3 ?_ ?_
 refine W1 (κa:=.old) (κb:=.new) (ju5 hr.units) jl0 ?_ ?_ (Z4 _)
 exact j0 4 (pv 4)
 refine jd3 ?_
 refine j1 (κ:=.new) (κa:=.new) ?_ ?_
 exact j5
 refine j1 (κ:=.new) (κa:=.new) ?_ ?_
 exact j5
 exact j6 (κ:=.new)
 refine kx3 ?_
 refine W1 (κa:=.new) (κb:=.old) (ju2 hr.units) jj4 ?_ ?_ (by with_unfolding_all rfl)
 refine j7 (κ:=.tmp) G__law_between hr (by decide) ?_ (j3 k6)
 refine j1 (κ:=.tmp) (κa:=.new) ?_ ?_
 refine U6 ?_
 refine j1 (κ:=.new) (κa:=.new) ?_ ?_
 refine y8 (κ:=.old) ?_
 exact j0 2 (pv 2)
 refine j1 (κ:=.new) (κa:=.new) ?_ ?_
 refine y8 (κ:=.old) ?_
 exact j0 3 (pv 3)
 exact j6 (κ:=.new)
 exact j6 (κ:=.tmp)
 exact j0 0 (pv 0)
 refine q8 ?_
 refine ki5 (i:=1) (κ:=.new) (to:=tVar 1) ?_ rfl
 refine qa5 PySem.F.plainAttrs_list PySem.F.slot_list_append PySem.F.type_list_append jh6 (pv 1) ?_
 refine jf3 ?_ jl8
 refine U6 ?_
 refine j1 (κ:=.new) (κa:=.new) ?_ ?_
 refine y8 (κ:=.old) ?_
 exact j0 2 (pv 2)
 refine j1 (κ:=.new) (κa:=.new) ?_ ?_
 refine y8 (κ:=.old) ?_
 exact j0 3 (pv 3)
 exact j6 (κ:=.new)
 refine q8 ?_
 refine J8 (κ:=.new) ?_
 refine jb4 (κa:=.tmp) jq0 ?_
 refine z9 (jh7 hr.units) rfl T.n_sorted jm3 ?_
 refine j1 (κ:=.tmp) (κa:=.tmn) ?_ ?_
 exact jc5 1 (pv 1)
 exact j6 (κ:=.tmp)
theorem ja2:FnScope ["cell","cells","most","less"] ["cell","cells"] (j4 Q9):=⟨rfl,rfl,rfl,by decide +kernel,rfl,by decide +kernel,by decide +kernel⟩
theorem jl3 (T:Txt K mg t) (G__law_mix:FD P w K mg base (cfgB t.c_Board) 1 "_law_mix" ["cell","k","many"] 3 (k9 t) true):FD P w K mg base (cfgB t.c_Board) 2 "_law_weights_by" ["cell","cells"] 2 (U1 t) true :=
 ja6 (Γ:=[.par,.par,.par,.par]) T.f__law_weights_by ja2 rfl (fun i h=>by match i,h with | 0,_=>rfl | 1,_=>rfl) fun f cdv A outer s H E hr =>
 by
 refine j9 ?_ ?_
 refine ky3 (κ:=.new) ?_ rfl (jw5 rfl (Y4 (y4 (i:=2) (by exact ja2.nd) rfl (Or.inr rfl)) (Y4 (y4 (i:=3) (by exact ja2.nd) rfl (Or.inr rfl)) jn0))) (jn8 (i:=2) (j:=3) (k:=.par) (k':=.par))
 refine y8 (κ:=.old) ?_
 refine w6 (κa:=.new) (κb:=.new) ?_ ?_ (fun _ _=>rfl)
 refine jd3 ?_
 refine j1 (κ:=.new) (κa:=.new) ?_ ?_
 refine U6 ?_
 refine j1 (κ:=.new) (κa:=.new) ?_ ?_
 exact j5
 refine j1 (κ:=.new) (κa:=.new) ?_ ?_
 exact j5
 exact j6 (κ:=.new)
 refine j1 (κ:=.new) (κa:=.new) ?_ ?_
 refine U6 ?_
 refine j1 (κ:=.new) (κa:=.new) ?_ ?_
 exact j5
 refine j1 (κ:=.new) (κa:=.new) ?_ ?_
 exact j5
 exact j6 (κ:=.new)
 refine j1 (κ:=.new) (κa:=.new) ?_ ?_
 refine U6 ?_
 refine j1 (κ:=.new) (κa:=.new) ?_ ?_
 exact j5
 refine j1 (κ:=.new) (κa:=.new) ?_ ?_
 exact j5
 exact j6 (κ:=.new)
 refine j1 (κ:=.new) (κa:=.new) ?_ ?_
 refine U6 ?_
 refine j1 (κ:=.new) (κa:=.new) ?_ ?_
 exact j5
 refine j1 (κ:=.new) (κa:=.new) ?_ ?_
 exact j5
 exact j6 (κ:=.new)
 exact j6 (κ:=.new)
 refine j7 (κ:=.tmp) G__law_mix hr (by decide) ?_ (j3 (j3 (j3 k6)))
 refine j1 (κ:=.tmp) (κa:=.old) ?_ ?_
 exact j0 0 (pv 0)
 refine j1 (κ:=.tmp) (κa:=.new) ?_ ?_
 exact j5
 refine j1 (κ:=.tmp) (κa:=.new) ?_ ?_
 exact j5
 exact j6 (κ:=.tmp)
 refine q8 ?_
 refine J8 (κ:=.new) ?_
 refine jj1 (n:=true) (z:=true) (tgs:=["k"]) (caps:=[(3,"less"),(0,"cell"),(2,"most")]) ?_ (Blk.mk (κe:=.new) (n:=true) (z:=true) (tgs:=["k"]) (caps:=[(3,"less"),(0,"cell"),(2,"most")]) rfl rfl (by decide +kernel) ?_ ?_ (by with_unfolding_all rfl) (by decide +kernel) ?_ (fun _ p hp=>by simp only [List.mem_cons,List.not_mem_nil,or_false] at hp; rcases hp with rfl | rfl | rfl <;> first | exact Or.inl rfl | exact Or.inr rfl) (U4 (i:=0) (k:=.par)) (fun fp s0 H0 L=>y4 (i:=0) (by exact (show List.Nodup (["k","less","cell","most"]:List Str) from by decide +kernel)) rfl (Or.inl rfl) (Or.inr rfl)) (fun fp s0 H0 L=>jh1 (ft:=dC (.bl true))) (fun fp s0 H0 L=>?_) (fun _=>rfl) (fun h=>nomatch h))
 refine qh8 (κ:=.tmp) T.n_range ?_
 refine j1 (κ:=.tmp) (κa:=.new) ?_ ?_
 refine jb4 (κa:=.tmp) ja5 ?_
 refine z9 y6 rfl T.n_len je9 ?_
 refine j1 (κ:=.tmp) (κa:=.old) ?_ ?_
 exact j0 1 (pv 1)
 exact j6 (κ:=.tmp)
 exact j6 (κ:=.tmp)
 exact jl5 (by intro p hp; simp only [List.mem_cons,List.not_mem_nil,or_false] at hp; rcases hp with rfl | rfl | rfl <;> rfl)
 exact jf0 (by rfl)
 exact ⟨⟨rfl,rfl,rfl,rfl⟩,⟨⟨rfl,rfl,rfl,rfl⟩,⟨⟨rfl,rfl,rfl,rfl⟩,trivial⟩⟩⟩
 refine y9 (κa:=.new) (κb:=.old) jm6 jg2 ?_ ?_
 refine j7 (κ:=.tmp) G__law_mix hr (by decide) ?_ (j3 (j3 (j3 k6)))
 refine j1 (κ:=.tmp) (κa:=.old) ?_ ?_
 exact j0 2 (pv 2)
 refine j1 (κ:=.tmp) (κa:=.new) ?_ ?_
 refine y9 (κa:=.new) (κb:=.old) jw2 jn1 ?_ ?_
 exact j5
 exact j0 0 (pv 0)
 refine j1 (κ:=.tmp) (κa:=.old) ?_ ?_
 exact j0 3 (pv 3)
 exact j6 (κ:=.tmp)
 exact j0 1 (pv 1)
theorem U9:FnScope ["cells","weights","found","turn","one","two","a","b","c"] ["cells","weights"] (j4 Z7):=⟨rfl,rfl,rfl,by decide +kernel,rfl,by decide +kernel,by decide +kernel⟩
theorem jt2 (T:Txt K mg t) (G__law_leaps:FD P w K mg base (cfgB t.c_Board) 2 "_law_leaps" ["cells"] 1 (J3 t) true) (G__law_between:FD P w K mg base (cfgB t.c_Board) 1 "_law_between" ["leap"] 1 (k7 t) true):FD P w K mg base (cfgB t.c_Board) 3 "_law_raised" ["cells","weights"] 2 (ja1 t) true :=
 ja6 (Γ:=[.par,.par,.own true,.par,.par,.par,.par,.par,.par]) T.f__law_raised U9 rfl (fun i h=>by match i,h with | 0,_=>rfl | 1,_=>rfl) fun f cdv A outer s H E hr =>
 by
 refine j9 ?_ ?_
 refine J7 (i:=2) (k:=(.own true)) (κ:=.new) ?_ ?_
 exact U9.nd
 refine jb4 (κa:=.tmp) jp5 ?_
 refine ji1 jd2 rfl T.n_list jx4 ?_
 refine j1 (κ:=.tmp) (κa:=.old) ?_ ?_
 exact j0 1 (pv 1)
 exact j6 (κ:=.tmp)
 refine j9 ?_ ?_
 refine jg9 (κ:=.tmp) (v8 ⟨rfl,rfl⟩) rfl T.n_range ?_ (y4 (i:=3) (by exact U9.nd) rfl (Or.inl rfl)) (U4 (i:=3) (k:=.par))   ?_
 refine j1 (κ:=.tmp) (κa:=.new) ?_ ?_
 refine jb4 (κa:=.tmp) ja5 ?_
 refine z9 y6 rfl T.n_len je9 ?_
 refine j1 (κ:=.tmp) (κa:=.old) ?_ ?_
 exact j0 0 (pv 0)
 exact j6 (κ:=.tmp)
 exact j6 (κ:=.tmp)
 refine q8 ?_
 refine Q5 (κ:=.new) (v8 ⟨rfl,rfl⟩) rfl ?_ rfl (jw5 rfl (Y4 (y4 (i:=4) (by exact U9.nd) rfl (Or.inl rfl)) (Y4 (y4 (i:=5) (by exact U9.nd) rfl (Or.inl rfl)) jn0))) (jn8 (i:=4) (j:=5) (k:=.par) (k':=.par))   ?_
 refine j7 (κ:=.tmp) G__law_leaps hr (by decide) ?_ (j3 k6)
 refine j1 (κ:=.tmp) (κa:=.old) ?_ ?_
 exact j0 0 (pv 0)
 exact j6 (κ:=.tmp)
 refine j9 ?_ ?_
 refine qs2 (i:=6) (j:=7) (k:=8) (k1:=.par) (k2:=.par) (k3:=.par) rfl ?_ ?_
 exact U9.nd
 refine j1 (κ:=.new) (κa:=.new) ?_ ?_
 refine jj0 (κa:=.old) (κb:=.old) hr.units ?_ ?_
 exact j0 0 (pv 0)
 exact j0 4 (pv 4)
 refine j1 (κ:=.new) (κa:=.new) ?_ ?_
 refine jj0 (κa:=.old) (κb:=.new) hr.units ?_ ?_
 exact j0 0 (pv 0)
 refine j7 (κ:=.tmp) G__law_between hr (by decide) ?_ (j3 k6)
 refine j1 (κ:=.tmp) (κa:=.new) ?_ ?_
 refine U6 ?_
 refine j1 (κ:=.new) (κa:=.new) ?_ ?_
 refine y8 (κ:=.old) ?_
 exact j0 4 (pv 4)
 refine j1 (κ:=.new) (κa:=.new) ?_ ?_
 refine y8 (κ:=.old) ?_
 exact j0 5 (pv 5)
 exact j6 (κ:=.new)
 exact j6 (κ:=.tmp)
 refine j1 (κ:=.new) (κa:=.new) ?_ ?_
 refine jj0 (κa:=.old) (κb:=.old) hr.units ?_ ?_
 exact j0 0 (pv 0)
 exact j0 5 (pv 5)
 exact j6 (κ:=.new)
 refine q8 ?_
 refine jc7 ?_   ?_   W6
 refine W1 (κa:=.new) (κb:=.tmp) ku4 kb7 ?_ ?_ (Z4 _)
 refine y9 (κa:=.tmp) (κb:=.tmp) Y1 Q4 ?_ ?_
 refine kd1 (κa:=.tmn) (κb:=.old) ?_ ?_ (fun _ _=>rfl)
 exact jc5 2 (pv 2)
 exact j0 6 (pv 6)
 refine kd1 (κa:=.tmn) (κb:=.old) ?_ ?_ (fun _ _=>rfl)
 exact jc5 2 (pv 2)
 exact j0 7 (pv 7)
 refine kd1 (κa:=.tmn) (κb:=.old) ?_ ?_ (fun _ _=>rfl)
 exact jc5 2 (pv 2)
 exact j0 8 (pv 8)
 refine q8 ?_
 refine qx8 (i:=2) (κ:=.new) (κ':=.old) (pv 2) ?_ ?_ rfl
 exact j0 8 (pv 8)
 refine y9 (κa:=.tmp) (κb:=.tmp) Y1 Q4 ?_ ?_
 refine kd1 (κa:=.tmn) (κb:=.old) ?_ ?_ (fun _ _=>rfl)
 exact jc5 2 (pv 2)
 exact j0 6 (pv 6)
 refine kd1 (κa:=.tmn) (κb:=.old) ?_ ?_ (fun _ _=>rfl)
 exact jc5 2 (pv 2)
 exact j0 7 (pv 7)
 refine q8 ?_
 refine J8 (κ:=.tmn) ?_
 exact jc5 2 (pv 2)
theorem jd0:FnScope ["cells","weights","one","two","left"] ["cells","weights"] (j4 jb9):=⟨rfl,rfl,rfl,by decide +kernel,rfl,by decide +kernel,by decide +kernel⟩
theorem kc5 (T:Txt K mg t) (G__law_leaps:FD P w K mg base (cfgB t.c_Board) 2 "_law_leaps" ["cells"] 1 (J3 t) true) (G__law_between:FD P w K mg base (cfgB t.c_Board) 1 "_law_between" ["leap"] 1 (k7 t) true):FD P w K mg base (cfgB t.c_Board) 3 "_law_fair" ["cells","weights"] 2 (Y7 t) true :=
 ja6 (Γ:=[.par,.par,.par,.par,.par]) T.f__law_fair jd0 rfl (fun i h=>by match i,h with | 0,_=>rfl | 1,_=>rfl) fun f cdv A outer s H E hr =>
 by
 refine j9 ?_ ?_
 refine Q5 (κ:=.new) (v8 ⟨rfl,rfl⟩) rfl ?_ rfl (jw5 rfl (Y4 (y4 (i:=2) (by exact jd0.nd) rfl (Or.inl rfl)) (Y4 (y4 (i:=3) (by exact jd0.nd) rfl (Or.inl rfl)) jn0))) (jn8 (i:=2) (j:=3) (k:=.par) (k':=.par))   ?_
 refine j7 (κ:=.tmp) G__law_leaps hr (by decide) ?_ (j3 k6)
 refine j1 (κ:=.tmp) (κa:=.old) ?_ ?_
 exact j0 0 (pv 0)
 exact j6 (κ:=.tmp)
 refine j9 ?_ ?_
 refine J7 (i:=4) (k:=.par) (κ:=.new) ?_ ?_
 exact jd0.nd
 refine y9 (κa:=.old) (κb:=.old) Y1 Q4 ?_ ?_
 refine w6 (κa:=.old) (κb:=.new) ?_ ?_ (fun _ _=>rfl)
 exact j0 1 (pv 1)
 refine jj0 (κa:=.old) (κb:=.old) hr.units ?_ ?_
 exact j0 0 (pv 0)
 exact j0 2 (pv 2)
 refine w6 (κa:=.old) (κb:=.new) ?_ ?_ (fun _ _=>rfl)
 exact j0 1 (pv 1)
 refine jj0 (κa:=.old) (κb:=.new) hr.units ?_ ?_
 exact j0 0 (pv 0)
 refine j7 (κ:=.tmp) G__law_between hr (by decide) ?_ (j3 k6)
 refine j1 (κ:=.tmp) (κa:=.new) ?_ ?_
 refine U6 ?_
 refine j1 (κ:=.new) (κa:=.new) ?_ ?_
 refine y8 (κ:=.old) ?_
 exact j0 2 (pv 2)
 refine j1 (κ:=.new) (κa:=.new) ?_ ?_
 refine y8 (κ:=.old) ?_
 exact j0 3 (pv 3)
 exact j6 (κ:=.new)
 exact j6 (κ:=.tmp)
 refine q8 ?_
 refine jc7 ?_   ?_   W6
 refine W1 (κa:=.old) (κb:=.old) ku4 kb7 ?_ ?_ (Z4 _)
 exact j0 4 (pv 4)
 refine w6 (κa:=.old) (κb:=.new) ?_ ?_ (fun _ _=>rfl)
 exact j0 1 (pv 1)
 refine jj0 (κa:=.old) (κb:=.old) hr.units ?_ ?_
 exact j0 0 (pv 0)
 exact j0 3 (pv 3)
 refine q8 ?_
 refine J8 (κ:=.new) ?_
 exact kd7
 refine q8 ?_
 refine J8 (κ:=.new) ?_
 exact kd7
theorem je6:FnScope ["script","cells","board","numbers","begin","here","row","k","some","leap","behind"] ["script"] (j4 ky6):=⟨rfl,rfl,rfl,by decide +kernel,rfl,by decide +kernel,by decide +kernel⟩
theorem vc0 (T:Txt K mg t) (G__law_cells_by:FD P w K mg base (cfgB t.c_Board) 2 "_law_cells_by" ["script","most"] 2 (J0 t) true) {fiB:Addr} {fdB:FuncData} (mkB:Mk K t.c_Board fiB) (bB:Binds K fdB ["self","cells"] []) (G_Board:FnOk P w K mg base (CXr P w) 3 fiB fdB ["self","cells"] (km4 K t.c_Board (w5 t))) (G__law_cell_at:FD P w K mg base (cfgB t.c_Board) 1 "_law_cell_at" ["script","k"] 2 (k8 t) true) (G__law_weights_by:FD P w K mg base (cfgB t.c_Board) 2 "_law_weights_by" ["cell","cells"] 2 (U1 t) true) (G__law_raised:FD P w K mg base (cfgB t.c_Board) 3 "_law_raised" ["cells","weights"] 2 (ja1 t) true) (G__law_fair:FD P w K mg base (cfgB t.c_Board) 3 "_law_fair" ["cells","weights"] 2 (Y7 t) true) (G_fair:FD P w K mg base (cfgB t.c_Board) 3 "fair" ["board","weights"] 2 (ke2 t) true) (G__law_pegs_by:FD P w K mg base (cfgB t.c_Board) 2 "_law_pegs_by" ["cell","cells"] 2 (U8 t) true) (G_open_leaps:FD P w K mg base (cfgB t.c_Board) 3 "open_leaps" ["board","pegs"] 2 (W4 t) true) (G__law_mix:FD P w K mg base (cfgB t.c_Board) 1 "_law_mix" ["cell","k","many"] 3 (k9 t) true) (G_leapt:FD P w K mg base (cfgB t.c_Board) 4 "leapt" ["board","pegs","leap"] 3 (jn6 t) true) (G_weight:FD P w K mg base (cfgB t.c_Board) 3 "weight" ["board","weights","pegs"] 3 (jc9 t) true) (G_class_of:FD P w K mg base (cfgB t.c_Board) 3 "class_of" ["board","pegs"] 2 (Y8 t) true) (G_walked:FD P w K mg base (cfgB t.c_Board) 3 "walked" ["board","pegs","row"] 3 (jg1 t) true):FD P w K mg base (cfgB t.c_Board) 5 "law" ["script"] 1 (kp3 t) true :=
 ja6 (Γ:=[.par,.par,.par,.par,.par,.par,.own true,.par,.par,.par,.par]) T.f_law je6 rfl (fun i h=>by match i,h with | 0,_=>rfl) fun f cdv A outer s H E hr =>
 by
 refine j9 ?_ ?_
 refine J7 (i:=1) (k:=.par) (κ:=.new) ?_ ?_
 exact je6.nd
 refine j7 (κ:=.tmp) G__law_cells_by hr (by decide) ?_ (j3 (j3 k6))
 refine j1 (κ:=.tmp) (κa:=.old) ?_ ?_
 exact j0 0 (pv 0)
 refine j1 (κ:=.tmp) (κa:=.new) ?_ ?_
 exact j5
 exact j6 (κ:=.tmp)
 refine j9 ?_ ?_
 refine J7 (i:=2) (k:=.par) (κ:=.new) ?_ ?_
 exact je6.nd
 refine qc5 (κ:=.tmp) mkB G_Board (hr.mono (by decide)) T.m_Board bB ?_
 refine j1 (κ:=.tmp) (κa:=.new) ?_ ?_
 refine jb4 (κa:=.tmp) jp5 ?_
 refine ji1 jd2 rfl T.n_list jx4 ?_
 refine j1 (κ:=.tmp) (κa:=.old) ?_ ?_
 exact j0 1 (pv 1)
 exact j6 (κ:=.tmp)
 exact j6 (κ:=.tmp)
 refine j9 ?_ ?_
 refine J7 (i:=3) (k:=.par) (κ:=.new) ?_ ?_
 exact je6.nd
 refine j7 (κ:=.tmp) G__law_raised hr (by decide) ?_ (j3 (j3 k6))
 refine j1 (κ:=.tmp) (κa:=.old) ?_ ?_
 exact j0 1 (pv 1)
 refine j1 (κ:=.tmp) (κa:=.new) ?_ ?_
 refine j7 (κ:=.tmp) G__law_weights_by hr (by decide) ?_ (j3 (j3 k6))
 refine j1 (κ:=.tmp) (κa:=.new) ?_ ?_
 refine j7 (κ:=.tmp) G__law_cell_at hr (by decide) ?_ (j3 (j3 k6))
 refine j1 (κ:=.tmp) (κa:=.old) ?_ ?_
 exact j0 0 (pv 0)
 refine j1 (κ:=.tmp) (κa:=.new) ?_ ?_
 exact j5
 exact j6 (κ:=.tmp)
 refine j1 (κ:=.tmp) (κa:=.old) ?_ ?_
 exact j0 1 (pv 1)
 exact j6 (κ:=.tmp)
 exact j6 (κ:=.tmp)
 refine j9 ?_ ?_
 refine jc7 ?_   ?_   W6
 refine PW.pt ?_
 refine qn1 ?_ ?_
 refine js5 ?_
 refine kp2 (κ:=.new) ?_
 refine j7 (κ:=.tmp) G__law_fair hr (by decide) ?_ (j3 (j3 k6))
 refine j1 (κ:=.tmp) (κa:=.old) ?_ ?_
 exact j0 1 (pv 1)
 refine j1 (κ:=.tmp) (κa:=.old) ?_ ?_
 exact j0 3 (pv 3)
 exact j6 (κ:=.tmp)
 refine kv7 ?_
 refine W1 (κa:=.new) (κb:=.new) ku4 kb7 ?_ ?_ (Z4 _)
 refine jb4 (κa:=.tmp) qu3 ?_
 refine z9 (kw0 hr.hd) rfl T.n_min qx7 ?_
 refine j1 (κ:=.tmp) (κa:=.old) ?_ ?_
 exact j0 3 (pv 3)
 exact j6 (κ:=.tmp)
 refine qz5 (κa:=.new) ?_
 exact j5
 refine q8 ?_
 refine jz6 (i:=3) (k:=.par) (n:=true) (z:=true) (tgs:=["one"]) (caps:=[]) ?_ ?_ (Blk.mk (κe:=.new) (n:=true) (z:=true) (tgs:=["one"]) (caps:=[]) rfl rfl (by decide +kernel) ?_ ?_ (by with_unfolding_all rfl) (by decide +kernel) ?_ (fun _ p hp=>by cases hp) (U4 (i:=0) (k:=.par)) (fun fp s0 H0 L=>y4 (i:=0) (by exact (show List.Nodup (["one"]:List Str) from by decide +kernel)) rfl (Or.inl rfl) (Or.inr rfl)) (fun fp s0 H0 L=>jh1 (ft:=dC (.bl true))) (fun fp s0 H0 L=>?_) (fun _=>rfl) (fun h=>nomatch h))
 exact je6.nd
 refine jk3 (κ:=.old) ?_ (fun _=>rfl)
 exact j0 1 (pv 1)
 exact jl5 (by intro p hp; cases hp)
 exact jf0 (by rfl)
 exact trivial
 exact j5
 refine j9 ?_ ?_
 refine jc7 ?_   ?_   W6
 refine W1 (κa:=.new) (κb:=.new) kr0 qv2 ?_ ?_ (Z4 _)
 refine j7 (κ:=.tmp) G_fair hr (by decide) ?_ (j3 (j3 k6))
 refine j1 (κ:=.tmp) (κa:=.old) ?_ ?_
 exact j0 2 (pv 2)
 refine j1 (κ:=.tmp) (κa:=.old) ?_ ?_
 exact j0 3 (pv 3)
 exact j6 (κ:=.tmp)
 exact kd7
 refine q8 ?_
 refine J8 (κ:=.new) ?_
 exact kd7
 refine j9 ?_ ?_
 refine J7 (i:=4) (k:=.par) (κ:=.new) ?_ ?_
 exact je6.nd
 refine j7 (κ:=.tmp) G__law_pegs_by hr (by decide) ?_ (j3 (j3 k6))
 refine j1 (κ:=.tmp) (κa:=.new) ?_ ?_
 refine j7 (κ:=.tmp) G__law_cell_at hr (by decide) ?_ (j3 (j3 k6))
 refine j1 (κ:=.tmp) (κa:=.old) ?_ ?_
 exact j0 0 (pv 0)
 refine j1 (κ:=.tmp) (κa:=.new) ?_ ?_
 exact j5
 exact j6 (κ:=.tmp)
 refine j1 (κ:=.tmp) (κa:=.old) ?_ ?_
 exact j0 1 (pv 1)
 exact j6 (κ:=.tmp)
 refine j9 ?_ ?_
 refine J7 (i:=5) (k:=.par) (κ:=.old) ?_ ?_
 exact je6.nd
 exact j0 4 (pv 4)
 refine j9 ?_ ?_
 refine J7 (i:=6) (k:=(.own true)) (κ:=.new) ?_ ?_
 exact je6.nd
 refine jd3 ?_
 exact j6 (κ:=.new)
 refine j9 ?_ ?_
 refine jg9 (κ:=.tmp) (v8 ⟨rfl,rfl⟩) rfl T.n_range ?_ (y4 (i:=7) (by exact je6.nd) rfl (Or.inl rfl)) (U4 (i:=7) (k:=.par))   ?_
 refine j1 (κ:=.tmp) (κa:=.new) ?_ ?_
 exact j5
 exact j6 (κ:=.tmp)
 refine j9 ?_ ?_
 refine J7 (i:=8) (k:=.par) (κ:=.new) ?_ ?_
 exact je6.nd
 refine j7 (κ:=.tmp) G_open_leaps hr (by decide) ?_ (j3 (j3 k6))
 refine j1 (κ:=.tmp) (κa:=.old) ?_ ?_
 exact j0 2 (pv 2)
 refine j1 (κ:=.tmp) (κa:=.old) ?_ ?_
 exact j0 5 (pv 5)
 exact j6 (κ:=.tmp)
 refine q8 ?_
 refine jc7 ?_   ?_   W6
 refine W1 (κa:=.new) (κb:=.new) qi3 ki9 ?_ ?_ (Z4 _)
 refine jb4 (κa:=.tmp) ja5 ?_
 refine z9 y6 rfl T.n_len je9 ?_
 refine j1 (κ:=.tmp) (κa:=.old) ?_ ?_
 exact j0 8 (pv 8)
 exact j6 (κ:=.tmp)
 exact j5
 refine j9 ?_ ?_
 refine J7 (i:=9) (k:=.par) (κ:=.new) ?_ ?_
 exact je6.nd
 refine y8 (κ:=.old) ?_
 refine w6 (κa:=.old) (κb:=.new) ?_ ?_ (fun _ _=>rfl)
 exact j0 8 (pv 8)
 refine j7 (κ:=.tmp) G__law_mix hr (by decide) ?_ (j3 (j3 (j3 k6)))
 refine j1 (κ:=.tmp) (κa:=.new) ?_ ?_
 refine j7 (κ:=.tmp) G__law_cell_at hr (by decide) ?_ (j3 (j3 k6))
 refine j1 (κ:=.tmp) (κa:=.old) ?_ ?_
 exact j0 0 (pv 0)
 refine j1 (κ:=.tmp) (κa:=.new) ?_ ?_
 exact j5
 exact j6 (κ:=.tmp)
 refine j1 (κ:=.tmp) (κa:=.old) ?_ ?_
 exact j0 7 (pv 7)
 refine j1 (κ:=.tmp) (κa:=.new) ?_ ?_
 refine jb4 (κa:=.tmp) ja5 ?_
 refine z9 y6 rfl T.n_len je9 ?_
 refine j1 (κ:=.tmp) (κa:=.old) ?_ ?_
 exact j0 8 (pv 8)
 exact j6 (κ:=.tmp)
 exact j6 (κ:=.tmp)
 refine j9 ?_ ?_
 refine J7 (i:=10) (k:=.par) (κ:=.new) ?_ ?_
 exact je6.nd
 refine j7 (κ:=.tmp) G_leapt hr (by decide) ?_ (j3 (j3 (j3 k6)))
 refine j1 (κ:=.tmp) (κa:=.old) ?_ ?_
 exact j0 2 (pv 2)
 refine j1 (κ:=.tmp) (κa:=.old) ?_ ?_
 exact j0 5 (pv 5)
 refine j1 (κ:=.tmp) (κa:=.old) ?_ ?_
 exact j0 9 (pv 9)
 exact j6 (κ:=.tmp)
 refine j9 ?_ ?_
 refine jc7 ?_   ?_   W6
 refine PW.pt ?_
 refine qn1 ?_ ?_
 refine W1 (κa:=.new) (κb:=.new) qi3 ki9 ?_ ?_ (Z4 _)
 refine j7 (κ:=.tmp) G_weight hr (by decide) ?_ (j3 (j3 (j3 k6)))
 refine j1 (κ:=.tmp) (κa:=.old) ?_ ?_
 exact j0 2 (pv 2)
 refine j1 (κ:=.tmp) (κa:=.old) ?_ ?_
 exact j0 3 (pv 3)
 refine j1 (κ:=.tmp) (κa:=.old) ?_ ?_
 exact j0 10 (pv 10)
 exact j6 (κ:=.tmp)
 refine j7 (κ:=.tmp) G_weight hr (by decide) ?_ (j3 (j3 (j3 k6)))
 refine j1 (κ:=.tmp) (κa:=.old) ?_ ?_
 exact j0 2 (pv 2)
 refine j1 (κ:=.tmp) (κa:=.old) ?_ ?_
 exact j0 3 (pv 3)
 refine j1 (κ:=.tmp) (κa:=.old) ?_ ?_
 exact j0 5 (pv 5)
 exact j6 (κ:=.tmp)
 refine kv7 ?_
 refine W1 (κa:=.new) (κb:=.new) (ks2 hr.units) jl0 ?_ ?_ (Z4 _)
 refine jb4 (κa:=.tmp) ja5 ?_
 refine z9 y6 rfl T.n_len je9 ?_
 refine j1 (κ:=.tmp) (κa:=.old) ?_ ?_
 exact j0 10 (pv 10)
 exact j6 (κ:=.tmp)
 refine y9 (κa:=.new) (κb:=.new) jm6 jg2 ?_ ?_
 refine jb4 (κa:=.tmp) ja5 ?_
 refine z9 y6 rfl T.n_len je9 ?_
 refine j1 (κ:=.tmp) (κa:=.old) ?_ ?_
 exact j0 5 (pv 5)
 exact j6 (κ:=.tmp)
 exact j5
 refine q8 ?_
 refine J8 (κ:=.new) ?_
 exact kd7
 refine j9 ?_ ?_
 refine jc7 ?_   ?_   W6
 refine W1 (κa:=.new) (κb:=.new) (ks2 hr.units) jl0 ?_ ?_ (Z4 _)
 refine j7 (κ:=.tmp) G_class_of hr (by decide) ?_ (j3 (j3 k6))
 refine j1 (κ:=.tmp) (κa:=.old) ?_ ?_
 exact j0 2 (pv 2)
 refine j1 (κ:=.tmp) (κa:=.old) ?_ ?_
 exact j0 10 (pv 10)
 exact j6 (κ:=.tmp)
 refine j7 (κ:=.tmp) G_class_of hr (by decide) ?_ (j3 (j3 k6))
 refine j1 (κ:=.tmp) (κa:=.old) ?_ ?_
 exact j0 2 (pv 2)
 refine j1 (κ:=.tmp) (κa:=.old) ?_ ?_
 exact j0 5 (pv 5)
 exact j6 (κ:=.tmp)
 refine q8 ?_
 refine J8 (κ:=.new) ?_
 exact kd7
 refine j9 ?_ ?_
 refine ki5 (i:=6) (κ:=.new) (to:=tVar 6) ?_ rfl
 refine qa5 PySem.F.plainAttrs_list PySem.F.slot_list_append PySem.F.type_list_append jh6 (pv 6) ?_
 refine jf3 ?_ jl8
 refine y8 (κ:=.old) ?_
 exact j0 9 (pv 9)
 refine q8 ?_
 refine J7 (i:=5) (k:=.par) (κ:=.old) ?_ ?_
 exact je6.nd
 exact j0 10 (pv 10)
 refine q8 ?_
 refine J8 (κ:=.new) ?_
 refine ka7 (κa:=.new) (κb:=.old) (ju5 hr.units) jl0 ?_ ?_ (Z4 _)
 refine j7 (κ:=.tmp) G_walked hr (by decide) ?_ (j3 (j3 (j3 k6)))
 refine j1 (κ:=.tmp) (κa:=.old) ?_ ?_
 exact j0 2 (pv 2)
 refine j1 (κ:=.tmp) (κa:=.old) ?_ ?_
 exact j0 4 (pv 4)
 refine j1 (κ:=.tmp) (κa:=.tmn) ?_ ?_
 exact jc5 6 (pv 6)
 exact j6 (κ:=.tmp)
 exact j0 5 (pv 5)
theorem qd0:FnScope ["self","cells"] ["self","cells"] (j4 ji4):=⟨rfl,rfl,rfl,by decide +kernel,rfl,by decide +kernel,by decide +kernel⟩
theorem qc7 (T:Txt K mg t) {fi:Addr} {fd:FuncData} (F:Fun K "__init__" "Board.__init__" ji4 fi fd) (G_check_cells:FD P w K mg base (cfgB t.c_Board) 2 "check_cells" ["cells"] 1 (w5 t) true):FnOk P w K mg base (CXr P w) 3 fi fd ["self","cells"] (km4 K t.c_Board (w5 t)) :=
 qm1 (κ:=.new) F qd0 T.clB T.naB fun cdv A outer s H E hr=>by
 refine kj8 ?_ ?_
 ·refine kf2 ?_
  refine j7 (κ:=.tmp) G_check_cells hr (by decide) ?_ (j3 k6)
  refine j1 (κ:=.tmp) (κa:=.old) ?_ ?_
  ·exact j0 1 (pv 1)
  ·exact j6 (κ:=.tmp)
 ·refine ku5 ?_
  refine va1 (pv 0) ?_ rfl
  refine jb4 (κa:=.tmp) jp5 ?_
  refine ji1 jd2 rfl T.n_list jx4 ?_
  refine j1 (κ:=.tmp) (κa:=.old) ?_ ?_
  ·exact j0 1 (pv 1)
  ·exact j6 (κ:=.tmp)
theorem qy6 (T:Txt K mg t):FD P w K mg base (cfgB t.c_Board) 5 "law" ["script"] 1 (kp3 t) true:=by
 obtain ⟨fiB,fdB,FuB,mkB,bB⟩:=T.iB
 have G_is_rising:=kd4 (P:=P) (w:=w) (base:=base) T
 have G_is_cell:=ko0 (P:=P) (w:=w) (base:=base) T
 have G_check_cells:=ju0 (P:=P) (w:=w) (base:=base) T G_is_rising G_is_cell
 have G_Board:=qc7 (P:=P) (w:=w) (base:=base) T FuB G_check_cells
 have G_check_pegs:=jx3 (P:=P) (w:=w) (base:=base) T G_is_rising
 have G_two_apart:=kc3 (P:=P) (w:=w) (base:=base) T
 have G_between:=kq1 (P:=P) (w:=w) (base:=base) T
 have G_leaps:=qi0 (P:=P) (w:=w) (base:=base) T G_two_apart G_between
 have G_can_be_done:=jt0 (P:=P) (w:=w) (base:=base) T G_between
 have G_pegs_behind:=jt4 (P:=P) (w:=w) (base:=base) T G_between
 have G_open_leaps:=jz9 (P:=P) (w:=w) (base:=base) T G_check_pegs G_leaps G_can_be_done
 have G_walked:=kw2 (P:=P) (w:=w) (base:=base) T G_check_pegs G_leaps G_can_be_done G_pegs_behind
 have G_leapt:=qc4 (P:=P) (w:=w) (base:=base) T G_walked
 have G_odd_on:=kw4 (P:=P) (w:=w) (base:=base) T
 have G_class_of:=kg0 (P:=P) (w:=w) (base:=base) T G_check_pegs G_odd_on
 have G_check_weights:=jo4 (P:=P) (w:=w) (base:=base) T
 have G_fair:=qp7 (P:=P) (w:=w) (base:=base) T G_check_weights G_leaps G_between
 have G_weight:=kw9 (P:=P) (w:=w) (base:=base) T G_check_weights G_check_pegs
 have G__law_cell_at:=jq5 (P:=P) (w:=w) (base:=base) T
 have G__law_mix:=kh0 (P:=P) (w:=w) (base:=base) T
 have G__law_cells_by:=jo6 (P:=P) (w:=w) (base:=base) T G__law_cell_at G__law_mix
 have G__law_pegs_by:=jq6 (P:=P) (w:=w) (base:=base) T G__law_mix
 have G__law_between:=js6 (P:=P) (w:=w) (base:=base) T
 have G__law_leaps:=jx0 (P:=P) (w:=w) (base:=base) T G__law_between
 have G__law_weights_by:=jl3 (P:=P) (w:=w) (base:=base) T G__law_mix
 have G__law_raised:=jt2 (P:=P) (w:=w) (base:=base) T G__law_leaps G__law_between
 have G__law_fair:=kc5 (P:=P) (w:=w) (base:=base) T G__law_leaps G__law_between
 have G_law:=vc0 (P:=P) (w:=w) (base:=base) T G__law_cells_by mkB bB G_Board G__law_cell_at G__law_weights_by G__law_raised G__law_fair G_fair G__law_pegs_by G_open_leaps G__law_mix G_leapt G_weight G_class_of G_walked
 exact G_law
noncomputable def ky4 (K:Frag):Sp:=fun vs H Q _=>∃ (a:Addr) (ns:List Int),vs = [.ref a] /\ SqL K H a (ns.map V.int) /\ ns.length <= 63 /\ ∀ H',Q (.bl true) H'
theorem qv3 (T:Txt K mg t) (hmath:∀ ns:List Int,ns.length <= 63 -> kp3 t [.lst (ns.map D.int)] = .ok (.bl true)):∃ a fd,FnOk P w K mg base (CXr P w) 40 a fd ["script"] (ky4 K) /\ mg "law" = some (.ref a) /\ ∃ o,K.lookup a = some o /\ o.data = .func fd:=by
 obtain ⟨a,fd,h1,h2,_,_,h4⟩:=(qy6 (P:=P) (w:=w) (base:=base) T).ex
 refine ⟨a,fd,(h1.mono (by decide)).imp fun vs H Q E zz1=>?_,h2,h4⟩
 obtain ⟨p,ns,e,hs,hl,q⟩:=zz1
 subst e
 refine ⟨[.lst (ns.map D.int)],rfl,.cons (by rw [Rep]; exact ⟨p,_,rfl,hs,Reps.ints ns⟩) .nil,?_⟩
 rw [hmath ns hl]
 intro v H' _ r
 have r':=r.1
 rw [Rep] at r'
 subst r'
 exact q H'
end
theorem txt_mk {K:Frag} {h:Heap} {mg:Str -> Option Value} (X:K.In h) (G:h.Ns mainGlobals mg)
  {a0:Addr} {od0 an0:Option Addr} {sl0:Array (Option Value)} {oc0 kV0 dc0 pm0 cd0 ct0:Value} {a1:Addr} {od1 an1:Option Addr} {sl1:Array (Option Value)} {oc1 kV1 dc1 pm1 cd1 ct1:Value} {a2:Addr} {od2 an2:Option Addr} {sl2:Array (Option Value)} {oc2 kV2 dc2 pm2 cd2 ct2:Value} {a3:Addr} {od3 an3:Option Addr} {sl3:Array (Option Value)} {oc3 kV3 dc3 pm3 cd3 ct3:Value} {a4:Addr} {od4 an4:Option Addr} {sl4:Array (Option Value)} {oc4 kV4 dc4 pm4 cd4 ct4:Value} {a5:Addr} {od5 an5:Option Addr} {sl5:Array (Option Value)} {oc5 kV5 dc5 pm5 cd5 ct5:Value} {a6:Addr} {od6 an6:Option Addr} {sl6:Array (Option Value)} {oc6 kV6 dc6 pm6 cd6 ct6:Value} {a7:Addr} {od7 an7:Option Addr} {sl7:Array (Option Value)} {oc7 kV7 dc7 pm7 cd7 ct7:Value} {a8:Addr} {od8 an8:Option Addr} {sl8:Array (Option Value)} {oc8 kV8 dc8 pm8 cd8 ct8:Value} {a9:Addr} {od9 an9:Option Addr} {sl9:Array (Option Value)} {oc9 kV9 dc9 pm9 cd9 ct9:Value} {a10:Addr} {od10 an10:Option Addr} {sl10:Array (Option Value)} {oc10 kV10 dc10 pm10 cd10 ct10:Value} {a11:Addr} {od11 an11:Option Addr} {sl11:Array (Option Value)} {oc11 kV11 dc11 pm11 cd11 ct11:Value} {a12:Addr} {od12 an12:Option Addr} {sl12:Array (Option Value)} {oc12 kV12 dc12 pm12 cd12 ct12:Value} {a13:Addr} {od13 an13:Option Addr} {sl13:Array (Option Value)} {oc13 kV13 dc13 pm13 cd13 ct13:Value} {a14:Addr} {od14 an14:Option Addr} {sl14:Array (Option Value)} {oc14 kV14 dc14 pm14 cd14 ct14:Value} {a15:Addr} {od15 an15:Option Addr} {sl15:Array (Option Value)} {oc15 kV15 dc15 pm15 cd15 ct15:Value} {a16:Addr} {od16 an16:Option Addr} {sl16:Array (Option Value)} {oc16 kV16 dc16 pm16 cd16 ct16:Value} {a17:Addr} {od17 an17:Option Addr} {sl17:Array (Option Value)} {oc17 kV17 dc17 pm17 cd17 ct17:Value} {a18:Addr} {od18 an18:Option Addr} {sl18:Array (Option Value)} {oc18 kV18 dc18 pm18 cd18 ct18:Value} {a19:Addr} {od19 an19:Option Addr} {sl19:Array (Option Value)} {oc19 kV19 dc19 pm19 cd19 ct19:Value} {a20:Addr} {od20 an20:Option Addr} {sl20:Array (Option Value)} {oc20 kV20 dc20 pm20 cd20 ct20:Value} {a21:Addr} {od21 an21:Option Addr} {sl21:Array (Option Value)} {oc21 kV21 dc21 pm21 cd21 ct21:Value} {a22:Addr} {od22 an22:Option Addr} {sl22:Array (Option Value)} {oc22 kV22 dc22 pm22 cd22 ct22:Value} {a23:Addr} {od23 an23:Option Addr} {sl23:Array (Option Value)} {oc23 kV23 dc23 pm23 cd23 ct23:Value} {a24:Addr} {od24 an24:Option Addr} {sl24:Array (Option Value)} {oc24 kV24 dc24 pm24 cd24 ct24:Value} {a25:Addr} {od25 an25:Option Addr} {sl25:Array (Option Value)} {oc25 kV25 dc25 pm25 cd25 ct25:Value} {a26:Addr} {od26 an26:Option Addr} {sl26:Array (Option Value)} {oc26 kV26 dc26 pm26 cd26 ct26:Value} {C_PegError C_BadBoard C_BadPegs C_NoLeap C_BadWeights C_Board:Addr} {t_COLOURS:Tok} {t_LAST:Tok} {t_LEAST:Tok} {t_MOST:Tok} {t_MOST_CELLS:Tok} {aI:Addr} {odI anI:Option Addr} {slI:Array (Option Value)} {ocI kVI dcI pmI cdI ctI:Value}
  (a_is_rising:nsIn K mainGlobals "is_rising" = some (some (.ref a0)))
  (l_is_rising:K.lookup a0 = some ⟨oc0,od0,.func (fnOf "is_rising" "is_rising" (v9 jc2) (v5 jc2) (j4 jc2) .none kV0 dc0 pm0 an0 cd0 ct0),sl0⟩)
  (c_is_rising:codeIn K cd0 "is_rising" = true)
  (k_is_rising:keepIn K (.ref a0) = true)
  (a_is_cell:nsIn K mainGlobals "is_cell" = some (some (.ref a1)))
  (l_is_cell:K.lookup a1 = some ⟨oc1,od1,.func (fnOf "is_cell" "is_cell" (v9 jh8) (v5 jh8) (j4 jh8) .none kV1 dc1 pm1 an1 cd1 ct1),sl1⟩)
  (c_is_cell:codeIn K cd1 "is_cell" = true)
  (k_is_cell:keepIn K (.ref a1) = true)
  (a_check_cells:nsIn K mainGlobals "check_cells" = some (some (.ref a2)))
  (l_check_cells:K.lookup a2 = some ⟨oc2,od2,.func (fnOf "check_cells" "check_cells" (v9 Z8) (v5 Z8) (j4 Z8) .none kV2 dc2 pm2 an2 cd2 ct2),sl2⟩)
  (c_check_cells:codeIn K cd2 "check_cells" = true)
  (k_check_cells:keepIn K (.ref a2) = true)
  (a_check_pegs:nsIn K mainGlobals "check_pegs" = some (some (.ref a3)))
  (l_check_pegs:K.lookup a3 = some ⟨oc3,od3,.func (fnOf "check_pegs" "check_pegs" (v9 ja8) (v5 ja8) (j4 ja8) .none kV3 dc3 pm3 an3 cd3 ct3),sl3⟩)
  (c_check_pegs:codeIn K cd3 "check_pegs" = true)
  (k_check_pegs:keepIn K (.ref a3) = true)
  (a_two_apart:nsIn K mainGlobals "two_apart" = some (some (.ref a4)))
  (l_two_apart:K.lookup a4 = some ⟨oc4,od4,.func (fnOf "two_apart" "two_apart" (v9 jc3) (v5 jc3) (j4 jc3) .none kV4 dc4 pm4 an4 cd4 ct4),sl4⟩)
  (c_two_apart:codeIn K cd4 "two_apart" = true)
  (k_two_apart:keepIn K (.ref a4) = true)
  (a_between:nsIn K mainGlobals "between" = some (some (.ref a5)))
  (l_between:K.lookup a5 = some ⟨oc5,od5,.func (fnOf "between" "between" (v9 jh2) (v5 jh2) (j4 jh2) .none kV5 dc5 pm5 an5 cd5 ct5),sl5⟩)
  (c_between:codeIn K cd5 "between" = true)
  (k_between:keepIn K (.ref a5) = true)
  (a_leaps:nsIn K mainGlobals "leaps" = some (some (.ref a6)))
  (l_leaps:K.lookup a6 = some ⟨oc6,od6,.func (fnOf "leaps" "leaps" (v9 jq4) (v5 jq4) (j4 jq4) .none kV6 dc6 pm6 an6 cd6 ct6),sl6⟩)
  (c_leaps:codeIn K cd6 "leaps" = true)
  (k_leaps:keepIn K (.ref a6) = true)
  (a_can_be_done:nsIn K mainGlobals "can_be_done" = some (some (.ref a7)))
  (l_can_be_done:K.lookup a7 = some ⟨oc7,od7,.func (fnOf "can_be_done" "can_be_done" (v9 Z9) (v5 Z9) (j4 Z9) .none kV7 dc7 pm7 an7 cd7 ct7),sl7⟩)
  (c_can_be_done:codeIn K cd7 "can_be_done" = true)
  (k_can_be_done:keepIn K (.ref a7) = true)
  (a_pegs_behind:nsIn K mainGlobals "pegs_behind" = some (some (.ref a8)))
  (l_pegs_behind:K.lookup a8 = some ⟨oc8,od8,.func (fnOf "pegs_behind" "pegs_behind" (v9 ja0) (v5 ja0) (j4 ja0) .none kV8 dc8 pm8 an8 cd8 ct8),sl8⟩)
  (c_pegs_behind:codeIn K cd8 "pegs_behind" = true)
  (k_pegs_behind:keepIn K (.ref a8) = true)
  (a_open_leaps:nsIn K mainGlobals "open_leaps" = some (some (.ref a9)))
  (l_open_leaps:K.lookup a9 = some ⟨oc9,od9,.func (fnOf "open_leaps" "open_leaps" (v9 ja7) (v5 ja7) (j4 ja7) .none kV9 dc9 pm9 an9 cd9 ct9),sl9⟩)
  (c_open_leaps:codeIn K cd9 "open_leaps" = true)
  (k_open_leaps:keepIn K (.ref a9) = true)
  (a_walked:nsIn K mainGlobals "walked" = some (some (.ref a10)))
  (l_walked:K.lookup a10 = some ⟨oc10,od10,.func (fnOf "walked" "walked" (v9 jk6) (v5 jk6) (j4 jk6) .none kV10 dc10 pm10 an10 cd10 ct10),sl10⟩)
  (c_walked:codeIn K cd10 "walked" = true)
  (k_walked:keepIn K (.ref a10) = true)
  (a_leapt:nsIn K mainGlobals "leapt" = some (some (.ref a11)))
  (l_leapt:K.lookup a11 = some ⟨oc11,od11,.func (fnOf "leapt" "leapt" (v9 jr0) (v5 jr0) (j4 jr0) .none kV11 dc11 pm11 an11 cd11 ct11),sl11⟩)
  (c_leapt:codeIn K cd11 "leapt" = true)
  (k_leapt:keepIn K (.ref a11) = true)
  (a_odd_on:nsIn K mainGlobals "odd_on" = some (some (.ref a12)))
  (l_odd_on:K.lookup a12 = some ⟨oc12,od12,.func (fnOf "odd_on" "odd_on" (v9 jl9) (v5 jl9) (j4 jl9) .none kV12 dc12 pm12 an12 cd12 ct12),sl12⟩)
  (c_odd_on:codeIn K cd12 "odd_on" = true)
  (k_odd_on:keepIn K (.ref a12) = true)
  (a_class_of:nsIn K mainGlobals "class_of" = some (some (.ref a13)))
  (l_class_of:K.lookup a13 = some ⟨oc13,od13,.func (fnOf "class_of" "class_of" (v9 je5) (v5 je5) (j4 je5) .none kV13 dc13 pm13 an13 cd13 ct13),sl13⟩)
  (c_class_of:codeIn K cd13 "class_of" = true)
  (k_class_of:keepIn K (.ref a13) = true)
  (a_check_weights:nsIn K mainGlobals "check_weights" = some (some (.ref a14)))
  (l_check_weights:K.lookup a14 = some ⟨oc14,od14,.func (fnOf "check_weights" "check_weights" (v9 W3) (v5 W3) (j4 W3) .none kV14 dc14 pm14 an14 cd14 ct14),sl14⟩)
  (c_check_weights:codeIn K cd14 "check_weights" = true)
  (k_check_weights:keepIn K (.ref a14) = true)
  (a_fair:nsIn K mainGlobals "fair" = some (some (.ref a15)))
  (l_fair:K.lookup a15 = some ⟨oc15,od15,.func (fnOf "fair" "fair" (v9 kd8) (v5 kd8) (j4 kd8) .none kV15 dc15 pm15 an15 cd15 ct15),sl15⟩)
  (c_fair:codeIn K cd15 "fair" = true)
  (k_fair:keepIn K (.ref a15) = true)
  (a_weight:nsIn K mainGlobals "weight" = some (some (.ref a16)))
  (l_weight:K.lookup a16 = some ⟨oc16,od16,.func (fnOf "weight" "weight" (v9 jk8) (v5 jk8) (j4 jk8) .none kV16 dc16 pm16 an16 cd16 ct16),sl16⟩)
  (c_weight:codeIn K cd16 "weight" = true)
  (k_weight:keepIn K (.ref a16) = true)
  (a__law_cell_at:nsIn K mainGlobals "_law_cell_at" = some (some (.ref a17)))
  (l__law_cell_at:K.lookup a17 = some ⟨oc17,od17,.func (fnOf "_law_cell_at" "_law_cell_at" (v9 Y3) (v5 Y3) (j4 Y3) .none kV17 dc17 pm17 an17 cd17 ct17),sl17⟩)
  (c__law_cell_at:codeIn K cd17 "_law_cell_at" = true)
  (k__law_cell_at:keepIn K (.ref a17) = true)
  (a__law_mix:nsIn K mainGlobals "_law_mix" = some (some (.ref a18)))
  (l__law_mix:K.lookup a18 = some ⟨oc18,od18,.func (fnOf "_law_mix" "_law_mix" (v9 jd8) (v5 jd8) (j4 jd8) .none kV18 dc18 pm18 an18 cd18 ct18),sl18⟩)
  (c__law_mix:codeIn K cd18 "_law_mix" = true)
  (k__law_mix:keepIn K (.ref a18) = true)
  (a__law_cells_by:nsIn K mainGlobals "_law_cells_by" = some (some (.ref a19)))
  (l__law_cells_by:K.lookup a19 = some ⟨oc19,od19,.func (fnOf "_law_cells_by" "_law_cells_by" (v9 W2) (v5 W2) (j4 W2) .none kV19 dc19 pm19 an19 cd19 ct19),sl19⟩)
  (c__law_cells_by:codeIn K cd19 "_law_cells_by" = true)
  (k__law_cells_by:keepIn K (.ref a19) = true)
  (a__law_pegs_by:nsIn K mainGlobals "_law_pegs_by" = some (some (.ref a20)))
  (l__law_pegs_by:K.lookup a20 = some ⟨oc20,od20,.func (fnOf "_law_pegs_by" "_law_pegs_by" (v9 Y2) (v5 Y2) (j4 Y2) .none kV20 dc20 pm20 an20 cd20 ct20),sl20⟩)
  (c__law_pegs_by:codeIn K cd20 "_law_pegs_by" = true)
  (k__law_pegs_by:keepIn K (.ref a20) = true)
  (a__law_between:nsIn K mainGlobals "_law_between" = some (some (.ref a21)))
  (l__law_between:K.lookup a21 = some ⟨oc21,od21,.func (fnOf "_law_between" "_law_between" (v9 Y0) (v5 Y0) (j4 Y0) .none kV21 dc21 pm21 an21 cd21 ct21),sl21⟩)
  (c__law_between:codeIn K cd21 "_law_between" = true)
  (k__law_between:keepIn K (.ref a21) = true)
  (a__law_leaps:nsIn K mainGlobals "_law_leaps" = some (some (.ref a22)))
  (l__law_leaps:K.lookup a22 = some ⟨oc22,od22,.func (fnOf "_law_leaps" "_law_leaps" (v9 ja9) (v5 ja9) (j4 ja9) .none kV22 dc22 pm22 an22 cd22 ct22),sl22⟩)
  (c__law_leaps:codeIn K cd22 "_law_leaps" = true)
  (k__law_leaps:keepIn K (.ref a22) = true)
  (a__law_weights_by:nsIn K mainGlobals "_law_weights_by" = some (some (.ref a23)))
  (l__law_weights_by:K.lookup a23 = some ⟨oc23,od23,.func (fnOf "_law_weights_by" "_law_weights_by" (v9 Q9) (v5 Q9) (j4 Q9) .none kV23 dc23 pm23 an23 cd23 ct23),sl23⟩)
  (c__law_weights_by:codeIn K cd23 "_law_weights_by" = true)
  (k__law_weights_by:keepIn K (.ref a23) = true)
  (a__law_raised:nsIn K mainGlobals "_law_raised" = some (some (.ref a24)))
  (l__law_raised:K.lookup a24 = some ⟨oc24,od24,.func (fnOf "_law_raised" "_law_raised" (v9 Z7) (v5 Z7) (j4 Z7) .none kV24 dc24 pm24 an24 cd24 ct24),sl24⟩)
  (c__law_raised:codeIn K cd24 "_law_raised" = true)
  (k__law_raised:keepIn K (.ref a24) = true)
  (a__law_fair:nsIn K mainGlobals "_law_fair" = some (some (.ref a25)))
  (l__law_fair:K.lookup a25 = some ⟨oc25,od25,.func (fnOf "_law_fair" "_law_fair" (v9 jb9) (v5 jb9) (j4 jb9) .none kV25 dc25 pm25 an25 cd25 ct25),sl25⟩)
  (c__law_fair:codeIn K cd25 "_law_fair" = true)
  (k__law_fair:keepIn K (.ref a25) = true)
  (a_law:nsIn K mainGlobals "law" = some (some (.ref a26)))
  (l_law:K.lookup a26 = some ⟨oc26,od26,.func (fnOf "law" "law" (v9 ky6) (v5 ky6) (j4 ky6) .none kV26 dc26 pm26 an26 cd26 ct26),sl26⟩)
  (c_law:codeIn K cd26 "law" = true)
  (k_law:keepIn K (.ref a26) = true)
  (m_PegError:nsIn K mainGlobals "PegError" = some (some (.ref C_PegError)))
  (m_BadBoard:nsIn K mainGlobals "BadBoard" = some (some (.ref C_BadBoard)))
  (m_BadPegs:nsIn K mainGlobals "BadPegs" = some (some (.ref C_BadPegs)))
  (m_NoLeap:nsIn K mainGlobals "NoLeap" = some (some (.ref C_NoLeap)))
  (m_BadWeights:nsIn K mainGlobals "BadWeights" = some (some (.ref C_BadWeights)))
  (m_Board:nsIn K mainGlobals "Board" = some (some (.ref C_Board)))
  (e_BadBoard:exB K C_BadBoard [.type "ValueError",.type "Exception",.type "BaseException",.type "object"] "ValueError.__new__" = true)
  (e_BadPegs:exB K C_BadPegs [.type "ValueError",.type "Exception",.type "BaseException",.type "object"] "ValueError.__new__" = true)
  (e_BadWeights:exB K C_BadWeights [.type "ValueError",.type "Exception",.type "BaseException",.type "object"] "ValueError.__new__" = true)
  (z_abs:nsIn K mainGlobals "abs" = some none)
  (z_dict:nsIn K mainGlobals "dict" = some none)
  (z_enumerate:nsIn K mainGlobals "enumerate" = some none)
  (z_len:nsIn K mainGlobals "len" = some none)
  (z_list:nsIn K mainGlobals "list" = some none)
  (z_min:nsIn K mainGlobals "min" = some none)
  (z_range:nsIn K mainGlobals "range" = some none)
  (z_set:nsIn K mainGlobals "set" = some none)
  (z_sorted:nsIn K mainGlobals "sorted" = some none)
  (z_sum:nsIn K mainGlobals "sum" = some none)
  (z_zip:nsIn K mainGlobals "zip" = some none)
  (g_COLOURS:nsIn K mainGlobals "COLOURS" = some (some (.int (3) t_COLOURS)))
  (g_LAST:nsIn K mainGlobals "LAST" = some (some (.int (7) t_LAST)))
  (g_LEAST:nsIn K mainGlobals "LEAST" = some (some (.int (-1000) t_LEAST)))
  (g_MOST:nsIn K mainGlobals "MOST" = some (some (.int (1000) t_MOST)))
  (g_MOST_CELLS:nsIn K mainGlobals "MOST_CELLS" = some (some (.int (24) t_MOST_CELLS)))
  (aI_:findIn K (.ref C_Board) "__init__" = some (some (.ref aI)))
  (iI_:isFn K (.ref aI) = true)
  (lI_:K.lookup aI = some ⟨ocI,odI,.func (fnOf "__init__" "Board.__init__" (v9 ji4) (v5 ji4) (j4 ji4) .none kVI dcI pmI anI cdI ctI),slI⟩)
  (cI_:codeIn K cdI "Board.__init__" = true)
  (kI_:keepIn K (.ref aI) = true)
  (pgB:plainGet K C_Board Str.empty = true)
  (hdB:hasDictIn K C_Board = true)
  (poB:plainOver K C_Board = true)
  (saB:findIn K (.ref C_Board) "__setattr__" = some (some (.builtin "object.__setattr__")))
  (mkB:makesIn K C_Board = true)
  (kcB:keepIn K (.ref C_Board) = true)
  (naB:findIn K (.ref C_Board) "cells" = some none) :
  ∃ t,Txt K mg t:=by
 let t:Adr:=⟨C_PegError,C_BadBoard,C_BadPegs,C_NoLeap,C_BadWeights,C_Board,t_LAST,t_MOST_CELLS,t_LEAST,t_MOST,t_COLOURS⟩
 refine ⟨t,?_⟩
 exact {
  f_is_rising:=U0 X G a_is_rising l_is_rising c_is_rising k_is_rising fun _ _ _ _ _ _ _=>rfl
  f_is_cell:=U0 X G a_is_cell l_is_cell c_is_cell k_is_cell fun _ _ _ _ _ _ _=>rfl
  f_check_cells:=U0 X G a_check_cells l_check_cells c_check_cells k_check_cells fun _ _ _ _ _ _ _=>rfl
  f_check_pegs:=U0 X G a_check_pegs l_check_pegs c_check_pegs k_check_pegs fun _ _ _ _ _ _ _ _=>rfl
  f_two_apart:=U0 X G a_two_apart l_two_apart c_two_apart k_two_apart fun _ _ _ _ _ _ _=>rfl
  f_between:=U0 X G a_between l_between c_between k_between fun _ _ _ _ _ _ _ _=>rfl
  f_leaps:=U0 X G a_leaps l_leaps c_leaps k_leaps fun _ _ _ _ _ _ _=>rfl
  f_can_be_done:=U0 X G a_can_be_done l_can_be_done c_can_be_done k_can_be_done fun _ _ _ _ _ _ _ _=>rfl
  f_pegs_behind:=U0 X G a_pegs_behind l_pegs_behind c_pegs_behind k_pegs_behind fun _ _ _ _ _ _ _ _=>rfl
  f_open_leaps:=U0 X G a_open_leaps l_open_leaps c_open_leaps k_open_leaps fun _ _ _ _ _ _ _ _=>rfl
  f_walked:=U0 X G a_walked l_walked c_walked k_walked fun _ _ _ _ _ _ _ _ _=>rfl
  f_leapt:=U0 X G a_leapt l_leapt c_leapt k_leapt fun _ _ _ _ _ _ _ _ _=>rfl
  f_odd_on:=U0 X G a_odd_on l_odd_on c_odd_on k_odd_on fun _ _ _ _ _ _ _ _=>rfl
  f_class_of:=U0 X G a_class_of l_class_of c_class_of k_class_of fun _ _ _ _ _ _ _ _=>rfl
  f_check_weights:=U0 X G a_check_weights l_check_weights c_check_weights k_check_weights fun _ _ _ _ _ _ _ _=>rfl
  f_fair:=U0 X G a_fair l_fair c_fair k_fair fun _ _ _ _ _ _ _ _=>rfl
  f_weight:=U0 X G a_weight l_weight c_weight k_weight fun _ _ _ _ _ _ _ _ _=>rfl
  f__law_cell_at:=U0 X G a__law_cell_at l__law_cell_at c__law_cell_at k__law_cell_at fun _ _ _ _ _ _ _ _=>rfl
  f__law_mix:=U0 X G a__law_mix l__law_mix c__law_mix k__law_mix fun _ _ _ _ _ _ _ _ _=>rfl
  f__law_cells_by:=U0 X G a__law_cells_by l__law_cells_by c__law_cells_by k__law_cells_by fun _ _ _ _ _ _ _ _=>rfl
  f__law_pegs_by:=U0 X G a__law_pegs_by l__law_pegs_by c__law_pegs_by k__law_pegs_by fun _ _ _ _ _ _ _ _=>rfl
  f__law_between:=U0 X G a__law_between l__law_between c__law_between k__law_between fun _ _ _ _ _ _ _=>rfl
  f__law_leaps:=U0 X G a__law_leaps l__law_leaps c__law_leaps k__law_leaps fun _ _ _ _ _ _ _=>rfl
  f__law_weights_by:=U0 X G a__law_weights_by l__law_weights_by c__law_weights_by k__law_weights_by fun _ _ _ _ _ _ _ _=>rfl
  f__law_raised:=U0 X G a__law_raised l__law_raised c__law_raised k__law_raised fun _ _ _ _ _ _ _ _=>rfl
  f__law_fair:=U0 X G a__law_fair l__law_fair c__law_fair k__law_fair fun _ _ _ _ _ _ _ _=>rfl
  f_law:=U0 X G a_law l_law c_law k_law fun _ _ _ _ _ _ _=>rfl
  n_abs:=mg_none_of X G z_abs
  n_dict:=mg_none_of X G z_dict
  n_enumerate:=mg_none_of X G z_enumerate
  n_len:=mg_none_of X G z_len
  n_list:=mg_none_of X G z_list
  n_min:=mg_none_of X G z_min
  n_range:=mg_none_of X G z_range
  n_set:=mg_none_of X G z_set
  n_sorted:=mg_none_of X G z_sorted
  n_sum:=mg_none_of X G z_sum
  n_zip:=mg_none_of X G z_zip
  g_COLOURS:=mg_of X G g_COLOURS
  g_LAST:=mg_of X G g_LAST
  g_LEAST:=mg_of X G g_LEAST
  g_MOST:=mg_of X G g_MOST
  g_MOST_CELLS:=mg_of X G g_MOST_CELLS
  m_PegError:=mg_of X G m_PegError
  m_BadBoard:=mg_of X G m_BadBoard
  m_BadPegs:=mg_of X G m_BadPegs
  m_NoLeap:=mg_of X G m_NoLeap
  m_BadWeights:=mg_of X G m_BadWeights
  m_Board:=mg_of X G m_Board
  e_BadBoard:=e_BadBoard
  e_BadPegs:=e_BadPegs
  e_BadWeights:=e_BadWeights
  clB:=⟨pgB,hdB,poB,saB⟩
  naB:=naB
  iB:=⟨_,_,kk3 (st:=ji4) lI_ cI_ kI_,⟨mkB,aI_,iI_,kcB⟩,kd0 (kk3 (st:=ji4) lI_ cI_ kI_) fun _ _ _ _ _ _ _ _=>rfl⟩ }
theorem fn_mk {l:OpenLaw} {w:World} {K:Frag} {h:Heap} {mg:Str -> Option Value} {fa:Addr} (hfa:mg "law" = some (.ref fa)) (T:∃ t,Txt K mg t) (hmath:∀ (t:Adr) (ns:List Int),ns.length <= 63 -> kp3 t [.lst (ns.map D.int)] = .ok (.bl true)) :
  ∃ fd:FuncData,(∀ (s:Shared) (v:Value),BindsTo s fd ⟨[v],[]⟩ [("script",v)]) /\ ∀ base:Heap,K.In base -> base.Ns mainGlobals mg -> FnOk l.prog w K mg base (CXr l.prog w) 40 fa fd ["script"] (ky4 K):=by
 obtain ⟨t,T⟩:=T
 obtain ⟨a,fd,Fu,hm,hb⟩:=T.f_law
 obtain rfl:a = fa:=by rw [hm] at hfa; cases hfa; rfl
 refine ⟨fd,fun s v=>?_,fun base hk hn=>?_⟩
 ·obtain ⟨oc,od,kV,doc,pm,an,cdv,ct,osl,rfl,lk,hcd⟩:=Fu.ex
  exact .of_eq rfl
 ·obtain ⟨a',fd',h1,h2,h3⟩:=qv3 (P:=l.prog) (w:=w) (base:=base) T (hmath t)
  rw [hm] at h2
  cases h2
  obtain ⟨o,l1,d1⟩:=h3
  obtain ⟨o',l2,d2⟩:=kk9 Fu
  rw [l1] at l2
  cases l2
  rw [d1] at d2
  cases d2
  exact h1
theorem walk {l:OpenLaw} {q:Program} {loose:List Str} {XP:(Str -> Option Value) -> Heap -> Prop} {YP:World -> Heap -> Prop} {d:DefRec} {K:Params -> Frag} (hn:l.most = some 63) (hdf:d.params.defaults = [])
  (hY:∀ (w:World) (h:Heap),YP w h -> (K w.params).In h)
  (F:∀ (w:World) (mg:Str -> Option Value) (fa:Addr) (h:Heap),(K w.params).In h -> h.Ns mainGlobals mg -> mg d.name = some (.ref fa) ->
   ∃ fd:FuncData,(∀ (s:Shared) (u:Value),BindsTo s fd ⟨[u],[]⟩ [("script",u)]) /\ ∀ base:Heap,(K w.params).In base -> base.Ns mainGlobals mg -> FnOk l.prog w (K w.params) mg base (CXr l.prog w) 40 fa fd ["script"] (ky4 (K w.params))) :
  WalkO q loose XP YP l.row.toRowW d [] (fun f vs=>PySem.call f vs) :=
 L2.walk_of (n:=63) (k:=40) (x:="script") (CX:=fun w=>CXr l.prog w) (sp:=fun w=>ky4 (K w.params)) hn (by decide) hdf ⟨rfl,by decide,by decide⟩ hY F (fun _ _ a ns hl _ hS=>⟨a,ns,rfl,hS,hl,fun _=>rfl⟩) fun w H s e s' zz2=>zz2.elim fun _ zz3=>zz3.elim fun _ zz4=>zz4.elim fun _ zz5=>zz5.elim fun _ zz6=>zz6.elim fun _ zz7=>zz7.elim fun _ zz8=>zz8.elim fun _ zz9=>zz9.elim fun _ zz10=>zz10.elim fun _ zz11=>zz11.elim fun _ zz12=>zz12.elim fun z _=>z
theorem walkX {l:OpenLaw} {q:Program} {loose:List Str} {XP:(Str -> Option Value) -> Heap -> Prop} {d:DefRec} {K:Params -> Frag} {as:List Addr} {n t:Nat} (hn:l.most = some 63) (hdf:d.params.defaults = []) (e:∀ P,as = (K P).map (·.1))
  (F:∀ (w:World) (mg:Str -> Option Value) (fa:Addr) (h:Heap),(K w.params).In h -> h.Ns mainGlobals mg -> mg d.name = some (.ref fa) ->
   ∃ fd:FuncData,(∀ (s:Shared) (u:Value),BindsTo s fd ⟨[u],[]⟩ [("script",u)]) /\ ∀ base:Heap,(K w.params).In base -> base.Ns mainGlobals mg -> FnOk l.prog w (K w.params) mg base (CXr l.prog w) 40 fa fd ["script"] (ky4 (K w.params))) :
  WalkX q loose XP (X.obsZ as) (X.valZ K n t) l.row.toRowW d [] (fun f vs=>PySem.call f vs) :=
 fun w s₀ s₁ mg mb G y a o pm cd doc dV kV h1 h2 h3 h4 h5 h6 args vals as' L h7 h8 h9 h10 h11=>walk (YP:=fun w h=>(K w.params).In h) hn hdf (fun _ _ h=>h) F w s₀ s₁ mg mb G (InK.keeps w s₀.heap s₁.heap (X.z_facts e y).2.1 L.keeps) a o pm cd doc dV kV h1 h2 h3 h4 h5 h6 args vals as' h7 h8 h9 h10 h11
end Pk
end T_K07
section T_Sim
namespace Dm
open L2 HT
section
variable {f fa fb fc g:DF} {fs:DA} {F G:DS} {st st':DSt} {d a b:D} {ds:List D} {i j:Nat}
@[simp] theorem bind_ok {α β:Type} (a:α) (f:α -> R β):R.bind (.ok a) f = f a:=rfl
@[simp] theorem bind_bad {α β:Type} (f:α -> R β):R.bind (.bad:R α) f = .bad:=rfl
@[simp] theorem bind_ex {α β:Type} (c:PySem.Addr) (p:Option Int) (f:α -> R β):R.bind (.ex c p:R α) f = .ex c p:=rfl
@[simp] theorem dSeq_ (st:DSt):dSeq F G st = match F st with | .nx st'=>G st' | o=>o:=rfl
@[simp] theorem dNext_ (st:DSt):J2 st = .nx st:=rfl
@[simp] theorem dAsg_ (st:DSt):dAsg i f st = match f st with | .ok d=>.nx (st.set i (some d)) | .ex c p=>.ex c p st | .bad=>.bad:=rfl
@[simp] theorem dDrop_ (st:DSt):jx5 f st = match f st with | .ok _=>.nx st | .ex c p=>.ex c p st | .bad=>.bad:=rfl
@[simp] theorem dRet_ (st:DSt):dRet f st = match f st with | .ok d=>.rt d | .ex c p=>.ex c p st | .bad=>.bad:=rfl
@[simp] theorem dIfS_ (st:DSt):Dm.dIfS fc F G st = match fc st with | .ok (.bl true)=>F st | .ok (.bl false)=>G st | .ok _=>.bad | .ex c p=>.ex c p st | .bad=>.bad:=rfl
@[simp] theorem dRaise0_ {c:PySem.Addr} (st:DSt):W9 c st = .ex c none st:=rfl
@[simp] theorem dVar_ (st:DSt):dVar i st = match st[i]? with | some (some d)=>.ok d | _=>.bad:=rfl
@[simp] theorem dC_ (st:DSt):dC d st = .ok d:=rfl
@[simp] theorem dFlat_ (st:DSt):v6 f st = (f st).bind fun d=>if noL d = true then .ok d else .bad:=rfl
@[simp] theorem dOp_ {g:D -> D -> R D} (st:DSt):dOp g fa fb st = (fa st).bind fun a=>(fb st).bind fun b=>g a b:=rfl
@[simp] theorem dUn_ {g:D -> R D} (st:DSt):dUn g fa st = (fa st).bind g:=rfl
@[simp] theorem aNil_ (st:DSt):aNil st = .ok []:=rfl
@[simp] theorem aCons_ (st:DSt):j2 f fs st = (f st).bind fun d=>(fs st).bind fun ds=>.ok (d :: ds):=rfl
@[simp] theorem dTup_ {n:Nat} (st:DSt):z8 n fs st = (fs st).bind fun ds=>if ds.length <= n then .ok (.tup ds) else .bad:=rfl
@[simp] theorem dLst_ {n:Nat} (st:DSt):Z2 n fs st = (fs st).bind fun ds=>if ds.length <= n then .ok (.lst ds) else .bad:=rfl
@[simp] theorem dFn_ {g:List D -> R D} (st:DSt):dFn g fs st = (fs st).bind g:=rfl
@[simp] theorem dAnd_ (st:DSt):dAnd fa fb st = (fa st).bind fun a=>match a with | .bl true=>fb st | .bl false=>.ok (.bl false) | _=>.bad:=rfl
@[simp] theorem dOr_ (st:DSt):dOr fa fb st = (fa st).bind fun a=>match a with | .bl true=>.ok (.bl true) | .bl false=>fb st | _=>.bad:=rfl
@[simp] theorem dNot_ (st:DSt):dNot fa st = (fa st).bind fun a=>match a with | .bl b=>.ok (.bl (!b)) | _=>.bad:=rfl
@[simp] theorem dChain_ {g g':D -> D -> R D} (st:DSt):ji3 g g' fa fb fc st = (fa st).bind fun a=>(fb st).bind fun b=>(g a b).bind fun z=>match z with
 | .bl true=>(fc st).bind fun c=>g' b c
 | .bl false=>.ok (.bl false)
 | _=>.bad:=rfl
@[simp] theorem gAdd_ (i j:Int):gAdd (.int i) (.int j) = .ok (.int (i + j)):=rfl
@[simp] theorem gSub_ (i j:Int):gSub (.int i) (.int j) = .ok (.int (i - j)):=rfl
@[simp] theorem gLt_ (i j:Int):gLt (.int i) (.int j) = .ok (.bl (decide (i < j))):=rfl
@[simp] theorem gLe_ (i j:Int):gLe (.int i) (.int j) = .ok (.bl (decide (i <= j))):=rfl
@[simp] theorem gGt_ (i j:Int):gGt (.int i) (.int j) = .ok (.bl (decide (j < i))):=rfl
@[simp] theorem gNeg_ (i:Int):gNeg (.int i) = .ok (.int (-i)):=rfl
@[simp] theorem gLenL_ (ds:List D):gLen [.lst ds] = .ok (.int ds.length):=rfl
@[simp] theorem gLenT_ (ds:List D):gLen [.tup ds] = .ok (.int ds.length):=rfl
@[simp] theorem noL_int (i:Int):noL (.int i) = true:=by rw [noL] <;> simp
@[simp] theorem noL_bl (i:Bool):noL (.bl i) = true:=by rw [noL] <;> simp
@[simp] theorem dFor_ {gi:DI} {bind:DB} (st:DSt):dFor gi bind F st = match gi st with | .ok ds=>jb3 bind F ds st | .ex c p=>.ex c p st | .bad=>.bad:=rfl
@[simp] theorem iLst_ (st:DSt):iLst f st = match f st with | .ok (.lst ds)=>.ok ds | .ok _=>.bad | .ex c p=>.ex c p | .bad=>.bad:=rfl
theorem jo5 {i j:Int} (h:0 < j):gMod (.int i) (.int j) = .ok (.int (i % j)):=by
 show (if decide (0 < j) = true then _ else _) = _
 rw [if_pos (decide_eq_true h)]
theorem kx4 {i j:Int} (h:0 < j) (h2:j < 1073741824):gDiv (.int i) (.int j) = .ok (.int (i / j)):=by
 show (if (decide (0 < j) && decide (j < 1073741824)) = true then _ else _) = _
 rw [if_pos (by rw [decide_eq_true h,decide_eq_true h2]; rfl)]
theorem jv1 {i j:Int} (h : -(2 ^ 64) < i /\ i < 2 ^ 64):gMul (.int i) (.int j) = .ok (.int (i * j)):=by
 show (if (sm i || sm j) = true then _ else _) = _
 rw [if_pos]
 unfold sm
 rw [decide_eq_true h.1,decide_eq_true h.2]; rfl
end
noncomputable abbrev Cell:=Int × Int
noncomputable def cD (c:Cell):D:=.tup [.int c.1,.int c.2]
noncomputable abbrev cs2 (l:List Cell):D:=.lst (l.map cD)
noncomputable def row (c:Cell):List Int:=[c.1,c.2]
theorem qp2 {a b:Cell} (h:row a = row b):a = b:=by
 obtain ⟨a1,a2⟩:=a; obtain ⟨b1,b2⟩:=b
 simp [row] at h; simp [h]
@[simp] theorem noL_cD (c:Cell):noL (cD c) = true:=by unfold cD; simp [noL,noLs]
@[simp] theorem noLs_cs (l:List Cell):noLs (l.map cD) = true:=jc6 fun d hd=>by obtain ⟨c,_,rfl⟩:=List.mem_map.mp hd; exact noL_cD c
@[simp] theorem flat_cD (c:Cell):flat (cD c) = true:=by unfold cD; simp [flat,Q0]
@[simp] theorem flats_cs (l:List Cell):Q0 (l.map cD) = true:=jg0 fun d hd=>by obtain ⟨c,_,rfl⟩:=List.mem_map.mp hd; exact flat_cD c
@[simp] theorem dep_cD (c:Cell):dep (cD c) = 1:=by unfold cD; simp [dep,deps]
theorem jz5 (l:List Cell):deps (l.map cD) <= 1:=jq1 fun d hd=>by obtain ⟨c,_,rfl⟩:=List.mem_map.mp hd; rw [dep_cD]; exact Nat.le_refl _
@[simp] theorem eqD_cD (a b:Cell):eqD (cD a) (cD b) = decide (a = b):=by
 obtain ⟨a1,a2⟩:=a; obtain ⟨b1,b2⟩:=b
 unfold cD
 simp only [eqD,eqDs,Bool.and_true]
 by_cases h:a1 = b1 <;> by_cases h':a2 = b2 <;> simp [h,h']
@[simp] theorem eqDs_cs:∀ (a b:List Cell),eqDs (a.map cD) (b.map cD) = decide (a = b)
 | [],[]=>by simp [eqDs]
 | [],_ :: _=>by simp [eqDs]
 | _ :: _,[]=>by simp [eqDs]
 | x :: a,y :: b=>by
  rw [List.map_cons,List.map_cons,eqDs,eqD_cD,eqDs_cs a b]
  by_cases h:x = y <;> by_cases h':a = b <;> simp [h,h']
theorem kq5 (neg:Bool) (a b:List Cell):gEq neg (cs2 a) (cs2 b) = .ok (.bl (if neg then !decide (a = b) else decide (a = b))):=by
 unfold gEq
 have h:=jz5 a
 rw [if_pos]
 ·simp [eqD]
 ·simp [flat,dep]; lia
theorem jd5 (neg:Bool) (i j:Int):gEq neg (.int i) (.int j) = .ok (.bl (if neg then !decide (i = j) else decide (i = j))):=by
 unfold gEq
 rw [if_pos (by simp [flat,dep])]
 have e:eqD (.int i) (.int j) = decide (i = j):=by
  rw [eqD]
  by_cases h:i = j
  ·simp [h]
  ·rw [decide_eq_false h]; exact beq_eq_false_iff_ne.mpr h
 rw [e]
theorem jg5 (neg:Bool) (c:Cell) (l:List Cell):gIn neg (cD c) (cs2 l) = .ok (.bl (if neg then !decide (c ∈ l) else decide (c ∈ l))):=by
 unfold gIn
 have h:=jz5 l
 dsimp only
 rw [if_pos (by simp; lia)]
 have e:(l.map cD).any (fun e=>eqD e (cD c)) = decide (c ∈ l):=by
  induction l with
  | nil=>rfl
  | cons x l ih =>
   rw [List.map_cons,List.any_cons,eqD_cD,ih (jz5 l)]
   by_cases hx:x = c
   ·simp [hx]
   ·have:¬ c = x:=fun z=>hx z.symm
    simp [hx,this]
 rw [e]
theorem qn7 (c:Cell):rowI (cD c) = some (row c):=rfl
theorem kl7:∀ l:List Cell,kw3 (l.map cD) = some (l.map row)
 | []=>rfl
 | c :: l=>by
  have ih:=kl7 l
  unfold kw3 at ih ⊢
  rw [List.map_cons,List.mapM_cons,qn7,ih]
  rfl
theorem qo6:∀ l:List Cell,jm7 (l.map row) = true
 | []=>rfl
 | c :: l=>by
  unfold jm7
  rw [List.map_cons]
  simp [row]
noncomputable def cLt (a b:Cell):Prop:=a.1 < b.1 \/ (a.1 = b.1 /\ a.2 < b.2)
noncomputable instance (a b:Cell):Decidable (cLt a b):=inferInstanceAs (Decidable (_ \/ _))
noncomputable def Rising (l:List Cell):Prop:=l.Pairwise cLt
theorem lex2 (a b:Cell):U2 (row a) (row b) = decide (cLt a b):=by
 obtain ⟨a1,a2⟩:=a; obtain ⟨b1,b2⟩:=b
 unfold row cLt
 rw [Q8]
 by_cases h2:a1 = b1
 ·subst h2
  rw [if_pos rfl,Q8]
  by_cases h3:a2 = b2
  ·subst h3; rw [if_pos rfl]; simp [jx9]
  ·rw [if_neg h3]; simp
 ·rw [if_neg h2]; simp [h2]
theorem qq2 (c:Cell):fl (cD c) = row c:=by unfold cD row; simp [fl,fls]
theorem qp8 (a b:Cell):leL (fl (cD a)) (fl (cD b)) = !decide (cLt b a):=by rw [qq2,qq2]; unfold leL; rw [lex2]
theorem qa0 (a b:Cell):cLt a b \/ a = b \/ cLt b a:=by
 obtain ⟨a1,a2⟩:=a; obtain ⟨b1,b2⟩:=b
 unfold cLt
 by_cases h1:a1 < b1
 ·exact .inl (.inl h1)
 ·by_cases h2:b1 < a1
  ·exact .inr (.inr (.inl h2))
  ·have:a1 = b1:=by lia
   subst this
   by_cases h3:a2 < b2
   ·exact .inl (.inr ⟨rfl,h3⟩)
   ·by_cases h4:b2 < a2
    ·exact .inr (.inr (.inr ⟨rfl,h4⟩))
    ·have:a2 = b2:=by lia
     subst this; exact .inr (.inl rfl)
theorem jr8 (a:Cell):¬ cLt a a:=by unfold cLt; lia
theorem kr3 {a b c:Cell} (h:cLt a b) (h':cLt b c):cLt a c:=by unfold cLt at *; lia
theorem jp0 {a b:Cell} (h:cLt a b):¬ cLt b a:=fun h'=>jr8 a (kr3 h h')
theorem Rising.nodup {l:List Cell} (h:Rising l):l.Nodup:=h.imp fun {a b} hab e=>by subst e; exact jr8 _ hab
noncomputable def toC:D -> Cell
 | .tup [.int a,.int b]=>(a,b)
 | _=>(0,0)
theorem qk2 (c:Cell):toC (cD c) = c:=rfl
theorem qz4 {α:Type} [DecidableEq α]:∀ {l:List α},l.Nodup -> dd l = l
 | [],_=>rfl
 | x :: l,h=>by
  rw [List.nodup_cons] at h
  rw [dd,if_neg h.1,qz4 h.2]
theorem kx8 {l:List Cell} (h:l.Nodup):(l.map row).Nodup:=by
 rw [List.nodup_iff_pairwise_ne] at h ⊢
 exact List.Pairwise.map row (fun a b hab e=>hab (qp2 e)) h
theorem qq6 {l:List Cell} (h:Rising l):jc4 (l.map cD) = l.map cD:=by
 symm
 refine Z0 (fun a ha b hb=>?_) (.refl _) ?_
 ·refine x1_2 (List.mem_map.mp ha) fun x _ zo2=>?_
  obtain rfl:=zo2
  refine x1_2 (List.mem_map.mp hb) fun y _ zo2=>?_
  obtain rfl:=zo2
  unfold cD; simp [shp,shps]
 ·refine List.Pairwise.map cD (fun a b hab=>?_) h
  rw [qp8,decide_eq_false (jp0 hab)]; rfl
theorem qt6 (l:List Cell):(l.map row).map dRow = l.map cD:=by rw [List.map_map]; rfl
theorem kp9 (l:List Cell) (hl:l.length <= 50):∃ m:List Cell,jf9 (cs2 l) = .ok (cs2 m) /\ (l = m ↔ Rising l):=by
 let ys:=jc4 ((dd (l.map row)).map dRow)
 have hp:ys.Perm ((dd (l.map row)).map dRow):=W0 _
 have hy:∀ y ∈ ys,∃ c ∈ l,y = cD c:=fun y h=>by
  refine x1_2 (List.mem_map.mp (hp.mem_iff.mp h)) fun r hr zo2=>?_
  obtain rfl:=zo2
  refine x1_2 (List.mem_map.mp (jw0.mp hr)) fun c hc zo2=>?_
  obtain rfl:=zo2
  exact ⟨c,hc,rfl⟩
 have hm:ys = (ys.map toC).map cD:=by
  rw [List.map_map]
  conv=>lhs; rw [<- List.map_id ys]
  refine List.map_congr_left fun y h=>?_
  refine x1_2 (hy y h) fun c _ zo2=>?_
  obtain rfl:=zo2
  rfl
 refine ⟨ys.map toC,?_,?_⟩
 ·unfold jf9
  dsimp only
  rw [kl7]
  dsimp only
  rw [if_pos (by rw [qo6,Bool.true_and,List.length_map]; exact decide_eq_true hl)]
  show R.ok (D.lst ys) = _
  exact congrArg (fun z=>R.ok (D.lst z)) hm
 ·constructor
  ·intro e
   have hys:ys = l.map cD:=by rw [hm,<- e]
   have hnd:ys.Nodup:=by
    refine hp.nodup_iff.mpr ?_
    have:=jp2 (l.map row)
    rw [List.nodup_iff_pairwise_ne] at this ⊢
    refine List.Pairwise.map dRow (fun a b hab e=>hab ?_) this
    unfold dRow at e
    have e':a.map D.int = b.map D.int:=by injection e
    exact List.map_inj_right (fun x y h=>by injection h) |>.mp e'
   have hpw:=jo8 ((dd (l.map row)).map dRow)
   change List.Pairwise _ ys at hpw
   rw [hys] at hnd hpw
   rw [List.nodup_iff_pairwise_ne] at hnd
   rw [List.pairwise_map] at hnd hpw
   refine (hnd.and hpw).imp fun {a b} zz1=>?_
   obtain ⟨h1,h2⟩:=zz1
   rw [qp8] at h2
   rcases qa0 a b with h | h | h
   ·exact h
   ·subst h; exact absurd rfl h1
   ·rw [decide_eq_true h] at h2; cases h2
  ·intro h
   have e1:dd (l.map row) = l.map row:=qz4 (kx8 h.nodup)
   have e2:ys = l.map cD:=by
    show jc4 _ = _
    rw [e1,qt6,qq6 h]
   rw [e2,List.map_map]
   conv=>lhs; rw [<- List.map_id l]
   exact List.map_congr_left fun c _=>(qk2 c).symm
end Dm
end T_Sim
section T_Sim2
namespace Dm
open L2 HT
theorem v4 {F G:DS} {st st':DSt} (h:F st = .nx st'):dSeq F G st = G st':=by simp [h]
theorem kx0 {F G:DS} {st:DSt} {d:D} (h:F st = .rt d):dSeq F G st = .rt d:=by simp [h]
theorem qi9 {F G:DS} {st s:DSt} {c:PySem.Addr} {p:Option Int} (h:F st = .ex c p s):dSeq F G st = .ex c p s:=by simp [h]
theorem ji2 {f:DF} {st:DSt} {i:Nat} {d:D} (h:f st = .ok d):dAsg i f st = .nx (st.set i (some d)):=by simp [h]
theorem jg4 {f:DF} {st:DSt} {d:D} (h:f st = .ok d):dRet f st = .rt d:=by simp [h]
theorem if_t {fc:DF} {F G:DS} {st:DSt} (h:fc st = .ok (.bl true)):Dm.dIfS fc F G st = F st:=by simp [h]
theorem if_f {fc:DF} {F G:DS} {st:DSt} (h:fc st = .ok (.bl false)):Dm.dIfS fc F G st = G st:=by simp [h]
theorem W5 {n:Nat} {F:DS} {ds:List D} {d:D} (st:DSt) (h:F st = .rt d) (e:ds.map some ++ List.replicate (n - ds.length) none = st:=by rfl):J4 n F ds = .ok d:=by
 subst e; unfold J4; rw [h]
theorem kz6 {n:Nat} {F:DS} {ds:List D} {c:PySem.Addr} {p:Option Int} {s:DSt} (st:DSt) (h:F st = .ex c p s) (e:ds.map some ++ List.replicate (n - ds.length) none = st:=by rfl):J4 n F ds = .ex c p:=by
 subst e; unfold J4; rw [h]
theorem qt2 {n:Nat} {F:DS} {ds:List D} {s:DSt} (st:DSt) (h:F st = .nx s) (e:ds.map some ++ List.replicate (n - ds.length) none = st:=by rfl):J4 n F ds = .ok .non:=by
 subst e; unfold J4; rw [h]
theorem fn1 {g:List D -> R D} {f1:DF} {st:DSt} {a:D} {r:R D} (h1:f1 st = .ok a) (h:g [a] = r):dFn g (j2 f1 aNil) st = r:=by simp [h1,h]
theorem fn2 {g:List D -> R D} {f1 f2:DF} {st:DSt} {a b:D} {r:R D} (h1:f1 st = .ok a) (h2:f2 st = .ok b) (h:g [a,b] = r):dFn g (j2 f1 (j2 f2 aNil)) st = r:=by simp [h1,h2,h]
theorem fn3 {g:List D -> R D} {f1 f2 f3:DF} {st:DSt} {a b c:D} {r:R D} (h1:f1 st = .ok a) (h2:f2 st = .ok b) (h3:f3 st = .ok c) (h:g [a,b,c] = r):dFn g (j2 f1 (j2 f2 (j2 f3 aNil))) st = r:=by simp [h1,h2,h3,h]
theorem op2 {g:D -> D -> R D} {f1 f2:DF} {st:DSt} {a b:D} {r:R D} (h1:f1 st = .ok a) (h2:f2 st = .ok b) (h:g a b = r):dOp g f1 f2 st = r:=by simp [h1,h2,h]
theorem qw1 {f:DF} {st:DSt} {d:D} (h:f st = .ok d) (n:noL d = true):v6 f st = .ok d:=by simp [h,n]
theorem kj0 {f g:DF} {st:DSt} {r:R D} (h:f st = .ok (.bl true)) (h2:g st = r):dAnd f g st = r:=by simp [h,h2]
theorem qk3 {f g:DF} {st:DSt} (h:f st = .ok (.bl false)):dAnd f g st = .ok (.bl false):=by simp [h]
theorem vc8 {f g:DF} {st:DSt} (h:f st = .ok (.bl true)):dOr f g st = .ok (.bl true):=by simp [h]
theorem qf8 {f g:DF} {st:DSt} {r:R D} (h:f st = .ok (.bl false)) (h2:g st = r):dOr f g st = r:=by simp [h,h2]
theorem qe7 {f:DF} {st:DSt} {b:Bool} (h:f st = .ok (.bl b)):dNot f st = .ok (.bl (!b)):=by simp [h]
theorem ji7 {α:Type} {bind:DB} {ft fe:DF} {f:α -> D} {p:α -> Bool} {g:α -> D} {S:α -> DSt} {P:DSt -> Prop}:∀ (xs:List α) (hS:∀ x ∈ xs,P (S x)) (hb:∀ x ∈ xs,∀ st,P st -> bind (f x) st = some (S x)) (ht:∀ x ∈ xs,ft (S x) = .ok (.bl (p x))) (he:∀ x ∈ xs,p x = true -> fe (S x) = .ok (g x)) (st:DSt),P st -> jc0 bind ft fe (xs.map f) st = .ok ((xs.filter p).map g)
 | [],_,_,_,_,_,_=>rfl
 | x :: xs,hS,hb,ht,he,st,h=>by
  have ih:=ji7 xs (fun y hy=>hS y (.tail _ hy)) (fun y hy=>hb y (.tail _ hy)) (fun y hy=>ht y (.tail _ hy)) (fun y hy=>he y (.tail _ hy)) (S x) (hS x (.head _))
  rw [List.map_cons,jc0,hb x (.head _) st h]
  dsimp only
  rw [ht x (.head _)]
  cases hp:p x with
  | true =>
   dsimp only
   rw [he x (.head _) hp,List.filter_cons_of_pos hp,List.map_cons,ih]
  | false =>
   dsimp only
   rw [List.filter_cons_of_neg (by rw [hp]; exact Bool.false_ne_true),ih]
theorem jf5 {gi:DI} {k:Nat} {fr:List Nat} {bind:DB} {ft fe:DF} {st:DSt} {ds es:List D} (h1:gi st = .ok ds) (hl:ds.length <= 1000) (h2:jc0 bind ft fe ds (inσ k fr st) = .ok es):jf7 gi k fr bind ft fe st = .ok (.lst es):=by
 unfold jf7
 rw [h1]
 dsimp only
 rw [if_pos hl,h2]
theorem jl4 {α:Type} {bind:DB} {F:DS} {f:α -> D} {Q:List α -> DSt -> Prop}:∀ (xs pre:List α) (st:DSt),(∀ p x r,pre ++ xs = p ++ x :: r -> ∀ st,Q p st -> ∃ st1 st2,bind (f x) st = some st1 /\ F st1 = .nx st2 /\ Q (p ++ [x]) st2) -> Q pre st -> ∃ st',jb3 bind F (xs.map f) st = .nx st' /\ Q (pre ++ xs) st'
 | [],pre,st,_,q=>⟨st,rfl,by simpa using q⟩
 | x :: xs,pre,st,h,q=>by
  refine x2_3 (h pre x xs rfl st q) fun st1 st2 h1 h2 q2=>?_
  refine x1_2 (jl4 xs (pre ++ [x]) st2 (fun p y r e=>h p y r (by simpa using e)) q2) fun st' h3 q3=>?_
  refine ⟨st',?_,by simpa using q3⟩
  rw [List.map_cons,jb3,h1]
  dsimp only
  rw [h2]
  exact h3
noncomputable def Stop (o:Out):Prop:=match o with | .rt _=>True | .ex _ _ _=>True | _=>False
theorem jr5 {α:Type} {bind:DB} {F:DS} {f:α -> D} {Q:DSt -> Prop} {p:α -> Prop} {S:Out -> Prop} (hS:∀ o,S o -> Stop o):∀ (xs:List α) (st:DSt),(∀ x ∈ xs,∀ st,Q st -> ∃ st1,bind (f x) st = some st1 /\ (p x -> ∃ st2,F st1 = .nx st2 /\ Q st2) /\ (¬ p x -> S (F st1))) -> Q st ->
  ((∀ x ∈ xs,p x) -> ∃ st',jb3 bind F (xs.map f) st = .nx st' /\ Q st') /\ (¬ (∀ x ∈ xs,p x) -> S (jb3 bind F (xs.map f) st))
 | [],st,_,q=>⟨fun _=>⟨st,rfl,q⟩,fun h=>absurd (fun x hx=>by cases hx) h⟩
 | x :: xs,st,h,q=>by
  refine x1_3 (h x (.head _) st q) fun st1 h1 h2 h3=>?_
  rw [List.map_cons,jb3,h1]
  dsimp only
  by_cases hp:p x
  ·refine x1_2 (h2 hp) fun st2 e2 q2=>?_
   obtain ⟨i1,i2⟩:=jr5 hS xs st2 (fun y hy=>h y (.tail _ hy)) q2
   rw [e2]
   dsimp only
   refine ⟨fun z=>i1 fun y hy=>z y (.tail _ hy),fun z=>i2 fun z'=>z fun y hy=>?_⟩
   rcases List.mem_cons.mp hy with rfl | hy
   ·exact hp
   ·exact z' y hy
  ·have s:=h3 hp
   refine ⟨fun z=>absurd (z x (.head _)) hp,fun _=>?_⟩
   cases hf:F st1 with
   | rt d=>rw [hf] at s; exact s
   | ex c p st=>rw [hf] at s; exact s
   | _=>rw [hf] at s; exact absurd (hS _ s) (by simp [Stop])
theorem kz1 {α:Type} (f:α -> D) (l:List α):enD (l.map f) = l.zipIdx.map fun p=>.tup [.int (p.2:Nat),f p.1]:=by
 unfold enD
 refine List.ext_getElem? fun i=>?_
 rw [List.getElem?_mapIdx,List.getElem?_map,List.getElem?_map,List.getElem?_zipIdx]
 cases l[i]? <;> simp
theorem jy0 {ds:List D} {n:Nat} {d:D} (h:ds[n]? = some d):gIx (.lst ds) (.int n) = .ok d:=by
 have hl:=(List.getElem?_eq_some_iff.mp h).1
 have e:atI ds (n:Int) = some d:=by
  unfold atI ixN
  rw [if_pos (Int.natCast_nonneg n),if_pos (by lia)]
  simpa using h
 unfold gIx
 dsimp only
 rw [e]
theorem jy1 (ds:List D) (m:Nat):cutD ds none (some (m:Int)) = ds.take m:=by
 unfold cutD HT.sIx
 simp only [List.drop_zero,Nat.sub_zero]
 rw [if_neg (by lia)]
 simp only [Int.toNat_natCast]
 by_cases h:m <= ds.length
 ·rw [Nat.min_eq_left h]
 ·rw [Nat.min_eq_right (by lia),List.take_length,List.take_of_length_le (by lia)]
theorem qd7 (ds:List D) (m:Nat):cutD ds (some (m:Int)) none = ds.drop m:=by
 unfold cutD HT.sIx
 dsimp only
 rw [if_neg (by lia)]
 simp only [Int.toNat_natCast]
 by_cases h:m <= ds.length
 ·rw [Nat.min_eq_left h,List.take_of_length_le (by simp)]
 ·rw [Nat.min_eq_right (by lia),List.drop_length,List.drop_of_length_le (by lia)]; simp
theorem vd4 {f g:DF} {st:DSt} {l:List Cell} {a:Nat} (h1:f st = .ok (cs2 l)) (h2:g st = .ok (.int (a:Int))):dSl f none (some g) st = .ok (cs2 (l.take a)):=by
 simp [dSl,jt9,h1,h2,jy1]
theorem qt3 {f g:DF} {st:DSt} {l:List Cell} {a:Nat} (h1:f st = .ok (cs2 l)) (h2:g st = .ok (.int (a:Int))):dSl f (some g) none st = .ok (cs2 (l.drop a)):=by
 simp [dSl,jt9,h1,h2,qd7]
theorem qj5 {l m:List Cell} (h:l.length + m.length <= 1000):gCat (cs2 l) (cs2 m) = .ok (cs2 (l ++ m)):=by
 unfold gCat
 dsimp only
 rw [if_pos (by simp; lia)]
 simp
theorem qk5 (a b:Cell):shp (cD a) (cD b) = true:=by unfold cD; simp [shp,shps]
theorem qz8 (a:Cell):nl (cD a) = true:=by unfold cD; simp [nl,nls]
theorem qf0 {l:List Cell} (h:l.length < 64):jt6 (l.map cD) = true:=by
 unfold jt6
 simp only [Bool.and_eq_true,Bool.or_eq_true,decide_eq_true_eq,List.all_eq_true,List.length_map]
 refine ⟨⟨⟨⟨h,noLs_cs l⟩,fun d hd=>?_⟩,fun a ha b hb=>?_⟩,.inl (.inr fun d hd=>?_)⟩
 ·refine x1_2 (List.mem_map.mp hd) fun c _ zo2=>?_
  obtain rfl:=zo2
  exact ⟨qz8 c,by rw [dep_cD]; decide⟩
 ·refine x1_2 (List.mem_map.mp ha) fun c _ zo2=>?_
  obtain rfl:=zo2
  refine x1_2 (List.mem_map.mp hb) fun c' _ zo2=>?_
  obtain rfl:=zo2
  exact qk5 c c'
 ·refine x1_2 (List.mem_map.mp hd) fun c _ zo2=>?_
  obtain rfl:=zo2
  rfl
theorem jo2 {l m:List Cell} (hp:m.Perm l) (hs:m.Pairwise (fun a b=>¬ cLt b a)) (hn:l.Nodup):Rising m:=by
 have hn':m.Nodup:=hp.nodup_iff.mpr hn
 rw [List.nodup_iff_pairwise_ne] at hn'
 refine (hn'.and hs).imp fun {a b} zz1=>?_
 obtain ⟨h1,h2⟩:=zz1
 rcases qa0 a b with h | h | h
 ·exact h
 ·exact absurd h h1
 ·exact absurd h h2
theorem kn7 {l m:List Cell} (hl:Rising l) (hm:Rising m) (h:∀ c,c ∈ l ↔ c ∈ m):l = m:=by
 have hp:l.Perm m:=(List.perm_ext_iff_of_nodup hl.nodup hm.nodup).mpr h
 exact hp.eq_of_pairwise (fun a b _ _ h1 h2=>absurd h2 (jp0 h1)) hl hm
@[simp] theorem gCells_ (l:List Cell):U3 (.brd 0 (l.map cD)) = .ok (cs2 l):=by simp [U3]
@[simp] theorem gList_cs (l:List Cell):jo3 [cs2 l] = .ok (cs2 l):=by simp [jo3]
end Dm
end T_Sim2
section T_Sim3
namespace Dm
open L2 HT
noncomputable abbrev Leap:=Cell × Cell
noncomputable def lD (p:Leap):D:=.tup [cD p.1,cD p.2]
noncomputable abbrev ls2 (l:List Leap):D:=.lst (l.map lD)
noncomputable def mid (a b:Cell):Cell:=((a.1 + b.1) / 2,(a.2 + b.2) / 2)
noncomputable def four (c:Cell):List Cell:=[(c.1 - 2,c.2),(c.1,c.2 - 2),(c.1,c.2 + 2),(c.1 + 2,c.2)]
noncomputable def lp1 (cells:List Cell) (a:Cell):List Cell:=(four a).filter fun b=>decide (b ∈ cells) && decide (mid a b ∈ cells)
noncomputable def v7 (cells:List Cell):List Leap:=cells.flatMap fun a=>(lp1 cells a).map fun b=>(a,b)
theorem Z1 {cells:List Cell} {p:Leap}:p ∈ v7 cells ↔ p.1 ∈ cells /\ p.2 ∈ four p.1 /\ p.2 ∈ cells /\ mid p.1 p.2 ∈ cells:=by
 unfold v7 lp1
 simp only [List.mem_flatMap,List.mem_map,List.mem_filter,Bool.and_eq_true,decide_eq_true_eq]
 constructor
 ·rintro ⟨a,h1,b,⟨h2,h3,h4⟩,rfl⟩; exact ⟨h1,h2,h3,h4⟩
 ·rintro ⟨h1,h2,h3,h4⟩; exact ⟨p.1,h1,p.2,⟨h2,h3,h4⟩,rfl⟩
@[simp] theorem noL_lD (p:Leap):noL (lD p) = true:=by unfold lD; simp [noL,noLs]
@[simp] theorem noLs_ls (l:List Leap):noLs (l.map lD) = true:=jc6 fun d hd=>by obtain ⟨c,_,rfl⟩:=List.mem_map.mp hd; exact noL_lD c
@[simp] theorem flat_lD (p:Leap):flat (lD p) = true:=by unfold lD; simp [flat,Q0]
@[simp] theorem flats_ls (l:List Leap):Q0 (l.map lD) = true:=jg0 fun d hd=>by obtain ⟨c,_,rfl⟩:=List.mem_map.mp hd; exact flat_lD c
@[simp] theorem dep_lD (p:Leap):dep (lD p) = 2:=by unfold lD; simp [dep,deps]
theorem ky9 (l:List Leap):deps (l.map lD) <= 2:=jq1 fun d hd=>by obtain ⟨c,_,rfl⟩:=List.mem_map.mp hd; rw [dep_lD]; exact Nat.le_refl _
@[simp] theorem eqD_lD (a b:Leap):eqD (lD a) (lD b) = decide (a = b):=by
 obtain ⟨a1,a2⟩:=a; obtain ⟨b1,b2⟩:=b
 unfold lD
 simp only [eqD,eqDs,Bool.and_true,eqD_cD]
 by_cases h:a1 = b1 <;> by_cases h':a2 = b2 <;> simp [h,h']
@[simp] theorem eqDs_ls:∀ (a b:List Leap),eqDs (a.map lD) (b.map lD) = decide (a = b)
 | [],[]=>by simp [eqDs]
 | [],_ :: _=>by simp [eqDs]
 | _ :: _,[]=>by simp [eqDs]
 | x :: a,y :: b=>by
  rw [List.map_cons,List.map_cons,eqDs,eqD_lD,eqDs_ls a b]
  by_cases h:x = y <;> by_cases h':a = b <;> simp [h,h']
theorem vb2 (neg:Bool) (c:Leap) (l:List Leap):gIn neg (lD c) (ls2 l) = .ok (.bl (if neg then !decide (c ∈ l) else decide (c ∈ l))):=by
 unfold gIn
 have h:=ky9 l
 dsimp only
 rw [if_pos (by simp; lia)]
 have e:(l.map lD).any (fun e=>eqD e (lD c)) = decide (c ∈ l):=by
  induction l with
  | nil=>rfl
  | cons x l ih =>
   rw [List.map_cons,List.any_cons,eqD_lD,ih (ky9 l)]
   by_cases hx:x = c
   ·simp [hx]
   ·have:¬ c = x:=fun z=>hx z.symm
    simp [hx,this]
 rw [e]
@[simp] theorem lx0 (p:Leap):gIx (lD p) (.int 0) = .ok (cD p.1):=rfl
@[simp] theorem lx1 (p:Leap):gIx (lD p) (.int 1) = .ok (cD p.2):=rfl
noncomputable def lLt (p q:Leap):Prop:=cLt p.1 q.1 \/ (p.1 = q.1 /\ cLt p.2 q.2)
theorem qv9 (p:Leap):fl (lD p) = row p.1 ++ row p.2:=by unfold lD; simp [fl,fls,qq2]
theorem qc6 (a b:Cell) (u v:List Int):U2 (row a ++ u) (row b ++ v) = if a = b then U2 u v else decide (cLt a b):=by
 obtain ⟨a1,a2⟩:=a; obtain ⟨b1,b2⟩:=b
 unfold row cLt
 simp only [List.cons_append,List.nil_append]
 rw [Q8]
 by_cases h2:a1 = b1
 ·subst h2
  rw [if_pos rfl,Q8]
  by_cases h3:a2 = b2
  ·subst h3; rw [if_pos rfl,if_pos rfl]
  ·rw [if_neg h3,if_neg (by simpa using h3)]; simp
 ·rw [if_neg h2,if_neg (by simp [h2])]; simp [h2]
theorem vc5 (p q:Leap):leL (fl (lD p)) (fl (lD q)) = true ↔ ¬ lLt q p:=by
 rw [qv9,qv9]
 unfold leL lLt
 rw [qc6]
 by_cases h:q.1 = p.1
 ·rw [if_pos h,lex2]
  have:=jr8 p.1
  rw [h]
  simp [this]
 ·rw [if_neg h]; simp [h]
theorem kl0 {p q:Leap} (h:lLt p q):¬ lLt q p:=by
 unfold lLt at *
 rintro (h' | ⟨e,h'⟩)
 ·rcases h with h | ⟨e,h⟩
  ·exact jp0 h h'
  ·rw [e] at h'; exact jr8 _ h'
 ·rcases h with h | ⟨e',h⟩
  ·rw [e] at h; exact jr8 _ h
  ·exact jp0 h h'
theorem qk7 (a b:Leap):shp (lD a) (lD b) = true:=by unfold lD; simp [shp,shps,qk5]
theorem ve0 (a:Leap):nl (lD a) = true:=by unfold lD; simp [nl,nls,qz8]
theorem qu1 {l:List Leap} (h:l.Pairwise lLt):jc4 (l.map lD) = l.map lD:=by
 symm
 refine Z0 (fun a ha b hb=>?_) (.refl _) ?_
 ·refine x1_2 (List.mem_map.mp ha) fun x _ zo2=>?_
  obtain rfl:=zo2
  refine x1_2 (List.mem_map.mp hb) fun y _ zo2=>?_
  obtain rfl:=zo2
  exact qk7 x y
 ·refine List.Pairwise.map lD (fun a b hab=>?_) h
  rw [vc5]; exact kl0 hab
theorem qg8 {l:List Leap} (h:l.length < 64):jt6 (l.map lD) = true:=by
 unfold jt6
 simp only [Bool.and_eq_true,Bool.or_eq_true,decide_eq_true_eq,List.all_eq_true,List.length_map]
 refine ⟨⟨⟨⟨h,noLs_ls l⟩,fun d hd=>?_⟩,fun a ha b hb=>?_⟩,.inr fun d hd=>?_⟩
 ·refine x1_2 (List.mem_map.mp hd) fun c _ zo2=>?_
  obtain rfl:=zo2
  exact ⟨ve0 c,by rw [dep_lD]; decide⟩
 ·refine x1_2 (List.mem_map.mp ha) fun c _ zo2=>?_
  obtain rfl:=zo2
  refine x1_2 (List.mem_map.mp hb) fun c' _ zo2=>?_
  obtain rfl:=zo2
  exact qk7 c c'
 ·refine x1_2 (List.mem_map.mp hd) fun c _ zo2=>?_
  obtain rfl:=zo2
  rfl
theorem qe0 {l:List Leap} (h:l.Pairwise lLt) (hl:l.length < 64):ja4 [ls2 l] = .ok (ls2 l):=by
 unfold ja4
 dsimp only
 rw [if_pos (qg8 hl),qu1 h]
theorem jp7 (a:Cell):Rising (four a):=by
 unfold four Rising cLt
 simp only [List.pairwise_cons,List.mem_cons,List.not_mem_nil,or_false,List.Pairwise.nil,and_true]
 refine ⟨?_,?_,?_,?_⟩ <;> intro b hb
 ·rcases hb with rfl | rfl | rfl <;> first | (simp; done) | (simp; lia)
 ·rcases hb with rfl | rfl <;> first | (simp; done) | (simp; lia)
 ·obtain rfl:=hb; first | (simp; done) | (simp; lia)
 ·exact hb.elim
theorem ki4 {cells:List Cell} (up:Rising cells):(v7 cells).Pairwise lLt:=by
 unfold v7
 rw [List.pairwise_flatMap]
 refine ⟨fun a _=>?_,up.imp fun {a b} hab x hx y hy=>?_⟩
 ·refine List.Pairwise.map (R:=cLt) _ (fun x y h=>.inr ⟨rfl,h⟩) ?_
  exact (jp7 a).sublist List.filter_sublist
 ·refine x1_2 (List.mem_map.mp hx) fun _ _ zo2=>?_
  obtain rfl:=zo2
  refine x1_2 (List.mem_map.mp hy) fun _ _ zo2=>?_
  obtain rfl:=zo2
  exact .inl hab
theorem kg7 {cells:List Cell} (up:Rising cells):(v7 cells).Nodup:=(ki4 up).imp fun {a b} h e=>by subst e; exact kl0 h h
theorem ke0 {α:Type} [DecidableEq α]:∀ {l m:List α},l.Nodup -> (∀ x ∈ l,x ∈ m) -> l.length <= m.length
 | [],_,_,_=>Nat.zero_le _
 | x :: l,m,hn,h=>by
  rw [List.nodup_cons] at hn
  have hx:=h x (.head _)
  have ih:=ke0 (m:=m.erase x) hn.2 fun y hy=>(List.mem_erase_of_ne (fun e=>hn.1 (by rw [<- e]; exact hy))).mpr (h y (.tail _ hy))
  have:=List.length_erase_of_mem hx
  have:=List.length_pos_of_mem hx
  rw [List.length_cons]; lia
noncomputable def rect (h w:Nat):List Cell:=(List.range (h * w)).map fun k=>(((k / w:Nat):Int),((k % w:Nat):Int))
theorem qi7 {h w:Nat} {c:Cell} (h1:0 <= c.1) (h2:c.1 < h) (h3:0 <= c.2) (h4:c.2 < w):c ∈ rect h w:=by
 obtain ⟨a,ha⟩:=Int.eq_ofNat_of_zero_le h1
 obtain ⟨b,hb⟩:=Int.eq_ofNat_of_zero_le h3
 have hb':b < w:=by lia
 have ha':a < h:=by lia
 have hw:0 < w:=by lia
 have e1:(a * w + b) / w = a:=by rw [Nat.add_comm,Nat.add_mul_div_right _ _ hw,Nat.div_eq_of_lt hb']; lia
 have e2:(a * w + b) % w = b:=by rw [Nat.add_comm,Nat.add_mul_mod_self_right,Nat.mod_eq_of_lt hb']
 refine List.mem_map.mpr ⟨a * w + b,List.mem_range.mpr ?_,?_⟩
 ·calc a * w + b < a * w + w:=by lia
   _ = (a + 1) * w:=by rw [Nat.succ_mul]
   _ <= h * w:=Nat.mul_le_mul_right w ha'
 ·show ((((a * w + b) / w:Nat):Int),(((a * w + b) % w:Nat):Int)) = c
  rw [e1,e2]
  exact Prod.ext ha.symm hb.symm
noncomputable def Box (l:List Cell) (h w:Nat):Prop:=∃ dn ac:Int,∀ c ∈ l,dn <= c.1 /\ c.1 < dn + h /\ ac <= c.2 /\ c.2 < ac + w
theorem qt8 (a b:Cell) (x y:Int) (h:b ∈ four a):(b.1 - x,b.2 - y) ∈ four (a.1 - x,a.2 - y):=by
 unfold four at *
 simp only [List.mem_cons,List.not_mem_nil,or_false] at *
 rcases h with rfl | rfl | rfl | rfl
 ·exact .inl (Prod.ext (by simp only; lia) rfl)
 ·exact .inr (.inl (Prod.ext rfl (by simp only; lia)))
 ·exact .inr (.inr (.inl (Prod.ext rfl (by simp only; lia))))
 ·exact .inr (.inr (.inr (Prod.ext (by simp only; lia) rfl)))
theorem kt9 {l:List Cell} {h w:Nat} (up:Rising l) (b:Box l h w):(v7 l).length <= (v7 (rect h w)).length:=by
 refine x2_1 b fun dn ac hb=>?_
 clear b
 have key:∀ c ∈ l,(c.1 - dn,c.2 - ac) ∈ rect h w:=fun c hc=>by
  refine x0_4 (hb c hc) fun h1 h2 h3 h4=>?_
  exact qi7 (by simp only; lia) (by simp only; lia) (by simp only; lia) (by simp only; lia)
 have:=ke0 (l:=(v7 l).map fun p=>(((p.1.1 - dn,p.1.2 - ac),(p.2.1 - dn,p.2.2 - ac)):Leap)) (m:=v7 (rect h w)) (by
  have hn:=kg7 up
  rw [List.nodup_iff_pairwise_ne] at hn ⊢
  refine List.Pairwise.map _ (fun p q hpq e=>hpq ?_) hn
  simp only [Prod.mk.injEq] at e
  refine x0_3 e fun zo0 e3 e4=>?_
  clear e
  obtain ⟨e1,e2⟩:=zo0
  exact Prod.ext (Prod.ext (by lia) (by lia)) (Prod.ext (by lia) (by lia))) (fun p hp=>by
  refine x1_2 (List.mem_map.mp hp) fun q hq zo2=>?_
  obtain rfl:=zo2
  refine x0_4 (Z1.mp hq) fun h1 h2 h3 h4=>?_
  refine Z1.mpr ⟨key _ h1,qt8 _ _ _ _ h2,key _ h3,?_⟩
  have e:mid (q.1.1 - dn,q.1.2 - ac) (q.2.1 - dn,q.2.2 - ac) = ((mid q.1 q.2).1 - dn,(mid q.1 q.2).2 - ac):=by
   unfold mid
   exact Prod.ext (by simp only; lia) (by simp only; lia)
  show mid (q.1.1 - dn,q.1.2 - ac) (q.2.1 - dn,q.2.2 - ac) ∈ rect h w
  rw [e]; exact key _ h4)
 rwa [List.length_map] at this
noncomputable def qh1 (h w:Nat):Prop:=(h <= 4 /\ w <= 6) \/ (h <= 3 /\ w = 8) \/ (h = 8 /\ w <= 3)
theorem jy5:(∀ h,h <= 4 -> ∀ w,w <= 6 -> (v7 (rect h w)).length <= 56) /\ (∀ h,h <= 3 -> (v7 (rect h 8)).length <= 56) /\ (∀ w,w <= 3 -> (v7 (rect 8 w)).length <= 56):=by
 refine ⟨fun h hh w hw=>?_,fun h hh=>?_,fun w hw=>?_⟩
 ·have a:∀ h:Fin 5,∀ w:Fin 7,(v7 (rect h.1 w.1)).length <= 56:=by decide +kernel
  exact a ⟨h,by lia⟩ ⟨w,by lia⟩
 ·have a:∀ h:Fin 4,(v7 (rect h.1 8)).length <= 56:=by decide +kernel
  exact a ⟨h,by lia⟩
 ·have a:∀ w:Fin 4,(v7 (rect 8 w.1)).length <= 56:=by decide +kernel
  exact a ⟨w,by lia⟩
theorem ks9 {l:List Cell} {h w:Nat} (up:Rising l) (b:Box l h w) (s:qh1 h w):(v7 l).length <= 56:=by
 refine Nat.le_trans (kt9 up b) ?_
 rcases s with ⟨h1,h2⟩ | ⟨h1,rfl⟩ | ⟨rfl,h2⟩
 ·exact jy5.1 h h1 w h2
 ·exact jy5.2.1 h h1
 ·exact jy5.2.2 w h2
theorem qe5 (x y:Int):∃ u v:Int,ja4 [.lst [.int x,.int y]] = .ok (.lst [.int u,.int v]) /\ ((u = 0 /\ v = 2) ↔ (x = 0 /\ y = 2 \/ x = 2 /\ y = 0)):=by
 have hb:jt6 [.int x,.int y] = true:=by
  unfold jt6; simp [noLs,nl,dep,shp,isI]
 have g:ja4 [.lst [.int x,.int y]] = .ok (.lst (jc4 [.int x,.int y])):=by
  unfold ja4; dsimp only; rw [if_pos hb]
 have fi:∀ i:Int,fl (.int i) = [i]:=fun i=>by simp [fl]
 have le:∀ i j:Int,i <= j -> leL (fl (.int i)) (fl (.int j)) = true:=fun i j h=>by
  rw [fi,fi]; unfold leL; rw [kh1]; simp; lia
 by_cases h:x <= y
 ·refine ⟨x,y,?_,by lia⟩
  rw [g]
  congr 2
  symm
  refine Z0 (fun a ha b hb=>?_) (.refl _) ?_
  ·simp only [List.mem_cons,List.not_mem_nil,or_false] at ha hb
   rcases ha with rfl | rfl <;> rcases hb with rfl | rfl <;> simp [shp]
  ·simp only [List.pairwise_cons,List.mem_cons,List.not_mem_nil,or_false,List.Pairwise.nil,and_true]
   exact ⟨fun b hb=>by subst hb; exact le _ _ h,fun b hb=>hb.elim⟩
 ·refine ⟨y,x,?_,by lia⟩
  rw [g]
  congr 2
  symm
  refine Z0 (fun a ha b hb=>?_) (.swap _ _ _) ?_
  ·simp only [List.mem_cons,List.not_mem_nil,or_false] at ha hb
   rcases ha with rfl | rfl <;> rcases hb with rfl | rfl <;> simp [shp]
  ·simp only [List.pairwise_cons,List.mem_cons,List.not_mem_nil,or_false,List.Pairwise.nil,and_true]
   exact ⟨fun b hb=>by subst hb; exact le _ _ (by lia),fun b hb=>hb.elim⟩
noncomputable def abi (i:Int):Int:=if i < 0 then -i else i
noncomputable def ap (a b:Cell):Bool:=(decide (abi (a.1 - b.1) = 0) && decide (abi (a.2 - b.2) = 2)) || (decide (abi (a.1 - b.1) = 2) && decide (abi (a.2 - b.2) = 0))
theorem abi0 {i:Int}:abi i = 0 ↔ i = 0:=by unfold abi; split <;> lia
theorem abi2 {i:Int}:abi i = 2 ↔ i = 2 \/ i = -2:=by unfold abi; split <;> lia
theorem qp1 (a b:Cell):ap a b = true ↔ b ∈ four a:=by
 unfold ap four
 obtain ⟨a1,a2⟩:=a; obtain ⟨b1,b2⟩:=b
 simp only [Bool.or_eq_true,Bool.and_eq_true,decide_eq_true_eq,List.mem_cons,List.not_mem_nil,or_false,Prod.mk.injEq,abi0,abi2]
 constructor
 ·rintro (⟨h1,h2 | h2⟩ | ⟨h1 | h1,h2⟩)
  ·exact .inr (.inl (by lia))
  ·exact .inr (.inr (.inl (by lia)))
  ·exact .inl (by lia)
  ·exact .inr (.inr (.inr (by lia)))
 ·rintro (⟨h1,h2⟩ | ⟨h1,h2⟩ | ⟨h1,h2⟩ | ⟨h1,h2⟩)
  ·exact .inr ⟨.inl (by lia),by lia⟩
  ·exact .inl ⟨by lia,.inl (by lia)⟩
  ·exact .inl ⟨by lia,.inr (by lia)⟩
  ·exact .inr ⟨.inr (by lia),by lia⟩
theorem qt1 {cells:List Cell} (up:Rising cells) (a:Cell):(cells.filter fun b=>ap a b && decide (mid a b ∈ cells)) = lp1 cells a:=by
 unfold lp1
 refine kn7 (up.sublist List.filter_sublist) ((jp7 a).sublist List.filter_sublist) fun b=>?_
 simp only [List.mem_filter,Bool.and_eq_true,decide_eq_true_eq,qp1]
 constructor
 ·rintro ⟨h1,h2,h3⟩; exact ⟨h2,h1,h3⟩
 ·rintro ⟨h1,h2,h3⟩; exact ⟨h2,h1,h3⟩
noncomputable def canB (pegs:List Cell) (p:Leap):Bool:=decide (p.1 ∈ pegs) && (!decide (p.2 ∈ pegs) && decide (mid p.1 p.2 ∈ pegs))
noncomputable def opn (cells pegs:List Cell):List Leap:=(v7 cells).filter (canB pegs)
end Dm
end T_Sim3
section T_Sim4
namespace Dm
open L2 HT
noncomputable def kh6 (l:List Cell):List Cell:=(jc4 (l.map cD)).map toC
theorem kj6 (l:List Cell):jc4 (l.map cD) = (kh6 l).map cD:=by
 have hp:=W0 (l.map cD)
 unfold kh6
 rw [List.map_map]
 conv=>lhs; rw [<- List.map_id (jc4 (l.map cD))]
 refine List.map_congr_left fun y hy=>?_
 refine x1_2 (List.mem_map.mp (hp.mem_iff.mp hy)) fun c _ zo2=>?_
 obtain rfl:=zo2
 rfl
theorem jd9 (l:List Cell):(kh6 l).Perm l:=by
 have:=(W0 (l.map cD)).map toC
 rw [List.map_map] at this
 have e:l.map (toC ∘ cD) = l:=by
  conv=>rhs; rw [<- List.map_id l]
  exact List.map_congr_left fun c _=>qk2 c
 rw [e] at this
 exact this
theorem qe9 (l:List Cell):(kh6 l).Pairwise (fun a b=>¬ cLt b a):=by
 have pw:=jo8 (l.map cD)
 rw [kj6,List.pairwise_map] at pw
 refine pw.imp fun {a b} h=>?_
 rw [qp8] at h
 simpa using h
theorem qm5 {l:List Cell} (h:l.length < 64):ja4 [cs2 l] = .ok (cs2 (kh6 l)):=by
 unfold ja4
 dsimp only
 rw [if_pos (qf0 h),kj6]
theorem qe3 {l:List Cell} (h:l.Nodup):Rising (kh6 l):=jo2 (jd9 l) (qe9 l) h
noncomputable def left (pegs:List Cell) (p:Leap):List Cell:=pegs.filter fun c=>!decide (c = p.1) && !decide (c = mid p.1 p.2)
noncomputable def Q3 (pegs:List Cell) (p:Leap):List Cell:=kh6 (left pegs p ++ [p.2])
theorem jl7 {pegs:List Cell} {p:Leap} {c:Cell}:c ∈ left pegs p ↔ c ∈ pegs /\ c ≠ p.1 /\ c ≠ mid p.1 p.2:=by
 unfold left; simp
theorem kn6 {pegs:List Cell} {p:Leap} {c:Cell}:c ∈ Q3 pegs p ↔ (c ∈ pegs /\ c ≠ p.1 /\ c ≠ mid p.1 p.2) \/ c = p.2:=by
 unfold Q3
 rw [(jd9 _).mem_iff,List.mem_append,jl7]; simp
theorem kj7 {pegs:List Cell} {p:Leap}:canB pegs p = true ↔ p.1 ∈ pegs /\ p.2 ∉ pegs /\ mid p.1 p.2 ∈ pegs:=by
 unfold canB; simp
theorem ks7 {pegs:List Cell} {p:Leap} (up:Rising pegs) (h:p.2 ∉ pegs):Rising (Q3 pegs p):=by
 refine qe3 ?_
 rw [List.nodup_append]
 refine ⟨up.nodup.sublist List.filter_sublist,by simp,fun a ha b hb e=>?_⟩
 rw [List.mem_singleton] at hb
 subst hb; subst e
 exact h (jl7.mp ha).1
theorem vb8 {p:Leap} (h:p.2 ∈ four p.1):mid p.1 p.2 ≠ p.1:=by
 obtain ⟨⟨a1,a2⟩,b1,b2⟩:=p
 unfold four at h; unfold mid
 simp only [List.mem_cons,List.not_mem_nil,or_false,Prod.mk.injEq] at h
 intro e
 simp only [Prod.mk.injEq] at e
 lia
theorem jn7 {pegs:List Cell} {p:Leap} (nd:pegs.Nodup) (h:canB pegs p = true) (hf:p.2 ∈ four p.1):pegs.Perm (p.1 :: mid p.1 p.2 :: left pegs p):=by
 refine x0_3 (kj7.mp h) fun h1 h2 h3=>?_
 have hne:=vb8 hf
 refine (List.perm_ext_iff_of_nodup nd ?_).mpr fun c=>?_
 ·rw [List.nodup_cons,List.nodup_cons]
  refine ⟨?_,?_,nd.sublist List.filter_sublist⟩
  ·rw [List.mem_cons,jl7]
   rintro (e | e)
   ·exact hne e.symm
   ·exact e.2.1 rfl
  ·rw [jl7]; exact fun e=>e.2.2 rfl
 ·rw [List.mem_cons,List.mem_cons,jl7]
  by_cases e1:c = p.1
  ·subst e1; simp [h1]
  ·by_cases e2:c = mid p.1 p.2
   ·subst e2; simp [h3]
   ·simp [e1,e2]
theorem ju8 {pegs:List Cell} {p:Leap} (nd:pegs.Nodup) (h:canB pegs p = true) (hf:p.2 ∈ four p.1):(Q3 pegs p).length + 1 = pegs.length:=by
 have:=(jn7 nd h hf).length_eq
 have:=(jd9 (left pegs p ++ [p.2])).length_eq
 unfold Q3
 simp at *
 lia
theorem kh7 {cells pegs:List Cell} {p:Leap} (h:p ∈ opn cells pegs):p.1 ∈ cells /\ p.2 ∈ four p.1 /\ p.2 ∈ cells /\ mid p.1 p.2 ∈ cells /\ canB pegs p = true:=by
 unfold opn at h
 rw [List.mem_filter,Z1] at h
 exact ⟨h.1.1,h.1.2.1,h.1.2.2.1,h.1.2.2.2,h.2⟩
noncomputable def jx7 (cells:List Cell):List Cell -> List Leap -> Prop
 | _,[]=>True
 | pegs,p :: r=>p ∈ opn cells pegs /\ jx7 cells (Q3 pegs p) r
noncomputable def je3 (pegs:List Cell) (row:List Leap):List Cell:=row.foldl Q3 pegs
theorem js0 (pegs:List Cell) (row:List Leap) (p:Leap):je3 pegs (row ++ [p]) = Q3 (je3 pegs row) p:=by
 unfold je3; rw [List.foldl_append]; rfl
theorem qb1 {cells:List Cell}:∀ {pegs:List Cell} {row:List Leap} {p:Leap},jx7 cells pegs row -> p ∈ opn cells (je3 pegs row) -> jx7 cells pegs (row ++ [p])
 | pegs,[],p,_,h=>⟨h,trivial⟩
 | pegs,q :: r,p,h,hp=>⟨h.1,qb1 h.2 hp⟩
noncomputable def kS (c:Cell):Int:=(c.1 + c.2) % 3
noncomputable def kD (c:Cell):Int:=(c.1 - c.2) % 3
noncomputable def par (f:Cell -> Bool) (l:List Cell):Int:=((l.filter f).length:Int) % 2
noncomputable def f1 (c:Cell):Bool:=decide (kS c < 2)
noncomputable def f2 (c:Cell):Bool:=decide (0 < kS c)
noncomputable def f3 (c:Cell):Bool:=decide (kD c < 2)
noncomputable def f4 (c:Cell):Bool:=decide (0 < kD c)
noncomputable def clsP (l:List Cell):List Int:=[par f1 l,par f2 l,par f3 l,par f4 l]
noncomputable def bi (b:Bool):Nat:=if b then 1 else 0
theorem ku9 (f:Cell -> Bool) (l:List Cell):par f l = ((l.countP f:Nat):Int) % 2:=by unfold par; rw [List.countP_eq_length_filter]
theorem ji9 {f:Cell -> Bool} {pegs:List Cell} {p:Leap} (nd:pegs.Nodup) (h:canB pegs p = true) (hf:p.2 ∈ four p.1) (he:(bi (f p.1) + bi (f (mid p.1 p.2)) + bi (f p.2)) = 2):par f (Q3 pegs p) = par f pegs:=by
 have e1:=(jn7 nd h hf).countP_eq f
 have e2:=(jd9 (left pegs p ++ [p.2])).countP_eq f
 rw [ku9,ku9]
 unfold Q3
 simp only [e2,e1,List.countP_append,List.countP_cons,List.countP_nil]
 unfold bi at he
 lia
theorem bi_d (P:Prop) [Decidable P]:bi (decide P) = if P then 1 else 0:=by unfold bi; simp
theorem qr4 (c:Cell):bi (f1 c) = if (c.1 + c.2) % 3 < 2 then 1 else 0:=bi_d _
theorem qm7 (c:Cell):bi (f2 c) = if 0 < (c.1 + c.2) % 3 then 1 else 0:=bi_d _
theorem qn4 (c:Cell):bi (f3 c) = if (c.1 - c.2) % 3 < 2 then 1 else 0:=bi_d _
theorem qm9 (c:Cell):bi (f4 c) = if 0 < (c.1 - c.2) % 3 then 1 else 0:=bi_d _
theorem qk4 (s e:Int) (h:e = 1 \/ e = -1):(if s % 3 < 2 then 1 else 0) + (if (s + e) % 3 < 2 then 1 else 0) + (if (s + 2 * e) % 3 < 2 then 1 else 0) = 2:=by
 have h3:s % 3 = 0 \/ s % 3 = 1 \/ s % 3 = 2:=by lia
 rcases h with rfl | rfl <;> rcases h3 with h | h | h
 ·rw [h,if_pos (by decide),if_pos (by lia),if_neg (by lia)]
 ·rw [h,if_pos (by decide),if_neg (by lia),if_pos (by lia)]
 ·rw [h,if_neg (by decide),if_pos (by lia),if_pos (by lia)]
 ·rw [h,if_pos (by decide),if_neg (by lia),if_pos (by lia)]
 ·rw [h,if_pos (by decide),if_pos (by lia),if_neg (by lia)]
 ·rw [h,if_neg (by decide),if_pos (by lia),if_pos (by lia)]
theorem qk6 (s e:Int) (h:e = 1 \/ e = -1):(if 0 < s % 3 then 1 else 0) + (if 0 < (s + e) % 3 then 1 else 0) + (if 0 < (s + 2 * e) % 3 then 1 else 0) = 2:=by
 have h3:s % 3 = 0 \/ s % 3 = 1 \/ s % 3 = 2:=by lia
 rcases h with rfl | rfl <;> rcases h3 with h | h | h
 ·rw [h,if_neg (by decide),if_pos (by lia),if_pos (by lia)]
 ·rw [h,if_pos (by decide),if_pos (by lia),if_neg (by lia)]
 ·rw [h,if_pos (by decide),if_neg (by lia),if_pos (by lia)]
 ·rw [h,if_neg (by decide),if_pos (by lia),if_pos (by lia)]
 ·rw [h,if_pos (by decide),if_neg (by lia),if_pos (by lia)]
 ·rw [h,if_pos (by decide),if_pos (by lia),if_neg (by lia)]
theorem qf1 {p:Leap} (hf:p.2 ∈ four p.1):∃ e f:Int,(e = 1 \/ e = -1) /\ (f = 1 \/ f = -1) /\ (mid p.1 p.2).1 + (mid p.1 p.2).2 = p.1.1 + p.1.2 + e /\ p.2.1 + p.2.2 = p.1.1 + p.1.2 + 2 * e /\ (mid p.1 p.2).1 - (mid p.1 p.2).2 = p.1.1 - p.1.2 + f /\ p.2.1 - p.2.2 = p.1.1 - p.1.2 + 2 * f:=by
 obtain ⟨⟨a1,a2⟩,b1,b2⟩:=p
 unfold four at hf; unfold mid
 simp only [List.mem_cons,List.not_mem_nil,or_false,Prod.mk.injEq] at hf ⊢
 rcases hf with ⟨rfl,rfl⟩ | ⟨rfl,rfl⟩ | ⟨rfl,rfl⟩ | ⟨rfl,rfl⟩
 ·exact ⟨-1,-1,.inr rfl,.inr rfl,by lia,by lia,by lia,by lia⟩
 ·exact ⟨-1,1,.inr rfl,.inl rfl,by lia,by lia,by lia,by lia⟩
 ·exact ⟨1,-1,.inl rfl,.inr rfl,by lia,by lia,by lia,by lia⟩
 ·exact ⟨1,1,.inl rfl,.inl rfl,by lia,by lia,by lia,by lia⟩
theorem jv3 {pegs:List Cell} {p:Leap} (nd:pegs.Nodup) (h:canB pegs p = true) (hf:p.2 ∈ four p.1):clsP (Q3 pegs p) = clsP pegs:=by
 refine x2_6 (qf1 hf) fun e f he hf' s1 s2 d1 d2=>?_
 unfold clsP
 rw [ji9 nd h hf (f:=f1) (by rw [qr4,qr4,qr4,s1,s2]; exact qk4 _ e he),ji9 nd h hf (f:=f2) (by rw [qm7,qm7,qm7,s1,s2]; exact qk6 _ e he),
  ji9 nd h hf (f:=f3) (by rw [qn4,qn4,qn4,d1,d2]; exact qk4 _ f hf'),ji9 nd h hf (f:=f4) (by rw [qm9,qm9,qm9,d1,d2]; exact qk6 _ f hf')]
theorem jo7 {cells:List Cell}:∀ {row:List Leap} {pegs:List Cell},Rising pegs -> (∀ c ∈ pegs,c ∈ cells) -> jx7 cells pegs row -> Rising (je3 pegs row) /\ (∀ c ∈ je3 pegs row,c ∈ cells) /\ clsP (je3 pegs row) = clsP pegs /\ (je3 pegs row).length + row.length = pegs.length
 | [],pegs,u,s,_=>⟨u,s,rfl,rfl⟩
 | p :: r,pegs,u,s,h=>by
  refine x0_5 (kh7 h.1) fun m1 m2 m3 m4 m5=>?_
  have c1:=jv3 u.nodup m5 m2
  have l1:=ju8 u.nodup m5 m2
  obtain ⟨i1,i2,i3,i4⟩:=jo7 (row:=r) (pegs:=Q3 pegs p) (ks7 u (kj7.mp m5).2.1) (fun c hc=>by
   rcases kn6.mp hc with h | h
   ·exact s c h.1
   ·rw [h]; exact m3) h.2
  refine ⟨i1,i2,i3.trans c1,?_⟩
  rw [List.length_cons,<- l1,<- i4]
  show (je3 (Q3 pegs p) r).length + (r.length + 1) = (je3 (Q3 pegs p) r).length + r.length + 1
  lia
noncomputable def tI (l:List Int):D:=.tup (l.map D.int)
noncomputable def lI (l:List Int):D:=.lst (l.map D.int)
noncomputable def clsD (l:List Cell):D:=tI (clsP l)
theorem kj3:∀ a b:List Int,eqDs (a.map D.int) (b.map D.int) = decide (a = b)
 | [],[]=>by simp [eqDs]
 | [],_ :: _=>by simp [eqDs]
 | _ :: _,[]=>by simp [eqDs]
 | x :: a,y :: b=>by
  rw [List.map_cons,List.map_cons,eqDs,kj3 a b,eqD]
  by_cases h:x = y <;> by_cases h':a = b <;> simp [h,h']
theorem kc9:∀ a:List Int,Q0 (a.map D.int) = true:=fun a=>jg0 fun d hd=>by obtain ⟨c,_,rfl⟩:=List.mem_map.mp hd; simp [flat]
theorem qd1:∀ a:List Int,noLs (a.map D.int) = true:=fun a=>jc6 fun d hd=>by obtain ⟨c,_,rfl⟩:=List.mem_map.mp hd; exact noL_int c
theorem km8:∀ a:List Int,deps (a.map D.int) <= 0:=fun a=>jq1 fun d hd=>by obtain ⟨c,_,rfl⟩:=List.mem_map.mp hd; simp [dep]
theorem vb0 (neg:Bool) (a b:List Int):gEq neg (tI a) (tI b) = .ok (.bl (if neg then !decide (a = b) else decide (a = b))):=by
 unfold gEq tI
 have h:=km8 a
 rw [if_pos]
 ·simp [eqD,kj3]
 ·simp [flat,dep,kc9]; lia
theorem qx2 (neg:Bool) (x:Int) (l:List Int):gIn neg (.int x) (tI l) = .ok (.bl (if neg then !decide (x ∈ l) else decide (x ∈ l))):=by
 unfold gIn tI
 have h:=km8 l
 dsimp only
 rw [if_pos (by simp [flat,kc9]; lia)]
 have e:(l.map D.int).any (fun e=>eqD e (.int x)) = decide (x ∈ l):=by
  clear h
  induction l with
  | nil=>rfl
  | cons y l ih =>
   rw [List.map_cons,List.any_cons,ih,eqD]
   by_cases hx:y = x
   ·simp [hx]
   ·have:¬ x = y:=fun z=>hx z.symm
    simp [hx,this]
 rw [e]
theorem qi2 (neg:Bool) (a b:List Cell):gEq neg (clsD a) (clsD b) = .ok (.bl (if neg then !decide (clsP a = clsP b) else decide (clsP a = clsP b))):=vb0 neg _ _
theorem jm0 {α:Type} {bind:DB} {ft fe:DF} {f:α -> D} {g:α -> D} {S:α -> DSt} {P:DSt -> Prop} (xs:List α) (hS:∀ x ∈ xs,P (S x)) (hb:∀ x ∈ xs,∀ st,P st -> bind (f x) st = some (S x)) (ht:∀ x ∈ xs,ft (S x) = .ok (.bl true)) (he:∀ x ∈ xs,fe (S x) = .ok (g x)) (st:DSt) (h:P st):jc0 bind ft fe (xs.map f) st = .ok (xs.map g):=by
 have:=ji7 (p:=fun _=>true) xs hS hb ht (fun x hx _=>he x hx) st h
 rw [List.filter_eq_self.mpr fun _ _=>rfl] at this
 exact this
end Dm
end T_Sim4
section T_Sim5
namespace Dm
open L2 HT
noncomputable def sq (k:Nat):Cell:=(((k / 8:Nat):Int),((k % 8:Nat):Int))
end Dm
end T_Sim5
section T_Sim6
namespace Dm
open L2 HT
noncomputable def wOf (cells:List Cell) (ws:List Int) (c:Cell):Int:=(ws[cells.idxOf c]?).getD 0
noncomputable def js9 (cells:List Cell) (ws:List Int):Bool:=(v7 cells).all fun p=>!decide (wOf cells ws p.1 + wOf cells ws (mid p.1 p.2) < wOf cells ws p.2)
noncomputable def wsum (cells:List Cell) (ws:List Int) (pegs:List Cell):Int:=(pegs.map (wOf cells ws)).sum
theorem jw4:∀ l:List Cell,jk2 (l.map cD) = some l
 | []=>rfl
 | c :: l=>by rw [List.map_cons]; show jk2 (.tup [.int c.1,.int c.2] :: l.map cD) = _; rw [jk2,jw4 l]; rfl
theorem jp1:∀ l:List Int,jo0 (l.map D.int) = some l
 | []=>rfl
 | c :: l=>by rw [List.map_cons,jo0,jp1 l]; rfl
theorem qk9 {cells:List Cell} {ws:List Int} (nd:cells.Nodup) (hl:ws.length = cells.length):gDZ (cs2 cells) (lI ws) = .ok (dD (cells.zip ws)):=by
 unfold gDZ lI
 dsimp only
 rw [jw4,jp1]
 dsimp only
 rw [if_pos (by rw [decide_eq_true hl.symm,decide_eq_true nd]; rfl)]
theorem qj0 {a c:Cell} {l:List Cell} (e:a ≠ c):(a :: l).idxOf c = l.idxOf c + 1:=by
 rw [List.idxOf_cons]
 have:(a == c) = false:=beq_eq_false_iff_ne.mpr e
 rw [this]; rfl
theorem kj1 {l m:List Int} (h:l.Perm m):l.sum = m.sum:=by
 induction h with
 | nil=>rfl
 | cons x _ ih=>rw [List.sum_cons,List.sum_cons,ih]
 | swap x y l=>simp only [List.sum_cons]; lia
 | trans _ _ i1 i2=>exact i1.trans i2
theorem kk1 (c:Cell):∀ (cells:List Cell) (ws:List Int),ws.length = cells.length -> c ∈ cells -> jj2 ((cells.zip ws).flatMap fun q=>[D.int q.1.1,D.int q.1.2,D.int q.2]) c.1 c.2 = some (wOf cells ws c)
 | [],_,_,h=>by cases h
 | a :: l,[],h,_=>by cases h
 | a :: l,w :: ws,h,hc=>by
  rw [List.zip_cons_cons,List.flatMap_cons]
  show jj2 (D.int a.1 :: D.int a.2 :: D.int w :: (l.zip ws).flatMap _) c.1 c.2 = _
  rw [jj2]
  unfold wOf
  by_cases e:a = c
  ·subst e
   rw [if_pos ⟨rfl,rfl⟩,List.idxOf_cons_self]
   rfl
  ·rw [if_neg fun z=>e (Prod.ext z.1 z.2)]
   have hc':c ∈ l:=by rcases List.mem_cons.mp hc with h | h; exact absurd h.symm e; exact h
   rw [kk1 c l ws (by simpa using h) hc']
   rw [qj0 e]
   rfl
theorem kn5 {cells:List Cell} {ws:List Int} {c:Cell} (hl:ws.length = cells.length) (hc:c ∈ cells):gGet (dD (cells.zip ws)) (cD c) = .ok (.int (wOf cells ws c)):=by
 have h:=kk1 c cells ws hl hc
 show (match jj2 ((cells.zip ws).flatMap fun q=>[D.int q.1.1,D.int q.1.2,D.int q.2]) c.1 c.2 with | some n=>R.ok (D.int n) | none=>(R.bad:R D)) = _
 rw [h]
theorem kk8 (c:Cell):∀ l:List Cell,c ∈ l -> (l.map cD).findIdx? (fun e=>eqD e (cD c)) = some (l.idxOf c)
 | [],h=>by cases h
 | a :: l,h=>by
  rw [List.map_cons,List.findIdx?_cons,eqD_cD]
  by_cases e:a = c
  ·subst e; simp
  ·have hc':c ∈ l:=by rcases List.mem_cons.mp h with h | h; exact absurd h.symm e; exact h
   rw [decide_eq_false e,kk8 c l hc',qj0 e]
   rfl
theorem kz3 {l:List Cell} {c:Cell} (h:c ∈ l):jm2 (cs2 l) (cD c) = .ok (.int (l.idxOf c:Nat)):=by
 unfold jm2
 have hd:=jz5 l
 dsimp only
 rw [if_pos (by simp; lia),kk8 c l h]
theorem ju4 {fa fb:DF} {st:DSt} {l:List Cell} {c:Cell} (h1:fa st = .ok (cs2 l)) (h2:fb st = .ok (cD c)) (h:c ∈ l):dIdx fa fb st = .ok (.int (l.idxOf c:Nat)):=by
 unfold dIdx
 rw [h1,bind_ok]
 show (fb st).bind (fun b=>jm2 (.lst (l.map cD)) b) = _
 rw [h2,bind_ok]
 exact kz3 h
theorem ko8 {cells:List Cell} {ws:List Int} {c:Cell} (hl:ws.length = cells.length) (hc:c ∈ cells):gIx (lI ws) (.int (cells.idxOf c:Nat)) = .ok (.int (wOf cells ws c)):=by
 have hi:cells.idxOf c < ws.length:=by rw [hl]; exact List.idxOf_lt_length_of_mem hc
 refine jy0 ?_
 unfold wOf
 rw [List.getElem?_map,List.getElem?_eq_getElem hi]; rfl
theorem kg5 {cells pegs:List Cell} {ws:List Int} {p:Leap} (nd:pegs.Nodup) (h:canB pegs p = true) (hf:p.2 ∈ four p.1) (fr:¬ wOf cells ws p.1 + wOf cells ws (mid p.1 p.2) < wOf cells ws p.2):wsum cells ws (Q3 pegs p) <= wsum cells ws pegs:=by
 unfold wsum
 have e1:=kj1 ((jn7 nd h hf).map (wOf cells ws))
 have e2:=kj1 ((jd9 (left pegs p ++ [p.2])).map (wOf cells ws))
 unfold Q3
 rw [e1,e2]
 simp
 lia
theorem kk6 {cells:List Cell}:∀ {a:List Leap} {p:Leap} {b:List Leap} {pegs:List Cell},jx7 cells pegs (a ++ p :: b) -> p ∈ opn cells (je3 pegs a) /\ jx7 cells pegs a
 | [],p,b,pegs,h=>⟨h.1,trivial⟩
 | q :: a,p,b,pegs,h=>by
  obtain ⟨h1,h2⟩:=kk6 (a:=a) (p:=p) (b:=b) h.2
  exact ⟨h1,h.1,h2⟩
end Dm
end T_Sim6
section T_MA07
namespace Pk
open L2 Dm
variable (t:Adr)
theorem kl8 {l:List Cell} (hl:l.length <= 50):(Rising l -> J9 t [cs2 l] = .ok (.bl true)) /\ (¬ Rising l -> J9 t [cs2 l] = .ok (.bl false)):=by
 obtain ⟨m,h1,h2⟩:=kp9 l hl
 constructor
 ·intro h
  have e:=h2.mpr h
  subst e
  simp [J9,J4,h1,kq5]
 ·intro h
  have:¬ l = m:=fun z=>h (h2.mp z)
  simp [J9,J4,h1,kq5,this]
noncomputable def inR (c:Cell):Prop:=0 <= c.1 /\ c.1 <= 7 /\ 0 <= c.2 /\ c.2 <= 7
noncomputable instance (c:Cell):Decidable (inR c):=inferInstanceAs (Decidable (_ /\ _))
@[simp] theorem ix0 (c:Cell):gIx (cD c) (.int 0) = .ok (.int c.1):=rfl
@[simp] theorem ix1 (c:Cell):gIx (cD c) (.int 1) = .ok (.int c.2):=rfl
theorem qw9 (c:Cell):je4 t [cD c] = .ok (.bl (decide (inR c))):=by
 unfold inR
 by_cases h1:0 <= c.1 <;> by_cases h2:c.1 <= 7 <;> by_cases h3:0 <= c.2 <;> by_cases h4:c.2 <= 7 <;> simp [je4,J4,h1,h2,h3,h4]
noncomputable def qy2 (l:List Cell):Prop:=(1 <= l.length /\ l.length <= 24) /\ Rising l /\ ∀ c ∈ l,inR c
theorem jv7 {F:DS} (hF:∀ (x:D) (c:Cell),F [some x,some (cD c)] = if inR c then .nx [some x,some (cD c)] else .ex t.c_BadBoard none [some x,some (cD c)]) (x:D):∀ (l:List Cell) (y:Option D),((∀ c ∈ l,inR c) -> ∃ y',jb3 (Q6 1) F (l.map cD) [some x,y] = .nx [some x,y']) /\ (¬ (∀ c ∈ l,inR c) -> ∃ s,jb3 (Q6 1) F (l.map cD) [some x,y] = .ex t.c_BadBoard none s)
 | [],y=>⟨fun _=>⟨y,rfl⟩,fun h=>absurd (fun c hc=>by cases hc) h⟩
 | c :: l,y=>by
  obtain ⟨i1,i2⟩:=jv7 hF x l (some (cD c))
  have e:Q6 1 (cD c) [some x,y] = some [some x,some (cD c)]:=rfl
  by_cases hc:inR c
  ·constructor
   ·intro h
    obtain ⟨y',h'⟩:=i1 fun d hd=>h d (.tail _ hd)
    refine ⟨y',?_⟩
    rw [List.map_cons,jb3,e]
    dsimp only
    rw [hF,if_pos hc]
    exact h'
   ·intro h
    obtain ⟨s,h'⟩:=i2 fun z=>h fun d hd=>by
     rcases List.mem_cons.mp hd with rfl | hd
     ·exact hc
     ·exact z d hd
    refine ⟨s,?_⟩
    rw [List.map_cons,jb3,e]
    dsimp only
    rw [hF,if_pos hc]
    exact h'
  ·constructor
   ·intro h; exact absurd (h c (.head _)) hc
   ·intro h
    refine ⟨[some x,some (cD c)],?_⟩
    rw [List.map_cons,jb3,e]
    dsimp only
    rw [hF,if_neg hc]
theorem qp6 {l:List Cell} (hl:l.length <= 50):(qy2 l -> w5 t [cs2 l] = .ok .non) /\ (¬ qy2 l -> w5 t [cs2 l] = .ex t.c_BadBoard none):=by
 have hF:∀ (x:D) (c:Cell),Dm.dIfS (dNot (dFn (je4 t) (j2 (dVar 1) aNil))) (W9 t.c_BadBoard) J2 [some x,some (cD c)] = if inR c then .nx [some x,some (cD c)] else .ex t.c_BadBoard none [some x,some (cD c)]:=fun x c=>by
  by_cases h:inR c <;> simp [qw9,h]
 obtain ⟨i1,i2⟩:=jv7 t hF (cs2 l) l none
 obtain ⟨r1,r2⟩:=kl8 t hl
 have c1:((l.map cD).length:Int) = l.length:=by simp
 by_cases h0:1 <= l.length
 ·by_cases h1:l.length <= 24
  ·by_cases h2:Rising l
   ·by_cases h3:∀ c ∈ l,inR c
    ·obtain ⟨y,h4⟩:=i1 h3
     refine ⟨fun _=>?_,fun h=>absurd ⟨⟨h0,h1⟩,h2,h3⟩ h⟩
     have a1:(1:Int) <= l.length:=by lia
     have a2:(l.length:Int) <= 24:=by lia
     simp [w5,J4,a1,a2,r1 h2,h4]
    ·obtain ⟨y,h4⟩:=i2 h3
     refine ⟨fun h=>absurd h.2.2 h3,fun _=>?_⟩
     have a1:(1:Int) <= l.length:=by lia
     have a2:(l.length:Int) <= 24:=by lia
     simp [w5,J4,a1,a2,r1 h2,h4]
   ·refine ⟨fun h=>absurd h.2.1 h2,fun _=>?_⟩
    have a1:(1:Int) <= l.length:=by lia
    have a2:(l.length:Int) <= 24:=by lia
    simp [w5,J4,a1,a2,r2 h2]
  ·refine ⟨fun h=>absurd h.1.2 h1,fun _=>?_⟩
   have a1:(1:Int) <= l.length:=by lia
   have a2:¬ (l.length:Int) <= 24:=by lia
   simp [w5,J4,a1,a2]
 ·refine ⟨fun h=>absurd h.1.1 h0,fun _=>?_⟩
  have a1:¬ (1:Int) <= l.length:=by lia
  simp [w5,J4,a1]
noncomputable def ats (ns:List Int) (n:Nat):Int:=(ns[n]?).getD 0
noncomputable abbrev iL (ns:List Int):D:=.lst (ns.map D.int)
theorem m_at (ns:List Int) (n:Nat):k8 t [iL ns,.int n] = .ok (.int (ats ns n)):=by
 unfold ats
 by_cases h:n < ns.length
 ·have e:gIx (iL ns) (.int n) = .ok (.int ((ns[n]?).getD 0)):=jy0 (by rw [List.getElem?_map,List.getElem?_eq_getElem h]; simp)
  have h':(n:Int) < ns.length:=by lia
  simp [k8,J4,h',e]
 ·have h':¬ (n:Int) < ns.length:=by lia
  rw [List.getElem?_eq_none (Nat.le_of_not_lt h)]
  simp [k8,J4,h']
noncomputable abbrev mixL:List Int:=[48271,69621,16807,39373,30269,40014,40692,50021,61687,71993,83869,95561,30307]
theorem va0 (k:Int):∃ v:Int,0 <= v /\ v <= 95561 /\ gIx (.lst [.int 48271,.int 69621,.int 16807,.int 39373,.int 30269,.int 40014,.int 40692,.int 50021,.int 61687,.int 71993,.int 83869,.int 95561,.int 30307]) (.int (k % 13)) = .ok (.int v):=by
 obtain ⟨n,hn,e⟩ : ∃ n:Nat,n < mixL.length /\ k % 13 = n:=⟨(k % 13).toNat,by show _ < 13; lia,by lia⟩
 rw [e]
 have hL:∀ x ∈ mixL,0 <= x /\ x <= 95561:=by decide
 exact ⟨mixL[n],(hL _ (List.getElem_mem hn)).1,(hL _ (List.getElem_mem hn)).2,jy0 (ds:=mixL.map D.int) (by rw [List.getElem?_map,List.getElem?_eq_getElem hn]; rfl)⟩
theorem jq2 (c k m:Int) (hm:0 < m):∃ r:Int,0 <= r /\ r < m /\ k9 t [.int c,.int k,.int m] = .ok (.int r):=by
 obtain ⟨v,v0,v1,hv⟩:=va0 k
 have e1:gMod (.int c) (.int 2147483647) = .ok (.int (c % 2147483647)):=jo5 (by decide)
 have e2:gMod (.int k) (.int 13) = .ok (.int (k % 13)):=jo5 (by decide)
 have e3:gDiv (.int k) (.int 13) = .ok (.int (k / 13)):=kx4 (by decide) (by decide)
 have b0:0 <= c % 2147483647 + 12345:=by lia
 have b1:c % 2147483647 + 12345 <= 2147495991:=by lia
 have b2:0 <= (c % 2147483647 + 12345) * v:=Int.mul_nonneg b0 v0
 have b3:(c % 2147483647 + 12345) * v <= 2147495991 * 95561:=Int.mul_le_mul b1 v1 v0 (by decide)
 have e4:gMul (.int (c % 2147483647 + 12345)) (.int v) = .ok (.int ((c % 2147483647 + 12345) * v)):=jv1 (by constructor <;> lia)
 have e5:gMul (.int 2) (.int (k / 13)) = .ok (.int (2 * (k / 13))):=jv1 (by decide)
 have e6:gMul (.int ((c % 2147483647 + 12345) * v)) (.int (2 * (k / 13) + 1)) = .ok (.int ((c % 2147483647 + 12345) * v * (2 * (k / 13) + 1))):=jv1 (by constructor <;> lia)
 have e7:gMul (.int 977) (.int k) = .ok (.int (977 * k)):=jv1 (by decide)
 have e8:∀ x:Int,gMod (.int x) (.int 1000000007) = .ok (.int (x % 1000000007)):=fun x=>jo5 (by decide)
 have e9:∀ x:Int,gDiv (.int x) (.int 7) = .ok (.int (x / 7)):=fun x=>kx4 (by decide) (by decide)
 have e10:∀ x:Int,gMod (.int x) (.int m) = .ok (.int (x % m)):=fun x=>jo5 hm
 refine ⟨(((c % 2147483647 + 12345) * v * (2 * (k / 13) + 1) + 977 * k) % 1000000007 / 7) % m,Int.emod_nonneg _ (by lia),Int.emod_lt_of_pos _ hm,?_⟩
 simp [k9,J4,e1,e2,e3,hv,e4,e5,e6,e7,e8,e9,e10]
noncomputable def pk (c:Int) (k:Nat):Bool:=match k9 t [.int c,.int k,.int 7] with | .ok (.int r)=>decide (0 < r) | _=>false
noncomputable def posn (dn ac w:Int) (k:Nat):Cell:=(dn + k / w,ac + k % w)
noncomputable abbrev qc1:DS:=Dm.dIfS (dOp gGt (dFn (k9 t) (j2 (dFn (k8 t) (j2 (dVar 0) (j2 (dC (.int 1)) aNil))) (j2 (dVar 8) (j2 (dC (.int 7)) aNil)))) (dC (.int 0)))
 (dApp 7 (z8 100 (j2 (dOp gAdd (dVar 5) (dOp gDiv (dVar 8) (dVar 4))) (j2 (dOp gAdd (dVar 6) (dOp gMod (dVar 8) (dVar 4))) aNil))))
 J2
theorem jm8 (ns:List Int) (most c h w dn ac:Int) (hw:0 < w) (hw2:w < 100):∀ (ks:List Nat) (acc:List Cell) (y:Option D),acc.length + ks.length <= 1000 ->
  ∃ y',jb3 (Q6 8) (qc1 t) (ks.map fun i=>.int (i:Nat)) [some (iL ns),some (.int most),some (.int c),some (.int h),some (.int w),some (.int dn),some (.int ac),some (cs2 acc),y] =
   .nx [some (iL ns),some (.int most),some (.int c),some (.int h),some (.int w),some (.int dn),some (.int ac),some (cs2 (acc ++ (ks.filter (pk t (ats ns 1))).map (posn dn ac w))),y']
 | [],acc,y,_=>⟨y,by simp [jb3]⟩
 | k :: ks,acc,y,hl=>by
  obtain ⟨r,r0,r1,hr⟩:=jq2 t (ats ns 1) k 7 (by decide)
  have hat:=m_at t ns 1
  have hp:pk t (ats ns 1) k = decide (0 < r):=by unfold pk; rw [hr]
  have e1:gDiv (.int (k:Int)) (.int w) = .ok (.int ((k:Int) / w)):=kx4 hw (by lia)
  have e2:gMod (.int (k:Int)) (.int w) = .ok (.int ((k:Int) % w)):=jo5 hw
  have hb:Q6 8 (.int (k:Int)) [some (iL ns),some (.int most),some (.int c),some (.int h),some (.int w),some (.int dn),some (.int ac),some (cs2 acc),y] = some [some (iL ns),some (.int most),some (.int c),some (.int h),some (.int w),some (.int dn),some (.int ac),some (cs2 acc),some (.int (k:Int))]:=rfl
  rw [List.length_cons] at hl
  rw [List.map_cons,jb3,hb]
  dsimp only
  by_cases hc:0 < r
  ·have hF:qc1 t [some (iL ns),some (.int most),some (.int c),some (.int h),some (.int w),some (.int dn),some (.int ac),some (cs2 acc),some (.int (k:Int))] = .nx [some (iL ns),some (.int most),some (.int c),some (.int h),some (.int w),some (.int dn),some (.int ac),some (cs2 (acc ++ [posn dn ac w k])),some (.int (k:Int))]:=by
    have hacc:acc.length <= 1000:=by lia
    have hat':k8 t [iL ns,.int 1] = .ok (.int (ats ns 1)):=hat
    have hr':k9 t [.int (ats ns 1),.int (k:Int),.int 7] = .ok (.int r):=hr
    simp [hat',hr',hc,dApp,e1,e2,posn,cD,hacc]
   rw [hF]
   dsimp only
   obtain ⟨y',ih⟩:=jm8 ns most c h w dn ac hw hw2 ks (acc ++ [posn dn ac w k]) (some (.int (k:Int))) (by simp; lia)
   refine ⟨y',ih.trans ?_⟩
   rw [List.filter_cons_of_pos (by rw [hp]; exact decide_eq_true hc),List.map_cons,List.append_assoc]
   rfl
  ·have hF:qc1 t [some (iL ns),some (.int most),some (.int c),some (.int h),some (.int w),some (.int dn),some (.int ac),some (cs2 acc),some (.int (k:Int))] = .nx [some (iL ns),some (.int most),some (.int c),some (.int h),some (.int w),some (.int dn),some (.int ac),some (cs2 acc),some (.int (k:Int))]:=by
    have hat':k8 t [iL ns,.int 1] = .ok (.int (ats ns 1)):=hat
    have hr':k9 t [.int (ats ns 1),.int (k:Int),.int 7] = .ok (.int r):=hr
    simp [hat',hr',hc]
   rw [hF]
   dsimp only
   obtain ⟨y',ih⟩:=jm8 ns most c h w dn ac hw hw2 ks acc (some (.int (k:Int))) (by lia)
   refine ⟨y',ih.trans ?_⟩
   rw [List.filter_cons_of_neg (by rw [hp,decide_eq_false hc]; decide)]
theorem qu4 {dn ac w:Int} (hw:0 < w) {j k:Nat} (h:j < k):cLt (posn dn ac w j) (posn dn ac w k):=by
 unfold cLt posn
 dsimp only
 have h1:(j:Int) / w <= (k:Int) / w:=Int.ediv_le_ediv hw (by lia)
 rcases Int.lt_or_eq_of_le h1 with h2 | h2
 ·exact .inl (by lia)
 ·refine .inr ⟨by lia,?_⟩
  have e1:=Int.mul_ediv_add_emod (j:Int) w
  have e2:=Int.mul_ediv_add_emod (k:Int) w
  rw [h2] at e1
  lia
theorem qs5 {dn ac w h:Int} (hw:0 < w) (hh:0 < h) (d0:0 <= dn) (d1:dn <= 8 - h) (a0:0 <= ac) (a1:ac <= 8 - w) {k:Nat} (hk:(k:Int) < h * w):inR (posn dn ac w k):=by
 unfold inR posn
 dsimp only
 have h1:0 <= (k:Int) / w:=Int.ediv_nonneg (by lia) (by lia)
 have h2:(k:Int) / w < h:=Int.ediv_lt_of_lt_mul hw hk
 have h3:0 <= (k:Int) % w:=Int.emod_nonneg _ (by lia)
 have h4:(k:Int) % w < w:=Int.emod_lt_of_pos _ hw
 lia
theorem kb3 {dn ac w:Int} (hw:0 < w) (p:Nat -> Bool) (n:Nat):Rising (((List.range n).filter p).map (posn dn ac w)):=by
 unfold Rising
 refine List.Pairwise.map (R:=fun a b=>a < b) (posn dn ac w) (fun a b h=>qu4 hw h) ?_
 exact List.Pairwise.sublist List.filter_sublist List.pairwise_lt_range
structure Drawn (l:List Cell) (most:Nat):Prop where
 pos:1 <= l.length
 le:l.length <= most
 up:Rising l
 inr:∀ c ∈ l,inR c
 box:∃ h w,Box l h w /\ qh1 h w
theorem qn2 (ns:List Int) (most:Nat) (hm:1 <= most):∃ l,J0 t [iL ns,.int most] = .ok (cs2 l) /\ Drawn l most:=by
 obtain ⟨c,hat⟩ : ∃ c:Int,k8 t [iL ns,.int 0] = .ok (.int c):=⟨_,m_at t ns 0⟩
 obtain ⟨r1,p1,q1,h1⟩:=jq2 t c 1 4 (by decide)
 obtain ⟨r2,p2,q2,h2⟩:=jq2 t c 2 6 (by decide)
 have e4:gMod (.int c) (.int 4) = .ok (.int (c % 4)):=jo5 (by decide)
 obtain ⟨h,w,a1,a2,b1,b2,hw,sm,e3⟩ : ∃ h w:Int,1 <= h /\ h <= 8 /\ 1 <= w /\ w <= 8 /\ h * w <= 64 /\ ((h <= 4 /\ w <= 6) \/ (h <= 3 /\ w = 8) \/ (h = 8 /\ w <= 3)) /\ Dm.dIfS (dOp (gEq false) (dOp gMod (dVar 2) (dC (.int 4))) (dC (.int 1)))
   (ke3 (jj3 3 4) (v6 (dOp gIx (Z2 100 (j2 (z8 100 (j2 (dOp gAdd (dC (.int 1)) (dOp gMod (dVar 3) (dC (.int 3)))) (j2 (dC (.int 8)) aNil))) (j2 (z8 100 (j2 (dC (.int 8)) (j2 (dOp gAdd (dC (.int 1)) (dOp gMod (dVar 4) (dC (.int 3)))) aNil))) aNil))) (dOp gMod (dOp gDiv (dVar 2) (dC (.int 4))) (dC (.int 2))))))
   J2 [some (iL ns),some (.int most),some (.int c),some (.int (1 + r1)),some (.int (1 + r2)),none,none,none,none] = .nx [some (iL ns),some (.int most),some (.int c),some (.int h),some (.int w),none,none,none,none]:=by
  by_cases hc:c % 4 = 1
  ·have m1:gMod (.int (1 + r1)) (.int 3) = .ok (.int ((1 + r1) % 3)):=jo5 (by decide)
   have m2:gMod (.int (1 + r2)) (.int 3) = .ok (.int ((1 + r2) % 3)):=jo5 (by decide)
   have m3:gDiv (.int c) (.int 4) = .ok (.int (c / 4)):=kx4 (by decide) (by decide)
   have m4:gMod (.int (c / 4)) (.int 2) = .ok (.int (c / 4 % 2)):=jo5 (by decide)
   have hz:c / 4 % 2 = 0 \/ c / 4 % 2 = 1:=by lia
   rcases hz with hz | hz
   ·refine ⟨1 + (1 + r1) % 3,8,by lia,by lia,by lia,by lia,by lia,by lia,?_⟩
    have ix:gIx (.lst [.tup [.int (1 + (1 + r1) % 3),.int 8],.tup [.int 8,.int (1 + (1 + r2) % 3)]]) (.int 0) = .ok (.tup [.int (1 + (1 + r1) % 3),.int 8]):=rfl
    simp [e4,jd5,hc,m1,m2,m3,m4,hz,ix,ke3,noL,noLs,jj3]
   ·refine ⟨8,1 + (1 + r2) % 3,by lia,by lia,by lia,by lia,by lia,by lia,?_⟩
    have ix:gIx (.lst [.tup [.int (1 + (1 + r1) % 3),.int 8],.tup [.int 8,.int (1 + (1 + r2) % 3)]]) (.int 1) = .ok (.tup [.int 8,.int (1 + (1 + r2) % 3)]):=rfl
    simp [e4,jd5,hc,m1,m2,m3,m4,hz,ix,ke3,noL,noLs,jj3]
  ·have hb:(1 + r1) * (1 + r2) <= 4 * 6:=Int.mul_le_mul (by lia) (by lia) (by lia) (by lia)
   refine ⟨1 + r1,1 + r2,by lia,by lia,by lia,by lia,by lia,by lia,?_⟩
   simp [e4,jd5,hc]
 obtain ⟨dn,d0,d1,hd⟩:=jq2 t c 3 (9 - h) (by lia)
 obtain ⟨ac,s0,s1,hs⟩:=jq2 t c 4 (9 - w) (by lia)
 have em:gMul (.int h) (.int w) = .ok (.int (h * w)):=jv1 (by constructor <;> lia)
 have hn0:0 <= h * w:=Int.mul_nonneg (by lia) (by lia)
 obtain ⟨y',hl⟩:=jm8 t ns most c h w dn ac (by lia) (by lia) (List.range (h * w).toNat) [] none (by simp; lia)
 rw [List.nil_append] at hl
 have up:=kb3 (dn:=dn) (ac:=ac) (w:=w) (by lia) (pk t (ats ns 1)) (h * w).toNat
 have rng:iRng (j2 (dOp gMul (dVar 3) (dVar 4)) aNil) [some (iL ns),some (.int most),some (.int c),some (.int h),some (.int w),some (.int dn),some (.int ac),some (.lst []),none] = .ok ((List.range (h * w).toNat).map fun i=>.int (i:Nat)):=by
  unfold iRng
  simp [em]
  lia
 obtain ⟨L,hLd⟩ : ∃ L,L = ((List.range (h * w).toNat).filter (pk t (ats ns 1))).map (posn dn ac w):=⟨_,rfl⟩
 rw [<- hLd] at hl up
 have hin:∀ x ∈ L,inR x:=fun x hx=>by
  rw [hLd] at hx
  obtain ⟨k,hk,rfl⟩:=List.mem_map.mp hx
  have:=List.mem_range.mp (List.mem_filter.mp hk).1
  exact qs5 (h:=h) (by lia) (by lia) d0 (by lia) s0 (by lia) (by lia)
 have hbx:∀ x ∈ L,dn <= x.1 /\ x.1 < dn + (h.toNat:Int) /\ ac <= x.2 /\ x.2 < ac + (w.toNat:Int):=fun x hx=>by
  rw [hLd] at hx
  obtain ⟨k,hk,rfl⟩:=List.mem_map.mp hx
  have hk':=List.mem_range.mp (List.mem_filter.mp hk).1
  have q1:0 <= (k:Int) / w:=Int.ediv_nonneg (by lia) (by lia)
  have q2:(k:Int) / w < h:=Int.ediv_lt_of_lt_mul (by lia) (by lia)
  have q3:0 <= (k:Int) % w:=Int.emod_nonneg _ (by lia)
  have q4:(k:Int) % w < w:=Int.emod_lt_of_pos _ (by lia)
  unfold posn
  dsimp only
  lia
 have sm':qh1 h.toNat w.toNat:=by unfold qh1; lia
 have f1:dAsg 2 (dFn (k8 t) (j2 (dVar 0) (j2 (dC (.int 0)) aNil))) [some (iL ns),some (.int most),none,none,none,none,none,none,none] = .nx [some (iL ns),some (.int most),some (.int c),none,none,none,none,none,none]:=by simp [hat]
 have f2:dPar 3 4 (j2 (dOp gAdd (dC (.int 1)) (dFn (k9 t) (j2 (dVar 2) (j2 (dC (.int 1)) (j2 (dC (.int 4)) aNil))))) (j2 (dOp gAdd (dC (.int 1)) (dFn (k9 t) (j2 (dVar 2) (j2 (dC (.int 2)) (j2 (dC (.int 6)) aNil))))) aNil)) [some (iL ns),some (.int most),some (.int c),none,none,none,none,none,none] = .nx [some (iL ns),some (.int most),some (.int c),some (.int (1 + r1)),some (.int (1 + r2)),none,none,none,none]:=by simp [dPar,h1,h2]
 have f4:dPar 5 6 (j2 (dFn (k9 t) (j2 (dVar 2) (j2 (dC (.int 3)) (j2 (dOp gSub (dC (.int 9)) (dVar 3)) aNil)))) (j2 (dFn (k9 t) (j2 (dVar 2) (j2 (dC (.int 4)) (j2 (dOp gSub (dC (.int 9)) (dVar 4)) aNil)))) aNil)) [some (iL ns),some (.int most),some (.int c),some (.int h),some (.int w),none,none,none,none] = .nx [some (iL ns),some (.int most),some (.int c),some (.int h),some (.int w),some (.int dn),some (.int ac),none,none]:=by simp [dPar,hd,hs]
 have f5:dAsg 7 (Z2 100 aNil) [some (iL ns),some (.int most),some (.int c),some (.int h),some (.int w),some (.int dn),some (.int ac),none,none] = .nx [some (iL ns),some (.int most),some (.int c),some (.int h),some (.int w),some (.int dn),some (.int ac),some (.lst []),none]:=by simp
 have f6:dFor (iRng (j2 (dOp gMul (dVar 3) (dVar 4)) aNil)) (Q6 8) (qc1 t) [some (iL ns),some (.int most),some (.int c),some (.int h),some (.int w),some (.int dn),some (.int ac),some (.lst []),none] = .nx [some (iL ns),some (.int most),some (.int c),some (.int h),some (.int w),some (.int dn),some (.int ac),some (cs2 L),y']:=by
  rw [dFor_,rng]
  exact hl
 have fin:∀ l:List Cell,Drawn l most -> (dSeq (Dm.dIfS (dOp (gEq false) (dFn gLen (j2 (dVar 7) aNil)) (dC (.int 0)))
   (dAsg 7 (Z2 100 (j2 (z8 100 (j2 (v6 (dVar 5)) (j2 (v6 (dVar 6)) aNil))) aNil)))
   J2)
   (dRet (dSl (dVar 7) none (some (dVar 1))))) [some (iL ns),some (.int most),some (.int c),some (.int h),some (.int w),some (.int dn),some (.int ac),some (cs2 L),y'] = .rt (cs2 l) -> ∃ l,J0 t [iL ns,.int most] = .ok (cs2 l) /\ Drawn l most:=fun l dl e=>by
  refine ⟨l,?_,dl⟩
  have e0:J0 t [iL ns,.int most] = match (.rt (cs2 l):Out) with | .rt d=>.ok d | .nx _=>.ok .non | .ex c p _=>.ex c p | _=>.bad:=by
   unfold J0 J4
   show (match (dSeq _ _ [some (iL ns),some (.int most),none,none,none,none,none,none,none]) with | .rt d=>R.ok d | .nx _=>.ok .non | .ex c p _=>.ex c p | _=>.bad) = _
   rw [v4 f1,v4 f2,v4 e3,v4 f4,v4 f5,v4 f6,e]
  rw [e0]
 by_cases hL:L = []
 ·refine fin [(dn,ac)] ⟨by simp,by simpa using hm,by simp [Rising],fun x hx=>?_,?_⟩ ?_
  ·obtain rfl:x = (dn,ac):=by simpa using hx
   unfold inR; dsimp only; lia
  ·refine ⟨h.toNat,w.toNat,⟨dn,ac,fun x hx=>?_⟩,sm'⟩
   obtain rfl:x = (dn,ac):=by simpa using hx
   dsimp only
   lia
  ·subst hL
   have g1:Dm.dIfS (dOp (gEq false) (dFn gLen (j2 (dVar 7) aNil)) (dC (.int 0)))
    (dAsg 7 (Z2 100 (j2 (z8 100 (j2 (v6 (dVar 5)) (j2 (v6 (dVar 6)) aNil))) aNil)))
    J2 [some (iL ns),some (.int most),some (.int c),some (.int h),some (.int w),some (.int dn),some (.int ac),some (cs2 []),y'] = .nx [some (iL ns),some (.int most),some (.int c),some (.int h),some (.int w),some (.int dn),some (.int ac),some (cs2 [(dn,ac)]),y']:=by simp [jd5,cD]
   rw [v4 g1]
   have:(([(dn,ac)]:List Cell).map cD).take most = ([(dn,ac)]:List Cell).map cD:=List.take_of_length_le (by simpa using hm)
   simp [dSl,jt9,jy1,this]
   simp [cD,noL,noLs]
   exact this
 ·refine fin (L.take most) ⟨?_,by simp; lia,up.sublist (List.take_sublist _ _),fun x hx=>hin x (List.mem_of_mem_take hx),⟨h.toNat,w.toNat,⟨dn,ac,fun x hx=>hbx x (List.mem_of_mem_take hx)⟩,sm'⟩⟩ ?_
  ·cases hc:L with
   | nil=>exact absurd hc hL
   | cons x r=>simp; lia
  ·have hL0:¬ (L.length:Int) = 0:=by
    intro z
    exact hL (List.length_eq_zero_iff.mp (by lia))
   have g1:Dm.dIfS (dOp (gEq false) (dFn gLen (j2 (dVar 7) aNil)) (dC (.int 0)))
    (dAsg 7 (Z2 100 (j2 (z8 100 (j2 (v6 (dVar 5)) (j2 (v6 (dVar 6)) aNil))) aNil)))
    J2 [some (iL ns),some (.int most),some (.int c),some (.int h),some (.int w),some (.int dn),some (.int ac),some (cs2 L),y'] = .nx [some (iL ns),some (.int most),some (.int c),some (.int h),some (.int w),some (.int dn),some (.int ac),some (cs2 L),y']:=by simp [jd5,hL]
   rw [v4 g1]
   simp [dSl,jt9,jy1]
end Pk
end T_MA07
section T_MP07
namespace Pk
open L2 Dm
variable (t:Adr)
noncomputable def mixP (c m:Int) (k:Nat):Bool:=match k9 t [.int c,.int k,.int m] with | .ok (.int r)=>decide (0 < r) | _=>false
theorem va4 (c:Int) {l:List Cell} (h1:1 <= l.length) (h2:l.length <= 500):∃ p,U8 t [.int c,cs2 l] = .ok (cs2 p) /\ p.Sublist l:=by
 obtain ⟨r,r0,r1,hr⟩:=jq2 t c 40 4 (by decide)
 have f1:dAsg 2 (dFn (k9 t) (j2 (dVar 0) (j2 (dC (.int 40)) (j2 (dC (.int 4)) aNil)))) [some (.int c),some (cs2 l),none,none] = .nx [some (.int c),some (cs2 l),some (.int r),none]:=by simp [hr]
 by_cases hz:r = 0
 ·subst hz
  obtain ⟨g,g0,g1,hg⟩:=jq2 t c 41 l.length (by lia)
  obtain ⟨n,rfl⟩:=Int.eq_ofNat_of_zero_le g0
  have hn:n < l.length:=by lia
  refine ⟨l.take n ++ l.drop (n + 1),?_,by rw [<- List.eraseIdx_eq_take_drop_succ]; exact List.eraseIdx_sublist l n⟩
  unfold U8
  refine W5 [some (.int c),some (cs2 l),none,none] ?_
  rw [v4 f1]
  refine kx0 ?_
  rw [if_t (by simp [jd5])]
  have f2:dAsg 3 (dFn (k9 t) (j2 (dVar 0) (j2 (dC (.int 41)) (j2 (dFn gLen (j2 (dVar 1) aNil)) aNil)))) [some (.int c),some (cs2 l),some (.int 0),none] = .nx [some (.int c),some (cs2 l),some (.int 0),some (.int (n:Int))]:=by simp [hg]
  rw [v4 f2]
  refine jg4 (op2 (a:=cs2 (l.take n)) (b:=cs2 (l.drop (n + 1))) (vd4 rfl rfl) (qt3 rfl rfl) (qj5 ?_))
  simp; lia
 ·obtain ⟨m,hm,hix⟩ : ∃ m:Int,0 < m /\ gIx (.lst [.int 0,.int 2,.int 3,.int 4]) (.int r) = .ok (.int m):=by
   have:r = 1 \/ r = 2 \/ r = 3:=by lia
   rcases this with rfl | rfl | rfl
   ·exact ⟨2,by decide,rfl⟩
   ·exact ⟨3,by decide,rfl⟩
   ·exact ⟨4,by decide,rfl⟩
  refine ⟨(l.zipIdx.filter fun x=>mixP t c m x.2).map (·.1),?_,?_⟩
  ·unfold U8
   refine W5 [some (.int c),some (cs2 l),none,none] ?_
   rw [v4 f1,v4 (st':=[some (.int c),some (cs2 l),some (.int r),none]) (by rw [if_f (by simp [jd5,hz])]; rfl)]
   refine jg4 ?_
   show _ = R.ok (D.lst (List.map cD (List.map _ _)))
   rw [List.map_map]
   refine jf5 (ds:=l.zipIdx.map fun p=>.tup [.int (p.2:Nat),cD p.1]) ?_ (by simp; lia) ?_
   ·simp [iEnu,kz1]
   ·refine ji7 (S:=fun x=>[some (.int (x.2:Nat)),some (cD x.1),some (.int c),some (.int r)]) (P:=fun st=>∃ y z,st = [y,z,some (.int c),some (.int r)]) l.zipIdx (fun x _=>⟨_,_,rfl⟩) (fun x _ st zz1=>by obtain ⟨y,z,e⟩:=zz1; subst e; rfl) (fun x _=>?_) (fun x _ _=>by simp) _ ⟨none,none,rfl⟩
    obtain ⟨v,v0,v1,hv⟩:=jq2 t c x.2 m hm
    have e:mixP t c m x.2 = decide (0 < v):=by unfold mixP; rw [hv]
    simp [hix,hv,e]
  ·have:=(List.filter_sublist (p:=fun x:Cell × Nat=>mixP t c m x.2) (l:=l.zipIdx)).map Prod.fst
   rwa [List.zipIdx_map_fst] at this
noncomputable def Stand (cells pegs:List Cell):Prop:=Rising pegs /\ ∀ c ∈ pegs,c ∈ cells
theorem jp4 {cells pegs:List Cell} (hl:pegs.length <= 50):(Stand cells pegs -> y7 t [.brd 0 (cells.map cD),cs2 pegs] = .ok .non) /\ (¬ Stand cells pegs -> y7 t [.brd 0 (cells.map cD),cs2 pegs] = .ex t.c_BadPegs none):=by
 obtain ⟨r1,r2⟩:=kl8 t hl
 have loop:=jr5 (bind:=Q6 2) (F:=Dm.dIfS (dOp (gIn true) (dVar 2) (dUn U3 (dVar 0))) (W9 t.c_BadPegs) J2) (f:=cD) (Q:=fun st=>∃ y,st = [some (.brd 0 (cells.map cD)),some (cs2 pegs),y]) (p:=fun c=>c ∈ cells) (S:=fun o=>∃ s,o = .ex t.c_BadPegs none s) (fun o zz2=>by obtain ⟨s,e⟩:=zz2; subst e; trivial) pegs [some (.brd 0 (cells.map cD)),some (cs2 pegs),none] (fun c _ st zz3=>by
  obtain ⟨y,e⟩:=zz3
  subst e
  refine ⟨[some (.brd 0 (cells.map cD)),some (cs2 pegs),some (cD c)],rfl,fun h=>⟨_,?_,some (cD c),rfl⟩,fun h=>⟨[some (.brd 0 (cells.map cD)),some (cs2 pegs),some (cD c)],?_⟩⟩
  ·rw [if_f (by simp [jg5,h])]; rfl
  ·rw [if_t (by simp [jg5,h])]; rfl) ⟨none,rfl⟩
 have key:∀ o:Out,(dSeq (Dm.dIfS (dNot (dFn (J9 t) (j2 (dVar 1) aNil))) (W9 t.c_BadPegs) J2) (dFor (iLst (dVar 1)) (Q6 2) (Dm.dIfS (dOp (gIn true) (dVar 2) (dUn U3 (dVar 0))) (W9 t.c_BadPegs) J2))) [some (.brd 0 (cells.map cD)),some (cs2 pegs),none] = o -> y7 t [.brd 0 (cells.map cD),cs2 pegs] = match o with | .rt d=>.ok d | .nx _=>.ok .non | .ex c p _=>.ex c p | _=>.bad:=fun o h=>by
  unfold y7 J4
  subst h; rfl
 by_cases hr:Rising pegs
 ·have s1:Dm.dIfS (dNot (dFn (J9 t) (j2 (dVar 1) aNil))) (W9 t.c_BadPegs) J2 [some (.brd 0 (cells.map cD)),some (cs2 pegs),none] = .nx [some (.brd 0 (cells.map cD)),some (cs2 pegs),none]:=by simp [r1 hr]
  rw [v4 s1] at key
  refine ⟨fun h=>?_,fun h=>?_⟩
  ·obtain ⟨st',h1,_⟩:=loop.1 h.2
   exact key (.nx st') (by simp [h1])
  ·obtain ⟨s,h1⟩:=loop.2 fun z=>h ⟨hr,z⟩
   exact key (.ex t.c_BadPegs none s) (by simp [h1])
 ·refine ⟨fun h=>absurd h.1 hr,fun _=>key (.ex t.c_BadPegs none [some (.brd 0 (cells.map cD)),some (cs2 pegs),none]) (qi9 ?_)⟩
  simp [r2 hr]
theorem Stand.sub {cells pegs:List Cell} (h:Rising cells) (hs:pegs.Sublist cells):Stand cells pegs:=⟨h.sublist hs,fun c hc=>hs.subset hc⟩
theorem ql7 {l:List Cell} (d:Drawn l 24):jr3 (w5 t) [cs2 l] = .ok (.brd 0 (l.map cD)):=by
 have h:=(qp6 t (l:=l) (by have:=d.le; lia)).1 ⟨⟨d.pos,d.le⟩,d.up,d.inr⟩
 simp [jr3,h]
theorem Drawn.mono {l:List Cell} {m n:Nat} (d:Drawn l m) (h:m <= n):Drawn l n:=⟨d.pos,Nat.le_trans d.le h,d.up,d.inr,d.box⟩
end Pk
end T_MP07
section T_MB07
namespace Pk
open L2 Dm
noncomputable abbrev bB (cells:List Cell):D:=.brd 0 (cells.map cD)
variable (t:Adr)
@[simp] theorem div2 (x:Int):gDiv (.int x) (.int 2) = .ok (.int (x / 2)):=kx4 (by decide) (by decide)
theorem jz7 (f:Cell -> List Leap) (k:Nat):∀ l:List Cell,(∀ a ∈ l,(f a).length <= k) -> (l.flatMap f).length <= l.length * k
 | [],_=>by simp
 | a :: l,h=>by
  rw [List.flatMap_cons,List.length_append,List.length_cons,Nat.succ_mul]
  have:=jz7 f k l fun x hx=>h x (.tail _ hx)
  have:=h a (.head _)
  lia
theorem qh7 {bind:DB} {F:DS} {S:List Leap -> Option D -> DSt} {a:Cell} {p:Cell -> Bool} (xs:List Cell) (acc:List Leap) (y:Option D) (hl:acc.length + xs.length <= 1000)
  (hb:∀ acc y b,bind (cD b) (S acc y) = some (S acc (some (cD b)))) (hF:∀ acc b,b ∈ xs -> acc.length <= 1000 -> ∃ y,F (S acc (some (cD b))) = .nx (S (acc ++ if p b = true then [(a,b)] else []) y)) :
  ∃ y',jb3 bind F (xs.map cD) (S acc y) = .nx (S (acc ++ (xs.filter p).map fun b=>(a,b)) y'):=by
 obtain ⟨st',h1,y',h2,_⟩:=jl4 (bind:=bind) (F:=F) (f:=cD) (Q:=fun pre st=>∃ y,st = S (acc ++ (pre.filter p).map fun b=>(a,b)) y /\ pre.length <= xs.length) xs [] (S acc y) (fun q x r e st zz1=>by
  obtain ⟨y,hy,hq⟩:=zz1
  subst hy
  rw [List.nil_append] at e
  have hlen:q.length + 1 <= xs.length:=by rw [e]; simp
  have hf:(q.filter p).length <= q.length:=List.length_filter_le ..
  obtain ⟨y2,h2⟩:=hF (acc ++ (q.filter p).map fun b=>(a,b)) x (by rw [e]; simp) (by simp; lia)
  refine ⟨_,_,hb _ _ _,h2,y2,?_,by simpa using hlen⟩
  rw [List.filter_append,List.map_append,<- List.append_assoc]
  cases hp:p x <;> simp [hp]) ⟨y,by simp,by simp⟩
 exact ⟨y',by rw [h1,h2,List.nil_append]⟩
theorem kw6 (p:Leap):k7 t [lD p] = .ok (cD (mid p.1 p.2)):=by
 simp [k7,J4,mid,cD,lD,gIx,atI,ixN]
theorem vf0 (i:Int):gAbs [.int i] = .ok (.int (abi i)):=rfl
theorem km9 {cells:List Cell} (up:Rising cells) (hl:cells.length <= 30) (few:(v7 cells).length < 64):J3 t [cs2 cells] = .ok (ls2 (v7 cells)):=by
 have inner:∀ (acc:List Leap) (a:Cell) (y z:Option D),acc.length <= 900 -> ∃ y' z',(dFor (iLst (dVar 0)) (Q6 3)
   (dSeq (dAsg 4 (dFn ja4 (j2 (Z2 100 (j2 (dFn gAbs (j2 (dOp gSub (dOp gIx (dVar 2) (dC (.int 0))) (dOp gIx (dVar 3) (dC (.int 0)))) aNil)) (j2 (dFn gAbs (j2 (dOp gSub (dOp gIx (dVar 2) (dC (.int 1))) (dOp gIx (dVar 3) (dC (.int 1)))) aNil)) aNil))) aNil)))
   (Dm.dIfS (dAnd (dOp (gEq false) (dVar 4) (Z2 100 (j2 (dC (.int 0)) (j2 (dC (.int 2)) aNil)))) (dOp (gIn false) (dFn (k7 t) (j2 (z8 100 (j2 (v6 (dVar 2)) (j2 (v6 (dVar 3)) aNil))) aNil)) (dVar 0)))
   (dApp 1 (z8 100 (j2 (v6 (dVar 2)) (j2 (v6 (dVar 3)) aNil))))
   J2))) [some (cs2 cells),some (ls2 acc),some (cD a),y,z] = .nx [some (cs2 cells),some (ls2 (acc ++ (lp1 cells a).map fun b=>(a,b))),some (cD a),y',z']:=fun acc a y z ha=>by
  obtain ⟨st',h1,y',z',h2,_⟩:=jl4 (bind:=Q6 3) (F:=dSeq (dAsg 4 (dFn ja4 (j2 (Z2 100 (j2 (dFn gAbs (j2 (dOp gSub (dOp gIx (dVar 2) (dC (.int 0))) (dOp gIx (dVar 3) (dC (.int 0)))) aNil)) (j2 (dFn gAbs (j2 (dOp gSub (dOp gIx (dVar 2) (dC (.int 1))) (dOp gIx (dVar 3) (dC (.int 1)))) aNil)) aNil))) aNil)))
   (Dm.dIfS (dAnd (dOp (gEq false) (dVar 4) (Z2 100 (j2 (dC (.int 0)) (j2 (dC (.int 2)) aNil)))) (dOp (gIn false) (dFn (k7 t) (j2 (z8 100 (j2 (v6 (dVar 2)) (j2 (v6 (dVar 3)) aNil))) aNil)) (dVar 0)))
   (dApp 1 (z8 100 (j2 (v6 (dVar 2)) (j2 (v6 (dVar 3)) aNil))))
   J2)) (f:=cD) (Q:=fun pre st=>∃ y z,st = [some (cs2 cells),some (ls2 (acc ++ (pre.filter fun b=>ap a b && decide (mid a b ∈ cells)).map fun b=>(a,b))),some (cD a),y,z] /\ pre.length <= cells.length) cells [] [some (cs2 cells),some (ls2 acc),some (cD a),y,z] (fun q b r e st zz2=>by
   obtain ⟨y,z,hy,hq⟩:=zz2
   subst hy
   rw [List.nil_append] at e
   have hlen:q.length + 1 <= cells.length:=by rw [e]; simp
   have hf:(q.filter fun b=>ap a b && decide (mid a b ∈ cells)).length <= q.length:=List.length_filter_le ..
   obtain ⟨u,v,hs,huv⟩:=qe5 (abi (a.1 - b.1)) (abi (a.2 - b.2))
   have hap:ap a b = decide (u = 0 /\ v = 2):=by
    unfold ap
    rw [Bool.eq_iff_iff]
    simp only [Bool.or_eq_true,Bool.and_eq_true,decide_eq_true_eq]
    exact huv.symm
   generalize hA:acc ++ (q.filter fun b=>ap a b && decide (mid a b ∈ cells)).map (fun b=>(a,b)) = A
   have lA:A.length <= 1000:=by rw [<- hA]; simp; lia
   have s1:dAsg 4 (dFn ja4 (j2 (Z2 100 (j2 (dFn gAbs (j2 (dOp gSub (dOp gIx (dVar 2) (dC (.int 0))) (dOp gIx (dVar 3) (dC (.int 0)))) aNil)) (j2 (dFn gAbs (j2 (dOp gSub (dOp gIx (dVar 2) (dC (.int 1))) (dOp gIx (dVar 3) (dC (.int 1)))) aNil)) aNil))) aNil)) [some (cs2 cells),some (ls2 A),some (cD a),some (cD b),z] = .nx [some (cs2 cells),some (ls2 A),some (cD a),some (cD b),some (.lst [.int u,.int v])]:=by
    simp [vf0,hs]
   have ge:gEq false (.lst [.int u,.int v]) (.lst [.int 0,.int 2]) = .ok (.bl (decide (u = 0 /\ v = 2))):=by
    unfold gEq
    rw [if_pos (by simp [flat,Q0,dep,deps])]
    simp only [eqD,eqDs,Bool.and_true,Bool.false_eq_true,if_false]
    by_cases h:u = 0 <;> by_cases h':v = 2 <;> simp [h,h']
   have gb:(dFn (k7 t) (j2 (z8 100 (j2 (v6 (dVar 2)) (j2 (v6 (dVar 3)) aNil))) aNil)) [some (cs2 cells),some (ls2 A),some (cD a),some (cD b),some (.lst [.int u,.int v])] = .ok (cD (mid a b)):=by
    have:=kw6 t (a,b)
    unfold lD at this
    simp [this]
   refine ⟨[some (cs2 cells),some (ls2 A),some (cD a),some (cD b),z],[some (cs2 cells),some (ls2 (A ++ if (ap a b && decide (mid a b ∈ cells)) = true then [(a,b)] else [])),some (cD a),some (cD b),some (.lst [.int u,.int v])],rfl,?_,some (cD b),some (.lst [.int u,.int v]),?_,by simpa using hlen⟩
   ·rw [v4 s1]
    by_cases h1:u = 0 /\ v = 2
    ·by_cases h2:mid a b ∈ cells
     ·rw [if_t (kj0 (op2 (a:=.lst [.int u,.int v]) (b:=.lst [.int 0,.int 2]) rfl (by simp) (by rw [ge]; simp [h1])) (op2 gb rfl (by rw [jg5]; simp [h2])))]
      rw [hap]
      simp [dApp,lA,h1,h2,lD]
     ·rw [if_f (kj0 (op2 (a:=.lst [.int u,.int v]) (b:=.lst [.int 0,.int 2]) rfl (by simp) (by rw [ge]; simp [h1])) (op2 gb rfl (by rw [jg5]; simp [h2])))]
      simp [h2]
    ·rw [if_f (qk3 (op2 (a:=.lst [.int u,.int v]) (b:=.lst [.int 0,.int 2]) rfl (by simp) (by rw [ge]; simp [h1])))]
     rw [hap]
     simp [h1]
   ·rw [<- hA,List.filter_append,List.map_append,<- List.append_assoc]
    cases hp:(ap a b && decide (mid a b ∈ cells)) <;> simp [hp]) ⟨y,z,by simp,by simp⟩
  refine ⟨y',z',?_⟩
  rw [List.nil_append,qt1 up] at h2
  subst h2
  simp
  exact h1
 obtain ⟨st',h1,y,z,x,h2⟩:=jl4 (bind:=Q6 2) (F:=dFor (iLst (dVar 0)) (Q6 3)
   (dSeq (dAsg 4 (dFn ja4 (j2 (Z2 100 (j2 (dFn gAbs (j2 (dOp gSub (dOp gIx (dVar 2) (dC (.int 0))) (dOp gIx (dVar 3) (dC (.int 0)))) aNil)) (j2 (dFn gAbs (j2 (dOp gSub (dOp gIx (dVar 2) (dC (.int 1))) (dOp gIx (dVar 3) (dC (.int 1)))) aNil)) aNil))) aNil)))
   (Dm.dIfS (dAnd (dOp (gEq false) (dVar 4) (Z2 100 (j2 (dC (.int 0)) (j2 (dC (.int 2)) aNil)))) (dOp (gIn false) (dFn (k7 t) (j2 (z8 100 (j2 (v6 (dVar 2)) (j2 (v6 (dVar 3)) aNil))) aNil)) (dVar 0)))
   (dApp 1 (z8 100 (j2 (v6 (dVar 2)) (j2 (v6 (dVar 3)) aNil))))
   J2))) (f:=cD) (Q:=fun pre st=>∃ y z x,st = [some (cs2 cells),some (ls2 (pre.flatMap fun a=>(lp1 cells a).map fun b=>(a,b))),y,z,x]) cells [] [some (cs2 cells),some (ls2 []),none,none,none] (fun q a r e st zz3=>by
  obtain ⟨y,z,x,hy⟩:=zz3
  subst hy
  rw [List.nil_append] at e
  have hq:q.length <= 30:=by rw [e] at hl; simp at hl; lia
  have h4:∀ a,((lp1 cells a).map fun b=>(a,b)).length <= 4:=fun a=>by
   rw [List.length_map]; exact Nat.le_trans (List.length_filter_le ..) (by simp [four])
  have:=jz7 (fun a=>(lp1 cells a).map fun b=>(a,b)) 4 q fun a _=>h4 a
  obtain ⟨z',x',h⟩:=inner (q.flatMap fun a=>(lp1 cells a).map fun b=>(a,b)) a z x (by lia)
  exact ⟨_,_,rfl,h,some (cD a),z',x',by rw [List.flatMap_append]; simp⟩) ⟨none,none,none,rfl⟩
 subst h2
 unfold J3
 refine W5 [some (cs2 cells),none,none,none,none] ?_
 rw [v4 (st':=[some (cs2 cells),some (ls2 []),none,none,none]) (by simp),v4 (st':=[some (cs2 cells),some (ls2 (v7 cells)),y,z,x]) ?_]
 ·exact jg4 (fn1 (a:=ls2 (v7 cells)) rfl (qe0 (ki4 up) few))
 ·rw [dFor_]
  have:iLst (dVar 0) [some (cs2 cells),some (ls2 []),none,none,none] = .ok (cells.map cD):=by simp
  rw [this]
  exact h1
theorem Drawn.few {l:List Cell} {m:Nat} (d:Drawn l m):(v7 l).length < 64:=by
 obtain ⟨h,w,b,s⟩:=d.box
 have:=ks9 d.up b s
 lia
end Pk
end T_MB07
section T_ML07
namespace Pk
open L2 Dm
variable (t:Adr)
theorem vc7 (c:Cell):Y6 t [cD c] = .ok (cs2 (four c)):=by
 simp [Y6,J4,four,cD,gIx,atI,ixN]
theorem kt0 (a b:Cell):J6 t [cD a,cD b] = .ok (cD (mid a b)):=by
 simp [J6,J4,mid,cD,gIx,atI,ixN]
theorem kh5 {cells:List Cell} (hl:cells.length <= 200):jd7 t [bB cells] = .ok (ls2 (v7 cells)):=by
 have inner:∀ (acc:List Leap) (a:Cell) (y:Option D),acc.length <= 900 -> ∃ y',(dFor (iLst (dFn (Y6 t) (j2 (dVar 2) aNil))) (Q6 3)
   (Dm.dIfS (dAnd (dOp (gIn false) (dVar 3) (dUn U3 (dVar 0))) (dOp (gIn false) (dFn (J6 t) (j2 (dVar 2) (j2 (dVar 3) aNil))) (dUn U3 (dVar 0))))
   (dApp 1 (z8 100 (j2 (v6 (dVar 2)) (j2 (v6 (dVar 3)) aNil))))
   J2)) [some (bB cells),some (ls2 acc),some (cD a),y] = .nx [some (bB cells),some (ls2 (acc ++ (lp1 cells a).map fun b=>(a,b))),some (cD a),y']:=fun acc a y ha=>by
  obtain ⟨y',h⟩:=qh7 (bind:=Q6 3) (F:=Dm.dIfS (dAnd (dOp (gIn false) (dVar 3) (dUn U3 (dVar 0))) (dOp (gIn false) (dFn (J6 t) (j2 (dVar 2) (j2 (dVar 3) aNil))) (dUn U3 (dVar 0))))
   (dApp 1 (z8 100 (j2 (v6 (dVar 2)) (j2 (v6 (dVar 3)) aNil))))
   J2) (S:=fun acc y=>[some (bB cells),some (ls2 acc),some (cD a),y]) (a:=a) (p:=fun b=>decide (b ∈ cells) && decide (mid a b ∈ cells)) (four a) acc y (by simp [four]; lia) (fun acc y b=>rfl) (fun acc b _ hacc=>⟨some (cD b),by
    by_cases h1:b ∈ cells
    ·by_cases h2:mid a b ∈ cells
     ·rw [if_t (kj0 (op2 (a:=cD b) (b:=cs2 cells) rfl (by simp) (by rw [jg5]; simp [h1])) (op2 (a:=cD (mid a b)) (b:=cs2 cells) (by simp [kt0]) (by simp) (by rw [jg5]; simp [h2])))]
      simp [dApp,hacc,h1,h2,lD]
     ·rw [if_f (kj0 (op2 (a:=cD b) (b:=cs2 cells) rfl (by simp) (by rw [jg5]; simp [h1])) (op2 (a:=cD (mid a b)) (b:=cs2 cells) (by simp [kt0]) (by simp) (by rw [jg5]; simp [h2])))]
      simp [h2]
    ·rw [if_f (qk3 (op2 (a:=cD b) (b:=cs2 cells) rfl (by simp) (by rw [jg5]; simp [h1])))]
     simp [h1]⟩)
  exact ⟨y',by simp [vc7]; exact h⟩
 obtain ⟨st',h1,y,z,h2⟩:=jl4 (bind:=Q6 2) (F:=dFor (iLst (dFn (Y6 t) (j2 (dVar 2) aNil))) (Q6 3)
   (Dm.dIfS (dAnd (dOp (gIn false) (dVar 3) (dUn U3 (dVar 0))) (dOp (gIn false) (dFn (J6 t) (j2 (dVar 2) (j2 (dVar 3) aNil))) (dUn U3 (dVar 0))))
   (dApp 1 (z8 100 (j2 (v6 (dVar 2)) (j2 (v6 (dVar 3)) aNil))))
   J2)) (f:=cD) (Q:=fun pre st=>∃ y z,st = [some (bB cells),some (ls2 (pre.flatMap fun a=>(lp1 cells a).map fun b=>(a,b))),y,z]) cells [] [some (bB cells),some (ls2 []),none,none] (fun q a r e st zz1=>by
  obtain ⟨y,z,hy⟩:=zz1
  subst hy
  rw [List.nil_append] at e
  have hq:q.length <= 200:=by rw [e] at hl; simp at hl; lia
  have h4:∀ a,((lp1 cells a).map fun b=>(a,b)).length <= 4:=fun a=>by
   rw [List.length_map]; exact Nat.le_trans (List.length_filter_le ..) (by simp [four])
  have:=jz7 (fun a=>(lp1 cells a).map fun b=>(a,b)) 4 q fun a _=>h4 a
  obtain ⟨z',h⟩:=inner (q.flatMap fun a=>(lp1 cells a).map fun b=>(a,b)) a z (by lia)
  exact ⟨_,_,rfl,h,some (cD a),z',by rw [List.flatMap_append]; simp⟩) ⟨none,none,rfl⟩
 subst h2
 unfold jd7
 refine W5 [some (bB cells),none,none,none] ?_
 rw [v4 (st':=[some (bB cells),some (ls2 []),none,none]) (by simp),v4 (st':=[some (bB cells),some (ls2 (v7 cells)),y,z]) ?_]
 ·rfl
 ·rw [dFor_]
  have:iLst (dUn U3 (dVar 0)) [some (bB cells),some (ls2 []),none,none] = .ok (cells.map cD):=by simp
  rw [this]
  exact h1
end Pk
end T_ML07
section T_MO07
namespace Pk
open L2 Dm
variable (t:Adr)
theorem va3 (pegs:List Cell) (p:Leap):Q1 t [cs2 pegs,lD p] = .ok (.bl (canB pegs p)):=by
 unfold Q1 canB
 refine W5 [some (cs2 pegs),some (lD p)] (jg4 ?_)
 have g1:=jg5 false p.1 pegs
 have g2:=jg5 true p.2 pegs
 have g3:=jg5 false (mid p.1 p.2) pegs
 by_cases h1:p.1 ∈ pegs <;> by_cases h2:p.2 ∈ pegs <;> simp [kt0,g1,g2,g3,h1,h2]
theorem qx5 {cells pegs:List Cell} (hl:cells.length <= 200) (lp:pegs.length <= 50) (S:Stand cells pegs):W4 t [bB cells,cs2 pegs] = .ok (ls2 (opn cells pegs)):=by
 unfold W4
 refine W5 [some (bB cells),some (cs2 pegs)] ?_
 have hc:=(jp4 t (cells:=cells) lp).1 S
 rw [v4 (st':=[some (bB cells),some (cs2 pegs)]) (by simp [hc])]
 refine jg4 (jf5 (ds:=(v7 cells).map lD) (by simp [kh5 t hl]) ?_ ?_)
 ·have h4:∀ a,((lp1 cells a).map fun b=>(a,b)).length <= 4:=fun a=>by
   rw [List.length_map]; exact Nat.le_trans (List.length_filter_le ..) (by simp [four])
  have:=jz7 (fun a=>(lp1 cells a).map fun b=>(a,b)) 4 cells fun a _=>h4 a
  rw [List.length_map]
  unfold v7
  lia
 ·exact ji7 (S:=fun x=>[some (lD x),some (cs2 pegs)]) (P:=fun st=>∃ y,st = [y,some (cs2 pegs)]) (v7 cells) (fun x _=>⟨_,rfl⟩) (fun x _ st zz1=>by obtain ⟨y,e⟩:=zz1; subst e; rfl) (fun x _=>by simp [va3]) (fun x _ _=>by simp) _ ⟨none,rfl⟩
end Pk
end T_MO07
section T_ME07
namespace Pk
open L2 Dm
variable (t:Adr)
theorem qf9 (pegs:List Cell) (k:Cell -> Int) (two:List Int) (f:Cell -> Bool) (h:∀ c,decide (k c ∈ two) = f c) (hl:pegs.length <= 1000):jc8 t [.lst (pegs.map fun c=>.int (k c)),tI two] = .ok (.int (par f pegs)):=by
 unfold jc8
 refine W5 [some (.lst (pegs.map fun c=>.int (k c))),some (tI two)] (jg4 (op2 (a:=.int ((pegs.filter f).length:Nat)) (b:=.int 2) ?_ rfl (by unfold par; exact jo5 (by decide))))
 refine fn1 (a:=.lst ((pegs.filter f).map fun c=>.int (k c))) (jf5 (ds:=pegs.map fun c=>.int (k c)) rfl (by simpa using hl) (ji7 (S:=fun x=>[some (.int (k x)),some (tI two)]) (P:=fun st=>∃ y,st = [y,some (tI two)]) pegs (fun x _=>⟨_,rfl⟩) (fun x _ st zz1=>by obtain ⟨y,e⟩:=zz1; subst e; rfl) (fun x _=>?_) (fun x _ _=>by simp) _ ⟨none,rfl⟩)) (by simp)
 rw [<- h x]; exact op2 (a:=.int (k x)) (b:=tI two) rfl rfl (by rw [qx2]; simp)
theorem kr5 {cells pegs:List Cell} (lp:pegs.length <= 50) (S:Stand cells pegs):Y8 t [bB cells,cs2 pegs] = .ok (clsD pegs):=by
 have hc:=(jp4 t (cells:=cells) lp).1 S
 have o1:=qf9 t pegs kS [0,1] f1 (fun c=>by unfold f1 kS; rw [Bool.eq_iff_iff]; simp only [List.mem_cons,List.not_mem_nil,or_false,decide_eq_true_eq]; lia) (by lia)
 have o2:=qf9 t pegs kS [1,2] f2 (fun c=>by unfold f2 kS; rw [Bool.eq_iff_iff]; simp only [List.mem_cons,List.not_mem_nil,or_false,decide_eq_true_eq]; lia) (by lia)
 have o3:=qf9 t pegs kD [0,1] f3 (fun c=>by unfold f3 kD; rw [Bool.eq_iff_iff]; simp only [List.mem_cons,List.not_mem_nil,or_false,decide_eq_true_eq]; lia) (by lia)
 have o4:=qf9 t pegs kD [1,2] f4 (fun c=>by unfold f4 kD; rw [Bool.eq_iff_iff]; simp only [List.mem_cons,List.not_mem_nil,or_false,decide_eq_true_eq]; lia) (by lia)
 unfold Y8
 refine W5 [some (bB cells),some (cs2 pegs),none,none] ?_
 rw [v4 (st':=[some (bB cells),some (cs2 pegs),none,none]) (by simp [hc])]
 rw [v4 (st':=[some (bB cells),some (cs2 pegs),some (.lst (pegs.map fun c=>.int (kS c))),none]) (ji2 (jf5 (ds:=pegs.map cD) rfl (by simp; lia) (jm0 (S:=fun x=>[some (cD x)]) (P:=fun st=>∃ y,st = [y]) pegs (fun x _=>⟨_,rfl⟩) (fun x _ st zz2=>by obtain ⟨y,e⟩:=zz2; subst e; rfl) (fun x _=>rfl) (fun x _=>op2 (a:=.int (x.1 + x.2)) (b:=.int 3) (op2 (a:=.int x.1) (b:=.int x.2) rfl rfl rfl) rfl (jo5 (by decide))) _ ⟨none,rfl⟩)))]
 rw [v4 (st':=[some (bB cells),some (cs2 pegs),some (.lst (pegs.map fun c=>.int (kS c))),some (.lst (pegs.map fun c=>.int (kD c)))]) (ji2 (jf5 (ds:=pegs.map cD) rfl (by simp; lia) (jm0 (S:=fun x=>[some (cD x)]) (P:=fun st=>∃ y,st = [y]) pegs (fun x _=>⟨_,rfl⟩) (fun x _ st zz3=>by obtain ⟨y,e⟩:=zz3; subst e; rfl) (fun x _=>rfl) (fun x _=>op2 (a:=.int (x.1 - x.2)) (b:=.int 3) (op2 (a:=.int x.1) (b:=.int x.2) rfl rfl rfl) rfl (jo5 (by decide))) _ ⟨none,rfl⟩)))]
 refine jg4 ?_
 simp [tI] at o1 o2 o3 o4
 simp [o1,o2,o3,o4,clsD,tI,clsP]
end Pk
end T_ME07
section T_MT07
namespace Pk
open L2 Dm
variable (t:Adr)
noncomputable def ko7 (cells:List Cell) (ws:List Int):Prop:=ws.length = cells.length /\ ∀ n ∈ ws,-1000 <= n /\ n <= 1000
@[simp] theorem gLen_cs (l:List Cell):gLen [cs2 l] = .ok (.int (l.length:Nat)):=by simp
@[simp] theorem gLen_lI (l:List Int):gLen [lI l] = .ok (.int (l.length:Nat)):=by simp [lI]
theorem kl3 {cells:List Cell} {ws:List Int}:(ko7 cells ws -> w9 t [bB cells,lI ws] = .ok .non) /\ (¬ ko7 cells ws -> w9 t [bB cells,lI ws] = .ex t.c_BadWeights none):=by
 have loop:=jr5 (bind:=Q6 2) (F:=Dm.dIfS (dNot (ji3 gLe gLe (dC (.int (-1000))) (dVar 2) (dC (.int (1000))))) (W9 t.c_BadWeights) J2) (f:=D.int) (Q:=fun st=>∃ y,st = [some (bB cells),some (lI ws),y]) (p:=fun n=>-1000 <= n /\ n <= 1000) (S:=fun o=>∃ s,o = .ex t.c_BadWeights none s) (fun o zz1=>by obtain ⟨s,e⟩:=zz1; subst e; trivial) ws [some (bB cells),some (lI ws),none] (fun n _ st zz2=>by
  obtain ⟨y,e⟩:=zz2
  subst e
  refine ⟨[some (bB cells),some (lI ws),some (.int n)],rfl,fun h=>⟨_,?_,some (.int n),rfl⟩,fun h=>⟨[some (bB cells),some (lI ws),some (.int n)],?_⟩⟩
  ·rw [if_f (by simp [h.1,h.2])]; rfl
  ·rw [if_t (by
    by_cases h1 : -1000 <= n
    ·have h2:¬ n <= 1000:=fun z=>h ⟨h1,z⟩
     simp [h1,h2]
    ·simp [h1])]; rfl) ⟨none,rfl⟩
 by_cases hlen:ws.length = cells.length
 ·have s1:Dm.dIfS (dOp (gEq true) (dFn gLen (j2 (dVar 1) aNil)) (dFn gLen (j2 (dUn U3 (dVar 0)) aNil))) (W9 t.c_BadWeights) J2 [some (bB cells),some (lI ws),none] = .nx [some (bB cells),some (lI ws),none]:=by
   rw [if_f (op2 (a:=.int (ws.length:Nat)) (b:=.int (cells.length:Nat)) (fn1 (a:=lI ws) rfl (gLen_lI ws)) (fn1 (a:=cs2 cells) (by simp) (gLen_cs cells)) (by rw [jd5,hlen]; simp))]; rfl
  refine ⟨fun h=>?_,fun h=>?_⟩
  ·obtain ⟨st',h1,_⟩:=loop.1 h.2
   unfold w9
   refine qt2 (s:=st') [some (bB cells),some (lI ws),none] ?_
   rw [v4 s1,dFor_]
   exact h1
  ·obtain ⟨s,h1⟩:=loop.2 fun z=>h ⟨hlen,z⟩
   unfold w9
   refine kz6 (s:=s) [some (bB cells),some (lI ws),none] ?_
   rw [v4 s1,dFor_]
   exact h1
 ·refine ⟨fun h=>absurd h.1 hlen,fun _=>?_⟩
  unfold w9
  refine kz6 (s:=[some (bB cells),some (lI ws),none]) [some (bB cells),some (lI ws),none] (qi9 ?_)
  rw [if_t (op2 (a:=.int (ws.length:Nat)) (b:=.int (cells.length:Nat)) (fn1 (a:=lI ws) rfl (gLen_lI ws)) (fn1 (a:=cs2 cells) (by simp) (gLen_cs cells)) (by rw [jd5,decide_eq_false (by lia)]; simp))]; rfl
theorem jy6 {α:Type} {l:List α} {p:α -> Bool}:(∀ x ∈ l,p x = true) ↔ l.all p = true:=List.all_eq_true.symm
theorem qw2 {cells:List Cell} {ws:List Int} (hl:cells.length <= 200) (nd:cells.Nodup) (g:ko7 cells ws):ke2 t [bB cells,lI ws] = .ok (.bl (js9 cells ws)):=by
 have hc:=(kl3 t).1 g
 have loop:=jr5 (bind:=Q6 3) (F:=Dm.dIfS (dOp gLt (dOp gAdd (dOp gGet (dVar 2) (dOp gIx (dVar 3) (dC (.int 0)))) (dOp gGet (dVar 2) (dFn (J6 t) (j2 (dOp gIx (dVar 3) (dC (.int 0))) (j2 (dOp gIx (dVar 3) (dC (.int 1))) aNil))))) (dOp gGet (dVar 2) (dOp gIx (dVar 3) (dC (.int 1)))))
  (dRet (dC (.bl false)))
  J2) (f:=lD) (Q:=fun st=>∃ y,st = [some (bB cells),some (lI ws),some (dD (cells.zip ws)),y]) (p:=fun p:Leap=>(!decide (wOf cells ws p.1 + wOf cells ws (mid p.1 p.2) < wOf cells ws p.2)) = true) (S:=fun o=>o = .rt (.bl false)) (fun o e=>by subst e; trivial) (v7 cells) [some (bB cells),some (lI ws),some (dD (cells.zip ws)),none] (fun p hp st zz3=>by
  obtain ⟨y,e⟩:=zz3
  subst e
  obtain ⟨m1,m2,m3,m4⟩:=Z1.mp hp
  have t1:(dOp gLt (dOp gAdd (dOp gGet (dVar 2) (dOp gIx (dVar 3) (dC (.int 0)))) (dOp gGet (dVar 2) (dFn (J6 t) (j2 (dOp gIx (dVar 3) (dC (.int 0))) (j2 (dOp gIx (dVar 3) (dC (.int 1))) aNil))))) (dOp gGet (dVar 2) (dOp gIx (dVar 3) (dC (.int 1))))) [some (bB cells),some (lI ws),some (dD (cells.zip ws)),some (lD p)] = .ok (.bl (decide (wOf cells ws p.1 + wOf cells ws (mid p.1 p.2) < wOf cells ws p.2))) :=
   op2 (a:=.int (wOf cells ws p.1 + wOf cells ws (mid p.1 p.2))) (b:=.int (wOf cells ws p.2)) (op2 (a:=.int (wOf cells ws p.1)) (b:=.int (wOf cells ws (mid p.1 p.2))) (op2 (a:=dD (cells.zip ws)) (b:=cD p.1) rfl (by simp) (kn5 g.1 m1)) (op2 (a:=dD (cells.zip ws)) (b:=cD (mid p.1 p.2)) rfl (by simp [kt0]) (kn5 g.1 m4)) rfl) (op2 (a:=dD (cells.zip ws)) (b:=cD p.2) rfl (by simp) (kn5 g.1 m3)) rfl
  refine ⟨[some (bB cells),some (lI ws),some (dD (cells.zip ws)),some (lD p)],rfl,fun h=>⟨_,?_,some (lD p),rfl⟩,fun h=>?_⟩
  ·rw [Bool.not_eq_true'] at h
   rw [if_f (by rw [t1,h])]; rfl
  ·rw [Bool.not_eq_true,Bool.not_eq_false'] at h
   rw [if_t (by rw [t1,h])]; rfl) ⟨none,rfl⟩
 have hit:iLst (dFn (jd7 t) (j2 (dVar 0) aNil)) [some (bB cells),some (lI ws),some (dD (cells.zip ws)),none] = .ok ((v7 cells).map lD):=by simp [kh5 t hl]
 unfold ke2
 refine W5 [some (bB cells),some (lI ws),none,none] ?_
 rw [v4 (st':=[some (bB cells),some (lI ws),none,none]) (by simp [hc]),
  v4 (st':=[some (bB cells),some (lI ws),some (dD (cells.zip ws)),none]) (ji2 (op2 (a:=cs2 cells) (b:=lI ws) (by simp) rfl (qk9 nd g.1)))]
 unfold js9
 by_cases h:∀ p ∈ v7 cells,(!decide (wOf cells ws p.1 + wOf cells ws (mid p.1 p.2) < wOf cells ws p.2)) = true
 ·obtain ⟨st',h1,_⟩:=loop.1 h
  rw [v4 (st':=st') (by rw [dFor_,hit]; exact h1),jy6.mp h]
  rfl
 ·have h1:=loop.2 h
  rw [kx0 (d:=.bl false) (by rw [dFor_,hit]; exact h1)]
  have:(v7 cells).all (fun p=>!decide (wOf cells ws p.1 + wOf cells ws (mid p.1 p.2) < wOf cells ws p.2)) = false:=by
   rw [Bool.eq_false_iff]; exact fun z=>h (jy6.mpr z)
  rw [this]
theorem qa7 (ns:List Int):gSum [.lst (ns.map D.int)] = .ok (.int ns.sum):=by
 unfold gSum
 dsimp only
 rw [jp1]
theorem kn4 {cells pegs:List Cell} {ws:List Int} (nd:cells.Nodup) (g:ko7 cells ws) (lp:pegs.length <= 50) (S:Stand cells pegs):jc9 t [bB cells,lI ws,cs2 pegs] = .ok (.int (wsum cells ws pegs)):=by
 have hc:=(kl3 t).1 g
 have hp:=(jp4 t (cells:=cells) lp).1 S
 unfold jc9
 refine W5 [some (bB cells),some (lI ws),some (cs2 pegs),none] ?_
 rw [v4 (st':=[some (bB cells),some (lI ws),some (cs2 pegs),none]) (by simp [hc]),
  v4 (st':=[some (bB cells),some (lI ws),some (cs2 pegs),none]) (by simp [hp]),
  v4 (st':=[some (bB cells),some (lI ws),some (cs2 pegs),some (dD (cells.zip ws))]) (ji2 (op2 (a:=cs2 cells) (b:=lI ws) (by simp) rfl (qk9 nd g.1)))]
 refine jg4 (fn1 (a:=.lst ((pegs.map (wOf cells ws)).map D.int)) ?_ (qa7 _))
 rw [List.map_map]
 refine jf5 (ds:=pegs.map cD) rfl (by simp; lia) ?_
 exact jm0 (S:=fun x=>[some (cD x),some (dD (cells.zip ws))]) (P:=fun st=>∃ y,st = [y,some (dD (cells.zip ws))]) pegs (fun x _=>⟨_,rfl⟩) (fun x _ st zz4=>by obtain ⟨y,e⟩:=zz4; subst e; rfl) (fun x _=>rfl) (fun x hx=>op2 (a:=dD (cells.zip ws)) (b:=cD x) rfl rfl (kn5 g.1 (S.2 x hx))) _ ⟨none,rfl⟩
theorem qp5 {cells:List Cell} {ws:List Int} (up:Rising cells) (hl:cells.length <= 30) (few:(v7 cells).length < 64) (hw:ws.length = cells.length):Y7 t [cs2 cells,lI ws] = .ok (.bl (js9 cells ws)):=by
 have loop:=jr5 (bind:=jj3 2 3) (F:=dSeq (dAsg 4 (dOp gAdd (dOp gIx (dVar 1) (dIdx (dVar 0) (dVar 2))) (dOp gIx (dVar 1) (dIdx (dVar 0) (dFn (k7 t) (j2 (z8 100 (j2 (v6 (dVar 2)) (j2 (v6 (dVar 3)) aNil))) aNil))))))
  (Dm.dIfS (dOp gLt (dVar 4) (dOp gIx (dVar 1) (dIdx (dVar 0) (dVar 3))))
  (dRet (dC (.bl false)))
  J2)) (f:=lD) (Q:=fun st=>∃ x y z,st = [some (cs2 cells),some (lI ws),x,y,z]) (p:=fun p:Leap=>(!decide (wOf cells ws p.1 + wOf cells ws (mid p.1 p.2) < wOf cells ws p.2)) = true) (S:=fun o=>o = .rt (.bl false)) (fun o e=>by subst e; trivial) (v7 cells) [some (cs2 cells),some (lI ws),none,none,none] (fun p hp st zz5=>by
  obtain ⟨x,y,z,e⟩:=zz5
  subst e
  obtain ⟨m1,m2,m3,m4⟩:=Z1.mp hp
  have hb:=kw6 t p
  unfold lD at hb
  have s1:dAsg 4 (dOp gAdd (dOp gIx (dVar 1) (dIdx (dVar 0) (dVar 2))) (dOp gIx (dVar 1) (dIdx (dVar 0) (dFn (k7 t) (j2 (z8 100 (j2 (v6 (dVar 2)) (j2 (v6 (dVar 3)) aNil))) aNil))))) [some (cs2 cells),some (lI ws),some (cD p.1),some (cD p.2),z] = .nx [some (cs2 cells),some (lI ws),some (cD p.1),some (cD p.2),some (.int (wOf cells ws p.1 + wOf cells ws (mid p.1 p.2)))] :=
   ji2 (op2 (a:=.int (wOf cells ws p.1)) (b:=.int (wOf cells ws (mid p.1 p.2))) (op2 (a:=lI ws) (b:=.int (cells.idxOf p.1:Nat)) rfl (ju4 rfl rfl m1) (ko8 hw m1)) (op2 (a:=lI ws) (b:=.int (cells.idxOf (mid p.1 p.2):Nat)) rfl (ju4 rfl (by simp [hb]) m4) (ko8 hw m4)) rfl)
  have t1:(dOp gLt (dVar 4) (dOp gIx (dVar 1) (dIdx (dVar 0) (dVar 3)))) [some (cs2 cells),some (lI ws),some (cD p.1),some (cD p.2),some (.int (wOf cells ws p.1 + wOf cells ws (mid p.1 p.2)))] = .ok (.bl (decide (wOf cells ws p.1 + wOf cells ws (mid p.1 p.2) < wOf cells ws p.2))) :=
   op2 (a:=.int (wOf cells ws p.1 + wOf cells ws (mid p.1 p.2))) (b:=.int (wOf cells ws p.2)) rfl (op2 (a:=lI ws) (b:=.int (cells.idxOf p.2:Nat)) rfl (ju4 rfl rfl m3) (ko8 hw m3)) rfl
  refine ⟨[some (cs2 cells),some (lI ws),some (cD p.1),some (cD p.2),z],rfl,fun h=>⟨[some (cs2 cells),some (lI ws),some (cD p.1),some (cD p.2),some (.int (wOf cells ws p.1 + wOf cells ws (mid p.1 p.2)))],?_,_,_,_,rfl⟩,fun h=>?_⟩
  ·rw [Bool.not_eq_true'] at h
   rw [v4 s1,if_f (by rw [t1,h])]; rfl
  ·rw [Bool.not_eq_true,Bool.not_eq_false'] at h
   rw [v4 s1,if_t (by rw [t1,h])]; rfl) ⟨none,none,none,rfl⟩
 have hit:iLst (dFn (J3 t) (j2 (dVar 0) aNil)) [some (cs2 cells),some (lI ws),none,none,none] = .ok ((v7 cells).map lD):=by simp [km9 t up hl few]
 unfold Y7
 refine W5 [some (cs2 cells),some (lI ws),none,none,none] ?_
 unfold js9
 by_cases h:∀ p ∈ v7 cells,(!decide (wOf cells ws p.1 + wOf cells ws (mid p.1 p.2) < wOf cells ws p.2)) = true
 ·obtain ⟨st',h1,_⟩:=loop.1 h
  rw [v4 (st':=st') (by rw [dFor_,hit]; exact h1),jy6.mp h]
  rfl
 ·have h1:=loop.2 h
  rw [kx0 (d:=.bl false) (by rw [dFor_,hit]; exact h1)]
  have:(v7 cells).all (fun p=>!decide (wOf cells ws p.1 + wOf cells ws (mid p.1 p.2) < wOf cells ws p.2)) = false:=by
   rw [Bool.eq_false_iff]; exact fun z=>h (jy6.mpr z)
  rw [this]
theorem kp4 (c:Int) {cells:List Cell} (hl:cells.length <= 500):∃ ws,U1 t [.int c,cs2 cells] = .ok (lI ws) /\ ko7 cells ws:=by
 obtain ⟨r,r0,r1,hr⟩:=jq2 t c 30 4 (by decide)
 obtain ⟨most,less,hm,hb1,hb2,hix⟩ : ∃ most less:Int,0 < most /\ less <= 1000 /\ most - 1 - less <= 1000 /\ gIx (.lst [.tup [.int 2,.int 0],.tup [.int 5,.int 1],.tup [.int 41,.int 10],.tup [.int 2001,.int 1000]]) (.int r) = .ok (.tup [.int most,.int less]):=by
  have:r = 0 \/ r = 1 \/ r = 2 \/ r = 3:=by lia
  rcases this with rfl | rfl | rfl | rfl
  ·exact ⟨2,0,by decide,by decide,by decide,rfl⟩
  ·exact ⟨5,1,by decide,by decide,by decide,rfl⟩
  ·exact ⟨41,10,by decide,by decide,by decide,rfl⟩
  ·exact ⟨2001,1000,by decide,by decide,by decide,rfl⟩
 have mx:∀ k:Nat,∃ v:Int,0 <= v /\ v < most /\ k9 t [.int c,.int (2 * (k:Int)),.int most] = .ok (.int v):=fun k=>jq2 t c (2 * (k:Int)) most hm
 let g:Nat -> Int:=fun k=>(mx k).choose - less
 refine ⟨(List.range cells.length).map g,?_,by simp,fun n hn=>?_⟩
 ·unfold U1
  refine W5 [some (.int c),some (cs2 cells),none,none] ?_
  rw [v4 (st':=[some (.int c),some (cs2 cells),some (.int most),some (.int less)]) (by
   have:(v6 (dOp gIx (Z2 100 (j2 (z8 100 (j2 (dC (.int 2)) (j2 (dC (.int 0)) aNil))) (j2 (z8 100 (j2 (dC (.int 5)) (j2 (dC (.int 1)) aNil))) (j2 (z8 100 (j2 (dC (.int 41)) (j2 (dC (.int 10)) aNil))) (j2 (z8 100 (j2 (dC (.int 2001)) (j2 (dC (.int 1000)) aNil))) aNil))))) (dFn (k9 t) (j2 (dVar 0) (j2 (dC (.int 30)) (j2 (dC (.int 4)) aNil)))))) [some (.int c),some (cs2 cells),none,none] = .ok (.tup [.int most,.int less]) :=
    qw1 (op2 (a:=.lst [.tup [.int 2,.int 0],.tup [.int 5,.int 1],.tup [.int 41,.int 10],.tup [.int 2001,.int 1000]]) (b:=.int r) (by simp) (fn3 (a:=.int c) (b:=.int 30) (c:=.int 4) rfl rfl rfl hr) hix) (by simp [noL,noLs])
   unfold ke3
   rw [this]
   rfl)]
  refine jg4 ?_
  unfold lI
  rw [List.map_map]
  refine jf5 (ds:=(List.range cells.length).map fun i=>.int (i:Nat)) ?_ (by simp; lia) ?_
  ·unfold iRng
   have:(j2 (dFn gLen (j2 (dVar 1) aNil)) aNil) [some (.int c),some (cs2 cells),some (.int most),some (.int less)] = .ok [.int (cells.length:Nat)]:=by simp
   rw [this]
   dsimp only
   rw [if_pos (by simp; lia)]
   rfl
  ·refine jm0 (S:=fun k:Nat=>[some (.int (k:Nat)),some (.int less),some (.int c),some (.int most)]) (P:=fun st=>∃ y,st = [y,some (.int less),some (.int c),some (.int most)]) (List.range cells.length) (fun x _=>⟨_,rfl⟩) (fun x _ st zz6=>by obtain ⟨y,e⟩:=zz6; subst e; rfl) (fun x _=>rfl) (fun k _=>?_) _ ⟨none,rfl⟩
   exact op2 (a:=.int (mx k).choose) (b:=.int less) (fn3 (a:=.int c) (b:=.int (2 * (k:Int))) (c:=.int most) rfl (op2 (a:=.int 2) (b:=.int (k:Nat)) rfl rfl (jv1 (by decide))) rfl (mx k).choose_spec.2.2) rfl rfl
 ·obtain ⟨k,_,rfl⟩:=List.mem_map.mp hn
  obtain ⟨h1,h2,_⟩:=(mx k).choose_spec
  show -1000 <= (mx k).choose - less /\ (mx k).choose - less <= 1000
  lia
end Pk
end T_MT07
section T_MR07
namespace Pk
open L2 Dm
variable (t:Adr)
theorem qb5 {cells:List Cell} {ws:List Int} (up:Rising cells) (hl:cells.length <= 30) (few:(v7 cells).length < 64) (hw:ws.length = cells.length) (hu:∀ n ∈ ws,n <= 1000):∃ ws',ja1 t [cs2 cells,lI ws] = .ok (lI ws') /\ ws'.length = cells.length /\ ∀ n ∈ ws',n <= 1000:=by
 let Q:DSt -> Prop:=fun st=>∃ ws' x3 x4 x5 x6 x7 x8,ws'.length = cells.length /\ (∀ n ∈ ws',n <= 1000) /\ st = [some (cs2 cells),some (lI ws),some (lI ws'),x3,x4,x5,x6,x7,x8]
 have inner:∀ st,Q st -> ∃ st',(dFor (iLst (dFn (J3 t) (j2 (dVar 0) aNil))) (jj3 4 5)
   (dSeq (ka5 6 7 8 (j2 (dIdx (dVar 0) (dVar 4)) (j2 (dIdx (dVar 0) (dFn (k7 t) (j2 (z8 100 (j2 (v6 (dVar 4)) (j2 (v6 (dVar 5)) aNil))) aNil))) (j2 (dIdx (dVar 0) (dVar 5)) aNil))))
   (Dm.dIfS (dOp gLt (dOp gAdd (dOp gIx (dVar 2) (dVar 6)) (dOp gIx (dVar 2) (dVar 7))) (dOp gIx (dVar 2) (dVar 8)))
   (dSet 2 (dVar 8) (dOp gAdd (dOp gIx (dVar 2) (dVar 6)) (dOp gIx (dVar 2) (dVar 7))))
   J2))) st = .nx st' /\ Q st':=fun st hst=>by
  obtain ⟨ws0,x3,x4,x5,x6,x7,x8,l0,u0,rfl⟩:=hst
  obtain ⟨st',h1,h2⟩:=jl4 (bind:=jj3 4 5) (F:=dSeq (ka5 6 7 8 (j2 (dIdx (dVar 0) (dVar 4)) (j2 (dIdx (dVar 0) (dFn (k7 t) (j2 (z8 100 (j2 (v6 (dVar 4)) (j2 (v6 (dVar 5)) aNil))) aNil))) (j2 (dIdx (dVar 0) (dVar 5)) aNil))))
   (Dm.dIfS (dOp gLt (dOp gAdd (dOp gIx (dVar 2) (dVar 6)) (dOp gIx (dVar 2) (dVar 7))) (dOp gIx (dVar 2) (dVar 8)))
   (dSet 2 (dVar 8) (dOp gAdd (dOp gIx (dVar 2) (dVar 6)) (dOp gIx (dVar 2) (dVar 7))))
   J2)) (f:=lD) (Q:=fun pre st=>Q st) (v7 cells) [] [some (cs2 cells),some (lI ws),some (lI ws0),x3,x4,x5,x6,x7,x8] (fun q p r e st hq=>by
    obtain ⟨ws',x3,x4,x5,x6,x7,x8,l',u',rfl⟩:=hq
    have hp:p ∈ v7 cells:=by rw [List.nil_append] at e; rw [e]; simp
    obtain ⟨m1,m2,m3,m4⟩:=Z1.mp hp
    have hb:=kw6 t p
    unfold lD at hb
    have s1:ka5 6 7 8 (j2 (dIdx (dVar 0) (dVar 4)) (j2 (dIdx (dVar 0) (dFn (k7 t) (j2 (z8 100 (j2 (v6 (dVar 4)) (j2 (v6 (dVar 5)) aNil))) aNil))) (j2 (dIdx (dVar 0) (dVar 5)) aNil))) [some (cs2 cells),some (lI ws),some (lI ws'),x3,some (cD p.1),some (cD p.2),x6,x7,x8] = .nx [some (cs2 cells),some (lI ws),some (lI ws'),x3,some (cD p.1),some (cD p.2),some (.int (cells.idxOf p.1:Nat)),some (.int (cells.idxOf (mid p.1 p.2):Nat)),some (.int (cells.idxOf p.2:Nat))]:=by
     have i1:=ju4 (fa:=dVar 0) (fb:=dVar 4) (st:=[some (cs2 cells),some (lI ws),some (lI ws'),x3,some (cD p.1),some (cD p.2),x6,x7,x8]) rfl rfl m1
     have i2:=ju4 (fa:=dVar 0) (fb:=dFn (k7 t) (j2 (z8 100 (j2 (v6 (dVar 4)) (j2 (v6 (dVar 5)) aNil))) aNil)) (st:=[some (cs2 cells),some (lI ws),some (lI ws'),x3,some (cD p.1),some (cD p.2),x6,x7,x8]) rfl (by simp [hb]) m4
     have i3:=ju4 (fa:=dVar 0) (fb:=dVar 5) (st:=[some (cs2 cells),some (lI ws),some (lI ws'),x3,some (cD p.1),some (cD p.2),x6,x7,x8]) rfl rfl m3
     unfold ka5
     simp only [aCons_,aNil_,i1,i2,i3,bind_ok]
     rfl
    have t0:∀ S,S = [some (cs2 cells),some (lI ws),some (lI ws'),x3,some (cD p.1),some (cD p.2),some (.int (cells.idxOf p.1:Nat)),some (.int (cells.idxOf (mid p.1 p.2):Nat)),some (.int (cells.idxOf p.2:Nat))] -> (dOp gAdd (dOp gIx (dVar 2) (dVar 6)) (dOp gIx (dVar 2) (dVar 7))) S = .ok (.int (wOf cells ws' p.1 + wOf cells ws' (mid p.1 p.2))) /\ (dOp gLt (dOp gAdd (dOp gIx (dVar 2) (dVar 6)) (dOp gIx (dVar 2) (dVar 7))) (dOp gIx (dVar 2) (dVar 8))) S = .ok (.bl (decide (wOf cells ws' p.1 + wOf cells ws' (mid p.1 p.2) < wOf cells ws' p.2))):=fun S hS=>by
     subst hS
     have a1:=op2 (g:=gAdd) (f1:=dOp gIx (dVar 2) (dVar 6)) (f2:=dOp gIx (dVar 2) (dVar 7)) (st:=[some (cs2 cells),some (lI ws),some (lI ws'),x3,some (cD p.1),some (cD p.2),some (.int (cells.idxOf p.1:Nat)),some (.int (cells.idxOf (mid p.1 p.2):Nat)),some (.int (cells.idxOf p.2:Nat))]) (a:=.int (wOf cells ws' p.1)) (b:=.int (wOf cells ws' (mid p.1 p.2))) (op2 (a:=lI ws') (b:=.int (cells.idxOf p.1:Nat)) rfl rfl (ko8 l' m1)) (op2 (a:=lI ws') (b:=.int (cells.idxOf (mid p.1 p.2):Nat)) rfl rfl (ko8 l' m4)) rfl
     exact ⟨a1,op2 a1 (op2 (a:=lI ws') (b:=.int (cells.idxOf p.2:Nat)) rfl rfl (ko8 l' m3)) rfl⟩
    obtain ⟨t1,t2⟩:=t0 _ rfl
    by_cases hlt:wOf cells ws' p.1 + wOf cells ws' (mid p.1 p.2) < wOf cells ws' p.2
    ·have hj:cells.idxOf p.2 < ws'.length:=by rw [l']; exact List.idxOf_lt_length_of_mem m3
     refine ⟨[some (cs2 cells),some (lI ws),some (lI ws'),x3,some (cD p.1),some (cD p.2),x6,x7,x8],[some (cs2 cells),some (lI ws),some (lI (ws'.set (cells.idxOf p.2) (wOf cells ws' p.1 + wOf cells ws' (mid p.1 p.2)))),x3,some (cD p.1),some (cD p.2),some (.int (cells.idxOf p.1:Nat)),some (.int (cells.idxOf (mid p.1 p.2):Nat)),some (.int (cells.idxOf p.2:Nat))],rfl,?_,ws'.set (cells.idxOf p.2) (wOf cells ws' p.1 + wOf cells ws' (mid p.1 p.2)),_,_,_,_,_,_,by simpa using l',fun n hn=>?_,rfl⟩
     ·rw [v4 s1,if_t (by rw [t2,decide_eq_true hlt])]
      unfold dSet
      rw [t1]
      have hix:ixN (ws'.map D.int).length ((cells.idxOf p.2:Nat):Int) = some (cells.idxOf p.2):=by
       unfold ixN
       rw [if_pos (by lia),if_pos (by simp; lia)]
       simp
      show (match ixN (ws'.map D.int).length ((cells.idxOf p.2:Nat):Int) with | some j=>Out.nx _ | none=>Out.bad) = _
      rw [hix]
      unfold lI
      rw [List.map_set]
      rfl
     ·rcases List.mem_or_eq_of_mem_set hn with h | h
      ·exact u' n h
      ·have:wOf cells ws' p.2 ∈ ws':=by
        unfold wOf
        rw [List.getElem?_eq_getElem hj]
        exact List.getElem_mem hj
       have:=u' _ this
       lia
    ·refine ⟨[some (cs2 cells),some (lI ws),some (lI ws'),x3,some (cD p.1),some (cD p.2),x6,x7,x8],[some (cs2 cells),some (lI ws),some (lI ws'),x3,some (cD p.1),some (cD p.2),some (.int (cells.idxOf p.1:Nat)),some (.int (cells.idxOf (mid p.1 p.2):Nat)),some (.int (cells.idxOf p.2:Nat))],rfl,?_,ws',_,_,_,_,_,_,l',u',rfl⟩
     rw [v4 s1,if_f (by rw [t2,decide_eq_false hlt])]
     rfl) ⟨ws0,x3,x4,x5,x6,x7,x8,l0,u0,rfl⟩
  refine ⟨st',?_,h2⟩
  rw [dFor_]
  have:iLst (dFn (J3 t) (j2 (dVar 0) aNil)) [some (cs2 cells),some (lI ws),some (lI ws0),x3,x4,x5,x6,x7,x8] = .ok ((v7 cells).map lD):=by simp [km9 t up hl few]
  rw [this]
  exact h1
 have rng:iRng (j2 (dFn gLen (j2 (dVar 0) aNil)) aNil) [some (cs2 cells),some (lI ws),some (lI ws),none,none,none,none,none,none] = .ok ((List.range cells.length).map fun i=>.int (i:Nat)):=by
  unfold iRng
  have:(j2 (dFn gLen (j2 (dVar 0) aNil)) aNil) [some (cs2 cells),some (lI ws),some (lI ws),none,none,none,none,none,none] = .ok [.int (cells.length:Nat)]:=by simp
  rw [this]
  dsimp only
  rw [if_pos (by simp; lia)]
  rfl
 obtain ⟨st',h1,h2⟩:=jl4 (bind:=Q6 3) (F:=dFor (iLst (dFn (J3 t) (j2 (dVar 0) aNil))) (jj3 4 5)
   (dSeq (ka5 6 7 8 (j2 (dIdx (dVar 0) (dVar 4)) (j2 (dIdx (dVar 0) (dFn (k7 t) (j2 (z8 100 (j2 (v6 (dVar 4)) (j2 (v6 (dVar 5)) aNil))) aNil))) (j2 (dIdx (dVar 0) (dVar 5)) aNil))))
   (Dm.dIfS (dOp gLt (dOp gAdd (dOp gIx (dVar 2) (dVar 6)) (dOp gIx (dVar 2) (dVar 7))) (dOp gIx (dVar 2) (dVar 8)))
   (dSet 2 (dVar 8) (dOp gAdd (dOp gIx (dVar 2) (dVar 6)) (dOp gIx (dVar 2) (dVar 7))))
   J2))) (f:=fun i:Nat=>D.int (i:Nat)) (Q:=fun _ st=>Q st) (List.range cells.length) [] [some (cs2 cells),some (lI ws),some (lI ws),none,none,none,none,none,none] (fun q k r e st hq=>by
    obtain ⟨ws',x3,x4,x5,x6,x7,x8,l',u',rfl⟩:=hq
    obtain ⟨st',i1,i2⟩:=inner [some (cs2 cells),some (lI ws),some (lI ws'),some (.int (k:Nat)),x4,x5,x6,x7,x8] ⟨ws',_,_,_,_,_,_,l',u',rfl⟩
    exact ⟨_,st',rfl,i1,i2⟩) ⟨ws,none,none,none,none,none,none,hw,hu,rfl⟩
 obtain ⟨ws',x3,x4,x5,x6,x7,x8,l',u',rfl⟩:=h2
 refine ⟨ws',?_,l',u'⟩
 unfold ja1
 refine W5 [some (cs2 cells),some (lI ws),none,none,none,none,none,none,none] ?_
 rw [v4 (st':=[some (cs2 cells),some (lI ws),some (lI ws),none,none,none,none,none,none]) (by simp [jo3,lI,qd1]),
  v4 (by rw [dFor_,rng]; exact h1)]
 rfl
end Pk
end T_MR07
section T_MK07
namespace Pk
open L2 Dm
variable (t:Adr)
theorem qu0 (neg:Bool) (x a b:Cell):gIn neg (cD x) (.tup [cD a,cD b]) = .ok (.bl (if neg then !(decide (a = x) || decide (b = x)) else (decide (a = x) || decide (b = x)))):=by
 unfold gIn
 dsimp only
 rw [if_pos (by simp [Q0,deps])]
 simp
theorem qd5 {pegs:List Cell} (p:Leap) (hl:pegs.length <= 60):W8 t [cs2 pegs,lD p] = .ok (cs2 (Q3 pegs p)):=by
 have hb:=kt0 t p.1 p.2
 have g1:(jf7 (iLst (dVar 0)) 1 [2] (Q6 0) (dOp (gIn true) (dVar 0) (dVar 1)) (v6 (dVar 0))) [some (cs2 pegs),some (lD p),some (.tup [cD p.1,cD (mid p.1 p.2)])] = .ok (cs2 (left pegs p)):=by
  refine jf5 (ds:=pegs.map cD) (by simp) (by simp; lia) ?_
  refine ji7 (S:=fun x=>[some (cD x),some (.tup [cD p.1,cD (mid p.1 p.2)])]) (P:=fun st=>∃ y,st = [y,some (.tup [cD p.1,cD (mid p.1 p.2)])]) pegs (fun x _=>⟨_,rfl⟩) (fun x _ st zz1=>by obtain ⟨y,e⟩:=zz1; subst e; rfl) (fun x _=>?_) (fun x _ _=>by simp) _ ⟨none,rfl⟩
  refine op2 (a:=cD x) (b:=.tup [cD p.1,cD (mid p.1 p.2)]) rfl rfl ?_
  rw [qu0]
  have e1:decide (p.1 = x) = decide (x = p.1):=by rw [Bool.eq_iff_iff]; simp [eq_comm]
  have e2:decide (mid p.1 p.2 = x) = decide (x = mid p.1 p.2):=by rw [Bool.eq_iff_iff]; simp [eq_comm]
  rw [e1,e2]
  cases decide (x = p.1) <;> cases decide (x = mid p.1 p.2) <;> rfl
 have hle:(left pegs p).length <= pegs.length:=List.length_filter_le ..
 unfold W8
 refine W5 [some (cs2 pegs),some (lD p),none] ?_
 rw [v4 (st':=[some (cs2 pegs),some (lD p),some (.tup [cD p.1,cD (mid p.1 p.2)])]) (by simp [hb])]
 refine jg4 (fn1 (a:=cs2 (left pegs p ++ [p.2])) (op2 (a:=cs2 (left pegs p)) (b:=cs2 [p.2]) g1 (by simp) (qj5 (by simp; lia))) ?_)
 exact qm5 (by simp; lia)
theorem km0 {cells pegs:List Cell} {row:List Leap} (hl:cells.length <= 200) (lp:pegs.length <= 50) (S:Stand cells pegs) (ok:jx7 cells pegs row):jg1 t [bB cells,cs2 pegs,ls2 row] = .ok (cs2 (je3 pegs row)):=by
 have hc:=(jp4 t (cells:=cells) lp).1 S
 obtain ⟨st',h1,y,z,h2⟩:=jl4 (bind:=jj3 5 6) (F:=dSeq (Dm.dIfS (dOr (dOp (gIn true) (dVar 6) (dVar 4)) (dNot (dFn (Q1 t) (j2 (dVar 3) (j2 (dVar 6) aNil)))))
  dBad
  J2)
  (dAsg 3 (dFn (W8 t) (j2 (dVar 3) (j2 (dVar 6) aNil))))) (f:=fun p:Leap × Nat=>D.tup [.int (p.2:Nat),lD p.1]) (Q:=fun pre st=>∃ y z,st = [some (bB cells),some (cs2 pegs),some (ls2 row),some (cs2 (je3 pegs (pre.map (·.1)))),some (ls2 (v7 cells)),y,z]) row.zipIdx [] [some (bB cells),some (cs2 pegs),some (ls2 row),some (cs2 pegs),some (ls2 (v7 cells)),none,none] (fun q x r e st zz2=>by
  obtain ⟨y,z,hy⟩:=zz2
  subst hy
  rw [List.nil_append] at e
  have e':row = q.map (·.1) ++ x.1 :: r.map (·.1):=by
   have:=congrArg (List.map (·.1)) e
   rw [List.zipIdx_map_fst] at this
   simpa using this
  rw [e'] at ok
  obtain ⟨mem,ok1⟩:=kk6 ok
  have hw:=jo7 S.1 S.2 ok1
  generalize hW:je3 pegs (q.map (·.1)) = W at hw mem
  obtain ⟨m1,m2,m3,m4,m5⟩:=kh7 mem
  have hcan:=va3 t W x.1
  rw [m5] at hcan
  have hin:x.1 ∈ v7 cells:=by unfold opn at mem; exact (List.mem_filter.mp mem).1
  have hbh:=qd5 t (pegs:=W) x.1 (by lia)
  refine ⟨[some (bB cells),some (cs2 pegs),some (ls2 row),some (cs2 W),some (ls2 (v7 cells)),some (.int (x.2:Nat)),some (lD x.1)],[some (bB cells),some (cs2 pegs),some (ls2 row),some (cs2 (Q3 W x.1)),some (ls2 (v7 cells)),some (.int (x.2:Nat)),some (lD x.1)],rfl,?_,_,_,by rw [List.map_append,List.map_cons,List.map_nil,js0,hW]⟩
  rw [v4 (st':=[some (bB cells),some (cs2 pegs),some (ls2 row),some (cs2 W),some (ls2 (v7 cells)),some (.int (x.2:Nat)),some (lD x.1)]) (by
   rw [if_f (qf8 (op2 (a:=lD x.1) (b:=ls2 (v7 cells)) rfl rfl (by rw [vb2]; simp [hin])) (qe7 (b:=true) (fn2 (a:=cs2 W) (b:=lD x.1) rfl rfl hcan)))]; rfl)]
  exact ji2 (fn2 (a:=cs2 W) (b:=lD x.1) rfl rfl hbh)) ⟨none,none,rfl⟩
 rw [List.nil_append,List.zipIdx_map_fst] at h2
 subst h2
 unfold jg1
 refine W5 [some (bB cells),some (cs2 pegs),some (ls2 row),none,none,none,none] ?_
 rw [v4 (st':=[some (bB cells),some (cs2 pegs),some (ls2 row),none,none,none,none]) (by simp [hc]),
  v4 (st':=[some (bB cells),some (cs2 pegs),some (ls2 row),some (cs2 pegs),none,none,none]) (by simp),
  v4 (st':=[some (bB cells),some (cs2 pegs),some (ls2 row),some (cs2 pegs),some (ls2 (v7 cells)),none,none]) (by simp [kh5 t hl]),
  v4 (by
   rw [dFor_]
   have:iEnu (dVar 2) [some (bB cells),some (cs2 pegs),some (ls2 row),some (cs2 pegs),some (ls2 (v7 cells)),none,none] = .ok (row.zipIdx.map fun p:Leap × Nat=>D.tup [.int (p.2:Nat),lD p.1]):=by
    unfold iEnu
    exact congrArg R.ok (kz1 lD row)
   rw [this]
   exact h1)]
 rfl
theorem qo1 {cells pegs:List Cell} {p:Leap} (hl:cells.length <= 200) (lp:pegs.length <= 50) (S:Stand cells pegs) (ok:p ∈ opn cells pegs):jn6 t [bB cells,cs2 pegs,lD p] = .ok (cs2 (Q3 pegs p)):=by
 have h:=km0 t (row:=[p]) hl lp S ⟨ok,trivial⟩
 unfold jn6
 exact W5 [some (bB cells),some (cs2 pegs),some (lD p)] (jg4 (fn3 (a:=bB cells) (b:=cs2 pegs) (c:=ls2 [p]) rfl rfl (by simp) h))
end Pk
end T_MK07
section T_M07
namespace Pk
open L2 Dm
variable (t:Adr)
theorem ki0 {l:List Cell} {c:Cell} (h:c ∈ l):wOf l (l.map fun _=>(1:Int)) c = 1:=by
 unfold wOf
 have hi:=List.idxOf_lt_length_of_mem h
 rw [List.getElem?_map,List.getElem?_eq_getElem hi]; rfl
theorem qf3 (l:List Cell):js9 l (l.map fun _=>(1:Int)) = true:=by
 unfold js9
 rw [List.all_eq_true]
 intro p hp
 obtain ⟨m1,m2,m3,m4⟩:=Z1.mp hp
 rw [ki0 m1,ki0 m3,ki0 m4]
 rfl
theorem kq6 {ns:List Int} (h:ns ≠ []):gMin [lI ns] = .ok (.int (minI ns)):=by
 unfold gMin lI
 dsimp only
 rw [jp1]
 cases ns with
 | nil=>exact absurd rfl h
 | cons n ns=>rfl
theorem m_law (ns:List Int):kp3 t [iL ns] = .ok (.bl true):=by
 obtain ⟨l,hl,dl⟩:=qn2 t ns 24 (by decide)
 have hl:J0 t [iL ns,.int 24] = .ok (cs2 l):=hl
 obtain ⟨c2,hat2⟩ : ∃ c:Int,k8 t [iL ns,.int 2] = .ok (.int c):=⟨_,m_at t ns 2⟩
 obtain ⟨c3,hat3⟩ : ∃ c:Int,k8 t [iL ns,.int 3] = .ok (.int c):=⟨_,m_at t ns 3⟩
 obtain ⟨c4,hat4⟩ : ∃ c:Int,k8 t [iL ns,.int 4] = .ok (.int c):=⟨_,m_at t ns 4⟩
 have ll:=dl.le
 have lpos:=dl.pos
 obtain ⟨g,hg,sub⟩:=va4 t c2 (l:=l) dl.pos (by lia)
 have Sg:Stand l g:=.sub dl.up sub
 have lg:g.length <= 24:=Nat.le_trans sub.length_le ll
 have hB:=ql7 t dl
 obtain ⟨w0,hw0,gw0⟩:=kp4 t c3 (cells:=l) (by lia)
 obtain ⟨w1,hw1,lw1,uw1⟩:=qb5 t dl.up (by lia) dl.few gw0.1 (fun n hn=>(gw0.2 n hn).2)
 have hf1:=qp5 t dl.up (by lia) dl.few lw1
 have ne1:w1 ≠ []:=fun z=>by rw [z] at lw1; simp at lw1; lia
 have hmin:=kq6 ne1
 obtain ⟨ws,gw,fw,hws⟩ : ∃ ws,ko7 l ws /\ js9 l ws = true /\ Dm.dIfS (dOr (dNot (dFn (Y7 t) (j2 (dVar 1) (j2 (dVar 3) aNil)))) (dOp gLt (dFn gMin (j2 (dVar 3) aNil)) (dUn gNeg (dC (.int 1000)))))
   (dAsg 3 (jf7 (iLst (dVar 1)) 1 [] (Q6 0) (dC (.bl true)) (dC (.int 1))))
   J2 [some (iL ns),some (cs2 l),some (bB l),some (lI w1),none,none,none,none,none,none,none] = .nx [some (iL ns),some (cs2 l),some (bB l),some (lI ws),none,none,none,none,none,none,none]:=by
  by_cases hgood:js9 l w1 = true /\ ¬ minI w1 < -1000
  ·refine ⟨w1,⟨lw1,fun n hn=>⟨?_,uw1 n hn⟩⟩,hgood.1,?_⟩
   ·have:=qr3 hn
    have:=hgood.2
    lia
   ·rw [if_f (qf8 (qe7 (b:=true) (fn2 (a:=cs2 l) (b:=lI w1) rfl rfl (by rw [hf1,hgood.1]))) (op2 (a:=.int (minI w1)) (b:=.int (-1000)) (fn1 (a:=lI w1) rfl hmin) rfl (by rw [gLt_,decide_eq_false hgood.2])))]
    rfl
  ·refine ⟨l.map fun _=>1,⟨by simp,fun n hn=>by obtain ⟨_,_,rfl⟩:=List.mem_map.mp hn; decide⟩,qf3 l,?_⟩
   have tst:(dOr (dNot (dFn (Y7 t) (j2 (dVar 1) (j2 (dVar 3) aNil)))) (dOp gLt (dFn gMin (j2 (dVar 3) aNil)) (dUn gNeg (dC (.int 1000))))) [some (iL ns),some (cs2 l),some (bB l),some (lI w1),none,none,none,none,none,none,none] = .ok (.bl true):=by
    by_cases h1:js9 l w1 = true
    ·have h2:minI w1 < -1000:=Classical.byContradiction fun z=>hgood ⟨h1,z⟩
     exact qf8 (qe7 (b:=true) (fn2 (a:=cs2 l) (b:=lI w1) rfl rfl (by rw [hf1,h1]))) (op2 (a:=.int (minI w1)) (b:=.int (-1000)) (fn1 (a:=lI w1) rfl hmin) rfl (by rw [gLt_,decide_eq_true h2]))
    ·rw [Bool.not_eq_true] at h1
     exact vc8 (qe7 (b:=false) (fn2 (a:=cs2 l) (b:=lI w1) rfl rfl (by rw [hf1,h1])))
   rw [if_t tst]
   refine (ji2 (d:=lI (l.map fun _=>1)) ?_).trans rfl
   unfold lI
   rw [List.map_map]
   refine jf5 (ds:=l.map cD) rfl (by simp; lia) ?_
   exact jm0 (S:=fun x=>[some (cD x)]) (P:=fun st=>∃ y,st = [y]) l (fun x _=>⟨_,rfl⟩) (fun x _ st zz1=>by obtain ⟨y,e⟩:=zz1; subst e; rfl) (fun x _=>rfl) (fun x _=>rfl) _ ⟨none,rfl⟩
 have hfair:=qw2 t (by lia) dl.up.nodup gw
 rw [fw] at hfair
 unfold kp3
 refine W5 [some (iL ns),none,none,none,none,none,none,none,none,none,none] ?_
 rw [v4 (st':=[some (iL ns),some (cs2 l),none,none,none,none,none,none,none,none,none]) (by simp [hl]),
  v4 (st':=[some (iL ns),some (cs2 l),some (bB l),none,none,none,none,none,none,none,none]) (by simp [hB]),
  v4 (st':=[some (iL ns),some (cs2 l),some (bB l),some (lI w1),none,none,none,none,none,none,none]) (ji2 (fn2 (a:=cs2 l) (b:=lI w0) rfl (fn2 (a:=.int c3) (b:=cs2 l) (fn2 (a:=iL ns) (b:=.int 3) rfl rfl hat3) rfl hw0) hw1)),
  v4 hws,
  v4 (st':=[some (iL ns),some (cs2 l),some (bB l),some (lI ws),none,none,none,none,none,none,none]) (by
   rw [if_f (op2 (a:=.bl true) (b:=.bl true) (fn2 (a:=bB l) (b:=lI ws) rfl rfl hfair) rfl rfl)]; rfl),
  v4 (st':=[some (iL ns),some (cs2 l),some (bB l),some (lI ws),some (cs2 g),none,none,none,none,none,none]) (by simp [hat2,hg]),
  v4 (st':=[some (iL ns),some (cs2 l),some (bB l),some (lI ws),some (cs2 g),some (cs2 g),none,none,none,none,none]) (by simp),
  v4 (st':=[some (iL ns),some (cs2 l),some (bB l),some (lI ws),some (cs2 g),some (cs2 g),some (ls2 []),none,none,none,none]) (by simp)]
 have rng:iRng (j2 (dC (.int 15)) aNil) [some (iL ns),some (cs2 l),some (bB l),some (lI ws),some (cs2 g),some (cs2 g),some (ls2 []),none,none,none,none] = .ok ((List.range 15).map fun i=>.int (i:Nat)):=by
  unfold iRng
  rfl
 obtain ⟨st',h1,row,x7,x8,x9,x10,ok,lr,h2⟩:=jl4 (bind:=Q6 7) (F:=dSeq (dAsg 8 (dFn (W4 t) (j2 (dVar 2) (j2 (dVar 5) aNil))))
  (Dm.dIfS (dOp gGt (dFn gLen (j2 (dVar 8) aNil)) (dC (.int 0)))
  (dSeq (dAsg 9 (v6 (dOp gIx (dVar 8) (dFn (k9 t) (j2 (dFn (k8 t) (j2 (dVar 0) (j2 (dC (.int 4)) aNil))) (j2 (dVar 7) (j2 (dFn gLen (j2 (dVar 8) aNil)) aNil)))))))
  (dSeq (dAsg 10 (dFn (jn6 t) (j2 (dVar 2) (j2 (dVar 5) (j2 (dVar 9) aNil)))))
  (dSeq (Dm.dIfS (dOr (dOp gGt (dFn (jc9 t) (j2 (dVar 2) (j2 (dVar 3) (j2 (dVar 10) aNil)))) (dFn (jc9 t) (j2 (dVar 2) (j2 (dVar 3) (j2 (dVar 5) aNil))))) (dOp (gEq true) (dFn gLen (j2 (dVar 10) aNil)) (dOp gSub (dFn gLen (j2 (dVar 5) aNil)) (dC (.int 1)))))
  (dRet (dC (.bl false)))
  J2)
  (dSeq (Dm.dIfS (dOp (gEq true) (dFn (Y8 t) (j2 (dVar 2) (j2 (dVar 10) aNil))) (dFn (Y8 t) (j2 (dVar 2) (j2 (dVar 5) aNil))))
  (dRet (dC (.bl false)))
  J2)
  (dSeq (dApp 6 (v6 (dVar 9)))
  (dAsg 5 (dVar 10)))))))
  J2)) (f:=fun i:Nat=>D.int (i:Nat)) (Q:=fun pre st=>∃ row x7 x8 x9 x10,jx7 l g row /\ row.length <= pre.length /\ st = [some (iL ns),some (cs2 l),some (bB l),some (lI ws),some (cs2 g),some (cs2 (je3 g row)),some (ls2 row),x7,x8,x9,x10]) (List.range 15) [] [some (iL ns),some (cs2 l),some (bB l),some (lI ws),some (cs2 g),some (cs2 g),some (ls2 []),none,none,none,none] (fun q k r e st zz2=>by
  obtain ⟨row,x7,x8,x9,x10,ok,lr,hy⟩:=zz2
  subst hy
  rw [List.nil_append] at e
  have hq:q.length <= 15:=by
   have:=congrArg List.length e
   simp at this; lia
  have hw:=jo7 Sg.1 Sg.2 ok
  have lw:(je3 g row).length <= 24:=by lia
  have SW:Stand l (je3 g row):=⟨hw.1,hw.2.1⟩
  generalize hW:je3 g row = W at hw lw SW
  have ho:=qx5 t (by lia) (by lia) SW
  generalize hO:opn l W = O at ho
  have s1:dAsg 8 (dFn (W4 t) (j2 (dVar 2) (j2 (dVar 5) aNil))) [some (iL ns),some (cs2 l),some (bB l),some (lI ws),some (cs2 g),some (cs2 W),some (ls2 row),some (.int (k:Nat)),x8,x9,x10] = .nx [some (iL ns),some (cs2 l),some (bB l),some (lI ws),some (cs2 g),some (cs2 W),some (ls2 row),some (.int (k:Nat)),some (ls2 O),x9,x10]:=ji2 (fn2 (a:=bB l) (b:=cs2 W) rfl rfl ho)
  by_cases hO0:0 < O.length
  ·obtain ⟨m,m0,m1,hmx⟩:=jq2 t c4 k O.length (by lia)
   obtain ⟨m,rfl⟩:=Int.eq_ofNat_of_zero_le m0
   have hm':m < O.length:=by lia
   have hix:gIx (ls2 O) (.int (m:Int)) = .ok (lD O[m]):=jy0 (by rw [List.getElem?_map,List.getElem?_eq_getElem hm']; rfl)
   have hmem:O[m] ∈ opn l W:=by rw [hO]; exact List.getElem_mem hm'
   generalize hp:O[m] = p at hix hmem
   obtain ⟨p1,p2,p3,p4,p5⟩:=kh7 hmem
   have hlp:=qo1 t (by lia) (by lia) SW hmem
   have ok2:jx7 l g (row ++ [p]):=qb1 ok (by rw [hW]; exact hmem)
   have hw2:=jo7 Sg.1 Sg.2 ok2
   rw [js0,hW] at hw2
   have SV:Stand l (Q3 W p):=⟨hw2.1,hw2.2.1⟩
   have hbl:=ju8 SW.1.nodup p5 p2
   have cls:=jv3 SW.1.nodup p5 p2
   have wl:=kg5 (cells:=l) (ws:=ws) SW.1.nodup p5 p2 (by
    unfold js9 at fw
    rw [List.all_eq_true] at fw
    have:=fw p (Z1.mpr ⟨p1,p2,p3,p4⟩)
    simpa using this)
   generalize hV:Q3 W p = V at hlp hw2 SV hbl cls wl
   have hwV:=kn4 t dl.up.nodup gw (pegs:=V) (by lia) SV
   have hwW:=kn4 t dl.up.nodup gw (pegs:=W) (by lia) SW
   have hcV:=kr5 t (cells:=l) (pegs:=V) (by lia) SV
   have hcW:=kr5 t (cells:=l) (pegs:=W) (by lia) SW
   refine ⟨[some (iL ns),some (cs2 l),some (bB l),some (lI ws),some (cs2 g),some (cs2 W),some (ls2 row),some (.int (k:Nat)),x8,x9,x10],[some (iL ns),some (cs2 l),some (bB l),some (lI ws),some (cs2 g),some (cs2 V),some (ls2 (row ++ [p])),some (.int (k:Nat)),some (ls2 O),some (lD p),some (cs2 V)],rfl,?_,row ++ [p],_,_,_,_,ok2,by simpa using lr,by rw [js0,hW,hV]⟩
   rw [v4 s1,if_t (op2 (a:=.int (O.length:Nat)) (b:=.int 0) (by simp) rfl (by rw [gGt_,decide_eq_true (by lia)]))]
   rw [v4 (st':=[some (iL ns),some (cs2 l),some (bB l),some (lI ws),some (cs2 g),some (cs2 W),some (ls2 row),some (.int (k:Nat)),some (ls2 O),some (lD p),x10]) (ji2 (qw1 (op2 (a:=ls2 O) (b:=.int (m:Int)) rfl (fn3 (a:=.int c4) (b:=.int (k:Nat)) (c:=.int (O.length:Nat)) (fn2 (a:=iL ns) (b:=.int 4) rfl rfl hat4) rfl (by simp) hmx) hix) (noL_lD _))),
    v4 (st':=[some (iL ns),some (cs2 l),some (bB l),some (lI ws),some (cs2 g),some (cs2 W),some (ls2 row),some (.int (k:Nat)),some (ls2 O),some (lD p),some (cs2 V)]) (ji2 (fn3 (a:=bB l) (b:=cs2 W) (c:=lD p) rfl rfl rfl hlp))]
   rw [v4 (st':=[some (iL ns),some (cs2 l),some (bB l),some (lI ws),some (cs2 g),some (cs2 W),some (ls2 row),some (.int (k:Nat)),some (ls2 O),some (lD p),some (cs2 V)]) (by
    rw [if_f (qf8 (op2 (a:=.int (wsum l ws V)) (b:=.int (wsum l ws W)) (fn3 (a:=bB l) (b:=lI ws) (c:=cs2 V) rfl rfl rfl hwV) (fn3 (a:=bB l) (b:=lI ws) (c:=cs2 W) rfl rfl rfl hwW) (by rw [gGt_,decide_eq_false (by lia)])) (op2 (a:=.int (V.length:Nat)) (b:=.int ((W.length:Nat) - 1)) (by simp) (op2 (a:=.int (W.length:Nat)) (b:=.int 1) (by simp) rfl rfl) (by rw [jd5,decide_eq_true (by lia)]; rfl)))]; rfl)]
   rw [v4 (st':=[some (iL ns),some (cs2 l),some (bB l),some (lI ws),some (cs2 g),some (cs2 W),some (ls2 row),some (.int (k:Nat)),some (ls2 O),some (lD p),some (cs2 V)]) (by
    rw [if_f (op2 (a:=clsD V) (b:=clsD W) (fn2 (a:=bB l) (b:=cs2 V) rfl rfl hcV) (fn2 (a:=bB l) (b:=cs2 W) rfl rfl hcW) (by rw [qi2,decide_eq_true cls]; rfl))]; rfl)]
   rw [v4 (st':=[some (iL ns),some (cs2 l),some (bB l),some (lI ws),some (cs2 g),some (cs2 W),some (ls2 (row ++ [p])),some (.int (k:Nat)),some (ls2 O),some (lD p),some (cs2 V)]) (by
    have:row.length <= 1000:=by lia
    simp [dApp,this])]
   rfl
  ·refine ⟨[some (iL ns),some (cs2 l),some (bB l),some (lI ws),some (cs2 g),some (cs2 W),some (ls2 row),some (.int (k:Nat)),x8,x9,x10],[some (iL ns),some (cs2 l),some (bB l),some (lI ws),some (cs2 g),some (cs2 W),some (ls2 row),some (.int (k:Nat)),some (ls2 O),x9,x10],rfl,?_,row,_,_,_,_,ok,by simp; lia,by rw [hW]⟩
   rw [v4 s1,if_f (op2 (a:=.int (O.length:Nat)) (b:=.int 0) (by simp) rfl (by rw [gGt_,decide_eq_false (by lia)]))]; rfl) ⟨[],_,_,_,_,trivial,by simp,rfl⟩
 subst h2
 rw [v4 (by rw [dFor_,rng]; exact h1)]
 have hwk:=km0 t (cells:=l) (row:=row) (by lia) (by lia) Sg ok
 exact jg4 (op2 (a:=cs2 (je3 g row)) (b:=cs2 (je3 g row)) (fn3 (a:=bB l) (b:=cs2 g) (c:=ls2 row) rfl rfl rfl hwk) rfl (by rw [kq5]; simp))
end Pk
end T_M07
section T_K07z
open PySem PySem.W PyProof.Rows
set_option maxRecDepth 100000 in
set_option maxHeartbeats 0 in
theorem PySem.Challenge.cw_pegleap_k07_whole_never_heavier_holds : PySem.Challenge.rw_pegleap_k07_whole_never_heavier.Holds := by
  w_on; o_law; z_head; (case hw => w_witness2)
  k_fill
  refine Pk.walkX (l := PySem.Challenge.rw_pegleap_k07_whole_never_heavier) rfl rfl (fun _ => by kernel_rfl) ?F
  case F =>
    intro w mg fa h KX G hmg
    refine Pk.fn_mk (h := h) hmg ?T (fun t ns hl => Pk.m_law t ns)
    refine' Pk.txt_mk KX G ?a_is_rising ?l_is_rising ?c_is_rising ?k_is_rising ?a_is_cell ?l_is_cell ?c_is_cell ?k_is_cell ?a_check_cells ?l_check_cells ?c_check_cells ?k_check_cells ?a_check_pegs ?l_check_pegs ?c_check_pegs ?k_check_pegs ?a_two_apart ?l_two_apart ?c_two_apart ?k_two_apart ?a_between ?l_between ?c_between ?k_between ?a_leaps ?l_leaps ?c_leaps ?k_leaps ?a_can_be_done ?l_can_be_done ?c_can_be_done ?k_can_be_done ?a_pegs_behind ?l_pegs_behind ?c_pegs_behind ?k_pegs_behind ?a_open_leaps ?l_open_leaps ?c_open_leaps ?k_open_leaps ?a_walked ?l_walked ?c_walked ?k_walked ?a_leapt ?l_leapt ?c_leapt ?k_leapt ?a_odd_on ?l_odd_on ?c_odd_on ?k_odd_on ?a_class_of ?l_class_of ?c_class_of ?k_class_of ?a_check_weights ?l_check_weights ?c_check_weights ?k_check_weights ?a_fair ?l_fair ?c_fair ?k_fair ?a_weight ?l_weight ?c_weight ?k_weight ?a__law_cell_at ?l__law_cell_at ?c__law_cell_at ?k__law_cell_at ?a__law_mix ?l__law_mix ?c__law_mix ?k__law_mix ?a__law_cells_by ?l__law_cells_by ?c__law_cells_by ?k__law_cells_by ?a__law_pegs_by ?l__law_pegs_by ?c__law_pegs_by ?k__law_pegs_by ?a__law_between ?l__law_between ?c__law_between ?k__law_between ?a__law_leaps ?l__law_leaps ?c__law_leaps ?k__law_leaps ?a__law_weights_by ?l__law_weights_by ?c__law_weights_by ?k__law_weights_by ?a__law_raised ?l__law_raised ?c__law_raised ?k__law_raised ?a__law_fair ?l__law_fair ?c__law_fair ?k__law_fair ?a_law ?l_law ?c_law ?k_law ?m_PegError ?m_BadBoard ?m_BadPegs ?m_NoLeap ?m_BadWeights ?m_Board ?e_BadBoard ?e_BadPegs ?e_BadWeights ?z_abs ?z_dict ?z_enumerate ?z_len ?z_list ?z_min ?z_range ?z_set ?z_sorted ?z_sum ?z_zip ?g_COLOURS ?g_LAST ?g_LEAST ?g_MOST ?g_MOST_CELLS ?aI_ ?iI_ ?lI_ ?cI_ ?kI_ ?pgB ?hdB ?poB ?saB ?mkB ?kcB ?naB
    (case a_is_rising => k_is)
    (case l_is_rising => k_is)
    (case c_is_rising => k_is)
    (case k_is_rising => k_is)
    (case a_is_cell => k_is)
    (case l_is_cell => k_is)
    (case c_is_cell => k_is)
    (case k_is_cell => k_is)
    (case a_check_cells => k_is)
    (case l_check_cells => k_is)
    (case c_check_cells => k_is)
    (case k_check_cells => k_is)
    (case a_check_pegs => k_is)
    (case l_check_pegs => k_is)
    (case c_check_pegs => k_is)
    (case k_check_pegs => k_is)
    (case a_two_apart => k_is)
    (case l_two_apart => k_is)
    (case c_two_apart => k_is)
    (case k_two_apart => k_is)
    (case a_between => k_is)
    (case l_between => k_is)
    (case c_between => k_is)
    (case k_between => k_is)
    (case a_leaps => k_is)
    (case l_leaps => k_is)
    (case c_leaps => k_is)
    (case k_leaps => k_is)
    (case a_can_be_done => k_is)
    (case l_can_be_done => k_is)
    (case c_can_be_done => k_is)
    (case k_can_be_done => k_is)
    (case a_pegs_behind => k_is)
    (case l_pegs_behind => k_is)
    (case c_pegs_behind => k_is)
    (case k_pegs_behind => k_is)
    (case a_open_leaps => k_is)
    (case l_open_leaps => k_is)
    (case c_open_leaps => k_is)
    (case k_open_leaps => k_is)
    (case a_walked => k_is)
    (case l_walked => k_is)
    (case c_walked => k_is)
    (case k_walked => k_is)
    (case a_leapt => k_is)
    (case l_leapt => k_is)
    (case c_leapt => k_is)
    (case k_leapt => k_is)
    (case a_odd_on => k_is)
    (case l_odd_on => k_is)
    (case c_odd_on => k_is)
    (case k_odd_on => k_is)
    (case a_class_of => k_is)
    (case l_class_of => k_is)
    (case c_class_of => k_is)
    (case k_class_of => k_is)
    (case a_check_weights => k_is)
    (case l_check_weights => k_is)
    (case c_check_weights => k_is)
    (case k_check_weights => k_is)
    (case a_fair => k_is)
    (case l_fair => k_is)
    (case c_fair => k_is)
    (case k_fair => k_is)
    (case a_weight => k_is)
    (case l_weight => k_is)
    (case c_weight => k_is)
    (case k_weight => k_is)
    (case a__law_cell_at => k_is)
    (case l__law_cell_at => k_is)
    (case c__law_cell_at => k_is)
    (case k__law_cell_at => k_is)
    (case a__law_mix => k_is)
    (case l__law_mix => k_is)
    (case c__law_mix => k_is)
    (case k__law_mix => k_is)
    (case a__law_cells_by => k_is)
    (case l__law_cells_by => k_is)
    (case c__law_cells_by => k_is)
    (case k__law_cells_by => k_is)
    (case a__law_pegs_by => k_is)
    (case l__law_pegs_by => k_is)
    (case c__law_pegs_by => k_is)
    (case k__law_pegs_by => k_is)
    (case a__law_between => k_is)
    (case l__law_between => k_is)
    (case c__law_between => k_is)
    (case k__law_between => k_is)
    (case a__law_leaps => k_is)
    (case l__law_leaps => k_is)
    (case c__law_leaps => k_is)
    (case k__law_leaps => k_is)
    (case a__law_weights_by => k_is)
    (case l__law_weights_by => k_is)
    (case c__law_weights_by => k_is)
    (case k__law_weights_by => k_is)
    (case a__law_raised => k_is)
    (case l__law_raised => k_is)
    (case c__law_raised => k_is)
    (case k__law_raised => k_is)
    (case a__law_fair => k_is)
    (case l__law_fair => k_is)
    (case c__law_fair => k_is)
    (case k__law_fair => k_is)
    (case a_law => k_is)
    (case l_law => k_is)
    (case c_law => k_is)
    (case k_law => k_is)
    (case m_PegError => k_is)
    (case m_BadBoard => k_is)
    (case m_BadPegs => k_is)
    (case m_NoLeap => k_is)
    (case m_BadWeights => k_is)
    (case m_Board => k_is)
    (case e_BadBoard => kernel_rfl)
    (case e_BadPegs => kernel_rfl)
    (case e_BadWeights => kernel_rfl)
    (case z_abs => k_is)
    (case z_dict => k_is)
    (case z_enumerate => k_is)
    (case z_len => k_is)
    (case z_list => k_is)
    (case z_min => k_is)
    (case z_range => k_is)
    (case z_set => k_is)
    (case z_sorted => k_is)
    (case z_sum => k_is)
    (case z_zip => k_is)
    (case g_COLOURS => k_is)
    (case g_LAST => k_is)
    (case g_LEAST => k_is)
    (case g_MOST => k_is)
    (case g_MOST_CELLS => k_is)
    (case aI_ => k_is)
    (case iI_ => k_is)
    (case lI_ => k_is)
    (case cI_ => k_is)
    (case kI_ => k_is)
    (case pgB => k_is)
    (case hdB => k_is)
    (case poB => k_is)
    (case saB => k_is)
    (case mkB => k_is)
    (case kcB => k_is)
    (case naB => k_is)
end T_K07z
