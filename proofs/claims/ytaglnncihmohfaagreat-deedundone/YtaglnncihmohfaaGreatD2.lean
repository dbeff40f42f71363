/- Contracts of the program and of the document (GNrm), each used further on. -/
import Derived.Test.YtaglnncihmohfaaGreatA2
import Derived.Test.YtaglnncihmohfaaGreatA4
import Derived.Test.YtaglnncihmohfaaGreatD1
set_option maxRecDepth 100000
set_option maxHeartbeats 4000000
namespace Go.Proofs.YtaglnncihmohfaaGreat
open Go.RowKit Go.Maps Spans Op
theorem prs_out {f : List Pr} {S : List UInt8 -> Sp} {L : List (List UInt8)} (hL : Fil.IsNames f L) (hr : Fil.AllRight f) : (L.flatMap fun n => prs n (S n)) = Fil.outOf L S := by
 unfold Fil.outOf
 rw [List.flatMap_def, List.flatMap_def]
 refine congrArg _ (List.map_congr_left fun n hn => ?_)
 unfold prs
 rw [if_pos (Fil.name_len hr ((hL.2 n).1 hn))]
def Normed (w : World) (f : List Pr) (e : Ending) (w' : World) : Prop :=
 ∃ (out : List Pr) (er : Int) (A : Option Addr) (n c : Nat), e = .returned (.tuple #[.slice A n c, .int .i64 er]) /\ Fil.NormIs f out er /\ out.length = n /\ n <= c /\ OwnQ w' w.heap.size (.slice A n c) out /\ Below w.heap.size w w'
theorem normed_none {w w' : World} {f : List Pr} {er : Int} (h : Fil.NormIs f [] er) (hb : Below w.heap.size w w') : Normed w f (.returned (.tuple #[.slice none 0 0, .int .i64 er])) w' :=
 ⟨[], er, none, 0, 0, rfl, h, rfl, Nat.le_refl _, OwnK.none_ _ _, hb⟩
theorem norm_at (A : Option Addr) (f : List Pr) (n c : Nat) (hn : f.length = n) (hm : n <= 100) (hl : PBd f) (w : World) (hr : RdQ w A f) :
  Calls Tryz.prog 13 #[.slice A n c] w (Normed w f) := by
 have HN := Lib.hid hn
 have HLL := Lib.hid hl
 have HR := Lib.hid hr
 clear hn hl hr
 by_cases h24 : n <= 24
 ·have v1 : ¬ (24 : Int) < (n : Int) := by omega
  go_enter Tryz.func13, Tryz.ntmps13
  go_wp2_with fail
  by_cases hA : Fil.AllRight f
  ·refine (allRight_at A f n c HN.out (by omega) HLL.out w HR.out true (decide_eq_true hA)).mono ?_
   rintro e w1 ⟨rfl, hb1⟩
   have HA := Lib.hid hA
   have HB1 := Lib.hid hb1
   clear hA hb1
   go_wp2_with fail
   refine (spansOf_at A f n c HN.out hm HLL.out w1 (RdK.below HR.out HB1.out)).mono ?_
   rintro e w2 ⟨b, S, rfl, hsp, _, hb2⟩
   have HB2 := Lib.hid (below_next HB1.out (Nat.le_refl _) hb2)
   have HSP := Lib.hid hsp
   have HIS : Hid (Fil.IsSpans f S) := by obtain ⟨_, _, _, _, h⟩ := hsp; exact h.spans
   clear hb2 hsp HB1
   go_wp2_with fail
   by_cases hV : Fil.Void f S
   ·refine (anyEmpty_at b f S w2 HSP.out true (decide_eq_true hV)).mono ?_
    rintro e w3 ⟨rfl, hb3⟩
    have HV := Lib.hid hV
    have HB3 := Lib.hid (below_next HB2.out (Nat.le_refl _) hb3)
    obtain ⟨m, D, ho, _, hs⟩ := HSP.out
    have HL := Lib.hid (names_of ho hs (List.Perm.refl _))
    clear hV hb3 ho hs
    go_wp2_with fail
    go_ret2
    exact normed_none (.inr (.inr ⟨⟨by rw [HN.out]; exact h24, HA.out⟩, S, _, HIS.out, HL.out, .inl ⟨HV.out, rfl, rfl⟩⟩)) HB3.out
   ·refine (anyEmpty_at b f S w2 HSP.out false (decide_eq_false hV)).mono ?_
    rintro e w3 ⟨rfl, hb3⟩
    have HV := Lib.hid hV
    have HB3 := Lib.hid (below_next HB2.out (Nat.le_refl _) hb3)
    have HSP3 := Lib.hid (HSP.out.below hb3)
    clear hV hb3
    go_wp2_with fail
    refine (predsOf_at b f S w3 HSP3.out (by rw [HN.out]; exact hm) HLL.out).mono ?_
    rintro e w4 ⟨L, A4, n4, c4, rfl, hL, hl4, hc4, h11, ho4, hb4⟩
    rw [prs_out hL HA.out] at hl4 ho4
    have HB4 := Lib.hid (below_next HB3.out (Nat.le_refl _) hb4)
    have HL := Lib.hid hL
    have HL4 := Lib.hid hl4
    have HO4 := Lib.hid (ho4.less (by have := HB3.out.size; omega : w.heap.size <= w3.heap.size))
    clear hL hl4 ho4 hb4
    by_cases hbig : 24 < n4
    ·have v2 : (24 : Int) < (n4 : Int) := by omega
     have HBG := Lib.hid hbig
     clear hbig
     go_wp2_with fail
     go_ret2
     exact normed_none (.inr (.inr ⟨⟨by rw [HN.out]; exact h24, HA.out⟩, S, L, HIS.out, HL.out, .inr (.inl ⟨HV.out, by rw [HL4.out]; exact HBG.out, rfl, rfl⟩)⟩)) HB4.out
    ·have v2 : ¬ (24 : Int) < (n4 : Int) := by omega
     have HBG := Lib.hid hbig
     clear hbig
     go_wp2_with fail
     go_ret2
     exact ⟨_, 0, A4, n4, c4, rfl, .inr (.inr ⟨⟨by rw [HN.out]; exact h24, HA.out⟩, S, L, HIS.out, HL.out, .inr (.inr ⟨HV.out, by rw [HL4.out]; have := HBG.out; omega, rfl, rfl⟩)⟩), HL4.out, hc4, HO4.out, HB4.out⟩
  ·refine (allRight_at A f n c HN.out (by omega) HLL.out w HR.out false (decide_eq_false hA)).mono ?_
   rintro e w1 ⟨rfl, hb1⟩
   have HA := Lib.hid hA
   have HB1 := Lib.hid hb1
   clear hA hb1
   go_wp2_with fail
   go_ret2
   exact normed_none (.inr (.inl ⟨by rw [HN.out]; exact h24, HA.out, rfl, rfl⟩)) HB1.out
 ·have v1 : (24 : Int) < (n : Int) := by omega
  go_enter Tryz.func13, Tryz.ntmps13
  go_wp2_with fail
  go_ret2
  exact normed_none (.inl ⟨by rw [HN.out]; omega, rfl, rfl⟩) (Below.refl _ _)
def Tells (w : World) (P : Prop) (e : Ending) (w' : World) : Prop := ∃ q : Bool, e = .returned (.bool q) /\ (q = true ↔ P) /\ Below w.heap.size w w'
theorem fright_at (A : Option Addr) (f : List Pr) (n c : Nat) (hn : f.length = n) (hm : n <= 100) (hl : PBd f) (w : World) (hr : RdQ w A f) :
  Calls Tryz.prog 16 #[.slice A n c] w (Tells w (Fil.NormIs f f 0)) := by
 have HN := Lib.hid hn
 have HLL := Lib.hid hl
 have HR := Lib.hid hr
 clear hn hl hr
 go_enter Tryz.func16, Tryz.ntmps16
 go_wp2_with fail
 refine (norm_at A f n c HN.out hm HLL.out w HR.out).mono ?_
 rintro e w1 ⟨out, er, A1, n1, c1, rfl, hno, hl1, hc1, ho1, hb1⟩
 have HNO := Lib.hid hno
 have HL1 := Lib.hid hl1
 have HO1 := Lib.hid ho1
 have HB1 := Lib.hid hb1
 clear hno hl1 ho1 hb1
 by_cases he : er = 0
 ·subst he
  have hlen : n1 <= 100000 := by
   rw [<- HL1.out]
   obtain ⟨S, L, hg⟩ := HNO.out.good
   have := hg.len
   omega
  go_wp2_with fail
  obtain ⟨_, _, hr1, _, hrd⟩ := OwnK.rd HO1.out
  injection hr1 with e1 e2 e3
  subst e1
  refine (equalP_at A1 out n1 c1 HL1.out hlen A f n c HN.out (by omega) w1 hrd (RdK.below HR.out HB1.out) _ rfl).mono ?_
  rintro e w2 ⟨rfl, hg2⟩
  have HB2 := Lib.hid (below_next HB1.out (Nat.le_refl _) hg2.below)
  clear hg2 hrd e2 e3
  go_wp2_with fail
  go_ret
  refine ⟨_, rfl, ?_, HB2.out⟩
  rw [decide_eq_true_iff]
  exact ⟨fun h => by have := HNO.out; rwa [h] at this, fun h => (HNO.out.one h).1⟩
 ·have v1 : (er == 0) = false := beq_eq_false_iff_ne.2 he
  have HE := Lib.hid he
  clear he
  go_wp2_with fail
  go_ret
  exact ⟨false, rfl, ⟨fun h => (by cases h), fun h => absurd (HNO.out.one h).2 HE.out⟩, HB1.out⟩
end Go.Proofs.YtaglnncihmohfaaGreat
