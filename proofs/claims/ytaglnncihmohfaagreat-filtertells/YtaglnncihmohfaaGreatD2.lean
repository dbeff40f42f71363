/- Contracts of the program and of the document (GNrm, GCov), each used further on. -/
import Derived.Test.YtaglnncihmohfaaGreatA2
import Derived.Test.YtaglnncihmohfaaGreatA4
import Derived.Test.YtaglnncihmohfaaGreatD1
set_option maxRecDepth 100000
set_option maxHeartbeats 4000000
namespace Go.Proofs.YtaglnncihmohfaaGreat
open Go.RowKit Go.Maps Spans Op
theorem prs_out {f : List Pr} {S : List UInt8 -> Sp} {L : List (List UInt8)} (hL : Fil.IsNames f L) (hr : Fil.AllRight f) : (L.flatMap fun n => prs n (S n)) = Fil.outOf L S := by
 unfold Fil.outOf
 rw [List.flatMap_def, List.flatMap_def]
 refine congrArg _ (List.map_congr_left fun n hn => ?_)
 unfold prs
 rw [if_pos (Fil.name_len hr ((hL.2 n).1 hn))]
def Normed (w : World) (f : List Pr) (e : Ending) (w' : World) : Prop :=
 ∃ (out : List Pr) (er : Int) (A : Option Addr) (n c : Nat), e = .returned (.tuple #[.slice A n c, .int .i64 er]) /\ Fil.NormIs f out er /\ out.length = n /\ n <= c /\ OwnQ w' w.heap.size (.slice A n c) out /\ Below w.heap.size w w'
theorem normed_none {w w' : World} {f : List Pr} {er : Int} (h : Fil.NormIs f [] er) (hb : Below w.heap.size w w') : Normed w f (.returned (.tuple #[.slice none 0 0, .int .i64 er])) w' :=
 ⟨[], er, none, 0, 0, rfl, h, rfl, Nat.le_refl _, OwnK.none_ _ _, hb⟩
theorem norm_at (A : Option Addr) (f : List Pr) (n c : Nat) (hn : f.length = n) (hm : n <= 100) (hl : PBd f) (w : World) (hr : RdQ w A f) :
  Calls Tryz.prog 13 #[.slice A n c] w (Normed w f) := by
 have HN := Lib.hid hn
 have HLL := Lib.hid hl
 have HR := Lib.hid hr
 clear hn hl hr
 by_cases h24 : n <= 24
 ·have v1 : ¬ (24 : Int) < (n : Int) := by omega
  go_enter Tryz.func13, Tryz.ntmps13
  go_wp2_with fail
  by_cases hA : Fil.AllRight f
  ·refine (allRight_at A f n c HN.out (by omega) HLL.out w HR.out true (decide_eq_true hA)).mono ?_
   rintro e w1 ⟨rfl, hb1⟩
   have HA := Lib.hid hA
   have HB1 := Lib.hid hb1
   clear hA hb1
   go_wp2_with fail
   refine (spansOf_at A f n c HN.out hm HLL.out w1 (RdK.below HR.out HB1.out)).mono ?_
   rintro e w2 ⟨b, S, rfl, hsp, _, hb2⟩
   have HB2 := Lib.hid (below_next HB1.out (Nat.le_refl _) hb2)
   have HSP := Lib.hid hsp
   have HIS : Hid (Fil.IsSpans f S) := by obtain ⟨_, _, _, _, h⟩ := hsp; exact h.spans
   clear hb2 hsp HB1
   go_wp2_with fail
   by_cases hV : Fil.Void f S
   ·refine (anyEmpty_at b f S w2 HSP.out true (decide_eq_true hV)).mono ?_
    rintro e w3 ⟨rfl, hb3⟩
    have HV := Lib.hid hV
    have HB3 := Lib.hid (below_next HB2.out (Nat.le_refl _) hb3)
    obtain ⟨m, D, ho, _, hs⟩ := HSP.out
    have HL := Lib.hid (names_of ho hs (List.Perm.refl _))
    clear hV hb3 ho hs
    go_wp2_with fail
    go_ret2
    exact normed_none (.inr (.inr ⟨⟨by rw [HN.out]; exact h24, HA.out⟩, S, _, HIS.out, HL.out, .inl ⟨HV.out, rfl, rfl⟩⟩)) HB3.out
   ·refine (anyEmpty_at b f S w2 HSP.out false (decide_eq_false hV)).mono ?_
    rintro e w3 ⟨rfl, hb3⟩
    have HV := Lib.hid hV
    have HB3 := Lib.hid (below_next HB2.out (Nat.le_refl _) hb3)
    have HSP3 := Lib.hid (HSP.out.below hb3)
    clear hV hb3
    go_wp2_with fail
    refine (predsOf_at b f S w3 HSP3.out (by rw [HN.out]; exact hm) HLL.out).mono ?_
    rintro e w4 ⟨L, A4, n4, c4, rfl, hL, hl4, hc4, h11, ho4, hb4⟩
    rw [prs_out hL HA.out] at hl4 ho4
    have HB4 := Lib.hid (below_next HB3.out (Nat.le_refl _) hb4)
    have HL := Lib.hid hL
    have HL4 := Lib.hid hl4
    have HO4 := Lib.hid (ho4.less (by have := HB3.out.size; omega : w.heap.size <= w3.heap.size))
    clear hL hl4 ho4 hb4
    by_cases hbig : 24 < n4
    ·have v2 : (24 : Int) < (n4 : Int) := by omega
     have HBG := Lib.hid hbig
     clear hbig
     go_wp2_with fail
     go_ret2
     exact normed_none (.inr (.inr ⟨⟨by rw [HN.out]; exact h24, HA.out⟩, S, L, HIS.out, HL.out, .inr (.inl ⟨HV.out, by rw [HL4.out]; exact HBG.out, rfl, rfl⟩)⟩)) HB4.out
    ·have v2 : ¬ (24 : Int) < (n4 : Int) := by omega
     have HBG := Lib.hid hbig
     clear hbig
     go_wp2_with fail
     go_ret2
     exact ⟨_, 0, A4, n4, c4, rfl, .inr (.inr ⟨⟨by rw [HN.out]; exact h24, HA.out⟩, S, L, HIS.out, HL.out, .inr (.inr ⟨HV.out, by rw [HL4.out]; have := HBG.out; omega, rfl, rfl⟩)⟩), HL4.out, hc4, HO4.out, HB4.out⟩
  ·refine (allRight_at A f n c HN.out (by omega) HLL.out w HR.out false (decide_eq_false hA)).mono ?_
   rintro e w1 ⟨rfl, hb1⟩
   have HA := Lib.hid hA
   have HB1 := Lib.hid hb1
   clear hA hb1
   go_wp2_with fail
   go_ret2
   exact normed_none (.inr (.inl ⟨by rw [HN.out]; exact h24, HA.out, rfl, rfl⟩)) HB1.out
 ·have v1 : (24 : Int) < (n : Int) := by omega
  go_enter Tryz.func13, Tryz.ntmps13
  go_wp2_with fail
  go_ret2
  exact normed_none (.inl ⟨by rw [HN.out]; omega, rfl, rfl⟩) (Below.refl _ _)
def Tells (w : World) (P : Prop) (e : Ending) (w' : World) : Prop := ∃ q : Bool, e = .returned (.bool q) /\ (q = true ↔ P) /\ Below w.heap.size w w'
theorem fright_at (A : Option Addr) (f : List Pr) (n c : Nat) (hn : f.length = n) (hm : n <= 100) (hl : PBd f) (w : World) (hr : RdQ w A f) :
  Calls Tryz.prog 16 #[.slice A n c] w (Tells w (Fil.NormIs f f 0)) := by
 have HN := Lib.hid hn
 have HLL := Lib.hid hl
 have HR := Lib.hid hr
 clear hn hl hr
 go_enter Tryz.func16, Tryz.ntmps16
 go_wp2_with fail
 refine (norm_at A f n c HN.out hm HLL.out w HR.out).mono ?_
 rintro e w1 ⟨out, er, A1, n1, c1, rfl, hno, hl1, hc1, ho1, hb1⟩
 have HNO := Lib.hid hno
 have HL1 := Lib.hid hl1
 have HO1 := Lib.hid ho1
 have HB1 := Lib.hid hb1
 clear hno hl1 ho1 hb1
 by_cases he : er = 0
 ·subst he
  have hlen : n1 <= 100000 := by
   rw [<- HL1.out]
   obtain ⟨S, L, hg⟩ := HNO.out.good
   have := hg.len
   omega
  go_wp2_with fail
  obtain ⟨_, _, hr1, _, hrd⟩ := OwnK.rd HO1.out
  injection hr1 with e1 e2 e3
  subst e1
  refine (equalP_at A1 out n1 c1 HL1.out hlen A f n c HN.out (by omega) w1 hrd (RdK.below HR.out HB1.out) _ rfl).mono ?_
  rintro e w2 ⟨rfl, hg2⟩
  have HB2 := Lib.hid (below_next HB1.out (Nat.le_refl _) hg2.below)
  clear hg2 hrd e2 e3
  go_wp2_with fail
  go_ret
  refine ⟨_, rfl, ?_, HB2.out⟩
  rw [decide_eq_true_iff]
  exact ⟨fun h => by have := HNO.out; rwa [h] at this, fun h => (HNO.out.one h).1⟩
 ·have v1 : (er == 0) = false := beq_eq_false_iff_ne.2 he
  have HE := Lib.hid he
  clear he
  go_wp2_with fail
  go_ret
  exact ⟨false, rfl, ⟨fun h => (by cases h), fun h => absurd (HNO.out.one h).2 HE.out⟩, HB1.out⟩
theorem fmeets_at (A : Option Addr) (f : List Pr) (n c : Nat) (hn : f.length = n) (hm : n <= 100000) (hl : PBd f) (B : Option Addr) (es : List Ev.At) (m d : Nat) (hes : es.length = m) (hml : m <= maxLen) (hbd : ∀ a ∈ es, a.n.length <= maxLen /\ a.t.length <= maxLen) (w : World) (hr : RdQ w A f) (hr' : RdA w B es) (q : Bool) (hq : Fil.meets f es = q) :
  Calls Tryz.prog 18 #[.slice A n c, .slice B m d] w fun e w' => e = .returned (.bool q) /\ Below w.heap.size w w' := by
 subst hq
 have HN := Lib.hid hn
 have HLL := Lib.hid hl
 have HR := Lib.hid hr
 have HR' := Lib.hid hr'
 have HE := Lib.hid hes
 have HM := Lib.hid hml
 have HBD := Lib.hid hbd
 clear hn hl hr hr' hes hml hbd
 go_enter Tryz.func18, Tryz.ntmps18
 go_wp2_with fail
 go_loopg [9] n (fun gg s9 wr => ∃ k : Nat, k <= n /\ n - k <= gg /\ s9 = .int .i64 (k : Int) /\ Hid (Below w.heap.size w wr) /\ Hid (Fil.meets (f.take k) es = true))
 case atStart => exact ⟨0, Nat.zero_le _, by omega, rfl, Below.refl _ _, by show _ = _; simp [Fil.meets]⟩
 case round =>
  obtain ⟨k, hk, hgg, rfl, HB, HA⟩ := hrel
  by_cases hlt : k < n
  ·have hk' : k < f.length := by rw [HN.out]; exact hlt
   have hpl := HLL.out _ (List.getElem_mem hk')
   obtain ⟨g, off, rfl, hg, c0, c1, c2, c3, c4⟩ := RdQ.at5 (RdK.below HR.out HB.out) hk'
   obtain ⟨x, hx⟩ : ∃ x, f[k] = x := ⟨_, rfl⟩
   have HX := Lib.hid hx
   rw [hx] at c0 c1 c2 c3 c4 hpl
   clear hx HLL
   obtain ⟨xn, xo, xk, xi, xt⟩ := x
   obtain ⟨hp1, hp2, hp3, hp4⟩ := hpl
   dsimp only at hp1 hp2 hp3 hp4 c0 c1 c2 c3 c4
   have w5 : (k : Int) < (n : Int) := by omega
   have hb1 := HB.out.alloc (by have := HB.out.size; omega) (.cells (pC xn.toArray xo xk xi xt.toArray) 35)
   have HB1 := Lib.hid hb1
   have HRE := Lib.hid (HR'.out.below hb1)
   clear hb1
   cases hq : meetsV es xn xo xk xi xt with
   | true =>
    have HQ := Lib.hid hq
    clear hq
    go_wp2_with fail
    refine (meets_is xn xo xk xi xt B es m d _ HE.out HM.out HBD.out (by omega) (by omega) HRE.out true HQ.out).mono ?_
    rintro e w2 ⟨rfl, hb2⟩
    have HB2 := Lib.hid (below_next HB1.out (by have := HB1.out.size; omega) hb2)
    have HA2 : Hid (Fil.meets (f.take (k + 1)) es = true) := by
     show _ = _
     rw [List.take_succ_eq_append_getElem hk', HX.out]
     have h1 := HA.out
     unfold Fil.meets at *
     rw [List.all_append, h1]
     simp [HQ.out]
    clear hb2 c0 c1 c2 c3 c4 HRE
    go_wp2_with fail
    go_roundg (n - (k + 1))
    case measure => omega
    case rel => exact ⟨k + 1, by omega, Nat.le_refl _, by go_num, HB2, HA2⟩
   | false =>
    have HQ := Lib.hid hq
    clear hq
    go_wp2_with fail
    refine (meets_is xn xo xk xi xt B es m d _ HE.out HM.out HBD.out (by omega) (by omega) HRE.out false HQ.out).mono ?_
    rintro e w2 ⟨rfl, hb2⟩
    have HB2 := Lib.hid (below_next HB1.out (by have := HB1.out.size; omega) hb2)
    have HF : Hid (Fil.meets f es = false) := by
     show _ = _
     unfold Fil.meets
     rw [List.all_eq_false]
     exact ⟨_, List.getElem_mem hk', by rw [HX.out]; simp [HQ.out]⟩
    clear hb2 c0 c1 c2 c3 c4 HRE
    go_wp2_with fail
    go_ret
    exact ⟨ret_b HF.out.symm, HB2.out⟩
  ·have hkn : Hid (k = n) := by show k = n; omega
   go_wp2_with fail
   go_ret
   refine ⟨ret_b ?_, HB.out⟩
   have := HA.out
   rw [hkn.out, List.take_of_length_le (by rw [HN.out]; exact Nat.le_refl _)] at this
   exact this.symm
end Go.Proofs.YtaglnncihmohfaaGreat
namespace Go.Proofs.YtaglnncihmohfaaGreat
open Go.RowKit Go.Maps Spans Op
theorem tells_no {w w' : World} {P : Prop} (h : ¬ P) (hb : Below w.heap.size w w') : Tells w P (.returned (.bool false)) w' := ⟨false, rfl, ⟨fun k => (by cases k), fun k => absurd k h⟩, hb⟩
theorem tells_yes {w w' : World} {P : Prop} (h : P) (hb : Below w.heap.size w w') : Tells w P (.returned (.bool true)) w' := ⟨true, rfl, ⟨fun _ => h, fun _ => rfl⟩, hb⟩
theorem covers_at (A : Option Addr) (f : List Pr) (n c : Nat) (hn : f.length = n) (hm : n <= 100) (hl : PBd f) (A' : Option Addr) (g : List Pr) (n' c' : Nat) (hn' : g.length = n') (hm' : n' <= 100) (hl' : PBd g) (w : World) (hr : RdQ w A f) (hr' : RdQ w A' g) :
  Calls Tryz.prog 20 #[.slice A n c, .slice A' n' c'] w (Tells w (Fil.Cov f g)) := by
 have HN := Lib.hid hn
 have HN' := Lib.hid hn'
 have HLL := Lib.hid hl
 have HLL' := Lib.hid hl'
 have HR := Lib.hid hr
 have HR' := Lib.hid hr'
 clear hn hl hr hn' hl' hr'
 go_enter Tryz.func20, Tryz.ntmps20
 go_wp2_with fail
 by_cases hF : Fil.Sound f
 ·refine (sound_at A f n c HN.out (by omega) HLL.out w HR.out true (decide_eq_true hF)).mono ?_
  rintro e w1 ⟨rfl, hb1⟩
  have HF := Lib.hid hF
  have HB1 := Lib.hid hb1
  clear hF hb1
  go_wp2_with fail
  by_cases hG : Fil.Sound g
  ·refine (sound_at A' g n' c' HN'.out (by omega) HLL'.out w1 (RdK.below HR'.out HB1.out) true (decide_eq_true hG)).mono ?_
   rintro e w2 ⟨rfl, hb2⟩
   have HG := Lib.hid hG
   have HB2 := Lib.hid (below_next HB1.out (Nat.le_refl _) hb2)
   clear hG hb2 HB1
   go_wp2_with fail
   refine (spansOf_at A f n c HN.out hm HLL.out w2 (RdK.below HR.out HB2.out)).mono ?_
   rintro e w3 ⟨b, S, rfl, hsp, _, hb3⟩
   have HB3 := Lib.hid (below_next HB2.out (Nat.le_refl _) hb3)
   have HSP := Lib.hid hsp
   clear hb3 hsp HB2
   go_wp2_with fail
   refine (spansOf_at A' g n' c' HN'.out hm' HLL'.out w3 (RdK.below HR'.out HB3.out)).mono ?_
   rintro e w4 ⟨b', T, rfl, hsp', _, hb4⟩
   have HB4 := Lib.hid (below_next HB3.out (Nat.le_refl _) hb4)
   have HSP4 := Lib.hid (HSP.out.below hb4)
   have HSP' := Lib.hid hsp'
   clear hb4 hsp' HB3 HSP
   have HCW : Hid (Fil.Cov f g ↔ Fil.Sound f /\ Fil.Sound g /\ (Fil.Void g T ∨ ∀ n, Fil.Asked f n -> Fil.Asked g n /\ inn (T n) (S n) = true)) := by
    obtain ⟨_, _, _, _, h1⟩ := HSP4.out
    obtain ⟨_, _, _, _, h2⟩ := HSP'.out
    exact Fil.cov_with h1.spans h2.spans
   go_wp2_with fail
   by_cases hV : Fil.Void g T
   ·refine (anyEmpty_at b' g T w4 HSP'.out true (decide_eq_true hV)).mono ?_
    rintro e w5 ⟨rfl, hb5⟩
    have HV := Lib.hid hV
    have HB5 := Lib.hid (below_next HB4.out (Nat.le_refl _) hb5)
    clear hV hb5
    go_wp2_with fail
    go_ret
    exact tells_yes (HCW.out.2 ⟨HF.out, HG.out, .inl HV.out⟩) HB5.out
   ·refine (anyEmpty_at b' g T w4 HSP'.out false (decide_eq_false hV)).mono ?_
    rintro e w5 ⟨rfl, hb5⟩
    have HV := Lib.hid hV
    have HB5 := Lib.hid (below_next HB4.out (Nat.le_refl _) hb5)
    have HSP5 := Lib.hid (HSP4.out.below hb5)
    have HSP5' := Lib.hid (HSP'.out.below hb5)
    clear hV hb5 HSP4 HSP' HB4
    obtain ⟨m, D, hown, hmf, hS⟩ := HSP5.out
    obtain ⟨m', D', hown', hmf', hT⟩ := HSP5'.out
    have HS := Lib.hid hS
    have HT := Lib.hid hT
    have HO' : Hid (OwnM w5 b' m' D') := hown'
    have HMF : Hid (f.length <= 24) := HF.out.1
    have HMG : Hid (g.length <= 24) := HG.out.1
    clear hS hT hown' HSP5 HSP5'
    go_wp2_with (first | (at_range; refine wpList_range_own _ rfl _ 82 rfl 9 92 lawS Tryz.underlying82 _ b m _ rfl hown ?_; intro w6 hrg0 hg0 hs0) | go_in)
    go_frame
    go_loopw [7] (fun _ wr => ∃ (left : Lit -> Bool) (cnt : Nat), wr.ranges Tryz.prog 9 elemR b w5.heap.size m D left cnt /\ Hid (∀ n, Fil.Asked f n -> left (.string n) = false -> Fil.Asked g n /\ inn (T n) (S n) = true) /\ Hid (Below w5.heap.size w5 wr)) (fun _ wr => wr.rangeLeft b w5.heap.size)
    case atStart => exact ⟨_, _, hrg0, fun n hn hl => (by rw [(HS.out.has n).2 hn] at hl; cases hl), (Below.refl _ _).grown hg0 (Nat.le_refl _) (fun j hj => by cases hj)⟩
    case round =>
     obtain ⟨left, cnt, hrg, HL, HB⟩ := hrel
     clear hrg0 hg0 hs0 hown
     go_wp2_with (first | (at_next; refine wpList_next_S rfl _ rfl b w5.heap.size m D left cnt rfl hrg ?_ ?_) | go_in)
     ·intro _ hl0
      have HFIN : Hid (Fil.Cov f g) := HCW.out.2 ⟨HF.out, HG.out, .inr fun n hn => HL.out n hn (hl0 _)⟩
      clear hl0 hrg
      go_wp2_with fail
      go_ret
      exact tells_yes HFIN.out (below_next HB5.out (Nat.le_refl _) HB.out)
     ·intro x s w7 cnt1 hlx hat hrg1 hlt hg1 hs1 hen
      have HB7 : Hid (Below w5.heap.size w5 w7) := HB.out.grown hg1 HB.out.size (fun j hj => by cases hj; exact Nat.le_refl _)
      obtain ⟨hax, Af, cf, hsr, hcf, hrdf⟩ := (HS.out.below HB7.out).kind hat
      subst hsr
      simp only [rw_] at hen ⊢
      have hxl : x.length <= 100 := by obtain ⟨p, hp, e⟩ := hax; rw [<- e]; exact (HLL.out p hp).1
      have HAX := Lib.hid hax
      have hrg2 := hrg1.alloc (.cells (sC ((S x).kind) ((S x).lo) ((S x).hi) ((S x).frm.toArray) ((S x).to_.toArray) ((S x).opn) Af (S x).no.length cf) 92)
      have hb8 := HB7.out.alloc HB7.out.size (.cells (sC ((S x).kind) ((S x).lo) ((S x).hi) ((S x).frm.toArray) ((S x).to_.toArray) ((S x).opn) Af (S x).no.length cf) 92)
      have hO8 := World.ownsMap.alloc (OwnM.below HO'.out HB7.out) (.cells (sC ((S x).kind) ((S x).lo) ((S x).hi) ((S x).frm.toArray) ((S x).to_.toArray) ((S x).opn) Af (S x).no.length cf) 92)
      have hV8 := Blk.new w7 92 (sC ((S x).kind) ((S x).lo) ((S x).hi) ((S x).frm.toArray) ((S x).to_.toArray) ((S x).opn) Af (S x).no.length cf)
      have hrd8 := RdK.below hrdf ((Below.refl _ _).alloc (Nat.le_refl _) (.cells (sC ((S x).kind) ((S x).lo) ((S x).hi) ((S x).frm.toArray) ((S x).to_.toArray) ((S x).opn) Af (S x).no.length cf) 92))
      have HI : Hid (IsAll (Fil.of f x) (S x)) := (HS.out.all x HAX.out).1
      have hnx : (S x).no.length <= 100 := by have := (HS.out.all x HAX.out).2.1; have := HMF.out; omega
      clear hs1 hat hg1 hrg1 hax hrdf
      by_cases hag : Fil.Asked g x
      ·obtain ⟨hIg, hng, Ag, cg, hatg, hcg, hrdg⟩ := (HT.out.below hb8).all x hag
       have hlook : (Instr.lookup 82 (.map (some b')) (.string ⟨x.toArray⟩) true).run Tryz.prog (w7.alloc (.cells (sC ((S x).kind) ((S x).lo) ((S x).hi) ((S x).frm.toArray) ((S x).to_.toArray) ((S x).opn) Af (S x).no.length cf) 92)) = .ok (.tuple #[.agg (sC ((T x).kind) ((T x).lo) ((T x).hi) ((T x).frm.toArray) ((T x).to_.toArray) ((T x).opn) Ag (T x).no.length cg), .bool true]) (w7.alloc (.cells (sC ((S x).kind) ((S x).lo) ((S x).hi) ((S x).frm.toArray) ((S x).to_.toArray) ((S x).opn) Af (S x).no.length cf) 92)) := (look_yes hO8 (by omega) hatg).1
       have hs8 : (w7.alloc (.cells (sC ((S x).kind) ((S x).lo) ((S x).hi) ((S x).frm.toArray) ((S x).to_.toArray) ((S x).opn) Af (S x).no.length cf) 92)).heap.size = w7.heap.size + 1 := by simp
       have hV9 : Blk ((w7.alloc (.cells (sC ((S x).kind) ((S x).lo) ((S x).hi) ((S x).frm.toArray) ((S x).to_.toArray) ((S x).opn) Af (S x).no.length cf) 92)).alloc (.cells (sC ((T x).kind) ((T x).lo) ((T x).hi) ((T x).frm.toArray) ((T x).to_.toArray) ((T x).opn) Ag (T x).no.length cg) 92)) (w7.heap.size + 1) 92 (sC ((T x).kind) ((T x).lo) ((T x).hi) ((T x).frm.toArray) ((T x).to_.toArray) ((T x).opn) Ag (T x).no.length cg) := by
        have := Blk.new (w7.alloc (.cells (sC ((S x).kind) ((S x).lo) ((S x).hi) ((S x).frm.toArray) ((S x).to_.toArray) ((S x).opn) Af (S x).no.length cf) 92)) 92 (sC ((T x).kind) ((T x).lo) ((T x).hi) ((T x).frm.toArray) ((T x).to_.toArray) ((T x).opn) Ag (T x).no.length cg)
        rwa [hs8] at this
       have hV9' := Blk.alloc hV8 (.cells (sC ((T x).kind) ((T x).lo) ((T x).hi) ((T x).frm.toArray) ((T x).to_.toArray) ((T x).opn) Ag (T x).no.length cg) 92)
       have hb9 := hb8.alloc hb8.size (.cells (sC ((T x).kind) ((T x).lo) ((T x).hi) ((T x).frm.toArray) ((T x).to_.toArray) ((T x).opn) Ag (T x).no.length cg) 92)
       have hrg3 := hrg2.alloc (.cells (sC ((T x).kind) ((T x).lo) ((T x).hi) ((T x).frm.toArray) ((T x).to_.toArray) ((T x).opn) Ag (T x).no.length cg) 92)
       have hbl : Below (w7.alloc (.cells (sC ((S x).kind) ((S x).lo) ((S x).hi) ((S x).frm.toArray) ((S x).to_.toArray) ((S x).opn) Af (S x).no.length cf) 92)).heap.size (w7.alloc (.cells (sC ((S x).kind) ((S x).lo) ((S x).hi) ((S x).frm.toArray) ((S x).to_.toArray) ((S x).opn) Af (S x).no.length cf) 92)) ((w7.alloc (.cells (sC ((S x).kind) ((S x).lo) ((S x).hi) ((S x).frm.toArray) ((S x).to_.toArray) ((S x).opn) Af (S x).no.length cf) 92)).alloc (.cells (sC ((T x).kind) ((T x).lo) ((T x).hi) ((T x).frm.toArray) ((T x).to_.toArray) ((T x).opn) Ag (T x).no.length cg) 92)) := (Below.refl _ _).alloc (Nat.le_refl _) _
       have HRF := Lib.hid (RdK.below hrd8 hbl)
       have HRG := Lib.hid (RdK.below hrdg hbl)
       have HIG := Lib.hid hIg
       have HAG := Lib.hid hag
       have HB9 := Lib.hid hb9
       have hng' : (T x).no.length <= 100 := by have := HMG.out; omega
       clear hIg hatg hrdg hrd8 hb8 hb9 hO8 hV8 hs8 hbl hag hrg2 hng
       go_wp2_with fail
       clear hlook hen hV9 hV9'
       generalize (w7.alloc (.cells (sC ((S x).kind) ((S x).lo) ((S x).hi) ((S x).frm.toArray) ((S x).to_.toArray) ((S x).opn) Af (S x).no.length cf) 92)).alloc (.cells (sC ((T x).kind) ((T x).lo) ((T x).hi) ((T x).frm.toArray) ((T x).to_.toArray) ((T x).opn) Ag (T x).no.length cg) 92) = w9 at *
       refine (in_at (T x) (S x) HIG.out.1 HI.out.1 Ag _ cg Af _ cf w9 rfl (by omega) rfl (by omega) HRG.out HRF.out (inn (T x) (S x)) rfl).mono ?_
       rintro e w10 ⟨rfl, hb10⟩
       have HB10 := Lib.hid (below_next HB9.out (by have := HB9.out.size; omega) hb10)
       have hrg4 := hrg3.kept (row := none) ⟨hb10.os, hb10.tape, hb10.output, hb10.size, fun k hk _ => hb10.block k hk⟩ (by simp) (by simp)
       clear hb10 hrg3 HB9 HRF HRG
       cases hin : inn (T x) (S x) with
       | false =>
        have HNC : Hid (¬ Fil.Cov f g) := fun h => by
         obtain ⟨_, _, h2⟩ := HCW.out.1 h
         have := ((h2.resolve_left HV.out) x HAX.out).2
         rw [hin] at this
         cases this
        clear hin
        go_wp2_with fail
        go_ret
        exact tells_no HNC.out (below_next HB5.out (Nat.le_refl _) HB10.out)
       | true =>
        have HL2 : Hid (∀ n, Fil.Asked f n -> (left (.string n) && !(Lit.string n).sameKey (.string x)) = false -> Fil.Asked g n /\ inn (T n) (S n) = true) := fun n hn h => by
         rcases left_next h with e | e
         ·subst e; exact ⟨HAG.out, hin⟩
         ·exact HL.out n hn e
        clear hin
        go_wp2_with fail
        go_roundw
        case rel => exact ⟨_, cnt1, hrg4, HL2, HB10⟩
        case measure => rw [hrg4.left_eq, hrg.left_eq]; exact hlt
      ·have hno : Maps.has D' (.string x) = false := by
        cases h : Maps.has D' (.string x) with
        | false => rfl
        | true => exact absurd ((HT.out.has x).1 h) hag
       have hlook : (Instr.lookup 82 (.map (some b')) (.string ⟨x.toArray⟩) true).run Tryz.prog (w7.alloc (.cells (sC ((S x).kind) ((S x).lo) ((S x).hi) ((S x).frm.toArray) ((S x).to_.toArray) ((S x).opn) Af (S x).no.length cf) 92)) = .ok (.tuple #[.agg zC, .bool false]) (w7.alloc (.cells (sC ((S x).kind) ((S x).lo) ((S x).hi) ((S x).frm.toArray) ((S x).to_.toArray) ((S x).opn) Af (S x).no.length cf) 92)) := look_no hO8 (by omega) hno
       have HNC : Hid (¬ Fil.Cov f g) := fun h => by
        obtain ⟨_, _, h2⟩ := HCW.out.1 h
        exact hag ((h2.resolve_left HV.out) x HAX.out).1
       have HB9 := Lib.hid (hb8.alloc hb8.size (.cells zC 92))
       clear hno hag hO8 hrd8 hb8 hrg2
       go_wp2_with fail
       go_ret
       exact tells_no HNC.out (below_next HB5.out (Nat.le_refl _) HB9.out)
  ·refine (sound_at A' g n' c' HN'.out (by omega) HLL'.out w1 (RdK.below HR'.out HB1.out) false (decide_eq_false hG)).mono ?_
   rintro e w2 ⟨rfl, hb2⟩
   have HG := Lib.hid hG
   have HB2 := Lib.hid (below_next HB1.out (Nat.le_refl _) hb2)
   clear hG hb2 HB1
   go_wp2_with fail
   go_ret
   exact tells_no (fun h => HG.out h.2.1) HB2.out
 ·refine (sound_at A f n c HN.out (by omega) HLL.out w HR.out false (decide_eq_false hF)).mono ?_
  rintro e w1 ⟨rfl, hb1⟩
  have HF := Lib.hid hF
  have HB1 := Lib.hid hb1
  clear hF hb1
  go_wp2_with fail
  go_ret
  exact tells_no (fun h => HF.out h.1) HB1.out
def SpanEx (f : List Pr) : Prop := ∃ S L, Fil.IsSpans f S /\ Fil.IsNames f L
theorem PBd.app {f g : List Pr} (h : PBd f) (k : PBd g) : PBd (f ++ g) := fun p hp => by
 rcases List.mem_append.1 hp with hp | hp
 ·exact h p hp
 ·exact k p hp
theorem crosses_w (A : Option Addr) (f : List Pr) (n c : Nat) (hn : f.length = n) (hm : n <= 50) (hl : PBd f) (A' : Option Addr) (g : List Pr) (n' c' : Nat) (hn' : g.length = n') (hm' : n' <= 50) (hl' : PBd g) (w : World) (hr : RdQ w A f) (hr' : RdQ w A' g) :
  Calls Tryz.prog 22 #[.slice A n c, .slice A' n' c'] w (fun e w' => Tells w (Fil.Cross f g) e w' /\ (Fil.Sound f -> Fil.Sound g -> SpanEx (f ++ g))) := by
 have HN := Lib.hid hn
 have HN' := Lib.hid hn'
 have HLL := Lib.hid hl
 have HLL' := Lib.hid hl'
 have HR := Lib.hid hr
 have HR' := Lib.hid hr'
 clear hn hl hr hn' hl' hr'
 go_enter Tryz.func22, Tryz.ntmps22
 go_wp2_with fail
 by_cases hF : Fil.Sound f
 ·refine (sound_at A f n c HN.out (by omega) HLL.out w HR.out true (decide_eq_true hF)).mono ?_
  rintro e w1 ⟨rfl, hb1⟩
  have HF := Lib.hid hF
  have HB1 := Lib.hid hb1
  clear hF hb1
  go_wp2_with fail
  by_cases hG : Fil.Sound g
  ·refine (sound_at A' g n' c' HN'.out (by omega) HLL'.out w1 (RdK.below HR'.out HB1.out) true (decide_eq_true hG)).mono ?_
   rintro e w2 ⟨rfl, hb2⟩
   have HG := Lib.hid hG
   have HB2 := Lib.hid (below_next HB1.out (Nat.le_refl _) hb2)
   have hB3 := Blk.new w2 22 #[.slice A n c, .slice A' n' c']
   have HB3 := Lib.hid (HB2.out.alloc HB2.out.size (.cells #[.slice A n c, .slice A' n' c'] 22))
   clear hG hb2 HB1
   have HBK := Lib.hid hB3
   clear hB3
   go_wp2_with fail
   refine (concatP_at w2.heap.size A n c A' n' c' _ f g HN.out (by omega) HN'.out (by omega) (RdK.below HR.out HB3.out) (RdK.below HR'.out HB3.out) HBK.out.lt (HBK.out.cell 0) (HBK.out.cell 1)).mono ?_
   generalize w2.alloc (.cells #[.slice A n c, .slice A' n' c'] 22) = w3 at *
   rintro e w4 ⟨v, rfl, ho4, hb4⟩
   have hlen : (f ++ g).length = n + n' := by rw [List.length_append, HN.out, HN'.out]
   obtain ⟨A4, c4, rfl, hc4, hr4⟩ := OwnK.form ho4 hlen
   have HLEN := Lib.hid hlen
   have HB4 := Lib.hid (below_next HB3.out (by have := HB3.out.size; omega) hb4)
   have HR4 := Lib.hid hr4
   clear ho4 hb4 hr4 hlen HB3 HBK
   go_wp2_with fail
   refine (spansOf_at A4 (f ++ g) (n + n') c4 HLEN.out (by omega) (HLL.out.app HLL'.out) w4 HR4.out).mono ?_
   rintro e w5 ⟨b, S, rfl, hsp, _, hb5⟩
   have HB5 := Lib.hid (below_next HB4.out (by have := HB4.out.size; omega) hb5)
   have HSP := Lib.hid hsp
   obtain ⟨m, D, hown, hmf, hS⟩ := hsp
   have hnm := names_of hown hS (List.Perm.refl _)
   have hsz : ((strKeys D).mergeSort (fun x y => decide (x <= y))).length = Maps.size D := by
    rw [(List.mergeSort_perm _ _).length_eq]
    obtain ⟨es, rfl⟩ := hS.map
    simp [strKeys, Maps.size]
   obtain ⟨z, hz⟩ : ∃ z, Maps.size D = z := ⟨_, rfl⟩
   have HEX : Hid (SpanEx (f ++ g)) := ⟨_, _, hS.spans, hnm⟩
   have hcw := Fil.cross_with hS.spans hnm
   rw [hsz, hz] at hcw
   have HCW := Lib.hid hcw
   have hlen5 : ∀ ty, (Builtin.len_ #[82] ty #[.map (some b)]).run Tryz.prog w5 = .ok (.int .i64 (z : Int)) w5 := fun ty => by
    have := World.ownsMap.len hown Tryz.underlying82 ty
    rwa [hz] at this
   have hzm : z <= m := by rw [<- hz]; exact World.ownsMap.size_le hown
   clear hb5 hown hS hnm hsz hcw hz
   by_cases hz24 : z <= 24
   ·have v1 : (z : Int) <= 24 := by omega
    go_wp2_with fail
    clear hlen5
    by_cases hV : Fil.Void (f ++ g) S
    ·refine (anyEmpty_at b (f ++ g) S w5 HSP.out true (decide_eq_true hV)).mono ?_
     rintro e w6 ⟨rfl, hb6⟩
     have HV := Lib.hid hV
     have HB6 := Lib.hid (below_next HB5.out (by have := HB5.out.size; omega) hb6)
     clear hV hb6
     go_wp2_with fail
     go_ret
     exact ⟨tells_no (fun h => (HCW.out.1 h).2.2.2 HV.out) HB6.out, fun _ _ => HEX.out⟩
    ·refine (anyEmpty_at b (f ++ g) S w5 HSP.out false (decide_eq_false hV)).mono ?_
     rintro e w6 ⟨rfl, hb6⟩
     have HV := Lib.hid hV
     have HB6 := Lib.hid (below_next HB5.out (by have := HB5.out.size; omega) hb6)
     clear hV hb6
     go_wp2_with fail
     go_ret
     exact ⟨tells_yes (HCW.out.2 ⟨HF.out, HG.out, hz24, HV.out⟩) HB6.out, fun _ _ => HEX.out⟩
   ·have v1 : ¬ (z : Int) <= 24 := by omega
    go_wp2_with fail
    go_ret
    exact ⟨tells_no (fun h => hz24 (HCW.out.1 h).2.2.1) HB5.out, fun _ _ => HEX.out⟩
  ·refine (sound_at A' g n' c' HN'.out (by omega) HLL'.out w1 (RdK.below HR'.out HB1.out) false (decide_eq_false hG)).mono ?_
   rintro e w2 ⟨rfl, hb2⟩
   have HG := Lib.hid hG
   have HB2 := Lib.hid (below_next HB1.out (Nat.le_refl _) hb2)
   clear hG hb2 HB1
   go_wp2_with fail
   go_ret
   exact ⟨tells_no (fun h => HG.out h.2.1) HB2.out, fun _ h => absurd h HG.out⟩
 ·refine (sound_at A f n c HN.out (by omega) HLL.out w HR.out false (decide_eq_false hF)).mono ?_
  rintro e w1 ⟨rfl, hb1⟩
  have HF := Lib.hid hF
  have HB1 := Lib.hid hb1
  clear hF hb1
  go_wp2_with fail
  go_ret
  exact ⟨tells_no (fun h => HF.out h.1) HB1.out, fun h => absurd h HF.out⟩
theorem crosses_at (A : Option Addr) (f : List Pr) (n c : Nat) (hn : f.length = n) (hm : n <= 50) (hl : PBd f) (A' : Option Addr) (g : List Pr) (n' c' : Nat) (hn' : g.length = n') (hm' : n' <= 50) (hl' : PBd g) (w : World) (hr : RdQ w A f) (hr' : RdQ w A' g) :
  Calls Tryz.prog 22 #[.slice A n c, .slice A' n' c'] w (Tells w (Fil.Cross f g)) := (crosses_w A f n c hn hm hl A' g n' c' hn' hm' hl' w hr hr').mono fun _ _ h => h.1
end Go.Proofs.YtaglnncihmohfaaGreat
