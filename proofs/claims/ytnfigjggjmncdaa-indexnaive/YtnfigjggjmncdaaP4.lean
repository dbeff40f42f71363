/- Contracts of the program and of the document (GFm, RFm, PoInt, TFew, TCutE), each used further on. -/
import Derived.Deep.LoopGhost
import Derived.Test.YtnfigjggjmncdaaP1
import Derived.Test.YtnfigjggjmncdaaP3
namespace Go.Proofs.Ytnfigjggjmncdaa
open Go.RowKit Go.Maps Spans Op
set_option maxRecDepth 100000 in
set_option maxHeartbeats 1000000 in
theorem fmeets_at (A : Option Addr) (f : List Pr) (n c : Nat) (hn : f.length = n) (hm : n ≤ 100000) (hl : PBd f) (B : Option Addr) (es : List Ev.At) (m d : Nat) (hes : es.length = m) (hml : m ≤ maxLen) (hbd : ∀ a ∈ es, a.n.length ≤ maxLen ∧ a.t.length ≤ maxLen) (w : World) (hr : RdQ w A f) (hr' : RdA w B es) (q : Bool) (hq : Fil.meets f es = q) :
    Calls Try.prog 18 #[.slice A n c, .slice B m d] w fun e w' => e = .returned (.bool q) ∧ Below w.heap.size w w' := by
  subst hq
  have HN := Lib.hid hn
  have HLL := Lib.hid hl
  have HR := Lib.hid hr
  have HR' := Lib.hid hr'
  have HE := Lib.hid hes
  have HM := Lib.hid hml
  have HBD := Lib.hid hbd
  clear hn hl hr hr' hes hml hbd
  go_enter Try.func18, Try.ntmps18
  go_wp2_with fail
  go_loopg [9] n (fun gg s9 wr => ∃ k : Nat, k ≤ n ∧ n - k ≤ gg ∧ s9 = .int .i64 (k : Int) ∧ Hid (Below w.heap.size w wr) ∧ Hid (Fil.meets (f.take k) es = true))
  case atStart => exact ⟨0, Nat.zero_le _, by omega, rfl, Below.refl _ _, by show _ = _; simp [Fil.meets]⟩
  case round =>
    obtain ⟨k, hk, hgg, rfl, HB, HA⟩ := hrel
    by_cases hlt : k < n
    · have hk' : k < f.length := by rw [HN.out]; exact hlt
      have hpl := HLL.out _ (List.getElem_mem hk')
      obtain ⟨g, off, rfl, hg, c0, c1, c2, c3, c4⟩ := RdQ.at5 (RdK.below HR.out HB.out) hk'
      obtain ⟨x, hx⟩ : ∃ x, f[k] = x := ⟨_, rfl⟩
      have HX := Lib.hid hx
      rw [hx] at c0 c1 c2 c3 c4 hpl
      clear hx HLL
      obtain ⟨xn, xo, xk, xi, xt⟩ := x
      obtain ⟨hp1, hp2, hp3, hp4⟩ := hpl
      dsimp only at hp1 hp2 hp3 hp4 c0 c1 c2 c3 c4
      have w5 : (k : Int) < (n : Int) := by omega
      have hb1 := HB.out.alloc (by have := HB.out.size; omega) (.cells #[.string ⟨xn.toArray⟩, .int .i64 xo, .int .i64 xk, .int .i64 xi, .string ⟨xt.toArray⟩] 47)
      have HB1 := Lib.hid hb1
      have HRE := Lib.hid (HR'.out.below hb1)
      clear hb1
      cases hq : meetsV es xn xo xk xi xt with
      | true =>
        have HQ := Lib.hid hq
        clear hq
        go_wp2_with fail
        refine (meets_is xn xo xk xi xt B es m d _ HE.out HM.out HBD.out (by omega) (by omega) HRE.out true HQ.out).mono ?_
        rintro e w2 ⟨rfl, hb2⟩
        have HB2 := Lib.hid (below_next HB1.out (by have := HB1.out.size; omega) hb2)
        have HA2 : Hid (Fil.meets (f.take (k + 1)) es = true) := by
          show _ = _
          rw [List.take_succ_eq_append_getElem hk', HX.out]
          have h1 := HA.out
          unfold Fil.meets at *
          rw [List.all_append, h1]
          simp [HQ.out]
        clear hb2 c0 c1 c2 c3 c4 HRE
        go_wp2_with fail
        go_roundg (n - (k + 1))
        case measure => omega
        case rel => exact ⟨k + 1, by omega, Nat.le_refl _, by go_num, HB2, HA2⟩
      | false =>
        have HQ := Lib.hid hq
        clear hq
        go_wp2_with fail
        refine (meets_is xn xo xk xi xt B es m d _ HE.out HM.out HBD.out (by omega) (by omega) HRE.out false HQ.out).mono ?_
        rintro e w2 ⟨rfl, hb2⟩
        have HB2 := Lib.hid (below_next HB1.out (by have := HB1.out.size; omega) hb2)
        have HF : Hid (Fil.meets f es = false) := by
          show _ = _
          unfold Fil.meets
          rw [List.all_eq_false]
          exact ⟨_, List.getElem_mem hk', by rw [HX.out]; simp [HQ.out]⟩
        clear hb2 c0 c1 c2 c3 c4 HRE
        go_wp2_with fail
        go_ret
        exact ⟨ret_b HF.out.symm, HB2.out⟩
    · have hkn : Hid (k = n) := by show k = n; omega
      go_wp2_with fail
      go_ret
      refine ⟨ret_b ?_, HB.out⟩
      have := HA.out
      rw [hkn.out, List.take_of_length_le (by rw [HN.out]; exact Nat.le_refl _)] at this
      exact this.symm
end Go.Proofs.Ytnfigjggjmncdaa
namespace Go.Proofs.Ytnfigjggjmncdaa
open Go.RowKit Go.Sort Spans Op
set_option maxRecDepth 100000 in
set_option maxHeartbeats 4000000 in
theorem rfmeets_at (A : Option Addr) (f : List Pr) (n c : Nat) (hn : f.length = n) (hm : n ≤ 1000) (hl : PBd f) (B : Option Addr) (es : List Ev.At) (m d : Nat) (hes : es.length = m) (hml : m ≤ maxLen) (hbd : ∀ a ∈ es, a.n.length ≤ maxLen ∧ a.t.length ≤ maxLen) (w : World) (hr : RdQ w A f) (hr' : RdA w B es) (q : Bool) (hq : Fil.meets f es = q) :
    Calls Try.prog 21 #[.slice A n c, .slice B m d] w fun e w' => e = .returned (.bool q) ∧ Below w.heap.size w w' := by
  have HN := Lib.hid hn
  have HLL := Lib.hid hl
  have HR := Lib.hid hr
  have HR' := Lib.hid hr'
  have HE := Lib.hid hes
  have HM := Lib.hid hml
  have HBD := Lib.hid hbd
  have HQ := Lib.hid hq
  clear hn hl hr hr' hes hml hbd hq
  go_enter Try.func21, Try.ntmps21
  go_wp2_with fail
  go_loopg [5] n (fun gg s3 wr => ∃ k : Nat, k ≤ n ∧ n - k ≤ gg ∧ s3 = .int .i64 (k : Int) ∧ Hid (Below w.heap.size w wr) ∧ Hid (Fil.meets (f.take k) es = true))
  case atStart => exact ⟨0, Nat.zero_le _, by omega, rfl, Below.refl _ _, by show _ = _; simp [Fil.meets]⟩
  case round =>
    obtain ⟨k, hk, hgg, rfl, HB, HA⟩ := hrel
    by_cases hlt : k < n
    · have hk' : k < f.length := by rw [HN.out]; exact hlt
      have hpl := HLL.out _ (List.getElem_mem hk')
      obtain ⟨g, off, rfl, hg, c0, c1, c2, c3, c4⟩ := RdQ.at5 (RdK.below HR.out HB.out) hk'
      obtain ⟨x, hx⟩ : ∃ x, f[k] = x := ⟨_, rfl⟩
      have HX := Lib.hid hx
      rw [hx] at c0 c1 c2 c3 c4 hpl
      clear hx
      obtain ⟨xn, xo, xk, xi, xt⟩ := x
      obtain ⟨hp1, hp2, hp3, hp4⟩ := hpl
      dsimp only at hp1 hp2 hp3 hp4 c0 c1 c2 c3 c4
      have w5 : (k : Int) < (n : Int) := by omega
      have HRE := Lib.hid (HR'.out.below HB.out)
      obtain ⟨y, hy⟩ : ∃ y, meetsV es xn xo xk xi xt = y := ⟨_, rfl⟩
      have HY := Lib.hid hy
      clear hy
      go_wp2_with fail
      refine (rmeets_is xn xo xk xi xt B es m d _ HE.out HM.out HBD.out (by omega) (by omega) HRE.out y HY.out).mono ?_
      rintro e w2 ⟨rfl, hb2⟩
      have HB2 := Lib.hid (below_next HB.out (Nat.le_refl _) hb2)
      clear hb2 c0 c1 c2 c3 c4 HRE
      cases y with
      | true =>
        have HA2 : Hid (Fil.meets (f.take (k + 1)) es = true) := by
          show _ = _
          rw [List.take_succ_eq_append_getElem hk', HX.out]
          have h1 := HA.out
          unfold Fil.meets at *
          rw [List.all_append, h1]
          simp [HY.out]
        go_wp2_with fail
        go_roundg (n - (k + 1))
        case measure => omega
        case rel => exact ⟨k + 1, by omega, Nat.le_refl _, by go_num, HB2, HA2⟩
      | false =>
        have HF : Hid (q = false) := by
          show _ = _
          rw [← HQ.out]
          unfold Fil.meets
          rw [List.all_eq_false]
          exact ⟨f[k], List.getElem_mem hk', by rw [HX.out]; simp [HY.out]⟩
        go_wp2_with fail
        go_ret
        exact ⟨by rw [HF.out]; rfl, HB2.out⟩
    · have hkn : k = n := by omega
      have HF : Hid (q = true) := by
        have h1 := HA.out
        rw [hkn, List.take_of_length_le (by rw [HN.out]; exact Nat.le_refl _), HQ.out] at h1
        exact h1
      clear hkn
      go_wp2_with fail
      go_ret
      exact ⟨by rw [HF.out]; rfl, HB.out⟩
end Go.Proofs.Ytnfigjggjmncdaa
namespace Go.Proofs.Ytnfigjggjmncdaa
open Go.RowKit Go.ChangeShapes Go.WideShapes Go.Deep Go.Sort
theorem take_ext {α : Type} {a b : List α} {k : Nat} (ha : k < a.length) (hb : k < b.length) (h : a.take k = b.take k) (e : a[k] = b[k]) : a.take (k + 1) = b.take (k + 1) := by
  rw [List.take_succ_eq_append_getElem ha, List.take_succ_eq_append_getElem hb, h, e]
set_option maxRecDepth 100000 in
set_option maxHeartbeats 4000000 in
theorem ints_at (A : Option Addr) (a : List Int) (n c : Nat) (hn : a.length = n) (B : Option Addr) (b : List Int) (m d : Nat) (hm : b.length = m) (hb9 : n ≤ 100000000 ∧ m ≤ 100000000) (w : World) (ha : RdZ layI w A a) (hb : RdZ layI w B b) (q : Bool) (hq : q = true ↔ a = b) :
    Calls Try.prog 16 #[.slice A n c, .slice B m d] w fun e w' => e = .returned (.bool q) ∧ Below w.heap.size w w' := by
  have HN := Lib.hid hn
  have HM := Lib.hid hm
  have HA := Lib.hid ha
  have HBR := Lib.hid hb
  have HQ := Lib.hid hq
  clear hn hm ha hb hq
  by_cases hnm : n = m
  · subst hnm
    go_enter Try.func16, Try.ntmps16
    go_wp2_with fail
    go_loopg [5] n (fun gg s5 wr => ∃ k : Nat, k + gg = n ∧ s5 = .int .i64 (k : Int) ∧ Hid (Below w.heap.size w wr) ∧ Hid (a.take k = b.take k))
    case atStart => exact ⟨0, by omega, rfl, Below.refl _ _, by show _ = _; simp⟩
    case round =>
      obtain ⟨k, hkg, rfl, HB, HT⟩ := hrel
      cases gk with
      | zero =>
        obtain rfl : k = n := by omega
        have HF : Hid (true = q) := by
          refine (HQ.out.2 ?_).symm
          have := HT.out
          rwa [List.take_of_length_le (by rw [HN.out]; exact Nat.le_refl _), List.take_of_length_le (by rw [HM.out]; exact Nat.le_refl _)] at this
        go_wp2_with fail
        go_ret
        exact ⟨ret_b HF.out, HB.out⟩
      | succ gk =>
        have hk1 : k < a.length := by rw [HN.out]; omega
        have hk2 : k < b.length := by rw [HM.out]; omega
        have w5 : (k : Int) < (n : Int) := by omega
        obtain ⟨g, off, rfl, hg, c0⟩ := RdI.at1 (RdZ.below HA.out HB.out) hk1
        obtain ⟨g', off', rfl, hg', c1⟩ := RdI.at1 (RdZ.below HBR.out HB.out) hk2
        obtain ⟨x, hx⟩ : ∃ x, a[k] = x := ⟨_, rfl⟩
        obtain ⟨y, hy⟩ : ∃ y, b[k] = y := ⟨_, rfl⟩
        rw [hx] at c0
        rw [hy] at c1
        have HX := Lib.hid hx
        have HY := Lib.hid hy
        have c0 := gx_cell c0
        have c1 := gx_cell c1
        clear hx hy
        by_cases he : x = y
        · have hd : (x != y) = false := by simpa using he
          have HT2 : Hid (a.take (k + 1) = b.take (k + 1)) := take_ext hk1 hk2 HT.out (by rw [HX.out, HY.out]; exact he)
          clear he
          go_wp2_with fail
          refine qbr (fun nq osq => ?_)
          have HB2 := Lib.hid (below_next HB.out (Nat.le_refl _) (below_gx wr nq osq))
          clear c0 c1
          go_wp2_with fail
          go_roundg gk
          case measure => omega
          case rel => exact ⟨k + 1, by omega, by go_num, HB2, HT2⟩
        · have hd : (x != y) = true := by simpa using he
          have HF : Hid (false = q) := by
            cases q with
            | false => rfl
            | true =>
              have e := HQ.out.1 rfl
              refine absurd ?_ he
              rw [← HX.out, ← HY.out]
              simp only [e]
          clear he
          go_wp2_with fail
          refine qbr (fun nq osq => ?_)
          have HB2 := Lib.hid (below_next HB.out (Nat.le_refl _) (below_gx wr nq osq))
          go_wp2_with fail
          go_ret
          exact ⟨ret_b HF.out, HB2.out⟩
  · have hd : ((n : Int) != (m : Int)) = true := by simp; omega
    have HF : Hid (false = q) := by
      cases q with
      | false => rfl
      | true => exact absurd (by rw [← HN.out, ← HM.out, HQ.out.1 rfl]) hnm
    clear hnm
    go_enter Try.func16, Try.ntmps16
    go_wp2_with fail
    go_ret
    exact ⟨ret_b HF.out, Below.refl _ _⟩
end Go.Proofs.Ytnfigjggjmncdaa
namespace Go.Proofs.Ytnfigjggjmncdaa
open Go.RowKit Go.Sort Spans Tb
def shortP (p : Pr) : Prop := p.n.length ≤ 100 ∧ p.t.length ≤ 100
instance (p : Pr) : Decidable (shortP p) := inferInstanceAs (Decidable (_ ∧ _))
def total (xs : List Ex) : Nat := (xs.map Ex.n).sum
def fewE (xs : List Ex) : Bool := decide (∀ x ∈ xs, ∀ p ∈ x.f, shortP p) && (decide (xs.length ≤ 80) && decide (total xs ≤ 300))
theorem total_le {xs : List Ex} {x : Ex} (h : x ∈ xs) : x.n ≤ total xs := by
  induction xs with
  | nil => cases h
  | cons a r ih =>
    unfold total at *
    rw [List.map_cons, List.sum_cons]
    rcases List.mem_cons.1 h with rfl | h
    · omega
    · have := ih h; omega
theorem total_snoc {xs : List Ex} {k : Nat} (h : k < xs.length) : total (xs.take (k + 1)) = total (xs.take k) + (xs[k]).n := by
  unfold total
  rw [map_snoc Ex.n h, List.sum_append]; simp
theorem total_bd {R : Nat} {xs : List Ex} (hb : ∀ x ∈ xs, x.n ≤ R) : ∀ k, total (xs.take k) ≤ k * R
  | 0 => by simp [total]
  | k + 1 => by
    have h0 := total_bd hb k
    rw [Nat.succ_mul]
    by_cases h : k < xs.length
    · rw [total_snoc h]
      exact Nat.add_le_add h0 (hb _ (List.getElem_mem h))
    · rw [List.take_of_length_le (by omega)] at h0 ⊢
      exact Nat.le_trans h0 (Nat.le_add_right _ _)
theorem fewE_of {xs : List Ex} (h : fewE xs = true) : (∀ x ∈ xs, ∀ p ∈ x.f, shortP p) ∧ xs.length ≤ 80 ∧ ∀ x ∈ xs, x.n ≤ 300 := by
  unfold fewE at h
  simp only [Bool.and_eq_true, decide_eq_true_eq] at h
  exact ⟨h.1, h.2.1, fun x hx => Nat.le_trans (total_le hx) h.2.2⟩
/-- The sum that Few has come to: as it is, of few entries; of many, whatever. -/
def SumIs (m : Nat) (t : Nat) (s : Int) : Prop := m ≤ 80 → s = (t : Int)
set_option maxRecDepth 100000 in
set_option maxHeartbeats 4000000 in
theorem tfew_at (B : Option Addr) (es : List Ex) (m d : Nat) (hn : es.length = m) (hm : m ≤ 9223372036854775807) (hb : EBx es) (w : World) (hr : RdEn w B es) (q : Bool) (hq : fewE es = q) :
    Calls Try.prog 9 #[.slice B m d] w fun e w' => e = .returned (.bool q) ∧ Below w.heap.size w w' := by
  have HN := Lib.hid hn
  have HQ := Lib.hid hq
  have HR := Lib.hid hr
  have HBX := Lib.hid hb
  have HTB : Hid (∀ k, total (es.take k) ≤ k * 2600000000000) := total_bd fun x hx => (hb x hx).1
  clear hn hq hr hb
  go_enter Try.func9, Try.ntmps9
  go_wp2_with fail
  go_loopg [3, 4] m (fun gg s3 s4 wr => ∃ (k : Nat) (s : Int), k ≤ m ∧ m - k ≤ gg ∧ s4 = .int .i64 (k : Int) ∧ s3 = .int .i64 s ∧ Hid (Below w.heap.size w wr) ∧ Hid (SumIs m (total (es.take k)) s) ∧ Hid (∀ x ∈ es.take k, ∀ p ∈ x.f, shortP p))
  case atStart => exact ⟨0, 0, Nat.zero_le _, by omega, rfl, rfl, Below.refl _ _, fun _ => by simp [total], by show ∀ _, _; simp⟩
  case round =>
    obtain ⟨k, s, hk, hgg, rfl, rfl, HB, HS, HA⟩ := hrel
    by_cases hlt : k < m
    · have hk' : k < es.length := by rw [HN.out]; exact hlt
      obtain ⟨g, off, rfl, hg, c0, c1, c2, hf⟩ := RdEn.at3 HR.out hk'
      have hbx := HBX.out _ (List.getElem_mem hk')
      obtain ⟨x, hx⟩ : ∃ x, es[k] = x := ⟨_, rfl⟩
      have HE := Lib.hid hx
      rw [hx] at c0 c1 c2 hf hbx
      clear hx
      obtain ⟨xi, xr, xA, xn, xc, xf⟩ := x
      obtain ⟨hf1, hf2, hf3⟩ := hf
      obtain ⟨hb1, _, _, hb4⟩ := hbx
      dsimp only at c0 c1 c2 hf1 hf2 hf3 hb1 hb4
      have HPB := Lib.hid hb4
      have HF1 := Lib.hid hf1
      have HRX := Lib.hid hf3
      have w5 : (k : Int) < (m : Int) := by omega
      obtain ⟨s', hs'⟩ : ∃ s', IntKind.i64.wrap (s + (xn : Int)) = s' := ⟨_, rfl⟩
      have HS2 : Hid (SumIs m (total (es.take (k + 1))) s') := fun h80 => by
        have h1 := HS.out h80
        have h2 := HTB.out k
        have h3 := total_snoc hk'
        rw [HE.out] at h3
        dsimp only at h3
        rw [← hs', h3, h1, IntKind.wrap_i64]
        omega
      have HC2 := Lib.hid c2
      clear hb4 hf1 hf3 HS c0 c1 c2
      have c2 := (HB.out.cell (p := ⟨g, off + k * 3 + 2, none⟩) hg).trans HC2.out
      go_wp2_with fail
      clear hs' c2
      go_loopg [5] xn (fun g2 s5 wi => ∃ j : Nat, j ≤ xn ∧ xn - j ≤ g2 ∧ s5 = .int .i64 (j : Int) ∧ Hid (Below w.heap.size w wi) ∧ Hid (∀ p ∈ xf.take j, shortP p))
      case atStart => exact ⟨0, Nat.zero_le _, by omega, rfl, HB, by show ∀ _, _; simp⟩
      case round =>
        obtain ⟨j, hj, hgg2, rfl, HBi, HAi⟩ := hrel
        clear HB
        have c2 := (HBi.out.cell (p := ⟨g, off + k * 3 + 2, none⟩) hg).trans HC2.out
        by_cases hjl : j < xn
        · have hj' : j < xf.length := by rw [HF1.out]; exact hjl
          obtain ⟨g', off', rfl, hg', b0, b1, b2, b3, b4⟩ := RdQ.at5 (RdK.below HRX.out HBi.out) hj'
          have hbp := HPB.out _ (List.getElem_mem hj')
          obtain ⟨p, hp⟩ : ∃ p, xf[j] = p := ⟨_, rfl⟩
          have HPE := Lib.hid hp
          rw [hp] at b0 b1 b2 b3 b4 hbp
          clear hp
          obtain ⟨pn, po, pk, pi, pt⟩ := p
          obtain ⟨hb5, hb6, _, _⟩ := hbp
          dsimp only at b0 b1 b2 b3 b4 hb5 hb6
          have w6 : (j : Int) < (xn : Int) := by omega
          have HB2 := Lib.hid (HBi.out.alloc HBi.out.size (.cells #[.string ⟨pn.toArray⟩, .int .i64 po, .int .i64 pk, .int .i64 pi, .string ⟨pt.toArray⟩] 47))
          have hz1 : (⟨pn.toArray⟩ : ByteArray).size = pn.length := by simp [ByteArray.size]
          have hz2 : (⟨pt.toArray⟩ : ByteArray).size = pt.length := by simp [ByteArray.size]
          have hno : ¬ shortP ⟨pn, po, pk, pi, pt⟩ → fewE es = false := fun h => by
            unfold fewE
            rw [decide_eq_false (fun hall => h ?_), Bool.false_and]
            have := hall _ (List.getElem_mem hk') xf[j] (by rw [HE.out]; exact List.getElem_mem hj')
            rwa [HPE.out] at this
          have HNO := Lib.hid hno
          clear hno
          by_cases h1 : (100 : Int) < (pn.length : Int)
          · have d1 : decide ((100 : Int) < (pn.length : Int)) = true := decide_eq_true h1
            have HF : Hid (false = q) := by
              show _ = _
              rw [← HQ.out, HNO.out (fun h => by have := h.1; dsimp only at this; omega)]
            go_wp2_with fail
            go_ret
            exact ⟨ret_b HF.out, HB2.out⟩
          · have d1 : decide ((100 : Int) < (pn.length : Int)) = false := decide_eq_false h1
            by_cases h2 : (100 : Int) < (pt.length : Int)
            · have d2 : decide ((100 : Int) < (pt.length : Int)) = true := decide_eq_true h2
              have HF : Hid (false = q) := by
                show _ = _
                rw [← HQ.out, HNO.out (fun h => by have := h.2; dsimp only at this; omega)]
              go_wp2_with fail
              go_ret
              exact ⟨ret_b HF.out, HB2.out⟩
            · have d2 : decide ((100 : Int) < (pt.length : Int)) = false := decide_eq_false h2
              have HA3 : Hid (∀ p ∈ xf.take (j + 1), shortP p) := fun p hp => by
                rw [List.take_succ_eq_append_getElem hj', HPE.out] at hp
                rcases List.mem_append.1 hp with h | h
                · exact HAi.out p h
                · simp at h; subst h; exact ⟨by dsimp only; omega, by dsimp only; omega⟩
              go_wp2_with fail
              go_roundg (xn - (j + 1))
              case measure => omega
              case rel => exact ⟨j + 1, by omega, Nat.le_refl _, by go_num, HB2, HA3⟩
        · have hjn : j = xn := by omega
          have HA4 : Hid (∀ x ∈ es.take (k + 1), ∀ p ∈ x.f, shortP p) := fun x hx => by
            rw [List.take_succ_eq_append_getElem hk', HE.out] at hx
            rcases List.mem_append.1 hx with h | h
            · exact HA.out x h
            · simp at h; subst h
              have := HAi.out
              rwa [hjn, List.take_of_length_le (by rw [HF1.out]; exact Nat.le_refl _)] at this
          go_wp2_with fail
          go_roundg (m - (k + 1))
          case measure => omega
          case rel => exact ⟨k + 1, s', by omega, Nat.le_refl _, by go_num, rfl, HBi, HS2, HA4⟩
    · have hkm : k = m := by omega
      subst hkm
      have HALL : Hid (∀ x ∈ es, ∀ p ∈ x.f, shortP p) := by
        have := HA.out
        rwa [List.take_of_length_le (by rw [HN.out]; exact Nat.le_refl _)] at this
      have hST : k ≤ 80 → s = (total es : Int) := fun h => by
        have := HS.out h
        rwa [List.take_of_length_le (by rw [HN.out]; exact Nat.le_refl _)] at this
      have HST := Lib.hid hST
      clear hST HS HA
      have hq2 : q = (decide (k ≤ 80) && decide (total es ≤ 300)) := by
        rw [← HQ.out]
        unfold fewE
        rw [decide_eq_true HALL.out, Bool.true_and, HN.out]
      have HQ2 := Lib.hid hq2
      clear hq2
      by_cases h80 : (k : Int) ≤ 80
      · have d80 : decide ((k : Int) ≤ 80) = true := decide_eq_true h80
        have hs : s = (total es : Int) := HST.out (by omega)
        subst hs
        by_cases h300 : (total es : Int) ≤ 300
        · have d3 : decide ((total es : Int) ≤ 300) = true := decide_eq_true h300
          have HF : Hid (true = q) := by
            show _ = _
            rw [HQ2.out, decide_eq_true (show k ≤ 80 by omega), decide_eq_true (show total es ≤ 300 by omega)]; rfl
          clear h80 h300
          go_wp2_with fail
          go_ret
          exact ⟨ret_b HF.out, HB.out⟩
        · have d3 : decide ((total es : Int) ≤ 300) = false := decide_eq_false h300
          have HF : Hid (false = q) := by
            show _ = _
            rw [HQ2.out, decide_eq_false (show ¬ total es ≤ 300 by omega), Bool.and_false]
          clear h80 h300
          go_wp2_with fail
          go_ret
          exact ⟨ret_b HF.out, HB.out⟩
      · have d80 : decide ((k : Int) ≤ 80) = false := decide_eq_false h80
        have HF : Hid (false = q) := by
          show _ = _
          rw [HQ2.out, decide_eq_false (show ¬ k ≤ 80 by omega), Bool.false_and]
        clear h80
        go_wp2_with fail
        go_ret
        exact ⟨ret_b HF.out, HB.out⟩
end Go.Proofs.Ytnfigjggjmncdaa
namespace Go.Proofs.Ytnfigjggjmncdaa
open Go.RowKit Go.Sort Spans Tb
/-- A cut off the front, as the model spells it. -/
theorem run_cutE {w : World} {A : Option Addr} {es : List Ex} {n cap k : Nat} (hr : RdK layE w A es) (hn : es.length = n) (hk : k ≤ n) (hc : n ≤ cap) :
    ∃ A', (∀ W, (Instr.slice 22 (.slice A n cap) (some (.int .i64 (k : Int))) none none).run Try.prog W = .ok (.slice A' (n - k) (cap - k)) W) ∧ RdK layE w A' (es.drop k) := by
  by_cases hck : cap = k
  · refine ⟨A, fun W => ?_, .inl (List.drop_eq_nil_of_le (by omega))⟩
    have h1 : (0 : Int) ≤ (k : Int) := by omega
    have h2 : (k : Int) ≤ (n : Int) := by omega
    subst hck
    go_simp
  · refine ⟨A.map fun x => x.add (k * 3), fun W => ?_, ?_⟩
    · have h1 : (0 : Int) ≤ (k : Int) := by omega
      have h2 : (k : Int) ≤ (n : Int) := by omega
      go_simp
    · rcases hr with rfl | ⟨g, off, rfl, hg, hcell⟩
      · exact .inl (by simp)
      · refine .inr ⟨g, off + k * 3, by simp [add_lit], hg, fun i hi j v hv => ?_⟩
        have hi' : k + i < es.length := by simp at hi; omega
        rw [List.getElem_drop] at hv
        have := hcell (k + i) hi' j v hv
        rw [show off + (k + i) * layE.k + j = off + k * 3 + i * layE.k + j by show off + (k + i) * 3 + j = off + k * 3 + i * 3 + j; omega] at this
        exact this
/-- A cut off the end, as the model spells it. -/
theorem run_headE (A : Option Addr) (n cap k : Nat) (hk : k ≤ n) (hc : n ≤ cap) (W : World) :
    (Instr.slice 22 (.slice A n cap) none (some (.int .i64 (k : Int))) none).run Try.prog W = .ok (.slice A k cap) W := by
  have h1 : (0 : Int) ≤ (k : Int) := by omega
  have h2 : (k : Int) ≤ (cap : Int) := by omega
  go_simp
end Go.Proofs.Ytnfigjggjmncdaa
