/- Contracts of the program and of the document (TFew, TStat, TSml, TArgs, TCut, TSet), each used further on. -/
import Derived.Test.YtoffnfooeojhnaaGreatM10
namespace Go.Proofs.YtoffnfooeojhnaaGreat
open Go.RowKit Go.Sort Spans Tb
def shortP (p : Pr) : Prop := p.n.length ≤ 100 ∧ p.t.length ≤ 100
instance (p : Pr) : Decidable (shortP p) := inferInstanceAs (Decidable (_ ∧ _))
def total (xs : List Ex) : Nat := (xs.map Ex.n).sum
def fewE (xs : List Ex) : Bool := decide (∀ x ∈ xs, ∀ p ∈ x.f, shortP p) && (decide (xs.length ≤ 80) && decide (total xs ≤ 300))
theorem total_le {xs : List Ex} {x : Ex} (h : x ∈ xs) : x.n ≤ total xs := by
  induction xs with
  | nil => cases h
  | cons a r ih =>
    unfold total at *
    rw [List.map_cons, List.sum_cons]
    rcases List.mem_cons.1 h with rfl | h
    · omega
    · have := ih h; omega
theorem total_snoc {xs : List Ex} {k : Nat} (h : k < xs.length) : total (xs.take (k + 1)) = total (xs.take k) + (xs[k]).n := by
  unfold total
  rw [map_snoc Ex.n h, List.sum_append]; simp
theorem total_bd {R : Nat} {xs : List Ex} (hb : ∀ x ∈ xs, x.n ≤ R) : ∀ k, total (xs.take k) ≤ k * R
  | 0 => by simp [total]
  | k + 1 => by
    have h0 := total_bd hb k
    rw [Nat.succ_mul]
    by_cases h : k < xs.length
    · rw [total_snoc h]
      exact Nat.add_le_add h0 (hb _ (List.getElem_mem h))
    · rw [List.take_of_length_le (by omega)] at h0 ⊢
      exact Nat.le_trans h0 (Nat.le_add_right _ _)
theorem fewE_of {xs : List Ex} (h : fewE xs = true) : (∀ x ∈ xs, ∀ p ∈ x.f, shortP p) ∧ xs.length ≤ 80 ∧ ∀ x ∈ xs, x.n ≤ 300 := by
  unfold fewE at h
  simp only [Bool.and_eq_true, decide_eq_true_eq] at h
  exact ⟨h.1, h.2.1, fun x hx => Nat.le_trans (total_le hx) h.2.2⟩
/-- The sum that Few has come to: as it is, of few entries; of many, whatever. -/
def SumIs (m : Nat) (t : Nat) (s : Int) : Prop := m ≤ 80 → s = (t : Int)
set_option maxRecDepth 100000 in
set_option maxHeartbeats 4000000 in
theorem tfew_at (B : Option Addr) (es : List Ex) (m d : Nat) (hn : es.length = m) (hm : m ≤ 9223372036854775807) (hb : EBx es) (w : World) (hr : RdEn w B es) (q : Bool) (hq : fewE es = q) :
    Calls Tryz.prog 67 #[.slice B m d] w fun e w' => e = .returned (.bool q) ∧ Below w.heap.size w w' := by
  have HN := Lib.hid hn
  have HQ := Lib.hid hq
  have HR := Lib.hid hr
  have HBX := Lib.hid hb
  have HTB : Hid (∀ k, total (es.take k) ≤ k * 2600000000000) := total_bd fun x hx => (hb x hx).1
  clear hn hq hr hb
  go_enter Tryz.func67, Tryz.ntmps67
  go_wp2_with fail
  go_loopg [3, 4] m (fun gg s3 s4 wr => ∃ (k : Nat) (s : Int), k ≤ m ∧ m - k ≤ gg ∧ s4 = .int .i64 (k : Int) ∧ s3 = .int .i64 s ∧ Hid (Below w.heap.size w wr) ∧ Hid (SumIs m (total (es.take k)) s) ∧ Hid (∀ x ∈ es.take k, ∀ p ∈ x.f, shortP p))
  case atStart => exact ⟨0, 0, Nat.zero_le _, by omega, rfl, rfl, Below.refl _ _, fun _ => by simp [total], by show ∀ _, _; simp⟩
  case round =>
    obtain ⟨k, s, hk, hgg, rfl, rfl, HB, HS, HA⟩ := hrel
    by_cases hlt : k < m
    · have hk' : k < es.length := by rw [HN.out]; exact hlt
      obtain ⟨g, off, rfl, hg, c0, c1, c2, hf⟩ := RdEn.at3 HR.out hk'
      have hbx := HBX.out _ (List.getElem_mem hk')
      obtain ⟨x, hx⟩ : ∃ x, es[k] = x := ⟨_, rfl⟩
      have HE := Lib.hid hx
      rw [hx] at c0 c1 c2 hf hbx
      clear hx
      obtain ⟨xi, xr, xA, xn, xc, xf⟩ := x
      obtain ⟨hf1, hf2, hf3⟩ := hf
      obtain ⟨hb1, _, _, hb4⟩ := hbx
      dsimp only at c0 c1 c2 hf1 hf2 hf3 hb1 hb4
      have HPB := Lib.hid hb4
      have HF1 := Lib.hid hf1
      have HRX := Lib.hid hf3
      have w5 : (k : Int) < (m : Int) := by omega
      obtain ⟨s', hs'⟩ : ∃ s', IntKind.i64.wrap (s + (xn : Int)) = s' := ⟨_, rfl⟩
      have HS2 : Hid (SumIs m (total (es.take (k + 1))) s') := fun h80 => by
        have h1 := HS.out h80
        have h2 := HTB.out k
        have h3 := total_snoc hk'
        rw [HE.out] at h3
        dsimp only at h3
        rw [← hs', h3, h1, IntKind.wrap_i64]
        omega
      have HC2 := Lib.hid c2
      clear hb4 hf1 hf3 HS c0 c1 c2
      have c2 := (HB.out.cell (p := ⟨g, off + k * 3 + 2, none⟩) hg).trans HC2.out
      go_wp2_with fail
      clear hs' c2
      go_loopg [5] xn (fun g2 s5 wi => ∃ j : Nat, j ≤ xn ∧ xn - j ≤ g2 ∧ s5 = .int .i64 (j : Int) ∧ Hid (Below w.heap.size w wi) ∧ Hid (∀ p ∈ xf.take j, shortP p))
      case atStart => exact ⟨0, Nat.zero_le _, by omega, rfl, HB, by show ∀ _, _; simp⟩
      case round =>
        obtain ⟨j, hj, hgg2, rfl, HBi, HAi⟩ := hrel
        clear HB
        have c2 := (HBi.out.cell (p := ⟨g, off + k * 3 + 2, none⟩) hg).trans HC2.out
        by_cases hjl : j < xn
        · have hj' : j < xf.length := by rw [HF1.out]; exact hjl
          obtain ⟨g', off', rfl, hg', b0, b1, b2, b3, b4⟩ := RdQ.at5 (RdK.below HRX.out HBi.out) hj'
          have hbp := HPB.out _ (List.getElem_mem hj')
          obtain ⟨p, hp⟩ : ∃ p, xf[j] = p := ⟨_, rfl⟩
          have HPE := Lib.hid hp
          rw [hp] at b0 b1 b2 b3 b4 hbp
          clear hp
          obtain ⟨pn, po, pk, pi, pt⟩ := p
          obtain ⟨hb5, hb6, _, _⟩ := hbp
          dsimp only at b0 b1 b2 b3 b4 hb5 hb6
          have w6 : (j : Int) < (xn : Int) := by omega
          have HB2 := Lib.hid (HBi.out.alloc HBi.out.size (.cells #[.string ⟨pn.toArray⟩, .int .i64 po, .int .i64 pk, .int .i64 pi, .string ⟨pt.toArray⟩] 35))
          have hz1 : (⟨pn.toArray⟩ : ByteArray).size = pn.length := by simp [ByteArray.size]
          have hz2 : (⟨pt.toArray⟩ : ByteArray).size = pt.length := by simp [ByteArray.size]
          have hno : ¬ shortP ⟨pn, po, pk, pi, pt⟩ → fewE es = false := fun h => by
            unfold fewE
            rw [decide_eq_false (fun hall => h ?_), Bool.false_and]
            have := hall _ (List.getElem_mem hk') xf[j] (by rw [HE.out]; exact List.getElem_mem hj')
            rwa [HPE.out] at this
          have HNO := Lib.hid hno
          clear hno
          by_cases h1 : (100 : Int) < (pn.length : Int)
          · have d1 : decide ((100 : Int) < (pn.length : Int)) = true := decide_eq_true h1
            have HF : Hid (false = q) := by
              show _ = _
              rw [← HQ.out, HNO.out (fun h => by have := h.1; dsimp only at this; omega)]
            go_wp2_with fail
            go_ret
            exact ⟨ret_b HF.out, HB2.out⟩
          · have d1 : decide ((100 : Int) < (pn.length : Int)) = false := decide_eq_false h1
            by_cases h2 : (100 : Int) < (pt.length : Int)
            · have d2 : decide ((100 : Int) < (pt.length : Int)) = true := decide_eq_true h2
              have HF : Hid (false = q) := by
                show _ = _
                rw [← HQ.out, HNO.out (fun h => by have := h.2; dsimp only at this; omega)]
              go_wp2_with fail
              go_ret
              exact ⟨ret_b HF.out, HB2.out⟩
            · have d2 : decide ((100 : Int) < (pt.length : Int)) = false := decide_eq_false h2
              have HA3 : Hid (∀ p ∈ xf.take (j + 1), shortP p) := fun p hp => by
                rw [List.take_succ_eq_append_getElem hj', HPE.out] at hp
                rcases List.mem_append.1 hp with h | h
                · exact HAi.out p h
                · simp at h; subst h; exact ⟨by dsimp only; omega, by dsimp only; omega⟩
              go_wp2_with fail
              go_roundg (xn - (j + 1))
              case measure => omega
              case rel => exact ⟨j + 1, by omega, Nat.le_refl _, by go_num, HB2, HA3⟩
        · have hjn : j = xn := by omega
          have HA4 : Hid (∀ x ∈ es.take (k + 1), ∀ p ∈ x.f, shortP p) := fun x hx => by
            rw [List.take_succ_eq_append_getElem hk', HE.out] at hx
            rcases List.mem_append.1 hx with h | h
            · exact HA.out x h
            · simp at h; subst h
              have := HAi.out
              rwa [hjn, List.take_of_length_le (by rw [HF1.out]; exact Nat.le_refl _)] at this
          go_wp2_with fail
          go_roundg (m - (k + 1))
          case measure => omega
          case rel => exact ⟨k + 1, s', by omega, Nat.le_refl _, by go_num, rfl, HBi, HS2, HA4⟩
    · have hkm : k = m := by omega
      subst hkm
      have HALL : Hid (∀ x ∈ es, ∀ p ∈ x.f, shortP p) := by
        have := HA.out
        rwa [List.take_of_length_le (by rw [HN.out]; exact Nat.le_refl _)] at this
      have hST : k ≤ 80 → s = (total es : Int) := fun h => by
        have := HS.out h
        rwa [List.take_of_length_le (by rw [HN.out]; exact Nat.le_refl _)] at this
      have HST := Lib.hid hST
      clear hST HS HA
      have hq2 : q = (decide (k ≤ 80) && decide (total es ≤ 300)) := by
        rw [← HQ.out]
        unfold fewE
        rw [decide_eq_true HALL.out, Bool.true_and, HN.out]
      have HQ2 := Lib.hid hq2
      clear hq2
      by_cases h80 : (k : Int) ≤ 80
      · have d80 : decide ((k : Int) ≤ 80) = true := decide_eq_true h80
        have hs : s = (total es : Int) := HST.out (by omega)
        subst hs
        by_cases h300 : (total es : Int) ≤ 300
        · have d3 : decide ((total es : Int) ≤ 300) = true := decide_eq_true h300
          have HF : Hid (true = q) := by
            show _ = _
            rw [HQ2.out, decide_eq_true (show k ≤ 80 by omega), decide_eq_true (show total es ≤ 300 by omega)]; rfl
          clear h80 h300
          go_wp2_with fail
          go_ret
          exact ⟨ret_b HF.out, HB.out⟩
        · have d3 : decide ((total es : Int) ≤ 300) = false := decide_eq_false h300
          have HF : Hid (false = q) := by
            show _ = _
            rw [HQ2.out, decide_eq_false (show ¬ total es ≤ 300 by omega), Bool.and_false]
          clear h80 h300
          go_wp2_with fail
          go_ret
          exact ⟨ret_b HF.out, HB.out⟩
      · have d80 : decide ((k : Int) ≤ 80) = false := decide_eq_false h80
        have HF : Hid (false = q) := by
          show _ = _
          rw [HQ2.out, decide_eq_false (show ¬ k ≤ 80 by omega), Bool.false_and]
        clear h80
        go_wp2_with fail
        go_ret
        exact ⟨ret_b HF.out, HB.out⟩
end Go.Proofs.YtoffnfooeojhnaaGreat
namespace Go.Proofs.YtoffnfooeojhnaaGreat
open Go.RowKit Go.Sort Spans Tb
def statesB (s : Sx) : Bool := decide (∀ k ∈ s.ls, k.ad.length ≤ 100) && ((fewE s.av && fewE s.su) && decide (s.ls.length ≤ 30))
theorem pbs_of {xs : List Ex} (h : fewE xs = true) (hb : EBx xs) : PBs xs := fun x hx p hp => by
  have h1 := (fewE_of h).1 x hx p hp
  have h2 := (hb x hx).2.2.2 p hp
  exact ⟨h1.1, h1.2, h2.2.2.1, h2.2.2.2⟩
theorem short_of {xs : List Ex} (h : fewE xs = true) : Short xs := fun x hx => Nat.le_trans ((fewE_of h).2.2 x hx) (by decide)
/-- What is known of a state that States lets in. -/
structure Sx.Ok (s : Sx) : Prop where
  few : s.Few
  pa : PBs s.av
  pu : PBs s.su
  n : s.n ≤ 30
  n1 : s.n1 ≤ 80
  n2 : s.n2 ≤ 80
  ad : ∀ k ∈ s.ls, k.ad.length ≤ 100
  fa : ∀ x ∈ s.av, x.n ≤ 300
  fu : ∀ x ∈ s.su, x.n ≤ 300
theorem ok_of {s : Sx} (h : statesB s = true) (ln : s.Len) (ha : EBx s.av) (hu : EBx s.su) : s.Ok := by
  unfold statesB at h
  simp only [Bool.and_eq_true, decide_eq_true_eq] at h
  obtain ⟨h1, ⟨h2, h3⟩, h4⟩ := h
  have l1 := fewE_of h2
  have l2 := fewE_of h3
  have e0 := ln.n
  have e1 := ln.n1
  have e2 := ln.n2
  exact ⟨⟨by omega, by omega, by omega, short_of h2, short_of h3⟩, pbs_of h2 ha, pbs_of h3 hu, by omega, by omega, by omega, h1, l1.2.2, l2.2.2⟩
set_option maxRecDepth 100000 in
set_option maxHeartbeats 4000000 in
theorem states_at (s : Sx) (ln : s.Len) (hz : s.n ≤ 5900000000000 ∧ s.n1 ≤ 3600000000000 ∧ s.n2 ≤ 3600000000000) (lb : LBx s.ls) (ab : EBx s.av) (ub : EBx s.su) (w : World) (hr : s.Rd w) (q : Bool) (hq : statesB s = q) :
    Calls Tryz.prog 31 #[s.v] w fun e w' => e = .returned (.bool q) ∧ Below w.heap.size w w' := by
  obtain ⟨ep, A, n, c, ls, A1, n1, c1, av, A2, n2, c2, su⟩ := s
  have LN := Lib.hid ln
  have HQ := Lib.hid hq
  have LB := Lib.hid lb
  have AB := Lib.hid ab
  have UB := Lib.hid ub
  obtain ⟨hz0, hz1, hz2⟩ := hz
  dsimp only at hz0 hz1 hz2
  have hB0 := (gr1 w (.cells #[.int .i64 ep, .slice A n c, .slice A1 n1 c1, .slice A2 n2 c2] 52)).below
  have HX0 := Lib.hid (Blk.new w 52 #[.int .i64 ep, .slice A n c, .slice A1 n1 c1, .slice A2 n2 c2])
  have HB0 := Lib.hid hB0
  have HR0 := Lib.hid (hr.below hB0)
  obtain ⟨x0, x1, x2, x3, _⟩ := blk4 HX0.out
  have hl := HX0.out.lt
  obtain ⟨qa, hqa⟩ : ∃ qa, fewE av = qa := ⟨_, rfl⟩
  obtain ⟨qu, hqu⟩ : ∃ qu, fewE su = qu := ⟨_, rfl⟩
  have HQA := Lib.hid hqa
  have HQU := Lib.hid hqu
  clear ln hq lb ab ub hr hB0 hqa hqu
  go_enter Tryz.func31, Tryz.ntmps31
  go_wp2_with fail
  refine (tfew_at A1 av n1 c1 LN.out.n1 (by omega) AB.out _ HR0.out.av qa HQA.out).mono ?_
  rintro e w1 ⟨rfl, hb⟩
  have HB1 := Lib.hid (below_next HB0.out (by have := HB0.out.size; omega) hb)
  have HX1 := Lib.hid (Blk.below HX0.out hb HX0.out.lt)
  have HR1 := Lib.hid (HR0.out.below hb)
  clear hb x0 x1 x2 x3 hl
  obtain ⟨x0, x1, x2, x3, _⟩ := blk4 HX1.out
  have hl := HX1.out.lt
  go_wp2_with fail
  refine (tfew_at A2 su n2 c2 LN.out.n2 (by omega) UB.out _ HR1.out.su qu HQU.out).mono ?_
  rintro e w2 ⟨rfl, hb⟩
  have HB2 := Lib.hid (below_next HB1.out (by have := HB1.out.size; omega) hb)
  have HX2 := Lib.hid (Blk.below HX1.out hb HX1.out.lt)
  have HR2 := Lib.hid (HR1.out.below hb)
  clear hb x0 x1 x2 x3 hl
  obtain ⟨x0, x1, x2, x3, _⟩ := blk4 HX2.out
  have hl := HX2.out.lt
  go_wp2_with fail
  clear x0 x1 x2 x3 hl
  go_loopg [5] n (fun gg s5 wr => ∃ k : Nat, k ≤ n ∧ n - k ≤ gg ∧ s5 = .int .i64 (k : Int) ∧ Hid (wr = w2) ∧ Hid (∀ x ∈ ls.take k, x.ad.length ≤ 100))
  case atStart => exact ⟨0, Nat.zero_le _, by omega, rfl, rfl, by show ∀ _, _; simp⟩
  case round =>
    obtain ⟨k, hk, hgg, rfl, HW, HA⟩ := hrel
    obtain rfl := HW.out
    obtain ⟨x0, x1, x2, x3, _⟩ := blk4 HX2.out
    have hl := HX2.out.lt
    by_cases hlt : k < n
    · have hk' : k < ls.length := by have := LN.out.n; dsimp only at this; omega
      obtain ⟨g, off, rfl, hg, c0, c1⟩ := RdLk.at2 HR2.out.ls hk'
      have hbx := (LB.out _ (List.getElem_mem hk')).1
      obtain ⟨x, hx⟩ : ∃ x, ls[k] = x := ⟨_, rfl⟩
      have HE := Lib.hid hx
      dsimp only at c0 c1
      rw [hx] at c0 c1 hbx
      clear hx
      obtain ⟨xi, xa⟩ := x
      dsimp only at c0 c1 hbx
      have w5 : (k : Int) < (n : Int) := by omega
      have hsz : (⟨xa.toArray⟩ : ByteArray).size = xa.length := by simp [ByteArray.size]
      by_cases h1 : (100 : Int) < (xa.length : Int)
      · have d1 : decide ((100 : Int) < (xa.length : Int)) = true := decide_eq_true h1
        have HF : Hid (false = q) := by
          show _ = _
          rw [← HQ.out]
          unfold statesB
          rw [decide_eq_false (fun hall => ?_), Bool.false_and]
          have := hall _ (List.getElem_mem hk')
          rw [HE.out] at this
          dsimp only at this
          omega
        go_wp2_with fail
        go_ret
        exact ⟨ret_b HF.out, HB2.out⟩
      · have d1 : decide ((100 : Int) < (xa.length : Int)) = false := decide_eq_false h1
        have HA2 : Hid (∀ x ∈ ls.take (k + 1), x.ad.length ≤ 100) := fun y hy => by
          rw [List.take_succ_eq_append_getElem hk', HE.out] at hy
          rcases List.mem_append.1 hy with h | h
          · exact HA.out y h
          · simp at h; subst h; dsimp only; omega
        go_wp2_with fail
        go_roundg (n - (k + 1))
        case measure => omega
        case rel => exact ⟨k + 1, by omega, Nat.le_refl _, by go_num, rfl, HA2⟩
    · have hkm : k = n := by omega
      subst hkm
      have hq2 : q = ((qa && qu) && decide (k ≤ 30)) := by
        rw [← HQ.out, ← HQA.out, ← HQU.out]
        unfold statesB
        have h1 := HA.out
        have h2 := LN.out.n
        dsimp only at h1 h2
        rw [List.take_of_length_le (by omega)] at h1
        rw [decide_eq_true h1, Bool.true_and, h2]
      have HQ2 := Lib.hid hq2
      clear hq2
      by_cases h30 : (k : Int) ≤ 30
      · have d3 : decide ((k : Int) ≤ 30) = true := decide_eq_true h30
        have HF : Hid ((qa && qu) = q) := by show _ = _; rw [HQ2.out, decide_eq_true (show k ≤ 30 by omega), Bool.and_true]
        clear h30
        cases qa <;> cases qu
        all_goals
          go_wp2_with fail
          go_ret
          exact ⟨ret_b HF.out, HB2.out⟩
      · have d3 : decide ((k : Int) ≤ 30) = false := decide_eq_false h30
        have HF : Hid (false = q) := by show _ = _; rw [HQ2.out, decide_eq_false (show ¬ k ≤ 30 by omega), Bool.and_false]
        clear h30
        cases qa <;> cases qu
        all_goals
          go_wp2_with fail
          go_ret
          exact ⟨ret_b HF.out, HB2.out⟩
end Go.Proofs.YtoffnfooeojhnaaGreat
namespace Go.Proofs.YtoffnfooeojhnaaGreat
open Go.RowKit Go.Sort Spans Tb
def pEx : List Pr := [⟨[97], 8, 0, 0, []⟩]
def lEx : List Lk := [⟨1, [120]⟩, ⟨4, []⟩]
theorem nEx : Fil.NormIs pEx pEx 0 := by
  have hp : predsOf [97] any_ = pEx := by decide
  have hc : Canon any_ := .inr (.inl rfl)
  have ha : IsAll pEx any_ := by rw [← hp]; exact preds_all hc (by decide) (by decide) (by decide)
  exact (good97 (f := pEx) (a := any_) ⟨by decide, by decide⟩ ⟨by decide, by decide⟩ ha (by decide) hp (by decide)).norm
theorem rEx : Tb.Right ⟨3, lEx, [], [⟨7, 4, pEx⟩]⟩ := by
  refine ⟨by decide, by decide, ⟨by decide, ⟨by decide, by decide⟩, by decide⟩, ⟨by decide, rise_nil, fun e he => by cases he⟩, ⟨by show 1 ≤ 64; decide, ⟨by simp, by decide⟩, fun e he => ?_⟩⟩
  simp at he
  subst he
  exact ⟨⟨⟨4, []⟩, by decide, rfl⟩, nEx⟩
theorem rZero : Tb.Right ⟨0, [], [], []⟩ := ⟨by decide, by decide, ⟨by decide, rise_nil, fun e he => by cases he⟩, ⟨by decide, rise_nil, fun e he => by cases he⟩, ⟨by decide, rise_nil, fun e he => by cases he⟩⟩
theorem rBad : ¬ Tb.Right ⟨0, [], [], [⟨7, 4, pEx⟩]⟩ := fun h => by
  obtain ⟨k, hk, _⟩ := (h.su.2.2 _ (List.mem_singleton.2 rfl)).1
  cases hk
abbrev sEx (b : Nat) : Sx := ⟨3, some ⟨b + 1, 0, none⟩, 2, 2, lEx, none, 0, 0, [], some ⟨b + 1 + 1, 0, none⟩, 1, 1, [⟨7, 4, some ⟨b, 0, none⟩, 1, 1, pEx⟩]⟩
abbrev bEx (b : Nat) : Sx := ⟨0, none, 0, 0, [], none, 0, 0, [], some ⟨b + 1 + 1, 0, none⟩, 1, 1, [⟨7, 4, some ⟨b, 0, none⟩, 1, 1, pEx⟩]⟩
abbrev zEx : Sx := ⟨0, none, 0, 0, [], none, 0, 0, [], none, 0, 0, []⟩
theorem short1 (b : Nat) : Short [(⟨7, 4, some ⟨b, 0, none⟩, 1, 1, pEx⟩ : Ex)] := fun x hx => by simp at hx; subst hx; show 1 ≤ 100000; decide
theorem pbs1 (b : Nat) : PBs [(⟨7, 4, some ⟨b, 0, none⟩, 1, 1, pEx⟩ : Ex)] := fun x hx => by simp at hx; subst hx; intro p hp; simp [pEx] at hp; subst hp; decide
theorem short0 : Short [] := fun x hx => by cases hx
theorem pbs0 : PBs [] := fun x hx => by cases hx
theorem few_of {s t : Sx} (f : s.Few) (ls : s.Len) {w w0 : World} (hr' : s.Rd w0) (e : t.bk = s.bk) (lt : t.Len) (hr : t.Rd w) : t.Few := by
  have e1 : t.ls = s.ls := congrArg Bk.ls e
  have e2 : t.av.map Ex.en = s.av.map Ex.en := congrArg Bk.av e
  have e3 : t.su.map Ex.en = s.su.map Ex.en := congrArg Bk.su e
  have l2 : t.av.length = s.av.length := by have := congrArg List.length e2; simpa using this
  have l3 : t.su.length = s.su.length := by have := congrArg List.length e3; simpa using this
  have sh : ∀ (xs ys : List Ex), xs.map Ex.en = ys.map Ex.en → (∀ x ∈ xs, Flt w x) → (∀ y ∈ ys, y.f.length ≤ 100000) → Short xs := fun xs ys h hf hs x hx => by
    have h1 : x.en ∈ ys.map Ex.en := by rw [← h]; exact List.mem_map.2 ⟨x, hx, rfl⟩
    obtain ⟨y, hy, hye⟩ := List.mem_map.1 h1
    have h2 := (hf x hx).1
    have h3 : y.f = x.f := congrArg En.f hye
    have h4 := hs y hy
    rw [h3] at h4
    omega
  have f1 := f.n
  have f2 := f.n1
  have f3 := f.n2
  exact ⟨by rw [← lt.n, e1, ls.n]; exact f1, by rw [← lt.n1, l2, ls.n1]; exact f2, by rw [← lt.n2, l3, ls.n2]; exact f3,
    sh _ _ e2 hr.av.2 (fun y hy => by have := (hr'.av.2 y hy).1; have := f.av y hy; omega), sh _ _ e3 hr.su.2 (fun y hy => by have := (hr'.su.2 y hy).1; have := f.su y hy; omega)⟩
set_option maxRecDepth 100000 in
set_option maxHeartbeats 4000000 in
theorem tsmall_at (w : World) : Calls Tryz.prog 30 #[] w fun e w' => e = .returned (.bool true) ∧ Below w.heap.size w w' := by
  have hrp : RdQ (w.alloc (.cells #[.string ⟨#[97]⟩, .int .i64 8, .int .i64 0, .int .i64 0, .string ⟨#[]⟩] 35)) (some ⟨w.heap.size, 0, none⟩) pEx := rdk_lit layP w pEx 35 #[.string ⟨#[97]⟩, .int .i64 8, .int .i64 0, .int .i64 0, .string ⟨#[]⟩] rfl
  have hb1 : Below w.heap.size w (w.alloc (.cells #[.string ⟨#[97]⟩, .int .i64 8, .int .i64 0, .int .i64 0, .string ⟨#[]⟩] 35)) := (gr1 w _).below
  have hs1 : (w.alloc (.cells #[.string ⟨#[97]⟩, .int .i64 8, .int .i64 0, .int .i64 0, .string ⟨#[]⟩] 35)).heap.size = w.heap.size + 1 := by simp
  have hrl : RdLk ((w.alloc (.cells #[.string ⟨#[97]⟩, .int .i64 8, .int .i64 0, .int .i64 0, .string ⟨#[]⟩] 35)).alloc (.cells #[.int .i64 1, .string ⟨#[120]⟩, .int .i64 4, .string ⟨#[]⟩] 64)) (some ⟨(w.alloc (.cells #[.string ⟨#[97]⟩, .int .i64 8, .int .i64 0, .int .i64 0, .string ⟨#[]⟩] 35)).heap.size, 0, none⟩) lEx := rdk_lit layL (w.alloc (.cells #[.string ⟨#[97]⟩, .int .i64 8, .int .i64 0, .int .i64 0, .string ⟨#[]⟩] 35)) lEx 64 #[.int .i64 1, .string ⟨#[120]⟩, .int .i64 4, .string ⟨#[]⟩] rfl
  have hb2 : Below (w.alloc (.cells #[.string ⟨#[97]⟩, .int .i64 8, .int .i64 0, .int .i64 0, .string ⟨#[]⟩] 35)).heap.size (w.alloc (.cells #[.string ⟨#[97]⟩, .int .i64 8, .int .i64 0, .int .i64 0, .string ⟨#[]⟩] 35)) ((w.alloc (.cells #[.string ⟨#[97]⟩, .int .i64 8, .int .i64 0, .int .i64 0, .string ⟨#[]⟩] 35)).alloc (.cells #[.int .i64 1, .string ⟨#[120]⟩, .int .i64 4, .string ⟨#[]⟩] 64)) := (gr1 _ _).below
  have hs2 : ((w.alloc (.cells #[.string ⟨#[97]⟩, .int .i64 8, .int .i64 0, .int .i64 0, .string ⟨#[]⟩] 35)).alloc (.cells #[.int .i64 1, .string ⟨#[120]⟩, .int .i64 4, .string ⟨#[]⟩] 64)).heap.size = w.heap.size + 1 + 1 := by simp
  have hre : RdK layE (((w.alloc (.cells #[.string ⟨#[97]⟩, .int .i64 8, .int .i64 0, .int .i64 0, .string ⟨#[]⟩] 35)).alloc (.cells #[.int .i64 1, .string ⟨#[120]⟩, .int .i64 4, .string ⟨#[]⟩] 64)).alloc (.cells #[.int .i64 7, .int .i64 4, .slice (some ⟨w.heap.size, 0, none⟩) 1 1] 58)) (some ⟨((w.alloc (.cells #[.string ⟨#[97]⟩, .int .i64 8, .int .i64 0, .int .i64 0, .string ⟨#[]⟩] 35)).alloc (.cells #[.int .i64 1, .string ⟨#[120]⟩, .int .i64 4, .string ⟨#[]⟩] 64)).heap.size, 0, none⟩) [(⟨7, 4, some ⟨w.heap.size, 0, none⟩, 1, 1, pEx⟩ : Ex)] := rdk_lit layE ((w.alloc (.cells #[.string ⟨#[97]⟩, .int .i64 8, .int .i64 0, .int .i64 0, .string ⟨#[]⟩] 35)).alloc (.cells #[.int .i64 1, .string ⟨#[120]⟩, .int .i64 4, .string ⟨#[]⟩] 64)) [(⟨7, 4, some ⟨w.heap.size, 0, none⟩, 1, 1, pEx⟩ : Ex)] 58 #[.int .i64 7, .int .i64 4, .slice (some ⟨w.heap.size, 0, none⟩) 1 1] rfl
  have hb3 : Below ((w.alloc (.cells #[.string ⟨#[97]⟩, .int .i64 8, .int .i64 0, .int .i64 0, .string ⟨#[]⟩] 35)).alloc (.cells #[.int .i64 1, .string ⟨#[120]⟩, .int .i64 4, .string ⟨#[]⟩] 64)).heap.size ((w.alloc (.cells #[.string ⟨#[97]⟩, .int .i64 8, .int .i64 0, .int .i64 0, .string ⟨#[]⟩] 35)).alloc (.cells #[.int .i64 1, .string ⟨#[120]⟩, .int .i64 4, .string ⟨#[]⟩] 64)) (((w.alloc (.cells #[.string ⟨#[97]⟩, .int .i64 8, .int .i64 0, .int .i64 0, .string ⟨#[]⟩] 35)).alloc (.cells #[.int .i64 1, .string ⟨#[120]⟩, .int .i64 4, .string ⟨#[]⟩] 64)).alloc (.cells #[.int .i64 7, .int .i64 4, .slice (some ⟨w.heap.size, 0, none⟩) 1 1] 58)) := (gr1 _ _).below
  have hs3 : (((w.alloc (.cells #[.string ⟨#[97]⟩, .int .i64 8, .int .i64 0, .int .i64 0, .string ⟨#[]⟩] 35)).alloc (.cells #[.int .i64 1, .string ⟨#[120]⟩, .int .i64 4, .string ⟨#[]⟩] 64)).alloc (.cells #[.int .i64 7, .int .i64 4, .slice (some ⟨w.heap.size, 0, none⟩) 1 1] 58)).heap.size = w.heap.size + 1 + 1 + 1 := by simp
  have hb4 : Below (((w.alloc (.cells #[.string ⟨#[97]⟩, .int .i64 8, .int .i64 0, .int .i64 0, .string ⟨#[]⟩] 35)).alloc (.cells #[.int .i64 1, .string ⟨#[120]⟩, .int .i64 4, .string ⟨#[]⟩] 64)).alloc (.cells #[.int .i64 7, .int .i64 4, .slice (some ⟨w.heap.size, 0, none⟩) 1 1] 58)).heap.size (((w.alloc (.cells #[.string ⟨#[97]⟩, .int .i64 8, .int .i64 0, .int .i64 0, .string ⟨#[]⟩] 35)).alloc (.cells #[.int .i64 1, .string ⟨#[120]⟩, .int .i64 4, .string ⟨#[]⟩] 64)).alloc (.cells #[.int .i64 7, .int .i64 4, .slice (some ⟨w.heap.size, 0, none⟩) 1 1] 58)) ((((w.alloc (.cells #[.string ⟨#[97]⟩, .int .i64 8, .int .i64 0, .int .i64 0, .string ⟨#[]⟩] 35)).alloc (.cells #[.int .i64 1, .string ⟨#[120]⟩, .int .i64 4, .string ⟨#[]⟩] 64)).alloc (.cells #[.int .i64 7, .int .i64 4, .slice (some ⟨w.heap.size, 0, none⟩) 1 1] 58)).alloc (.cells #[.int .i64 3, .slice (some ⟨w.heap.size + 1, 0, none⟩) 2 2, .slice none 0 0, .slice (some ⟨w.heap.size + 1 + 1, 0, none⟩) 1 1] 52)) := (gr1 _ _).below
  have hb5 : Below ((((w.alloc (.cells #[.string ⟨#[97]⟩, .int .i64 8, .int .i64 0, .int .i64 0, .string ⟨#[]⟩] 35)).alloc (.cells #[.int .i64 1, .string ⟨#[120]⟩, .int .i64 4, .string ⟨#[]⟩] 64)).alloc (.cells #[.int .i64 7, .int .i64 4, .slice (some ⟨w.heap.size, 0, none⟩) 1 1] 58)).alloc (.cells #[.int .i64 3, .slice (some ⟨w.heap.size + 1, 0, none⟩) 2 2, .slice none 0 0, .slice (some ⟨w.heap.size + 1 + 1, 0, none⟩) 1 1] 52)).heap.size ((((w.alloc (.cells #[.string ⟨#[97]⟩, .int .i64 8, .int .i64 0, .int .i64 0, .string ⟨#[]⟩] 35)).alloc (.cells #[.int .i64 1, .string ⟨#[120]⟩, .int .i64 4, .string ⟨#[]⟩] 64)).alloc (.cells #[.int .i64 7, .int .i64 4, .slice (some ⟨w.heap.size, 0, none⟩) 1 1] 58)).alloc (.cells #[.int .i64 3, .slice (some ⟨w.heap.size + 1, 0, none⟩) 2 2, .slice none 0 0, .slice (some ⟨w.heap.size + 1 + 1, 0, none⟩) 1 1] 52)) (((((w.alloc (.cells #[.string ⟨#[97]⟩, .int .i64 8, .int .i64 0, .int .i64 0, .string ⟨#[]⟩] 35)).alloc (.cells #[.int .i64 1, .string ⟨#[120]⟩, .int .i64 4, .string ⟨#[]⟩] 64)).alloc (.cells #[.int .i64 7, .int .i64 4, .slice (some ⟨w.heap.size, 0, none⟩) 1 1] 58)).alloc (.cells #[.int .i64 3, .slice (some ⟨w.heap.size + 1, 0, none⟩) 2 2, .slice none 0 0, .slice (some ⟨w.heap.size + 1 + 1, 0, none⟩) 1 1] 52)).alloc (.cells #[.int .i64 0, .slice none 0 0, .slice none 0 0, .slice (some ⟨w.heap.size + 1 + 1, 0, none⟩) 1 1] 52)) := (gr1 _ _).below
  have hX := Blk.new (((w.alloc (.cells #[.string ⟨#[97]⟩, .int .i64 8, .int .i64 0, .int .i64 0, .string ⟨#[]⟩] 35)).alloc (.cells #[.int .i64 1, .string ⟨#[120]⟩, .int .i64 4, .string ⟨#[]⟩] 64)).alloc (.cells #[.int .i64 7, .int .i64 4, .slice (some ⟨w.heap.size, 0, none⟩) 1 1] 58)) 52 #[.int .i64 3, .slice (some ⟨w.heap.size + 1, 0, none⟩) 2 2, .slice none 0 0, .slice (some ⟨w.heap.size + 1 + 1, 0, none⟩) 1 1]
  have hY := Blk.new ((((w.alloc (.cells #[.string ⟨#[97]⟩, .int .i64 8, .int .i64 0, .int .i64 0, .string ⟨#[]⟩] 35)).alloc (.cells #[.int .i64 1, .string ⟨#[120]⟩, .int .i64 4, .string ⟨#[]⟩] 64)).alloc (.cells #[.int .i64 7, .int .i64 4, .slice (some ⟨w.heap.size, 0, none⟩) 1 1] 58)).alloc (.cells #[.int .i64 3, .slice (some ⟨w.heap.size + 1, 0, none⟩) 2 2, .slice none 0 0, .slice (some ⟨w.heap.size + 1 + 1, 0, none⟩) 1 1] 52)) 52 #[.int .i64 0, .slice none 0 0, .slice none 0 0, .slice (some ⟨w.heap.size + 1 + 1, 0, none⟩) 1 1]
  have hs4 : ((((w.alloc (.cells #[.string ⟨#[97]⟩, .int .i64 8, .int .i64 0, .int .i64 0, .string ⟨#[]⟩] 35)).alloc (.cells #[.int .i64 1, .string ⟨#[120]⟩, .int .i64 4, .string ⟨#[]⟩] 64)).alloc (.cells #[.int .i64 7, .int .i64 4, .slice (some ⟨w.heap.size, 0, none⟩) 1 1] 58)).alloc (.cells #[.int .i64 3, .slice (some ⟨w.heap.size + 1, 0, none⟩) 2 2, .slice none 0 0, .slice (some ⟨w.heap.size + 1 + 1, 0, none⟩) 1 1] 52)).heap.size = w.heap.size + 1 + 1 + 1 + 1 := by simp
  rw [hs1] at hrl
  rw [hs2] at hre
  rw [hs3] at hX
  rw [hs4] at hY
  have HX : Hid (Blk (((((w.alloc (.cells #[.string ⟨#[97]⟩, .int .i64 8, .int .i64 0, .int .i64 0, .string ⟨#[]⟩] 35)).alloc (.cells #[.int .i64 1, .string ⟨#[120]⟩, .int .i64 4, .string ⟨#[]⟩] 64)).alloc (.cells #[.int .i64 7, .int .i64 4, .slice (some ⟨w.heap.size, 0, none⟩) 1 1] 58)).alloc (.cells #[.int .i64 3, .slice (some ⟨w.heap.size + 1, 0, none⟩) 2 2, .slice none 0 0, .slice (some ⟨w.heap.size + 1 + 1, 0, none⟩) 1 1] 52)).alloc (.cells #[.int .i64 0, .slice none 0 0, .slice none 0 0, .slice (some ⟨w.heap.size + 1 + 1, 0, none⟩) 1 1] 52)) (w.heap.size + 1 + 1 + 1) 52 #[.int .i64 3, .slice (some ⟨w.heap.size + 1, 0, none⟩) 2 2, .slice none 0 0, .slice (some ⟨w.heap.size + 1 + 1, 0, none⟩) 1 1]) := Blk.below hX hb5 hX.lt
  have HY : Hid (Blk (((((w.alloc (.cells #[.string ⟨#[97]⟩, .int .i64 8, .int .i64 0, .int .i64 0, .string ⟨#[]⟩] 35)).alloc (.cells #[.int .i64 1, .string ⟨#[120]⟩, .int .i64 4, .string ⟨#[]⟩] 64)).alloc (.cells #[.int .i64 7, .int .i64 4, .slice (some ⟨w.heap.size, 0, none⟩) 1 1] 58)).alloc (.cells #[.int .i64 3, .slice (some ⟨w.heap.size + 1, 0, none⟩) 2 2, .slice none 0 0, .slice (some ⟨w.heap.size + 1 + 1, 0, none⟩) 1 1] 52)).alloc (.cells #[.int .i64 0, .slice none 0 0, .slice none 0 0, .slice (some ⟨w.heap.size + 1 + 1, 0, none⟩) 1 1] 52)) (w.heap.size + 1 + 1 + 1 + 1) 52 #[.int .i64 0, .slice none 0 0, .slice none 0 0, .slice (some ⟨w.heap.size + 1 + 1, 0, none⟩) 1 1]) := hY
  have hf : Flt (((((w.alloc (.cells #[.string ⟨#[97]⟩, .int .i64 8, .int .i64 0, .int .i64 0, .string ⟨#[]⟩] 35)).alloc (.cells #[.int .i64 1, .string ⟨#[120]⟩, .int .i64 4, .string ⟨#[]⟩] 64)).alloc (.cells #[.int .i64 7, .int .i64 4, .slice (some ⟨w.heap.size, 0, none⟩) 1 1] 58)).alloc (.cells #[.int .i64 3, .slice (some ⟨w.heap.size + 1, 0, none⟩) 2 2, .slice none 0 0, .slice (some ⟨w.heap.size + 1 + 1, 0, none⟩) 1 1] 52)).alloc (.cells #[.int .i64 0, .slice none 0 0, .slice none 0 0, .slice (some ⟨w.heap.size + 1 + 1, 0, none⟩) 1 1] 52)) ⟨7, 4, some ⟨w.heap.size, 0, none⟩, 1, 1, pEx⟩ := ⟨rfl, Nat.le_refl _, RdK.below (RdK.below (RdK.below (RdK.below hrp hb2) hb3) hb4) hb5⟩
  have hr5 : RdK layE (((((w.alloc (.cells #[.string ⟨#[97]⟩, .int .i64 8, .int .i64 0, .int .i64 0, .string ⟨#[]⟩] 35)).alloc (.cells #[.int .i64 1, .string ⟨#[120]⟩, .int .i64 4, .string ⟨#[]⟩] 64)).alloc (.cells #[.int .i64 7, .int .i64 4, .slice (some ⟨w.heap.size, 0, none⟩) 1 1] 58)).alloc (.cells #[.int .i64 3, .slice (some ⟨w.heap.size + 1, 0, none⟩) 2 2, .slice none 0 0, .slice (some ⟨w.heap.size + 1 + 1, 0, none⟩) 1 1] 52)).alloc (.cells #[.int .i64 0, .slice none 0 0, .slice none 0 0, .slice (some ⟨w.heap.size + 1 + 1, 0, none⟩) 1 1] 52)) (some ⟨w.heap.size + 1 + 1, 0, none⟩) [(⟨7, 4, some ⟨w.heap.size, 0, none⟩, 1, 1, pEx⟩ : Ex)] := RdK.below (RdK.below hre hb4) hb5
  have HRE : Hid (RdEn (((((w.alloc (.cells #[.string ⟨#[97]⟩, .int .i64 8, .int .i64 0, .int .i64 0, .string ⟨#[]⟩] 35)).alloc (.cells #[.int .i64 1, .string ⟨#[120]⟩, .int .i64 4, .string ⟨#[]⟩] 64)).alloc (.cells #[.int .i64 7, .int .i64 4, .slice (some ⟨w.heap.size, 0, none⟩) 1 1] 58)).alloc (.cells #[.int .i64 3, .slice (some ⟨w.heap.size + 1, 0, none⟩) 2 2, .slice none 0 0, .slice (some ⟨w.heap.size + 1 + 1, 0, none⟩) 1 1] 52)).alloc (.cells #[.int .i64 0, .slice none 0 0, .slice none 0 0, .slice (some ⟨w.heap.size + 1 + 1, 0, none⟩) 1 1] 52)) (some ⟨w.heap.size + 1 + 1, 0, none⟩) [(⟨7, 4, some ⟨w.heap.size, 0, none⟩, 1, 1, pEx⟩ : Ex)]) := ⟨hr5, fun x hx => by simp at hx; subst hx; exact hf⟩
  have HS : Hid (Sx.Rd (((((w.alloc (.cells #[.string ⟨#[97]⟩, .int .i64 8, .int .i64 0, .int .i64 0, .string ⟨#[]⟩] 35)).alloc (.cells #[.int .i64 1, .string ⟨#[120]⟩, .int .i64 4, .string ⟨#[]⟩] 64)).alloc (.cells #[.int .i64 7, .int .i64 4, .slice (some ⟨w.heap.size, 0, none⟩) 1 1] 58)).alloc (.cells #[.int .i64 3, .slice (some ⟨w.heap.size + 1, 0, none⟩) 2 2, .slice none 0 0, .slice (some ⟨w.heap.size + 1 + 1, 0, none⟩) 1 1] 52)).alloc (.cells #[.int .i64 0, .slice none 0 0, .slice none 0 0, .slice (some ⟨w.heap.size + 1 + 1, 0, none⟩) 1 1] 52)) (sEx w.heap.size)) := ⟨RdK.below (RdK.below (RdK.below hrl hb3) hb4) hb5, RdEn.nil _ _, HRE.out⟩
  have HBS : Hid (Sx.Rd (((((w.alloc (.cells #[.string ⟨#[97]⟩, .int .i64 8, .int .i64 0, .int .i64 0, .string ⟨#[]⟩] 35)).alloc (.cells #[.int .i64 1, .string ⟨#[120]⟩, .int .i64 4, .string ⟨#[]⟩] 64)).alloc (.cells #[.int .i64 7, .int .i64 4, .slice (some ⟨w.heap.size, 0, none⟩) 1 1] 58)).alloc (.cells #[.int .i64 3, .slice (some ⟨w.heap.size + 1, 0, none⟩) 2 2, .slice none 0 0, .slice (some ⟨w.heap.size + 1 + 1, 0, none⟩) 1 1] 52)).alloc (.cells #[.int .i64 0, .slice none 0 0, .slice none 0 0, .slice (some ⟨w.heap.size + 1 + 1, 0, none⟩) 1 1] 52)) (bEx w.heap.size)) := ⟨.inl rfl, RdEn.nil _ _, HRE.out⟩
  have HB : Hid (Below w.heap.size w (((((w.alloc (.cells #[.string ⟨#[97]⟩, .int .i64 8, .int .i64 0, .int .i64 0, .string ⟨#[]⟩] 35)).alloc (.cells #[.int .i64 1, .string ⟨#[120]⟩, .int .i64 4, .string ⟨#[]⟩] 64)).alloc (.cells #[.int .i64 7, .int .i64 4, .slice (some ⟨w.heap.size, 0, none⟩) 1 1] 58)).alloc (.cells #[.int .i64 3, .slice (some ⟨w.heap.size + 1, 0, none⟩) 2 2, .slice none 0 0, .slice (some ⟨w.heap.size + 1 + 1, 0, none⟩) 1 1] 52)).alloc (.cells #[.int .i64 0, .slice none 0 0, .slice none 0 0, .slice (some ⟨w.heap.size + 1 + 1, 0, none⟩) 1 1] 52))) := (gr1 _ _).below.trans (((((gr1 (w.alloc (.cells #[.string ⟨#[97]⟩, .int .i64 8, .int .i64 0, .int .i64 0, .string ⟨#[]⟩] 35)) _).alloc _).alloc _).alloc _).below.mono (by rw [hs1]; omega))
  have hw5 : (((((w.alloc (.cells #[.string ⟨#[97]⟩, .int .i64 8, .int .i64 0, .int .i64 0, .string ⟨#[]⟩] 35)).alloc (.cells #[.int .i64 1, .string ⟨#[120]⟩, .int .i64 4, .string ⟨#[]⟩] 64)).alloc (.cells #[.int .i64 7, .int .i64 4, .slice (some ⟨w.heap.size, 0, none⟩) 1 1] 58)).alloc (.cells #[.int .i64 3, .slice (some ⟨w.heap.size + 1, 0, none⟩) 2 2, .slice none 0 0, .slice (some ⟨w.heap.size + 1 + 1, 0, none⟩) 1 1] 52)).alloc (.cells #[.int .i64 0, .slice none 0 0, .slice none 0 0, .slice (some ⟨w.heap.size + 1 + 1, 0, none⟩) 1 1] 52)).heap.size = w.heap.size + 1 + 1 + 1 + 1 + 1 := by simp
  clear hrp hb1 hs1 hrl hb2 hs2 hre hb3 hs3 hb4 hb5 hX hY hs4 hf hr5
  go_enter Tryz.func30, Tryz.ntmps30
  go_wp2_with fail
  generalize (((((w.alloc (.cells #[.string ⟨#[97]⟩, .int .i64 8, .int .i64 0, .int .i64 0, .string ⟨#[]⟩] 35)).alloc (.cells #[.int .i64 1, .string ⟨#[120]⟩, .int .i64 4, .string ⟨#[]⟩] 64)).alloc (.cells #[.int .i64 7, .int .i64 4, .slice (some ⟨w.heap.size, 0, none⟩) 1 1] 58)).alloc (.cells #[.int .i64 3, .slice (some ⟨w.heap.size + 1, 0, none⟩) 2 2, .slice none 0 0, .slice (some ⟨w.heap.size + 1 + 1, 0, none⟩) 1 1] 52)).alloc (.cells #[.int .i64 0, .slice none 0 0, .slice none 0 0, .slice (some ⟨w.heap.size + 1 + 1, 0, none⟩) 1 1] 52)) = w5 at *
  generalize hbb : w.heap.size = b at *
  refine (link_at (sEx b) 4 rfl (by show 2 ≤ 100000; decide) w5 HS.out.ls (some ⟨4, []⟩) rfl).mono ?_
  rintro e w6 ⟨rfl, hb⟩
  replace HX := Lib.hid (Blk.below HX.out hb HX.out.lt)
  replace HY := Lib.hid (Blk.below HY.out hb HY.out.lt)
  replace HRE := Lib.hid (HRE.out.below hb)
  replace HS := Lib.hid (HS.out.below hb)
  replace HBS := Lib.hid (HBS.out.below hb)
  replace HB := Lib.hid (below_next HB.out (by have := HB.out.size; omega) hb)
  clear hb
  obtain ⟨x0, x1, x2, x3, _⟩ := blk4 HX.out
  have hlx := HX.out.lt
  have hN4 := (gr1 w6 (.cells #[.int .i64 4, .string ⟨#[]⟩] 64)).below
  have x3' := (hN4.cell (p := ⟨b + 1 + 1 + 1, 3, none⟩) hlx).trans x3
  go_wp2_with fail
  clear x0 x1 x2 x3 x3' hlx hN4
  have hb : Below w6.heap.size w6 (w6.alloc (.cells #[.int .i64 4, .string ⟨#[]⟩] 64)) := (gr1 w6 _).below
  have HL4 := Lib.hid (Blk.new w6 64 #[.int .i64 4, .string ⟨#[]⟩])
  replace HX := Lib.hid (Blk.below HX.out hb HX.out.lt)
  replace HY := Lib.hid (Blk.below HY.out hb HY.out.lt)
  replace HRE := Lib.hid (HRE.out.below hb)
  replace HS := Lib.hid (HS.out.below hb)
  replace HBS := Lib.hid (HBS.out.below hb)
  replace HB := Lib.hid (below_next HB.out (by have := HB.out.size; omega) hb)
  clear hb
  generalize w6.alloc (.cells #[.int .i64 4, .string ⟨#[]⟩] 64) = w7 at *
  generalize w6.heap.size = p4 at *
  refine (find_at (some ⟨b + 1 + 1, 0, none⟩) [(⟨7, 4, some ⟨b, 0, none⟩, 1, 1, pEx⟩ : Ex)] 1 1 7 rfl (by decide) (short1 b) w7 HRE.out (some ⟨7, 4, pEx⟩) rfl).mono ?_
  rintro e w8 ⟨⟨yi, yr, yA, yn, yc, yf⟩, rfl, hye, hfl, hb⟩
  injection hye with e1 e2 e3
  subst e1; subst e2; subst e3
  have HFY := Lib.hid hfl.rd
  clear hfl
  replace HX := Lib.hid (Blk.below HX.out hb HX.out.lt)
  replace HY := Lib.hid (Blk.below HY.out hb HY.out.lt)
  replace HRE := Lib.hid (HRE.out.below hb)
  replace HS := Lib.hid (HS.out.below hb)
  replace HBS := Lib.hid (HBS.out.below hb)
  replace HB := Lib.hid (below_next HB.out (by have := HB.out.size; omega) hb)
  replace HL4 := Lib.hid (Blk.below HL4.out hb HL4.out.lt)
  clear hb
  obtain ⟨x0, x1, x2, x3, _⟩ := blk4 HX.out
  have hlx := HX.out.lt
  have hN4 := (gr1 w8 (.cells #[.int .i64 7, .int .i64 4, .slice yA yn yc] 58)).below
  have x3' := (hN4.cell (p := ⟨b + 1 + 1 + 1, 3, none⟩) hlx).trans x3
  go_wp2_with fail
  clear x0 x1 x2 x3 x3' hlx hN4
  have hb : Below w8.heap.size w8 (w8.alloc (.cells #[.int .i64 7, .int .i64 4, .slice yA yn yc] 58)) := (gr1 w8 _).below
  have HE6 := Lib.hid (Blk.new w8 58 #[.int .i64 7, .int .i64 4, .slice yA yn yc])
  replace HX := Lib.hid (Blk.below HX.out hb HX.out.lt)
  replace HY := Lib.hid (Blk.below HY.out hb HY.out.lt)
  replace HRE := Lib.hid (HRE.out.below hb)
  replace HS := Lib.hid (HS.out.below hb)
  replace HBS := Lib.hid (HBS.out.below hb)
  replace HB := Lib.hid (below_next HB.out (by have := HB.out.size; omega) hb)
  replace HL4 := Lib.hid (Blk.below HL4.out hb HL4.out.lt)
  replace HFY := Lib.hid (HFY.out.below hb)
  clear hb
  generalize w8.alloc (.cells #[.int .i64 7, .int .i64 4, .slice yA yn yc] 58) = w9 at *
  generalize w8.heap.size = p6 at *
  refine (find_at (some ⟨b + 1 + 1, 0, none⟩) [(⟨7, 4, some ⟨b, 0, none⟩, 1, 1, pEx⟩ : Ex)] 1 1 8 rfl (by decide) (short1 b) w9 HRE.out none rfl).mono ?_
  rintro e w10 ⟨⟨zi, zr, zA, zn, zc, zf⟩, rfl, hze, hzl, hb⟩
  clear hze hzl
  replace HX := Lib.hid (Blk.below HX.out hb HX.out.lt)
  replace HY := Lib.hid (Blk.below HY.out hb HY.out.lt)
  replace HRE := Lib.hid (HRE.out.below hb)
  replace HS := Lib.hid (HS.out.below hb)
  replace HBS := Lib.hid (HBS.out.below hb)
  replace HB := Lib.hid (below_next HB.out (by have := HB.out.size; omega) hb)
  replace HL4 := Lib.hid (Blk.below HL4.out hb HL4.out.lt)
  replace HFY := Lib.hid (HFY.out.below hb)
  replace HE6 := Lib.hid (Blk.below HE6.out hb HE6.out.lt)
  clear hb
  obtain ⟨x0, x1, x2, x3, _⟩ := blk4 HX.out
  have hlx := HX.out.lt
  have hN4 := (gr1 w10 (.cells #[.int .i64 zi, .int .i64 zr, .slice zA zn zc] 58)).below
  have x0' := (hN4.cell (p := ⟨b + 1 + 1 + 1, 0, none⟩) hlx).trans x0
  have x1' := (hN4.cell (p := ⟨b + 1 + 1 + 1, 1, none⟩) hlx).trans x1
  have x2' := (hN4.cell (p := ⟨b + 1 + 1 + 1, 2, none⟩) hlx).trans x2
  have x3' := (hN4.cell (p := ⟨b + 1 + 1 + 1, 3, none⟩) hlx).trans x3
  go_wp2_with fail
  clear x0 x1 x2 x3 x0' x1' x2' x3' hlx hN4
  have hb : Below w10.heap.size w10 (w10.alloc (.cells #[.int .i64 zi, .int .i64 zr, .slice zA zn zc] 58)) := (gr1 w10 _).below
  replace HX := Lib.hid (Blk.below HX.out hb HX.out.lt)
  replace HY := Lib.hid (Blk.below HY.out hb HY.out.lt)
  replace HRE := Lib.hid (HRE.out.below hb)
  replace HS := Lib.hid (HS.out.below hb)
  replace HBS := Lib.hid (HBS.out.below hb)
  replace HB := Lib.hid (below_next HB.out (by have := HB.out.size; omega) hb)
  replace HL4 := Lib.hid (Blk.below HL4.out hb HL4.out.lt)
  replace HFY := Lib.hid (HFY.out.below hb)
  replace HE6 := Lib.hid (Blk.below HE6.out hb HE6.out.lt)
  clear hb
  generalize w10.alloc (.cells #[.int .i64 zi, .int .i64 zr, .slice zA zn zc] 58) = w11 at *
  generalize w10.heap.size = p8 at *
  have hlen : (sEx b).Len := ⟨rfl, by show 2 ≤ 2; decide, rfl, by show 0 ≤ 0; decide, rfl, by show 1 ≤ 1; decide⟩
  have hfew : (sEx b).Few := ⟨by show 2 ≤ 100000; decide, by show 0 ≤ 100000; decide, by show 1 ≤ 100000; decide, short0, short1 b⟩
  refine (copySt_at (sEx b) hlen hfew w11 HS.out).mono ?_
  rintro e w12 ⟨⟨tep, tA, tn, tc, tls, tA1, tn1, tc1, tav, tA2, tn2, tc2, tsu⟩, rfl, htb, htl, hto, hb⟩
  have HT := Lib.hid hto.rd
  clear hto
  replace HX := Lib.hid (Blk.below HX.out hb HX.out.lt)
  replace HY := Lib.hid (Blk.below HY.out hb HY.out.lt)
  replace HRE := Lib.hid (HRE.out.below hb)
  replace HS := Lib.hid (HS.out.below hb)
  replace HBS := Lib.hid (HBS.out.below hb)
  replace HB := Lib.hid (below_next HB.out (by have := HB.out.size; omega) hb)
  replace HL4 := Lib.hid (Blk.below HL4.out hb HL4.out.lt)
  replace HFY := Lib.hid (HFY.out.below hb)
  replace HE6 := Lib.hid (Blk.below HE6.out hb HE6.out.lt)
  clear hb
  have hb : Below w12.heap.size w12 (w12.alloc (.cells #[.int .i64 tep, .slice tA tn tc, .slice tA1 tn1 tc1, .slice tA2 tn2 tc2] 52)) := (gr1 w12 _).below
  have HC := Lib.hid (Blk.new w12 52 #[.int .i64 tep, .slice tA tn tc, .slice tA1 tn1 tc1, .slice tA2 tn2 tc2])
  go_wp2_with fail
  replace HX := Lib.hid (Blk.below HX.out hb HX.out.lt)
  replace HY := Lib.hid (Blk.below HY.out hb HY.out.lt)
  replace HRE := Lib.hid (HRE.out.below hb)
  replace HS := Lib.hid (HS.out.below hb)
  replace HBS := Lib.hid (HBS.out.below hb)
  replace HB := Lib.hid (below_next HB.out (by have := HB.out.size; omega) hb)
  replace HL4 := Lib.hid (Blk.below HL4.out hb HL4.out.lt)
  replace HFY := Lib.hid (HFY.out.below hb)
  replace HE6 := Lib.hid (Blk.below HE6.out hb HE6.out.lt)
  replace HT := Lib.hid (HT.out.below hb)
  clear hb
  generalize w12.alloc (.cells #[.int .i64 tep, .slice tA tn tc, .slice tA1 tn1 tc1, .slice tA2 tn2 tc2] 52) = w13 at *
  generalize w12.heap.size = p10 at *
  have htf : Sx.Few ⟨tep, tA, tn, tc, tls, tA1, tn1, tc1, tav, tA2, tn2, tc2, tsu⟩ := few_of (s := sEx b) (t := ⟨tep, tA, tn, tc, tls, tA1, tn1, tc1, tav, tA2, tn2, tc2, tsu⟩) hfew hlen HS.out htb htl HT.out
  have hbl : (bEx b).Len := ⟨rfl, by show 0 ≤ 0; decide, rfl, by show 0 ≤ 0; decide, rfl, by show 1 ≤ 1; decide⟩
  have hbf : (bEx b).Few := ⟨by show 0 ≤ 100000; decide, by show 0 ≤ 100000; decide, by show 1 ≤ 100000; decide, short0, short1 b⟩
  have hzl : zEx.Len := ⟨rfl, by decide, rfl, by decide, rfl, by decide⟩
  have hzf : zEx.Few := ⟨by decide, by decide, by decide, short0, short0⟩
  have C1 := Lib.hid (fun n os => right_st (sEx b) hlen hfew pbs0 (pbs1 b) (gx w13 n os) (HS.out.below (below_gx w13 n os)) true ⟨fun _ => rEx, fun _ => rfl⟩)
  have C2 := Lib.hid (fun n os => right_st zEx hzl hzf pbs0 pbs0 (gx w13 n os) ⟨.inl rfl, RdEn.nil _ _, RdEn.nil _ _⟩ true ⟨fun _ => rZero, fun _ => rfl⟩)
  have C3 := Lib.hid (fun n os => right_st (bEx b) hbl hbf pbs0 (pbs1 b) (gx w13 n os) (HBS.out.below (below_gx w13 n os)) false ⟨fun h => (by cases h), fun h => absurd h rBad⟩)
  have C4 := Lib.hid (fun n os => one_at ⟨7, 4, yA, yn, yc, pEx⟩ ⟨7, 4, some ⟨b, 0, none⟩, 1, 1, pEx⟩ HFY.out.1 (by have := HFY.out.1; simp [pEx] at this; show yn ≤ 100000; omega) rfl (by show 1 ≤ 100000; decide) (gx w13 n os) (HFY.out.below (below_gx w13 n os)).2.2 ((HRE.out.below (below_gx w13 n os)).2 _ (by simp)).2.2 true rfl)
  have C5 := Lib.hid (fun n os => same_st ⟨tep, tA, tn, tc, tls, tA1, tn1, tc1, tav, tA2, tn2, tc2, tsu⟩ (sEx b) htl hlen htf hfew (gx w13 n os) (HT.out.below (below_gx w13 n os)) (HS.out.below (below_gx w13 n os)) true (decide_eq_true htb))
  have C6 := Lib.hid (fun n os => same_st ⟨tep, tA, tn, tc, tls, tA1, tn1, tc1, tav, tA2, tn2, tc2, tsu⟩ (bEx b) htl hbl htf hbf (gx w13 n os) (HT.out.below (below_gx w13 n os)) (HBS.out.below (below_gx w13 n os)) false (decide_eq_false (by rw [htb]; intro e; injection e with e; cases e)))
  obtain ⟨s0, s1, s2, s3⟩ := gx4 HX.out
  obtain ⟨t0, t1, t2, t3⟩ := gx4 HY.out
  obtain ⟨l0, l1⟩ := gx2 HL4.out
  obtain ⟨e0, e1, e2⟩ := gx3 HE6.out
  obtain ⟨v0, v1, v2, v3⟩ := gx4 HC.out
  obtain ⟨a0, a1, a2⟩ : (∀ n os, (gx w13 n os).cell? ⟨b + 1 + 1, 0, none⟩ = some (.int .i64 7)) ∧ (∀ n os, (gx w13 n os).cell? ⟨b + 1 + 1, 1, none⟩ = some (.int .i64 4)) ∧ (∀ n os, (gx w13 n os).cell? ⟨b + 1 + 1, 2, none⟩ = some (.slice (some ⟨b, 0, none⟩) 1 1)) := by
    obtain ⟨g, off, e, _, c0, c1, c2, _⟩ := RdEn.at3 HRE.out (k := 0) (by simp)
    injection e with e
    injection e with e1 e2 _
    subst e1; subst e2
    exact ⟨gx_cell c0, gx_cell c1, gx_cell c2⟩
  clear htb htl htf hlen hfew hbl hbf hzl hzf HX HY HL4 HE6 HC
  (refine qb_region mixedT (by kernel_rfl) ?_; (repeat (refine hq_step (fun K hK => ?_); go_simp; first | (refine hK _ ?_; clear hK K) | (apply Exists.intro; refine ⟨fun _ => ?_, hK _ ?_⟩; (first | (go_at_call 33; with_reducible exact calls_gx (C1.out _ _)) | (go_at_call 33; with_reducible exact calls_gx (C2.out _ _)) | (go_at_call 33; with_reducible exact calls_gx (C3.out _ _)) | (go_at_call 36; with_reducible exact calls_gx (C4.out _ _)) | (go_at_call 32; with_reducible exact calls_gx (C5.out _ _)) | (go_at_call 32; with_reducible exact calls_gx (C6.out _ _))); clear hK K))); refine hq_nil ?_; intro _ hw'; obtain ⟨⟨nq, osq⟩, hw''⟩ := hw'; subst hw'')
  go_wp2_with fail
  go_ret
  subst hbb
  exact ⟨rfl, below_next HB.out (by have := HB.out.size; omega) (below_gx w13 nq osq)⟩
end Go.Proofs.YtoffnfooeojhnaaGreat
namespace Go.Proofs.YtoffnfooeojhnaaGreat
open Go.RowKit Go.ChangeShapes Go.WideShapes Go.Deep Go.Joins Spans Tb
section
variable {H : Type} {enc : TypeId × Value → H} {w : World} {base : Nat} {spare : Nat → Bool} {held : Bool}
theorem field_at {P : Program} {fs : Array Field} {cs : List Value} {xs : List (DataW H × List MemPlace)} {n i o m : Nat} {t : TypeId} {f : Field}
    (hfs : ∀ (i : Nat) (f : Field), fs[i]? = some f → DataW.trod enc P w base spare held n f.type ((cs.drop f.offset).take (P.cellsOf f.type)) = xs[i]?) (hl : xs.length = fs.size)
    (hf : fs[i]? = some f) (ht : f.type = t ∧ f.offset = o ∧ P.cellsOf t = m) : ∃ y, xs[i]? = some y ∧ DataW.trod enc P w base spare held n t ((cs.drop o).take m) = some y := by
  obtain ⟨rfl, rfl, rfl⟩ := ht
  have hi : i < xs.length := by rw [hl]; exact (Array.getElem?_eq_some_iff.1 hf).1
  exact ⟨xs[i], List.getElem?_eq_getElem hi, (hfs i f hf).trans (List.getElem?_eq_getElem hi)⟩
theorem weights_all {P : Program} {e : TypeId} {R : Nat} : ∀ {l : List (DataW H)}, (∀ n ∈ DataW.weightsAll P e l, n ≤ R) → ∀ d ∈ l, ∀ n ∈ d.weights P e, n ≤ R
  | [], _, d, hd, _, _ => by cases hd
  | a :: r, h, d, hd, n, hn => by
    simp only [DataW.weightsAll, List.mem_append] at h
    rcases List.mem_cons.1 hd with rfl | hd
    · exact h n (.inl hn)
    · exact weights_all (fun m hm => h m (.inr hm)) d hd n hn
theorem weights_slice {P : Program} {t e : TypeId} {R : Nat} {elems spare : List (DataW H)} (ht : P.underlying t = some (.slice e)) (hw : ∀ n ∈ (DataW.slice elems spare).weights P t, n ≤ R) :
    (elems.length + spare.length) * P.bytesOf e ≤ R ∧ ∀ d ∈ elems, ∀ n ∈ d.weights P e, n ≤ R := by
  simp only [DataW.weights, ht] at hw
  exact ⟨hw _ (List.mem_cons_self ..), weights_all fun n hn => hw n (List.mem_cons_of_mem _ (List.mem_append_left _ hn))⟩
theorem weights_struct {P : Program} {t : TypeId} {R : Nat} {parts : List (DataW H)} {fs : Array Field} (ht : P.underlying t = some (.struct fs)) (hw : ∀ n ∈ (DataW.agg parts).weights P t, n ≤ R)
    {i : Nat} {f : Field} {d : DataW H} (hf : fs[i]? = some f) (hd : parts[i]? = some d) : ∀ n ∈ d.weights P f.type, n ≤ R := fun n hn => by
  simp only [DataW.weights, ht] at hw
  exact hw n (DataW.weights_mem_each (j := i) (by rw [List.getElem?_map]; simp [hf]) hd n hn)
theorem reach_num : reachBytes = 140737488351232 := rfl
theorem bounds_of {i : Int} (h : (Lit.int .i64 i).wf = true) : -9223372036854775808 ≤ i ∧ i ≤ 9223372036854775807 := bounds_i64 h
set_option maxRecDepth 100000 in
/-- A filter in a field. -/
theorem open_flt {fuel : Nat} {v : Value} {x : DataW H × List MemPlace} (h : DataW.trod enc Tryz.prog w base spare held fuel 22 [v] = some x) (hw : ∀ n ∈ x.1.weights Tryz.prog 22, n ≤ reachBytes) :
    ∃ A n c f, v = .slice A n c ∧ f.length = n ∧ n ≤ c ∧ c ≤ maxLen ∧ n ≤ 2600000000000 ∧ RdQ w A f ∧ PBx f := by
  have hv : ∃ A n c, v = .slice A n c ∧ n ≤ 2600000000000 := by
    rcases open_slice Tryz.underlying22 h with ⟨hcs, _⟩ | ⟨a, l, c, m, n, D, Pl, hcs, _, hl, hm, hmm, hx1, hx⟩
    · exact ⟨none, 0, 0, by simpa using hcs, by omega⟩
    · refine ⟨some a, l, c, by simpa using hcs, ?_⟩
      subst hx1
      have := (weights_slice Tryz.underlying22 hw).1
      rw [show Tryz.prog.bytesOf 35 = 56 from by kernel_rfl, reach_num] at this
      simp at this
      omega
  obtain ⟨A, n, c, rfl, hn⟩ := hv
  have TR : ∀ {a b : Nat}, a = b → a = b := id
  obtain ⟨es, h1, h2, h3, h4, h5⟩ := open_preds_of (enc := enc) (P := Tryz.prog) (w := w) (base := base) (spare := spare) (held := held) (d := x.1) (p := x.2) Tryz.underlying22 Tryz.underlying35 (by kernel_rfl) ⟨rfl, rfl, by kernel_rfl⟩ ⟨rfl, rfl, by kernel_rfl⟩ ⟨rfl, rfl, by kernel_rfl⟩ Tryz.underlying9 Tryz.underlying3 Tryz.underlying33 ⟨rfl, rfl, by kernel_rfl⟩ ⟨rfl, rfl, by kernel_rfl⟩ ⟨rfl, rfl, by kernel_rfl⟩ Tryz.underlying3 Tryz.underlying3 Tryz.underlying9 ⟨fuel, h⟩
  exact ⟨A, n, c, es, rfl, h1, h2, h3, hn, h4, fun p hp => by
    obtain ⟨q1, q2, q3⟩ := h5 p hp
    rw [maxLen_num] at q1 q2
    exact ⟨q1, q2, bounds_of q3⟩⟩
set_option maxRecDepth 100000 in
theorem open_links {fuel : Nat} {v : Value} {x : DataW H × List MemPlace} (h : DataW.trod enc Tryz.prog w base spare held fuel 49 [v] = some x) (hw : ∀ n ∈ x.1.weights Tryz.prog 49, n ≤ reachBytes) :
    ∃ A n c es, v = .slice A n c ∧ es.length = n ∧ n ≤ c ∧ c ≤ maxLen ∧ n ≤ 5900000000000 ∧ RdLk w A es ∧ LBx es := by
  rcases open_slice Tryz.underlying49 h with ⟨hcs, _⟩ | ⟨a, len, cap, m, n, D, Pl, hcs, _, hl, hm, hmm, hx1, hx⟩
  · exact ⟨none, 0, 0, [], by simpa using hcs, rfl, by omega, by simp, by omega, .inl rfl, fun k hk => by cases hk⟩
  · subst hx1
    have hbd : len ≤ 5900000000000 := by
      have := (weights_slice Tryz.underlying49 hw).1
      rw [show Tryz.prog.bytesOf 64 = 24 from by kernel_rfl, reach_num] at this
      simp at this
      omega
    have hlm : len ≤ m := by rw [hmm]; split <;> omega
    have each : ∀ i, i < len → ∃ z : Lk, (w.cell? ((a.add (i * 2)).add 0) = some (.int .i64 z.id) ∧ w.cell? ((a.add (i * 2)).add 1) = some (.string ⟨z.ad.toArray⟩)) ∧ (z.ad.length ≤ 9223372036854775807 ∧ -9223372036854775808 ≤ z.id ∧ z.id ≤ 9223372036854775807) := fun i hi => by
      obtain ⟨cs, k1, k2⟩ := hx i (by omega)
      rw [show Tryz.prog.cellsOf 64 = 2 from by kernel_rfl] at k1
      obtain ⟨_, hlen, hat⟩ := World.cells?_some k1
      obtain ⟨xs, n', _, _, _, hxl, hfs⟩ := DataW.trod_struct Tryz.underlying64 k2
      match cs, hlen with
      | [c0, c1], _ =>
        obtain ⟨y0, _, g0⟩ := field_at (i := 0) (t := 3) (o := 0) (m := 1) hfs hxl rfl ⟨rfl, rfl, by kernel_rfl⟩
        obtain ⟨y1, _, g1⟩ := field_at (i := 1) (t := 9) (o := 1) (m := 1) hfs hxl rfl ⟨rfl, rfl, by kernel_rfl⟩
        obtain ⟨z0, q0, _, w0⟩ := DataW.trod_int Tryz.underlying3 g0
        obtain ⟨⟨⟨z1⟩⟩, q1, _, w1⟩ := DataW.trod_string Tryz.underlying9 g1
        have a0 := hat 0 (by omega)
        have a1 := hat 1 (by omega)
        simp at q0 q1
        subst q0; subst q1
        have w1' : z1.length ≤ maxLen := w1
        rw [maxLen_num] at w1'
        exact ⟨⟨z0, z1⟩, ⟨a0, a1⟩, w1', bounds_of w0⟩
    obtain ⟨Z, hZ⟩ := choose_lt each
    refine ⟨some a, len, cap, (List.range len).map Z, by simpa using hcs, by simp, hl, hm, hbd, ?_, ?_⟩
    · by_cases h0 : len = 0
      · exact .inl (by simp [h0])
      · obtain ⟨b, off, rfl, hb⟩ := plain_atQ (a := a) (by simpa [Addr.add] using (hZ 0 (by omega)).1.1)
        refine .inr ⟨b, off, rfl, hb, fun i hi j v hv => ?_⟩
        have hi' : i < len := by simpa using hi
        have := (hZ i hi').1
        rw [add_lit, add_lit, add_lit] at this
        obtain ⟨q0, q1⟩ := this
        have hz : ((List.range len).map Z)[i] = Z i := by simp
        rw [hz] at hv
        have hj : j < 2 := by have := (List.getElem?_eq_some_iff.1 hv).1; simpa [layL, cellsL] using this
        show w.cell? ⟨b, off + i * 2 + j, none⟩ = some v
        match j, hj with
        | 0, _ => rw [← hv]; exact q0
        | 1, _ => rw [← hv]; exact q1
    · intro z hz
      simp only [List.mem_map, List.mem_range] at hz
      obtain ⟨i, hi, rfl⟩ := hz
      exact (hZ i hi).2
set_option maxRecDepth 100000 in
theorem open_ents {fuel : Nat} {v : Value} {x : DataW H × List MemPlace} (h : DataW.trod enc Tryz.prog w base spare held fuel 50 [v] = some x) (hw : ∀ n ∈ x.1.weights Tryz.prog 50, n ≤ reachBytes) :
    ∃ A n c es, v = .slice A n c ∧ es.length = n ∧ n ≤ c ∧ c ≤ maxLen ∧ n ≤ 3600000000000 ∧ RdEn w A es ∧ EBx es := by
  rcases open_slice Tryz.underlying50 h with ⟨hcs, _⟩ | ⟨a, len, cap, m, n, D, Pl, hcs, _, hl, hm, hmm, hx1, hx⟩
  · exact ⟨none, 0, 0, [], by simpa using hcs, rfl, by omega, by simp, by omega, RdEn.nil _ _, fun k hk => by cases hk⟩
  · subst hx1
    obtain ⟨hbd, hwe⟩ := weights_slice Tryz.underlying50 hw
    rw [show Tryz.prog.bytesOf 58 = 40 from by kernel_rfl, reach_num] at hbd
    simp at hbd
    have hlm : len ≤ m := by rw [hmm]; split <;> omega
    have each : ∀ i, i < len → ∃ z : Ex, (w.cell? ((a.add (i * 3)).add 0) = some (.int .i64 z.id) ∧ w.cell? ((a.add (i * 3)).add 1) = some (.int .i64 z.fr) ∧ w.cell? ((a.add (i * 3)).add 2) = some (.slice z.A z.n z.c)) ∧ Flt w z ∧ (z.n ≤ 2600000000000 ∧ -9223372036854775808 ≤ z.id ∧ z.id ≤ 9223372036854775807 ∧ PBx z.f) := fun i hi => by
      obtain ⟨cs, k1, k2⟩ := hx i (by omega)
      rw [show Tryz.prog.cellsOf 58 = 3 from by kernel_rfl] at k1
      obtain ⟨_, hlen, hat⟩ := World.cells?_some k1
      obtain ⟨xs, n', _, hxx, _, hxl, hfs⟩ := DataW.trod_struct Tryz.underlying58 k2
      match cs, hlen with
      | [c0, c1, c2], _ =>
        obtain ⟨y0, _, g0⟩ := field_at (i := 0) (t := 3) (o := 0) (m := 1) hfs hxl rfl ⟨rfl, rfl, by kernel_rfl⟩
        obtain ⟨y1, _, g1⟩ := field_at (i := 1) (t := 3) (o := 1) (m := 1) hfs hxl rfl ⟨rfl, rfl, by kernel_rfl⟩
        obtain ⟨y2, e2, g2⟩ := field_at (i := 2) (t := 22) (o := 2) (m := 1) hfs hxl rfl ⟨rfl, rfl, by kernel_rfl⟩
        obtain ⟨z0, q0, _, w0⟩ := DataW.trod_int Tryz.underlying3 g0
        obtain ⟨z1, q1, _, w1⟩ := DataW.trod_int Tryz.underlying3 g1
        have hD : D i = .agg (xs.map (·.1)) := congrArg Prod.fst hxx
        have hwi := hwe (D i) (List.mem_map.2 ⟨i, List.mem_range.2 hi, rfl⟩)
        rw [hD] at hwi
        obtain ⟨A, n0, c0', f, q2, f1, f2, f3, f4, f5, f6⟩ := open_flt g2 (weights_struct Tryz.underlying58 hwi (i := 2) rfl (by rw [List.getElem?_map, e2]; rfl))
        have a0 := hat 0 (by omega)
        have a1 := hat 1 (by omega)
        have a2 := hat 2 (by omega)
        simp at q0 q1
        subst q0; subst q1; subst q2
        have hb := bounds_of w0
        exact ⟨⟨z0, z1, A, n0, c0', f⟩, ⟨a0, a1, a2⟩, ⟨f1, f2, f5⟩, f4, hb.1, hb.2, f6⟩
    obtain ⟨Z, hZ⟩ := choose_lt each
    refine ⟨some a, len, cap, (List.range len).map Z, by simpa using hcs, by simp, hl, hm, by omega, ⟨?_, ?_⟩, ?_⟩
    · by_cases h0 : len = 0
      · exact .inl (by simp [h0])
      · obtain ⟨b, off, rfl, hb⟩ := plain_atQ (a := a) (by simpa [Addr.add] using (hZ 0 (by omega)).1.1)
        refine .inr ⟨b, off, rfl, hb, fun i hi j v hv => ?_⟩
        have hi' : i < len := by simpa using hi
        have := (hZ i hi').1
        rw [add_lit, add_lit, add_lit, add_lit] at this
        obtain ⟨q0, q1, q2⟩ := this
        have hz : ((List.range len).map Z)[i] = Z i := by simp
        rw [hz] at hv
        have hj : j < 3 := by have := (List.getElem?_eq_some_iff.1 hv).1; simpa [layE, cellsE] using this
        show w.cell? ⟨b, off + i * 3 + j, none⟩ = some v
        match j, hj with
        | 0, _ => rw [← hv]; exact q0
        | 1, _ => rw [← hv]; exact q1
        | 2, _ => rw [← hv]; exact q2
    · intro z hz
      simp only [List.mem_map, List.mem_range] at hz
      obtain ⟨i, hi, rfl⟩ := hz
      exact (hZ i hi).2.1
    · intro z hz
      simp only [List.mem_map, List.mem_range] at hz
      obtain ⟨i, hi, rfl⟩ := hz
      exact (hZ i hi).2.2
theorem open_ents_of {A : Option Addr} {len cap : Nat} {d : DataW H} {p : List MemPlace} (h : DataW.Trod enc Tryz.prog w base spare held 50 (.slice A len cap) d p) (hw : ∀ n ∈ d.weights Tryz.prog 50, n ≤ reachBytes) :
    ∃ es : List Ex, es.length = len ∧ len ≤ cap ∧ cap ≤ maxLen ∧ len ≤ 3600000000000 ∧ RdEn w A es ∧ EBx es := by
  obtain ⟨fuel, hf⟩ := h
  obtain ⟨A', n', c', es, e, h1, h2, h3, h4, h5, h6⟩ := open_ents (v := .slice A len cap) hf hw
  injection e with e1 e2 e3
  subst e1; subst e2; subst e3
  exact ⟨es, h1, h2, h3, h4, h5, h6⟩
set_option maxRecDepth 100000 in
theorem open_state {r : Reach} {b0 : Nat} {v : Value} {d : DataW H} {p : List MemPlace} (hok : Value.okWide Tryz.prog w r b0 52 v) (h : DataW.Trod enc Tryz.prog w base spare held 52 v d p) (hw : ∀ n ∈ d.weights Tryz.prog 52, n ≤ reachBytes) :
    ∃ s : Sx, v = s.v ∧ s.Len ∧ s.Rd w ∧ (-9223372036854775808 ≤ s.ep ∧ s.ep ≤ 9223372036854775807) ∧ (s.c ≤ maxLen ∧ s.c1 ≤ maxLen ∧ s.c2 ≤ maxLen) ∧ (s.n ≤ 5900000000000 ∧ s.n1 ≤ 3600000000000 ∧ s.n2 ≤ 3600000000000) ∧ LBx s.ls ∧ EBx s.av ∧ EBx s.su := by
  obtain ⟨cs, rfl, hsz⟩ := okWide_struct Tryz.underlying52 hok
  rw [show Tryz.prog.cellsOf 52 = 4 from by kernel_rfl] at hsz
  obtain ⟨cs⟩ := cs
  obtain ⟨fuel, k2⟩ := h
  obtain ⟨xs, n', _, hxx, _, hxl, hfs⟩ := DataW.trod_struct Tryz.underlying52 k2
  have hD : d = .agg (xs.map (·.1)) := congrArg Prod.fst hxx
  subst hD
  match cs, hsz with
  | [c0, c1, c2, c3], _ =>
    obtain ⟨y0, _, g0⟩ := field_at (i := 0) (t := 3) (o := 0) (m := 1) hfs hxl rfl ⟨rfl, rfl, by kernel_rfl⟩
    obtain ⟨y1, e1, g1⟩ := field_at (i := 1) (t := 49) (o := 1) (m := 1) hfs hxl rfl ⟨rfl, rfl, by kernel_rfl⟩
    obtain ⟨y2, e2, g2⟩ := field_at (i := 2) (t := 50) (o := 2) (m := 1) hfs hxl rfl ⟨rfl, rfl, by kernel_rfl⟩
    obtain ⟨y3, e3, g3⟩ := field_at (i := 3) (t := 50) (o := 3) (m := 1) hfs hxl rfl ⟨rfl, rfl, by kernel_rfl⟩
    obtain ⟨z0, q0, _, w0⟩ := DataW.trod_int Tryz.underlying3 g0
    obtain ⟨A, n, c, ls, q1, f1, f2, f3, f4, f5, f6⟩ := open_links g1 (weights_struct Tryz.underlying52 hw (i := 1) rfl (by rw [List.getElem?_map, e1]; rfl))
    obtain ⟨A1, n1, c1', av, q2, h1, h2, h3, h4, h5, h6⟩ := open_ents g2 (weights_struct Tryz.underlying52 hw (i := 2) rfl (by rw [List.getElem?_map, e2]; rfl))
    obtain ⟨A2, n2, c2', su, q3, j1, j2, j3, j4, j5, j6⟩ := open_ents g3 (weights_struct Tryz.underlying52 hw (i := 3) rfl (by rw [List.getElem?_map, e3]; rfl))
    simp [Value.cells] at q0
    subst q0; subst q1; subst q2; subst q3
    exact ⟨⟨z0, A, n, c, ls, A1, n1, c1', av, A2, n2, c2', su⟩, rfl, ⟨f1, f2, h1, h2, j1, j2⟩, ⟨f5, h5, j5⟩, bounds_of w0, ⟨f3, h3, j3⟩, ⟨f4, h4, j4⟩, f6, h6, j6⟩
end
end Go.Proofs.YtoffnfooeojhnaaGreat
namespace Go.Proofs.YtoffnfooeojhnaaGreat
open Go.RowKit Go.Sort Spans Tb
/-- A cut off the front, as the model spells it. -/
theorem run_cutE {w : World} {A : Option Addr} {es : List Ex} {n cap k : Nat} (hr : RdK layE w A es) (hn : es.length = n) (hk : k ≤ n) (hc : n ≤ cap) :
    ∃ A', (∀ W, (Instr.slice 50 (.slice A n cap) (some (.int .i64 (k : Int))) none none).run Tryz.prog W = .ok (.slice A' (n - k) (cap - k)) W) ∧ RdK layE w A' (es.drop k) := by
  by_cases hck : cap = k
  · refine ⟨A, fun W => ?_, .inl (List.drop_eq_nil_of_le (by omega))⟩
    have h1 : (0 : Int) ≤ (k : Int) := by omega
    have h2 : (k : Int) ≤ (n : Int) := by omega
    subst hck
    go_simp
  · refine ⟨A.map fun x => x.add (k * 3), fun W => ?_, ?_⟩
    · have h1 : (0 : Int) ≤ (k : Int) := by omega
      have h2 : (k : Int) ≤ (n : Int) := by omega
      go_simp
    · rcases hr with rfl | ⟨g, off, rfl, hg, hcell⟩
      · exact .inl (by simp)
      · refine .inr ⟨g, off + k * 3, by simp [add_lit], hg, fun i hi j v hv => ?_⟩
        have hi' : k + i < es.length := by simp at hi; omega
        rw [List.getElem_drop] at hv
        have := hcell (k + i) hi' j v hv
        rw [show off + (k + i) * layE.k + j = off + k * 3 + i * layE.k + j by show off + (k + i) * 3 + j = off + k * 3 + i * 3 + j; omega] at this
        exact this
/-- A cut off the end, as the model spells it. -/
theorem run_headE (A : Option Addr) (n cap k : Nat) (hk : k ≤ n) (hc : n ≤ cap) (W : World) :
    (Instr.slice 50 (.slice A n cap) none (some (.int .i64 (k : Int))) none).run Tryz.prog W = .ok (.slice A k cap) W := by
  have h1 : (0 : Int) ≤ (k : Int) := by omega
  have h2 : (k : Int) ≤ (cap : Int) := by omega
  go_simp
/-- A cut off the front, as the model spells it. -/
theorem run_cutL {w : World} {A : Option Addr} {es : List Lk} {n cap k : Nat} (hr : RdK layL w A es) (hn : es.length = n) (hk : k ≤ n) (hc : n ≤ cap) :
    ∃ A', (∀ W, (Instr.slice 49 (.slice A n cap) (some (.int .i64 (k : Int))) none none).run Tryz.prog W = .ok (.slice A' (n - k) (cap - k)) W) ∧ RdK layL w A' (es.drop k) := by
  by_cases hck : cap = k
  · refine ⟨A, fun W => ?_, .inl (List.drop_eq_nil_of_le (by omega))⟩
    have h1 : (0 : Int) ≤ (k : Int) := by omega
    have h2 : (k : Int) ≤ (n : Int) := by omega
    subst hck
    go_simp
  · refine ⟨A.map fun x => x.add (k * 2), fun W => ?_, ?_⟩
    · have h1 : (0 : Int) ≤ (k : Int) := by omega
      have h2 : (k : Int) ≤ (n : Int) := by omega
      go_simp
    · rcases hr with rfl | ⟨g, off, rfl, hg, hcell⟩
      · exact .inl (by simp)
      · refine .inr ⟨g, off + k * 2, by simp [add_lit], hg, fun i hi j v hv => ?_⟩
        have hi' : k + i < es.length := by simp at hi; omega
        rw [List.getElem_drop] at hv
        have := hcell (k + i) hi' j v hv
        rw [show off + (k + i) * layL.k + j = off + k * 2 + i * layL.k + j by show off + (k + i) * 2 + j = off + k * 2 + i * 2 + j; omega] at this
        exact this
/-- A cut off the end, as the model spells it. -/
theorem run_headL (A : Option Addr) (n cap k : Nat) (hk : k ≤ n) (hc : n ≤ cap) (W : World) :
    (Instr.slice 49 (.slice A n cap) none (some (.int .i64 (k : Int))) none).run Tryz.prog W = .ok (.slice A k cap) W := by
  have h1 : (0 : Int) ≤ (k : Int) := by omega
  have h2 : (k : Int) ≤ (cap : Int) := by omega
  go_simp
theorem rd_dropE {w : World} {A : Option Addr} {es : List Ex} {n cap k : Nat} (hr : RdK layE w A es) (hn : es.length = n) (hk : k ≤ n) (hc : n ≤ cap) : RdK layE w (if cap = k then A else A.map fun x => x.add (k * 3)) (es.drop k) := by
  by_cases hck : cap = k
  · exact .inl (List.drop_eq_nil_of_le (by omega))
  · rw [if_neg hck]
    rcases hr with rfl | ⟨g, off, rfl, hg, hcell⟩
    · exact .inl (by simp)
    · refine .inr ⟨g, off + k * 3, by simp [add_lit], hg, fun i hi j v hv => ?_⟩
      have hi' : k + i < es.length := by simp at hi; omega
      rw [List.getElem_drop] at hv
      have := hcell (k + i) hi' j v hv
      rw [show off + (k + i) * layE.k + j = off + k * 3 + i * layE.k + j by show off + (k + i) * 3 + j = off + k * 3 + i * 3 + j; omega] at this
      exact this
theorem rd_dropL {w : World} {A : Option Addr} {es : List Lk} {n cap k : Nat} (hr : RdK layL w A es) (hn : es.length = n) (hk : k ≤ n) (hc : n ≤ cap) : RdK layL w (if cap = k then A else A.map fun x => x.add (k * 2)) (es.drop k) := by
  by_cases hck : cap = k
  · exact .inl (List.drop_eq_nil_of_le (by omega))
  · rw [if_neg hck]
    rcases hr with rfl | ⟨g, off, rfl, hg, hcell⟩
    · exact .inl (by simp)
    · refine .inr ⟨g, off + k * 2, by simp [add_lit], hg, fun i hi j v hv => ?_⟩
      have hi' : k + i < es.length := by simp at hi; omega
      rw [List.getElem_drop] at hv
      have := hcell (k + i) hi' j v hv
      rw [show off + (k + i) * layL.k + j = off + k * 2 + i * layL.k + j by show off + (k + i) * 2 + j = off + k * 2 + i * 2 + j; omega] at this
      exact this
theorem below_at {w0 w w' : World} {pe : Nat} (h : Below w0.heap.size w0 w) (hpe : w.heap.size = pe) (hb : Below pe w w') : Below w0.heap.size w0 w' := by
  subst hpe
  exact h.trans (hb.mono h.size)
theorem Blk.put2 {w : World} {b : Nat} {t : TypeId} {c0 c1 : Value} (h : Blk w b t #[c0, c1]) (u0 u1 : Value) : Blk ((w.setCell ⟨b, 0, none⟩ u0).setCell ⟨b, 1, none⟩ u1) b t #[u0, u1] := by
  have h2 := (h.put 0 u0).put 1 u1
  simpa using h2
/-- Is one of some entries from that link? -/
def anyFr (es : List Ex) (i : Int) : Bool := es.any fun x => decide (x.fr = i)
theorem anyFr_snoc {es : List Ex} {k : Nat} {i : Int} (h : k < es.length) : anyFr (es.take (k + 1)) i = (anyFr (es.take k) i || decide (es[k].fr = i)) := by
  unfold anyFr
  rw [List.take_succ_eq_append_getElem h, List.any_append]
  simp
theorem anyFr_false {es : List Ex} {i : Int} : anyFr es i = false ↔ ¬ ∃ x ∈ es, x.fr = i := by
  unfold anyFr
  rw [List.any_eq_false]
  simp
theorem cut_sub_mem {A : Type} {l : List A} {k : Nat} {x : A} (h : x ∈ cut l k) : x ∈ l := (cut_sub l k).subset h
theorem rd_cut {w : World} {A B : Option Addr} {su : List Ex} {k : Nat} (h : RdEn w A su) (hr : RdK layE w B (cut su k)) : RdEn w B (cut su k) := ⟨hr, fun x hx => h.2 x (cut_sub_mem hx)⟩
theorem short_cut {su : List Ex} {k : Nat} (h : Short su) : Short (cut su k) := fun x hx => h x (cut_sub_mem hx)
theorem pbs_cut {su : List Ex} {k : Nat} (h : PBs su) : PBs (cut su k) := fun x hx => h x (cut_sub_mem hx)
end Go.Proofs.YtoffnfooeojhnaaGreat
namespace Go.Proofs.YtoffnfooeojhnaaGreat
open Go.RowKit Go.Sort Spans Tb
theorem flat_setE (x : Ex) : ∀ (cs : List Ex) (i : Nat), i < cs.length →
    (((cs.flatMap cellsE).set (i * 3) (.int .i64 x.id)).set (i * 3 + 1) (.int .i64 x.fr)).set (i * 3 + 2) (.slice x.A x.n x.c) = (cs.set i x).flatMap cellsE
  | [], _, h => by simp at h
  | y :: r, 0, _ => by simp [cellsE]
  | y :: r, i + 1, h => by
    have ih := flat_setE x r i (by simpa using h)
    rw [show (i + 1) * 3 = i * 3 + 1 + 1 + 1 by omega]
    simp only [List.flatMap_cons, cellsE, List.cons_append, List.nil_append, List.set_cons_succ]
    rw [ih]
theorem OwnK.setE {w : World} {base g n cap : Nat} {es : List Ex} (h : OwnK layE w base (.slice (some ⟨g, 0, none⟩) n cap) es) (hn : es.length = n) (i : Nat) (hi : i < n) (x : Ex) :
    OwnK layE (((w.setCell ⟨g, i * 3, none⟩ (.int .i64 x.id)).setCell ⟨g, i * 3 + 1, none⟩ (.int .i64 x.fr)).setCell ⟨g, i * 3 + 2, none⟩ (.slice x.A x.n x.c)) base (.slice (some ⟨g, 0, none⟩) n cap) (es.set i x) := by
  have h' : w.ownsRow base layE.T 3 (.slice (some ⟨g, 0, none⟩) n cap) n (es.flatMap cellsE) := by
    have h0 : w.ownsRow base layE.T layE.k (.slice (some ⟨g, 0, none⟩) n cap) es.length (es.flatMap layE.enc) := h
    rw [hn] at h0
    exact h0
  have h3 := (((h'.stored (i * 3) (.int .i64 x.id)).1.stored (i * 3 + 1) (.int .i64 x.fr)).1.stored (i * 3 + 2) (.slice x.A x.n x.c)).1
  rw [flat_setE x es i (by omega)] at h3
  show World.ownsRow _ base layE.T layE.k _ (es.set i x).length ((es.set i x).flatMap layE.enc)
  rw [List.length_set, hn]
  exact h3
/-- Such a row's first block, its cells and that they may be written. -/
theorem OwnK.here {α : Type} {L : Lay α} {w : World} {base n cap : Nat} {A : Option Addr} {es : List α} (h : OwnK L w base (.slice A n cap) es) (h0 : 0 < es.length) : ∃ g, A = some ⟨g, 0, none⟩ ∧ base ≤ g ∧ g < w.heap.size ∧ ∀ j, w.frozen? ⟨g, j, none⟩ = false := by
  have h' : w.ownsRow base L.T L.k (.slice A n cap) es.length (es.flatMap L.enc) := h
  obtain ⟨g, cap', e⟩ : ∃ g cap', Value.slice A n cap = .slice (some ⟨g, 0, none⟩) es.length cap' := by
    obtain ⟨k, hk⟩ : ∃ k, es.length = k + 1 := ⟨es.length - 1, by omega⟩
    rcases h'.2 with ⟨e, hx⟩ | ⟨g, c', cur, e, _⟩
    · omega
    · exact ⟨g, c', e⟩
  injection e with e1 e2 e3
  subst e1; subst e3
  rw [e2] at h'
  have hlt := h'.lt g rfl
  exact ⟨g, rfl, hlt.1, hlt.2, fun j => h'.frozenAt j⟩
theorem OwnK.hereAt {α : Type} {L : Lay α} {w : World} {base n cap g : Nat} {es : List α} (h : OwnK L w base (.slice (some ⟨g, 0, none⟩) n cap) es) : base ≤ g ∧ g < w.heap.size ∧ ∀ j, w.frozen? ⟨g, j, none⟩ = false := by
  obtain ⟨A, c, e, _, _⟩ := h.rd
  injection e with e1 e2 e3
  have h' : w.ownsRow base L.T L.k (.slice (some ⟨g, 0, none⟩) n cap) n (es.flatMap L.enc) := by
    have h0 : w.ownsRow base L.T L.k (.slice (some ⟨g, 0, none⟩) n cap) es.length (es.flatMap L.enc) := h
    rw [← e2] at h0
    exact h0
  have hlt := h'.lt g rfl
  exact ⟨hlt.1, hlt.2, fun j => h'.frozenAt j⟩
theorem set_mem {A : Type} {l : List A} {i : Nat} {x y : A} (h : x ∈ l.set i y) : x ∈ l ∨ x = y := List.mem_or_eq_of_mem_set h
theorem swap_mem {su : List Ex} {a b : Nat} (ha : a < su.length) (hb : b < su.length) : ∀ x ∈ (su.set a su[b]).set b su[a], x ∈ su := fun x hx => by
  rcases set_mem hx with h | rfl
  · rcases set_mem h with h | rfl
    · exact h
    · exact List.getElem_mem _
  · exact List.getElem_mem _
theorem put_mem {su : List Ex} {a b : Nat} (ha : a < su.length) : ∀ x ∈ su.set b su[a], x ∈ su := fun x hx => by
  rcases set_mem hx with h | rfl
  · exact h
  · exact List.getElem_mem _
theorem swap_t {se : Int} {sl : List Lk} {av : List En} {su : List Ex} {a b : Nat} (RR : Tb.Right ⟨se, sl, av, su.map Ex.en⟩) (hab : a < b) (hb : b < su.length) (ha : a < su.length) :
    ¬ Tb.Right ⟨se, sl, av, ((su.set a su[b]).set b su[a]).map Ex.en⟩ ∧ su.map Ex.en ≠ ((su.set a su[b]).set b su[a]).map Ex.en := by
  have h := swap_not (s := ⟨se, sl, av, su.map Ex.en⟩) RR (i := a) (k := b) hab (by simpa using hb) (m := ((su.set a su[b]).set b su[a]).map Ex.en) (by simp) (.inl (by simp [List.getElem_set]; intro h; omega)) (by simp)
  exact h
theorem put_t {se : Int} {sl : List Lk} {av : List En} {su : List Ex} {a b : Nat} (RR : Tb.Right ⟨se, sl, av, su.map Ex.en⟩) (hab : a < b) (hb : b < su.length) (ha : a < su.length) :
    ¬ Tb.Right ⟨se, sl, av, (su.set b su[a]).map Ex.en⟩ ∧ su.map Ex.en ≠ (su.set b su[a]).map Ex.en := by
  have h := swap_not (s := ⟨se, sl, av, su.map Ex.en⟩) RR (i := a) (k := b) hab (by simpa using hb) (m := (su.set b su[a]).map Ex.en) (by simp) (.inr (by simp [List.getElem_set]; try omega)) (by simp)
  exact h
theorem rd_sub {w : World} {A B : Option Addr} {su m : List Ex} (h : RdEn w A su) (hr : RdK layE w B m) (hs : ∀ x ∈ m, x ∈ su) : RdEn w B m := ⟨hr, fun x hx => h.2 x (hs x hx)⟩
theorem short_sub {su m : List Ex} (h : Short su) (hs : ∀ x ∈ m, x ∈ su) : Short m := fun x hx => h x (hs x hx)
theorem pbs_sub {su m : List Ex} (h : PBs su) (hs : ∀ x ∈ m, x ∈ su) : PBs m := fun x hx => h x (hs x hx)
end Go.Proofs.YtoffnfooeojhnaaGreat
