/- The document's own answer for layer 2: a scan and its methods. -/
import Derived.Test.YtcmjekchfgnbdaaWRef
namespace Go.Proofs.Ytcmjekchfgnbdaa
open Go.RowKit
set_option maxRecDepth 100000 in
theorem refFail_at (w : World) (g : Nat) (s : Wire.St) (h : Sc w g 40 s) (hfi : s.fine) (z : Int) :
    Calls Try.prog 43 #[.pointer (some ⟨g, 0, none⟩), .int .i64 z] w fun e w' => e = .returned (.tuple #[]) ∧ Sc w' g 40 (s.fail z) ∧ Touch g w w' := by
  have h0 := h
  obtain ⟨A, n, cap, hB, h1, h2, h3, hr⟩ := h
  obtain ⟨c0, c1, f0, f1⟩ := blk2 hB
  clear h1
  obtain ⟨rest, err⟩ := s
  simp only at c1
  by_cases hz : z = 0
  · subst hz
    go_enter Try.func43, Try.ntmps43
    go_wp2
    (try simp only [Exit.inBlock, Exit.then])
    refine bodyPost_ret (results_none rfl _ _ _) rfl ?_
    refine ⟨rfl, ?_, Touch.refl _ _⟩
    unfold Wire.St.fail
    rw [if_neg (fun h => h.2 rfl)]
    exact h0
  · have hd : (z == 0) = false := by simpa using hz
    by_cases he : err = 0
    · subst he
      go_enter Try.func43, Try.ntmps43
      go_wp2
      go_end0
      refine ⟨rfl, ?_, ((Touch.refl _ _).set_ _ _).set_ _ _⟩
      unfold Wire.St.fail
      rw [if_pos ⟨rfl, hz⟩]
      exact ⟨none, 0, 0, (hB.put 1 (.int .i64 z)).put 0 (.slice none 0 0), rfl, by omega, by omega, .inl rfl⟩
    · have hd2 : (err == 0) = false := by simpa using he
      obtain rfl : rest = [] := hfi he
      go_enter Try.func43, Try.ntmps43
      go_wp2
      go_end0
      refine ⟨rfl, ?_, (Touch.refl _ _).set_ _ _⟩
      unfold Wire.St.fail
      rw [if_neg (fun h => he h.1)]
      exact ⟨none, 0, 0, hB.put 0 (.slice none 0 0), rfl, by omega, by omega, .inl rfl⟩
theorem and127 (x : UInt8) : bits .and .u8 (x.toNat : Int) 127 = ((x.toNat % 128 : Nat) : Int) := by
  have e := u8_and_nat x.toNat 127 x.toNat_lt (by decide)
  rw [nat_mask7] at e
  exact e
theorem ref_pow (p : Nat) (hp : p ≤ 9) : 128 ^ p ≤ 9223372036854775808 := by
  have : (128 : Nat) ^ p ≤ 128 ^ 9 := Nat.pow_le_pow_right (by decide) hp
  exact Nat.le_trans this (by decide)
theorem ref_acc (acc un x p : Nat) (h : un = 128 ^ p ∧ acc < 128 ^ p) (hp : p ≤ 8 ∨ (p ≤ 9 ∧ x % 128 ≤ 1)) :
    IntKind.u64.wrap ((acc : Int) + IntKind.u64.wrap ((un : Int) * ((x : Int) % 128))) = ((acc + x % 128 * 128 ^ p : Nat) : Int) := by
  obtain ⟨rfl, ha⟩ := h
  have hb : acc + x % 128 * 128 ^ p < 18446744073709551616 := by
    rcases hp with h | ⟨h, hx⟩
    · have h1 := ref_pow (p + 1) (by omega)
      rw [Nat.pow_succ] at h1
      have : x % 128 * 128 ^ p ≤ 127 * 128 ^ p := Nat.mul_le_mul_right _ (by omega)
      omega
    · have h1 := ref_pow p h
      have : x % 128 * 128 ^ p ≤ 1 * 128 ^ p := Nat.mul_le_mul_right _ hx
      omega
  have e : ((128 ^ p : Nat) : Int) * ((x : Int) % 128) = ((x % 128 * 128 ^ p : Nat) : Int) := by
    rw [Nat.mul_comm]; simp
  rw [e, IntKind.wrap_u64, IntKind.wrap_u64]
  generalize x % 128 * 128 ^ p = z at *
  omega
theorem ref_un (un acc p : Nat) (h : un = 128 ^ p ∧ acc < 128 ^ p) (hp : p ≤ 8) : IntKind.u64.wrap ((un : Int) * 128) = ((128 ^ (p + 1) : Nat) : Int) := by
  obtain ⟨rfl, _⟩ := h
  have h1 := ref_pow (p + 1) (by omega)
  rw [Nat.pow_succ] at h1 ⊢
  generalize 128 ^ p = z at *
  rw [IntKind.wrap_u64]
  omega
theorem ref_le (un acc x p : Nat) (h : un = 128 ^ p ∧ acc < 128 ^ p) : acc + x % 128 * 128 ^ p < 128 ^ (p + 1) := by
  obtain ⟨rfl, ha⟩ := h
  have : x % 128 * 128 ^ p ≤ 127 * 128 ^ p := Nat.mul_le_mul_right _ (by omega)
  rw [Nat.pow_succ]
  omega
set_option maxRecDepth 100000 in
set_option maxHeartbeats 1600000 in
theorem refNum_at (w : World) (g : Nat) (s : Wire.St) (h : Sc w g 40 s) (hfi : s.fine) :
    Calls Try.prog 60 #[.pointer (some ⟨g, 0, none⟩)] w (Reads w g 40 (.int .u64 (s.numV : Int)) s.numS) := by
  have h0 := h
  obtain ⟨A, n, cap, hB, h1, h2, h3, hr⟩ := h
  obtain ⟨c0, c1, f0, f1⟩ := blk2 hB
  obtain ⟨bs, err⟩ := s
  simp only at h1 c1 hr
  by_cases he : err = 0
  · subst he
    have HN := Lib.hid h1
    clear h1
    have hnum : Hid (∀ t, Wire.num bs = t → (Wire.St.mk bs 0).numV = t.1 ∧ (Wire.St.mk bs 0).numS = if t.2.2 = 0 then ⟨bs.drop t.2.1, 0⟩ else (Wire.St.mk bs 0).fail (t.2.2 : Nat)) := by
      intro t ht
      subst ht
      exact ⟨rfl, rfl⟩
    generalize (Wire.St.mk bs 0).numV = nv at *
    generalize (Wire.St.mk bs 0).numS = ns at *
    go_enter Try.func60, Try.ntmps60
    go_wp2_with fail
    go_loop [3, 4, 5] (fun x u i => ∃ (p acc un : Nat), p ≤ 9 ∧ p ≤ n ∧ i = .int .i64 (p : Int) ∧ x = .int .u64 (acc : Int) ∧ u = .int .u64 (un : Int) ∧ Hid (un = 128 ^ p ∧ acc < 128 ^ p) ∧ Hid (Wire.num bs = Wire.scan (10 - p) p acc (bs.drop p))) (fun _ _ i => 10 - (intOf i).toNat)
    case atStart => exact ⟨0, 0, 1, by omega, by omega, rfl, rfl, rfl, ⟨rfl, by decide⟩, rfl⟩
    case round =>
      obtain ⟨p, acc, un, hp, hpn, rfl, rfl, rfl, hacc, HI⟩ := hrel
      obtain ⟨f, hf⟩ : ∃ f, 10 - p = f + 1 := ⟨9 - p, by omega⟩
      have HF := Lib.hid hf
      clear hf
      by_cases hpl : p = n
      · subst hpl
        have hN : Wire.num bs = (0, 0, 2) := by
          rw [HI.out, List.drop_eq_nil_of_le (by rw [HN.out]; omega), HF.out]; rfl
        obtain ⟨rfl, hns⟩ := hnum.out _ hN
        have HNS := Lib.hid hns
        clear hns hN
        go_wp2_with fail
        refine (refFail_at w g _ h0 hfi _).mono ?_
        rintro e w1 ⟨rfl, hs1, ht1⟩
        go_wp2_with fail
        go_ret
        refine ⟨rfl, ?_, ht1⟩
        rw [HNS.out]; exact hs1
      · obtain ⟨g2, off, rfl, hg2, hc⟩ := hr.at_ (k := p) (by rw [HN.out]; omega)
        have hdr : bs.drop p = bs[p]'(by rw [HN.out]; omega) :: bs.drop (p + 1) := List.drop_eq_getElem_cons _
        generalize hX : bs[p]'(by rw [HN.out]; omega) = x at *
        clear hX
        have HD := Lib.hid hdr
        clear hdr
        have hx : x.toNat < 256 := x.toNat_lt
        have h1 := and127 x
        have h3p : p < n := by omega
        have h4 : decide (n ≤ p) = false := by simp; omega
        have HSc : Hid (Wire.num bs = if 128 ≤ x.toNat then Wire.scan f (p + 1) (acc + x.toNat % 128 * 128 ^ p) (bs.drop (p + 1)) else if Wire.mayEnd x.toNat p then (acc + x.toNat * 128 ^ p, p + 1, 0) else (0, 0, 3)) := by
          show _ = _
          rw [HI.out, HF.out, HD.out, scan_cons]
        by_cases h9 : p = 9
        · have d9 : ((p : Int) == 9) = true := by simp; omega
          have hpos : 0 < p := by omega
          have H9 := Lib.hid h9
          have d0 : decide ((0 : Int) < (p : Int)) = true := by simp; omega
          by_cases hx1 : x.toNat = 1
          · have HX1 := Lib.hid hx1
            have hx2 : 1 ≤ x.toNat ∧ x.toNat ≤ 1 := by omega
            clear h9
            have dx : ((x.toNat : Int) != 1) = false := by simp; omega
            have dx0 : ((x.toNat : Int) == 0) = false := by simp; omega
            clear hx1
            have hlo : x.toNat < 128 := by omega
            have dh : decide ((x.toNat : Int) < 128) = true := by simp; omega
            have hN : Wire.num bs = (acc + x.toNat * 128 ^ p, p + 1, 0) := by
              rw [HSc.out, if_neg (by omega), if_pos]
              simp [Wire.mayEnd, H9.out, HX1.out]
            obtain ⟨rfl, rfl⟩ := hnum.out _ hN
            clear hN
            have HV : Hid (IntKind.u64.wrap ((acc : Int) + IntKind.u64.wrap ((un : Int) * ((x.toNat : Int) % 128))) = ((acc + x.toNat * 128 ^ p : Nat) : Int)) := by
              have h := ref_acc acc un x.toNat p hacc.out (.inr ⟨by omega, by omega⟩)
              rw [show acc + x.toNat % 128 * 128 ^ p = acc + x.toNat * 128 ^ p by rw [Nat.mod_eq_of_lt hlo]] at h
              exact h
            obtain ⟨A', hcut, hr'⟩ := run_cut hr HN.out (k := p + 1) (by omega) h2
            simp only [show ((p + 1 : Nat) : Int) = (p : Int) + 1 by omega] at hcut
            have H3 := Lib.hid h3p
            clear h3p hpn hpl
            go_wp2_with fail
            go_ret
            have hT : Touch g w (w.setCell ⟨g, 0, none⟩ (.slice A' (n - (p + 1)) (cap - (p + 1)))) := (Touch.refl _ _).set_ _ _
            refine ⟨ret_int HV.out, ?_, hT⟩
            exact ⟨A', n - (p + 1), cap - (p + 1), hB.put 0 _, by simp [HN.out], by have := H3.out; omega, by omega, hT.rd hr' (rd_apart hB hr')⟩
          · clear h9
            have dx : ((x.toNat : Int) != 1) = true := by simp; omega
            have hN : Wire.num bs = (0, 0, 3) := by
              rw [HSc.out]
              have hf0 : f = 0 := by have := HF.out; have := H9.out; omega
              rw [hf0]
              split
              · rfl
              · rw [if_neg]; simp [Wire.mayEnd, H9.out, hx1]
            obtain ⟨rfl, hns⟩ := hnum.out _ hN
            have HNS := Lib.hid hns
            clear hns hN
            go_wp2_with fail
            refine (refFail_at w g _ h0 hfi _).mono ?_
            rintro e w1 ⟨rfl, hs1, ht1⟩
            go_wp2_with fail
            go_ret
            refine ⟨rfl, ?_, ht1⟩
            rw [HNS.out]; exact hs1
        · have d9 : ((p : Int) == 9) = false := by simp; omega
          by_cases hz : 0 < p ∧ x.toNat = 0
          · have d0 : decide ((0 : Int) < (p : Int)) = true := by simp; omega
            have dx : ((x.toNat : Int) == 0) = true := by simp; omega
            have hN : Wire.num bs = (0, 0, 3) := by
              rw [HSc.out, if_neg (by omega), if_neg]
              simp [Wire.mayEnd, h9, hz.2]; omega
            obtain ⟨rfl, hns⟩ := hnum.out _ hN
            have HNS := Lib.hid hns
            clear hns hN
            go_wp2_with fail
            refine (refFail_at w g _ h0 hfi _).mono ?_
            rintro e w1 ⟨rfl, hs1, ht1⟩
            go_wp2_with fail
            go_ret
            refine ⟨rfl, ?_, ht1⟩
            rw [HNS.out]; exact hs1
          · by_cases hp0 : 0 < p
            · have d0 : decide ((0 : Int) < (p : Int)) = true := by simp; omega
              have dx : ((x.toNat : Int) == 0) = false := by simp; omega
              by_cases hhi : 128 ≤ x.toNat
              · have dh : decide ((x.toNat : Int) < 128) = false := by simp; omega
                go_wp2_with fail
                go_round
                case rel =>
                  refine ⟨p + 1, acc + x.toNat % 128 * 128 ^ p, 128 ^ (p + 1), by omega, by omega, by go_num, ?_, ?_, ⟨rfl, ref_le un acc x.toNat p hacc.out⟩, ?_⟩
                  · rw [ref_acc acc un x.toNat p hacc.out (.inl (by omega))]
                  · rw [ref_un un acc p hacc.out (by omega)]
                  · show _ = _
                    rw [HSc.out, if_pos hhi, show 10 - (p + 1) = f by have := HF.out; omega]
                case measure => simp [intOf]; omega
              · have hlo : x.toNat < 128 := by omega
                have dh : decide ((x.toNat : Int) < 128) = true := by simp; omega
                have hN : Wire.num bs = (acc + x.toNat * 128 ^ p, p + 1, 0) := by
                  rw [HSc.out, if_neg (by omega), if_pos]
                  rw [Wire.mayEnd, if_neg h9]; simp; omega
                obtain ⟨rfl, rfl⟩ := hnum.out _ hN
                clear hN
                have HV : Hid (IntKind.u64.wrap ((acc : Int) + IntKind.u64.wrap ((un : Int) * ((x.toNat : Int) % 128))) = ((acc + x.toNat * 128 ^ p : Nat) : Int)) := by
                  have h := ref_acc acc un x.toNat p hacc.out (.inl (by omega))
                  rw [show acc + x.toNat % 128 * 128 ^ p = acc + x.toNat * 128 ^ p by rw [Nat.mod_eq_of_lt hlo]] at h
                  exact h
                obtain ⟨A', hcut, hr'⟩ := run_cut hr HN.out (k := p + 1) (by omega) h2
                simp only [show ((p + 1 : Nat) : Int) = (p : Int) + 1 by omega] at hcut
                have H3 := Lib.hid h3p
                clear h3p hpn hpl
                go_wp2_with fail
                go_ret
                have hT : Touch g w (w.setCell ⟨g, 0, none⟩ (.slice A' (n - (p + 1)) (cap - (p + 1)))) := (Touch.refl _ _).set_ _ _
                refine ⟨ret_int HV.out, ?_, hT⟩
                exact ⟨A', n - (p + 1), cap - (p + 1), hB.put 0 _, by simp [HN.out], by have := H3.out; omega, by omega, hT.rd hr' (rd_apart hB hr')⟩
            · have d0 : decide ((0 : Int) < (p : Int)) = false := by simp; omega
              by_cases hhi : 128 ≤ x.toNat
              · have dh : decide ((x.toNat : Int) < 128) = false := by simp; omega
                go_wp2_with fail
                go_round
                case rel =>
                  refine ⟨p + 1, acc + x.toNat % 128 * 128 ^ p, 128 ^ (p + 1), by omega, by omega, by go_num, ?_, ?_, ⟨rfl, ref_le un acc x.toNat p hacc.out⟩, ?_⟩
                  · rw [ref_acc acc un x.toNat p hacc.out (.inl (by omega))]
                  · rw [ref_un un acc p hacc.out (by omega)]
                  · show _ = _
                    rw [HSc.out, if_pos hhi, show 10 - (p + 1) = f by have := HF.out; omega]
                case measure => simp [intOf]; omega
              · have hlo : x.toNat < 128 := by omega
                have dh : decide ((x.toNat : Int) < 128) = true := by simp; omega
                have hN : Wire.num bs = (acc + x.toNat * 128 ^ p, p + 1, 0) := by
                  rw [HSc.out, if_neg (by omega), if_pos]
                  rw [Wire.mayEnd, if_neg h9]; simp; omega
                obtain ⟨rfl, rfl⟩ := hnum.out _ hN
                clear hN
                have HV : Hid (IntKind.u64.wrap ((acc : Int) + IntKind.u64.wrap ((un : Int) * ((x.toNat : Int) % 128))) = ((acc + x.toNat * 128 ^ p : Nat) : Int)) := by
                  have h := ref_acc acc un x.toNat p hacc.out (.inl (by omega))
                  rw [show acc + x.toNat % 128 * 128 ^ p = acc + x.toNat * 128 ^ p by rw [Nat.mod_eq_of_lt hlo]] at h
                  exact h
                obtain ⟨A', hcut, hr'⟩ := run_cut hr HN.out (k := p + 1) (by omega) h2
                simp only [show ((p + 1 : Nat) : Int) = (p : Int) + 1 by omega] at hcut
                have H3 := Lib.hid h3p
                clear h3p hpn hpl
                go_wp2_with fail
                go_ret
                have hT : Touch g w (w.setCell ⟨g, 0, none⟩ (.slice A' (n - (p + 1)) (cap - (p + 1)))) := (Touch.refl _ _).set_ _ _
                refine ⟨ret_int HV.out, ?_, hT⟩
                exact ⟨A', n - (p + 1), cap - (p + 1), hB.put 0 _, by simp [HN.out], by have := H3.out; omega, by omega, hT.rd hr' (rd_apart hB hr')⟩
  · have hd : (err != 0) = true := by simpa using he
    obtain rfl : bs = [] := hfi he
    have e1 : (Wire.St.mk [] err).numS = ⟨[], err⟩ := by
      show (Wire.St.mk [] err).fail 2 = _
      simp [Wire.St.fail, he]
    have e2 : (Wire.St.mk [] err).numV = 0 := rfl
    rw [e1, e2]
    go_enter Try.func60, Try.ntmps60
    go_wp2_with fail
    go_ret
    exact ⟨rfl, h0, Touch.refl _ _⟩
end Go.Proofs.Ytcmjekchfgnbdaa
