/- Package wire: a number read off bytes. -/
import Derived.Test.YtcmjekchfgnbdaaWLay
namespace Go.Proofs.Ytcmjekchfgnbdaa
open Go.RowKit
theorem and128_hi (x : UInt8) (hx : 128 ≤ x.toNat) : bits .and .u8 (x.toNat : Int) 128 = 128 := by
  have h : ∀ y : Fin 256, 128 ≤ y.val → y.val &&& 128 = 128 := by decide +kernel
  have e := u8_and_nat x.toNat 128 x.toNat_lt (by decide)
  rw [h ⟨x.toNat, x.toNat_lt⟩ hx] at e
  exact e
theorem and128_lo (x : UInt8) (hx : x.toNat < 128) : bits .and .u8 (x.toNat : Int) 128 = 0 := by
  have h : ∀ y : Fin 256, y.val < 128 → y.val &&& 128 = 0 := by decide +kernel
  have e := u8_and_nat x.toNat 128 x.toNat_lt (by decide)
  rw [h ⟨x.toNat, x.toNat_lt⟩ hx] at e
  exact e
theorem not128 (x : UInt8) : bits .andNot .u8 (x.toNat : Int) 128 = ((x.toNat % 128 : Nat) : Int) := by
  have e := u8_andNot_nat x.toNat 128 x.toNat_lt (by decide)
  rw [show 255 - 128 = 127 from rfl, nat_mask7] at e
  exact e
theorem or_step (acc x p : Nat) (ha : acc < 2 ^ (7 * p)) (hp : p ≤ 9) (hx : p ≤ 8 ∨ x % 128 ≤ 1) : bits .or .u64 (acc : Int) (IntKind.u64.wrap ((x : Int) % 128 * 2 ^ (p * 7))) = ((acc + x % 128 * 128 ^ p : Nat) : Int) := by
  have e1 : (128 : Nat) ^ p = 2 ^ (7 * p) := by rw [show (128 : Nat) = 2 ^ 7 from rfl, ← Nat.pow_mul]
  have hlt : x % 128 * 2 ^ (7 * p) < 2 ^ 64 := by
    rcases hx with h | h
    · have : 2 ^ (7 * p) ≤ 2 ^ 56 := Nat.pow_le_pow_right (by decide) (by omega)
      have h2 : x % 128 < 128 := by omega
      calc x % 128 * 2 ^ (7 * p) ≤ x % 128 * 2 ^ 56 := Nat.mul_le_mul_left _ this
        _ < 128 * 2 ^ 56 := Nat.mul_lt_mul_of_pos_right h2 (by decide)
        _ ≤ 2 ^ 64 := by decide
    · have : 2 ^ (7 * p) ≤ 2 ^ 63 := Nat.pow_le_pow_right (by decide) (by omega)
      calc x % 128 * 2 ^ (7 * p) ≤ 1 * 2 ^ 63 := Nat.mul_le_mul h this
        _ < 2 ^ 64 := by decide
  have hal : acc < 2 ^ 64 := Nat.lt_of_lt_of_le ha (Nat.pow_le_pow_right (by decide) (by omega))
  have e2 : ((x : Int) % 128 * 2 ^ (p * 7)) = ((x % 128 * 2 ^ (7 * p) : Nat) : Int) := by
    rw [Nat.mul_comm 7 p]; simp
  rw [e2, e1, IntKind.wrap_u64]
  generalize hz : x % 128 * 2 ^ (7 * p) = z at *
  rw [show (z : Int) % 18446744073709551616 = (z : Int) by omega, u64_or_nat acc z (by omega) (by omega), Nat.or_comm, nat_join (7 * p) z acc (by rw [← hz]; exact Nat.mul_mod_left _ _) ha]
  omega
set_option maxHeartbeats 400000 in
theorem mayEnd_any (x p : Nat) (hx : x < 256) (hp : p < 10) (b : Bool) (hb : Wire.mayEnd x p = b) (w : World) :
    Calls Try.prog 71 #[.int .u8 (x : Int), .int .i64 (p : Int)] w fun e w' => e = .returned (.bool b) ∧ w = w' := by
  have HB := Lib.hid hb
  clear hb
  by_cases h9 : p = 9
  · subst h9
    by_cases h1 : x = 1
    · subst h1
      go_enter Try.func71, Try.ntmps71
      go_wp2
      go_ret
      exact ⟨by rw [← HB.out]; rfl, rfl⟩
    · have hd : ((x : Int) == 1) = false := by simp; omega
      go_enter Try.func71, Try.ntmps71
      go_wp2
      go_ret
      exact ⟨by rw [← HB.out]; simp [Wire.mayEnd, h1], rfl⟩
  · have hd : ((p : Int) == 9) = false := by simp; omega
    by_cases h0 : x = 0
    · subst h0
      by_cases hp0 : p = 0
      · subst hp0
        go_enter Try.func71, Try.ntmps71
        go_wp2
        go_ret
        exact ⟨by rw [← HB.out]; rfl, rfl⟩
      · have hd2 : ((p : Int) == 0) = false := by simp; omega
        go_enter Try.func71, Try.ntmps71
        go_wp2
        go_ret
        exact ⟨by rw [← HB.out]; simp [Wire.mayEnd, h9, hp0], rfl⟩
    · have hd2 : ((x : Int) != 0) = true := by simp; omega
      go_enter Try.func71, Try.ntmps71
      go_wp2
      go_ret
      exact ⟨by rw [← HB.out]; simp [Wire.mayEnd, h9, h0], rfl⟩
theorem ret_num {bs : List UInt8} {t : Nat × Nat × Nat} (h : Wire.num bs = t) {a b c : Int} (h1 : a = (t.1 : Int)) (h2 : b = (t.2.1 : Int)) (h3 : c = (t.2.2 : Int)) :
    Ending.returned (.tuple #[.int .u64 a, .int .i64 b, .int .i64 c]) = .returned (.tuple #[.int .u64 ((Wire.num bs).1 : Int), .int .i64 ((Wire.num bs).2.1 : Int), .int .i64 ((Wire.num bs).2.2 : Int)]) := by
  rw [h, h1, h2, h3]
theorem scan_cons (f p acc : Nat) (x : UInt8) (r : List UInt8) : Wire.scan (f + 1) p acc (x :: r) = if 128 ≤ x.toNat then Wire.scan f (p + 1) (acc + x.toNat % 128 * 128 ^ p) r
    else if Wire.mayEnd x.toNat p then (acc + x.toNat * 128 ^ p, p + 1, 0) else (0, 0, 3) := rfl
set_option maxRecDepth 100000 in
set_option maxHeartbeats 800000 in
theorem number_at (A : Option Addr) (bs : List UInt8) (n cap : Nat) (hn : bs.length = n) (hl : n ≤ 140737488355328) (w : World) (hr : Rd w A bs) :
    Calls Try.prog 69 #[.slice A n cap] w fun e w' => e = .returned (.tuple #[.int .u64 ((Wire.num bs).1 : Int), .int .i64 ((Wire.num bs).2.1 : Int), .int .i64 ((Wire.num bs).2.2 : Int)]) ∧ w = w' := by
  have HN := Lib.hid hn
  clear hn
  go_enter Try.func69, Try.ntmps69
  go_wp2_with fail
  go_loop [5, 8] (fun x i => ∃ (p acc : Nat) (z : Int), p ≤ 10 ∧ p ≤ n ∧ i = .int .i64 (p : Int) ∧ x = .int .u64 z ∧ Hid (p ≤ 9 → z = (acc : Int) ∧ acc < 2 ^ (7 * p)) ∧ Hid (Wire.num bs = Wire.scan (10 - p) p acc (bs.drop p))) (fun _ i => 10 - (intOf i).toNat)
  case atStart => exact ⟨0, 0, 0, by omega, by omega, rfl, rfl, fun _ => by simp, rfl⟩
  case round =>
    obtain ⟨p, acc, z, hp, hpn, rfl, rfl, hacc, HI⟩ := hrel
    by_cases h10 : p = 10
    · subst h10
      go_wp2
      go_ret3
      exact ⟨ret_num HI.out rfl rfl rfl, rfl⟩
    · have hlt : p < 10 := by omega
      obtain ⟨f, hf⟩ : ∃ f, 10 - p = f + 1 := ⟨9 - p, by omega⟩
      have HF := Lib.hid hf
      clear hf
      obtain ⟨hz, hal⟩ := hacc.out (by omega)
      subst hz
      have HA := Lib.hid hal
      clear hal hacc
      by_cases hpl : p = n
      · subst hpl
        go_wp2
        go_ret3
        refine ⟨ret_num (t := (0, 0, 2)) ?_ rfl rfl rfl, rfl⟩
        rw [HI.out, List.drop_eq_nil_of_le (by rw [HN.out]; omega), HF.out]; rfl
      · obtain ⟨g, off, rfl, hg, hc⟩ := hr.at_ (k := p) (by rw [HN.out]; omega)
        have hdr : bs.drop p = bs[p]'(by rw [HN.out]; omega) :: bs.drop (p + 1) := List.drop_eq_getElem_cons _
        generalize hX : bs[p]'(by rw [HN.out]; omega) = x at *
        clear hX
        have HD := Lib.hid hdr
        clear hdr
        have hx : x.toNat < 256 := x.toNat_lt
        have h1 := not128 x
        have h3 : p < n := by omega
        have h4 : ((p : Int) == (n : Int)) = false := by simp; omega
        have HSc : Hid (Wire.num bs = if 128 ≤ x.toNat then Wire.scan f (p + 1) (acc + x.toNat % 128 * 128 ^ p) (bs.drop (p + 1)) else if Wire.mayEnd x.toNat p then (acc + x.toNat * 128 ^ p, p + 1, 0) else (0, 0, 3)) := by
          show _ = _
          rw [HI.out, HF.out, HD.out, scan_cons]
        by_cases hhi : 128 ≤ x.toNat
        · have h2 := and128_hi x hhi
          go_wp2_with fail
          go_round
          case rel =>
            refine ⟨p + 1, acc + x.toNat % 128 * 128 ^ p, _, by omega, by omega, by go_num, rfl, ?_, ?_⟩
            · intro h9
              refine ⟨or_step acc x.toNat p HA.out (by omega) (.inl (by omega)), ?_⟩
              have e1 : (128 : Nat) ^ p = 2 ^ (7 * p) := by rw [show (128 : Nat) = 2 ^ 7 from rfl, ← Nat.pow_mul]
              have hz := HA.out
              rw [e1, Nat.mul_add, Nat.pow_add]
              have : x.toNat % 128 * 2 ^ (7 * p) ≤ 127 * 2 ^ (7 * p) := Nat.mul_le_mul_right _ (by omega)
              omega
            · show _ = _
              rw [HSc.out, if_pos hhi, show 10 - (p + 1) = f by have := HF.out; omega]
          case measure => simp [intOf]; omega
        · have hlo : x.toNat < 128 := by omega
          have h2 := and128_lo x hlo
          cases hme : Wire.mayEnd x.toNat p with
          | true =>
            have HM := Lib.hid hme
            clear hme
            go_wp2_with fail
            refine (mayEnd_any x.toNat p hx hlt true HM.out _).mono ?_
            rintro e w1 ⟨rfl, rfl⟩
            go_wp2_with fail
            go_ret3
            have hm : x.toNat % 128 = x.toNat := by omega
            have ho := or_step acc x.toNat p HA.out (by omega) (by
              by_cases h9 : p = 9
              · right
                have := HM.out
                simp [Wire.mayEnd, h9] at this
                omega
              · left; omega)
            refine ⟨ret_num (t := (acc + x.toNat * 128 ^ p, p + 1, 0)) ?_ (by rw [hm] at ho; exact ho) (by simp) rfl, rfl⟩
            rw [HSc.out, if_neg hhi, if_pos HM.out]
          | false =>
            have HM := Lib.hid hme
            clear hme
            go_wp2_with fail
            refine (mayEnd_any x.toNat p hx hlt false HM.out _).mono ?_
            rintro e w1 ⟨rfl, rfl⟩
            go_wp2_with fail
            go_ret3
            refine ⟨ret_num (t := (0, 0, 3)) ?_ rfl rfl rfl, rfl⟩
            rw [HSc.out, if_neg hhi, if_neg (by rw [HM.out]; simp)]
end Go.Proofs.Ytcmjekchfgnbdaa
