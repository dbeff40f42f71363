/- Package wire: how many bytes a number has. -/
import Derived.Test.YtcmjekchfgnbdaaMem
import Derived.Test.YtcmjekchfgnbdaaWMath
import Derived.Lib.BitFns
import Derived.Lib.Zigzag
namespace Go.Proofs.Ytcmjekchfgnbdaa
open Go.RowKit
theorem tab_size : (Lib.len8tab.size : Int) = 256 := by rw [Lib.len8tab_size]; rfl
theorem tab_at (y : Int) (h : y.toNat < Lib.len8tab.size) : ((Lib.len8tab[y.toNat]'h).toNat : Int) = Lib.len8 y := by
  unfold Lib.len8
  rw [getElem?_pos Lib.len8tab y.toNat h]; rfl
theorem wrap_two (k a b : Nat) (hk : k ≤ 56) (ha : a ≤ 8) (hb : b = k + a) : wrap64 ((k : Int) + wrap64 (a : Int)) = (b : Int) := by
  unfold wrap64; omega
/-- One of the eight ways: so many bits are cut off, and what is left is looked up. -/
theorem len_way (x k : Nat) (z : Int) (j : Nat) (h : z.toNat < Lib.len8tab.size) (hx : x < 2 ^ 64) (hk : k ≤ 56) (h1 : j = 2 ^ k) (hj : k = 0 ∨ j ≤ x) (hz : z = ((x / j : Nat) : Int)) :
    wrap64 ((k : Int) + wrap64 ((Lib.len8tab[z.toNat]'h).toNat : Int)) = (Lib.bitLen x : Int) := by
  subst h1
  generalize hq : x / 2 ^ k = q at *
  have hs := tab_size
  have hl : q < 256 := by omega
  rw [tab_at z h, Lib.len8_of _ (by omega) (by omega), show z.toNat = q by omega]
  refine wrap_two k _ _ hk (Lib.bitLen_le8 ⟨q, hl⟩) ?_
  rcases hj with rfl | hj
  · simp at hq; simp [hq]
  · rw [Lib.bitLen_shift k x hj hx, hq]
set_option maxHeartbeats 4000000 in
set_option maxRecDepth 100000 in
theorem len64_int (x : Int) (w : World) (h0 : 0 ≤ x) (h1 : x ≤ 18446744073709551615) :
    Calls Try.prog 65 #[.int .u64 x] w fun e w' => e = .returned (.int .i64 (Lib.bitLen x.toNat : Int)) ∧ w = w' := by
  go_enter Try.func65, Try.ntmps65
  go_wp2
  all_goals first
    | (go_ret; refine ⟨congrArg Ending.returned (congrArg (Value.int IntKind.i64) ?_), rfl⟩)
    | (exfalso; have hs := tab_size; omega)
  · exact len_way x.toNat 56 _ 72057594037927936 _ (by omega) (by decide) rfl (.inr (by omega)) (by omega)
  · exact len_way x.toNat 48 _ 281474976710656 _ (by omega) (by decide) rfl (.inr (by omega)) (by omega)
  · exact len_way x.toNat 40 _ 1099511627776 _ (by omega) (by decide) rfl (.inr (by omega)) (by omega)
  · exact len_way x.toNat 32 _ 4294967296 _ (by omega) (by decide) rfl (.inr (by omega)) (by omega)
  · exact len_way x.toNat 24 _ 16777216 _ (by omega) (by decide) rfl (.inr (by omega)) (by omega)
  · exact len_way x.toNat 16 _ 65536 _ (by omega) (by decide) rfl (.inr (by omega)) (by omega)
  · exact len_way x.toNat 8 _ 256 _ (by omega) (by decide) rfl (.inr (by omega)) (by omega)
  · have hs := tab_size
    have h := len_way x.toNat 0 x 1 (by omega) (by omega) (by decide) rfl (.inl rfl) (by omega)
    simpa using h
theorem or1 (n : Nat) (h : n < 2 ^ 64) : bits .or .u64 (n : Int) 1 = ((n ||| 1 : Nat) : Int) := u64_or_nat n 1 h (by decide)
theorem size_any (n : Nat) (w : World) (hn : n < 2 ^ 64) :
    Calls Try.prog 52 #[.int .u64 (n : Int)] w fun e w' => e = .returned (.int .i64 ((Wire.put n).length : Int)) ∧ w = w' := by
  have HN := Lib.hid hn
  have hor := or1 n hn
  have hlt : n ||| 1 < 2 ^ 64 := Nat.or_lt_two_pow hn (by decide)
  have HL := Lib.hid (Wire.put_len n hn)
  have hb := Lib.bitLen_le (n ||| 1) 64 (by decide) hlt
  generalize hm : n ||| 1 = m at *
  clear hm hn
  have H0 : Hid ((0 : Int) ≤ (m : Int) ∧ (m : Int) ≤ 18446744073709551615) := ⟨by omega, by omega⟩
  clear hlt
  go_enter Try.func52, Try.ntmps52
  go_wp2_with fail
  refine (len64_int (m : Int) _ H0.out.1 H0.out.2).mono ?_
  rintro e w1 ⟨rfl, rfl⟩
  rw [show ((m : Int)).toNat = m from rfl]
  go_wp2_with fail
  go_ret
  refine ⟨?_, rfl⟩
  rw [HL.out]
  exact ret_int (a := ((Lib.bitLen m : Int) + 7 - 1) / 7) (by omega)
end Go.Proofs.Ytcmjekchfgnbdaa
