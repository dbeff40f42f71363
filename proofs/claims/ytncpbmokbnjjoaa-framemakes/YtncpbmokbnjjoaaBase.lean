/- What the walks over package crc share, beyond what is of no package. -/
import Derived.Test.YtncpbmokbnjjoaaMem
import Derived.Test.YtncpbmokbnjjoaaMath
namespace Go.Proofs.Ytncpbmokbnjjoaa
open Go.RowKit
theorem and1 (n : Nat) (h : n < 4294967296) : bits .and .u32 (n : Int) 1 = ((n % 2 : Nat) : Int) := by
  have := u32_and_nat n 1 h (by decide)
  rw [nat_mask1] at this; exact this
theorem xor32 (a b : Nat) (ha : a < 4294967296) (hb : b < 4294967296) : bits .xor .u32 (a : Int) (b : Int) = ((a ^^^ b : Nat) : Int) := u32_xor_nat a b ha hb
theorem xor32p (n : Nat) (h : n < 4294967296) : bits .xor .u32 ((n : Int) / 2) 3988292384 = ((n / 2 ^^^ 3988292384 : Nat) : Int) :=
  u32_xor_nat (n / 2) 3988292384 (by omega) (by decide)
theorem step_yes (n : Nat) (h : n < 4294967296) (hb : (bits .and .u32 (n : Int) 1 == 1) = true) : bits .xor .u32 ((n : Int) / 2) 3988292384 = (Crc.step n : Int) := by
  rw [xor32p n h]; rw [and1 n h] at hb
  have : n % 2 = 1 := by have := beq_iff_eq.1 hb; omega
  simp [Crc.step, this]
theorem step_no (n : Nat) (h : n < 4294967296) (hb : (bits .and .u32 (n : Int) 1 == 1) = false) : (n : Int) / 2 = (Crc.step n : Int) := by
  rw [and1 n h] at hb
  have : ¬ n % 2 = 1 := by have := beq_eq_false_iff_ne.1 hb; omega
  simp [Crc.step, this]
theorem steps_succ (k n : Nat) : Crc.steps (k + 1) n = Crc.step (Crc.steps k n) := by
  rw [Crc.steps_add]; rfl
theorem not32 (n : Nat) (h : n < 4294967296) : bits .xor .u32 IntKind.u32.max (n : Int) = ((Crc.all1 ^^^ n : Nat) : Int) := u32_xor_nat 4294967295 n (by decide) h
theorem xor_bit (x : UInt8) (q : Nat) : bits .xor .u8 (x.toNat : Int) (2 ^ (q % 8) % 256) = (((x ^^^ UInt8.ofNat (2 ^ (q % 8)) : UInt8).toNat : Nat) : Int) := by
  have h : 2 ^ (q % 8) < 256 := Nat.pow_lt_pow_right (n := 8) (by decide) (by omega)
  have e : ((2 : Int) ^ (q % 8) % 256) = ((2 ^ (q % 8) : Nat) : Int) := by
    rw [show ((2 : Int) ^ (q % 8)) = ((2 ^ (q % 8) : Nat) : Int) by simp]
    generalize 2 ^ (q % 8) = z at *
    omega
  rw [e, u8_xor_nat _ _ x.toNat_lt h, UInt8.toNat_xor, Crc.pow_byte]
/-- One bit of a row of bytes, turned in memory. -/
theorem blk_turn {w : World} {g : Nat} {t : TypeId} {bs : List UInt8} (h : Blk w g t (bs.map Bv).toArray) (q : Nat) (x : UInt8) (hx : bs[q / 8]? = some x) :
    Blk (w.setCell ⟨g, q / 8, none⟩ (.int .u8 (((x ^^^ UInt8.ofNat (2 ^ (q % 8)) : UInt8).toNat : Nat) : Int))) g t ((Crc.turn bs q).map Bv).toArray := by
  have := h.put (q / 8) (Bv (x ^^^ UInt8.ofNat (2 ^ (q % 8))))
  have e : ((bs.map Bv).toArray).setIfInBounds (q / 8) (Bv (x ^^^ UInt8.ofNat (2 ^ (q % 8)))) = ((Crc.turn bs q).map Bv).toArray := by
    rw [List.setIfInBounds_toArray]
    congr 1
    apply List.ext_getElem?
    intro i
    by_cases hi : q / 8 = i
    · subst hi
      have hl : q / 8 < bs.length := (List.getElem?_eq_some_iff.1 hx).1
      have hx' : bs[q / 8] = x := by rw [List.getElem?_eq_getElem hl] at hx; exact Option.some.inj hx
      simp [Crc.turn, hl, hx']
    · simp [Crc.turn, hi]
  rw [e] at this
  exact this
theorem bit_cast (m k : Nat) : ((m : Int) / 2 ^ k).tmod 2 = ((m / 2 ^ k % 2 : Nat) : Int) := by
  rw [show ((m : Int) / 2 ^ k) = ((m / 2 ^ k : Nat) : Int) by simp]
  rw [Int.tmod_eq_emod_of_nonneg (Int.natCast_nonneg _)]; omega
theorem bit_yes (m k : Nat) (h : m / 2 ^ k % 2 = 1) : (((m : Int) / 2 ^ k).tmod 2 == 1) = true := by rw [bit_cast, h]; rfl
theorem bit_no (m k : Nat) (h : ¬ m / 2 ^ k % 2 = 1) : (((m : Int) / 2 ^ k).tmod 2 == 1) = false := by
  rw [bit_cast, show m / 2 ^ k % 2 = 0 by omega]; rfl
/-- One bit turned in memory: 's[q/8] = s[q/8] ^ 1<<uint(q%8)' at its store. -/
theorem wpList_store_turn {P : Program} {w : World} {ops : Array Oper} {rest : List Oper} {o : Oper} {a : Act} {Q : Exit → Act → World → Prop} (hgd : o.guard = none) (ty : TypeId) (x y : Operand) (ho : o.op = .store ty x y)
    (g q : Nat) (b : UInt8) (hx : a.eval x = .pointer (some ⟨g, q / 8, none⟩)) (hy : a.eval y = .int .u8 (bits .xor .u8 (b.toNat : Int) (2 ^ (q % 8) % 256)))
    (t : TypeId) (bs : List UInt8) (hg : Blk w g t (bs.map Bv).toArray) (hb : bs[q / 8]? = some b) (hi : (P.info? ty).map (·.size) = some 1)
    (h : ∀ w', Blk w' g t ((Crc.turn bs q).map Bv).toArray → (∀ B w0, Below B w0 w → B ≤ g → Below B w0 w') → wpList P ops Q rest (a.put o.dst undef) w') : wpList P ops Q (o :: rest) a w := by
  have hlt : q / 8 < bs.length := (List.getElem?_eq_some_iff.1 hb).1
  rw [xor_bit] at hy
  refine wpList_plain hgd fun K hK => ?_
  unfold Oper.wp execOp
  simp only [ho, hx, hy, Instr.storeAt, Instr.sureAddr, Sem.run_bind, Sem.run_pure, Result.andThen_ok, run_storeVar_int w g (q / 8) t ty _ .u8 _ hg (by simpa using hlt) hi]
  exact hK _ _ (h _ (blk_turn hg q b hb) fun _ _ hb hB => hb.setCell hB _)
theorem turn_at (bs : List UInt8) (p i : Nat) (h : i < bs.length) : ∃ x, (Crc.turn bs p)[i]? = some x := ⟨_, List.getElem?_eq_getElem (by rw [Crc.turn_length]; exact h)⟩
theorem low_vals (n : Nat) : (Crc.low n).map Bv = [.int .u8 ((n : Int) % 256), .int .u8 ((n : Int) / 256 % 256), .int .u8 ((n : Int) / 65536 % 256), .int .u8 ((n : Int) / 16777216 % 256)] := by
  simp [Crc.low, Bv]
set_option maxHeartbeats 400000 in
theorem so_any (n : Nat) (h : n < 4294967296) (w : World) :
    Calls Try.prog 34 #[.int .u32 (n : Int)] w fun e w' => e = .returned (.int .u32 (Crc.so n : Int)) ∧ w = w' := by
  go_enter Try.func34, Try.ntmps34
  go_wp2
  go_loop [0, 4] (fun x i => ∃ k : Nat, k ≤ 8 ∧ i = .int .i64 k ∧ x = .int .u32 (Crc.steps k n : Int)) (fun _ i => 8 - (intOf i).toNat)
  case atStart => exact ⟨0, by omega, rfl, rfl⟩
  case round =>
    obtain ⟨k, hk, rfl, rfl⟩ := hrel
    have hs := Crc.steps_lt k n h
    have HS := Lib.hid (steps_succ k n)
    generalize hx : Crc.steps k n = x at *
    have HX := Lib.hid hx
    clear hx
    by_cases hlt : k < 8
    · go_wp2
      · go_round
        case rel => exact ⟨k + 1, by omega, by go_num, by rw [HS.out, step_yes x hs ‹_›]⟩
        case measure => simp [intOf]; omega
      · go_round
        case rel => exact ⟨k + 1, by omega, by go_num, by rw [HS.out, step_no x hs ‹_›]⟩
        case measure => simp [intOf]; omega
    · go_wp2
      go_ret
      obtain rfl : k = 8 := by omega
      exact ⟨by rw [← HX.out]; rfl, rfl⟩
end Go.Proofs.Ytncpbmokbnjjoaa
