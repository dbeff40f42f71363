/- Package frame: frameSize, laid, told, Make, head, Next. -/
import Derived.Test.YtncpbmokbnjjoaaOpn
import Derived.Test.YtncpbmokbnjjoaaFMath
namespace Go.Proofs.Ytncpbmokbnjjoaa
open Go.RowKit
theorem or64 (a b : UInt8) : bits .or .i64 (a.toNat : Int) ((b.toNat : Int) * 256) = (Frm.told2 [a, b] : Int) := by
  have ha := a.toNat_lt; have hb := b.toNat_lt
  have e : (b.toNat : Int) * 256 = ((2 ^ 8 * b.toNat : Nat) : Int) := by omega
  have hx : a.toNat ||| 2 ^ 8 * b.toNat < 2 ^ 16 := Nat.or_lt_two_pow (by omega) (by omega)
  have hj : a.toNat ||| 2 ^ 8 * b.toNat = 2 ^ 8 * b.toNat + a.toNat := by rw [Nat.or_comm]; exact nat_join 8 _ _ (by simp) (by omega)
  rw [e]
  show IntKind.i64.wrap ((BitVec.ofInt 64 (a.toNat : Int) ||| BitVec.ofInt 64 ((2 ^ 8 * b.toNat : Nat) : Int)).toNat : Int) = _
  rw [BitVec.toNat_or, BitVec.ofInt_natCast, BitVec.ofInt_natCast, BitVec.toNat_ofNat, BitVec.toNat_ofNat, Nat.mod_eq_of_lt (by omega), Nat.mod_eq_of_lt (by omega), IntKind.wrap_i64, hj]
  simp only [Frm.told2]; omega
/-- A part of a row of bytes, as the model spells it. -/
theorem run_mid {w : World} {A : Option Addr} {bs : List UInt8} {n cap j k : Nat} (hr : Rd w A bs) (hj : j < k) (hk : k ≤ n) (hc : n ≤ cap) :
    ∃ A', (∀ W, (Instr.slice 22 (.slice A n cap) (some (.int .i64 (j : Int))) (some (.int .i64 (k : Int))) none).run Try.prog W = .ok (.slice A' (k - j) (cap - j)) W) ∧ Rd w A' ((bs.drop j).take (k - j)) := by
  refine ⟨A.map fun x => x.add j, fun W => ?_, ?_⟩
  · have h1 : (0 : Int) ≤ (j : Int) := by omega
    have h2 : (j : Int) ≤ (k : Int) := by omega
    have h3 : (k : Int) ≤ (cap : Int) := by omega
    have h4 : ¬ cap = j := by omega
    have h5 : ¬ cap - j = 0 := by omega
    go_simp
  · have := (Rd.cut hr j).take (k - j)
    exact this
theorem size_at (n m : Nat) (hn : n ≤ 65536) (hm : 10 + n = m) (w : World) :
    Calls Try.prog 18 #[.int .i64 (n : Int)] w fun e w' => e = .returned (.int .i64 (m : Int)) ∧ w = w' := by
  have HM := Lib.hid hm
  clear hm
  go_enter Try.func18, Try.ntmps18
  go_wp2_with fail
  go_ret
  refine ⟨ret_int ?_, rfl⟩
  have := HM.out
  omega
theorem two_vals (n : Nat) (hn : n ≤ 8192) : (Frm.two n).map Bv = [.int .u8 ((n : Int) % 256), .int .u8 ((n : Int) / 256)] := by
  simp [Frm.two, Bv]; omega
theorem laid_at (n : Nat) (hn : n ≤ 8192) (w : World) :
    Calls Try.prog 20 #[.int .i64 (n : Int)] w fun e w' => ∃ g, e = .returned (.slice (some ⟨g, 0, none⟩) 2 2) ∧ w.heap.size ≤ g ∧ Below w.heap.size w w' ∧ Blk w' g 5 ((Frm.two n).map Bv).toArray := by
  have HL := Lib.hid (two_vals n hn)
  go_enter Try.func20, Try.ntmps20
  go_wp2_with fail
  go_ret
  refine ⟨w.heap.size, rfl, Nat.le_refl _, (Below.refl _ _).alloc (Nat.le_refl _) _, ?_⟩
  rw [HL.out]; exact Blk.new _ _ _
set_option maxRecDepth 100000 in
set_option maxHeartbeats 400000 in
theorem told2_at (A : Option Addr) (bs : List UInt8) (cap : Nat) (hl : bs.length = 2) (w : World) (hr : Rd w A bs) :
    Calls Try.prog 28 #[.slice A 2 cap] w fun e w' => e = .returned (.int .i64 (Frm.told2 bs : Int)) ∧ ∃ n, w' = w.drewN n := by
  match bs, hl with
  | [a, b], _ =>
    obtain ⟨g, off, rfl, hg, hc0⟩ := hr.at_ (k := 0) (by simp)
    have hc : w.cell? ⟨g, off, none⟩ = some (.int .u8 (a.toNat : Int)) ∧ w.cell? ⟨g, off + 1, none⟩ = some (.int .u8 (b.toNat : Int)) := by
      rcases hr with h | ⟨g', off', e, _, hc⟩
      · simp at h
      · simp at e
        obtain ⟨rfl, rfl⟩ := e
        exact ⟨hc 0 (by simp), hc 1 (by simp)⟩
    clear hc0 hr
    obtain ⟨hc0, hc1⟩ := hc
    have ha := a.toNat_lt; have hb := b.toNat_lt
    go_enter Try.func28, Try.ntmps28
    go_wp2_with fail
    go_quiet (fail)
    go_wp2
    go_ret
    exact ⟨congrArg (fun z => Ending.returned (.int .i64 z)) (or64 a b), nq, rfl⟩
theorem make_long (A : Option Addr) (n cap : Nat) (hl : 8192 < n) (w : World) :
    Calls Try.prog 9 #[.slice A n cap] w fun e w' => e = .returned (.tuple #[.slice none 0 0, .int .i64 4]) ∧ w = w' := by
  have hd : decide ((8192 : Int) < (n : Int)) = true := by simp; omega
  go_enter Try.func9, Try.ntmps9
  go_wp2_with fail
  go_ret2
  exact ⟨rfl, rfl⟩
theorem lay_first (Z H : List Value) : Z.take 0 ++ H ++ Z.drop (0 + 6) = H ++ Z.drop 6 := by simp
theorem lay_second (Z H S : List Value) (n : Nat) (hH : H.length = 6) (hZ : Z.length = n + 10) : (H ++ Z.drop 6).take 6 ++ S ++ (H ++ Z.drop 6).drop (6 + (n + 4)) = H ++ S := by
  rw [List.take_append_of_le_length (by omega), List.take_of_length_le (by omega), List.drop_eq_nil_of_le (by simp; omega), List.append_nil]
set_option maxRecDepth 100000 in
set_option maxHeartbeats 400000 in
theorem make_at (A : Option Addr) (bs : List UInt8) (n m cap : Nat) (hn : bs.length = n) (hl : n ≤ 8192) (hm : n + 10 = m) (w : World) (hr : Rd w A bs) :
    Calls Try.prog 9 #[.slice A n cap] w fun e w' => ∃ g, e = .returned (.tuple #[.slice (some ⟨g, 0, none⟩) m m, .int .i64 0]) ∧ w.heap.size ≤ g ∧ Below w.heap.size w w' ∧ Blk w' g 5 ((Frm.frame bs).map Bv).toArray := by
  subst hm
  have HN := Lib.hid hn
  clear hn
  obtain ⟨i0, hi0, hz0, hz1, hz2⟩ := info_parts byte_info
  have hd : decide ((8192 : Int) < (n : Int)) = false := by simp; omega
  have hmk := fun W => run_make (P := Try.prog) W 22 5 i0 _ Try.underlying22 hi0 hz0 .i64 .i64 0 ((n : Int) + 10) (by omega) (by omega) (by rw [hz2]; omega) (by omega)
  obtain ⟨Z, hZ⟩ : ∃ Z : List Value, Z = (madeCells #[Value.int IntKind.u8 0] (n + 10)).toList := ⟨_, rfl⟩
  have HZ := Lib.hid hZ
  clear hZ
  have hZl : Z.length = n + 10 := by rw [HZ.out]; simp [size_madeCells]
  have HZl := Lib.hid hZl
  clear hZl
  go_enter Try.func9, Try.ntmps9
  go_wp2_with fail
  refine (size_at n (n + 10) (by omega) (by omega) _).mono ?_
  rintro e w1 ⟨rfl, rfl⟩
  go_wp2_with fail
  refine (laid_at n hl _).mono ?_
  rintro e w2 ⟨g2, rfl, hg2, hb2, hB2⟩
  have hZB := Blk.new w 5 (madeCells #[Value.int IntKind.u8 0] (n + 10))
  have HZB : Hid (Blk w2 w.heap.size 5 Z.toArray) := by
    rw [Hid, HZ.out, Array.toArray_toList]; exact hZB.below hb2 (by simp)
  have hb2' := below_alloc hb2
  clear hZB hb2
  go_wp2_with fail
  refine (seal_at _ (Frm.two n) 2 6 2 rfl rfl (by decide) _ hB2.rd).mono ?_
  rintro e w3 ⟨g3, rfl, hg3, hb3, hB3⟩
  have HZ3 : Hid (Blk w3 w.heap.size 5 Z.toArray) := HZB.out.below hb3 HZB.out.lt
  have hb3' := below_next hb2' (Nat.le_refl _) hb3
  clear hb3 hB2 HZB hb2'
  have HH : Hid (((Crc.shut (Frm.two n)).map Bv).length = 6) := by rw [Hid, List.length_map, Frm.head_length]
  go_wp2_with (at_builtin; refine wpList_append_fit rfl (.tmp 12) (.tmp 16) 22 rfl 5 i0 Try.underlying22 hi0 hz1 w.heap.size 0 (n + 10) Z (by rfl) HZ3.out ⟨g3, 0, none⟩ 6 6 ((Crc.shut (Frm.two n)).map Bv) (by rfl) HH.out hB3.src (vals_one _) (by omega) (by rw [HZl.out]; omega) ?_; intro w4 hB4 hb4')
  rw [lay_first] at hB4
  have hb4 := hb4' w.heap.size w hb3' (Nat.le_refl _)
  clear hb4' hb3' HZ3 hB3
  refine (seal_at A bs n (n + 4) cap HN.out rfl (by omega) _ (hr.below hb4)).mono ?_
  rintro e w5 ⟨g5, rfl, hg5, hb5, hB5⟩
  have hB4' := hB4.below hb5 hB4.lt
  have hb5' := below_next hb4 (Nat.le_refl _) hb5
  clear hb4 hB4 hb5
  have HS : Hid (((Crc.shut bs).map Bv).length = n + 4) := by rw [Hid, List.length_map, Crc.shut_length, HN.out]
  have HW : Hid (((Crc.shut (Frm.two n)).map Bv ++ Z.drop 6).length = n + 10) := by rw [Hid, List.length_append, HH.out, List.length_drop, HZl.out]; omega
  go_wp2_with (at_builtin; refine wpList_append_fit rfl (.tmp 18) (.tmp 20) 22 rfl 5 i0 Try.underlying22 hi0 hz1 w.heap.size 6 (n + 10) ((Crc.shut (Frm.two n)).map Bv ++ Z.drop 6) (by rfl) hB4' ⟨g5, 0, none⟩ (n + 4) (n + 4) ((Crc.shut bs).map Bv) (by rfl) HS.out hB5.src (vals_one _) (by omega) (by rw [HW.out]; omega) ?_; intro w6 hB6 hb6')
  rw [lay_second _ _ _ n HH.out HZl.out] at hB6
  have hb6 := hb6' w.heap.size w hb5' (Nat.le_refl _)
  go_ret2
  refine ⟨w.heap.size, by rw [show 6 + (n + 4) = n + 10 by omega]; rfl, Nat.le_refl _, hb6, ?_⟩
  rw [show (Frm.frame bs).map Bv = (Crc.shut (Frm.two n)).map Bv ++ (Crc.shut bs).map Bv by rw [Frm.frame, List.map_append, HN.out]]
  exact hB6
end Go.Proofs.Ytncpbmokbnjjoaa
