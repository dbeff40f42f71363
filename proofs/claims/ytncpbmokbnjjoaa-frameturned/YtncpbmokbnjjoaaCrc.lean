/- Package crc: Add, Sum and Seal. -/
import Derived.Test.YtncpbmokbnjjoaaTab
namespace Go.Proofs.Ytncpbmokbnjjoaa
open Go.RowKit
set_option maxRecDepth 100000 in
set_option maxHeartbeats 400000 in
theorem add_any (n : Nat) (A : Option Addr) (bs : List UInt8) (cap : Nat) (h1 : n < 4294967296) (hl : bs.length ≤ maxLen) (w : World) (hr : Rd w A bs) :
    Calls Try.prog 32 #[.int .u32 (n : Int), .slice A bs.length cap] w fun e w' => e = .returned (.int .u32 (Crc.add n bs : Int)) ∧ Below w.heap.size w w' := by
  unfold maxLen at hl
  have hz := zero_table
  go_enter Try.func32, Try.ntmps32
  go_wp2_with fail
  refine (table_any _).mono ?_
  rintro e w1 ⟨rfl, hb⟩
  have hsize : (Try.prog.info? 58).map (·.size) = some (tabTo 256).size := by rw [tabTo_size]; kernel_rfl
  have HS := Lib.hid hsize
  clear hsize
  go_wp2_with (refine wpList_store_row rfl 58 _ _ rfl w1.heap.size (tabTo 256) rfl rfl 58 zeros (heap_alloc_new _ _) HS.out (zeros_size 256) (tabTo_one 256) ?_)
  have hB : Blk ((w1.alloc (Obj.cells zeros 58)).setRow w1.heap.size (tabTo 256)) w1.heap.size 58 (tabTo 256) := setRow_heap _ _ zeros _ _ _ (heap_alloc_new _ _)
  have hbw : Below w.heap.size w ((w1.alloc (Obj.cells zeros 58)).setRow w1.heap.size (tabTo 256)) := below_setRow (hb.alloc hb.size _) hb.size _
  generalize (w1.alloc (Obj.cells zeros 58)).setRow w1.heap.size (tabTo 256) = W at *
  have hr' := hr.below hbw
  go_loop [6, 14] (fun r i => ∃ k : Nat, k ≤ bs.length ∧ i = .int .i64 k ∧ r = .int .u32 (Crc.fold (Crc.all1 ^^^ n) (bs.take k) : Int)) (fun _ i => bs.length - (intOf i).toNat)
  case atStart => 
    exact ⟨0, by omega, rfl, by rw [not32 n h1]; rfl⟩
  case round =>
    obtain ⟨k, hk, rfl, rfl⟩ := hrel
    by_cases hlt : k < bs.length
    · obtain ⟨g, off, rfl, hg, hc⟩ := hr'.at_ hlt
      generalize hR : Crc.fold (Crc.all1 ^^^ n) (bs.take k) = R
      have HR := Lib.hid hR
      clear hR
      have hRl : R < 4294967296 := by rw [← HR.out]; exact Crc.fold_lt _ _ (Crc.xor_lt _ _ Crc.all1_lt h1)
      generalize hX : bs[k] = x at *
      have HX := Lib.hid hX
      clear hX
      have hj := xor8 R x
      have hj1 : R % 256 ^^^ x.toNat < 256 := Nat.xor_lt_two_pow (n := 8) (by omega) x.toNat_lt
      have HU : Hid (Crc.fold (Crc.all1 ^^^ n) (bs.take (k + 1)) = Crc.upd R x) := by
        rw [List.take_succ_eq_append_getElem hlt, Crc.fold_append, HR.out, HX.out]; rfl
      have HV : Hid (Crc.upd R x = Crc.so (R % 256 ^^^ x.toNat) ^^^ (R / 256)) := rfl
      generalize R % 256 ^^^ x.toNat = j at *
      have hct := (hB.cell j).trans (tabTo_at 256 j hj1)
      rw [if_pos hj1] at hct
      have hso := Crc.so_lt j (by omega)
      have HW := Lib.hid (xor32 (Crc.so j) (R / 256) hso (by omega))
      generalize Crc.so j = y at *
      go_wp2_with fail
      go_round
      case rel => exact ⟨k + 1, by omega, by go_num, by rw [HU.out, HV.out, ← HW.out]; rfl⟩
      case measure => simp [intOf]; omega
    · obtain rfl : k = bs.length := by omega
      have hRl : Crc.fold (Crc.all1 ^^^ n) (bs.take bs.length) < 4294967296 := Crc.fold_lt _ _ (Crc.xor_lt _ _ Crc.all1_lt h1)
      generalize hR : Crc.fold (Crc.all1 ^^^ n) (bs.take bs.length) = R at *
      have HR := Lib.hid hR
      clear hR
      go_wp2_with fail
      go_ret
      refine ⟨?_, hbw⟩
      rw [not32 R hRl, ← HR.out, List.take_length]; rfl
theorem sum_any (A : Option Addr) (bs : List UInt8) (cap : Nat) (hl : bs.length ≤ maxLen) (w : World) (hr : Rd w A bs) :
    Calls Try.prog 27 #[.slice A bs.length cap] w fun e w' => e = .returned (.int .u32 (Crc.sum bs : Int)) ∧ Below w.heap.size w w' := by
  go_enter Try.func27, Try.ntmps27
  go_wp2_with fail
  refine (add_any 0 A bs cap (by decide) hl w hr).mono ?_
  rintro e w1 ⟨rfl, hb⟩
  go_wp2_with fail
  go_ret
  exact ⟨rfl, hb⟩
set_option maxRecDepth 100000 in
set_option maxHeartbeats 400000 in
theorem seal_any (A : Option Addr) (bs : List UInt8) (cap : Nat) (hl : bs.length ≤ 140737488355328 - 4096) (w : World) (hr : Rd w A bs) :
    Calls Try.prog 19 #[.slice A bs.length cap] w fun e w' => e = .returned (.slice (some ⟨w.heap.size, 0, none⟩) (bs.length + 4) (bs.length + 4)) ∧ Below w.heap.size w w' ∧ Blk w' w.heap.size 5 ((Crc.shut bs).map Bv).toArray := by
  obtain ⟨i0, hi0, hz0, hz1, hz2⟩ := info_parts byte_info
  have hmk := fun W => run_make (P := Try.prog) W 22 5 i0 _ Try.underlying22 hi0 hz0 .i64 .i64 bs.length (bs.length + 4) (by omega) (by omega) (by rw [hz2]; omega) (by omega)
  go_enter Try.func19, Try.ntmps19
  obtain ⟨Z, hZ⟩ : ∃ Z : List Value, Z = (madeCells #[Value.int IntKind.u8 0] (bs.length + 4)).toList := ⟨_, rfl⟩
  have HZ := Lib.hid hZ
  clear hZ
  have hZl : Z.length = bs.length + 4 := by rw [HZ.out]; simp [size_madeCells]
  have HZl := Lib.hid hZl
  clear hZl
  have hr1 : ∀ o : Obj, Rd (w.alloc o) A bs := fun o => hr.below ((Below.refl _ _).alloc (Nat.le_refl _) o)
  go_wp2_with (refine wpList_copy_rd rfl (.tmp 11) (.tmp 12) 22 22 rfl 5 Try.underlying22 (by kernel_rfl) w.heap.size bs.length (bs.length + 4) A bs.length cap (by rfl) (by rfl) bs (hr1 _) (by simp) Z 5 (by rw [HZ.out]; exact heap_alloc_new _ _) (by rw [HZl.out]; omega) ?_; intro w2 hB2 hb2')
  have hb2 := hb2' w.heap.size w ((Below.refl _ _).alloc (Nat.le_refl _) _) (Nat.le_refl _)
  clear hb2'
  have hr2 := hr.below hb2
  have hsz2 := hB2.lt
  go_wp2_with fail
  refine (sum_any A bs cap (by unfold maxLen; omega) w2 hr2).mono ?_
  rintro e w3 ⟨rfl, hb3⟩
  have hB3 := fun O => (hB2.below hb3 hsz2).alloc O
  have hnew := fun vs => Blk.src (cs := vs) (Blk.new w3 5 vs.toArray)
  have HL := Lib.hid (low_vals (Crc.sum bs))
  go_wp2_with (at_builtin; refine wpList_append_fit rfl (.tmp 16) (.tmp 28) 22 rfl 5 i0 Try.underlying22 hi0 hz1 w.heap.size bs.length (bs.length + 4) (bs.map Bv ++ Z.drop bs.length) (by rfl) (hB3 _) ⟨w3.heap.size, 0, none⟩ 4 4 [.int .u8 ((Crc.sum bs : Int) % 256), .int .u8 ((Crc.sum bs : Int) / 256 % 256), .int .u8 ((Crc.sum bs : Int) / 65536 % 256), .int .u8 ((Crc.sum bs : Int) / 16777216 % 256)] (by rfl) (by rfl) (hnew _) (by rw [← HL.out]; exact vals_one _) (by omega) (by simp [HZl.out]) ?_; intro w4 hB4 hb4')
  have hb4 := hb4' w.heap.size w ((hb2.trans (hb3.mono hb2.size)).alloc (Nat.le_trans hb2.size hb3.size) _) (Nat.le_refl _)
  go_ret
  refine ⟨rfl, hb4, ?_⟩
  have e : (Crc.shut bs).map Bv = (bs.map Bv ++ Z.drop bs.length).take bs.length ++ [.int .u8 ((Crc.sum bs : Int) % 256), .int .u8 ((Crc.sum bs : Int) / 256 % 256), .int .u8 ((Crc.sum bs : Int) / 65536 % 256), .int .u8 ((Crc.sum bs : Int) / 16777216 % 256)] ++ (bs.map Bv ++ Z.drop bs.length).drop (bs.length + 4) := by
    rw [← HL.out]
    have h1 : (bs.map Bv ++ Z.drop bs.length).take bs.length = bs.map Bv := by
      rw [List.take_append_of_le_length (by simp)]; exact List.take_of_length_le (by simp)
    have h2 : (bs.map Bv ++ Z.drop bs.length).drop (bs.length + 4) = [] := by
      apply List.drop_eq_nil_of_le; simp [HZl.out]
    rw [h1, h2]; simp [Crc.shut]
  rw [e]; exact hB4
end Go.Proofs.Ytncpbmokbnjjoaa
