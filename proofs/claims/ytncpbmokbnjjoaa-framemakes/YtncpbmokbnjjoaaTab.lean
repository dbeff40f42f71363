/- Package crc: the table, made anew at each call. -/
import Derived.Test.YtncpbmokbnjjoaaBase
namespace Go.Proofs.Ytncpbmokbnjjoaa
open Go.RowKit
def zeros : Array Value := Array.replicate 256 (.int .u32 0)
def tabTo (k : Nat) : Array Value := (Array.range 256).map fun i => .int .u32 (if i < k then (Crc.so i : Int) else 0)
theorem zero_table (w : World) : (zeroValue 58).run Try.prog w = .ok (.agg zeros) w := by kernel_rfl
theorem tabTo_size (k : Nat) : (tabTo k).size = 256 := by simp [tabTo]
theorem tabTo_zero : tabTo 0 = zeros := by
  apply Array.ext
  · simp [tabTo, zeros]
  · intro i h1 h2; simp [tabTo, zeros]
theorem tabTo_at (k i : Nat) (h : i < 256) : (tabTo k)[i]? = some (.int .u32 (if i < k then (Crc.so i : Int) else 0)) := by
  simp [tabTo, h]
theorem tabTo_succ (k : Nat) : (tabTo k).setIfInBounds k (.int .u32 (Crc.so k : Int)) = tabTo (k + 1) := by
  apply Array.ext
  · simp [tabTo]
  · intro i h1 h2
    have h3 : i < (tabTo k).size := by simpa using h1
    rw [Array.getElem_setIfInBounds h3]
    by_cases hk : k = i
    · subst hk; simp [tabTo]
    · simp only [hk, if_false, tabTo, Array.getElem_map, Array.getElem_range]
      by_cases hlt : i < k
      · simp [hlt, show i < k + 1 by omega]
      · simp [hlt, show ¬ i < k + 1 by omega]
theorem zeros_size (k : Nat) : zeros.size = (tabTo k).size := by rw [tabTo_size]; simp [zeros]
theorem tabTo_one (k : Nat) : (tabTo k).all (·.oneCell') = true := by
  rw [Array.all_eq_true_iff_forall_mem]
  intro v hv
  simp only [tabTo, Array.mem_map] at hv
  obtain ⟨i, _, rfl⟩ := hv
  rfl
set_option maxRecDepth 100000 in
set_option maxHeartbeats 400000 in
theorem table_any (w : World) :
    Calls Try.prog 33 #[] w fun e w' => e = .returned (.agg (tabTo 256)) ∧ Below w.heap.size w w' := by
  have hz := zero_table
  go_enter Try.func33, Try.ntmps33
  go_wp2_with fail
  go_loopw [3] (fun i wr => ∃ k : Nat, k ≤ 256 ∧ i = .int .i64 k ∧ Below w.heap.size w wr ∧ w.heap.size + 1 < wr.heap.size ∧ Blk wr w.heap.size 58 zeros ∧ Blk wr (w.heap.size + 1) 58 (tabTo k)) (fun i _ => 256 - (intOf i).toNat)
  case atStart => 
    refine ⟨0, by omega, rfl, ((Below.refl _ _).alloc (Nat.le_refl _) _).alloc (by simp) _, by simp, ?_, ?_⟩
    · exact heap_alloc2_old _ _ _
    · rw [tabTo_zero]; exact heap_alloc2_new _ _ _
  case round =>
    obtain ⟨k, hk, rfl, hb, hsz, hB0, hB1⟩ := hrel
    by_cases hlt : k < 256
    · obtain ⟨v, hc⟩ : ∃ v : Int, wr.cell? ⟨w.heap.size + 1, k, none⟩ = some (.int .u32 v) := ⟨_, (hB1.cell k).trans (tabTo_at k k hlt)⟩
      have hf := hB1.frozen k
      go_wp2_with fail
      refine (so_any k (by omega) _).mono ?_
      rintro e w' ⟨rfl, rfl⟩
      go_wp2_with fail
      go_roundw
      case rel =>
        refine ⟨k + 1, by omega, by go_num, hb.setCell (by simp) _, by simpa [World.setCell] using hsz, hB0.far (by simp) _, ?_⟩
        rw [← tabTo_succ k]; exact hB1.put k _
      case measure => simp [intOf]; omega
    · obtain rfl : k = 256 := by omega
      have hsize : (Try.prog.info? 58).map (·.size) = some (tabTo 256).size := by rw [tabTo_size]; kernel_rfl
      have HS := Lib.hid hsize
      clear hsize
      go_wp2_with (first
        | (refine wpList_load_row rfl 58 _ rfl (w.heap.size + 1) rfl 58 (tabTo 256) (0, 0) _ hB1 Try.underlying58 rfl HS.out ?_)
        | (refine wpList_store_row rfl 58 _ _ rfl w.heap.size (tabTo 256) rfl rfl 58 zeros hB0 HS.out (zeros_size 256) (tabTo_one 256) ?_))
      refine bodyPost_ret (v := .agg (tabTo 256)) ?_ rfl ⟨rfl, ?_⟩
      · exact results_cell_row rfl _ _ w.heap.size 58 (tabTo 256) (0, 0) _ rfl (setRow_heap wr w.heap.size zeros (tabTo 256) 58 (0, 0) hB0) Try.underlying58 rfl HS.out
      · exact below_setRow hb (Nat.le_refl _) _
end Go.Proofs.Ytncpbmokbnjjoaa
