/- The small case that each statement of layer 1 begins with. -/
import Derived.Test.YtkljekjgliebdaaOpn
import Derived.Lib.SlBytesConst
namespace Go.Proofs.Ytkljekjgliebdaa
open Go.RowKit
theorem below_alloc {w w' : World} {o : Obj} (h : Below (w.alloc o).heap.size (w.alloc o) w') : Below w.heap.size w w' :=
  ((Below.refl _ _).alloc (Nat.le_refl _) _).trans (h.mono (by simp))
set_option maxRecDepth 100000 in
set_option maxHeartbeats 400000 in
theorem small_any (w : World) :
    Calls Try.prog 9 #[] w fun e w' => e = .returned (.bool true) ∧ Below w.heap.size w w' := by
  have hz := zero_table
  have kc := fun (w : World) (C : Array Value) (n c : Nat) => Lib.run_convert_bytes_const (P := Try.prog) w 23 5 C n c Try.underlying23 Try.underlying5
  go_enter Try.func9, Try.ntmps9
  go_wp2_with fail
  refine (table_any _).mono ?_
  rintro e w1 ⟨rfl, hb1⟩
  have hsize : (Try.prog.info? 28).map (·.size) = some (tabTo 256).size := by rw [tabTo_size]; kernel_rfl
  have HS := Lib.hid hsize
  clear hsize
  go_wp2_with (refine wpList_store_new rfl 28 _ _ rfl w1.heap.size (tabTo 256) rfl rfl 28 zeros (heap_alloc_new _ _) HS.out (zeros_size 256) (tabTo_one 256) ?_; intro w2 hT2 hb2')
  have hb2 := hb2' w.heap.size w (hb1.alloc hb1.size _) hb1.size
  have hg2 := hb1.size
  clear hb2'
  have hr2 := rd_const w2 5 (2, 3) #[.int .u8 97, .int .u8 98] [97, 98] rfl
  refine (seal_at _ [97, 98] 2 6 2 rfl rfl (by decide) _ hr2).mono ?_
  rintro e w3 ⟨g3, rfl, hg3, hb3, hB3⟩
  clear hr2
  have hr3 := hB3.rd
  go_wp2_with fail
  refine (open_good _ (Crc.shut [97, 98]) 6 2 6 rfl rfl (by decide) (by decide) _ hr3 (Crc.good_shut _)).mono ?_
  rintro e w4 ⟨g4, rfl, hg4, hb4, hB4⟩
  go_wp2_with fail
  have hr4 := rd_const w4 5 (0, 0) #[.int .u8 1, .int .u8 2, .int .u8 3] [1, 2, 3] rfl
  refine (open_none _ [1, 2, 3] 3 3 rfl (by decide) (by decide) _ hr4 (by decide)).mono ?_
  rintro e w5 ⟨rfl, hb5⟩
  clear hr4
  go_wp2_with fail
  have hr5 := rd_const w5 5 (9, 10) #[.int .u8 49, .int .u8 50, .int .u8 51, .int .u8 52, .int .u8 53, .int .u8 54, .int .u8 55, .int .u8 56, .int .u8 57] [49, 50, 51, 52, 53, 54, 55, 56, 57] rfl
  refine (sum_at _ [49, 50, 51, 52, 53, 54, 55, 56, 57] 9 9 rfl (by decide) _ hr5).mono ?_
  rintro e w6 ⟨rfl, hb6⟩
  rw [show Crc.sum [49, 50, 51, 52, 53, 54, 55, 56, 57] = 3421780262 by decide +kernel]
  clear hr5
  go_wp2_with fail
  refine (sum_at none [] 0 0 rfl (by decide) _ (.inl rfl)).mono ?_
  rintro e w7 ⟨rfl, hb7⟩
  rw [show Crc.sum [] = 0 by decide +kernel]
  replace hb3 := below_alloc hb3
  replace hb5 := below_alloc hb5
  replace hb6 := below_alloc hb6
  replace hg3 : w2.heap.size ≤ g3 := Nat.le_trans (by simp) hg3
  have hs3 := hb3.size
  have hs4 := hb4.size
  have hs5 := hb5.size
  have hs6 := hb6.size
  have hlt := hT2.lt
  have hT := ((((hT2.below hb3 hlt).below hb4 (by omega)).below hb5 (by omega)).below hb6 (by omega)).below hb7 (by omega)
  have hlt4 := hB4.lt
  have hB := ((hB4.below hb5 hlt4).below hb6 (by omega)).below hb7 (by omega)
  have hc1 : w7.cell? ⟨w1.heap.size, 1, none⟩ = some (.int .u32 1996959894) := (hT.cell 1).trans (by kernel_rfl)
  have hc2 : w7.cell? ⟨w1.heap.size, 255, none⟩ = some (.int .u32 755167117) := (hT.cell 255).trans (by kernel_rfl)
  have hst := run_str (P := Try.prog) w7 _ _ 2 2 hB.rd rfl 23 5 9 Try.underlying23 Try.underlying5 Try.underlying9
  rw [show (Crc.shut [97, 98]).take 2 = [97, 98] from rfl] at hst
  have hb : Below w.heap.size w w7 := ((((hb2.trans (hb3.mono hb2.size)).trans (hb4.mono (by have := hb2.size; omega))).trans (hb5.mono (by have := hb2.size; omega))).trans (hb6.mono (by have := hb2.size; omega))).trans (hb7.mono (by have := hb2.size; omega))
  clear hT hB hB4 hB3 hr3 hT2 hb1 hb2 hb3 hb4 hb5 hb6 hb7
  go_wp2_with fail
  go_ret
  exact ⟨rfl, hb⟩
end Go.Proofs.Ytkljekjgliebdaa
