/- What is looked up, and if two events are the same: by the program, and by the document. -/
import Derived.Test.YtcmjekchfgnbdaaEOne
import Derived.Test.YtcmjekchfgnbdaaQuiet
namespace Go.Proofs.Ytcmjekchfgnbdaa
open Go.RowKit Go.Sort Ev
/-- What Get tells. -/
def gotV : Option At → Value
  | some a => .tuple #[.agg #[.int .i64 a.k, .int .i64 a.i, .string ⟨a.t.toArray⟩], .bool true]
  | none => .tuple #[.agg #[.int .i64 0, .int .i64 0, .string ⟨#[]⟩], .bool false]
theorem ret_got {r s : Option At} (h : r = s) : Ending.returned (gotV r) = .returned (gotV s) := by rw [h]
theorem take_ne {es : List At} {s : List UInt8} {k : Nat} (h : ∀ j (hj : j < es.length), j < k → es[j].n ≠ s) (hk : ∀ (hj : k < es.length), es[k].n ≠ s) : ∀ j (hj : j < es.length), j < k + 1 → es[j].n ≠ s := by
  intro j hj hlt
  rcases Nat.lt_or_ge j k with h1 | h1
  · exact h j hj h1
  · obtain rfl : j = k := by omega
    exact hk hj
set_option maxRecDepth 100000 in
set_option maxHeartbeats 1000000 in
theorem get_at (A : Option Addr) (es : List At) (n c : Nat) (hn : es.length = n) (hm : n ≤ maxLen) (s : List UInt8) (w : World) (hr : RdA w A es) :
    Calls Try.prog 31 #[.slice A n c, .string ⟨s.toArray⟩] w fun e w' => e = .returned (gotV (find es s)) ∧ Below w.heap.size w w' := by
  have HN := Lib.hid hn
  rw [maxLen_num] at hm
  clear hn
  have hB0 := Blk.new w 23 #[.int .i64 0, .int .i64 0, .string ⟨#[]⟩]
  have hb0 : Below w.heap.size w (w.alloc (.cells #[.int .i64 0, .int .i64 0, .string ⟨#[]⟩] 23)) := (Below.refl _ _).alloc (Nat.le_refl _) _
  go_enter Try.func31, Try.ntmps31
  go_wp2_with fail
  go_loopw [10] (fun i wr => ∃ k : Nat, k ≤ n ∧ i = .int .i64 (k : Int) ∧ Hid (Below w.heap.size w wr) ∧ Hid (Blk wr w.heap.size 23 #[.int .i64 0, .int .i64 0, .string ⟨#[]⟩]) ∧ Hid (∀ j (hj : j < es.length), j < k → es[j].n ≠ s)) (fun i _ => n - (intOf i).toNat)
  case atStart => exact ⟨0, by omega, rfl, hb0, hB0, fun j hj h => absurd h (by omega)⟩
  case round =>
    obtain ⟨k, hk, rfl, HB, HZ, HA⟩ := hrel
    clear hB0 hb0
    by_cases hlt : k < n
    · have hk' : k < es.length := by rw [HN.out]; exact hlt
      obtain ⟨g, off, rfl, hg, hC⟩ := (hr.below HB.out).at_ hk'
      obtain ⟨z, hz⟩ : ∃ z, es[k] = z := ⟨_, rfl⟩
      have HE := Lib.hid hz
      rw [hz] at hC
      clear hz hr
      obtain ⟨zn, zk, zi, zt⟩ := z
      obtain ⟨c0, c1, c2, c3⟩ := hC
      obtain ⟨d0, d1, d2, f0, f1, f2⟩ := blk3 HZ.out
      have hb1 := Lib.hid (HB.out.alloc HB.out.size (.cells #[.string ⟨zn.toArray⟩, .int .i64 zk, .int .i64 zi, .string ⟨zt.toArray⟩] 52))
      have hz1 := Lib.hid (HZ.out.alloc (.cells #[.string ⟨zn.toArray⟩, .int .i64 zk, .int .i64 zi, .string ⟨zt.toArray⟩] 52))
      have hne : w.heap.size < wr.heap.size := HZ.out.lt
      by_cases he : zn = s
      · have HF : Hid (find es s = some ⟨zn, zk, zi, zt⟩) := by
          show _ = _
          rw [← HE.out]
          exact find_at k hk' (fun j hj => HA.out j (by omega) hj) (by rw [HE.out]; exact he)
        have hd : (zn == s) = true := by simpa using he
        clear HA he
        go_wp2_with fail
        have hR := (((HZ.out.put 0 (.int .i64 zk)).put 1 (.int .i64 zi)).put 2 (.string ⟨zt.toArray⟩)).alloc (.cells #[.string ⟨zn.toArray⟩, .int .i64 zk, .int .i64 zi, .string ⟨zt.toArray⟩] 52)
        have hb4 := (((HB.out.setCell (p := ⟨w.heap.size, 0, none⟩) (Nat.le_refl _) (.int .i64 zk)).setCell (p := ⟨w.heap.size, 1, none⟩) (Nat.le_refl _) (.int .i64 zi)).setCell (p := ⟨w.heap.size, 2, none⟩) (Nat.le_refl _) (.string ⟨zt.toArray⟩)).alloc (by simp; omega) (.cells #[.string ⟨zn.toArray⟩, .int .i64 zk, .int .i64 zi, .string ⟨zt.toArray⟩] 52)
        generalize (((wr.setCell ⟨w.heap.size, 0, none⟩ (.int .i64 zk)).setCell ⟨w.heap.size, 1, none⟩ (.int .i64 zi)).setCell ⟨w.heap.size, 2, none⟩ (.string ⟨zt.toArray⟩)).alloc (.cells #[.string ⟨zn.toArray⟩, .int .i64 zk, .int .i64 zi, .string ⟨zt.toArray⟩] 52) = w4 at *
        have r0 : w4.cell? ⟨w.heap.size, 0, none⟩ = some (.int .i64 zk) := hR.cell 0
        have r1 : w4.cell? ⟨w.heap.size, 1, none⟩ = some (.int .i64 zi) := hR.cell 1
        have r2 : w4.cell? ⟨w.heap.size, 2, none⟩ = some (.string ⟨zt.toArray⟩) := hR.cell 2
        refine bodyPost_ret (v := .tuple #[.agg #[.int .i64 zk, .int .i64 zi, .string ⟨zt.toArray⟩], .bool true]) (by simp [results, Try.results31, go_sem, r0, r1, r2]) rfl ?_
        exact ⟨(ret_got HF.out).symm, hb4⟩
      · have HA2 : Hid (∀ j (hj : j < es.length), j < k + 1 → es[j].n ≠ s) := take_ne HA.out fun _ => by rw [HE.out]; exact he
        have hd : (zn == s) = false := by simpa using he
        clear HA he d0 d1 d2 f0 f1 f2
        go_wp2_with fail
        go_roundw
        case rel => exact ⟨k + 1, by omega, by go_num, hb1, hz1, HA2⟩
        case measure => simp [intOf]; omega
    · have HF : Hid (find es s = none) := find_none fun a ha => by
        obtain ⟨j, hj, rfl⟩ := List.getElem_of_mem ha
        exact HA.out j hj (by rw [HN.out] at hj; omega)
      obtain ⟨d0, d1, d2, f0, f1, f2⟩ := blk3 HZ.out
      clear HA
      go_wp2_with fail
      refine bodyPost_ret (v := .tuple #[.agg #[.int .i64 0, .int .i64 0, .string ⟨#[]⟩], .bool false]) (by simp [results, Try.results31, go_sem, d0, d1, d2]) rfl ?_
      exact ⟨(ret_got HF.out).symm, ((HB.out.setCell (Nat.le_refl _) _).setCell (Nat.le_refl _) _).setCell (Nat.le_refl _) _⟩
set_option maxRecDepth 100000 in
set_option maxHeartbeats 1000000 in
theorem refGet_at (A : Option Addr) (es : List At) (n c : Nat) (hn : es.length = n) (hm : n ≤ maxLen) (s : List UInt8) (w : World) (hr : RdA w A es) :
    Calls Try.prog 32 #[.slice A n c, .string ⟨s.toArray⟩] w fun e w' => e = .returned (gotV (find es s)) ∧ Below w.heap.size w w' := by
  have HN := Lib.hid hn
  rw [maxLen_num] at hm
  clear hn
  have hB0 := Blk.new w 23 #[.int .i64 0, .int .i64 0, .string ⟨#[]⟩]
  have hb0 : Below w.heap.size w (w.alloc (.cells #[.int .i64 0, .int .i64 0, .string ⟨#[]⟩] 23)) := (Below.refl _ _).alloc (Nat.le_refl _) _
  go_enter Try.func32, Try.ntmps32
  go_wp2_with fail
  go_loopw [6] (fun i wr => ∃ k : Nat, k ≤ n ∧ i = .int .i64 (k : Int) ∧ Hid (Below w.heap.size w wr) ∧ Hid (Blk wr w.heap.size 23 #[.int .i64 0, .int .i64 0, .string ⟨#[]⟩]) ∧ Hid (∀ j (hj : j < es.length), j < k → es[j].n ≠ s)) (fun i _ => n - (intOf i).toNat)
  case atStart => exact ⟨0, by omega, rfl, hb0, hB0, fun j hj h => absurd h (by omega)⟩
  case round =>
    obtain ⟨k, hk, rfl, HB, HZ, HA⟩ := hrel
    clear hB0 hb0
    by_cases hlt : k < n
    · have hk' : k < es.length := by rw [HN.out]; exact hlt
      obtain ⟨g, off, rfl, hg, hC⟩ := (hr.below HB.out).at_ hk'
      obtain ⟨z, hz⟩ : ∃ z, es[k] = z := ⟨_, rfl⟩
      have HE := Lib.hid hz
      rw [hz] at hC
      clear hz hr
      obtain ⟨zn, zk, zi, zt⟩ := z
      obtain ⟨c0, c1, c2, c3⟩ := hC
      obtain ⟨d0, d1, d2, f0, f1, f2⟩ := blk3 HZ.out
      by_cases he : zn = s
      · have HF : Hid (find es s = some ⟨zn, zk, zi, zt⟩) := by
          show _ = _
          rw [← HE.out]
          exact find_at k hk' (fun j hj => HA.out j (by omega) hj) (by rw [HE.out]; exact he)
        have hd : (zn == s) = true := by simpa using he
        clear HA he
        go_wp2_with fail
        refine bodyPost_ret (v := .tuple #[.agg #[.int .i64 zk, .int .i64 zi, .string ⟨zt.toArray⟩], .bool true]) (by simp [results, Try.results32, go_sem, d0, d1, d2]) rfl ?_
        exact ⟨(ret_got HF.out).symm, ((HB.out.setCell (Nat.le_refl _) _).setCell (Nat.le_refl _) _).setCell (Nat.le_refl _) _⟩
      · have HA2 : Hid (∀ j (hj : j < es.length), j < k + 1 → es[j].n ≠ s) := take_ne HA.out fun _ => by rw [HE.out]; exact he
        have hd : (zn == s) = false := by simpa using he
        clear HA he d0 d1 d2 f0 f1 f2
        go_wp2_with fail
        go_roundw
        case rel => exact ⟨k + 1, by omega, by go_num, HB, HZ, HA2⟩
        case measure => simp [intOf]; omega
    · have HF : Hid (find es s = none) := find_none fun a ha => by
        obtain ⟨j, hj, rfl⟩ := List.getElem_of_mem ha
        exact HA.out j hj (by rw [HN.out] at hj; omega)
      obtain ⟨d0, d1, d2, f0, f1, f2⟩ := blk3 HZ.out
      clear HA
      go_wp2_with fail
      refine bodyPost_ret (v := .tuple #[.agg #[.int .i64 0, .int .i64 0, .string ⟨#[]⟩], .bool false]) (by simp [results, Try.results32, go_sem, d0, d1, d2]) rfl ?_
      exact ⟨(ret_got HF.out).symm, ((HB.out.setCell (Nat.le_refl _) _).setCell (Nat.le_refl _) _).setCell (Nat.le_refl _) _⟩
theorem eqGuardA : Try.prog.eqGuardType Try.prog.depth 52 = false := by kernel_rfl
end Go.Proofs.Ytcmjekchfgnbdaa
