/- Package span: endBehindPrefix. -/
import Derived.Test.YtcgmbgfbhdimeaaSMeet
import Derived.Lib.ConvBytes
namespace Spans
theorem up_ff : ∀ p : List UInt8, up (p ++ [255]) = up p
  | [] => rfl
  | x :: p => by rw [List.cons_append, up_cons, up_cons, up_ff p]
theorem up_last : ∀ (p : List UInt8) (x : UInt8), x ≠ 255 → up (p ++ [x]) = some (p ++ [x + 1])
  | [], x, h => by rw [List.nil_append, up_cons]; simp [up, h]
  | y :: p, x, h => by rw [List.cons_append, up_cons, up_last p x h]; simp
end Spans
namespace Go.Proofs.Ytcgmbgfbhdimeaa
open Go.RowKit Go.Sort Spans Op
/-- '[]byte(s)': new memory that holds the text's bytes. -/
theorem conv_at (w : World) (p : List UInt8) : ∃ cap w', (convert 9 76 (.string ⟨p.toArray⟩)).run Try.prog w = .ok (.slice (some ⟨w.heap.size, 0, none⟩) p.length cap) w' ∧ p.length ≤ cap ∧ Rd w' (some ⟨w.heap.size, 0, none⟩) p ∧ (∀ j, j < p.length → w'.frozen? ⟨w.heap.size, j, none⟩ = false) ∧ Below w.heap.size w w' ∧ w'.heap.size = w.heap.size + 1 := by
  have h := Lib.run_convert_string_bytes (P := Try.prog) w 9 76 5 ⟨p.toArray⟩ Try.underlying9 Try.underlying76 Try.underlying5
  have hs : (⟨p.toArray⟩ : ByteArray).size = p.length := by simp [ByteArray.size]
  rw [hs] at h
  have hnew := Lib.bytesWorld_at_new w 5 ⟨p.toArray⟩
  have hcs : p.length ≤ (Lib.bytesCells w 5 ⟨p.toArray⟩).size := by simp [Lib.bytesCells]
  refine ⟨_, _, h, grownCap_ge w p.length 0 _, .inr ⟨w.heap.size, 0, rfl, by rw [Lib.bytesWorld_size]; omega, fun i hi => ?_⟩, fun j hj => ?_, ⟨rfl, rfl, rfl, by rw [Lib.bytesWorld_size]; omega, fun k hk => Lib.bytesWorld_at_old w _ _ k hk⟩, Lib.bytesWorld_size _ _ _⟩
  · rw [Nat.zero_add, Lib.bytesWorld_cell w _ _ i (by rw [hs]; exact hi)]
    simp [hi]
  · unfold World.frozen?
    simp only [hnew]
    simp; omega
theorem rd_put {w : World} {g k : Nat} {q : List UInt8} (hr : Rd w (some ⟨g, 0, none⟩) q) (hk : q.length = k) (h0 : 0 < k) (x : UInt8) : Rd (w.setCell ⟨g, k - 1, none⟩ (.int .u8 (x.toNat : Int))) (some ⟨g, 0, none⟩) (q.take (k - 1) ++ [x]) := by
  have hg : g < w.heap.size := by
    rcases hr with rfl | ⟨g', off, e, h, _⟩
    · simp at hk; omega
    · injection e with e; injection e with e1 e2; subst e1; exact h
  refine .inr ⟨g, 0, rfl, by simpa using hg, fun i hi => ?_⟩
  rw [Nat.zero_add]
  have hlast := hr.at_ (k := k - 1) (by omega)
  obtain ⟨g1, o1, e1, hc1⟩ := hlast
  injection e1 with e1; injection e1 with e1 e2; subst e1; subst e2
  rw [Nat.zero_add] at hc1
  by_cases hik : i = k - 1
  · subst hik
    have e : (q.take (k - 1) ++ [x])[k - 1] = x := by
      rw [List.getElem_append_right (by simp; omega)]; simp
    rw [e]
    go_simp
  · have hi' : i < k - 1 := by simp at hi; omega
    have e : (q.take (k - 1) ++ [x])[i] = q[i] := by
      rw [List.getElem_append_left (by simp; omega), List.getElem_take]
    rw [e]
    obtain ⟨g2, o2, e2, hc2⟩ := hr.at_ (k := i) (by omega)
    injection e2 with e2; injection e2 with e2 e3; subst e2; subst e3
    rw [Nat.zero_add] at hc2
    have hne : ¬ k - 1 = i := by omega
    go_simp
set_option maxRecDepth 100000 in
set_option maxHeartbeats 4000000 in
theorem endPre_at (lo hi : Int) (f p : List UInt8) (A : Option Addr) (n c : Nat) (tt : List UInt8) (oo : Bool) (htt : (Spans.up p).getD [] = tt) (hoo : (Spans.up p).isNone = oo) (hp : p.length ≤ 1000) (w : World) :
    Calls Try.prog 53 #[spF 2 lo hi f [] true A n c, .string ⟨p.toArray⟩] w fun e w' => e = .returned (spF 2 lo hi f tt oo A n c) ∧ Below w.heap.size w w' := by
  have HTT := Lib.hid htt
  have HOO := Lib.hid hoo
  clear htt hoo
  have hB0 : Below w.heap.size w ((w.alloc (.cells #[.int .i64 2, .int .i64 lo, .int .i64 hi, .string ⟨f.toArray⟩, .string ⟨#[]⟩, .bool true, .slice A n c] 29)).alloc (.cells #[.int .i64 0, .int .i64 0, .int .i64 0, .string ⟨#[]⟩, .string ⟨#[]⟩, .bool false, .slice none 0 0] 29)) := (gr2 w (.cells #[.int .i64 2, .int .i64 lo, .int .i64 hi, .string ⟨f.toArray⟩, .string ⟨#[]⟩, .bool true, .slice A n c] 29) (.cells #[.int .i64 0, .int .i64 0, .int .i64 0, .string ⟨#[]⟩, .string ⟨#[]⟩, .bool false, .slice none 0 0] 29)).below
  have hX0 := (Blk.new w 29 #[.int .i64 2, .int .i64 lo, .int .i64 hi, .string ⟨f.toArray⟩, .string ⟨#[]⟩, .bool true, .slice A n c]).alloc (.cells #[.int .i64 0, .int .i64 0, .int .i64 0, .string ⟨#[]⟩, .string ⟨#[]⟩, .bool false, .slice none 0 0] 29)
  have hY0 := Blk.new (w.alloc (.cells #[.int .i64 2, .int .i64 lo, .int .i64 hi, .string ⟨f.toArray⟩, .string ⟨#[]⟩, .bool true, .slice A n c] 29)) 29 #[.int .i64 0, .int .i64 0, .int .i64 0, .string ⟨#[]⟩, .string ⟨#[]⟩, .bool false, .slice none 0 0]
  rw [show (w.alloc (.cells #[.int .i64 2, .int .i64 lo, .int .i64 hi, .string ⟨f.toArray⟩, .string ⟨#[]⟩, .bool true, .slice A n c] 29)).heap.size = w.heap.size + 1 by simp] at hY0
  have hs0 : ((w.alloc (.cells #[.int .i64 2, .int .i64 lo, .int .i64 hi, .string ⟨f.toArray⟩, .string ⟨#[]⟩, .bool true, .slice A n c] 29)).alloc (.cells #[.int .i64 0, .int .i64 0, .int .i64 0, .string ⟨#[]⟩, .string ⟨#[]⟩, .bool false, .slice none 0 0] 29)).heap.size = w.heap.size + 2 := by simp
  obtain ⟨cap, w1, hcv, hcc, hrd, hfz, hb1, hs1⟩ := conv_at ((w.alloc (.cells #[.int .i64 2, .int .i64 lo, .int .i64 hi, .string ⟨f.toArray⟩, .string ⟨#[]⟩, .bool true, .slice A n c] 29)).alloc (.cells #[.int .i64 0, .int .i64 0, .int .i64 0, .string ⟨#[]⟩, .string ⟨#[]⟩, .bool false, .slice none 0 0] 29)) p
  rw [hs0] at hcv hrd hfz
  have hX1 := Blk.below hX0 hb1 hX0.lt
  have hY1 := Blk.below hY0 hb1 hY0.lt
  have hB1 := below_next hB0 (Nat.le_refl _) hb1
  have HR := Lib.hid hrd
  have HF := Lib.hid hfz
  clear hX0 hY0 hB0 hb1 hrd hfz
  go_enter Try.func53, Try.ntmps53
  go_wp2_with fail
  clear hcv hs0
  have hsz1 : w.heap.size + 2 < w1.heap.size := by rw [hs1]; simp
  clear hs1
  go_loopg [5] p.length (fun gg s5 wr => w1 = wr ∧ ∃ k : Nat, s5 = .slice (some ⟨w.heap.size + 2, 0, none⟩) k cap ∧ k ≤ p.length ∧ k ≤ gg ∧ Hid (Spans.up (p.take k) = Spans.up p))
  case atStart => exact ⟨rfl, p.length, rfl, Nat.le_refl _, Nat.le_refl _, by show _ = _; rw [List.take_of_length_le (Nat.le_refl _)]⟩
  case round =>
    obtain ⟨rfl, k, rfl, hkp, hkg, HU⟩ := hrel
    obtain ⟨x0, x1, x2, x3, x4, x5, x6, p0, p1, p2, p3, p4, p5, p6⟩ := blk7 hX1
    obtain ⟨y0, y1, y2, y3, y4, y5, y6, q0, q1, q2, q3, q4, q5, q6⟩ := blk7 hY1
    have hg1 : w.heap.size < w1.heap.size := hX1.lt
    have hg2 : w.heap.size + 1 < w1.heap.size := hY1.lt
    by_cases hk0 : k = 0
    · have hu : Spans.up p = none := by rw [← HU.out, hk0]; rfl
      have htt : tt = [] := by rw [← HTT.out, hu]; rfl
      have hoo : oo = true := by rw [← HOO.out, hu]; rfl
      subst htt; subst hoo; subst hk0
      clear hu
      go_wp2_with fail
      refine bodyPost_ret (v := spF 2 lo hi f [] true A n c) (by simp [results, Try.results53, go_sem, y0, y1, y2, y3, y4, y5, y6]) rfl ?_
      exact ⟨rfl, below_put7 hB1 (by omega) _ _ _ _ _ _ _⟩
    · have hk1 : k - 1 < p.length := by omega
      obtain ⟨g1, o1, e1, hc1⟩ := HR.out.at_ hk1
      injection e1 with e1; injection e1 with e1 e2; subst e1; subst e2
      rw [Nat.zero_add] at hc1
      obtain ⟨x, hx⟩ : ∃ x, p[k - 1] = x := ⟨_, rfl⟩
      have HX := Lib.hid hx
      rw [hx] at hc1
      clear hx
      have hxb := x.toNat_lt
      have hsp : Hid (p.take k = p.take (k - 1) ++ [x]) := by
        show _ = _
        have := List.take_succ_eq_append_getElem (l := p) (i := k - 1) hk1
        rw [show k - 1 + 1 = k by omega, HX.out] at this
        exact this
      have hfz := HF.out (k - 1) hk1
      have w1' : IntKind.i64.wrap ((k : Int) - 1) = (k : Int) - 1 := by rw [IntKind.wrap_i64]; omega
      have w2' : (0 : Int) ≤ (k : Int) - 1 := by omega
      have w3' : (k : Int) - 1 < (k : Int) := by omega
      have w4 : ((k : Int) - 1).toNat = k - 1 := by omega
      have w7 : (1 : Int) ≤ (k : Int) := by omega
      have w8 : 0 < k := by omega
      have w9 : (0 : Int) < (k : Int) := by omega
      by_cases hff : x = 255
      · subst hff
        have HU2 : Hid (Spans.up (p.take (k - 1)) = Spans.up p) := by show _ = _; rw [← HU.out, hsp.out, up_ff]
        have hhd : ∀ W, (Instr.slice 76 (.slice (some ⟨w.heap.size + 2, 0, none⟩) k cap) none (some (.int .i64 ((k : Int) - 1))) none).run Try.prog W = .ok (.slice (some ⟨w.heap.size + 2, 0, none⟩) (k - 1) cap) W := by
          intro W
          have := run_head (some ⟨w.heap.size + 2, 0, none⟩) k cap (k - 1) (by omega) (by omega) W
          rw [show ((k - 1 : Nat) : Int) = (k : Int) - 1 by omega] at this
          exact this
        go_wp2_with fail
        go_roundg (k - 1)
        case measure => omega
        case rel => exact ⟨rfl, k - 1, rfl, by omega, Nat.le_refl _, HU2⟩
      · have hxn : x.toNat ≠ 255 := fun h => hff (UInt8.toNat_inj.1 h)
        have hu : Spans.up p = some (p.take (k - 1) ++ [x + 1]) := by rw [← HU.out, hsp.out, up_last _ _ hff]
        have htt : p.take (k - 1) ++ [x + 1] = tt := by rw [← HTT.out, hu]; rfl
        have hoo : oo = false := by rw [← HOO.out, hu]; rfl
        have hx1 : ((x + 1).toNat : Int) = (x.toNat : Int) + 1 := by
          rw [UInt8.toNat_add]; simp; omega
        have HP := Lib.hid (rd_put (HR.out.take k) (by simp; omega) w8 (x + 1))
        rw [hx1] at HP
        have htk : (p.take k).take (k - 1) = p.take (k - 1) := by rw [List.take_take]; congr 1; omega
        rw [htk, htt] at HP
        have HTL : Hid (tt.length = k) := by show _ = _; rw [← htt]; simp; omega
        subst hoo
        have wx : (x.toNat : Int) ≠ 255 := by omega
        have wy : ((x.toNat : Int) == 255) = false := beq_eq_false_iff_ne.2 wx
        have wz : (x.toNat : Int) + 1 ≤ 255 := by omega
        clear htk htt hu
        have hstr := run_str (P := Try.prog) _ _ _ k cap HP.out HTL.out 76 5 9 Try.underlying76 Try.underlying5 Try.underlying9
        go_wp2_with fail
        refine bodyPost_ret (v := spF 2 lo hi f tt false A n c) (by simp [results, Try.results53, go_sem, y0, y1, y2, y3, y4, y5, y6]) rfl ?_
        exact ⟨rfl, below_put7 (below_set (below_set (below_set hB1 (by omega)) (by omega)) (by omega)) (by omega) _ _ _ _ _ _ _⟩
end Go.Proofs.Ytcgmbgfbhdimeaa
