/- Package span: trim. -/
import Derived.Test.YtcgmbgfbhdimeaaSTrimT
namespace Go.Proofs.Ytcgmbgfbhdimeaa
open Go.RowKit Go.Sort Spans Op
/-- What trim tells: a span whose row is the call's own. -/
def TrimsO (P : Sp → Prop) (base n : Nat) (w : World) (e : Ending) (w' : World) : Prop :=
  ∃ r A' n' c', e = .returned (spF r.kind r.lo r.hi r.frm r.to_ r.opn A' n' c') ∧ r.no.length = n' ∧ n' ≤ n ∧ OwnW w' base (.slice A' n' c') r.no ∧ Below base w w' ∧ P r
theorem ints_congr {K lo hi : Int} {l l' : List Val} {r : Sp} (h : ∀ v, v ∈ l ↔ v ∈ l') (hh : IsInts K lo hi l r) : IsInts K lo hi l' r := ⟨hh.1, fun v hv => by rw [hh.2 v hv, h]⟩
theorem texts_congr {f t : List UInt8} {o : Bool} {l l' : List Val} {r : Sp} (h : ∀ v, v ∈ l ↔ v ∈ l') (hi : IsTexts f t o l r) : IsTexts f t o l' r := ⟨hi.1, fun v hv => by rw [hi.2 v hv, h]⟩
set_option maxRecDepth 100000 in
set_option maxHeartbeats 4000000 in
theorem trim1 (lo hi : Int) (A : Option Addr) (n c : Nat) (w : World) (base : Nat) (l : List Val) (hlow : lowest 1 ≤ lo) (hhigh : hi ≤ highest 1) (hl : ∀ v ∈ l, v.k = 1 ∧ v.t = []) (hn : l.length = n) (hm : n ≤ 100000) (ho : OwnW w base (.slice A n c) l) (hbase : base ≤ w.heap.size) :
    Calls Try.prog 33 #[spF 1 lo hi [] [] false A n c] w (TrimsO (IsInts 1 lo hi l) base n w) := by
  have HN := Lib.hid hn
  have HLL := Lib.hid hl
  clear hn hl
  have hgr := gr2 w (.cells #[.int .i64 1, .int .i64 lo, .int .i64 hi, .string ⟨#[]⟩, .string ⟨#[]⟩, .bool false, .slice A n c] 29) (.cells #[.int .i64 0, .int .i64 0, .int .i64 0, .string ⟨#[]⟩, .string ⟨#[]⟩, .bool false, .slice none 0 0] 29)
  have hbx := (Blk.new w 29 #[.int .i64 1, .int .i64 lo, .int .i64 hi, .string ⟨#[]⟩, .string ⟨#[]⟩, .bool false, .slice A n c]).alloc (.cells #[.int .i64 0, .int .i64 0, .int .i64 0, .string ⟨#[]⟩, .string ⟨#[]⟩, .bool false, .slice none 0 0] 29)
  have hrs := Blk.new (w.alloc (.cells #[.int .i64 1, .int .i64 lo, .int .i64 hi, .string ⟨#[]⟩, .string ⟨#[]⟩, .bool false, .slice A n c] 29)) 29 #[.int .i64 0, .int .i64 0, .int .i64 0, .string ⟨#[]⟩, .string ⟨#[]⟩, .bool false, .slice none 0 0]
  rw [show (w.alloc (.cells #[.int .i64 1, .int .i64 lo, .int .i64 hi, .string ⟨#[]⟩, .string ⟨#[]⟩, .bool false, .slice A n c] 29)).heap.size = w.heap.size + 1 by simp] at hrs
  have hA0 := fun a ha => (own_addr ho a ha).2
  have hA1 := fun a ha => (own_addr ho a ha).1
  have ho2 := OwnK.below ho hgr.below
  have hsz : ((w.alloc (.cells #[.int .i64 1, .int .i64 lo, .int .i64 hi, .string ⟨#[]⟩, .string ⟨#[]⟩, .bool false, .slice A n c] 29)).alloc (.cells #[.int .i64 0, .int .i64 0, .int .i64 0, .string ⟨#[]⟩, .string ⟨#[]⟩, .bool false, .slice none 0 0] 29)).heap.size = w.heap.size + 2 := by simp
  have hB2 : Below base w ((w.alloc (.cells #[.int .i64 1, .int .i64 lo, .int .i64 hi, .string ⟨#[]⟩, .string ⟨#[]⟩, .bool false, .slice A n c] 29)).alloc (.cells #[.int .i64 0, .int .i64 0, .int .i64 0, .string ⟨#[]⟩, .string ⟨#[]⟩, .bool false, .slice none 0 0] 29)) := hgr.below.mono hbase
  clear ho hgr
  go_enter Try.func33, Try.ntmps33
  go_wp2_with fail
  generalize hw2 : ((w.alloc (.cells #[.int .i64 1, .int .i64 lo, .int .i64 hi, .string ⟨#[]⟩, .string ⟨#[]⟩, .bool false, .slice A n c] 29)).alloc (.cells #[.int .i64 0, .int .i64 0, .int .i64 0, .string ⟨#[]⟩, .string ⟨#[]⟩, .bool false, .slice none 0 0] 29)) = w2 at *
  clear hw2
  refine (sortV_own HN.out hm ho2).mono ?_
  rintro e w3 ⟨rfl, out, hp, hS, ho3, ht3⟩
  have hX3 := ht3.blk hbx hA0
  have hY3 := ht3.blk hrs fun a ha => Nat.lt_succ_of_lt (hA0 a ha)
  have hB3 := ht3.below hB2 (by omega) hA1
  have hs3 := ht3.size
  have HMEM : Hid (∀ v, v ∈ out ↔ v ∈ l) := fun v => hp.mem_iff
  have HN3 : Hid (out.length = n) := hp.length_eq.trans HN.out
  clear ho2 hbx hrs hB2 ht3 hp
  obtain ⟨x0, x1, x2, x3, x4, x5, x6, p0, p1, p2, p3, p4, p5, p6⟩ := blk7 hX3
  have hg3 : w.heap.size < w3.heap.size := by omega
  have hg4 : w.heap.size + 1 < w3.heap.size := by omega
  have HX3 := Lib.hid hX3
  have HY3 := Lib.hid hY3
  have HB3 := Lib.hid hB3
  clear hX3 hY3 hB3
  go_wp2_with fail
  refine (compactV_own HN3.out hm hS ho3).mono ?_
  rintro e w4 ⟨out2, n2, rfl, hl4, hn4, hR4, hm4, ho4, ht4⟩
  have hX4 := ht4.blk HX3.out hA0
  have hY4 := ht4.blk HY3.out fun a ha => Nat.lt_succ_of_lt (hA0 a ha)
  have hB4 := ht4.below HB3.out (by omega) hA1
  have hs4 := ht4.size
  have HMEM2 : Hid (∀ v, v ∈ out2 ↔ v ∈ l) := fun v => (hm4 v).trans (HMEM.out v)
  have HL4 := Lib.hid hl4
  clear x0 x1 x2 x3 x4 x5 x6 p0 p1 p2 p3 p4 p5 p6 HX3 HY3 HB3 ho3 ht4 hm4 hl4 hS HN3 HMEM hg3 hg4
  obtain ⟨x0, x1, x2, x3, x4, x5, x6, p0, p1, p2, p3, p4, p5, p6⟩ := blk7 hX4
  have hg3 : w.heap.size < w4.heap.size := by omega
  have hg4 : w.heap.size + 1 < w4.heap.size := by omega
  have hX5 : Blk (w4.setCell ⟨w.heap.size, 6, none⟩ (.slice A n2 c)) w.heap.size 29 #[.int .i64 1, .int .i64 lo, .int .i64 hi, .string ⟨#[]⟩, .string ⟨#[]⟩, .bool false, .slice A n2 c] := by simpa using Blk.put hX4 6 (.slice A n2 c)
  have hY5 : Blk (w4.setCell ⟨w.heap.size, 6, none⟩ (.slice A n2 c)) (w.heap.size + 1) 29 #[.int .i64 0, .int .i64 0, .int .i64 0, .string ⟨#[]⟩, .string ⟨#[]⟩, .bool false, .slice none 0 0] := Blk.far hY4 (by show w.heap.size + 1 ≠ w.heap.size; omega) _
  have hB5 : Below base w (w4.setCell ⟨w.heap.size, 6, none⟩ (.slice A n2 c)) := below_set hB4 hbase
  have ho5 : OwnW (w4.setCell ⟨w.heap.size, 6, none⟩ (.slice A n2 c)) base (.slice A n2 c) out2 := by
    rcases lies_of_own ho4 with ⟨e, hl⟩ | ⟨g, cap, sp, e, hb, hc, hcm, hl, hs⟩
    · injection e with e1 e2 e3
      subst e1; subst e2; subst e3; subst hl
      exact OwnK.none_ _ _
    · injection e with e1 e2 e3
      have hgA := hA0 _ e1
      rw [e1, e2, e3]
      exact own_of_lies (Blk.far hl (by show g ≠ w.heap.size; simp only at hgA; omega) _) hb hc hcm hs
  have HX5 := Lib.hid hX5
  have HY5 := Lib.hid hY5
  have HB5 := Lib.hid hB5
  have HO5 := Lib.hid ho5
  have hs5 : w.heap.size + 2 ≤ (w4.setCell ⟨w.heap.size, 6, none⟩ (.slice A n2 c)).heap.size := by simp; omega
  clear hX4 hY4 hB4 hX5 hY5 hB5 ho5 ho4
  go_wp2_with fail
  generalize w4.setCell ⟨w.heap.size, 6, none⟩ (.slice A n2 c) = w5 at *
  clear x0 x1 x2 x3 x4 x5 x6 p0 p1 p2 p3 p4 p5 p6 hg3 hg4 hs4
  refine (trimNum_at 1 lo hi A n2 c _ base out2 (by decide) hlow hhigh HL4.out (by omega) (fun v hv => HLL.out v ((HMEM2.out v).1 hv)) hR4 HO5.out).mono ?_
  rintro e w6 ⟨⟨rK, rlo, rhi, rf, rt, ro, rno⟩, A6, n6, c6, rfl, hl6, hn6, hr6, ht6, hP6⟩
  dsimp only at hl6 hr6
  have hX6 := ht6.blk HX5.out hA0
  have hY6 := ht6.blk HY5.out fun a ha => Nat.lt_succ_of_lt (hA0 a ha)
  have hB6 := ht6.below HB5.out (by omega) hA1
  have hs6 : w.heap.size + 2 ≤ w6.heap.size := Nat.le_trans hs5 ht6.size
  have HP6 := Lib.hid (ints_congr HMEM2.out hP6)
  have hcp : Calls Try.prog 30 #[spF rK rlo rhi rf rt ro A6 n6 c6] w6 (Gives w6 ⟨rK, rlo, rhi, rf, rt, ro, rno⟩) := copied_at rK rlo rhi rf rt ro A6 n6 c6 w6 rno hl6 (by omega) hr6
  clear HX5 HY5 HB5 HO5 ht6 hP6 hr6 HMEM2 HL4 hR4
  go_wp2_with fail
  refine hcp.mono ?_
  rintro e w7 ⟨A7, n7, c7, rfl, hl7, hc7, ho7, hb7⟩
  have HL7 := Lib.hid (hl7.symm.trans hl6)
  have HL8 := Lib.hid hl7
  have hY7 := Blk.below hY6 hb7 (by omega)
  have hB7 := below_next hB6 hbase hb7
  have hs7 := hb7.size
  obtain ⟨y0, y1, y2, y3, y4, y5, y6, q0, q1, q2, q3, q4, q5, q6⟩ := blk7 hY7
  have hg7 : w.heap.size + 1 < w7.heap.size := by omega
  clear hcp hX6 hY6 hB6 hb7 hY7 hl7 hl6
  dsimp only at ho7 HL7 HL8
  go_wp2_with fail
  refine bodyPost_ret (v := spF rK rlo rhi rf rt ro A7 n7 c7) (by simp [results, Try.results33, go_sem, y0, y1, y2, y3, y4, y5, y6]) rfl ?_
  refine ⟨⟨rK, rlo, rhi, rf, rt, ro, rno⟩, A7, n7, c7, rfl, HL8.out, ?_, (OwnK.put7 ho7 (by omega) _ _ _ _ _ _ _).less (by omega), below_put7 hB7 (by omega) _ _ _ _ _ _ _, HP6.out⟩
  have := HL7.out
  omega
set_option maxRecDepth 100000 in
set_option maxHeartbeats 4000000 in
theorem trim3 (lo hi : Int) (A : Option Addr) (n c : Nat) (w : World) (base : Nat) (l : List Val) (hlow : lowest 3 ≤ lo) (hhigh : hi ≤ highest 3) (hl : ∀ v ∈ l, v.k = 3 ∧ v.t = []) (hn : l.length = n) (hm : n ≤ 100000) (ho : OwnW w base (.slice A n c) l) (hbase : base ≤ w.heap.size) :
    Calls Try.prog 33 #[spF 3 lo hi [] [] false A n c] w (TrimsO (IsInts 3 lo hi l) base n w) := by
  have HN := Lib.hid hn
  have HLL := Lib.hid hl
  clear hn hl
  have hgr := gr2 w (.cells #[.int .i64 3, .int .i64 lo, .int .i64 hi, .string ⟨#[]⟩, .string ⟨#[]⟩, .bool false, .slice A n c] 29) (.cells #[.int .i64 0, .int .i64 0, .int .i64 0, .string ⟨#[]⟩, .string ⟨#[]⟩, .bool false, .slice none 0 0] 29)
  have hbx := (Blk.new w 29 #[.int .i64 3, .int .i64 lo, .int .i64 hi, .string ⟨#[]⟩, .string ⟨#[]⟩, .bool false, .slice A n c]).alloc (.cells #[.int .i64 0, .int .i64 0, .int .i64 0, .string ⟨#[]⟩, .string ⟨#[]⟩, .bool false, .slice none 0 0] 29)
  have hrs := Blk.new (w.alloc (.cells #[.int .i64 3, .int .i64 lo, .int .i64 hi, .string ⟨#[]⟩, .string ⟨#[]⟩, .bool false, .slice A n c] 29)) 29 #[.int .i64 0, .int .i64 0, .int .i64 0, .string ⟨#[]⟩, .string ⟨#[]⟩, .bool false, .slice none 0 0]
  rw [show (w.alloc (.cells #[.int .i64 3, .int .i64 lo, .int .i64 hi, .string ⟨#[]⟩, .string ⟨#[]⟩, .bool false, .slice A n c] 29)).heap.size = w.heap.size + 1 by simp] at hrs
  have hA0 := fun a ha => (own_addr ho a ha).2
  have hA1 := fun a ha => (own_addr ho a ha).1
  have ho2 := OwnK.below ho hgr.below
  have hsz : ((w.alloc (.cells #[.int .i64 3, .int .i64 lo, .int .i64 hi, .string ⟨#[]⟩, .string ⟨#[]⟩, .bool false, .slice A n c] 29)).alloc (.cells #[.int .i64 0, .int .i64 0, .int .i64 0, .string ⟨#[]⟩, .string ⟨#[]⟩, .bool false, .slice none 0 0] 29)).heap.size = w.heap.size + 2 := by simp
  have hB2 : Below base w ((w.alloc (.cells #[.int .i64 3, .int .i64 lo, .int .i64 hi, .string ⟨#[]⟩, .string ⟨#[]⟩, .bool false, .slice A n c] 29)).alloc (.cells #[.int .i64 0, .int .i64 0, .int .i64 0, .string ⟨#[]⟩, .string ⟨#[]⟩, .bool false, .slice none 0 0] 29)) := hgr.below.mono hbase
  clear ho hgr
  go_enter Try.func33, Try.ntmps33
  go_wp2_with fail
  generalize hw2 : ((w.alloc (.cells #[.int .i64 3, .int .i64 lo, .int .i64 hi, .string ⟨#[]⟩, .string ⟨#[]⟩, .bool false, .slice A n c] 29)).alloc (.cells #[.int .i64 0, .int .i64 0, .int .i64 0, .string ⟨#[]⟩, .string ⟨#[]⟩, .bool false, .slice none 0 0] 29)) = w2 at *
  clear hw2
  refine (sortV_own HN.out hm ho2).mono ?_
  rintro e w3 ⟨rfl, out, hp, hS, ho3, ht3⟩
  have hX3 := ht3.blk hbx hA0
  have hY3 := ht3.blk hrs fun a ha => Nat.lt_succ_of_lt (hA0 a ha)
  have hB3 := ht3.below hB2 (by omega) hA1
  have hs3 := ht3.size
  have HMEM : Hid (∀ v, v ∈ out ↔ v ∈ l) := fun v => hp.mem_iff
  have HN3 : Hid (out.length = n) := hp.length_eq.trans HN.out
  clear ho2 hbx hrs hB2 ht3 hp
  obtain ⟨x0, x1, x2, x3, x4, x5, x6, p0, p1, p2, p3, p4, p5, p6⟩ := blk7 hX3
  have hg3 : w.heap.size < w3.heap.size := by omega
  have hg4 : w.heap.size + 1 < w3.heap.size := by omega
  have HX3 := Lib.hid hX3
  have HY3 := Lib.hid hY3
  have HB3 := Lib.hid hB3
  clear hX3 hY3 hB3
  go_wp2_with fail
  refine (compactV_own HN3.out hm hS ho3).mono ?_
  rintro e w4 ⟨out2, n2, rfl, hl4, hn4, hR4, hm4, ho4, ht4⟩
  have hX4 := ht4.blk HX3.out hA0
  have hY4 := ht4.blk HY3.out fun a ha => Nat.lt_succ_of_lt (hA0 a ha)
  have hB4 := ht4.below HB3.out (by omega) hA1
  have hs4 := ht4.size
  have HMEM2 : Hid (∀ v, v ∈ out2 ↔ v ∈ l) := fun v => (hm4 v).trans (HMEM.out v)
  have HL4 := Lib.hid hl4
  clear x0 x1 x2 x3 x4 x5 x6 p0 p1 p2 p3 p4 p5 p6 HX3 HY3 HB3 ho3 ht4 hm4 hl4 hS HN3 HMEM hg3 hg4
  obtain ⟨x0, x1, x2, x3, x4, x5, x6, p0, p1, p2, p3, p4, p5, p6⟩ := blk7 hX4
  have hg3 : w.heap.size < w4.heap.size := by omega
  have hg4 : w.heap.size + 1 < w4.heap.size := by omega
  have hX5 : Blk (w4.setCell ⟨w.heap.size, 6, none⟩ (.slice A n2 c)) w.heap.size 29 #[.int .i64 3, .int .i64 lo, .int .i64 hi, .string ⟨#[]⟩, .string ⟨#[]⟩, .bool false, .slice A n2 c] := by simpa using Blk.put hX4 6 (.slice A n2 c)
  have hY5 : Blk (w4.setCell ⟨w.heap.size, 6, none⟩ (.slice A n2 c)) (w.heap.size + 1) 29 #[.int .i64 0, .int .i64 0, .int .i64 0, .string ⟨#[]⟩, .string ⟨#[]⟩, .bool false, .slice none 0 0] := Blk.far hY4 (by show w.heap.size + 1 ≠ w.heap.size; omega) _
  have hB5 : Below base w (w4.setCell ⟨w.heap.size, 6, none⟩ (.slice A n2 c)) := below_set hB4 hbase
  have ho5 : OwnW (w4.setCell ⟨w.heap.size, 6, none⟩ (.slice A n2 c)) base (.slice A n2 c) out2 := by
    rcases lies_of_own ho4 with ⟨e, hl⟩ | ⟨g, cap, sp, e, hb, hc, hcm, hl, hs⟩
    · injection e with e1 e2 e3
      subst e1; subst e2; subst e3; subst hl
      exact OwnK.none_ _ _
    · injection e with e1 e2 e3
      have hgA := hA0 _ e1
      rw [e1, e2, e3]
      exact own_of_lies (Blk.far hl (by show g ≠ w.heap.size; simp only at hgA; omega) _) hb hc hcm hs
  have HX5 := Lib.hid hX5
  have HY5 := Lib.hid hY5
  have HB5 := Lib.hid hB5
  have HO5 := Lib.hid ho5
  have hs5 : w.heap.size + 2 ≤ (w4.setCell ⟨w.heap.size, 6, none⟩ (.slice A n2 c)).heap.size := by simp; omega
  clear hX4 hY4 hB4 hX5 hY5 hB5 ho5 ho4
  go_wp2_with fail
  generalize w4.setCell ⟨w.heap.size, 6, none⟩ (.slice A n2 c) = w5 at *
  clear x0 x1 x2 x3 x4 x5 x6 p0 p1 p2 p3 p4 p5 p6 hg3 hg4 hs4
  refine (trimNum_at 3 lo hi A n2 c _ base out2 (by decide) hlow hhigh HL4.out (by omega) (fun v hv => HLL.out v ((HMEM2.out v).1 hv)) hR4 HO5.out).mono ?_
  rintro e w6 ⟨⟨rK, rlo, rhi, rf, rt, ro, rno⟩, A6, n6, c6, rfl, hl6, hn6, hr6, ht6, hP6⟩
  dsimp only at hl6 hr6
  have hX6 := ht6.blk HX5.out hA0
  have hY6 := ht6.blk HY5.out fun a ha => Nat.lt_succ_of_lt (hA0 a ha)
  have hB6 := ht6.below HB5.out (by omega) hA1
  have hs6 : w.heap.size + 2 ≤ w6.heap.size := Nat.le_trans hs5 ht6.size
  have HP6 := Lib.hid (ints_congr HMEM2.out hP6)
  have hcp : Calls Try.prog 30 #[spF rK rlo rhi rf rt ro A6 n6 c6] w6 (Gives w6 ⟨rK, rlo, rhi, rf, rt, ro, rno⟩) := copied_at rK rlo rhi rf rt ro A6 n6 c6 w6 rno hl6 (by omega) hr6
  clear HX5 HY5 HB5 HO5 ht6 hP6 hr6 HMEM2 HL4 hR4
  go_wp2_with fail
  refine hcp.mono ?_
  rintro e w7 ⟨A7, n7, c7, rfl, hl7, hc7, ho7, hb7⟩
  have HL7 := Lib.hid (hl7.symm.trans hl6)
  have HL8 := Lib.hid hl7
  have hY7 := Blk.below hY6 hb7 (by omega)
  have hB7 := below_next hB6 hbase hb7
  have hs7 := hb7.size
  obtain ⟨y0, y1, y2, y3, y4, y5, y6, q0, q1, q2, q3, q4, q5, q6⟩ := blk7 hY7
  have hg7 : w.heap.size + 1 < w7.heap.size := by omega
  clear hcp hX6 hY6 hB6 hb7 hY7 hl7 hl6
  dsimp only at ho7 HL7 HL8
  go_wp2_with fail
  refine bodyPost_ret (v := spF rK rlo rhi rf rt ro A7 n7 c7) (by simp [results, Try.results33, go_sem, y0, y1, y2, y3, y4, y5, y6]) rfl ?_
  refine ⟨⟨rK, rlo, rhi, rf, rt, ro, rno⟩, A7, n7, c7, rfl, HL8.out, ?_, (OwnK.put7 ho7 (by omega) _ _ _ _ _ _ _).less (by omega), below_put7 hB7 (by omega) _ _ _ _ _ _ _, HP6.out⟩
  have := HL7.out
  omega
set_option maxRecDepth 100000 in
set_option maxHeartbeats 4000000 in
theorem trim2 (f t : List UInt8) (o : Bool) (A : Option Addr) (n c : Nat) (w : World) (base : Nat) (l : List Val) (hfs : Short f) (hot : o = true → t = []) (hts : o = false → Short t) (hl : ∀ v ∈ l, v.k = 2 ∧ v.i = 0 ∧ v.t.length ≤ 32) (hn : l.length = n) (hm : n ≤ 100000) (ho : OwnW w base (.slice A n c) l) (hbase : base ≤ w.heap.size) :
    Calls Try.prog 33 #[spF 2 0 0 f t o A n c] w (TrimsO (IsTexts f t o l) base n w) := by
  have HN := Lib.hid hn
  have HLL := Lib.hid hl
  clear hn hl
  have hgr := gr2 w (.cells #[.int .i64 2, .int .i64 0, .int .i64 0, .string ⟨f.toArray⟩, .string ⟨t.toArray⟩, .bool o, .slice A n c] 29) (.cells #[.int .i64 0, .int .i64 0, .int .i64 0, .string ⟨#[]⟩, .string ⟨#[]⟩, .bool false, .slice none 0 0] 29)
  have hbx := (Blk.new w 29 #[.int .i64 2, .int .i64 0, .int .i64 0, .string ⟨f.toArray⟩, .string ⟨t.toArray⟩, .bool o, .slice A n c]).alloc (.cells #[.int .i64 0, .int .i64 0, .int .i64 0, .string ⟨#[]⟩, .string ⟨#[]⟩, .bool false, .slice none 0 0] 29)
  have hrs := Blk.new (w.alloc (.cells #[.int .i64 2, .int .i64 0, .int .i64 0, .string ⟨f.toArray⟩, .string ⟨t.toArray⟩, .bool o, .slice A n c] 29)) 29 #[.int .i64 0, .int .i64 0, .int .i64 0, .string ⟨#[]⟩, .string ⟨#[]⟩, .bool false, .slice none 0 0]
  rw [show (w.alloc (.cells #[.int .i64 2, .int .i64 0, .int .i64 0, .string ⟨f.toArray⟩, .string ⟨t.toArray⟩, .bool o, .slice A n c] 29)).heap.size = w.heap.size + 1 by simp] at hrs
  have hA0 := fun a ha => (own_addr ho a ha).2
  have hA1 := fun a ha => (own_addr ho a ha).1
  have ho2 := OwnK.below ho hgr.below
  have hsz : ((w.alloc (.cells #[.int .i64 2, .int .i64 0, .int .i64 0, .string ⟨f.toArray⟩, .string ⟨t.toArray⟩, .bool o, .slice A n c] 29)).alloc (.cells #[.int .i64 0, .int .i64 0, .int .i64 0, .string ⟨#[]⟩, .string ⟨#[]⟩, .bool false, .slice none 0 0] 29)).heap.size = w.heap.size + 2 := by simp
  have hB2 : Below base w ((w.alloc (.cells #[.int .i64 2, .int .i64 0, .int .i64 0, .string ⟨f.toArray⟩, .string ⟨t.toArray⟩, .bool o, .slice A n c] 29)).alloc (.cells #[.int .i64 0, .int .i64 0, .int .i64 0, .string ⟨#[]⟩, .string ⟨#[]⟩, .bool false, .slice none 0 0] 29)) := hgr.below.mono hbase
  clear ho hgr
  go_enter Try.func33, Try.ntmps33
  go_wp2_with fail
  generalize hw2 : ((w.alloc (.cells #[.int .i64 2, .int .i64 0, .int .i64 0, .string ⟨f.toArray⟩, .string ⟨t.toArray⟩, .bool o, .slice A n c] 29)).alloc (.cells #[.int .i64 0, .int .i64 0, .int .i64 0, .string ⟨#[]⟩, .string ⟨#[]⟩, .bool false, .slice none 0 0] 29)) = w2 at *
  clear hw2
  refine (sortV_own HN.out hm ho2).mono ?_
  rintro e w3 ⟨rfl, out, hp, hS, ho3, ht3⟩
  have hX3 := ht3.blk hbx hA0
  have hY3 := ht3.blk hrs fun a ha => Nat.lt_succ_of_lt (hA0 a ha)
  have hB3 := ht3.below hB2 (by omega) hA1
  have hs3 := ht3.size
  have HMEM : Hid (∀ v, v ∈ out ↔ v ∈ l) := fun v => hp.mem_iff
  have HN3 : Hid (out.length = n) := hp.length_eq.trans HN.out
  clear ho2 hbx hrs hB2 ht3 hp
  obtain ⟨x0, x1, x2, x3, x4, x5, x6, p0, p1, p2, p3, p4, p5, p6⟩ := blk7 hX3
  have hg3 : w.heap.size < w3.heap.size := by omega
  have hg4 : w.heap.size + 1 < w3.heap.size := by omega
  have HX3 := Lib.hid hX3
  have HY3 := Lib.hid hY3
  have HB3 := Lib.hid hB3
  clear hX3 hY3 hB3
  go_wp2_with fail
  refine (compactV_own HN3.out hm hS ho3).mono ?_
  rintro e w4 ⟨out2, n2, rfl, hl4, hn4, hR4, hm4, ho4, ht4⟩
  have hX4 := ht4.blk HX3.out hA0
  have hY4 := ht4.blk HY3.out fun a ha => Nat.lt_succ_of_lt (hA0 a ha)
  have hB4 := ht4.below HB3.out (by omega) hA1
  have hs4 := ht4.size
  have HMEM2 : Hid (∀ v, v ∈ out2 ↔ v ∈ l) := fun v => (hm4 v).trans (HMEM.out v)
  have HL4 := Lib.hid hl4
  clear x0 x1 x2 x3 x4 x5 x6 p0 p1 p2 p3 p4 p5 p6 HX3 HY3 HB3 ho3 ht4 hm4 hl4 hS HN3 HMEM hg3 hg4
  obtain ⟨x0, x1, x2, x3, x4, x5, x6, p0, p1, p2, p3, p4, p5, p6⟩ := blk7 hX4
  have hg3 : w.heap.size < w4.heap.size := by omega
  have hg4 : w.heap.size + 1 < w4.heap.size := by omega
  have hX5 : Blk (w4.setCell ⟨w.heap.size, 6, none⟩ (.slice A n2 c)) w.heap.size 29 #[.int .i64 2, .int .i64 0, .int .i64 0, .string ⟨f.toArray⟩, .string ⟨t.toArray⟩, .bool o, .slice A n2 c] := by simpa using Blk.put hX4 6 (.slice A n2 c)
  have hY5 : Blk (w4.setCell ⟨w.heap.size, 6, none⟩ (.slice A n2 c)) (w.heap.size + 1) 29 #[.int .i64 0, .int .i64 0, .int .i64 0, .string ⟨#[]⟩, .string ⟨#[]⟩, .bool false, .slice none 0 0] := Blk.far hY4 (by show w.heap.size + 1 ≠ w.heap.size; omega) _
  have hB5 : Below base w (w4.setCell ⟨w.heap.size, 6, none⟩ (.slice A n2 c)) := below_set hB4 hbase
  have ho5 : OwnW (w4.setCell ⟨w.heap.size, 6, none⟩ (.slice A n2 c)) base (.slice A n2 c) out2 := by
    rcases lies_of_own ho4 with ⟨e, hl⟩ | ⟨g, cap, sp, e, hb, hc, hcm, hl, hs⟩
    · injection e with e1 e2 e3
      subst e1; subst e2; subst e3; subst hl
      exact OwnK.none_ _ _
    · injection e with e1 e2 e3
      have hgA := hA0 _ e1
      rw [e1, e2, e3]
      exact own_of_lies (Blk.far hl (by show g ≠ w.heap.size; simp only at hgA; omega) _) hb hc hcm hs
  have HX5 := Lib.hid hX5
  have HY5 := Lib.hid hY5
  have HB5 := Lib.hid hB5
  have HO5 := Lib.hid ho5
  have hs5 : w.heap.size + 2 ≤ (w4.setCell ⟨w.heap.size, 6, none⟩ (.slice A n2 c)).heap.size := by simp; omega
  clear hX4 hY4 hB4 hX5 hY5 hB5 ho5 ho4
  go_wp2_with fail
  generalize w4.setCell ⟨w.heap.size, 6, none⟩ (.slice A n2 c) = w5 at *
  clear x0 x1 x2 x3 x4 x5 x6 p0 p1 p2 p3 p4 p5 p6 hg3 hg4 hs4
  refine (trimText_at f t o A n2 c _ base out2 hfs hot hts HL4.out (by omega) (fun v hv => HLL.out v ((HMEM2.out v).1 hv)) hR4 HO5.out).mono ?_
  rintro e w6 ⟨⟨rK, rlo, rhi, rf, rt, ro, rno⟩, A6, n6, c6, rfl, hl6, hn6, hr6, ht6, hP6⟩
  dsimp only at hl6 hr6
  have hX6 := ht6.blk HX5.out hA0
  have hY6 := ht6.blk HY5.out fun a ha => Nat.lt_succ_of_lt (hA0 a ha)
  have hB6 := ht6.below HB5.out (by omega) hA1
  have hs6 : w.heap.size + 2 ≤ w6.heap.size := Nat.le_trans hs5 ht6.size
  have HP6 := Lib.hid (texts_congr HMEM2.out hP6)
  have hcp : Calls Try.prog 30 #[spF rK rlo rhi rf rt ro A6 n6 c6] w6 (Gives w6 ⟨rK, rlo, rhi, rf, rt, ro, rno⟩) := copied_at rK rlo rhi rf rt ro A6 n6 c6 w6 rno hl6 (by omega) hr6
  clear HX5 HY5 HB5 HO5 ht6 hP6 hr6 HMEM2 HL4 hR4
  go_wp2_with fail
  refine hcp.mono ?_
  rintro e w7 ⟨A7, n7, c7, rfl, hl7, hc7, ho7, hb7⟩
  have HL7 := Lib.hid (hl7.symm.trans hl6)
  have HL8 := Lib.hid hl7
  have hY7 := Blk.below hY6 hb7 (by omega)
  have hB7 := below_next hB6 hbase hb7
  have hs7 := hb7.size
  obtain ⟨y0, y1, y2, y3, y4, y5, y6, q0, q1, q2, q3, q4, q5, q6⟩ := blk7 hY7
  have hg7 : w.heap.size + 1 < w7.heap.size := by omega
  clear hcp hX6 hY6 hB6 hb7 hY7 hl7 hl6
  dsimp only at ho7 HL7 HL8
  go_wp2_with fail
  refine bodyPost_ret (v := spF rK rlo rhi rf rt ro A7 n7 c7) (by simp [results, Try.results33, go_sem, y0, y1, y2, y3, y4, y5, y6]) rfl ?_
  refine ⟨⟨rK, rlo, rhi, rf, rt, ro, rno⟩, A7, n7, c7, rfl, HL8.out, ?_, (OwnK.put7 ho7 (by omega) _ _ _ _ _ _ _).less (by omega), below_put7 hB7 (by omega) _ _ _ _ _ _ _, HP6.out⟩
  have := HL7.out
  omega
set_option maxRecDepth 100000 in
set_option maxHeartbeats 4000000 in
theorem trim0 (lo hi : Int) (A : Option Addr) (n c : Nat) (w : World) (base : Nat) (l : List Val)  (hn : l.length = n) (hm : n ≤ 100000) (ho : OwnW w base (.slice A n c) l) (hbase : base ≤ w.heap.size) :
    Calls Try.prog 33 #[spF 0 lo hi [] [] false A n c] w (TrimsO ((fun (_ : List Val) r => r = none_) l) base n w) := by
  have HN := Lib.hid hn
  clear hn
  have hgr := gr2 w (.cells #[.int .i64 0, .int .i64 lo, .int .i64 hi, .string ⟨#[]⟩, .string ⟨#[]⟩, .bool false, .slice A n c] 29) (.cells #[.int .i64 0, .int .i64 0, .int .i64 0, .string ⟨#[]⟩, .string ⟨#[]⟩, .bool false, .slice none 0 0] 29)
  have hbx := (Blk.new w 29 #[.int .i64 0, .int .i64 lo, .int .i64 hi, .string ⟨#[]⟩, .string ⟨#[]⟩, .bool false, .slice A n c]).alloc (.cells #[.int .i64 0, .int .i64 0, .int .i64 0, .string ⟨#[]⟩, .string ⟨#[]⟩, .bool false, .slice none 0 0] 29)
  have hrs := Blk.new (w.alloc (.cells #[.int .i64 0, .int .i64 lo, .int .i64 hi, .string ⟨#[]⟩, .string ⟨#[]⟩, .bool false, .slice A n c] 29)) 29 #[.int .i64 0, .int .i64 0, .int .i64 0, .string ⟨#[]⟩, .string ⟨#[]⟩, .bool false, .slice none 0 0]
  rw [show (w.alloc (.cells #[.int .i64 0, .int .i64 lo, .int .i64 hi, .string ⟨#[]⟩, .string ⟨#[]⟩, .bool false, .slice A n c] 29)).heap.size = w.heap.size + 1 by simp] at hrs
  have hA0 := fun a ha => (own_addr ho a ha).2
  have hA1 := fun a ha => (own_addr ho a ha).1
  have ho2 := OwnK.below ho hgr.below
  have hsz : ((w.alloc (.cells #[.int .i64 0, .int .i64 lo, .int .i64 hi, .string ⟨#[]⟩, .string ⟨#[]⟩, .bool false, .slice A n c] 29)).alloc (.cells #[.int .i64 0, .int .i64 0, .int .i64 0, .string ⟨#[]⟩, .string ⟨#[]⟩, .bool false, .slice none 0 0] 29)).heap.size = w.heap.size + 2 := by simp
  have hB2 : Below base w ((w.alloc (.cells #[.int .i64 0, .int .i64 lo, .int .i64 hi, .string ⟨#[]⟩, .string ⟨#[]⟩, .bool false, .slice A n c] 29)).alloc (.cells #[.int .i64 0, .int .i64 0, .int .i64 0, .string ⟨#[]⟩, .string ⟨#[]⟩, .bool false, .slice none 0 0] 29)) := hgr.below.mono hbase
  clear ho hgr
  go_enter Try.func33, Try.ntmps33
  go_wp2_with fail
  generalize hw2 : ((w.alloc (.cells #[.int .i64 0, .int .i64 lo, .int .i64 hi, .string ⟨#[]⟩, .string ⟨#[]⟩, .bool false, .slice A n c] 29)).alloc (.cells #[.int .i64 0, .int .i64 0, .int .i64 0, .string ⟨#[]⟩, .string ⟨#[]⟩, .bool false, .slice none 0 0] 29)) = w2 at *
  clear hw2
  refine (sortV_own HN.out hm ho2).mono ?_
  rintro e w3 ⟨rfl, out, hp, hS, ho3, ht3⟩
  have hX3 := ht3.blk hbx hA0
  have hY3 := ht3.blk hrs fun a ha => Nat.lt_succ_of_lt (hA0 a ha)
  have hB3 := ht3.below hB2 (by omega) hA1
  have hs3 := ht3.size
  have HMEM : Hid (∀ v, v ∈ out ↔ v ∈ l) := fun v => hp.mem_iff
  have HN3 : Hid (out.length = n) := hp.length_eq.trans HN.out
  clear ho2 hbx hrs hB2 ht3 hp
  obtain ⟨x0, x1, x2, x3, x4, x5, x6, p0, p1, p2, p3, p4, p5, p6⟩ := blk7 hX3
  have hg3 : w.heap.size < w3.heap.size := by omega
  have hg4 : w.heap.size + 1 < w3.heap.size := by omega
  have HX3 := Lib.hid hX3
  have HY3 := Lib.hid hY3
  have HB3 := Lib.hid hB3
  clear hX3 hY3 hB3
  go_wp2_with fail
  refine (compactV_own HN3.out hm hS ho3).mono ?_
  rintro e w4 ⟨out2, n2, rfl, hl4, hn4, hR4, hm4, ho4, ht4⟩
  have hX4 := ht4.blk HX3.out hA0
  have hY4 := ht4.blk HY3.out fun a ha => Nat.lt_succ_of_lt (hA0 a ha)
  have hB4 := ht4.below HB3.out (by omega) hA1
  have hs4 := ht4.size
  have HMEM2 : Hid (∀ v, v ∈ out2 ↔ v ∈ l) := fun v => (hm4 v).trans (HMEM.out v)
  have HL4 := Lib.hid hl4
  clear x0 x1 x2 x3 x4 x5 x6 p0 p1 p2 p3 p4 p5 p6 HX3 HY3 HB3 ho3 ht4 hm4 hl4 hS HN3 HMEM hg3 hg4
  obtain ⟨x0, x1, x2, x3, x4, x5, x6, p0, p1, p2, p3, p4, p5, p6⟩ := blk7 hX4
  have hg3 : w.heap.size < w4.heap.size := by omega
  have hg4 : w.heap.size + 1 < w4.heap.size := by omega
  have hX5 : Blk (w4.setCell ⟨w.heap.size, 6, none⟩ (.slice A n2 c)) w.heap.size 29 #[.int .i64 0, .int .i64 lo, .int .i64 hi, .string ⟨#[]⟩, .string ⟨#[]⟩, .bool false, .slice A n2 c] := by simpa using Blk.put hX4 6 (.slice A n2 c)
  have HY4 := Lib.hid hY4
  have hY5 : Blk (w4.setCell ⟨w.heap.size, 6, none⟩ (.slice A n2 c)) (w.heap.size + 1) 29 #[.int .i64 0, .int .i64 0, .int .i64 0, .string ⟨#[]⟩, .string ⟨#[]⟩, .bool false, .slice none 0 0] := Blk.far hY4 (by show w.heap.size + 1 ≠ w.heap.size; omega) _
  have hB5 : Below base w (w4.setCell ⟨w.heap.size, 6, none⟩ (.slice A n2 c)) := below_set hB4 hbase
  have ho5 : OwnW (w4.setCell ⟨w.heap.size, 6, none⟩ (.slice A n2 c)) base (.slice A n2 c) out2 := by
    rcases lies_of_own ho4 with ⟨e, hl⟩ | ⟨g, cap, sp, e, hb, hc, hcm, hl, hs⟩
    · injection e with e1 e2 e3
      subst e1; subst e2; subst e3; subst hl
      exact OwnK.none_ _ _
    · injection e with e1 e2 e3
      have hgA := hA0 _ e1
      rw [e1, e2, e3]
      exact own_of_lies (Blk.far hl (by show g ≠ w.heap.size; simp only at hgA; omega) _) hb hc hcm hs
  have HX5 := Lib.hid hX5
  have HY5 := Lib.hid hY5
  have HB5 := Lib.hid hB5
  have HO5 := Lib.hid ho5
  have hs5 : w.heap.size + 2 ≤ (w4.setCell ⟨w.heap.size, 6, none⟩ (.slice A n2 c)).heap.size := by simp; omega
  clear hX4 hY4 hB4 hX5 hY5 hB5 ho5 ho4
  obtain ⟨r0, r1, r2, r3, r4, r5, r6, s0, s1, s2, s3, s4, s5, s6⟩ := blk7 HY4.out
  go_wp2_with fail
  generalize w4.setCell ⟨w.heap.size, 6, none⟩ (.slice A n2 c) = w5 at *
  clear x0 x1 x2 x3 x4 x5 x6 p0 p1 p2 p3 p4 p5 p6 hg3 hg4 hs4
  obtain ⟨y0, y1, y2, y3, y4, y5, y6, q0, q1, q2, q3, q4, q5, q6⟩ := blk7 HY5.out
  refine bodyPost_ret (v := spF 0 0 0 [] [] false none 0 0) (by simp [results, Try.results33, go_sem, y0, y1, y2, y3, y4, y5, y6]) rfl ?_
  exact ⟨none_, none, 0, 0, rfl, rfl, Nat.zero_le _, OwnK.none_ _ _, below_put7 HB5.out (by omega) _ _ _ _ _ _ _, rfl⟩
end Go.Proofs.Ytcgmbgfbhdimeaa
