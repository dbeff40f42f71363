/- Contracts of the program and of the document (SOf, SPre, SOfN, SOfT, SOfA), each used further on. -/
import Derived.Lib.ConvBytes
import Derived.Test.YtoffnfooeojhnaaM3
namespace Go.Proofs.Ytoffnfooeojhnaa
open Go.RowKit Go.Sort Spans Op
theorem Blk.far7 {w : World} {g b : Nat} {t : TypeId} {cs : Array Value} (h : Blk w g t cs) (hb : g ≠ b) (u0 u1 u2 u3 u4 u5 u6 : Value) : Blk (((((((w.setCell ⟨b, 0, none⟩ u0).setCell ⟨b, 1, none⟩ u1).setCell ⟨b, 2, none⟩ u2).setCell ⟨b, 3, none⟩ u3).setCell ⟨b, 4, none⟩ u4).setCell ⟨b, 5, none⟩ u5).setCell ⟨b, 6, none⟩ u6) g t cs :=
 Blk.far (Blk.far (Blk.far (Blk.far (Blk.far (Blk.far (Blk.far h (p := ⟨b, 0, none⟩) hb u0) (p := ⟨b, 1, none⟩) hb u1) (p := ⟨b, 2, none⟩) hb u2) (p := ⟨b, 3, none⟩) hb u3) (p := ⟨b, 4, none⟩) hb u4) (p := ⟨b, 5, none⟩) hb u5) (p := ⟨b, 6, none⟩) hb u6
theorem Blk.put7 {w : World} {b : Nat} {t : TypeId} {c0 c1 c2 c3 c4 c5 c6 : Value} (h : Blk w b t #[c0, c1, c2, c3, c4, c5, c6]) (u0 u1 u2 u3 u4 u5 u6 : Value) : Blk (((((((w.setCell ⟨b, 0, none⟩ u0).setCell ⟨b, 1, none⟩ u1).setCell ⟨b, 2, none⟩ u2).setCell ⟨b, 3, none⟩ u3).setCell ⟨b, 4, none⟩ u4).setCell ⟨b, 5, none⟩ u5).setCell ⟨b, 6, none⟩ u6) b t #[u0, u1, u2, u3, u4, u5, u6] := by
 have h7 := ((((((h.put 0 u0).put 1 u1).put 2 u2).put 3 u3).put 4 u4).put 5 u5).put 6 u6
 simp at h7
 exact h7
theorem size_put7 (w : World) (b : Nat) (u0 u1 u2 u3 u4 u5 u6 : Value) : (((((((w.setCell ⟨b, 0, none⟩ u0).setCell ⟨b, 1, none⟩ u1).setCell ⟨b, 2, none⟩ u2).setCell ⟨b, 3, none⟩ u3).setCell ⟨b, 4, none⟩ u4).setCell ⟨b, 5, none⟩ u5).setCell ⟨b, 6, none⟩ u6).heap.size = w.heap.size := by simp
theorem wholeN_at (k : Int) (w : World) (hk : k = 1 ∨ k = 3) : Calls Try.prog 38 #[.int .i64 k] w fun e w' => e = .returned (spF k (lowest k) (highest k) [] [] false none 0 0) /\ Grown w w' := by
 rcases hk with rfl | rfl
 ·exact whole_at 1 w (by decide)
 ·exact whole_at 3 w (by decide)
theorem wholeT_at (w : World) : Calls Try.prog 38 #[.int .i64 2] w fun e w' => e = .returned (spF 2 0 0 [] [] true none 0 0) /\ Grown w w' := whole_at 2 w (by decide)
theorem trimN_at (K lo hi : Int) (A : Option Addr) (n c : Nat) (w : World) (base : Nat) (l : List Val) (hk : K = 1 ∨ K = 3) (hlow : lowest K <= lo) (hhigh : hi <= highest K) (hl : ∀ v ∈ l, v.k = K /\ v.t = []) (hn : l.length = n) (hm : n <= 100000) (ho : OwnW w base (.slice A n c) l) (hbase : base <= w.heap.size) :
  Calls Try.prog 24 #[spF K lo hi [] [] false A n c] w (TrimsO (IsInts K lo hi l) base n w) := by
 rcases hk with rfl | rfl
 ·exact trim1 lo hi A n c w base l hlow hhigh hl hn hm ho hbase
 ·exact trim3 lo hi A n c w base l hlow hhigh hl hn hm ho hbase
theorem own_lit (w : World) (base : Nat) (hb : base <= w.heap.size) (v : Val) {cs : Array Value} (h : cs = (cellsV v).toArray) : OwnW (w.alloc (.cells cs 24)) base (.slice (some ⟨w.heap.size, 0, none⟩) 1 1) [v] := by
 subst h
 have hB : Lies (w.alloc (.cells (cellsV v).toArray 24)) w.heap.size [v] [] := by
  unfold Lies
  simpa using Blk.new w 24 (cellsV v).toArray
 exact own_of_lies (cap := 1) hB hb (by simp) (by rw [maxLen_num]; omega) (by simp)
theorem upLen {t tt : List UInt8} (h : (Spans.up t).getD [] = tt) : tt.length <= t.length := by
 subst h
 cases hu : Spans.up t with
 | none => simp
 | some u => exact up_len t u hu
theorem upOpn {t tt : List UInt8} {oo : Bool} (h : (Spans.up t).getD [] = tt) (ho : (Spans.up t).isNone = oo) : oo = true -> tt = [] := by
 subst h; subst ho
 cases hu : Spans.up t with
 | none => simp
 | some u => simp
end Go.Proofs.Ytoffnfooeojhnaa
namespace Spans
theorem up_ff : ∀ p : List UInt8, up (p ++ [255]) = up p
 | [] => rfl
 | x :: p => by rw [List.cons_append, up_cons, up_cons, up_ff p]
theorem up_last : ∀ (p : List UInt8) (x : UInt8), x ≠ 255 -> up (p ++ [x]) = some (p ++ [x + 1])
 | [], x, h => by rw [List.nil_append, up_cons]; simp [up, h]
 | y :: p, x, h => by rw [List.cons_append, up_cons, up_last p x h]; simp
end Spans
namespace Go.Proofs.Ytoffnfooeojhnaa
open Go.RowKit Go.Sort Spans Op
/-- '[]byte(s)': new memory that holds the text's bytes. -/
theorem conv_at (w : World) (p : List UInt8) : ∃ cap w', (convert 9 67 (.string ⟨p.toArray⟩)).run Try.prog w = .ok (.slice (some ⟨w.heap.size, 0, none⟩) p.length cap) w' /\ p.length <= cap /\ Rd w' (some ⟨w.heap.size, 0, none⟩) p /\ (∀ j, j < p.length -> w'.frozen? ⟨w.heap.size, j, none⟩ = false) /\ Below w.heap.size w w' /\ w'.heap.size = w.heap.size + 1 := by
 have h := Lib.run_convert_string_bytes (P := Try.prog) w 9 67 5 ⟨p.toArray⟩ Try.underlying9 Try.underlying67 Try.underlying5
 have hs : (⟨p.toArray⟩ : ByteArray).size = p.length := by simp [ByteArray.size]
 rw [hs] at h
 have hnew := Lib.bytesWorld_at_new w 5 ⟨p.toArray⟩
 have hcs : p.length <= (Lib.bytesCells w 5 ⟨p.toArray⟩).size := by simp [Lib.bytesCells]
 refine ⟨_, _, h, grownCap_ge w p.length 0 _, .inr ⟨w.heap.size, 0, rfl, by rw [Lib.bytesWorld_size]; omega, fun i hi => ?_⟩, fun j hj => ?_, ⟨rfl, rfl, rfl, by rw [Lib.bytesWorld_size]; omega, fun k hk => Lib.bytesWorld_at_old w _ _ k hk⟩, Lib.bytesWorld_size _ _ _⟩
 ·rw [Nat.zero_add, Lib.bytesWorld_cell w _ _ i (by rw [hs]; exact hi)]
  simp [hi]
 ·unfold World.frozen?
  simp only [hnew]
  simp; omega
theorem rd_put {w : World} {g k : Nat} {q : List UInt8} (hr : Rd w (some ⟨g, 0, none⟩) q) (hk : q.length = k) (h0 : 0 < k) (x : UInt8) : Rd (w.setCell ⟨g, k - 1, none⟩ (.int .u8 (x.toNat : Int))) (some ⟨g, 0, none⟩) (q.take (k - 1) ++ [x]) := by
 have hg : g < w.heap.size := by
  rcases hr with rfl | ⟨g', off, e, h, _⟩
  ·simp at hk; omega
  ·injection e with e; injection e with e1 e2; subst e1; exact h
 refine .inr ⟨g, 0, rfl, by simpa using hg, fun i hi => ?_⟩
 rw [Nat.zero_add]
 have hlast := hr.at_ (k := k - 1) (by omega)
 obtain ⟨g1, o1, e1, hc1⟩ := hlast
 injection e1 with e1; injection e1 with e1 e2; subst e1; subst e2
 rw [Nat.zero_add] at hc1
 by_cases hik : i = k - 1
 ·subst hik
  have e : (q.take (k - 1) ++ [x])[k - 1] = x := by
   rw [List.getElem_append_right (by simp; omega)]; simp
  rw [e]
  go_simp
 ·have hi' : i < k - 1 := by simp at hi; omega
  have e : (q.take (k - 1) ++ [x])[i] = q[i] := by
   rw [List.getElem_append_left (by simp; omega), List.getElem_take]
  rw [e]
  obtain ⟨g2, o2, e2, hc2⟩ := hr.at_ (k := i) (by omega)
  injection e2 with e2; injection e2 with e2 e3; subst e2; subst e3
  rw [Nat.zero_add] at hc2
  have hne : ¬ k - 1 = i := by omega
  go_simp
set_option maxRecDepth 100000 in
set_option maxHeartbeats 4000000 in
theorem endPre_at (lo hi : Int) (f p : List UInt8) (A : Option Addr) (n c : Nat) (tt : List UInt8) (oo : Bool) (htt : (Spans.up p).getD [] = tt) (hoo : (Spans.up p).isNone = oo) (hp : p.length <= 1000) (w : World) :
  Calls Try.prog 42 #[spF 2 lo hi f [] true A n c, .string ⟨p.toArray⟩] w fun e w' => e = .returned (spF 2 lo hi f tt oo A n c) /\ Below w.heap.size w w' := by
 have HTT := Lib.hid htt
 have HOO := Lib.hid hoo
 clear htt hoo
 have hB0 : Below w.heap.size w ((w.alloc (.cells #[.int .i64 2, .int .i64 lo, .int .i64 hi, .string ⟨f.toArray⟩, .string ⟨#[]⟩, .bool true, .slice A n c] 29)).alloc (.cells #[.int .i64 0, .int .i64 0, .int .i64 0, .string ⟨#[]⟩, .string ⟨#[]⟩, .bool false, .slice none 0 0] 29)) := (gr2 w (.cells #[.int .i64 2, .int .i64 lo, .int .i64 hi, .string ⟨f.toArray⟩, .string ⟨#[]⟩, .bool true, .slice A n c] 29) (.cells #[.int .i64 0, .int .i64 0, .int .i64 0, .string ⟨#[]⟩, .string ⟨#[]⟩, .bool false, .slice none 0 0] 29)).below
 have hX0 := (Blk.new w 29 #[.int .i64 2, .int .i64 lo, .int .i64 hi, .string ⟨f.toArray⟩, .string ⟨#[]⟩, .bool true, .slice A n c]).alloc (.cells #[.int .i64 0, .int .i64 0, .int .i64 0, .string ⟨#[]⟩, .string ⟨#[]⟩, .bool false, .slice none 0 0] 29)
 have hY0 := Blk.new (w.alloc (.cells #[.int .i64 2, .int .i64 lo, .int .i64 hi, .string ⟨f.toArray⟩, .string ⟨#[]⟩, .bool true, .slice A n c] 29)) 29 #[.int .i64 0, .int .i64 0, .int .i64 0, .string ⟨#[]⟩, .string ⟨#[]⟩, .bool false, .slice none 0 0]
 rw [show (w.alloc (.cells #[.int .i64 2, .int .i64 lo, .int .i64 hi, .string ⟨f.toArray⟩, .string ⟨#[]⟩, .bool true, .slice A n c] 29)).heap.size = w.heap.size + 1 by simp] at hY0
 have hs0 : ((w.alloc (.cells #[.int .i64 2, .int .i64 lo, .int .i64 hi, .string ⟨f.toArray⟩, .string ⟨#[]⟩, .bool true, .slice A n c] 29)).alloc (.cells #[.int .i64 0, .int .i64 0, .int .i64 0, .string ⟨#[]⟩, .string ⟨#[]⟩, .bool false, .slice none 0 0] 29)).heap.size = w.heap.size + 2 := by simp
 obtain ⟨cap, w1, hcv, hcc, hrd, hfz, hb1, hs1⟩ := conv_at ((w.alloc (.cells #[.int .i64 2, .int .i64 lo, .int .i64 hi, .string ⟨f.toArray⟩, .string ⟨#[]⟩, .bool true, .slice A n c] 29)).alloc (.cells #[.int .i64 0, .int .i64 0, .int .i64 0, .string ⟨#[]⟩, .string ⟨#[]⟩, .bool false, .slice none 0 0] 29)) p
 rw [hs0] at hcv hrd hfz
 have hX1 := Blk.below hX0 hb1 hX0.lt
 have hY1 := Blk.below hY0 hb1 hY0.lt
 have hB1 := below_next hB0 (Nat.le_refl _) hb1
 have HR := Lib.hid hrd
 have HF := Lib.hid hfz
 clear hX0 hY0 hB0 hb1 hrd hfz
 go_enter Try.func42, Try.ntmps42
 go_wp2_with fail
 clear hcv hs0
 have hsz1 : w.heap.size + 2 < w1.heap.size := by rw [hs1]; simp
 clear hs1
 go_loopg [5] p.length (fun gg s5 wr => w1 = wr /\ ∃ k : Nat, s5 = .slice (some ⟨w.heap.size + 2, 0, none⟩) k cap /\ k <= p.length /\ k <= gg /\ Hid (Spans.up (p.take k) = Spans.up p))
 case atStart => exact ⟨rfl, p.length, rfl, Nat.le_refl _, Nat.le_refl _, by show _ = _; rw [List.take_of_length_le (Nat.le_refl _)]⟩
 case round =>
  obtain ⟨rfl, k, rfl, hkp, hkg, HU⟩ := hrel
  obtain ⟨x0, x1, x2, x3, x4, x5, x6, p0, p1, p2, p3, p4, p5, p6⟩ := blk7 hX1
  obtain ⟨y0, y1, y2, y3, y4, y5, y6, q0, q1, q2, q3, q4, q5, q6⟩ := blk7 hY1
  have hg1 : w.heap.size < w1.heap.size := hX1.lt
  have hg2 : w.heap.size + 1 < w1.heap.size := hY1.lt
  by_cases hk0 : k = 0
  ·have hu : Spans.up p = none := by rw [<- HU.out, hk0]; rfl
   have htt : tt = [] := by rw [<- HTT.out, hu]; rfl
   have hoo : oo = true := by rw [<- HOO.out, hu]; rfl
   subst htt; subst hoo; subst hk0
   clear hu
   go_wp2_with fail
   refine bodyPost_ret (v := spF 2 lo hi f [] true A n c) (by simp [results, Try.results42, go_sem, y0, y1, y2, y3, y4, y5, y6]) rfl ?_
   exact ⟨rfl, below_put7 hB1 (by omega) _ _ _ _ _ _ _⟩
  ·have hk1 : k - 1 < p.length := by omega
   obtain ⟨g1, o1, e1, hc1⟩ := HR.out.at_ hk1
   injection e1 with e1; injection e1 with e1 e2; subst e1; subst e2
   rw [Nat.zero_add] at hc1
   obtain ⟨x, hx⟩ : ∃ x, p[k - 1] = x := ⟨_, rfl⟩
   have HX := Lib.hid hx
   rw [hx] at hc1
   clear hx
   have hxb := x.toNat_lt
   have hsp : Hid (p.take k = p.take (k - 1) ++ [x]) := by
    show _ = _
    have := List.take_succ_eq_append_getElem (l := p) (i := k - 1) hk1
    rw [show k - 1 + 1 = k by omega, HX.out] at this
    exact this
   have hfz := HF.out (k - 1) hk1
   have w1' : IntKind.i64.wrap ((k : Int) - 1) = (k : Int) - 1 := by rw [IntKind.wrap_i64]; omega
   have w2' : (0 : Int) <= (k : Int) - 1 := by omega
   have w3' : (k : Int) - 1 < (k : Int) := by omega
   have w4 : ((k : Int) - 1).toNat = k - 1 := by omega
   have w7 : (1 : Int) <= (k : Int) := by omega
   have w8 : 0 < k := by omega
   have w9 : (0 : Int) < (k : Int) := by omega
   by_cases hff : x = 255
   ·subst hff
    have HU2 : Hid (Spans.up (p.take (k - 1)) = Spans.up p) := by show _ = _; rw [<- HU.out, hsp.out, up_ff]
    have hhd : ∀ W, (Instr.slice 67 (.slice (some ⟨w.heap.size + 2, 0, none⟩) k cap) none (some (.int .i64 ((k : Int) - 1))) none).run Try.prog W = .ok (.slice (some ⟨w.heap.size + 2, 0, none⟩) (k - 1) cap) W := by
     intro W
     have := run_head (some ⟨w.heap.size + 2, 0, none⟩) k cap (k - 1) (by omega) (by omega) W
     rw [show ((k - 1 : Nat) : Int) = (k : Int) - 1 by omega] at this
     exact this
    go_wp2_with fail
    go_roundg (k - 1)
    case measure => omega
    case rel => exact ⟨rfl, k - 1, rfl, by omega, Nat.le_refl _, HU2⟩
   ·have hxn : x.toNat ≠ 255 := fun h => hff (UInt8.toNat_inj.1 h)
    have hu : Spans.up p = some (p.take (k - 1) ++ [x + 1]) := by rw [<- HU.out, hsp.out, up_last _ _ hff]
    have htt : p.take (k - 1) ++ [x + 1] = tt := by rw [<- HTT.out, hu]; rfl
    have hoo : oo = false := by rw [<- HOO.out, hu]; rfl
    have hx1 : ((x + 1).toNat : Int) = (x.toNat : Int) + 1 := by
     rw [UInt8.toNat_add]; simp; omega
    have HP := Lib.hid (rd_put (HR.out.take k) (by simp; omega) w8 (x + 1))
    rw [hx1] at HP
    have htk : (p.take k).take (k - 1) = p.take (k - 1) := by rw [List.take_take]; congr 1; omega
    rw [htk, htt] at HP
    have HTL : Hid (tt.length = k) := by show _ = _; rw [<- htt]; simp; omega
    subst hoo
    have wx : (x.toNat : Int) ≠ 255 := by omega
    have wy : ((x.toNat : Int) == 255) = false := beq_eq_false_iff_ne.2 wx
    have wz : (x.toNat : Int) + 1 <= 255 := by omega
    clear htk htt hu
    have hstr := run_str (P := Try.prog) _ _ _ k cap HP.out HTL.out 67 5 9 Try.underlying67 Try.underlying5 Try.underlying9
    go_wp2_with fail
    refine bodyPost_ret (v := spF 2 lo hi f tt false A n c) (by simp [results, Try.results42, go_sem, y0, y1, y2, y3, y4, y5, y6]) rfl ?_
    exact ⟨rfl, below_put7 (below_set (below_set (below_set hB1 (by omega)) (by omega)) (by omega)) (by omega) _ _ _ _ _ _ _⟩
end Go.Proofs.Ytoffnfooeojhnaa
namespace Go.Proofs.Ytoffnfooeojhnaa
open Go.RowKit Go.Sort Spans Op
set_option maxRecDepth 100000 in
set_option maxHeartbeats 4000000 in
theorem of_N1 (n : List UInt8) (k i : Int) (hk : k = 1 ∨ k = 3) (hl1 : lowest k <= i) (hl2 : i <= highest k) (w : World) (hn : n.length <= 9223372036854775807) (hr : Preds.right n 1 k i [] = true) :
  Calls Try.prog 19 #[.agg #[.string ⟨n.toArray⟩, .int .i64 1, .int .i64 k, .int .i64 i, .string ⟨#[]⟩]] w (fun e w' => ∃ r, IsInts k i i ([] : List Val) r /\ r.no.length <= 1 /\ Gives w r e w') := by
 have HRR := Lib.hid hr
 clear hr
 have HKK := Lib.hid hk
 have hk2 : k ≠ 2 := by omega
 clear hk
 have hB0 : Below w.heap.size w ((w.alloc (.cells #[.string ⟨n.toArray⟩, .int .i64 1, .int .i64 k, .int .i64 i, .string ⟨#[]⟩] 38)).alloc (.cells #[.int .i64 0, .int .i64 0, .int .i64 0, .string ⟨#[]⟩, .string ⟨#[]⟩, .bool false, .slice none 0 0] 29)) := (gr2 w (.cells #[.string ⟨n.toArray⟩, .int .i64 1, .int .i64 k, .int .i64 i, .string ⟨#[]⟩] 38) (.cells #[.int .i64 0, .int .i64 0, .int .i64 0, .string ⟨#[]⟩, .string ⟨#[]⟩, .bool false, .slice none 0 0] 29)).below
 have hP0 := (Blk.new w 38 #[.string ⟨n.toArray⟩, .int .i64 1, .int .i64 k, .int .i64 i, .string ⟨#[]⟩]).alloc (.cells #[.int .i64 0, .int .i64 0, .int .i64 0, .string ⟨#[]⟩, .string ⟨#[]⟩, .bool false, .slice none 0 0] 29)
 have hY0 := Blk.new (w.alloc (.cells #[.string ⟨n.toArray⟩, .int .i64 1, .int .i64 k, .int .i64 i, .string ⟨#[]⟩] 38)) 29 #[.int .i64 0, .int .i64 0, .int .i64 0, .string ⟨#[]⟩, .string ⟨#[]⟩, .bool false, .slice none 0 0]
 rw [show (w.alloc (.cells #[.string ⟨n.toArray⟩, .int .i64 1, .int .i64 k, .int .i64 i, .string ⟨#[]⟩] 38)).heap.size = w.heap.size + 1 by simp] at hY0
 have hs0 : w.heap.size + 2 <= ((w.alloc (.cells #[.string ⟨n.toArray⟩, .int .i64 1, .int .i64 k, .int .i64 i, .string ⟨#[]⟩] 38)).alloc (.cells #[.int .i64 0, .int .i64 0, .int .i64 0, .string ⟨#[]⟩, .string ⟨#[]⟩, .bool false, .slice none 0 0] 29)).heap.size := by simp
 go_enter Try.func19, Try.ntmps19
 go_wp2_with fail
 generalize ((w.alloc (.cells #[.string ⟨n.toArray⟩, .int .i64 1, .int .i64 k, .int .i64 i, .string ⟨#[]⟩] 38)).alloc (.cells #[.int .i64 0, .int .i64 0, .int .i64 0, .string ⟨#[]⟩, .string ⟨#[]⟩, .bool false, .slice none 0 0] 29)) = w0 at *
 refine (pright_is n 1 k i [] w0 hn (by simp) true HRR.out).mono ?_
 rintro e w1 ⟨rfl, hb1⟩
 have hP1 := Blk.below hP0 hb1 hP0.lt
 have hY1 := Blk.below hY0 hb1 hY0.lt
 have hB1 := below_next hB0 (Nat.le_refl _) hb1
 have hs1 : w.heap.size + 2 <= w1.heap.size := Nat.le_trans hs0 (hb1).size
 clear hP0 hY0 hB0
 obtain ⟨p0, p1, p2, p3, p4, _⟩ := blk5 hP1
 have hl := hP1.lt
 go_wp2_with fail
 clear p0 p1 p2 p3 p4 hl hb1
 refine (wholeN_at k w1 HKK.out).mono ?_
 rintro e w2 ⟨rfl, hb2⟩
 have hP2 := Blk.below hP1 hb2.below hP1.lt
 have hY2 := Blk.below hY1 hb2.below hY1.lt
 have hB2 := below_next hB1 (Nat.le_refl _) hb2.below
 have hs2 : w.heap.size + 2 <= w2.heap.size := Nat.le_trans hs1 (hb2.below).size
 clear hP1 hY1 hB1
 have hb3 : Below w2.heap.size w2 (w2.alloc (.cells #[.int .i64 k, .int .i64 (lowest k), .int .i64 (highest k), .string ⟨#[]⟩, .string ⟨#[]⟩, .bool false, .slice none 0 0] 29)) := (Below.refl _ _).alloc (Nat.le_refl _) _
 have hV3 : Blk (w2.alloc (.cells #[.int .i64 k, .int .i64 (lowest k), .int .i64 (highest k), .string ⟨#[]⟩, .string ⟨#[]⟩, .bool false, .slice none 0 0] 29)) w2.heap.size 29 #[.int .i64 k, .int .i64 (lowest k), .int .i64 (highest k), .string ⟨#[]⟩, .string ⟨#[]⟩, .bool false, .slice none 0 0] := Blk.new _ _ _
 have hP3 := Blk.below hP2 hb3 hP2.lt
 have hY3 := Blk.below hY2 hb3 hY2.lt
 have hB3 := below_next hB2 (Nat.le_refl _) hb3
 have hs3 := Nat.le_trans hs2 hb3.size
 have hVl : w.heap.size + 2 <= w2.heap.size := hs2
 have hl := hP2.lt
 obtain ⟨p0, p1, p2, p3, p4, _⟩ := blk5 hP2
 go_wp2_with fail
 clear p0 p1 p2 p3 p4 hl hP2 hY2 hB2 hs2 hb2 hb3
 generalize w2.alloc (.cells #[.int .i64 k, .int .i64 (lowest k), .int .i64 (highest k), .string ⟨#[]⟩, .string ⟨#[]⟩, .bool false, .slice none 0 0] 29) = w3 at *
 generalize w2.heap.size = V at *
 have hS0 : Blk w3.drew w.heap.size 38 #[.string ⟨n.toArray⟩, .int .i64 1, .int .i64 k, .int .i64 i, .string ⟨#[]⟩] := hP3
 refine wp_region_held_drew (S := fun w' => Blk w' w.heap.size 38 #[.string ⟨n.toArray⟩, .int .i64 1, .int .i64 k, .int .i64 i, .string ⟨#[]⟩]) (by kernel_rfl) hS0 (fun _ => ?_)
 refine wpAnyH_yes (i := 1) (d := 21) (v := ?_) rfl rfl (by kernel_rfl) (by kernel_rfl) (by kernel_rfl) (fun _ _ _ h => h) (by rfl) ?_ hS0 ?_
 rotate_left
 ·intro w' hSw; obtain ⟨r0, r1, r2, r3, r4, _⟩ := blk5 hSw; go_simp <;> with_reducible rfl
 simp only [Act.put, List.setIfInBounds_toArray, List.set_cons_zero, List.set_cons_succ]
 refine wpAnyH_yes (i := 2) (d := 22) (v := ?_) rfl rfl (by kernel_rfl) (by kernel_rfl) (by kernel_rfl) (fun _ _ _ h => h) (by rfl) ?_ hS0 ?_
 rotate_left
 ·intro w' hSw; obtain ⟨r0, r1, r2, r3, r4, _⟩ := blk5 hSw; go_simp <;> with_reducible rfl
 simp only [Act.put, List.setIfInBounds_toArray, List.set_cons_zero, List.set_cons_succ]
 refine wpAnyH_yes (i := 4) (d := 24) (v := ?_) rfl rfl (by kernel_rfl) (by kernel_rfl) (by kernel_rfl) (fun _ _ _ h => h) (by rfl) ?_ hS0 ?_
 rotate_left
 ·intro w' hSw; obtain ⟨r0, r1, r2, r3, r4, _⟩ := blk5 hSw; go_simp <;> with_reducible rfl
 simp only [Act.put, List.setIfInBounds_toArray, List.set_cons_zero, List.set_cons_succ]
 refine wpAnyH_yes (i := 5) (d := 25) (v := ?_) rfl rfl (by kernel_rfl) (by kernel_rfl) (by kernel_rfl) (fun _ _ _ h => h) (by rfl) ?_ hS0 ?_
 rotate_left
 ·intro w' hSw; obtain ⟨r0, r1, r2, r3, r4, _⟩ := blk5 hSw; go_simp <;> with_reducible rfl
 simp only [Act.put, List.setIfInBounds_toArray, List.set_cons_zero, List.set_cons_succ]
 obtain ⟨z0, z1, z2, z3, z4, z5, z6, m0, m1, m2, m3, m4, m5, m6⟩ := blk7 hV3
 refine wpAnyH_one (i := 0) (by kernel_rfl) rfl (by rfl) (fun Ka hKa => ?_)
 go_simp
 refine hKa.out _ _ hS0 ?_
 clear hKa Ka z0 z1 z2 z3 z4 z5 z6 m0 m1 m2 m3 m4 m5 m6
 have hP3' : Blk w3.drew w.heap.size 38 #[.string ⟨n.toArray⟩, .int .i64 1, .int .i64 k, .int .i64 i, .string ⟨#[]⟩] := hP3
 have hY3' : Blk w3.drew (w.heap.size + 1) 29 #[.int .i64 0, .int .i64 0, .int .i64 0, .string ⟨#[]⟩, .string ⟨#[]⟩, .bool false, .slice none 0 0] := hY3
 have hV3' : Blk w3.drew V 29 #[.int .i64 k, .int .i64 (lowest k), .int .i64 (highest k), .string ⟨#[]⟩, .string ⟨#[]⟩, .bool false, .slice none 0 0] := hV3
 have hB3' : Below w.heap.size w w3.drew := hB3.drew
 have hs3' : w.heap.size + 2 <= w3.drew.heap.size := hs3
 clear hP3 hY3 hV3 hB3 hs3 hS0
 generalize w3.drew = w4 at *
 refine wpAnyH_one (i := 3) (by kernel_rfl) rfl (by rfl) (fun Ka hKa => ?_)
 go_simp
 with_reducible refine (begin_num k (lowest k) (highest k) [] [] false none 0 0 k i [] _ hk2).mono ?_
 rintro e w6 ⟨rfl, hb6⟩
 have hP6 := Blk.below hP3' hb6.below hP3'.lt
 have hY6 := Blk.below hY3' hb6.below hY3'.lt
 have hB6 := below_next hB3' (Nat.le_refl _) hb6.below
 have hs6 : w.heap.size + 2 <= w6.heap.size := Nat.le_trans hs3' (hb6.below).size
 have hV6 := Blk.below hV3' hb6.below hV3'.lt
 clear hP3' hY3' hB3' hV3'
 go_wp2_with fail
 refine hKa.out _ _ hP6 ?_
 clear hKa Ka hb6
 refine wpAnyH_one (i := 6) (by kernel_rfl) rfl (by rfl) (fun Ka hKa => ?_)
 go_simp
 with_reducible refine (end_num k i (highest k) [] [] false none 0 0 k i [] _ hk2).mono ?_
 rintro e w7 ⟨rfl, hb7⟩
 have hP7 := Blk.below hP6 hb7.below hP6.lt
 have hY7 := Blk.below hY6 hb7.below hY6.lt
 have hB7 := below_next hB6 (Nat.le_refl _) hb7.below
 have hs7 : w.heap.size + 2 <= w7.heap.size := Nat.le_trans hs6 (hb7.below).size
 have hV7 := Blk.below hV6 hb7.below hV6.lt
 clear hP6 hY6 hB6 hV6
 go_wp2_with fail
 refine hKa.out _ _ hP7 ?_
 clear hKa Ka hb7
 refine wpAnyH_one (i := 7) (by kernel_rfl) rfl (by rfl) (fun Ka hKa => ?_)
 obtain ⟨z0, z1, z2, z3, z4, z5, z6, m0, m1, m2, m3, m4, m5, m6⟩ := blk7 hV7
 have hl := hV7.lt
 go_simp
 have hP8 : Blk (((((((w7.setCell ⟨V, 0, none⟩ (.int .i64 k)).setCell ⟨V, 1, none⟩ (.int .i64 i)).setCell ⟨V, 2, none⟩ (.int .i64 i)).setCell ⟨V, 3, none⟩ (.string ⟨#[]⟩)).setCell ⟨V, 4, none⟩ (.string ⟨#[]⟩)).setCell ⟨V, 5, none⟩ (.bool false)).setCell ⟨V, 6, none⟩ (.slice none 0 0)) w.heap.size 38 #[.string ⟨n.toArray⟩, .int .i64 1, .int .i64 k, .int .i64 i, .string ⟨#[]⟩] := Blk.far7 hP7 (by omega) _ _ _ _ _ _ _
 have hY8 : Blk (((((((w7.setCell ⟨V, 0, none⟩ (.int .i64 k)).setCell ⟨V, 1, none⟩ (.int .i64 i)).setCell ⟨V, 2, none⟩ (.int .i64 i)).setCell ⟨V, 3, none⟩ (.string ⟨#[]⟩)).setCell ⟨V, 4, none⟩ (.string ⟨#[]⟩)).setCell ⟨V, 5, none⟩ (.bool false)).setCell ⟨V, 6, none⟩ (.slice none 0 0)) (w.heap.size + 1) 29 #[.int .i64 0, .int .i64 0, .int .i64 0, .string ⟨#[]⟩, .string ⟨#[]⟩, .bool false, .slice none 0 0] := Blk.far7 hY7 (by omega) _ _ _ _ _ _ _
 have hV8 : Blk (((((((w7.setCell ⟨V, 0, none⟩ (.int .i64 k)).setCell ⟨V, 1, none⟩ (.int .i64 i)).setCell ⟨V, 2, none⟩ (.int .i64 i)).setCell ⟨V, 3, none⟩ (.string ⟨#[]⟩)).setCell ⟨V, 4, none⟩ (.string ⟨#[]⟩)).setCell ⟨V, 5, none⟩ (.bool false)).setCell ⟨V, 6, none⟩ (.slice none 0 0)) V 29 #[.int .i64 k, .int .i64 i, .int .i64 i, .string ⟨#[]⟩, .string ⟨#[]⟩, .bool false, .slice none 0 0] := Blk.put7 hV7 _ _ _ _ _ _ _
 have hB8 : Below w.heap.size w (((((((w7.setCell ⟨V, 0, none⟩ (.int .i64 k)).setCell ⟨V, 1, none⟩ (.int .i64 i)).setCell ⟨V, 2, none⟩ (.int .i64 i)).setCell ⟨V, 3, none⟩ (.string ⟨#[]⟩)).setCell ⟨V, 4, none⟩ (.string ⟨#[]⟩)).setCell ⟨V, 5, none⟩ (.bool false)).setCell ⟨V, 6, none⟩ (.slice none 0 0)) := below_put7 hB7 (by omega) _ _ _ _ _ _ _
 have hs8 : w.heap.size + 2 <= (((((((w7.setCell ⟨V, 0, none⟩ (.int .i64 k)).setCell ⟨V, 1, none⟩ (.int .i64 i)).setCell ⟨V, 2, none⟩ (.int .i64 i)).setCell ⟨V, 3, none⟩ (.string ⟨#[]⟩)).setCell ⟨V, 4, none⟩ (.string ⟨#[]⟩)).setCell ⟨V, 5, none⟩ (.bool false)).setCell ⟨V, 6, none⟩ (.slice none 0 0)).heap.size := by rw [size_put7]; omega
 refine hKa.out _ _ hP8 ?_
 clear hKa Ka z0 z1 z2 z3 z4 z5 z6 m0 m1 m2 m3 m4 m5 m6 hl hP7 hY7 hV7 hB7
 refine wpAnyH_done (by kernel_rfl) ?_ _
 generalize (((((((w7.setCell ⟨V, 0, none⟩ (.int .i64 k)).setCell ⟨V, 1, none⟩ (.int .i64 i)).setCell ⟨V, 2, none⟩ (.int .i64 i)).setCell ⟨V, 3, none⟩ (.string ⟨#[]⟩)).setCell ⟨V, 4, none⟩ (.string ⟨#[]⟩)).setCell ⟨V, 5, none⟩ (.bool false)).setCell ⟨V, 6, none⟩ (.slice none 0 0)) = w8 at *
 obtain ⟨p0, p1, p2, p3, p4, _⟩ := blk5 hP8
 have hl := hP8.lt
 go_wp2_with fail
 refine (shutsOut_at 1 w8 false rfl).mono ?_
 rintro e wz ⟨rfl, rfl⟩
 obtain ⟨z0, z1, z2, z3, z4, z5, z6, m0, m1, m2, m3, m4, m5, m6⟩ := blk7 hV8
 have hlV := hV8.lt
 have hOa : OwnW wz (w.heap.size + 2) (.slice none 0 0) ([] : List Val) := OwnK.none_ _ _
 go_wp2_with fail
 clear p0 p1 p2 p3 p4 z0 z1 z2 z3 z4 z5 z6 m0 m1 m2 m3 m4 m5 m6 hl
 have hYa := hY8
 have hBa := hB8
 have hsa := hs8
 have hVla := hlV
 clear hP8 hY8 hB8
 generalize wz = wa at *
 refine (trimN_at k i i none 0 0 wa (w.heap.size + 2) ([] : List Val) HKK.out hl1 hl2 (by simp) rfl (by omega) hOa hsa).mono ?_
 rintro e wb ⟨⟨rK, rlo, rhi, rf, rt, ro, rno⟩, A7, n7, c7, rfl, hl7, hn7, ho7, hb7, hP7⟩
 dsimp only at hl7 ho7
 have HL7 := Lib.hid hl7
 have HP7 := Lib.hid hP7
 have hYb := Blk.below hYa hb7 (by omega)
 have hBb : Below w.heap.size w wb := hBa.trans (hb7.mono (by omega))
 have hsb := hb7.size
 have hc7 : n7 <= c7 := by
  obtain ⟨_, _, e, h, _⟩ := OwnK.rd ho7
  injection e with e1 e2 e3
  omega
 obtain ⟨u0, u1, u2, u3, u4, u5, u6, q0, q1, q2, q3, q4, q5, q6⟩ := blk7 hYb
 have hg7 : w.heap.size + 1 < wb.heap.size := hYb.lt
 clear hb7 hYb hl7 hP7
 go_wp2_with fail
 refine bodyPost_ret (v := spF rK rlo rhi rf rt ro A7 n7 c7) (by simp [results, Try.results19, go_sem, u0, u1, u2, u3, u4, u5, u6]) rfl ?_
 exact ⟨⟨rK, rlo, rhi, rf, rt, ro, rno⟩, HP7.out, by show rno.length <= _; have := HL7.out; omega, A7, n7, c7, rfl, HL7.out, hc7, (OwnK.put7 ho7 (by omega) _ _ _ _ _ _ _).less (by omega), below_put7 hBb (by omega) _ _ _ _ _ _ _⟩
set_option maxRecDepth 100000 in
set_option maxHeartbeats 4000000 in
theorem of_N2 (n : List UInt8) (k i : Int) (hk : k = 1 ∨ k = 3) (_hl1 : lowest k <= i) (_hl2 : i <= highest k) (w : World) (hn : n.length <= 9223372036854775807) (hr : Preds.right n 2 k i [] = true) :
  Calls Try.prog 19 #[.agg #[.string ⟨n.toArray⟩, .int .i64 2, .int .i64 k, .int .i64 i, .string ⟨#[]⟩]] w (fun e w' => ∃ r, IsInts k (lowest k) (highest k) [(⟨k, i, []⟩ : Val)] r /\ r.no.length <= 1 /\ Gives w r e w') := by
 have HRR := Lib.hid hr
 clear hr
 have HKK := Lib.hid hk
 have hk2 : k ≠ 2 := by omega
 clear hk
 have hB0 : Below w.heap.size w ((w.alloc (.cells #[.string ⟨n.toArray⟩, .int .i64 2, .int .i64 k, .int .i64 i, .string ⟨#[]⟩] 38)).alloc (.cells #[.int .i64 0, .int .i64 0, .int .i64 0, .string ⟨#[]⟩, .string ⟨#[]⟩, .bool false, .slice none 0 0] 29)) := (gr2 w (.cells #[.string ⟨n.toArray⟩, .int .i64 2, .int .i64 k, .int .i64 i, .string ⟨#[]⟩] 38) (.cells #[.int .i64 0, .int .i64 0, .int .i64 0, .string ⟨#[]⟩, .string ⟨#[]⟩, .bool false, .slice none 0 0] 29)).below
 have hP0 := (Blk.new w 38 #[.string ⟨n.toArray⟩, .int .i64 2, .int .i64 k, .int .i64 i, .string ⟨#[]⟩]).alloc (.cells #[.int .i64 0, .int .i64 0, .int .i64 0, .string ⟨#[]⟩, .string ⟨#[]⟩, .bool false, .slice none 0 0] 29)
 have hY0 := Blk.new (w.alloc (.cells #[.string ⟨n.toArray⟩, .int .i64 2, .int .i64 k, .int .i64 i, .string ⟨#[]⟩] 38)) 29 #[.int .i64 0, .int .i64 0, .int .i64 0, .string ⟨#[]⟩, .string ⟨#[]⟩, .bool false, .slice none 0 0]
 rw [show (w.alloc (.cells #[.string ⟨n.toArray⟩, .int .i64 2, .int .i64 k, .int .i64 i, .string ⟨#[]⟩] 38)).heap.size = w.heap.size + 1 by simp] at hY0
 have hs0 : w.heap.size + 2 <= ((w.alloc (.cells #[.string ⟨n.toArray⟩, .int .i64 2, .int .i64 k, .int .i64 i, .string ⟨#[]⟩] 38)).alloc (.cells #[.int .i64 0, .int .i64 0, .int .i64 0, .string ⟨#[]⟩, .string ⟨#[]⟩, .bool false, .slice none 0 0] 29)).heap.size := by simp
 go_enter Try.func19, Try.ntmps19
 go_wp2_with fail
 generalize ((w.alloc (.cells #[.string ⟨n.toArray⟩, .int .i64 2, .int .i64 k, .int .i64 i, .string ⟨#[]⟩] 38)).alloc (.cells #[.int .i64 0, .int .i64 0, .int .i64 0, .string ⟨#[]⟩, .string ⟨#[]⟩, .bool false, .slice none 0 0] 29)) = w0 at *
 refine (pright_is n 2 k i [] w0 hn (by simp) true HRR.out).mono ?_
 rintro e w1 ⟨rfl, hb1⟩
 have hP1 := Blk.below hP0 hb1 hP0.lt
 have hY1 := Blk.below hY0 hb1 hY0.lt
 have hB1 := below_next hB0 (Nat.le_refl _) hb1
 have hs1 : w.heap.size + 2 <= w1.heap.size := Nat.le_trans hs0 (hb1).size
 clear hP0 hY0 hB0
 obtain ⟨p0, p1, p2, p3, p4, _⟩ := blk5 hP1
 have hl := hP1.lt
 go_wp2_with fail
 clear p0 p1 p2 p3 p4 hl hb1
 refine (wholeN_at k w1 HKK.out).mono ?_
 rintro e w2 ⟨rfl, hb2⟩
 have hP2 := Blk.below hP1 hb2.below hP1.lt
 have hY2 := Blk.below hY1 hb2.below hY1.lt
 have hB2 := below_next hB1 (Nat.le_refl _) hb2.below
 have hs2 : w.heap.size + 2 <= w2.heap.size := Nat.le_trans hs1 (hb2.below).size
 clear hP1 hY1 hB1
 have hb3 : Below w2.heap.size w2 (w2.alloc (.cells #[.int .i64 k, .int .i64 (lowest k), .int .i64 (highest k), .string ⟨#[]⟩, .string ⟨#[]⟩, .bool false, .slice none 0 0] 29)) := (Below.refl _ _).alloc (Nat.le_refl _) _
 have hV3 : Blk (w2.alloc (.cells #[.int .i64 k, .int .i64 (lowest k), .int .i64 (highest k), .string ⟨#[]⟩, .string ⟨#[]⟩, .bool false, .slice none 0 0] 29)) w2.heap.size 29 #[.int .i64 k, .int .i64 (lowest k), .int .i64 (highest k), .string ⟨#[]⟩, .string ⟨#[]⟩, .bool false, .slice none 0 0] := Blk.new _ _ _
 have hP3 := Blk.below hP2 hb3 hP2.lt
 have hY3 := Blk.below hY2 hb3 hY2.lt
 have hB3 := below_next hB2 (Nat.le_refl _) hb3
 have hs3 := Nat.le_trans hs2 hb3.size
 have hVl : w.heap.size + 2 <= w2.heap.size := hs2
 have hl := hP2.lt
 obtain ⟨p0, p1, p2, p3, p4, _⟩ := blk5 hP2
 go_wp2_with fail
 clear p0 p1 p2 p3 p4 hl hP2 hY2 hB2 hs2 hb2 hb3
 generalize w2.alloc (.cells #[.int .i64 k, .int .i64 (lowest k), .int .i64 (highest k), .string ⟨#[]⟩, .string ⟨#[]⟩, .bool false, .slice none 0 0] 29) = w3 at *
 generalize w2.heap.size = V at *
 obtain ⟨p0, p1, p2, p3, p4, _⟩ := blk5 hP3
 have hl := hP3.lt
 go_wp2_with fail
 refine (shutsOut_at 2 w3 true rfl).mono ?_
 rintro e wz ⟨rfl, rfl⟩
 obtain ⟨z0, z1, z2, z3, z4, z5, z6, m0, m1, m2, m3, m4, m5, m6⟩ := blk7 hV3
 have hlV := hV3.lt
 have hlw : w.heap.size < wz.heap.size := hl
 have hsc : (wz.setCell ⟨V, 6, none⟩ (.slice (some ⟨wz.heap.size, 0, none⟩) 1 1)).heap.size = wz.heap.size := by simp
 have hYa : Blk ((wz.setCell ⟨V, 6, none⟩ (.slice (some ⟨wz.heap.size, 0, none⟩) 1 1)).alloc (.cells #[.int .i64 k, .int .i64 i, .string ⟨#[]⟩] 24)) (w.heap.size + 1) 29 #[.int .i64 0, .int .i64 0, .int .i64 0, .string ⟨#[]⟩, .string ⟨#[]⟩, .bool false, .slice none 0 0] := (Blk.far hY3 (p := ⟨V, 6, none⟩) (by show w.heap.size + 1 ≠ V; omega) _).alloc _
 have hVa : Blk ((wz.setCell ⟨V, 6, none⟩ (.slice (some ⟨wz.heap.size, 0, none⟩) 1 1)).alloc (.cells #[.int .i64 k, .int .i64 i, .string ⟨#[]⟩] 24)) V 29 #[.int .i64 k, .int .i64 (lowest k), .int .i64 (highest k), .string ⟨#[]⟩, .string ⟨#[]⟩, .bool false, .slice (some ⟨wz.heap.size, 0, none⟩) 1 1] := by have h := Blk.put hV3 6 (.slice (some ⟨wz.heap.size, 0, none⟩) 1 1); simp at h; exact h.alloc _
 have hBa : Below w.heap.size w ((wz.setCell ⟨V, 6, none⟩ (.slice (some ⟨wz.heap.size, 0, none⟩) 1 1)).alloc (.cells #[.int .i64 k, .int .i64 i, .string ⟨#[]⟩] 24)) := (below_set hB3 (by omega)).alloc (by rw [hsc]; omega) _
 have hOa : OwnW ((wz.setCell ⟨V, 6, none⟩ (.slice (some ⟨wz.heap.size, 0, none⟩) 1 1)).alloc (.cells #[.int .i64 k, .int .i64 i, .string ⟨#[]⟩] 24)) (w.heap.size + 2) (.slice (some ⟨wz.heap.size, 0, none⟩) 1 1) [(⟨k, i, []⟩ : Val)] := by
  have h := own_lit (wz.setCell ⟨V, 6, none⟩ (.slice (some ⟨wz.heap.size, 0, none⟩) 1 1)) (w.heap.size + 2) (by rw [hsc]; omega) (⟨k, i, []⟩ : Val) rfl
  rw [hsc] at h
  exact h
 have hsa : w.heap.size + 2 <= ((wz.setCell ⟨V, 6, none⟩ (.slice (some ⟨wz.heap.size, 0, none⟩) 1 1)).alloc (.cells #[.int .i64 k, .int .i64 i, .string ⟨#[]⟩] 24)).heap.size := by simp; omega
 have hVla : V < ((wz.setCell ⟨V, 6, none⟩ (.slice (some ⟨wz.heap.size, 0, none⟩) 1 1)).alloc (.cells #[.int .i64 k, .int .i64 i, .string ⟨#[]⟩] 24)).heap.size := by simp; omega
 go_wp2_with fail
 clear p0 p1 p2 p3 p4 z0 z1 z2 z3 z4 z5 z6 m0 m1 m2 m3 m4 m5 m6 hl hlw hsc hP3 hY3 hV3 hB3
 generalize ((wz.setCell ⟨V, 6, none⟩ (.slice (some ⟨wz.heap.size, 0, none⟩) 1 1)).alloc (.cells #[.int .i64 k, .int .i64 i, .string ⟨#[]⟩] 24)) = wa at *
 generalize wz.heap.size = R at *
 refine (trimN_at k (lowest k) (highest k) (some ⟨R, 0, none⟩) 1 1 wa (w.heap.size + 2) [(⟨k, i, []⟩ : Val)] HKK.out (Int.le_refl _) (Int.le_refl _) (by simp) rfl (by omega) hOa hsa).mono ?_
 rintro e wb ⟨⟨rK, rlo, rhi, rf, rt, ro, rno⟩, A7, n7, c7, rfl, hl7, hn7, ho7, hb7, hP7⟩
 dsimp only at hl7 ho7
 have HL7 := Lib.hid hl7
 have HP7 := Lib.hid hP7
 have hYb := Blk.below hYa hb7 (by omega)
 have hBb : Below w.heap.size w wb := hBa.trans (hb7.mono (by omega))
 have hsb := hb7.size
 have hc7 : n7 <= c7 := by
  obtain ⟨_, _, e, h, _⟩ := OwnK.rd ho7
  injection e with e1 e2 e3
  omega
 obtain ⟨u0, u1, u2, u3, u4, u5, u6, q0, q1, q2, q3, q4, q5, q6⟩ := blk7 hYb
 have hg7 : w.heap.size + 1 < wb.heap.size := hYb.lt
 clear hb7 hYb hl7 hP7
 go_wp2_with fail
 refine bodyPost_ret (v := spF rK rlo rhi rf rt ro A7 n7 c7) (by simp [results, Try.results19, go_sem, u0, u1, u2, u3, u4, u5, u6]) rfl ?_
 exact ⟨⟨rK, rlo, rhi, rf, rt, ro, rno⟩, HP7.out, by show rno.length <= _; have := HL7.out; omega, A7, n7, c7, rfl, HL7.out, hc7, (OwnK.put7 ho7 (by omega) _ _ _ _ _ _ _).less (by omega), below_put7 hBb (by omega) _ _ _ _ _ _ _⟩
set_option maxRecDepth 100000 in
set_option maxHeartbeats 4000000 in
theorem of_N3 (n : List UInt8) (k i : Int) (hk : k = 1 ∨ k = 3) (_hl1 : lowest k <= i) (hl2 : i <= highest k) (w : World) (hn : n.length <= 9223372036854775807) (hr : Preds.right n 3 k i [] = true) :
  Calls Try.prog 19 #[.agg #[.string ⟨n.toArray⟩, .int .i64 3, .int .i64 k, .int .i64 i, .string ⟨#[]⟩]] w (fun e w' => ∃ r, IsInts k (lowest k) i [(⟨k, i, []⟩ : Val)] r /\ r.no.length <= 1 /\ Gives w r e w') := by
 have HRR := Lib.hid hr
 clear hr
 have HKK := Lib.hid hk
 have hk2 : k ≠ 2 := by omega
 clear hk
 have hB0 : Below w.heap.size w ((w.alloc (.cells #[.string ⟨n.toArray⟩, .int .i64 3, .int .i64 k, .int .i64 i, .string ⟨#[]⟩] 38)).alloc (.cells #[.int .i64 0, .int .i64 0, .int .i64 0, .string ⟨#[]⟩, .string ⟨#[]⟩, .bool false, .slice none 0 0] 29)) := (gr2 w (.cells #[.string ⟨n.toArray⟩, .int .i64 3, .int .i64 k, .int .i64 i, .string ⟨#[]⟩] 38) (.cells #[.int .i64 0, .int .i64 0, .int .i64 0, .string ⟨#[]⟩, .string ⟨#[]⟩, .bool false, .slice none 0 0] 29)).below
 have hP0 := (Blk.new w 38 #[.string ⟨n.toArray⟩, .int .i64 3, .int .i64 k, .int .i64 i, .string ⟨#[]⟩]).alloc (.cells #[.int .i64 0, .int .i64 0, .int .i64 0, .string ⟨#[]⟩, .string ⟨#[]⟩, .bool false, .slice none 0 0] 29)
 have hY0 := Blk.new (w.alloc (.cells #[.string ⟨n.toArray⟩, .int .i64 3, .int .i64 k, .int .i64 i, .string ⟨#[]⟩] 38)) 29 #[.int .i64 0, .int .i64 0, .int .i64 0, .string ⟨#[]⟩, .string ⟨#[]⟩, .bool false, .slice none 0 0]
 rw [show (w.alloc (.cells #[.string ⟨n.toArray⟩, .int .i64 3, .int .i64 k, .int .i64 i, .string ⟨#[]⟩] 38)).heap.size = w.heap.size + 1 by simp] at hY0
 have hs0 : w.heap.size + 2 <= ((w.alloc (.cells #[.string ⟨n.toArray⟩, .int .i64 3, .int .i64 k, .int .i64 i, .string ⟨#[]⟩] 38)).alloc (.cells #[.int .i64 0, .int .i64 0, .int .i64 0, .string ⟨#[]⟩, .string ⟨#[]⟩, .bool false, .slice none 0 0] 29)).heap.size := by simp
 go_enter Try.func19, Try.ntmps19
 go_wp2_with fail
 generalize ((w.alloc (.cells #[.string ⟨n.toArray⟩, .int .i64 3, .int .i64 k, .int .i64 i, .string ⟨#[]⟩] 38)).alloc (.cells #[.int .i64 0, .int .i64 0, .int .i64 0, .string ⟨#[]⟩, .string ⟨#[]⟩, .bool false, .slice none 0 0] 29)) = w0 at *
 refine (pright_is n 3 k i [] w0 hn (by simp) true HRR.out).mono ?_
 rintro e w1 ⟨rfl, hb1⟩
 have hP1 := Blk.below hP0 hb1 hP0.lt
 have hY1 := Blk.below hY0 hb1 hY0.lt
 have hB1 := below_next hB0 (Nat.le_refl _) hb1
 have hs1 : w.heap.size + 2 <= w1.heap.size := Nat.le_trans hs0 (hb1).size
 clear hP0 hY0 hB0
 obtain ⟨p0, p1, p2, p3, p4, _⟩ := blk5 hP1
 have hl := hP1.lt
 go_wp2_with fail
 clear p0 p1 p2 p3 p4 hl hb1
 refine (wholeN_at k w1 HKK.out).mono ?_
 rintro e w2 ⟨rfl, hb2⟩
 have hP2 := Blk.below hP1 hb2.below hP1.lt
 have hY2 := Blk.below hY1 hb2.below hY1.lt
 have hB2 := below_next hB1 (Nat.le_refl _) hb2.below
 have hs2 : w.heap.size + 2 <= w2.heap.size := Nat.le_trans hs1 (hb2.below).size
 clear hP1 hY1 hB1
 have hb3 : Below w2.heap.size w2 (w2.alloc (.cells #[.int .i64 k, .int .i64 (lowest k), .int .i64 (highest k), .string ⟨#[]⟩, .string ⟨#[]⟩, .bool false, .slice none 0 0] 29)) := (Below.refl _ _).alloc (Nat.le_refl _) _
 have hV3 : Blk (w2.alloc (.cells #[.int .i64 k, .int .i64 (lowest k), .int .i64 (highest k), .string ⟨#[]⟩, .string ⟨#[]⟩, .bool false, .slice none 0 0] 29)) w2.heap.size 29 #[.int .i64 k, .int .i64 (lowest k), .int .i64 (highest k), .string ⟨#[]⟩, .string ⟨#[]⟩, .bool false, .slice none 0 0] := Blk.new _ _ _
 have hP3 := Blk.below hP2 hb3 hP2.lt
 have hY3 := Blk.below hY2 hb3 hY2.lt
 have hB3 := below_next hB2 (Nat.le_refl _) hb3
 have hs3 := Nat.le_trans hs2 hb3.size
 have hVl : w.heap.size + 2 <= w2.heap.size := hs2
 have hl := hP2.lt
 obtain ⟨p0, p1, p2, p3, p4, _⟩ := blk5 hP2
 go_wp2_with fail
 clear p0 p1 p2 p3 p4 hl hP2 hY2 hB2 hs2 hb2 hb3
 generalize w2.alloc (.cells #[.int .i64 k, .int .i64 (lowest k), .int .i64 (highest k), .string ⟨#[]⟩, .string ⟨#[]⟩, .bool false, .slice none 0 0] 29) = w3 at *
 generalize w2.heap.size = V at *
 refine (end_num k (lowest k) (highest k) [] [] false none 0 0 k i [] w3 hk2).mono ?_
 rintro e w4 ⟨rfl, hb4⟩
 have hP4 := Blk.below hP3 hb4.below hP3.lt
 have hY4 := Blk.below hY3 hb4.below hY3.lt
 have hB4 := below_next hB3 (Nat.le_refl _) hb4.below
 have hs4 : w.heap.size + 2 <= w4.heap.size := Nat.le_trans hs3 (hb4.below).size
 have hV4 := Blk.below hV3 hb4.below hV3.lt
 clear hP3 hY3 hB3 hV3
 obtain ⟨z0, z1, z2, z3, z4, z5, z6, m0, m1, m2, m3, m4, m5, m6⟩ := blk7 hV4
 obtain ⟨p0, p1, p2, p3, p4, _⟩ := blk5 hP4
 have hl := hV4.lt
 have hlp := hP4.lt
 have hne1 : ¬ w.heap.size = V := by omega
 have hne2 : ¬ V = w.heap.size := by omega
 have hP5 : Blk (((((((w4.setCell ⟨V, 0, none⟩ (.int .i64 k)).setCell ⟨V, 1, none⟩ (.int .i64 (lowest k))).setCell ⟨V, 2, none⟩ (.int .i64 i)).setCell ⟨V, 3, none⟩ (.string ⟨#[]⟩)).setCell ⟨V, 4, none⟩ (.string ⟨#[]⟩)).setCell ⟨V, 5, none⟩ (.bool false)).setCell ⟨V, 6, none⟩ (.slice none 0 0)) w.heap.size 38 #[.string ⟨n.toArray⟩, .int .i64 3, .int .i64 k, .int .i64 i, .string ⟨#[]⟩] := Blk.far7 hP4 (by omega) _ _ _ _ _ _ _
 have hY5 : Blk (((((((w4.setCell ⟨V, 0, none⟩ (.int .i64 k)).setCell ⟨V, 1, none⟩ (.int .i64 (lowest k))).setCell ⟨V, 2, none⟩ (.int .i64 i)).setCell ⟨V, 3, none⟩ (.string ⟨#[]⟩)).setCell ⟨V, 4, none⟩ (.string ⟨#[]⟩)).setCell ⟨V, 5, none⟩ (.bool false)).setCell ⟨V, 6, none⟩ (.slice none 0 0)) (w.heap.size + 1) 29 #[.int .i64 0, .int .i64 0, .int .i64 0, .string ⟨#[]⟩, .string ⟨#[]⟩, .bool false, .slice none 0 0] := Blk.far7 hY4 (by omega) _ _ _ _ _ _ _
 have hV5 : Blk (((((((w4.setCell ⟨V, 0, none⟩ (.int .i64 k)).setCell ⟨V, 1, none⟩ (.int .i64 (lowest k))).setCell ⟨V, 2, none⟩ (.int .i64 i)).setCell ⟨V, 3, none⟩ (.string ⟨#[]⟩)).setCell ⟨V, 4, none⟩ (.string ⟨#[]⟩)).setCell ⟨V, 5, none⟩ (.bool false)).setCell ⟨V, 6, none⟩ (.slice none 0 0)) V 29 #[.int .i64 k, .int .i64 (lowest k), .int .i64 i, .string ⟨#[]⟩, .string ⟨#[]⟩, .bool false, .slice none 0 0] := Blk.put7 hV4 _ _ _ _ _ _ _
 have hB5 : Below w.heap.size w (((((((w4.setCell ⟨V, 0, none⟩ (.int .i64 k)).setCell ⟨V, 1, none⟩ (.int .i64 (lowest k))).setCell ⟨V, 2, none⟩ (.int .i64 i)).setCell ⟨V, 3, none⟩ (.string ⟨#[]⟩)).setCell ⟨V, 4, none⟩ (.string ⟨#[]⟩)).setCell ⟨V, 5, none⟩ (.bool false)).setCell ⟨V, 6, none⟩ (.slice none 0 0)) := below_put7 hB4 (by omega) _ _ _ _ _ _ _
 have hs5 : w.heap.size + 2 <= (((((((w4.setCell ⟨V, 0, none⟩ (.int .i64 k)).setCell ⟨V, 1, none⟩ (.int .i64 (lowest k))).setCell ⟨V, 2, none⟩ (.int .i64 i)).setCell ⟨V, 3, none⟩ (.string ⟨#[]⟩)).setCell ⟨V, 4, none⟩ (.string ⟨#[]⟩)).setCell ⟨V, 5, none⟩ (.bool false)).setCell ⟨V, 6, none⟩ (.slice none 0 0)).heap.size := by rw [size_put7]; omega
 go_wp2_with fail
 clear z0 z1 z2 z3 z4 z5 z6 m0 m1 m2 m3 m4 m5 m6 p0 p1 p2 p3 p4 hl hlp hP4 hY4 hV4 hB4 hb4
 generalize (((((((w4.setCell ⟨V, 0, none⟩ (.int .i64 k)).setCell ⟨V, 1, none⟩ (.int .i64 (lowest k))).setCell ⟨V, 2, none⟩ (.int .i64 i)).setCell ⟨V, 3, none⟩ (.string ⟨#[]⟩)).setCell ⟨V, 4, none⟩ (.string ⟨#[]⟩)).setCell ⟨V, 5, none⟩ (.bool false)).setCell ⟨V, 6, none⟩ (.slice none 0 0)) = w5 at *
 obtain ⟨p0, p1, p2, p3, p4, _⟩ := blk5 hP5
 have hl := hP5.lt
 refine (shutsOut_at 3 w5 true rfl).mono ?_
 rintro e wz ⟨rfl, rfl⟩
 obtain ⟨z0, z1, z2, z3, z4, z5, z6, m0, m1, m2, m3, m4, m5, m6⟩ := blk7 hV5
 have hlV := hV5.lt
 have hlw : w.heap.size < wz.heap.size := hl
 have hsc : (wz.setCell ⟨V, 6, none⟩ (.slice (some ⟨wz.heap.size, 0, none⟩) 1 1)).heap.size = wz.heap.size := by simp
 have hYa : Blk ((wz.setCell ⟨V, 6, none⟩ (.slice (some ⟨wz.heap.size, 0, none⟩) 1 1)).alloc (.cells #[.int .i64 k, .int .i64 i, .string ⟨#[]⟩] 24)) (w.heap.size + 1) 29 #[.int .i64 0, .int .i64 0, .int .i64 0, .string ⟨#[]⟩, .string ⟨#[]⟩, .bool false, .slice none 0 0] := (Blk.far hY5 (p := ⟨V, 6, none⟩) (by show w.heap.size + 1 ≠ V; omega) _).alloc _
 have hVa : Blk ((wz.setCell ⟨V, 6, none⟩ (.slice (some ⟨wz.heap.size, 0, none⟩) 1 1)).alloc (.cells #[.int .i64 k, .int .i64 i, .string ⟨#[]⟩] 24)) V 29 #[.int .i64 k, .int .i64 (lowest k), .int .i64 i, .string ⟨#[]⟩, .string ⟨#[]⟩, .bool false, .slice (some ⟨wz.heap.size, 0, none⟩) 1 1] := by have h := Blk.put hV5 6 (.slice (some ⟨wz.heap.size, 0, none⟩) 1 1); simp at h; exact h.alloc _
 have hBa : Below w.heap.size w ((wz.setCell ⟨V, 6, none⟩ (.slice (some ⟨wz.heap.size, 0, none⟩) 1 1)).alloc (.cells #[.int .i64 k, .int .i64 i, .string ⟨#[]⟩] 24)) := (below_set hB5 (by omega)).alloc (by rw [hsc]; omega) _
 have hOa : OwnW ((wz.setCell ⟨V, 6, none⟩ (.slice (some ⟨wz.heap.size, 0, none⟩) 1 1)).alloc (.cells #[.int .i64 k, .int .i64 i, .string ⟨#[]⟩] 24)) (w.heap.size + 2) (.slice (some ⟨wz.heap.size, 0, none⟩) 1 1) [(⟨k, i, []⟩ : Val)] := by
  have h := own_lit (wz.setCell ⟨V, 6, none⟩ (.slice (some ⟨wz.heap.size, 0, none⟩) 1 1)) (w.heap.size + 2) (by rw [hsc]; omega) (⟨k, i, []⟩ : Val) rfl
  rw [hsc] at h
  exact h
 have hsa : w.heap.size + 2 <= ((wz.setCell ⟨V, 6, none⟩ (.slice (some ⟨wz.heap.size, 0, none⟩) 1 1)).alloc (.cells #[.int .i64 k, .int .i64 i, .string ⟨#[]⟩] 24)).heap.size := by simp; omega
 have hVla : V < ((wz.setCell ⟨V, 6, none⟩ (.slice (some ⟨wz.heap.size, 0, none⟩) 1 1)).alloc (.cells #[.int .i64 k, .int .i64 i, .string ⟨#[]⟩] 24)).heap.size := by simp; omega
 go_wp2_with fail
 clear p0 p1 p2 p3 p4 z0 z1 z2 z3 z4 z5 z6 m0 m1 m2 m3 m4 m5 m6 hl hlw hsc hP5 hY5 hV5 hB5
 generalize ((wz.setCell ⟨V, 6, none⟩ (.slice (some ⟨wz.heap.size, 0, none⟩) 1 1)).alloc (.cells #[.int .i64 k, .int .i64 i, .string ⟨#[]⟩] 24)) = wa at *
 generalize wz.heap.size = R at *
 refine (trimN_at k (lowest k) i (some ⟨R, 0, none⟩) 1 1 wa (w.heap.size + 2) [(⟨k, i, []⟩ : Val)] HKK.out (Int.le_refl _) hl2 (by simp) rfl (by omega) hOa hsa).mono ?_
 rintro e wb ⟨⟨rK, rlo, rhi, rf, rt, ro, rno⟩, A7, n7, c7, rfl, hl7, hn7, ho7, hb7, hP7⟩
 dsimp only at hl7 ho7
 have HL7 := Lib.hid hl7
 have HP7 := Lib.hid hP7
 have hYb := Blk.below hYa hb7 (by omega)
 have hBb : Below w.heap.size w wb := hBa.trans (hb7.mono (by omega))
 have hsb := hb7.size
 have hc7 : n7 <= c7 := by
  obtain ⟨_, _, e, h, _⟩ := OwnK.rd ho7
  injection e with e1 e2 e3
  omega
 obtain ⟨u0, u1, u2, u3, u4, u5, u6, q0, q1, q2, q3, q4, q5, q6⟩ := blk7 hYb
 have hg7 : w.heap.size + 1 < wb.heap.size := hYb.lt
 clear hb7 hYb hl7 hP7
 go_wp2_with fail
 refine bodyPost_ret (v := spF rK rlo rhi rf rt ro A7 n7 c7) (by simp [results, Try.results19, go_sem, u0, u1, u2, u3, u4, u5, u6]) rfl ?_
 exact ⟨⟨rK, rlo, rhi, rf, rt, ro, rno⟩, HP7.out, by show rno.length <= _; have := HL7.out; omega, A7, n7, c7, rfl, HL7.out, hc7, (OwnK.put7 ho7 (by omega) _ _ _ _ _ _ _).less (by omega), below_put7 hBb (by omega) _ _ _ _ _ _ _⟩
set_option maxRecDepth 100000 in
set_option maxHeartbeats 4000000 in
theorem of_N4 (n : List UInt8) (k i : Int) (hk : k = 1 ∨ k = 3) (_hl1 : lowest k <= i) (hl2 : i <= highest k) (w : World) (hn : n.length <= 9223372036854775807) (hr : Preds.right n 4 k i [] = true) :
  Calls Try.prog 19 #[.agg #[.string ⟨n.toArray⟩, .int .i64 4, .int .i64 k, .int .i64 i, .string ⟨#[]⟩]] w (fun e w' => ∃ r, IsInts k (lowest k) i ([] : List Val) r /\ r.no.length <= 1 /\ Gives w r e w') := by
 have HRR := Lib.hid hr
 clear hr
 have HKK := Lib.hid hk
 have hk2 : k ≠ 2 := by omega
 clear hk
 have hB0 : Below w.heap.size w ((w.alloc (.cells #[.string ⟨n.toArray⟩, .int .i64 4, .int .i64 k, .int .i64 i, .string ⟨#[]⟩] 38)).alloc (.cells #[.int .i64 0, .int .i64 0, .int .i64 0, .string ⟨#[]⟩, .string ⟨#[]⟩, .bool false, .slice none 0 0] 29)) := (gr2 w (.cells #[.string ⟨n.toArray⟩, .int .i64 4, .int .i64 k, .int .i64 i, .string ⟨#[]⟩] 38) (.cells #[.int .i64 0, .int .i64 0, .int .i64 0, .string ⟨#[]⟩, .string ⟨#[]⟩, .bool false, .slice none 0 0] 29)).below
 have hP0 := (Blk.new w 38 #[.string ⟨n.toArray⟩, .int .i64 4, .int .i64 k, .int .i64 i, .string ⟨#[]⟩]).alloc (.cells #[.int .i64 0, .int .i64 0, .int .i64 0, .string ⟨#[]⟩, .string ⟨#[]⟩, .bool false, .slice none 0 0] 29)
 have hY0 := Blk.new (w.alloc (.cells #[.string ⟨n.toArray⟩, .int .i64 4, .int .i64 k, .int .i64 i, .string ⟨#[]⟩] 38)) 29 #[.int .i64 0, .int .i64 0, .int .i64 0, .string ⟨#[]⟩, .string ⟨#[]⟩, .bool false, .slice none 0 0]
 rw [show (w.alloc (.cells #[.string ⟨n.toArray⟩, .int .i64 4, .int .i64 k, .int .i64 i, .string ⟨#[]⟩] 38)).heap.size = w.heap.size + 1 by simp] at hY0
 have hs0 : w.heap.size + 2 <= ((w.alloc (.cells #[.string ⟨n.toArray⟩, .int .i64 4, .int .i64 k, .int .i64 i, .string ⟨#[]⟩] 38)).alloc (.cells #[.int .i64 0, .int .i64 0, .int .i64 0, .string ⟨#[]⟩, .string ⟨#[]⟩, .bool false, .slice none 0 0] 29)).heap.size := by simp
 go_enter Try.func19, Try.ntmps19
 go_wp2_with fail
 generalize ((w.alloc (.cells #[.string ⟨n.toArray⟩, .int .i64 4, .int .i64 k, .int .i64 i, .string ⟨#[]⟩] 38)).alloc (.cells #[.int .i64 0, .int .i64 0, .int .i64 0, .string ⟨#[]⟩, .string ⟨#[]⟩, .bool false, .slice none 0 0] 29)) = w0 at *
 refine (pright_is n 4 k i [] w0 hn (by simp) true HRR.out).mono ?_
 rintro e w1 ⟨rfl, hb1⟩
 have hP1 := Blk.below hP0 hb1 hP0.lt
 have hY1 := Blk.below hY0 hb1 hY0.lt
 have hB1 := below_next hB0 (Nat.le_refl _) hb1
 have hs1 : w.heap.size + 2 <= w1.heap.size := Nat.le_trans hs0 (hb1).size
 clear hP0 hY0 hB0
 obtain ⟨p0, p1, p2, p3, p4, _⟩ := blk5 hP1
 have hl := hP1.lt
 go_wp2_with fail
 clear p0 p1 p2 p3 p4 hl hb1
 refine (wholeN_at k w1 HKK.out).mono ?_
 rintro e w2 ⟨rfl, hb2⟩
 have hP2 := Blk.below hP1 hb2.below hP1.lt
 have hY2 := Blk.below hY1 hb2.below hY1.lt
 have hB2 := below_next hB1 (Nat.le_refl _) hb2.below
 have hs2 : w.heap.size + 2 <= w2.heap.size := Nat.le_trans hs1 (hb2.below).size
 clear hP1 hY1 hB1
 have hb3 : Below w2.heap.size w2 (w2.alloc (.cells #[.int .i64 k, .int .i64 (lowest k), .int .i64 (highest k), .string ⟨#[]⟩, .string ⟨#[]⟩, .bool false, .slice none 0 0] 29)) := (Below.refl _ _).alloc (Nat.le_refl _) _
 have hV3 : Blk (w2.alloc (.cells #[.int .i64 k, .int .i64 (lowest k), .int .i64 (highest k), .string ⟨#[]⟩, .string ⟨#[]⟩, .bool false, .slice none 0 0] 29)) w2.heap.size 29 #[.int .i64 k, .int .i64 (lowest k), .int .i64 (highest k), .string ⟨#[]⟩, .string ⟨#[]⟩, .bool false, .slice none 0 0] := Blk.new _ _ _
 have hP3 := Blk.below hP2 hb3 hP2.lt
 have hY3 := Blk.below hY2 hb3 hY2.lt
 have hB3 := below_next hB2 (Nat.le_refl _) hb3
 have hs3 := Nat.le_trans hs2 hb3.size
 have hVl : w.heap.size + 2 <= w2.heap.size := hs2
 have hl := hP2.lt
 obtain ⟨p0, p1, p2, p3, p4, _⟩ := blk5 hP2
 go_wp2_with fail
 clear p0 p1 p2 p3 p4 hl hP2 hY2 hB2 hs2 hb2 hb3
 generalize w2.alloc (.cells #[.int .i64 k, .int .i64 (lowest k), .int .i64 (highest k), .string ⟨#[]⟩, .string ⟨#[]⟩, .bool false, .slice none 0 0] 29) = w3 at *
 generalize w2.heap.size = V at *
 refine (end_num k (lowest k) (highest k) [] [] false none 0 0 k i [] w3 hk2).mono ?_
 rintro e w4 ⟨rfl, hb4⟩
 have hP4 := Blk.below hP3 hb4.below hP3.lt
 have hY4 := Blk.below hY3 hb4.below hY3.lt
 have hB4 := below_next hB3 (Nat.le_refl _) hb4.below
 have hs4 : w.heap.size + 2 <= w4.heap.size := Nat.le_trans hs3 (hb4.below).size
 have hV4 := Blk.below hV3 hb4.below hV3.lt
 clear hP3 hY3 hB3 hV3
 obtain ⟨z0, z1, z2, z3, z4, z5, z6, m0, m1, m2, m3, m4, m5, m6⟩ := blk7 hV4
 obtain ⟨p0, p1, p2, p3, p4, _⟩ := blk5 hP4
 have hl := hV4.lt
 have hlp := hP4.lt
 have hne1 : ¬ w.heap.size = V := by omega
 have hne2 : ¬ V = w.heap.size := by omega
 have hP5 : Blk (((((((w4.setCell ⟨V, 0, none⟩ (.int .i64 k)).setCell ⟨V, 1, none⟩ (.int .i64 (lowest k))).setCell ⟨V, 2, none⟩ (.int .i64 i)).setCell ⟨V, 3, none⟩ (.string ⟨#[]⟩)).setCell ⟨V, 4, none⟩ (.string ⟨#[]⟩)).setCell ⟨V, 5, none⟩ (.bool false)).setCell ⟨V, 6, none⟩ (.slice none 0 0)) w.heap.size 38 #[.string ⟨n.toArray⟩, .int .i64 4, .int .i64 k, .int .i64 i, .string ⟨#[]⟩] := Blk.far7 hP4 (by omega) _ _ _ _ _ _ _
 have hY5 : Blk (((((((w4.setCell ⟨V, 0, none⟩ (.int .i64 k)).setCell ⟨V, 1, none⟩ (.int .i64 (lowest k))).setCell ⟨V, 2, none⟩ (.int .i64 i)).setCell ⟨V, 3, none⟩ (.string ⟨#[]⟩)).setCell ⟨V, 4, none⟩ (.string ⟨#[]⟩)).setCell ⟨V, 5, none⟩ (.bool false)).setCell ⟨V, 6, none⟩ (.slice none 0 0)) (w.heap.size + 1) 29 #[.int .i64 0, .int .i64 0, .int .i64 0, .string ⟨#[]⟩, .string ⟨#[]⟩, .bool false, .slice none 0 0] := Blk.far7 hY4 (by omega) _ _ _ _ _ _ _
 have hV5 : Blk (((((((w4.setCell ⟨V, 0, none⟩ (.int .i64 k)).setCell ⟨V, 1, none⟩ (.int .i64 (lowest k))).setCell ⟨V, 2, none⟩ (.int .i64 i)).setCell ⟨V, 3, none⟩ (.string ⟨#[]⟩)).setCell ⟨V, 4, none⟩ (.string ⟨#[]⟩)).setCell ⟨V, 5, none⟩ (.bool false)).setCell ⟨V, 6, none⟩ (.slice none 0 0)) V 29 #[.int .i64 k, .int .i64 (lowest k), .int .i64 i, .string ⟨#[]⟩, .string ⟨#[]⟩, .bool false, .slice none 0 0] := Blk.put7 hV4 _ _ _ _ _ _ _
 have hB5 : Below w.heap.size w (((((((w4.setCell ⟨V, 0, none⟩ (.int .i64 k)).setCell ⟨V, 1, none⟩ (.int .i64 (lowest k))).setCell ⟨V, 2, none⟩ (.int .i64 i)).setCell ⟨V, 3, none⟩ (.string ⟨#[]⟩)).setCell ⟨V, 4, none⟩ (.string ⟨#[]⟩)).setCell ⟨V, 5, none⟩ (.bool false)).setCell ⟨V, 6, none⟩ (.slice none 0 0)) := below_put7 hB4 (by omega) _ _ _ _ _ _ _
 have hs5 : w.heap.size + 2 <= (((((((w4.setCell ⟨V, 0, none⟩ (.int .i64 k)).setCell ⟨V, 1, none⟩ (.int .i64 (lowest k))).setCell ⟨V, 2, none⟩ (.int .i64 i)).setCell ⟨V, 3, none⟩ (.string ⟨#[]⟩)).setCell ⟨V, 4, none⟩ (.string ⟨#[]⟩)).setCell ⟨V, 5, none⟩ (.bool false)).setCell ⟨V, 6, none⟩ (.slice none 0 0)).heap.size := by rw [size_put7]; omega
 go_wp2_with fail
 clear z0 z1 z2 z3 z4 z5 z6 m0 m1 m2 m3 m4 m5 m6 p0 p1 p2 p3 p4 hl hlp hP4 hY4 hV4 hB4 hb4
 generalize (((((((w4.setCell ⟨V, 0, none⟩ (.int .i64 k)).setCell ⟨V, 1, none⟩ (.int .i64 (lowest k))).setCell ⟨V, 2, none⟩ (.int .i64 i)).setCell ⟨V, 3, none⟩ (.string ⟨#[]⟩)).setCell ⟨V, 4, none⟩ (.string ⟨#[]⟩)).setCell ⟨V, 5, none⟩ (.bool false)).setCell ⟨V, 6, none⟩ (.slice none 0 0)) = w5 at *
 obtain ⟨p0, p1, p2, p3, p4, _⟩ := blk5 hP5
 have hl := hP5.lt
 refine (shutsOut_at 4 w5 false rfl).mono ?_
 rintro e wz ⟨rfl, rfl⟩
 obtain ⟨z0, z1, z2, z3, z4, z5, z6, m0, m1, m2, m3, m4, m5, m6⟩ := blk7 hV5
 have hlV := hV5.lt
 have hOa : OwnW wz (w.heap.size + 2) (.slice none 0 0) ([] : List Val) := OwnK.none_ _ _
 go_wp2_with fail
 clear p0 p1 p2 p3 p4 z0 z1 z2 z3 z4 z5 z6 m0 m1 m2 m3 m4 m5 m6 hl
 have hYa := hY5
 have hBa := hB5
 have hsa := hs5
 have hVla := hlV
 clear hP5 hY5 hB5
 generalize wz = wa at *
 refine (trimN_at k (lowest k) i none 0 0 wa (w.heap.size + 2) ([] : List Val) HKK.out (Int.le_refl _) hl2 (by simp) rfl (by omega) hOa hsa).mono ?_
 rintro e wb ⟨⟨rK, rlo, rhi, rf, rt, ro, rno⟩, A7, n7, c7, rfl, hl7, hn7, ho7, hb7, hP7⟩
 dsimp only at hl7 ho7
 have HL7 := Lib.hid hl7
 have HP7 := Lib.hid hP7
 have hYb := Blk.below hYa hb7 (by omega)
 have hBb : Below w.heap.size w wb := hBa.trans (hb7.mono (by omega))
 have hsb := hb7.size
 have hc7 : n7 <= c7 := by
  obtain ⟨_, _, e, h, _⟩ := OwnK.rd ho7
  injection e with e1 e2 e3
  omega
 obtain ⟨u0, u1, u2, u3, u4, u5, u6, q0, q1, q2, q3, q4, q5, q6⟩ := blk7 hYb
 have hg7 : w.heap.size + 1 < wb.heap.size := hYb.lt
 clear hb7 hYb hl7 hP7
 go_wp2_with fail
 refine bodyPost_ret (v := spF rK rlo rhi rf rt ro A7 n7 c7) (by simp [results, Try.results19, go_sem, u0, u1, u2, u3, u4, u5, u6]) rfl ?_
 exact ⟨⟨rK, rlo, rhi, rf, rt, ro, rno⟩, HP7.out, by show rno.length <= _; have := HL7.out; omega, A7, n7, c7, rfl, HL7.out, hc7, (OwnK.put7 ho7 (by omega) _ _ _ _ _ _ _).less (by omega), below_put7 hBb (by omega) _ _ _ _ _ _ _⟩
set_option maxRecDepth 100000 in
set_option maxHeartbeats 4000000 in
theorem of_N5 (n : List UInt8) (k i : Int) (hk : k = 1 ∨ k = 3) (hl1 : lowest k <= i) (_hl2 : i <= highest k) (w : World) (hn : n.length <= 9223372036854775807) (hr : Preds.right n 5 k i [] = true) :
  Calls Try.prog 19 #[.agg #[.string ⟨n.toArray⟩, .int .i64 5, .int .i64 k, .int .i64 i, .string ⟨#[]⟩]] w (fun e w' => ∃ r, IsInts k i (highest k) [(⟨k, i, []⟩ : Val)] r /\ r.no.length <= 1 /\ Gives w r e w') := by
 have HRR := Lib.hid hr
 clear hr
 have HKK := Lib.hid hk
 have hk2 : k ≠ 2 := by omega
 clear hk
 have hB0 : Below w.heap.size w ((w.alloc (.cells #[.string ⟨n.toArray⟩, .int .i64 5, .int .i64 k, .int .i64 i, .string ⟨#[]⟩] 38)).alloc (.cells #[.int .i64 0, .int .i64 0, .int .i64 0, .string ⟨#[]⟩, .string ⟨#[]⟩, .bool false, .slice none 0 0] 29)) := (gr2 w (.cells #[.string ⟨n.toArray⟩, .int .i64 5, .int .i64 k, .int .i64 i, .string ⟨#[]⟩] 38) (.cells #[.int .i64 0, .int .i64 0, .int .i64 0, .string ⟨#[]⟩, .string ⟨#[]⟩, .bool false, .slice none 0 0] 29)).below
 have hP0 := (Blk.new w 38 #[.string ⟨n.toArray⟩, .int .i64 5, .int .i64 k, .int .i64 i, .string ⟨#[]⟩]).alloc (.cells #[.int .i64 0, .int .i64 0, .int .i64 0, .string ⟨#[]⟩, .string ⟨#[]⟩, .bool false, .slice none 0 0] 29)
 have hY0 := Blk.new (w.alloc (.cells #[.string ⟨n.toArray⟩, .int .i64 5, .int .i64 k, .int .i64 i, .string ⟨#[]⟩] 38)) 29 #[.int .i64 0, .int .i64 0, .int .i64 0, .string ⟨#[]⟩, .string ⟨#[]⟩, .bool false, .slice none 0 0]
 rw [show (w.alloc (.cells #[.string ⟨n.toArray⟩, .int .i64 5, .int .i64 k, .int .i64 i, .string ⟨#[]⟩] 38)).heap.size = w.heap.size + 1 by simp] at hY0
 have hs0 : w.heap.size + 2 <= ((w.alloc (.cells #[.string ⟨n.toArray⟩, .int .i64 5, .int .i64 k, .int .i64 i, .string ⟨#[]⟩] 38)).alloc (.cells #[.int .i64 0, .int .i64 0, .int .i64 0, .string ⟨#[]⟩, .string ⟨#[]⟩, .bool false, .slice none 0 0] 29)).heap.size := by simp
 go_enter Try.func19, Try.ntmps19
 go_wp2_with fail
 generalize ((w.alloc (.cells #[.string ⟨n.toArray⟩, .int .i64 5, .int .i64 k, .int .i64 i, .string ⟨#[]⟩] 38)).alloc (.cells #[.int .i64 0, .int .i64 0, .int .i64 0, .string ⟨#[]⟩, .string ⟨#[]⟩, .bool false, .slice none 0 0] 29)) = w0 at *
 refine (pright_is n 5 k i [] w0 hn (by simp) true HRR.out).mono ?_
 rintro e w1 ⟨rfl, hb1⟩
 have hP1 := Blk.below hP0 hb1 hP0.lt
 have hY1 := Blk.below hY0 hb1 hY0.lt
 have hB1 := below_next hB0 (Nat.le_refl _) hb1
 have hs1 : w.heap.size + 2 <= w1.heap.size := Nat.le_trans hs0 (hb1).size
 clear hP0 hY0 hB0
 obtain ⟨p0, p1, p2, p3, p4, _⟩ := blk5 hP1
 have hl := hP1.lt
 go_wp2_with fail
 clear p0 p1 p2 p3 p4 hl hb1
 refine (wholeN_at k w1 HKK.out).mono ?_
 rintro e w2 ⟨rfl, hb2⟩
 have hP2 := Blk.below hP1 hb2.below hP1.lt
 have hY2 := Blk.below hY1 hb2.below hY1.lt
 have hB2 := below_next hB1 (Nat.le_refl _) hb2.below
 have hs2 : w.heap.size + 2 <= w2.heap.size := Nat.le_trans hs1 (hb2.below).size
 clear hP1 hY1 hB1
 have hb3 : Below w2.heap.size w2 (w2.alloc (.cells #[.int .i64 k, .int .i64 (lowest k), .int .i64 (highest k), .string ⟨#[]⟩, .string ⟨#[]⟩, .bool false, .slice none 0 0] 29)) := (Below.refl _ _).alloc (Nat.le_refl _) _
 have hV3 : Blk (w2.alloc (.cells #[.int .i64 k, .int .i64 (lowest k), .int .i64 (highest k), .string ⟨#[]⟩, .string ⟨#[]⟩, .bool false, .slice none 0 0] 29)) w2.heap.size 29 #[.int .i64 k, .int .i64 (lowest k), .int .i64 (highest k), .string ⟨#[]⟩, .string ⟨#[]⟩, .bool false, .slice none 0 0] := Blk.new _ _ _
 have hP3 := Blk.below hP2 hb3 hP2.lt
 have hY3 := Blk.below hY2 hb3 hY2.lt
 have hB3 := below_next hB2 (Nat.le_refl _) hb3
 have hs3 := Nat.le_trans hs2 hb3.size
 have hVl : w.heap.size + 2 <= w2.heap.size := hs2
 have hl := hP2.lt
 obtain ⟨p0, p1, p2, p3, p4, _⟩ := blk5 hP2
 go_wp2_with fail
 clear p0 p1 p2 p3 p4 hl hP2 hY2 hB2 hs2 hb2 hb3
 generalize w2.alloc (.cells #[.int .i64 k, .int .i64 (lowest k), .int .i64 (highest k), .string ⟨#[]⟩, .string ⟨#[]⟩, .bool false, .slice none 0 0] 29) = w3 at *
 generalize w2.heap.size = V at *
 refine (begin_num k (lowest k) (highest k) [] [] false none 0 0 k i [] w3 hk2).mono ?_
 rintro e w4 ⟨rfl, hb4⟩
 have hP4 := Blk.below hP3 hb4.below hP3.lt
 have hY4 := Blk.below hY3 hb4.below hY3.lt
 have hB4 := below_next hB3 (Nat.le_refl _) hb4.below
 have hs4 : w.heap.size + 2 <= w4.heap.size := Nat.le_trans hs3 (hb4.below).size
 have hV4 := Blk.below hV3 hb4.below hV3.lt
 clear hP3 hY3 hB3 hV3
 obtain ⟨z0, z1, z2, z3, z4, z5, z6, m0, m1, m2, m3, m4, m5, m6⟩ := blk7 hV4
 obtain ⟨p0, p1, p2, p3, p4, _⟩ := blk5 hP4
 have hl := hV4.lt
 have hlp := hP4.lt
 have hne1 : ¬ w.heap.size = V := by omega
 have hne2 : ¬ V = w.heap.size := by omega
 have hP5 : Blk (((((((w4.setCell ⟨V, 0, none⟩ (.int .i64 k)).setCell ⟨V, 1, none⟩ (.int .i64 i)).setCell ⟨V, 2, none⟩ (.int .i64 (highest k))).setCell ⟨V, 3, none⟩ (.string ⟨#[]⟩)).setCell ⟨V, 4, none⟩ (.string ⟨#[]⟩)).setCell ⟨V, 5, none⟩ (.bool false)).setCell ⟨V, 6, none⟩ (.slice none 0 0)) w.heap.size 38 #[.string ⟨n.toArray⟩, .int .i64 5, .int .i64 k, .int .i64 i, .string ⟨#[]⟩] := Blk.far7 hP4 (by omega) _ _ _ _ _ _ _
 have hY5 : Blk (((((((w4.setCell ⟨V, 0, none⟩ (.int .i64 k)).setCell ⟨V, 1, none⟩ (.int .i64 i)).setCell ⟨V, 2, none⟩ (.int .i64 (highest k))).setCell ⟨V, 3, none⟩ (.string ⟨#[]⟩)).setCell ⟨V, 4, none⟩ (.string ⟨#[]⟩)).setCell ⟨V, 5, none⟩ (.bool false)).setCell ⟨V, 6, none⟩ (.slice none 0 0)) (w.heap.size + 1) 29 #[.int .i64 0, .int .i64 0, .int .i64 0, .string ⟨#[]⟩, .string ⟨#[]⟩, .bool false, .slice none 0 0] := Blk.far7 hY4 (by omega) _ _ _ _ _ _ _
 have hV5 : Blk (((((((w4.setCell ⟨V, 0, none⟩ (.int .i64 k)).setCell ⟨V, 1, none⟩ (.int .i64 i)).setCell ⟨V, 2, none⟩ (.int .i64 (highest k))).setCell ⟨V, 3, none⟩ (.string ⟨#[]⟩)).setCell ⟨V, 4, none⟩ (.string ⟨#[]⟩)).setCell ⟨V, 5, none⟩ (.bool false)).setCell ⟨V, 6, none⟩ (.slice none 0 0)) V 29 #[.int .i64 k, .int .i64 i, .int .i64 (highest k), .string ⟨#[]⟩, .string ⟨#[]⟩, .bool false, .slice none 0 0] := Blk.put7 hV4 _ _ _ _ _ _ _
 have hB5 : Below w.heap.size w (((((((w4.setCell ⟨V, 0, none⟩ (.int .i64 k)).setCell ⟨V, 1, none⟩ (.int .i64 i)).setCell ⟨V, 2, none⟩ (.int .i64 (highest k))).setCell ⟨V, 3, none⟩ (.string ⟨#[]⟩)).setCell ⟨V, 4, none⟩ (.string ⟨#[]⟩)).setCell ⟨V, 5, none⟩ (.bool false)).setCell ⟨V, 6, none⟩ (.slice none 0 0)) := below_put7 hB4 (by omega) _ _ _ _ _ _ _
 have hs5 : w.heap.size + 2 <= (((((((w4.setCell ⟨V, 0, none⟩ (.int .i64 k)).setCell ⟨V, 1, none⟩ (.int .i64 i)).setCell ⟨V, 2, none⟩ (.int .i64 (highest k))).setCell ⟨V, 3, none⟩ (.string ⟨#[]⟩)).setCell ⟨V, 4, none⟩ (.string ⟨#[]⟩)).setCell ⟨V, 5, none⟩ (.bool false)).setCell ⟨V, 6, none⟩ (.slice none 0 0)).heap.size := by rw [size_put7]; omega
 go_wp2_with fail
 clear z0 z1 z2 z3 z4 z5 z6 m0 m1 m2 m3 m4 m5 m6 p0 p1 p2 p3 p4 hl hlp hP4 hY4 hV4 hB4 hb4
 generalize (((((((w4.setCell ⟨V, 0, none⟩ (.int .i64 k)).setCell ⟨V, 1, none⟩ (.int .i64 i)).setCell ⟨V, 2, none⟩ (.int .i64 (highest k))).setCell ⟨V, 3, none⟩ (.string ⟨#[]⟩)).setCell ⟨V, 4, none⟩ (.string ⟨#[]⟩)).setCell ⟨V, 5, none⟩ (.bool false)).setCell ⟨V, 6, none⟩ (.slice none 0 0)) = w5 at *
 obtain ⟨p0, p1, p2, p3, p4, _⟩ := blk5 hP5
 have hl := hP5.lt
 refine (shutsOut_at 5 w5 true rfl).mono ?_
 rintro e wz ⟨rfl, rfl⟩
 obtain ⟨z0, z1, z2, z3, z4, z5, z6, m0, m1, m2, m3, m4, m5, m6⟩ := blk7 hV5
 have hlV := hV5.lt
 have hlw : w.heap.size < wz.heap.size := hl
 have hsc : (wz.setCell ⟨V, 6, none⟩ (.slice (some ⟨wz.heap.size, 0, none⟩) 1 1)).heap.size = wz.heap.size := by simp
 have hYa : Blk ((wz.setCell ⟨V, 6, none⟩ (.slice (some ⟨wz.heap.size, 0, none⟩) 1 1)).alloc (.cells #[.int .i64 k, .int .i64 i, .string ⟨#[]⟩] 24)) (w.heap.size + 1) 29 #[.int .i64 0, .int .i64 0, .int .i64 0, .string ⟨#[]⟩, .string ⟨#[]⟩, .bool false, .slice none 0 0] := (Blk.far hY5 (p := ⟨V, 6, none⟩) (by show w.heap.size + 1 ≠ V; omega) _).alloc _
 have hVa : Blk ((wz.setCell ⟨V, 6, none⟩ (.slice (some ⟨wz.heap.size, 0, none⟩) 1 1)).alloc (.cells #[.int .i64 k, .int .i64 i, .string ⟨#[]⟩] 24)) V 29 #[.int .i64 k, .int .i64 i, .int .i64 (highest k), .string ⟨#[]⟩, .string ⟨#[]⟩, .bool false, .slice (some ⟨wz.heap.size, 0, none⟩) 1 1] := by have h := Blk.put hV5 6 (.slice (some ⟨wz.heap.size, 0, none⟩) 1 1); simp at h; exact h.alloc _
 have hBa : Below w.heap.size w ((wz.setCell ⟨V, 6, none⟩ (.slice (some ⟨wz.heap.size, 0, none⟩) 1 1)).alloc (.cells #[.int .i64 k, .int .i64 i, .string ⟨#[]⟩] 24)) := (below_set hB5 (by omega)).alloc (by rw [hsc]; omega) _
 have hOa : OwnW ((wz.setCell ⟨V, 6, none⟩ (.slice (some ⟨wz.heap.size, 0, none⟩) 1 1)).alloc (.cells #[.int .i64 k, .int .i64 i, .string ⟨#[]⟩] 24)) (w.heap.size + 2) (.slice (some ⟨wz.heap.size, 0, none⟩) 1 1) [(⟨k, i, []⟩ : Val)] := by
  have h := own_lit (wz.setCell ⟨V, 6, none⟩ (.slice (some ⟨wz.heap.size, 0, none⟩) 1 1)) (w.heap.size + 2) (by rw [hsc]; omega) (⟨k, i, []⟩ : Val) rfl
  rw [hsc] at h
  exact h
 have hsa : w.heap.size + 2 <= ((wz.setCell ⟨V, 6, none⟩ (.slice (some ⟨wz.heap.size, 0, none⟩) 1 1)).alloc (.cells #[.int .i64 k, .int .i64 i, .string ⟨#[]⟩] 24)).heap.size := by simp; omega
 have hVla : V < ((wz.setCell ⟨V, 6, none⟩ (.slice (some ⟨wz.heap.size, 0, none⟩) 1 1)).alloc (.cells #[.int .i64 k, .int .i64 i, .string ⟨#[]⟩] 24)).heap.size := by simp; omega
 go_wp2_with fail
 clear p0 p1 p2 p3 p4 z0 z1 z2 z3 z4 z5 z6 m0 m1 m2 m3 m4 m5 m6 hl hlw hsc hP5 hY5 hV5 hB5
 generalize ((wz.setCell ⟨V, 6, none⟩ (.slice (some ⟨wz.heap.size, 0, none⟩) 1 1)).alloc (.cells #[.int .i64 k, .int .i64 i, .string ⟨#[]⟩] 24)) = wa at *
 generalize wz.heap.size = R at *
 refine (trimN_at k i (highest k) (some ⟨R, 0, none⟩) 1 1 wa (w.heap.size + 2) [(⟨k, i, []⟩ : Val)] HKK.out hl1 (Int.le_refl _) (by simp) rfl (by omega) hOa hsa).mono ?_
 rintro e wb ⟨⟨rK, rlo, rhi, rf, rt, ro, rno⟩, A7, n7, c7, rfl, hl7, hn7, ho7, hb7, hP7⟩
 dsimp only at hl7 ho7
 have HL7 := Lib.hid hl7
 have HP7 := Lib.hid hP7
 have hYb := Blk.below hYa hb7 (by omega)
 have hBb : Below w.heap.size w wb := hBa.trans (hb7.mono (by omega))
 have hsb := hb7.size
 have hc7 : n7 <= c7 := by
  obtain ⟨_, _, e, h, _⟩ := OwnK.rd ho7
  injection e with e1 e2 e3
  omega
 obtain ⟨u0, u1, u2, u3, u4, u5, u6, q0, q1, q2, q3, q4, q5, q6⟩ := blk7 hYb
 have hg7 : w.heap.size + 1 < wb.heap.size := hYb.lt
 clear hb7 hYb hl7 hP7
 go_wp2_with fail
 refine bodyPost_ret (v := spF rK rlo rhi rf rt ro A7 n7 c7) (by simp [results, Try.results19, go_sem, u0, u1, u2, u3, u4, u5, u6]) rfl ?_
 exact ⟨⟨rK, rlo, rhi, rf, rt, ro, rno⟩, HP7.out, by show rno.length <= _; have := HL7.out; omega, A7, n7, c7, rfl, HL7.out, hc7, (OwnK.put7 ho7 (by omega) _ _ _ _ _ _ _).less (by omega), below_put7 hBb (by omega) _ _ _ _ _ _ _⟩
set_option maxRecDepth 100000 in
set_option maxHeartbeats 4000000 in
theorem of_N6 (n : List UInt8) (k i : Int) (hk : k = 1 ∨ k = 3) (hl1 : lowest k <= i) (_hl2 : i <= highest k) (w : World) (hn : n.length <= 9223372036854775807) (hr : Preds.right n 6 k i [] = true) :
  Calls Try.prog 19 #[.agg #[.string ⟨n.toArray⟩, .int .i64 6, .int .i64 k, .int .i64 i, .string ⟨#[]⟩]] w (fun e w' => ∃ r, IsInts k i (highest k) ([] : List Val) r /\ r.no.length <= 1 /\ Gives w r e w') := by
 have HRR := Lib.hid hr
 clear hr
 have HKK := Lib.hid hk
 have hk2 : k ≠ 2 := by omega
 clear hk
 have hB0 : Below w.heap.size w ((w.alloc (.cells #[.string ⟨n.toArray⟩, .int .i64 6, .int .i64 k, .int .i64 i, .string ⟨#[]⟩] 38)).alloc (.cells #[.int .i64 0, .int .i64 0, .int .i64 0, .string ⟨#[]⟩, .string ⟨#[]⟩, .bool false, .slice none 0 0] 29)) := (gr2 w (.cells #[.string ⟨n.toArray⟩, .int .i64 6, .int .i64 k, .int .i64 i, .string ⟨#[]⟩] 38) (.cells #[.int .i64 0, .int .i64 0, .int .i64 0, .string ⟨#[]⟩, .string ⟨#[]⟩, .bool false, .slice none 0 0] 29)).below
 have hP0 := (Blk.new w 38 #[.string ⟨n.toArray⟩, .int .i64 6, .int .i64 k, .int .i64 i, .string ⟨#[]⟩]).alloc (.cells #[.int .i64 0, .int .i64 0, .int .i64 0, .string ⟨#[]⟩, .string ⟨#[]⟩, .bool false, .slice none 0 0] 29)
 have hY0 := Blk.new (w.alloc (.cells #[.string ⟨n.toArray⟩, .int .i64 6, .int .i64 k, .int .i64 i, .string ⟨#[]⟩] 38)) 29 #[.int .i64 0, .int .i64 0, .int .i64 0, .string ⟨#[]⟩, .string ⟨#[]⟩, .bool false, .slice none 0 0]
 rw [show (w.alloc (.cells #[.string ⟨n.toArray⟩, .int .i64 6, .int .i64 k, .int .i64 i, .string ⟨#[]⟩] 38)).heap.size = w.heap.size + 1 by simp] at hY0
 have hs0 : w.heap.size + 2 <= ((w.alloc (.cells #[.string ⟨n.toArray⟩, .int .i64 6, .int .i64 k, .int .i64 i, .string ⟨#[]⟩] 38)).alloc (.cells #[.int .i64 0, .int .i64 0, .int .i64 0, .string ⟨#[]⟩, .string ⟨#[]⟩, .bool false, .slice none 0 0] 29)).heap.size := by simp
 go_enter Try.func19, Try.ntmps19
 go_wp2_with fail
 generalize ((w.alloc (.cells #[.string ⟨n.toArray⟩, .int .i64 6, .int .i64 k, .int .i64 i, .string ⟨#[]⟩] 38)).alloc (.cells #[.int .i64 0, .int .i64 0, .int .i64 0, .string ⟨#[]⟩, .string ⟨#[]⟩, .bool false, .slice none 0 0] 29)) = w0 at *
 refine (pright_is n 6 k i [] w0 hn (by simp) true HRR.out).mono ?_
 rintro e w1 ⟨rfl, hb1⟩
 have hP1 := Blk.below hP0 hb1 hP0.lt
 have hY1 := Blk.below hY0 hb1 hY0.lt
 have hB1 := below_next hB0 (Nat.le_refl _) hb1
 have hs1 : w.heap.size + 2 <= w1.heap.size := Nat.le_trans hs0 (hb1).size
 clear hP0 hY0 hB0
 obtain ⟨p0, p1, p2, p3, p4, _⟩ := blk5 hP1
 have hl := hP1.lt
 go_wp2_with fail
 clear p0 p1 p2 p3 p4 hl hb1
 refine (wholeN_at k w1 HKK.out).mono ?_
 rintro e w2 ⟨rfl, hb2⟩
 have hP2 := Blk.below hP1 hb2.below hP1.lt
 have hY2 := Blk.below hY1 hb2.below hY1.lt
 have hB2 := below_next hB1 (Nat.le_refl _) hb2.below
 have hs2 : w.heap.size + 2 <= w2.heap.size := Nat.le_trans hs1 (hb2.below).size
 clear hP1 hY1 hB1
 have hb3 : Below w2.heap.size w2 (w2.alloc (.cells #[.int .i64 k, .int .i64 (lowest k), .int .i64 (highest k), .string ⟨#[]⟩, .string ⟨#[]⟩, .bool false, .slice none 0 0] 29)) := (Below.refl _ _).alloc (Nat.le_refl _) _
 have hV3 : Blk (w2.alloc (.cells #[.int .i64 k, .int .i64 (lowest k), .int .i64 (highest k), .string ⟨#[]⟩, .string ⟨#[]⟩, .bool false, .slice none 0 0] 29)) w2.heap.size 29 #[.int .i64 k, .int .i64 (lowest k), .int .i64 (highest k), .string ⟨#[]⟩, .string ⟨#[]⟩, .bool false, .slice none 0 0] := Blk.new _ _ _
 have hP3 := Blk.below hP2 hb3 hP2.lt
 have hY3 := Blk.below hY2 hb3 hY2.lt
 have hB3 := below_next hB2 (Nat.le_refl _) hb3
 have hs3 := Nat.le_trans hs2 hb3.size
 have hVl : w.heap.size + 2 <= w2.heap.size := hs2
 have hl := hP2.lt
 obtain ⟨p0, p1, p2, p3, p4, _⟩ := blk5 hP2
 go_wp2_with fail
 clear p0 p1 p2 p3 p4 hl hP2 hY2 hB2 hs2 hb2 hb3
 generalize w2.alloc (.cells #[.int .i64 k, .int .i64 (lowest k), .int .i64 (highest k), .string ⟨#[]⟩, .string ⟨#[]⟩, .bool false, .slice none 0 0] 29) = w3 at *
 generalize w2.heap.size = V at *
 refine (begin_num k (lowest k) (highest k) [] [] false none 0 0 k i [] w3 hk2).mono ?_
 rintro e w4 ⟨rfl, hb4⟩
 have hP4 := Blk.below hP3 hb4.below hP3.lt
 have hY4 := Blk.below hY3 hb4.below hY3.lt
 have hB4 := below_next hB3 (Nat.le_refl _) hb4.below
 have hs4 : w.heap.size + 2 <= w4.heap.size := Nat.le_trans hs3 (hb4.below).size
 have hV4 := Blk.below hV3 hb4.below hV3.lt
 clear hP3 hY3 hB3 hV3
 obtain ⟨z0, z1, z2, z3, z4, z5, z6, m0, m1, m2, m3, m4, m5, m6⟩ := blk7 hV4
 obtain ⟨p0, p1, p2, p3, p4, _⟩ := blk5 hP4
 have hl := hV4.lt
 have hlp := hP4.lt
 have hne1 : ¬ w.heap.size = V := by omega
 have hne2 : ¬ V = w.heap.size := by omega
 have hP5 : Blk (((((((w4.setCell ⟨V, 0, none⟩ (.int .i64 k)).setCell ⟨V, 1, none⟩ (.int .i64 i)).setCell ⟨V, 2, none⟩ (.int .i64 (highest k))).setCell ⟨V, 3, none⟩ (.string ⟨#[]⟩)).setCell ⟨V, 4, none⟩ (.string ⟨#[]⟩)).setCell ⟨V, 5, none⟩ (.bool false)).setCell ⟨V, 6, none⟩ (.slice none 0 0)) w.heap.size 38 #[.string ⟨n.toArray⟩, .int .i64 6, .int .i64 k, .int .i64 i, .string ⟨#[]⟩] := Blk.far7 hP4 (by omega) _ _ _ _ _ _ _
 have hY5 : Blk (((((((w4.setCell ⟨V, 0, none⟩ (.int .i64 k)).setCell ⟨V, 1, none⟩ (.int .i64 i)).setCell ⟨V, 2, none⟩ (.int .i64 (highest k))).setCell ⟨V, 3, none⟩ (.string ⟨#[]⟩)).setCell ⟨V, 4, none⟩ (.string ⟨#[]⟩)).setCell ⟨V, 5, none⟩ (.bool false)).setCell ⟨V, 6, none⟩ (.slice none 0 0)) (w.heap.size + 1) 29 #[.int .i64 0, .int .i64 0, .int .i64 0, .string ⟨#[]⟩, .string ⟨#[]⟩, .bool false, .slice none 0 0] := Blk.far7 hY4 (by omega) _ _ _ _ _ _ _
 have hV5 : Blk (((((((w4.setCell ⟨V, 0, none⟩ (.int .i64 k)).setCell ⟨V, 1, none⟩ (.int .i64 i)).setCell ⟨V, 2, none⟩ (.int .i64 (highest k))).setCell ⟨V, 3, none⟩ (.string ⟨#[]⟩)).setCell ⟨V, 4, none⟩ (.string ⟨#[]⟩)).setCell ⟨V, 5, none⟩ (.bool false)).setCell ⟨V, 6, none⟩ (.slice none 0 0)) V 29 #[.int .i64 k, .int .i64 i, .int .i64 (highest k), .string ⟨#[]⟩, .string ⟨#[]⟩, .bool false, .slice none 0 0] := Blk.put7 hV4 _ _ _ _ _ _ _
 have hB5 : Below w.heap.size w (((((((w4.setCell ⟨V, 0, none⟩ (.int .i64 k)).setCell ⟨V, 1, none⟩ (.int .i64 i)).setCell ⟨V, 2, none⟩ (.int .i64 (highest k))).setCell ⟨V, 3, none⟩ (.string ⟨#[]⟩)).setCell ⟨V, 4, none⟩ (.string ⟨#[]⟩)).setCell ⟨V, 5, none⟩ (.bool false)).setCell ⟨V, 6, none⟩ (.slice none 0 0)) := below_put7 hB4 (by omega) _ _ _ _ _ _ _
 have hs5 : w.heap.size + 2 <= (((((((w4.setCell ⟨V, 0, none⟩ (.int .i64 k)).setCell ⟨V, 1, none⟩ (.int .i64 i)).setCell ⟨V, 2, none⟩ (.int .i64 (highest k))).setCell ⟨V, 3, none⟩ (.string ⟨#[]⟩)).setCell ⟨V, 4, none⟩ (.string ⟨#[]⟩)).setCell ⟨V, 5, none⟩ (.bool false)).setCell ⟨V, 6, none⟩ (.slice none 0 0)).heap.size := by rw [size_put7]; omega
 go_wp2_with fail
 clear z0 z1 z2 z3 z4 z5 z6 m0 m1 m2 m3 m4 m5 m6 p0 p1 p2 p3 p4 hl hlp hP4 hY4 hV4 hB4 hb4
 generalize (((((((w4.setCell ⟨V, 0, none⟩ (.int .i64 k)).setCell ⟨V, 1, none⟩ (.int .i64 i)).setCell ⟨V, 2, none⟩ (.int .i64 (highest k))).setCell ⟨V, 3, none⟩ (.string ⟨#[]⟩)).setCell ⟨V, 4, none⟩ (.string ⟨#[]⟩)).setCell ⟨V, 5, none⟩ (.bool false)).setCell ⟨V, 6, none⟩ (.slice none 0 0)) = w5 at *
 obtain ⟨p0, p1, p2, p3, p4, _⟩ := blk5 hP5
 have hl := hP5.lt
 refine (shutsOut_at 6 w5 false rfl).mono ?_
 rintro e wz ⟨rfl, rfl⟩
 obtain ⟨z0, z1, z2, z3, z4, z5, z6, m0, m1, m2, m3, m4, m5, m6⟩ := blk7 hV5
 have hlV := hV5.lt
 have hOa : OwnW wz (w.heap.size + 2) (.slice none 0 0) ([] : List Val) := OwnK.none_ _ _
 go_wp2_with fail
 clear p0 p1 p2 p3 p4 z0 z1 z2 z3 z4 z5 z6 m0 m1 m2 m3 m4 m5 m6 hl
 have hYa := hY5
 have hBa := hB5
 have hsa := hs5
 have hVla := hlV
 clear hP5 hY5 hB5
 generalize wz = wa at *
 refine (trimN_at k i (highest k) none 0 0 wa (w.heap.size + 2) ([] : List Val) HKK.out hl1 (Int.le_refl _) (by simp) rfl (by omega) hOa hsa).mono ?_
 rintro e wb ⟨⟨rK, rlo, rhi, rf, rt, ro, rno⟩, A7, n7, c7, rfl, hl7, hn7, ho7, hb7, hP7⟩
 dsimp only at hl7 ho7
 have HL7 := Lib.hid hl7
 have HP7 := Lib.hid hP7
 have hYb := Blk.below hYa hb7 (by omega)
 have hBb : Below w.heap.size w wb := hBa.trans (hb7.mono (by omega))
 have hsb := hb7.size
 have hc7 : n7 <= c7 := by
  obtain ⟨_, _, e, h, _⟩ := OwnK.rd ho7
  injection e with e1 e2 e3
  omega
 obtain ⟨u0, u1, u2, u3, u4, u5, u6, q0, q1, q2, q3, q4, q5, q6⟩ := blk7 hYb
 have hg7 : w.heap.size + 1 < wb.heap.size := hYb.lt
 clear hb7 hYb hl7 hP7
 go_wp2_with fail
 refine bodyPost_ret (v := spF rK rlo rhi rf rt ro A7 n7 c7) (by simp [results, Try.results19, go_sem, u0, u1, u2, u3, u4, u5, u6]) rfl ?_
 exact ⟨⟨rK, rlo, rhi, rf, rt, ro, rno⟩, HP7.out, by show rno.length <= _; have := HL7.out; omega, A7, n7, c7, rfl, HL7.out, hc7, (OwnK.put7 ho7 (by omega) _ _ _ _ _ _ _).less (by omega), below_put7 hBb (by omega) _ _ _ _ _ _ _⟩
end Go.Proofs.Ytoffnfooeojhnaa
namespace Go.Proofs.Ytoffnfooeojhnaa
open Go.RowKit Go.Sort Spans Op
set_option maxRecDepth 100000 in
set_option maxHeartbeats 4000000 in
theorem of_T1 (n : List UInt8) (t : List UInt8) (ht : t.length <= 32) (w : World) (hn : n.length <= 9223372036854775807) (hr : Preds.right n 1 2 0 t = true) :
  Calls Try.prog 19 #[.agg #[.string ⟨n.toArray⟩, .int .i64 1, .int .i64 2, .int .i64 0, .string ⟨t.toArray⟩]] w (fun e w' => ∃ r, IsTexts t (t ++ [0]) false ([] : List Val) r /\ r.no.length <= 1 /\ Gives w r e w') := by
 have HRR := Lib.hid hr
 clear hr
 have hB0 : Below w.heap.size w ((w.alloc (.cells #[.string ⟨n.toArray⟩, .int .i64 1, .int .i64 2, .int .i64 0, .string ⟨t.toArray⟩] 38)).alloc (.cells #[.int .i64 0, .int .i64 0, .int .i64 0, .string ⟨#[]⟩, .string ⟨#[]⟩, .bool false, .slice none 0 0] 29)) := (gr2 w (.cells #[.string ⟨n.toArray⟩, .int .i64 1, .int .i64 2, .int .i64 0, .string ⟨t.toArray⟩] 38) (.cells #[.int .i64 0, .int .i64 0, .int .i64 0, .string ⟨#[]⟩, .string ⟨#[]⟩, .bool false, .slice none 0 0] 29)).below
 have hP0 := (Blk.new w 38 #[.string ⟨n.toArray⟩, .int .i64 1, .int .i64 2, .int .i64 0, .string ⟨t.toArray⟩]).alloc (.cells #[.int .i64 0, .int .i64 0, .int .i64 0, .string ⟨#[]⟩, .string ⟨#[]⟩, .bool false, .slice none 0 0] 29)
 have hY0 := Blk.new (w.alloc (.cells #[.string ⟨n.toArray⟩, .int .i64 1, .int .i64 2, .int .i64 0, .string ⟨t.toArray⟩] 38)) 29 #[.int .i64 0, .int .i64 0, .int .i64 0, .string ⟨#[]⟩, .string ⟨#[]⟩, .bool false, .slice none 0 0]
 rw [show (w.alloc (.cells #[.string ⟨n.toArray⟩, .int .i64 1, .int .i64 2, .int .i64 0, .string ⟨t.toArray⟩] 38)).heap.size = w.heap.size + 1 by simp] at hY0
 have hs0 : w.heap.size + 2 <= ((w.alloc (.cells #[.string ⟨n.toArray⟩, .int .i64 1, .int .i64 2, .int .i64 0, .string ⟨t.toArray⟩] 38)).alloc (.cells #[.int .i64 0, .int .i64 0, .int .i64 0, .string ⟨#[]⟩, .string ⟨#[]⟩, .bool false, .slice none 0 0] 29)).heap.size := by simp
 go_enter Try.func19, Try.ntmps19
 go_wp2_with fail
 generalize ((w.alloc (.cells #[.string ⟨n.toArray⟩, .int .i64 1, .int .i64 2, .int .i64 0, .string ⟨t.toArray⟩] 38)).alloc (.cells #[.int .i64 0, .int .i64 0, .int .i64 0, .string ⟨#[]⟩, .string ⟨#[]⟩, .bool false, .slice none 0 0] 29)) = w0 at *
 refine (pright_is n 1 2 0 t w0 hn (by omega) true HRR.out).mono ?_
 rintro e w1 ⟨rfl, hb1⟩
 have hP1 := Blk.below hP0 hb1 hP0.lt
 have hY1 := Blk.below hY0 hb1 hY0.lt
 have hB1 := below_next hB0 (Nat.le_refl _) hb1
 have hs1 : w.heap.size + 2 <= w1.heap.size := Nat.le_trans hs0 (hb1).size
 clear hP0 hY0 hB0
 obtain ⟨p0, p1, p2, p3, p4, _⟩ := blk5 hP1
 have hl := hP1.lt
 go_wp2_with fail
 clear p0 p1 p2 p3 p4 hl hb1
 refine (wholeT_at w1).mono ?_
 rintro e w2 ⟨rfl, hb2⟩
 have hP2 := Blk.below hP1 hb2.below hP1.lt
 have hY2 := Blk.below hY1 hb2.below hY1.lt
 have hB2 := below_next hB1 (Nat.le_refl _) hb2.below
 have hs2 : w.heap.size + 2 <= w2.heap.size := Nat.le_trans hs1 (hb2.below).size
 clear hP1 hY1 hB1
 have hb3 : Below w2.heap.size w2 (w2.alloc (.cells #[.int .i64 2, .int .i64 0, .int .i64 0, .string ⟨#[]⟩, .string ⟨#[]⟩, .bool true, .slice none 0 0] 29)) := (Below.refl _ _).alloc (Nat.le_refl _) _
 have hV3 : Blk (w2.alloc (.cells #[.int .i64 2, .int .i64 0, .int .i64 0, .string ⟨#[]⟩, .string ⟨#[]⟩, .bool true, .slice none 0 0] 29)) w2.heap.size 29 #[.int .i64 2, .int .i64 0, .int .i64 0, .string ⟨#[]⟩, .string ⟨#[]⟩, .bool true, .slice none 0 0] := Blk.new _ _ _
 have hP3 := Blk.below hP2 hb3 hP2.lt
 have hY3 := Blk.below hY2 hb3 hY2.lt
 have hB3 := below_next hB2 (Nat.le_refl _) hb3
 have hs3 := Nat.le_trans hs2 hb3.size
 have hVl : w.heap.size + 2 <= w2.heap.size := hs2
 have hl := hP2.lt
 obtain ⟨p0, p1, p2, p3, p4, _⟩ := blk5 hP2
 go_wp2_with fail
 clear p0 p1 p2 p3 p4 hl hP2 hY2 hB2 hs2 hb2 hb3
 generalize w2.alloc (.cells #[.int .i64 2, .int .i64 0, .int .i64 0, .string ⟨#[]⟩, .string ⟨#[]⟩, .bool true, .slice none 0 0] 29) = w3 at *
 generalize w2.heap.size = V at *
 have hS0 : Blk w3.drew w.heap.size 38 #[.string ⟨n.toArray⟩, .int .i64 1, .int .i64 2, .int .i64 0, .string ⟨t.toArray⟩] := hP3
 refine wp_region_held_drew (S := fun w' => Blk w' w.heap.size 38 #[.string ⟨n.toArray⟩, .int .i64 1, .int .i64 2, .int .i64 0, .string ⟨t.toArray⟩]) (by kernel_rfl) hS0 (fun _ => ?_)
 refine wpAnyH_yes (i := 1) (d := 21) (v := ?_) rfl rfl (by kernel_rfl) (by kernel_rfl) (by kernel_rfl) (fun _ _ _ h => h) (by rfl) ?_ hS0 ?_
 rotate_left
 ·intro w' hSw; obtain ⟨r0, r1, r2, r3, r4, _⟩ := blk5 hSw; go_simp <;> with_reducible rfl
 simp only [Act.put, List.setIfInBounds_toArray, List.set_cons_zero, List.set_cons_succ]
 refine wpAnyH_yes (i := 2) (d := 22) (v := ?_) rfl rfl (by kernel_rfl) (by kernel_rfl) (by kernel_rfl) (fun _ _ _ h => h) (by rfl) ?_ hS0 ?_
 rotate_left
 ·intro w' hSw; obtain ⟨r0, r1, r2, r3, r4, _⟩ := blk5 hSw; go_simp <;> with_reducible rfl
 simp only [Act.put, List.setIfInBounds_toArray, List.set_cons_zero, List.set_cons_succ]
 refine wpAnyH_yes (i := 4) (d := 24) (v := ?_) rfl rfl (by kernel_rfl) (by kernel_rfl) (by kernel_rfl) (fun _ _ _ h => h) (by rfl) ?_ hS0 ?_
 rotate_left
 ·intro w' hSw; obtain ⟨r0, r1, r2, r3, r4, _⟩ := blk5 hSw; go_simp <;> with_reducible rfl
 simp only [Act.put, List.setIfInBounds_toArray, List.set_cons_zero, List.set_cons_succ]
 refine wpAnyH_yes (i := 5) (d := 25) (v := ?_) rfl rfl (by kernel_rfl) (by kernel_rfl) (by kernel_rfl) (fun _ _ _ h => h) (by rfl) ?_ hS0 ?_
 rotate_left
 ·intro w' hSw; obtain ⟨r0, r1, r2, r3, r4, _⟩ := blk5 hSw; go_simp <;> with_reducible rfl
 simp only [Act.put, List.setIfInBounds_toArray, List.set_cons_zero, List.set_cons_succ]
 obtain ⟨z0, z1, z2, z3, z4, z5, z6, m0, m1, m2, m3, m4, m5, m6⟩ := blk7 hV3
 refine wpAnyH_one (i := 0) (by kernel_rfl) rfl (by rfl) (fun Ka hKa => ?_)
 go_simp
 refine hKa.out _ _ hS0 ?_
 clear hKa Ka z0 z1 z2 z3 z4 z5 z6 m0 m1 m2 m3 m4 m5 m6
 have hP3' : Blk w3.drew w.heap.size 38 #[.string ⟨n.toArray⟩, .int .i64 1, .int .i64 2, .int .i64 0, .string ⟨t.toArray⟩] := hP3
 have hY3' : Blk w3.drew (w.heap.size + 1) 29 #[.int .i64 0, .int .i64 0, .int .i64 0, .string ⟨#[]⟩, .string ⟨#[]⟩, .bool false, .slice none 0 0] := hY3
 have hV3' : Blk w3.drew V 29 #[.int .i64 2, .int .i64 0, .int .i64 0, .string ⟨#[]⟩, .string ⟨#[]⟩, .bool true, .slice none 0 0] := hV3
 have hB3' : Below w.heap.size w w3.drew := hB3.drew
 have hs3' : w.heap.size + 2 <= w3.drew.heap.size := hs3
 clear hP3 hY3 hV3 hB3 hs3 hS0
 generalize w3.drew = w4 at *
 refine wpAnyH_one (i := 3) (by kernel_rfl) rfl (by rfl) (fun Ka hKa => ?_)
 go_simp
 with_reducible refine (begin_text 0 0 [] [] true none 0 0 2 0 t _).mono ?_
 rintro e w6 ⟨rfl, hb6⟩
 have hP6 := Blk.below hP3' hb6.below hP3'.lt
 have hY6 := Blk.below hY3' hb6.below hY3'.lt
 have hB6 := below_next hB3' (Nat.le_refl _) hb6.below
 have hs6 : w.heap.size + 2 <= w6.heap.size := Nat.le_trans hs3' (hb6.below).size
 have hV6 := Blk.below hV3' hb6.below hV3'.lt
 clear hP3' hY3' hB3' hV3'
 go_wp2_with fail
 refine hKa.out _ _ hP6 ?_
 clear hKa Ka hb6
 refine wpAnyH_one (i := 6) (by kernel_rfl) rfl (by rfl) (fun Ka hKa => ?_)
 go_simp
 with_reducible refine (end_text 0 0 t [] true none 0 0 2 0 t _ (by omega)).mono ?_
 rintro e w7 ⟨rfl, hb7⟩
 have hP7 := Blk.below hP6 hb7.below hP6.lt
 have hY7 := Blk.below hY6 hb7.below hY6.lt
 have hB7 := below_next hB6 (Nat.le_refl _) hb7.below
 have hs7 : w.heap.size + 2 <= w7.heap.size := Nat.le_trans hs6 (hb7.below).size
 have hV7 := Blk.below hV6 hb7.below hV6.lt
 clear hP6 hY6 hB6 hV6
 go_wp2_with fail
 refine hKa.out _ _ hP7 ?_
 clear hKa Ka hb7
 refine wpAnyH_one (i := 7) (by kernel_rfl) rfl (by rfl) (fun Ka hKa => ?_)
 obtain ⟨z0, z1, z2, z3, z4, z5, z6, m0, m1, m2, m3, m4, m5, m6⟩ := blk7 hV7
 have hl := hV7.lt
 go_simp
 have hP8 : Blk (((((((w7.setCell ⟨V, 0, none⟩ (.int .i64 2)).setCell ⟨V, 1, none⟩ (.int .i64 0)).setCell ⟨V, 2, none⟩ (.int .i64 0)).setCell ⟨V, 3, none⟩ (.string ⟨t.toArray⟩)).setCell ⟨V, 4, none⟩ (.string ⟨(t ++ [0]).toArray⟩)).setCell ⟨V, 5, none⟩ (.bool false)).setCell ⟨V, 6, none⟩ (.slice none 0 0)) w.heap.size 38 #[.string ⟨n.toArray⟩, .int .i64 1, .int .i64 2, .int .i64 0, .string ⟨t.toArray⟩] := Blk.far7 hP7 (by omega) _ _ _ _ _ _ _
 have hY8 : Blk (((((((w7.setCell ⟨V, 0, none⟩ (.int .i64 2)).setCell ⟨V, 1, none⟩ (.int .i64 0)).setCell ⟨V, 2, none⟩ (.int .i64 0)).setCell ⟨V, 3, none⟩ (.string ⟨t.toArray⟩)).setCell ⟨V, 4, none⟩ (.string ⟨(t ++ [0]).toArray⟩)).setCell ⟨V, 5, none⟩ (.bool false)).setCell ⟨V, 6, none⟩ (.slice none 0 0)) (w.heap.size + 1) 29 #[.int .i64 0, .int .i64 0, .int .i64 0, .string ⟨#[]⟩, .string ⟨#[]⟩, .bool false, .slice none 0 0] := Blk.far7 hY7 (by omega) _ _ _ _ _ _ _
 have hV8 : Blk (((((((w7.setCell ⟨V, 0, none⟩ (.int .i64 2)).setCell ⟨V, 1, none⟩ (.int .i64 0)).setCell ⟨V, 2, none⟩ (.int .i64 0)).setCell ⟨V, 3, none⟩ (.string ⟨t.toArray⟩)).setCell ⟨V, 4, none⟩ (.string ⟨(t ++ [0]).toArray⟩)).setCell ⟨V, 5, none⟩ (.bool false)).setCell ⟨V, 6, none⟩ (.slice none 0 0)) V 29 #[.int .i64 2, .int .i64 0, .int .i64 0, .string ⟨t.toArray⟩, .string ⟨(t ++ [0]).toArray⟩, .bool false, .slice none 0 0] := Blk.put7 hV7 _ _ _ _ _ _ _
 have hB8 : Below w.heap.size w (((((((w7.setCell ⟨V, 0, none⟩ (.int .i64 2)).setCell ⟨V, 1, none⟩ (.int .i64 0)).setCell ⟨V, 2, none⟩ (.int .i64 0)).setCell ⟨V, 3, none⟩ (.string ⟨t.toArray⟩)).setCell ⟨V, 4, none⟩ (.string ⟨(t ++ [0]).toArray⟩)).setCell ⟨V, 5, none⟩ (.bool false)).setCell ⟨V, 6, none⟩ (.slice none 0 0)) := below_put7 hB7 (by omega) _ _ _ _ _ _ _
 have hs8 : w.heap.size + 2 <= (((((((w7.setCell ⟨V, 0, none⟩ (.int .i64 2)).setCell ⟨V, 1, none⟩ (.int .i64 0)).setCell ⟨V, 2, none⟩ (.int .i64 0)).setCell ⟨V, 3, none⟩ (.string ⟨t.toArray⟩)).setCell ⟨V, 4, none⟩ (.string ⟨(t ++ [0]).toArray⟩)).setCell ⟨V, 5, none⟩ (.bool false)).setCell ⟨V, 6, none⟩ (.slice none 0 0)).heap.size := by rw [size_put7]; omega
 refine hKa.out _ _ hP8 ?_
 clear hKa Ka z0 z1 z2 z3 z4 z5 z6 m0 m1 m2 m3 m4 m5 m6 hl hP7 hY7 hV7 hB7
 refine wpAnyH_done (by kernel_rfl) ?_ _
 generalize (((((((w7.setCell ⟨V, 0, none⟩ (.int .i64 2)).setCell ⟨V, 1, none⟩ (.int .i64 0)).setCell ⟨V, 2, none⟩ (.int .i64 0)).setCell ⟨V, 3, none⟩ (.string ⟨t.toArray⟩)).setCell ⟨V, 4, none⟩ (.string ⟨(t ++ [0]).toArray⟩)).setCell ⟨V, 5, none⟩ (.bool false)).setCell ⟨V, 6, none⟩ (.slice none 0 0)) = w8 at *
 obtain ⟨p0, p1, p2, p3, p4, _⟩ := blk5 hP8
 have hl := hP8.lt
 go_wp2_with fail
 refine (shutsOut_at 1 w8 false rfl).mono ?_
 rintro e wz ⟨rfl, rfl⟩
 obtain ⟨z0, z1, z2, z3, z4, z5, z6, m0, m1, m2, m3, m4, m5, m6⟩ := blk7 hV8
 have hlV := hV8.lt
 have hOa : OwnW wz (w.heap.size + 2) (.slice none 0 0) ([] : List Val) := OwnK.none_ _ _
 go_wp2_with fail
 clear p0 p1 p2 p3 p4 z0 z1 z2 z3 z4 z5 z6 m0 m1 m2 m3 m4 m5 m6 hl
 have hYa := hY8
 have hBa := hB8
 have hsa := hs8
 have hVla := hlV
 clear hP8 hY8 hB8
 generalize wz = wa at *
 refine (trim2 t (t ++ [0]) false none 0 0 wa (w.heap.size + 2) ([] : List Val) (.inl ht) (fun h => by simp at h) (fun _ => .inr ⟨t, rfl, ht⟩) (by simp) rfl (by omega) hOa hsa).mono ?_
 rintro e wb ⟨⟨rK, rlo, rhi, rf, rt, ro, rno⟩, A7, n7, c7, rfl, hl7, hn7, ho7, hb7, hP7⟩
 dsimp only at hl7 ho7
 have HL7 := Lib.hid hl7
 have HP7 := Lib.hid hP7
 have hYb := Blk.below hYa hb7 (by omega)
 have hBb : Below w.heap.size w wb := hBa.trans (hb7.mono (by omega))
 have hsb := hb7.size
 have hc7 : n7 <= c7 := by
  obtain ⟨_, _, e, h, _⟩ := OwnK.rd ho7
  injection e with e1 e2 e3
  omega
 obtain ⟨u0, u1, u2, u3, u4, u5, u6, q0, q1, q2, q3, q4, q5, q6⟩ := blk7 hYb
 have hg7 : w.heap.size + 1 < wb.heap.size := hYb.lt
 clear hb7 hYb hl7 hP7
 go_wp2_with fail
 refine bodyPost_ret (v := spF rK rlo rhi rf rt ro A7 n7 c7) (by simp [results, Try.results19, go_sem, u0, u1, u2, u3, u4, u5, u6]) rfl ?_
 exact ⟨⟨rK, rlo, rhi, rf, rt, ro, rno⟩, HP7.out, by show rno.length <= _; have := HL7.out; omega, A7, n7, c7, rfl, HL7.out, hc7, (OwnK.put7 ho7 (by omega) _ _ _ _ _ _ _).less (by omega), below_put7 hBb (by omega) _ _ _ _ _ _ _⟩
set_option maxRecDepth 100000 in
set_option maxHeartbeats 4000000 in
theorem of_T2 (n : List UInt8) (t : List UInt8) (ht : t.length <= 32) (w : World) (hn : n.length <= 9223372036854775807) (hr : Preds.right n 2 2 0 t = true) :
  Calls Try.prog 19 #[.agg #[.string ⟨n.toArray⟩, .int .i64 2, .int .i64 2, .int .i64 0, .string ⟨t.toArray⟩]] w (fun e w' => ∃ r, IsTexts [] [] true [(⟨2, 0, t⟩ : Val)] r /\ r.no.length <= 1 /\ Gives w r e w') := by
 have HRR := Lib.hid hr
 clear hr
 have hB0 : Below w.heap.size w ((w.alloc (.cells #[.string ⟨n.toArray⟩, .int .i64 2, .int .i64 2, .int .i64 0, .string ⟨t.toArray⟩] 38)).alloc (.cells #[.int .i64 0, .int .i64 0, .int .i64 0, .string ⟨#[]⟩, .string ⟨#[]⟩, .bool false, .slice none 0 0] 29)) := (gr2 w (.cells #[.string ⟨n.toArray⟩, .int .i64 2, .int .i64 2, .int .i64 0, .string ⟨t.toArray⟩] 38) (.cells #[.int .i64 0, .int .i64 0, .int .i64 0, .string ⟨#[]⟩, .string ⟨#[]⟩, .bool false, .slice none 0 0] 29)).below
 have hP0 := (Blk.new w 38 #[.string ⟨n.toArray⟩, .int .i64 2, .int .i64 2, .int .i64 0, .string ⟨t.toArray⟩]).alloc (.cells #[.int .i64 0, .int .i64 0, .int .i64 0, .string ⟨#[]⟩, .string ⟨#[]⟩, .bool false, .slice none 0 0] 29)
 have hY0 := Blk.new (w.alloc (.cells #[.string ⟨n.toArray⟩, .int .i64 2, .int .i64 2, .int .i64 0, .string ⟨t.toArray⟩] 38)) 29 #[.int .i64 0, .int .i64 0, .int .i64 0, .string ⟨#[]⟩, .string ⟨#[]⟩, .bool false, .slice none 0 0]
 rw [show (w.alloc (.cells #[.string ⟨n.toArray⟩, .int .i64 2, .int .i64 2, .int .i64 0, .string ⟨t.toArray⟩] 38)).heap.size = w.heap.size + 1 by simp] at hY0
 have hs0 : w.heap.size + 2 <= ((w.alloc (.cells #[.string ⟨n.toArray⟩, .int .i64 2, .int .i64 2, .int .i64 0, .string ⟨t.toArray⟩] 38)).alloc (.cells #[.int .i64 0, .int .i64 0, .int .i64 0, .string ⟨#[]⟩, .string ⟨#[]⟩, .bool false, .slice none 0 0] 29)).heap.size := by simp
 go_enter Try.func19, Try.ntmps19
 go_wp2_with fail
 generalize ((w.alloc (.cells #[.string ⟨n.toArray⟩, .int .i64 2, .int .i64 2, .int .i64 0, .string ⟨t.toArray⟩] 38)).alloc (.cells #[.int .i64 0, .int .i64 0, .int .i64 0, .string ⟨#[]⟩, .string ⟨#[]⟩, .bool false, .slice none 0 0] 29)) = w0 at *
 refine (pright_is n 2 2 0 t w0 hn (by omega) true HRR.out).mono ?_
 rintro e w1 ⟨rfl, hb1⟩
 have hP1 := Blk.below hP0 hb1 hP0.lt
 have hY1 := Blk.below hY0 hb1 hY0.lt
 have hB1 := below_next hB0 (Nat.le_refl _) hb1
 have hs1 : w.heap.size + 2 <= w1.heap.size := Nat.le_trans hs0 (hb1).size
 clear hP0 hY0 hB0
 obtain ⟨p0, p1, p2, p3, p4, _⟩ := blk5 hP1
 have hl := hP1.lt
 go_wp2_with fail
 clear p0 p1 p2 p3 p4 hl hb1
 refine (wholeT_at w1).mono ?_
 rintro e w2 ⟨rfl, hb2⟩
 have hP2 := Blk.below hP1 hb2.below hP1.lt
 have hY2 := Blk.below hY1 hb2.below hY1.lt
 have hB2 := below_next hB1 (Nat.le_refl _) hb2.below
 have hs2 : w.heap.size + 2 <= w2.heap.size := Nat.le_trans hs1 (hb2.below).size
 clear hP1 hY1 hB1
 have hb3 : Below w2.heap.size w2 (w2.alloc (.cells #[.int .i64 2, .int .i64 0, .int .i64 0, .string ⟨#[]⟩, .string ⟨#[]⟩, .bool true, .slice none 0 0] 29)) := (Below.refl _ _).alloc (Nat.le_refl _) _
 have hV3 : Blk (w2.alloc (.cells #[.int .i64 2, .int .i64 0, .int .i64 0, .string ⟨#[]⟩, .string ⟨#[]⟩, .bool true, .slice none 0 0] 29)) w2.heap.size 29 #[.int .i64 2, .int .i64 0, .int .i64 0, .string ⟨#[]⟩, .string ⟨#[]⟩, .bool true, .slice none 0 0] := Blk.new _ _ _
 have hP3 := Blk.below hP2 hb3 hP2.lt
 have hY3 := Blk.below hY2 hb3 hY2.lt
 have hB3 := below_next hB2 (Nat.le_refl _) hb3
 have hs3 := Nat.le_trans hs2 hb3.size
 have hVl : w.heap.size + 2 <= w2.heap.size := hs2
 have hl := hP2.lt
 obtain ⟨p0, p1, p2, p3, p4, _⟩ := blk5 hP2
 go_wp2_with fail
 clear p0 p1 p2 p3 p4 hl hP2 hY2 hB2 hs2 hb2 hb3
 generalize w2.alloc (.cells #[.int .i64 2, .int .i64 0, .int .i64 0, .string ⟨#[]⟩, .string ⟨#[]⟩, .bool true, .slice none 0 0] 29) = w3 at *
 generalize w2.heap.size = V at *
 obtain ⟨p0, p1, p2, p3, p4, _⟩ := blk5 hP3
 have hl := hP3.lt
 go_wp2_with fail
 refine (shutsOut_at 2 w3 true rfl).mono ?_
 rintro e wz ⟨rfl, rfl⟩
 obtain ⟨z0, z1, z2, z3, z4, z5, z6, m0, m1, m2, m3, m4, m5, m6⟩ := blk7 hV3
 have hlV := hV3.lt
 have hlw : w.heap.size < wz.heap.size := hl
 have hsc : (wz.setCell ⟨V, 6, none⟩ (.slice (some ⟨wz.heap.size, 0, none⟩) 1 1)).heap.size = wz.heap.size := by simp
 have hYa : Blk ((wz.setCell ⟨V, 6, none⟩ (.slice (some ⟨wz.heap.size, 0, none⟩) 1 1)).alloc (.cells #[.int .i64 2, .int .i64 0, .string ⟨t.toArray⟩] 24)) (w.heap.size + 1) 29 #[.int .i64 0, .int .i64 0, .int .i64 0, .string ⟨#[]⟩, .string ⟨#[]⟩, .bool false, .slice none 0 0] := (Blk.far hY3 (p := ⟨V, 6, none⟩) (by show w.heap.size + 1 ≠ V; omega) _).alloc _
 have hVa : Blk ((wz.setCell ⟨V, 6, none⟩ (.slice (some ⟨wz.heap.size, 0, none⟩) 1 1)).alloc (.cells #[.int .i64 2, .int .i64 0, .string ⟨t.toArray⟩] 24)) V 29 #[.int .i64 2, .int .i64 0, .int .i64 0, .string ⟨#[]⟩, .string ⟨#[]⟩, .bool true, .slice (some ⟨wz.heap.size, 0, none⟩) 1 1] := by have h := Blk.put hV3 6 (.slice (some ⟨wz.heap.size, 0, none⟩) 1 1); simp at h; exact h.alloc _
 have hBa : Below w.heap.size w ((wz.setCell ⟨V, 6, none⟩ (.slice (some ⟨wz.heap.size, 0, none⟩) 1 1)).alloc (.cells #[.int .i64 2, .int .i64 0, .string ⟨t.toArray⟩] 24)) := (below_set hB3 (by omega)).alloc (by rw [hsc]; omega) _
 have hOa : OwnW ((wz.setCell ⟨V, 6, none⟩ (.slice (some ⟨wz.heap.size, 0, none⟩) 1 1)).alloc (.cells #[.int .i64 2, .int .i64 0, .string ⟨t.toArray⟩] 24)) (w.heap.size + 2) (.slice (some ⟨wz.heap.size, 0, none⟩) 1 1) [(⟨2, 0, t⟩ : Val)] := by
  have h := own_lit (wz.setCell ⟨V, 6, none⟩ (.slice (some ⟨wz.heap.size, 0, none⟩) 1 1)) (w.heap.size + 2) (by rw [hsc]; omega) (⟨2, 0, t⟩ : Val) rfl
  rw [hsc] at h
  exact h
 have hsa : w.heap.size + 2 <= ((wz.setCell ⟨V, 6, none⟩ (.slice (some ⟨wz.heap.size, 0, none⟩) 1 1)).alloc (.cells #[.int .i64 2, .int .i64 0, .string ⟨t.toArray⟩] 24)).heap.size := by simp; omega
 have hVla : V < ((wz.setCell ⟨V, 6, none⟩ (.slice (some ⟨wz.heap.size, 0, none⟩) 1 1)).alloc (.cells #[.int .i64 2, .int .i64 0, .string ⟨t.toArray⟩] 24)).heap.size := by simp; omega
 go_wp2_with fail
 clear p0 p1 p2 p3 p4 z0 z1 z2 z3 z4 z5 z6 m0 m1 m2 m3 m4 m5 m6 hl hlw hsc hP3 hY3 hV3 hB3
 generalize ((wz.setCell ⟨V, 6, none⟩ (.slice (some ⟨wz.heap.size, 0, none⟩) 1 1)).alloc (.cells #[.int .i64 2, .int .i64 0, .string ⟨t.toArray⟩] 24)) = wa at *
 generalize wz.heap.size = R at *
 refine (trim2 [] [] true (some ⟨R, 0, none⟩) 1 1 wa (w.heap.size + 2) [(⟨2, 0, t⟩ : Val)] (.inl (by simp)) (fun _ => rfl) (fun h => by simp at h) (by simp [ht]) rfl (by omega) hOa hsa).mono ?_
 rintro e wb ⟨⟨rK, rlo, rhi, rf, rt, ro, rno⟩, A7, n7, c7, rfl, hl7, hn7, ho7, hb7, hP7⟩
 dsimp only at hl7 ho7
 have HL7 := Lib.hid hl7
 have HP7 := Lib.hid hP7
 have hYb := Blk.below hYa hb7 (by omega)
 have hBb : Below w.heap.size w wb := hBa.trans (hb7.mono (by omega))
 have hsb := hb7.size
 have hc7 : n7 <= c7 := by
  obtain ⟨_, _, e, h, _⟩ := OwnK.rd ho7
  injection e with e1 e2 e3
  omega
 obtain ⟨u0, u1, u2, u3, u4, u5, u6, q0, q1, q2, q3, q4, q5, q6⟩ := blk7 hYb
 have hg7 : w.heap.size + 1 < wb.heap.size := hYb.lt
 clear hb7 hYb hl7 hP7
 go_wp2_with fail
 refine bodyPost_ret (v := spF rK rlo rhi rf rt ro A7 n7 c7) (by simp [results, Try.results19, go_sem, u0, u1, u2, u3, u4, u5, u6]) rfl ?_
 exact ⟨⟨rK, rlo, rhi, rf, rt, ro, rno⟩, HP7.out, by show rno.length <= _; have := HL7.out; omega, A7, n7, c7, rfl, HL7.out, hc7, (OwnK.put7 ho7 (by omega) _ _ _ _ _ _ _).less (by omega), below_put7 hBb (by omega) _ _ _ _ _ _ _⟩
set_option maxRecDepth 100000 in
set_option maxHeartbeats 4000000 in
theorem of_T3 (n : List UInt8) (t : List UInt8) (ht : t.length <= 32) (w : World) (hn : n.length <= 9223372036854775807) (hr : Preds.right n 3 2 0 t = true) :
  Calls Try.prog 19 #[.agg #[.string ⟨n.toArray⟩, .int .i64 3, .int .i64 2, .int .i64 0, .string ⟨t.toArray⟩]] w (fun e w' => ∃ r, IsTexts [] (t ++ [0]) false [(⟨2, 0, t⟩ : Val)] r /\ r.no.length <= 1 /\ Gives w r e w') := by
 have HRR := Lib.hid hr
 clear hr
 have hB0 : Below w.heap.size w ((w.alloc (.cells #[.string ⟨n.toArray⟩, .int .i64 3, .int .i64 2, .int .i64 0, .string ⟨t.toArray⟩] 38)).alloc (.cells #[.int .i64 0, .int .i64 0, .int .i64 0, .string ⟨#[]⟩, .string ⟨#[]⟩, .bool false, .slice none 0 0] 29)) := (gr2 w (.cells #[.string ⟨n.toArray⟩, .int .i64 3, .int .i64 2, .int .i64 0, .string ⟨t.toArray⟩] 38) (.cells #[.int .i64 0, .int .i64 0, .int .i64 0, .string ⟨#[]⟩, .string ⟨#[]⟩, .bool false, .slice none 0 0] 29)).below
 have hP0 := (Blk.new w 38 #[.string ⟨n.toArray⟩, .int .i64 3, .int .i64 2, .int .i64 0, .string ⟨t.toArray⟩]).alloc (.cells #[.int .i64 0, .int .i64 0, .int .i64 0, .string ⟨#[]⟩, .string ⟨#[]⟩, .bool false, .slice none 0 0] 29)
 have hY0 := Blk.new (w.alloc (.cells #[.string ⟨n.toArray⟩, .int .i64 3, .int .i64 2, .int .i64 0, .string ⟨t.toArray⟩] 38)) 29 #[.int .i64 0, .int .i64 0, .int .i64 0, .string ⟨#[]⟩, .string ⟨#[]⟩, .bool false, .slice none 0 0]
 rw [show (w.alloc (.cells #[.string ⟨n.toArray⟩, .int .i64 3, .int .i64 2, .int .i64 0, .string ⟨t.toArray⟩] 38)).heap.size = w.heap.size + 1 by simp] at hY0
 have hs0 : w.heap.size + 2 <= ((w.alloc (.cells #[.string ⟨n.toArray⟩, .int .i64 3, .int .i64 2, .int .i64 0, .string ⟨t.toArray⟩] 38)).alloc (.cells #[.int .i64 0, .int .i64 0, .int .i64 0, .string ⟨#[]⟩, .string ⟨#[]⟩, .bool false, .slice none 0 0] 29)).heap.size := by simp
 go_enter Try.func19, Try.ntmps19
 go_wp2_with fail
 generalize ((w.alloc (.cells #[.string ⟨n.toArray⟩, .int .i64 3, .int .i64 2, .int .i64 0, .string ⟨t.toArray⟩] 38)).alloc (.cells #[.int .i64 0, .int .i64 0, .int .i64 0, .string ⟨#[]⟩, .string ⟨#[]⟩, .bool false, .slice none 0 0] 29)) = w0 at *
 refine (pright_is n 3 2 0 t w0 hn (by omega) true HRR.out).mono ?_
 rintro e w1 ⟨rfl, hb1⟩
 have hP1 := Blk.below hP0 hb1 hP0.lt
 have hY1 := Blk.below hY0 hb1 hY0.lt
 have hB1 := below_next hB0 (Nat.le_refl _) hb1
 have hs1 : w.heap.size + 2 <= w1.heap.size := Nat.le_trans hs0 (hb1).size
 clear hP0 hY0 hB0
 obtain ⟨p0, p1, p2, p3, p4, _⟩ := blk5 hP1
 have hl := hP1.lt
 go_wp2_with fail
 clear p0 p1 p2 p3 p4 hl hb1
 refine (wholeT_at w1).mono ?_
 rintro e w2 ⟨rfl, hb2⟩
 have hP2 := Blk.below hP1 hb2.below hP1.lt
 have hY2 := Blk.below hY1 hb2.below hY1.lt
 have hB2 := below_next hB1 (Nat.le_refl _) hb2.below
 have hs2 : w.heap.size + 2 <= w2.heap.size := Nat.le_trans hs1 (hb2.below).size
 clear hP1 hY1 hB1
 have hb3 : Below w2.heap.size w2 (w2.alloc (.cells #[.int .i64 2, .int .i64 0, .int .i64 0, .string ⟨#[]⟩, .string ⟨#[]⟩, .bool true, .slice none 0 0] 29)) := (Below.refl _ _).alloc (Nat.le_refl _) _
 have hV3 : Blk (w2.alloc (.cells #[.int .i64 2, .int .i64 0, .int .i64 0, .string ⟨#[]⟩, .string ⟨#[]⟩, .bool true, .slice none 0 0] 29)) w2.heap.size 29 #[.int .i64 2, .int .i64 0, .int .i64 0, .string ⟨#[]⟩, .string ⟨#[]⟩, .bool true, .slice none 0 0] := Blk.new _ _ _
 have hP3 := Blk.below hP2 hb3 hP2.lt
 have hY3 := Blk.below hY2 hb3 hY2.lt
 have hB3 := below_next hB2 (Nat.le_refl _) hb3
 have hs3 := Nat.le_trans hs2 hb3.size
 have hVl : w.heap.size + 2 <= w2.heap.size := hs2
 have hl := hP2.lt
 obtain ⟨p0, p1, p2, p3, p4, _⟩ := blk5 hP2
 go_wp2_with fail
 clear p0 p1 p2 p3 p4 hl hP2 hY2 hB2 hs2 hb2 hb3
 generalize w2.alloc (.cells #[.int .i64 2, .int .i64 0, .int .i64 0, .string ⟨#[]⟩, .string ⟨#[]⟩, .bool true, .slice none 0 0] 29) = w3 at *
 generalize w2.heap.size = V at *
 refine (end_text 0 0 [] [] true none 0 0 2 0 t w3 (by omega)).mono ?_
 rintro e w4 ⟨rfl, hb4⟩
 have hP4 := Blk.below hP3 hb4.below hP3.lt
 have hY4 := Blk.below hY3 hb4.below hY3.lt
 have hB4 := below_next hB3 (Nat.le_refl _) hb4.below
 have hs4 : w.heap.size + 2 <= w4.heap.size := Nat.le_trans hs3 (hb4.below).size
 have hV4 := Blk.below hV3 hb4.below hV3.lt
 clear hP3 hY3 hB3 hV3
 obtain ⟨z0, z1, z2, z3, z4, z5, z6, m0, m1, m2, m3, m4, m5, m6⟩ := blk7 hV4
 obtain ⟨p0, p1, p2, p3, p4, _⟩ := blk5 hP4
 have hl := hV4.lt
 have hlp := hP4.lt
 have hne1 : ¬ w.heap.size = V := by omega
 have hne2 : ¬ V = w.heap.size := by omega
 have hP5 : Blk (((((((w4.setCell ⟨V, 0, none⟩ (.int .i64 2)).setCell ⟨V, 1, none⟩ (.int .i64 0)).setCell ⟨V, 2, none⟩ (.int .i64 0)).setCell ⟨V, 3, none⟩ (.string ⟨#[]⟩)).setCell ⟨V, 4, none⟩ (.string ⟨(t ++ [0]).toArray⟩)).setCell ⟨V, 5, none⟩ (.bool false)).setCell ⟨V, 6, none⟩ (.slice none 0 0)) w.heap.size 38 #[.string ⟨n.toArray⟩, .int .i64 3, .int .i64 2, .int .i64 0, .string ⟨t.toArray⟩] := Blk.far7 hP4 (by omega) _ _ _ _ _ _ _
 have hY5 : Blk (((((((w4.setCell ⟨V, 0, none⟩ (.int .i64 2)).setCell ⟨V, 1, none⟩ (.int .i64 0)).setCell ⟨V, 2, none⟩ (.int .i64 0)).setCell ⟨V, 3, none⟩ (.string ⟨#[]⟩)).setCell ⟨V, 4, none⟩ (.string ⟨(t ++ [0]).toArray⟩)).setCell ⟨V, 5, none⟩ (.bool false)).setCell ⟨V, 6, none⟩ (.slice none 0 0)) (w.heap.size + 1) 29 #[.int .i64 0, .int .i64 0, .int .i64 0, .string ⟨#[]⟩, .string ⟨#[]⟩, .bool false, .slice none 0 0] := Blk.far7 hY4 (by omega) _ _ _ _ _ _ _
 have hV5 : Blk (((((((w4.setCell ⟨V, 0, none⟩ (.int .i64 2)).setCell ⟨V, 1, none⟩ (.int .i64 0)).setCell ⟨V, 2, none⟩ (.int .i64 0)).setCell ⟨V, 3, none⟩ (.string ⟨#[]⟩)).setCell ⟨V, 4, none⟩ (.string ⟨(t ++ [0]).toArray⟩)).setCell ⟨V, 5, none⟩ (.bool false)).setCell ⟨V, 6, none⟩ (.slice none 0 0)) V 29 #[.int .i64 2, .int .i64 0, .int .i64 0, .string ⟨#[]⟩, .string ⟨(t ++ [0]).toArray⟩, .bool false, .slice none 0 0] := Blk.put7 hV4 _ _ _ _ _ _ _
 have hB5 : Below w.heap.size w (((((((w4.setCell ⟨V, 0, none⟩ (.int .i64 2)).setCell ⟨V, 1, none⟩ (.int .i64 0)).setCell ⟨V, 2, none⟩ (.int .i64 0)).setCell ⟨V, 3, none⟩ (.string ⟨#[]⟩)).setCell ⟨V, 4, none⟩ (.string ⟨(t ++ [0]).toArray⟩)).setCell ⟨V, 5, none⟩ (.bool false)).setCell ⟨V, 6, none⟩ (.slice none 0 0)) := below_put7 hB4 (by omega) _ _ _ _ _ _ _
 have hs5 : w.heap.size + 2 <= (((((((w4.setCell ⟨V, 0, none⟩ (.int .i64 2)).setCell ⟨V, 1, none⟩ (.int .i64 0)).setCell ⟨V, 2, none⟩ (.int .i64 0)).setCell ⟨V, 3, none⟩ (.string ⟨#[]⟩)).setCell ⟨V, 4, none⟩ (.string ⟨(t ++ [0]).toArray⟩)).setCell ⟨V, 5, none⟩ (.bool false)).setCell ⟨V, 6, none⟩ (.slice none 0 0)).heap.size := by rw [size_put7]; omega
 go_wp2_with fail
 clear z0 z1 z2 z3 z4 z5 z6 m0 m1 m2 m3 m4 m5 m6 p0 p1 p2 p3 p4 hl hlp hP4 hY4 hV4 hB4 hb4
 generalize (((((((w4.setCell ⟨V, 0, none⟩ (.int .i64 2)).setCell ⟨V, 1, none⟩ (.int .i64 0)).setCell ⟨V, 2, none⟩ (.int .i64 0)).setCell ⟨V, 3, none⟩ (.string ⟨#[]⟩)).setCell ⟨V, 4, none⟩ (.string ⟨(t ++ [0]).toArray⟩)).setCell ⟨V, 5, none⟩ (.bool false)).setCell ⟨V, 6, none⟩ (.slice none 0 0)) = w5 at *
 obtain ⟨p0, p1, p2, p3, p4, _⟩ := blk5 hP5
 have hl := hP5.lt
 refine (shutsOut_at 3 w5 true rfl).mono ?_
 rintro e wz ⟨rfl, rfl⟩
 obtain ⟨z0, z1, z2, z3, z4, z5, z6, m0, m1, m2, m3, m4, m5, m6⟩ := blk7 hV5
 have hlV := hV5.lt
 have hlw : w.heap.size < wz.heap.size := hl
 have hsc : (wz.setCell ⟨V, 6, none⟩ (.slice (some ⟨wz.heap.size, 0, none⟩) 1 1)).heap.size = wz.heap.size := by simp
 have hYa : Blk ((wz.setCell ⟨V, 6, none⟩ (.slice (some ⟨wz.heap.size, 0, none⟩) 1 1)).alloc (.cells #[.int .i64 2, .int .i64 0, .string ⟨t.toArray⟩] 24)) (w.heap.size + 1) 29 #[.int .i64 0, .int .i64 0, .int .i64 0, .string ⟨#[]⟩, .string ⟨#[]⟩, .bool false, .slice none 0 0] := (Blk.far hY5 (p := ⟨V, 6, none⟩) (by show w.heap.size + 1 ≠ V; omega) _).alloc _
 have hVa : Blk ((wz.setCell ⟨V, 6, none⟩ (.slice (some ⟨wz.heap.size, 0, none⟩) 1 1)).alloc (.cells #[.int .i64 2, .int .i64 0, .string ⟨t.toArray⟩] 24)) V 29 #[.int .i64 2, .int .i64 0, .int .i64 0, .string ⟨#[]⟩, .string ⟨(t ++ [0]).toArray⟩, .bool false, .slice (some ⟨wz.heap.size, 0, none⟩) 1 1] := by have h := Blk.put hV5 6 (.slice (some ⟨wz.heap.size, 0, none⟩) 1 1); simp at h; exact h.alloc _
 have hBa : Below w.heap.size w ((wz.setCell ⟨V, 6, none⟩ (.slice (some ⟨wz.heap.size, 0, none⟩) 1 1)).alloc (.cells #[.int .i64 2, .int .i64 0, .string ⟨t.toArray⟩] 24)) := (below_set hB5 (by omega)).alloc (by rw [hsc]; omega) _
 have hOa : OwnW ((wz.setCell ⟨V, 6, none⟩ (.slice (some ⟨wz.heap.size, 0, none⟩) 1 1)).alloc (.cells #[.int .i64 2, .int .i64 0, .string ⟨t.toArray⟩] 24)) (w.heap.size + 2) (.slice (some ⟨wz.heap.size, 0, none⟩) 1 1) [(⟨2, 0, t⟩ : Val)] := by
  have h := own_lit (wz.setCell ⟨V, 6, none⟩ (.slice (some ⟨wz.heap.size, 0, none⟩) 1 1)) (w.heap.size + 2) (by rw [hsc]; omega) (⟨2, 0, t⟩ : Val) rfl
  rw [hsc] at h
  exact h
 have hsa : w.heap.size + 2 <= ((wz.setCell ⟨V, 6, none⟩ (.slice (some ⟨wz.heap.size, 0, none⟩) 1 1)).alloc (.cells #[.int .i64 2, .int .i64 0, .string ⟨t.toArray⟩] 24)).heap.size := by simp; omega
 have hVla : V < ((wz.setCell ⟨V, 6, none⟩ (.slice (some ⟨wz.heap.size, 0, none⟩) 1 1)).alloc (.cells #[.int .i64 2, .int .i64 0, .string ⟨t.toArray⟩] 24)).heap.size := by simp; omega
 go_wp2_with fail
 clear p0 p1 p2 p3 p4 z0 z1 z2 z3 z4 z5 z6 m0 m1 m2 m3 m4 m5 m6 hl hlw hsc hP5 hY5 hV5 hB5
 generalize ((wz.setCell ⟨V, 6, none⟩ (.slice (some ⟨wz.heap.size, 0, none⟩) 1 1)).alloc (.cells #[.int .i64 2, .int .i64 0, .string ⟨t.toArray⟩] 24)) = wa at *
 generalize wz.heap.size = R at *
 refine (trim2 [] (t ++ [0]) false (some ⟨R, 0, none⟩) 1 1 wa (w.heap.size + 2) [(⟨2, 0, t⟩ : Val)] (.inl (by simp)) (fun h => by simp at h) (fun _ => .inr ⟨t, rfl, ht⟩) (by simp [ht]) rfl (by omega) hOa hsa).mono ?_
 rintro e wb ⟨⟨rK, rlo, rhi, rf, rt, ro, rno⟩, A7, n7, c7, rfl, hl7, hn7, ho7, hb7, hP7⟩
 dsimp only at hl7 ho7
 have HL7 := Lib.hid hl7
 have HP7 := Lib.hid hP7
 have hYb := Blk.below hYa hb7 (by omega)
 have hBb : Below w.heap.size w wb := hBa.trans (hb7.mono (by omega))
 have hsb := hb7.size
 have hc7 : n7 <= c7 := by
  obtain ⟨_, _, e, h, _⟩ := OwnK.rd ho7
  injection e with e1 e2 e3
  omega
 obtain ⟨u0, u1, u2, u3, u4, u5, u6, q0, q1, q2, q3, q4, q5, q6⟩ := blk7 hYb
 have hg7 : w.heap.size + 1 < wb.heap.size := hYb.lt
 clear hb7 hYb hl7 hP7
 go_wp2_with fail
 refine bodyPost_ret (v := spF rK rlo rhi rf rt ro A7 n7 c7) (by simp [results, Try.results19, go_sem, u0, u1, u2, u3, u4, u5, u6]) rfl ?_
 exact ⟨⟨rK, rlo, rhi, rf, rt, ro, rno⟩, HP7.out, by show rno.length <= _; have := HL7.out; omega, A7, n7, c7, rfl, HL7.out, hc7, (OwnK.put7 ho7 (by omega) _ _ _ _ _ _ _).less (by omega), below_put7 hBb (by omega) _ _ _ _ _ _ _⟩
set_option maxRecDepth 100000 in
set_option maxHeartbeats 4000000 in
theorem of_T4 (n : List UInt8) (t : List UInt8) (ht : t.length <= 32) (w : World) (hn : n.length <= 9223372036854775807) (hr : Preds.right n 4 2 0 t = true) :
  Calls Try.prog 19 #[.agg #[.string ⟨n.toArray⟩, .int .i64 4, .int .i64 2, .int .i64 0, .string ⟨t.toArray⟩]] w (fun e w' => ∃ r, IsTexts [] (t ++ [0]) false ([] : List Val) r /\ r.no.length <= 1 /\ Gives w r e w') := by
 have HRR := Lib.hid hr
 clear hr
 have hB0 : Below w.heap.size w ((w.alloc (.cells #[.string ⟨n.toArray⟩, .int .i64 4, .int .i64 2, .int .i64 0, .string ⟨t.toArray⟩] 38)).alloc (.cells #[.int .i64 0, .int .i64 0, .int .i64 0, .string ⟨#[]⟩, .string ⟨#[]⟩, .bool false, .slice none 0 0] 29)) := (gr2 w (.cells #[.string ⟨n.toArray⟩, .int .i64 4, .int .i64 2, .int .i64 0, .string ⟨t.toArray⟩] 38) (.cells #[.int .i64 0, .int .i64 0, .int .i64 0, .string ⟨#[]⟩, .string ⟨#[]⟩, .bool false, .slice none 0 0] 29)).below
 have hP0 := (Blk.new w 38 #[.string ⟨n.toArray⟩, .int .i64 4, .int .i64 2, .int .i64 0, .string ⟨t.toArray⟩]).alloc (.cells #[.int .i64 0, .int .i64 0, .int .i64 0, .string ⟨#[]⟩, .string ⟨#[]⟩, .bool false, .slice none 0 0] 29)
 have hY0 := Blk.new (w.alloc (.cells #[.string ⟨n.toArray⟩, .int .i64 4, .int .i64 2, .int .i64 0, .string ⟨t.toArray⟩] 38)) 29 #[.int .i64 0, .int .i64 0, .int .i64 0, .string ⟨#[]⟩, .string ⟨#[]⟩, .bool false, .slice none 0 0]
 rw [show (w.alloc (.cells #[.string ⟨n.toArray⟩, .int .i64 4, .int .i64 2, .int .i64 0, .string ⟨t.toArray⟩] 38)).heap.size = w.heap.size + 1 by simp] at hY0
 have hs0 : w.heap.size + 2 <= ((w.alloc (.cells #[.string ⟨n.toArray⟩, .int .i64 4, .int .i64 2, .int .i64 0, .string ⟨t.toArray⟩] 38)).alloc (.cells #[.int .i64 0, .int .i64 0, .int .i64 0, .string ⟨#[]⟩, .string ⟨#[]⟩, .bool false, .slice none 0 0] 29)).heap.size := by simp
 go_enter Try.func19, Try.ntmps19
 go_wp2_with fail
 generalize ((w.alloc (.cells #[.string ⟨n.toArray⟩, .int .i64 4, .int .i64 2, .int .i64 0, .string ⟨t.toArray⟩] 38)).alloc (.cells #[.int .i64 0, .int .i64 0, .int .i64 0, .string ⟨#[]⟩, .string ⟨#[]⟩, .bool false, .slice none 0 0] 29)) = w0 at *
 refine (pright_is n 4 2 0 t w0 hn (by omega) true HRR.out).mono ?_
 rintro e w1 ⟨rfl, hb1⟩
 have hP1 := Blk.below hP0 hb1 hP0.lt
 have hY1 := Blk.below hY0 hb1 hY0.lt
 have hB1 := below_next hB0 (Nat.le_refl _) hb1
 have hs1 : w.heap.size + 2 <= w1.heap.size := Nat.le_trans hs0 (hb1).size
 clear hP0 hY0 hB0
 obtain ⟨p0, p1, p2, p3, p4, _⟩ := blk5 hP1
 have hl := hP1.lt
 go_wp2_with fail
 clear p0 p1 p2 p3 p4 hl hb1
 refine (wholeT_at w1).mono ?_
 rintro e w2 ⟨rfl, hb2⟩
 have hP2 := Blk.below hP1 hb2.below hP1.lt
 have hY2 := Blk.below hY1 hb2.below hY1.lt
 have hB2 := below_next hB1 (Nat.le_refl _) hb2.below
 have hs2 : w.heap.size + 2 <= w2.heap.size := Nat.le_trans hs1 (hb2.below).size
 clear hP1 hY1 hB1
 have hb3 : Below w2.heap.size w2 (w2.alloc (.cells #[.int .i64 2, .int .i64 0, .int .i64 0, .string ⟨#[]⟩, .string ⟨#[]⟩, .bool true, .slice none 0 0] 29)) := (Below.refl _ _).alloc (Nat.le_refl _) _
 have hV3 : Blk (w2.alloc (.cells #[.int .i64 2, .int .i64 0, .int .i64 0, .string ⟨#[]⟩, .string ⟨#[]⟩, .bool true, .slice none 0 0] 29)) w2.heap.size 29 #[.int .i64 2, .int .i64 0, .int .i64 0, .string ⟨#[]⟩, .string ⟨#[]⟩, .bool true, .slice none 0 0] := Blk.new _ _ _
 have hP3 := Blk.below hP2 hb3 hP2.lt
 have hY3 := Blk.below hY2 hb3 hY2.lt
 have hB3 := below_next hB2 (Nat.le_refl _) hb3
 have hs3 := Nat.le_trans hs2 hb3.size
 have hVl : w.heap.size + 2 <= w2.heap.size := hs2
 have hl := hP2.lt
 obtain ⟨p0, p1, p2, p3, p4, _⟩ := blk5 hP2
 go_wp2_with fail
 clear p0 p1 p2 p3 p4 hl hP2 hY2 hB2 hs2 hb2 hb3
 generalize w2.alloc (.cells #[.int .i64 2, .int .i64 0, .int .i64 0, .string ⟨#[]⟩, .string ⟨#[]⟩, .bool true, .slice none 0 0] 29) = w3 at *
 generalize w2.heap.size = V at *
 refine (end_text 0 0 [] [] true none 0 0 2 0 t w3 (by omega)).mono ?_
 rintro e w4 ⟨rfl, hb4⟩
 have hP4 := Blk.below hP3 hb4.below hP3.lt
 have hY4 := Blk.below hY3 hb4.below hY3.lt
 have hB4 := below_next hB3 (Nat.le_refl _) hb4.below
 have hs4 : w.heap.size + 2 <= w4.heap.size := Nat.le_trans hs3 (hb4.below).size
 have hV4 := Blk.below hV3 hb4.below hV3.lt
 clear hP3 hY3 hB3 hV3
 obtain ⟨z0, z1, z2, z3, z4, z5, z6, m0, m1, m2, m3, m4, m5, m6⟩ := blk7 hV4
 obtain ⟨p0, p1, p2, p3, p4, _⟩ := blk5 hP4
 have hl := hV4.lt
 have hlp := hP4.lt
 have hne1 : ¬ w.heap.size = V := by omega
 have hne2 : ¬ V = w.heap.size := by omega
 have hP5 : Blk (((((((w4.setCell ⟨V, 0, none⟩ (.int .i64 2)).setCell ⟨V, 1, none⟩ (.int .i64 0)).setCell ⟨V, 2, none⟩ (.int .i64 0)).setCell ⟨V, 3, none⟩ (.string ⟨#[]⟩)).setCell ⟨V, 4, none⟩ (.string ⟨(t ++ [0]).toArray⟩)).setCell ⟨V, 5, none⟩ (.bool false)).setCell ⟨V, 6, none⟩ (.slice none 0 0)) w.heap.size 38 #[.string ⟨n.toArray⟩, .int .i64 4, .int .i64 2, .int .i64 0, .string ⟨t.toArray⟩] := Blk.far7 hP4 (by omega) _ _ _ _ _ _ _
 have hY5 : Blk (((((((w4.setCell ⟨V, 0, none⟩ (.int .i64 2)).setCell ⟨V, 1, none⟩ (.int .i64 0)).setCell ⟨V, 2, none⟩ (.int .i64 0)).setCell ⟨V, 3, none⟩ (.string ⟨#[]⟩)).setCell ⟨V, 4, none⟩ (.string ⟨(t ++ [0]).toArray⟩)).setCell ⟨V, 5, none⟩ (.bool false)).setCell ⟨V, 6, none⟩ (.slice none 0 0)) (w.heap.size + 1) 29 #[.int .i64 0, .int .i64 0, .int .i64 0, .string ⟨#[]⟩, .string ⟨#[]⟩, .bool false, .slice none 0 0] := Blk.far7 hY4 (by omega) _ _ _ _ _ _ _
 have hV5 : Blk (((((((w4.setCell ⟨V, 0, none⟩ (.int .i64 2)).setCell ⟨V, 1, none⟩ (.int .i64 0)).setCell ⟨V, 2, none⟩ (.int .i64 0)).setCell ⟨V, 3, none⟩ (.string ⟨#[]⟩)).setCell ⟨V, 4, none⟩ (.string ⟨(t ++ [0]).toArray⟩)).setCell ⟨V, 5, none⟩ (.bool false)).setCell ⟨V, 6, none⟩ (.slice none 0 0)) V 29 #[.int .i64 2, .int .i64 0, .int .i64 0, .string ⟨#[]⟩, .string ⟨(t ++ [0]).toArray⟩, .bool false, .slice none 0 0] := Blk.put7 hV4 _ _ _ _ _ _ _
 have hB5 : Below w.heap.size w (((((((w4.setCell ⟨V, 0, none⟩ (.int .i64 2)).setCell ⟨V, 1, none⟩ (.int .i64 0)).setCell ⟨V, 2, none⟩ (.int .i64 0)).setCell ⟨V, 3, none⟩ (.string ⟨#[]⟩)).setCell ⟨V, 4, none⟩ (.string ⟨(t ++ [0]).toArray⟩)).setCell ⟨V, 5, none⟩ (.bool false)).setCell ⟨V, 6, none⟩ (.slice none 0 0)) := below_put7 hB4 (by omega) _ _ _ _ _ _ _
 have hs5 : w.heap.size + 2 <= (((((((w4.setCell ⟨V, 0, none⟩ (.int .i64 2)).setCell ⟨V, 1, none⟩ (.int .i64 0)).setCell ⟨V, 2, none⟩ (.int .i64 0)).setCell ⟨V, 3, none⟩ (.string ⟨#[]⟩)).setCell ⟨V, 4, none⟩ (.string ⟨(t ++ [0]).toArray⟩)).setCell ⟨V, 5, none⟩ (.bool false)).setCell ⟨V, 6, none⟩ (.slice none 0 0)).heap.size := by rw [size_put7]; omega
 go_wp2_with fail
 clear z0 z1 z2 z3 z4 z5 z6 m0 m1 m2 m3 m4 m5 m6 p0 p1 p2 p3 p4 hl hlp hP4 hY4 hV4 hB4 hb4
 generalize (((((((w4.setCell ⟨V, 0, none⟩ (.int .i64 2)).setCell ⟨V, 1, none⟩ (.int .i64 0)).setCell ⟨V, 2, none⟩ (.int .i64 0)).setCell ⟨V, 3, none⟩ (.string ⟨#[]⟩)).setCell ⟨V, 4, none⟩ (.string ⟨(t ++ [0]).toArray⟩)).setCell ⟨V, 5, none⟩ (.bool false)).setCell ⟨V, 6, none⟩ (.slice none 0 0)) = w5 at *
 obtain ⟨p0, p1, p2, p3, p4, _⟩ := blk5 hP5
 have hl := hP5.lt
 refine (shutsOut_at 4 w5 false rfl).mono ?_
 rintro e wz ⟨rfl, rfl⟩
 obtain ⟨z0, z1, z2, z3, z4, z5, z6, m0, m1, m2, m3, m4, m5, m6⟩ := blk7 hV5
 have hlV := hV5.lt
 have hOa : OwnW wz (w.heap.size + 2) (.slice none 0 0) ([] : List Val) := OwnK.none_ _ _
 go_wp2_with fail
 clear p0 p1 p2 p3 p4 z0 z1 z2 z3 z4 z5 z6 m0 m1 m2 m3 m4 m5 m6 hl
 have hYa := hY5
 have hBa := hB5
 have hsa := hs5
 have hVla := hlV
 clear hP5 hY5 hB5
 generalize wz = wa at *
 refine (trim2 [] (t ++ [0]) false none 0 0 wa (w.heap.size + 2) ([] : List Val) (.inl (by simp)) (fun h => by simp at h) (fun _ => .inr ⟨t, rfl, ht⟩) (by simp) rfl (by omega) hOa hsa).mono ?_
 rintro e wb ⟨⟨rK, rlo, rhi, rf, rt, ro, rno⟩, A7, n7, c7, rfl, hl7, hn7, ho7, hb7, hP7⟩
 dsimp only at hl7 ho7
 have HL7 := Lib.hid hl7
 have HP7 := Lib.hid hP7
 have hYb := Blk.below hYa hb7 (by omega)
 have hBb : Below w.heap.size w wb := hBa.trans (hb7.mono (by omega))
 have hsb := hb7.size
 have hc7 : n7 <= c7 := by
  obtain ⟨_, _, e, h, _⟩ := OwnK.rd ho7
  injection e with e1 e2 e3
  omega
 obtain ⟨u0, u1, u2, u3, u4, u5, u6, q0, q1, q2, q3, q4, q5, q6⟩ := blk7 hYb
 have hg7 : w.heap.size + 1 < wb.heap.size := hYb.lt
 clear hb7 hYb hl7 hP7
 go_wp2_with fail
 refine bodyPost_ret (v := spF rK rlo rhi rf rt ro A7 n7 c7) (by simp [results, Try.results19, go_sem, u0, u1, u2, u3, u4, u5, u6]) rfl ?_
 exact ⟨⟨rK, rlo, rhi, rf, rt, ro, rno⟩, HP7.out, by show rno.length <= _; have := HL7.out; omega, A7, n7, c7, rfl, HL7.out, hc7, (OwnK.put7 ho7 (by omega) _ _ _ _ _ _ _).less (by omega), below_put7 hBb (by omega) _ _ _ _ _ _ _⟩
set_option maxRecDepth 100000 in
set_option maxHeartbeats 4000000 in
theorem of_T5 (n : List UInt8) (t : List UInt8) (ht : t.length <= 32) (w : World) (hn : n.length <= 9223372036854775807) (hr : Preds.right n 5 2 0 t = true) :
  Calls Try.prog 19 #[.agg #[.string ⟨n.toArray⟩, .int .i64 5, .int .i64 2, .int .i64 0, .string ⟨t.toArray⟩]] w (fun e w' => ∃ r, IsTexts t [] true [(⟨2, 0, t⟩ : Val)] r /\ r.no.length <= 1 /\ Gives w r e w') := by
 have HRR := Lib.hid hr
 clear hr
 have hB0 : Below w.heap.size w ((w.alloc (.cells #[.string ⟨n.toArray⟩, .int .i64 5, .int .i64 2, .int .i64 0, .string ⟨t.toArray⟩] 38)).alloc (.cells #[.int .i64 0, .int .i64 0, .int .i64 0, .string ⟨#[]⟩, .string ⟨#[]⟩, .bool false, .slice none 0 0] 29)) := (gr2 w (.cells #[.string ⟨n.toArray⟩, .int .i64 5, .int .i64 2, .int .i64 0, .string ⟨t.toArray⟩] 38) (.cells #[.int .i64 0, .int .i64 0, .int .i64 0, .string ⟨#[]⟩, .string ⟨#[]⟩, .bool false, .slice none 0 0] 29)).below
 have hP0 := (Blk.new w 38 #[.string ⟨n.toArray⟩, .int .i64 5, .int .i64 2, .int .i64 0, .string ⟨t.toArray⟩]).alloc (.cells #[.int .i64 0, .int .i64 0, .int .i64 0, .string ⟨#[]⟩, .string ⟨#[]⟩, .bool false, .slice none 0 0] 29)
 have hY0 := Blk.new (w.alloc (.cells #[.string ⟨n.toArray⟩, .int .i64 5, .int .i64 2, .int .i64 0, .string ⟨t.toArray⟩] 38)) 29 #[.int .i64 0, .int .i64 0, .int .i64 0, .string ⟨#[]⟩, .string ⟨#[]⟩, .bool false, .slice none 0 0]
 rw [show (w.alloc (.cells #[.string ⟨n.toArray⟩, .int .i64 5, .int .i64 2, .int .i64 0, .string ⟨t.toArray⟩] 38)).heap.size = w.heap.size + 1 by simp] at hY0
 have hs0 : w.heap.size + 2 <= ((w.alloc (.cells #[.string ⟨n.toArray⟩, .int .i64 5, .int .i64 2, .int .i64 0, .string ⟨t.toArray⟩] 38)).alloc (.cells #[.int .i64 0, .int .i64 0, .int .i64 0, .string ⟨#[]⟩, .string ⟨#[]⟩, .bool false, .slice none 0 0] 29)).heap.size := by simp
 go_enter Try.func19, Try.ntmps19
 go_wp2_with fail
 generalize ((w.alloc (.cells #[.string ⟨n.toArray⟩, .int .i64 5, .int .i64 2, .int .i64 0, .string ⟨t.toArray⟩] 38)).alloc (.cells #[.int .i64 0, .int .i64 0, .int .i64 0, .string ⟨#[]⟩, .string ⟨#[]⟩, .bool false, .slice none 0 0] 29)) = w0 at *
 refine (pright_is n 5 2 0 t w0 hn (by omega) true HRR.out).mono ?_
 rintro e w1 ⟨rfl, hb1⟩
 have hP1 := Blk.below hP0 hb1 hP0.lt
 have hY1 := Blk.below hY0 hb1 hY0.lt
 have hB1 := below_next hB0 (Nat.le_refl _) hb1
 have hs1 : w.heap.size + 2 <= w1.heap.size := Nat.le_trans hs0 (hb1).size
 clear hP0 hY0 hB0
 obtain ⟨p0, p1, p2, p3, p4, _⟩ := blk5 hP1
 have hl := hP1.lt
 go_wp2_with fail
 clear p0 p1 p2 p3 p4 hl hb1
 refine (wholeT_at w1).mono ?_
 rintro e w2 ⟨rfl, hb2⟩
 have hP2 := Blk.below hP1 hb2.below hP1.lt
 have hY2 := Blk.below hY1 hb2.below hY1.lt
 have hB2 := below_next hB1 (Nat.le_refl _) hb2.below
 have hs2 : w.heap.size + 2 <= w2.heap.size := Nat.le_trans hs1 (hb2.below).size
 clear hP1 hY1 hB1
 have hb3 : Below w2.heap.size w2 (w2.alloc (.cells #[.int .i64 2, .int .i64 0, .int .i64 0, .string ⟨#[]⟩, .string ⟨#[]⟩, .bool true, .slice none 0 0] 29)) := (Below.refl _ _).alloc (Nat.le_refl _) _
 have hV3 : Blk (w2.alloc (.cells #[.int .i64 2, .int .i64 0, .int .i64 0, .string ⟨#[]⟩, .string ⟨#[]⟩, .bool true, .slice none 0 0] 29)) w2.heap.size 29 #[.int .i64 2, .int .i64 0, .int .i64 0, .string ⟨#[]⟩, .string ⟨#[]⟩, .bool true, .slice none 0 0] := Blk.new _ _ _
 have hP3 := Blk.below hP2 hb3 hP2.lt
 have hY3 := Blk.below hY2 hb3 hY2.lt
 have hB3 := below_next hB2 (Nat.le_refl _) hb3
 have hs3 := Nat.le_trans hs2 hb3.size
 have hVl : w.heap.size + 2 <= w2.heap.size := hs2
 have hl := hP2.lt
 obtain ⟨p0, p1, p2, p3, p4, _⟩ := blk5 hP2
 go_wp2_with fail
 clear p0 p1 p2 p3 p4 hl hP2 hY2 hB2 hs2 hb2 hb3
 generalize w2.alloc (.cells #[.int .i64 2, .int .i64 0, .int .i64 0, .string ⟨#[]⟩, .string ⟨#[]⟩, .bool true, .slice none 0 0] 29) = w3 at *
 generalize w2.heap.size = V at *
 refine (begin_text 0 0 [] [] true none 0 0 2 0 t w3).mono ?_
 rintro e w4 ⟨rfl, hb4⟩
 have hP4 := Blk.below hP3 hb4.below hP3.lt
 have hY4 := Blk.below hY3 hb4.below hY3.lt
 have hB4 := below_next hB3 (Nat.le_refl _) hb4.below
 have hs4 : w.heap.size + 2 <= w4.heap.size := Nat.le_trans hs3 (hb4.below).size
 have hV4 := Blk.below hV3 hb4.below hV3.lt
 clear hP3 hY3 hB3 hV3
 obtain ⟨z0, z1, z2, z3, z4, z5, z6, m0, m1, m2, m3, m4, m5, m6⟩ := blk7 hV4
 obtain ⟨p0, p1, p2, p3, p4, _⟩ := blk5 hP4
 have hl := hV4.lt
 have hlp := hP4.lt
 have hne1 : ¬ w.heap.size = V := by omega
 have hne2 : ¬ V = w.heap.size := by omega
 have hP5 : Blk (((((((w4.setCell ⟨V, 0, none⟩ (.int .i64 2)).setCell ⟨V, 1, none⟩ (.int .i64 0)).setCell ⟨V, 2, none⟩ (.int .i64 0)).setCell ⟨V, 3, none⟩ (.string ⟨t.toArray⟩)).setCell ⟨V, 4, none⟩ (.string ⟨#[]⟩)).setCell ⟨V, 5, none⟩ (.bool true)).setCell ⟨V, 6, none⟩ (.slice none 0 0)) w.heap.size 38 #[.string ⟨n.toArray⟩, .int .i64 5, .int .i64 2, .int .i64 0, .string ⟨t.toArray⟩] := Blk.far7 hP4 (by omega) _ _ _ _ _ _ _
 have hY5 : Blk (((((((w4.setCell ⟨V, 0, none⟩ (.int .i64 2)).setCell ⟨V, 1, none⟩ (.int .i64 0)).setCell ⟨V, 2, none⟩ (.int .i64 0)).setCell ⟨V, 3, none⟩ (.string ⟨t.toArray⟩)).setCell ⟨V, 4, none⟩ (.string ⟨#[]⟩)).setCell ⟨V, 5, none⟩ (.bool true)).setCell ⟨V, 6, none⟩ (.slice none 0 0)) (w.heap.size + 1) 29 #[.int .i64 0, .int .i64 0, .int .i64 0, .string ⟨#[]⟩, .string ⟨#[]⟩, .bool false, .slice none 0 0] := Blk.far7 hY4 (by omega) _ _ _ _ _ _ _
 have hV5 : Blk (((((((w4.setCell ⟨V, 0, none⟩ (.int .i64 2)).setCell ⟨V, 1, none⟩ (.int .i64 0)).setCell ⟨V, 2, none⟩ (.int .i64 0)).setCell ⟨V, 3, none⟩ (.string ⟨t.toArray⟩)).setCell ⟨V, 4, none⟩ (.string ⟨#[]⟩)).setCell ⟨V, 5, none⟩ (.bool true)).setCell ⟨V, 6, none⟩ (.slice none 0 0)) V 29 #[.int .i64 2, .int .i64 0, .int .i64 0, .string ⟨t.toArray⟩, .string ⟨#[]⟩, .bool true, .slice none 0 0] := Blk.put7 hV4 _ _ _ _ _ _ _
 have hB5 : Below w.heap.size w (((((((w4.setCell ⟨V, 0, none⟩ (.int .i64 2)).setCell ⟨V, 1, none⟩ (.int .i64 0)).setCell ⟨V, 2, none⟩ (.int .i64 0)).setCell ⟨V, 3, none⟩ (.string ⟨t.toArray⟩)).setCell ⟨V, 4, none⟩ (.string ⟨#[]⟩)).setCell ⟨V, 5, none⟩ (.bool true)).setCell ⟨V, 6, none⟩ (.slice none 0 0)) := below_put7 hB4 (by omega) _ _ _ _ _ _ _
 have hs5 : w.heap.size + 2 <= (((((((w4.setCell ⟨V, 0, none⟩ (.int .i64 2)).setCell ⟨V, 1, none⟩ (.int .i64 0)).setCell ⟨V, 2, none⟩ (.int .i64 0)).setCell ⟨V, 3, none⟩ (.string ⟨t.toArray⟩)).setCell ⟨V, 4, none⟩ (.string ⟨#[]⟩)).setCell ⟨V, 5, none⟩ (.bool true)).setCell ⟨V, 6, none⟩ (.slice none 0 0)).heap.size := by rw [size_put7]; omega
 go_wp2_with fail
 clear z0 z1 z2 z3 z4 z5 z6 m0 m1 m2 m3 m4 m5 m6 p0 p1 p2 p3 p4 hl hlp hP4 hY4 hV4 hB4 hb4
 generalize (((((((w4.setCell ⟨V, 0, none⟩ (.int .i64 2)).setCell ⟨V, 1, none⟩ (.int .i64 0)).setCell ⟨V, 2, none⟩ (.int .i64 0)).setCell ⟨V, 3, none⟩ (.string ⟨t.toArray⟩)).setCell ⟨V, 4, none⟩ (.string ⟨#[]⟩)).setCell ⟨V, 5, none⟩ (.bool true)).setCell ⟨V, 6, none⟩ (.slice none 0 0)) = w5 at *
 obtain ⟨p0, p1, p2, p3, p4, _⟩ := blk5 hP5
 have hl := hP5.lt
 refine (shutsOut_at 5 w5 true rfl).mono ?_
 rintro e wz ⟨rfl, rfl⟩
 obtain ⟨z0, z1, z2, z3, z4, z5, z6, m0, m1, m2, m3, m4, m5, m6⟩ := blk7 hV5
 have hlV := hV5.lt
 have hlw : w.heap.size < wz.heap.size := hl
 have hsc : (wz.setCell ⟨V, 6, none⟩ (.slice (some ⟨wz.heap.size, 0, none⟩) 1 1)).heap.size = wz.heap.size := by simp
 have hYa : Blk ((wz.setCell ⟨V, 6, none⟩ (.slice (some ⟨wz.heap.size, 0, none⟩) 1 1)).alloc (.cells #[.int .i64 2, .int .i64 0, .string ⟨t.toArray⟩] 24)) (w.heap.size + 1) 29 #[.int .i64 0, .int .i64 0, .int .i64 0, .string ⟨#[]⟩, .string ⟨#[]⟩, .bool false, .slice none 0 0] := (Blk.far hY5 (p := ⟨V, 6, none⟩) (by show w.heap.size + 1 ≠ V; omega) _).alloc _
 have hVa : Blk ((wz.setCell ⟨V, 6, none⟩ (.slice (some ⟨wz.heap.size, 0, none⟩) 1 1)).alloc (.cells #[.int .i64 2, .int .i64 0, .string ⟨t.toArray⟩] 24)) V 29 #[.int .i64 2, .int .i64 0, .int .i64 0, .string ⟨t.toArray⟩, .string ⟨#[]⟩, .bool true, .slice (some ⟨wz.heap.size, 0, none⟩) 1 1] := by have h := Blk.put hV5 6 (.slice (some ⟨wz.heap.size, 0, none⟩) 1 1); simp at h; exact h.alloc _
 have hBa : Below w.heap.size w ((wz.setCell ⟨V, 6, none⟩ (.slice (some ⟨wz.heap.size, 0, none⟩) 1 1)).alloc (.cells #[.int .i64 2, .int .i64 0, .string ⟨t.toArray⟩] 24)) := (below_set hB5 (by omega)).alloc (by rw [hsc]; omega) _
 have hOa : OwnW ((wz.setCell ⟨V, 6, none⟩ (.slice (some ⟨wz.heap.size, 0, none⟩) 1 1)).alloc (.cells #[.int .i64 2, .int .i64 0, .string ⟨t.toArray⟩] 24)) (w.heap.size + 2) (.slice (some ⟨wz.heap.size, 0, none⟩) 1 1) [(⟨2, 0, t⟩ : Val)] := by
  have h := own_lit (wz.setCell ⟨V, 6, none⟩ (.slice (some ⟨wz.heap.size, 0, none⟩) 1 1)) (w.heap.size + 2) (by rw [hsc]; omega) (⟨2, 0, t⟩ : Val) rfl
  rw [hsc] at h
  exact h
 have hsa : w.heap.size + 2 <= ((wz.setCell ⟨V, 6, none⟩ (.slice (some ⟨wz.heap.size, 0, none⟩) 1 1)).alloc (.cells #[.int .i64 2, .int .i64 0, .string ⟨t.toArray⟩] 24)).heap.size := by simp; omega
 have hVla : V < ((wz.setCell ⟨V, 6, none⟩ (.slice (some ⟨wz.heap.size, 0, none⟩) 1 1)).alloc (.cells #[.int .i64 2, .int .i64 0, .string ⟨t.toArray⟩] 24)).heap.size := by simp; omega
 go_wp2_with fail
 clear p0 p1 p2 p3 p4 z0 z1 z2 z3 z4 z5 z6 m0 m1 m2 m3 m4 m5 m6 hl hlw hsc hP5 hY5 hV5 hB5
 generalize ((wz.setCell ⟨V, 6, none⟩ (.slice (some ⟨wz.heap.size, 0, none⟩) 1 1)).alloc (.cells #[.int .i64 2, .int .i64 0, .string ⟨t.toArray⟩] 24)) = wa at *
 generalize wz.heap.size = R at *
 refine (trim2 t [] true (some ⟨R, 0, none⟩) 1 1 wa (w.heap.size + 2) [(⟨2, 0, t⟩ : Val)] (.inl ht) (fun _ => rfl) (fun h => by simp at h) (by simp [ht]) rfl (by omega) hOa hsa).mono ?_
 rintro e wb ⟨⟨rK, rlo, rhi, rf, rt, ro, rno⟩, A7, n7, c7, rfl, hl7, hn7, ho7, hb7, hP7⟩
 dsimp only at hl7 ho7
 have HL7 := Lib.hid hl7
 have HP7 := Lib.hid hP7
 have hYb := Blk.below hYa hb7 (by omega)
 have hBb : Below w.heap.size w wb := hBa.trans (hb7.mono (by omega))
 have hsb := hb7.size
 have hc7 : n7 <= c7 := by
  obtain ⟨_, _, e, h, _⟩ := OwnK.rd ho7
  injection e with e1 e2 e3
  omega
 obtain ⟨u0, u1, u2, u3, u4, u5, u6, q0, q1, q2, q3, q4, q5, q6⟩ := blk7 hYb
 have hg7 : w.heap.size + 1 < wb.heap.size := hYb.lt
 clear hb7 hYb hl7 hP7
 go_wp2_with fail
 refine bodyPost_ret (v := spF rK rlo rhi rf rt ro A7 n7 c7) (by simp [results, Try.results19, go_sem, u0, u1, u2, u3, u4, u5, u6]) rfl ?_
 exact ⟨⟨rK, rlo, rhi, rf, rt, ro, rno⟩, HP7.out, by show rno.length <= _; have := HL7.out; omega, A7, n7, c7, rfl, HL7.out, hc7, (OwnK.put7 ho7 (by omega) _ _ _ _ _ _ _).less (by omega), below_put7 hBb (by omega) _ _ _ _ _ _ _⟩
set_option maxRecDepth 100000 in
set_option maxHeartbeats 4000000 in
theorem of_T6 (n : List UInt8) (t : List UInt8) (ht : t.length <= 32) (w : World) (hn : n.length <= 9223372036854775807) (hr : Preds.right n 6 2 0 t = true) :
  Calls Try.prog 19 #[.agg #[.string ⟨n.toArray⟩, .int .i64 6, .int .i64 2, .int .i64 0, .string ⟨t.toArray⟩]] w (fun e w' => ∃ r, IsTexts t [] true ([] : List Val) r /\ r.no.length <= 1 /\ Gives w r e w') := by
 have HRR := Lib.hid hr
 clear hr
 have hB0 : Below w.heap.size w ((w.alloc (.cells #[.string ⟨n.toArray⟩, .int .i64 6, .int .i64 2, .int .i64 0, .string ⟨t.toArray⟩] 38)).alloc (.cells #[.int .i64 0, .int .i64 0, .int .i64 0, .string ⟨#[]⟩, .string ⟨#[]⟩, .bool false, .slice none 0 0] 29)) := (gr2 w (.cells #[.string ⟨n.toArray⟩, .int .i64 6, .int .i64 2, .int .i64 0, .string ⟨t.toArray⟩] 38) (.cells #[.int .i64 0, .int .i64 0, .int .i64 0, .string ⟨#[]⟩, .string ⟨#[]⟩, .bool false, .slice none 0 0] 29)).below
 have hP0 := (Blk.new w 38 #[.string ⟨n.toArray⟩, .int .i64 6, .int .i64 2, .int .i64 0, .string ⟨t.toArray⟩]).alloc (.cells #[.int .i64 0, .int .i64 0, .int .i64 0, .string ⟨#[]⟩, .string ⟨#[]⟩, .bool false, .slice none 0 0] 29)
 have hY0 := Blk.new (w.alloc (.cells #[.string ⟨n.toArray⟩, .int .i64 6, .int .i64 2, .int .i64 0, .string ⟨t.toArray⟩] 38)) 29 #[.int .i64 0, .int .i64 0, .int .i64 0, .string ⟨#[]⟩, .string ⟨#[]⟩, .bool false, .slice none 0 0]
 rw [show (w.alloc (.cells #[.string ⟨n.toArray⟩, .int .i64 6, .int .i64 2, .int .i64 0, .string ⟨t.toArray⟩] 38)).heap.size = w.heap.size + 1 by simp] at hY0
 have hs0 : w.heap.size + 2 <= ((w.alloc (.cells #[.string ⟨n.toArray⟩, .int .i64 6, .int .i64 2, .int .i64 0, .string ⟨t.toArray⟩] 38)).alloc (.cells #[.int .i64 0, .int .i64 0, .int .i64 0, .string ⟨#[]⟩, .string ⟨#[]⟩, .bool false, .slice none 0 0] 29)).heap.size := by simp
 go_enter Try.func19, Try.ntmps19
 go_wp2_with fail
 generalize ((w.alloc (.cells #[.string ⟨n.toArray⟩, .int .i64 6, .int .i64 2, .int .i64 0, .string ⟨t.toArray⟩] 38)).alloc (.cells #[.int .i64 0, .int .i64 0, .int .i64 0, .string ⟨#[]⟩, .string ⟨#[]⟩, .bool false, .slice none 0 0] 29)) = w0 at *
 refine (pright_is n 6 2 0 t w0 hn (by omega) true HRR.out).mono ?_
 rintro e w1 ⟨rfl, hb1⟩
 have hP1 := Blk.below hP0 hb1 hP0.lt
 have hY1 := Blk.below hY0 hb1 hY0.lt
 have hB1 := below_next hB0 (Nat.le_refl _) hb1
 have hs1 : w.heap.size + 2 <= w1.heap.size := Nat.le_trans hs0 (hb1).size
 clear hP0 hY0 hB0
 obtain ⟨p0, p1, p2, p3, p4, _⟩ := blk5 hP1
 have hl := hP1.lt
 go_wp2_with fail
 clear p0 p1 p2 p3 p4 hl hb1
 refine (wholeT_at w1).mono ?_
 rintro e w2 ⟨rfl, hb2⟩
 have hP2 := Blk.below hP1 hb2.below hP1.lt
 have hY2 := Blk.below hY1 hb2.below hY1.lt
 have hB2 := below_next hB1 (Nat.le_refl _) hb2.below
 have hs2 : w.heap.size + 2 <= w2.heap.size := Nat.le_trans hs1 (hb2.below).size
 clear hP1 hY1 hB1
 have hb3 : Below w2.heap.size w2 (w2.alloc (.cells #[.int .i64 2, .int .i64 0, .int .i64 0, .string ⟨#[]⟩, .string ⟨#[]⟩, .bool true, .slice none 0 0] 29)) := (Below.refl _ _).alloc (Nat.le_refl _) _
 have hV3 : Blk (w2.alloc (.cells #[.int .i64 2, .int .i64 0, .int .i64 0, .string ⟨#[]⟩, .string ⟨#[]⟩, .bool true, .slice none 0 0] 29)) w2.heap.size 29 #[.int .i64 2, .int .i64 0, .int .i64 0, .string ⟨#[]⟩, .string ⟨#[]⟩, .bool true, .slice none 0 0] := Blk.new _ _ _
 have hP3 := Blk.below hP2 hb3 hP2.lt
 have hY3 := Blk.below hY2 hb3 hY2.lt
 have hB3 := below_next hB2 (Nat.le_refl _) hb3
 have hs3 := Nat.le_trans hs2 hb3.size
 have hVl : w.heap.size + 2 <= w2.heap.size := hs2
 have hl := hP2.lt
 obtain ⟨p0, p1, p2, p3, p4, _⟩ := blk5 hP2
 go_wp2_with fail
 clear p0 p1 p2 p3 p4 hl hP2 hY2 hB2 hs2 hb2 hb3
 generalize w2.alloc (.cells #[.int .i64 2, .int .i64 0, .int .i64 0, .string ⟨#[]⟩, .string ⟨#[]⟩, .bool true, .slice none 0 0] 29) = w3 at *
 generalize w2.heap.size = V at *
 refine (begin_text 0 0 [] [] true none 0 0 2 0 t w3).mono ?_
 rintro e w4 ⟨rfl, hb4⟩
 have hP4 := Blk.below hP3 hb4.below hP3.lt
 have hY4 := Blk.below hY3 hb4.below hY3.lt
 have hB4 := below_next hB3 (Nat.le_refl _) hb4.below
 have hs4 : w.heap.size + 2 <= w4.heap.size := Nat.le_trans hs3 (hb4.below).size
 have hV4 := Blk.below hV3 hb4.below hV3.lt
 clear hP3 hY3 hB3 hV3
 obtain ⟨z0, z1, z2, z3, z4, z5, z6, m0, m1, m2, m3, m4, m5, m6⟩ := blk7 hV4
 obtain ⟨p0, p1, p2, p3, p4, _⟩ := blk5 hP4
 have hl := hV4.lt
 have hlp := hP4.lt
 have hne1 : ¬ w.heap.size = V := by omega
 have hne2 : ¬ V = w.heap.size := by omega
 have hP5 : Blk (((((((w4.setCell ⟨V, 0, none⟩ (.int .i64 2)).setCell ⟨V, 1, none⟩ (.int .i64 0)).setCell ⟨V, 2, none⟩ (.int .i64 0)).setCell ⟨V, 3, none⟩ (.string ⟨t.toArray⟩)).setCell ⟨V, 4, none⟩ (.string ⟨#[]⟩)).setCell ⟨V, 5, none⟩ (.bool true)).setCell ⟨V, 6, none⟩ (.slice none 0 0)) w.heap.size 38 #[.string ⟨n.toArray⟩, .int .i64 6, .int .i64 2, .int .i64 0, .string ⟨t.toArray⟩] := Blk.far7 hP4 (by omega) _ _ _ _ _ _ _
 have hY5 : Blk (((((((w4.setCell ⟨V, 0, none⟩ (.int .i64 2)).setCell ⟨V, 1, none⟩ (.int .i64 0)).setCell ⟨V, 2, none⟩ (.int .i64 0)).setCell ⟨V, 3, none⟩ (.string ⟨t.toArray⟩)).setCell ⟨V, 4, none⟩ (.string ⟨#[]⟩)).setCell ⟨V, 5, none⟩ (.bool true)).setCell ⟨V, 6, none⟩ (.slice none 0 0)) (w.heap.size + 1) 29 #[.int .i64 0, .int .i64 0, .int .i64 0, .string ⟨#[]⟩, .string ⟨#[]⟩, .bool false, .slice none 0 0] := Blk.far7 hY4 (by omega) _ _ _ _ _ _ _
 have hV5 : Blk (((((((w4.setCell ⟨V, 0, none⟩ (.int .i64 2)).setCell ⟨V, 1, none⟩ (.int .i64 0)).setCell ⟨V, 2, none⟩ (.int .i64 0)).setCell ⟨V, 3, none⟩ (.string ⟨t.toArray⟩)).setCell ⟨V, 4, none⟩ (.string ⟨#[]⟩)).setCell ⟨V, 5, none⟩ (.bool true)).setCell ⟨V, 6, none⟩ (.slice none 0 0)) V 29 #[.int .i64 2, .int .i64 0, .int .i64 0, .string ⟨t.toArray⟩, .string ⟨#[]⟩, .bool true, .slice none 0 0] := Blk.put7 hV4 _ _ _ _ _ _ _
 have hB5 : Below w.heap.size w (((((((w4.setCell ⟨V, 0, none⟩ (.int .i64 2)).setCell ⟨V, 1, none⟩ (.int .i64 0)).setCell ⟨V, 2, none⟩ (.int .i64 0)).setCell ⟨V, 3, none⟩ (.string ⟨t.toArray⟩)).setCell ⟨V, 4, none⟩ (.string ⟨#[]⟩)).setCell ⟨V, 5, none⟩ (.bool true)).setCell ⟨V, 6, none⟩ (.slice none 0 0)) := below_put7 hB4 (by omega) _ _ _ _ _ _ _
 have hs5 : w.heap.size + 2 <= (((((((w4.setCell ⟨V, 0, none⟩ (.int .i64 2)).setCell ⟨V, 1, none⟩ (.int .i64 0)).setCell ⟨V, 2, none⟩ (.int .i64 0)).setCell ⟨V, 3, none⟩ (.string ⟨t.toArray⟩)).setCell ⟨V, 4, none⟩ (.string ⟨#[]⟩)).setCell ⟨V, 5, none⟩ (.bool true)).setCell ⟨V, 6, none⟩ (.slice none 0 0)).heap.size := by rw [size_put7]; omega
 go_wp2_with fail
 clear z0 z1 z2 z3 z4 z5 z6 m0 m1 m2 m3 m4 m5 m6 p0 p1 p2 p3 p4 hl hlp hP4 hY4 hV4 hB4 hb4
 generalize (((((((w4.setCell ⟨V, 0, none⟩ (.int .i64 2)).setCell ⟨V, 1, none⟩ (.int .i64 0)).setCell ⟨V, 2, none⟩ (.int .i64 0)).setCell ⟨V, 3, none⟩ (.string ⟨t.toArray⟩)).setCell ⟨V, 4, none⟩ (.string ⟨#[]⟩)).setCell ⟨V, 5, none⟩ (.bool true)).setCell ⟨V, 6, none⟩ (.slice none 0 0)) = w5 at *
 obtain ⟨p0, p1, p2, p3, p4, _⟩ := blk5 hP5
 have hl := hP5.lt
 refine (shutsOut_at 6 w5 false rfl).mono ?_
 rintro e wz ⟨rfl, rfl⟩
 obtain ⟨z0, z1, z2, z3, z4, z5, z6, m0, m1, m2, m3, m4, m5, m6⟩ := blk7 hV5
 have hlV := hV5.lt
 have hOa : OwnW wz (w.heap.size + 2) (.slice none 0 0) ([] : List Val) := OwnK.none_ _ _
 go_wp2_with fail
 clear p0 p1 p2 p3 p4 z0 z1 z2 z3 z4 z5 z6 m0 m1 m2 m3 m4 m5 m6 hl
 have hYa := hY5
 have hBa := hB5
 have hsa := hs5
 have hVla := hlV
 clear hP5 hY5 hB5
 generalize wz = wa at *
 refine (trim2 t [] true none 0 0 wa (w.heap.size + 2) ([] : List Val) (.inl ht) (fun _ => rfl) (fun h => by simp at h) (by simp) rfl (by omega) hOa hsa).mono ?_
 rintro e wb ⟨⟨rK, rlo, rhi, rf, rt, ro, rno⟩, A7, n7, c7, rfl, hl7, hn7, ho7, hb7, hP7⟩
 dsimp only at hl7 ho7
 have HL7 := Lib.hid hl7
 have HP7 := Lib.hid hP7
 have hYb := Blk.below hYa hb7 (by omega)
 have hBb : Below w.heap.size w wb := hBa.trans (hb7.mono (by omega))
 have hsb := hb7.size
 have hc7 : n7 <= c7 := by
  obtain ⟨_, _, e, h, _⟩ := OwnK.rd ho7
  injection e with e1 e2 e3
  omega
 obtain ⟨u0, u1, u2, u3, u4, u5, u6, q0, q1, q2, q3, q4, q5, q6⟩ := blk7 hYb
 have hg7 : w.heap.size + 1 < wb.heap.size := hYb.lt
 clear hb7 hYb hl7 hP7
 go_wp2_with fail
 refine bodyPost_ret (v := spF rK rlo rhi rf rt ro A7 n7 c7) (by simp [results, Try.results19, go_sem, u0, u1, u2, u3, u4, u5, u6]) rfl ?_
 exact ⟨⟨rK, rlo, rhi, rf, rt, ro, rno⟩, HP7.out, by show rno.length <= _; have := HL7.out; omega, A7, n7, c7, rfl, HL7.out, hc7, (OwnK.put7 ho7 (by omega) _ _ _ _ _ _ _).less (by omega), below_put7 hBb (by omega) _ _ _ _ _ _ _⟩
set_option maxRecDepth 100000 in
set_option maxHeartbeats 4000000 in
theorem of_T7 (n : List UInt8) (t : List UInt8) (ht : t.length <= 32) (tt : List UInt8) (oo : Bool) (htt : (Spans.up t).getD [] = tt) (hoo : (Spans.up t).isNone = oo) (w : World) (hn : n.length <= 9223372036854775807) (hr : Preds.right n 7 2 0 t = true) :
  Calls Try.prog 19 #[.agg #[.string ⟨n.toArray⟩, .int .i64 7, .int .i64 2, .int .i64 0, .string ⟨t.toArray⟩]] w (fun e w' => ∃ r, IsTexts t tt oo ([] : List Val) r /\ r.no.length <= 1 /\ Gives w r e w') := by
 have HRR := Lib.hid hr
 clear hr
 have HTT := Lib.hid htt
 have HOO := Lib.hid hoo
 clear htt hoo
 have hB0 : Below w.heap.size w ((w.alloc (.cells #[.string ⟨n.toArray⟩, .int .i64 7, .int .i64 2, .int .i64 0, .string ⟨t.toArray⟩] 38)).alloc (.cells #[.int .i64 0, .int .i64 0, .int .i64 0, .string ⟨#[]⟩, .string ⟨#[]⟩, .bool false, .slice none 0 0] 29)) := (gr2 w (.cells #[.string ⟨n.toArray⟩, .int .i64 7, .int .i64 2, .int .i64 0, .string ⟨t.toArray⟩] 38) (.cells #[.int .i64 0, .int .i64 0, .int .i64 0, .string ⟨#[]⟩, .string ⟨#[]⟩, .bool false, .slice none 0 0] 29)).below
 have hP0 := (Blk.new w 38 #[.string ⟨n.toArray⟩, .int .i64 7, .int .i64 2, .int .i64 0, .string ⟨t.toArray⟩]).alloc (.cells #[.int .i64 0, .int .i64 0, .int .i64 0, .string ⟨#[]⟩, .string ⟨#[]⟩, .bool false, .slice none 0 0] 29)
 have hY0 := Blk.new (w.alloc (.cells #[.string ⟨n.toArray⟩, .int .i64 7, .int .i64 2, .int .i64 0, .string ⟨t.toArray⟩] 38)) 29 #[.int .i64 0, .int .i64 0, .int .i64 0, .string ⟨#[]⟩, .string ⟨#[]⟩, .bool false, .slice none 0 0]
 rw [show (w.alloc (.cells #[.string ⟨n.toArray⟩, .int .i64 7, .int .i64 2, .int .i64 0, .string ⟨t.toArray⟩] 38)).heap.size = w.heap.size + 1 by simp] at hY0
 have hs0 : w.heap.size + 2 <= ((w.alloc (.cells #[.string ⟨n.toArray⟩, .int .i64 7, .int .i64 2, .int .i64 0, .string ⟨t.toArray⟩] 38)).alloc (.cells #[.int .i64 0, .int .i64 0, .int .i64 0, .string ⟨#[]⟩, .string ⟨#[]⟩, .bool false, .slice none 0 0] 29)).heap.size := by simp
 go_enter Try.func19, Try.ntmps19
 go_wp2_with fail
 generalize ((w.alloc (.cells #[.string ⟨n.toArray⟩, .int .i64 7, .int .i64 2, .int .i64 0, .string ⟨t.toArray⟩] 38)).alloc (.cells #[.int .i64 0, .int .i64 0, .int .i64 0, .string ⟨#[]⟩, .string ⟨#[]⟩, .bool false, .slice none 0 0] 29)) = w0 at *
 refine (pright_is n 7 2 0 t w0 hn (by omega) true HRR.out).mono ?_
 rintro e w1 ⟨rfl, hb1⟩
 have hP1 := Blk.below hP0 hb1 hP0.lt
 have hY1 := Blk.below hY0 hb1 hY0.lt
 have hB1 := below_next hB0 (Nat.le_refl _) hb1
 have hs1 : w.heap.size + 2 <= w1.heap.size := Nat.le_trans hs0 (hb1).size
 clear hP0 hY0 hB0
 obtain ⟨p0, p1, p2, p3, p4, _⟩ := blk5 hP1
 have hl := hP1.lt
 go_wp2_with fail
 clear p0 p1 p2 p3 p4 hl hb1
 refine (wholeT_at w1).mono ?_
 rintro e w2 ⟨rfl, hb2⟩
 have hP2 := Blk.below hP1 hb2.below hP1.lt
 have hY2 := Blk.below hY1 hb2.below hY1.lt
 have hB2 := below_next hB1 (Nat.le_refl _) hb2.below
 have hs2 : w.heap.size + 2 <= w2.heap.size := Nat.le_trans hs1 (hb2.below).size
 clear hP1 hY1 hB1
 have hb3 : Below w2.heap.size w2 (w2.alloc (.cells #[.int .i64 2, .int .i64 0, .int .i64 0, .string ⟨#[]⟩, .string ⟨#[]⟩, .bool true, .slice none 0 0] 29)) := (Below.refl _ _).alloc (Nat.le_refl _) _
 have hV3 : Blk (w2.alloc (.cells #[.int .i64 2, .int .i64 0, .int .i64 0, .string ⟨#[]⟩, .string ⟨#[]⟩, .bool true, .slice none 0 0] 29)) w2.heap.size 29 #[.int .i64 2, .int .i64 0, .int .i64 0, .string ⟨#[]⟩, .string ⟨#[]⟩, .bool true, .slice none 0 0] := Blk.new _ _ _
 have hP3 := Blk.below hP2 hb3 hP2.lt
 have hY3 := Blk.below hY2 hb3 hY2.lt
 have hB3 := below_next hB2 (Nat.le_refl _) hb3
 have hs3 := Nat.le_trans hs2 hb3.size
 have hVl : w.heap.size + 2 <= w2.heap.size := hs2
 have hl := hP2.lt
 obtain ⟨p0, p1, p2, p3, p4, _⟩ := blk5 hP2
 go_wp2_with fail
 clear p0 p1 p2 p3 p4 hl hP2 hY2 hB2 hs2 hb2 hb3
 generalize w2.alloc (.cells #[.int .i64 2, .int .i64 0, .int .i64 0, .string ⟨#[]⟩, .string ⟨#[]⟩, .bool true, .slice none 0 0] 29) = w3 at *
 generalize w2.heap.size = V at *
 have hS0 : Blk w3.drew w.heap.size 38 #[.string ⟨n.toArray⟩, .int .i64 7, .int .i64 2, .int .i64 0, .string ⟨t.toArray⟩] := hP3
 refine wp_region_held_drew (S := fun w' => Blk w' w.heap.size 38 #[.string ⟨n.toArray⟩, .int .i64 7, .int .i64 2, .int .i64 0, .string ⟨t.toArray⟩]) (by kernel_rfl) hS0 (fun _ => ?_)
 refine wpAnyH_yes (i := 1) (d := 44) (v := ?_) rfl rfl (by kernel_rfl) (by kernel_rfl) (by kernel_rfl) (fun _ _ _ h => h) (by rfl) ?_ hS0 ?_
 rotate_left
 ·intro w' hSw; obtain ⟨r0, r1, r2, r3, r4, _⟩ := blk5 hSw; go_simp <;> with_reducible rfl
 simp only [Act.put, List.setIfInBounds_toArray, List.set_cons_zero, List.set_cons_succ]
 refine wpAnyH_yes (i := 2) (d := 45) (v := ?_) rfl rfl (by kernel_rfl) (by kernel_rfl) (by kernel_rfl) (fun _ _ _ h => h) (by rfl) ?_ hS0 ?_
 rotate_left
 ·intro w' hSw; obtain ⟨r0, r1, r2, r3, r4, _⟩ := blk5 hSw; go_simp <;> with_reducible rfl
 simp only [Act.put, List.setIfInBounds_toArray, List.set_cons_zero, List.set_cons_succ]
 refine wpAnyH_yes (i := 4) (d := 47) (v := ?_) rfl rfl (by kernel_rfl) (by kernel_rfl) (by kernel_rfl) (fun _ _ _ h => h) (by rfl) ?_ hS0 ?_
 rotate_left
 ·intro w' hSw; obtain ⟨r0, r1, r2, r3, r4, _⟩ := blk5 hSw; go_simp <;> with_reducible rfl
 simp only [Act.put, List.setIfInBounds_toArray, List.set_cons_zero, List.set_cons_succ]
 refine wpAnyH_yes (i := 5) (d := 48) (v := ?_) rfl rfl (by kernel_rfl) (by kernel_rfl) (by kernel_rfl) (fun _ _ _ h => h) (by rfl) ?_ hS0 ?_
 rotate_left
 ·intro w' hSw; obtain ⟨r0, r1, r2, r3, r4, _⟩ := blk5 hSw; go_simp <;> with_reducible rfl
 simp only [Act.put, List.setIfInBounds_toArray, List.set_cons_zero, List.set_cons_succ]
 refine wpAnyH_yes (i := 6) (d := 49) (v := ?_) rfl rfl (by kernel_rfl) (by kernel_rfl) (by kernel_rfl) (fun _ _ _ h => h) (by rfl) ?_ hS0 ?_
 rotate_left
 ·intro w' hSw; obtain ⟨r0, r1, r2, r3, r4, _⟩ := blk5 hSw; go_simp <;> with_reducible rfl
 simp only [Act.put, List.setIfInBounds_toArray, List.set_cons_zero, List.set_cons_succ]
 obtain ⟨z0, z1, z2, z3, z4, z5, z6, m0, m1, m2, m3, m4, m5, m6⟩ := blk7 hV3
 refine wpAnyH_one (i := 0) (by kernel_rfl) rfl (by rfl) (fun Ka hKa => ?_)
 go_simp
 refine hKa.out _ _ hS0 ?_
 clear hKa Ka z0 z1 z2 z3 z4 z5 z6 m0 m1 m2 m3 m4 m5 m6
 have hP3' : Blk w3.drew w.heap.size 38 #[.string ⟨n.toArray⟩, .int .i64 7, .int .i64 2, .int .i64 0, .string ⟨t.toArray⟩] := hP3
 have hY3' : Blk w3.drew (w.heap.size + 1) 29 #[.int .i64 0, .int .i64 0, .int .i64 0, .string ⟨#[]⟩, .string ⟨#[]⟩, .bool false, .slice none 0 0] := hY3
 have hV3' : Blk w3.drew V 29 #[.int .i64 2, .int .i64 0, .int .i64 0, .string ⟨#[]⟩, .string ⟨#[]⟩, .bool true, .slice none 0 0] := hV3
 have hB3' : Below w.heap.size w w3.drew := hB3.drew
 have hs3' : w.heap.size + 2 <= w3.drew.heap.size := hs3
 clear hP3 hY3 hV3 hB3 hs3 hS0
 generalize w3.drew = w4 at *
 refine wpAnyH_one (i := 3) (by kernel_rfl) rfl (by rfl) (fun Ka hKa => ?_)
 go_simp
 with_reducible refine (begin_text 0 0 [] [] true none 0 0 2 0 t _).mono ?_
 rintro e w6 ⟨rfl, hb6⟩
 have hP6 := Blk.below hP3' hb6.below hP3'.lt
 have hY6 := Blk.below hY3' hb6.below hY3'.lt
 have hB6 := below_next hB3' (Nat.le_refl _) hb6.below
 have hs6 : w.heap.size + 2 <= w6.heap.size := Nat.le_trans hs3' (hb6.below).size
 have hV6 := Blk.below hV3' hb6.below hV3'.lt
 clear hP3' hY3' hB3' hV3'
 go_wp2_with fail
 refine hKa.out _ _ hP6 ?_
 clear hKa Ka hb6
 refine wpAnyH_one (i := 7) (by kernel_rfl) rfl (by rfl) (fun Ka hKa => ?_)
 go_simp
 with_reducible refine (endPre_at 0 0 t t none 0 0 tt oo HTT.out HOO.out (by omega) _).mono ?_
 rintro e w7 ⟨rfl, hb7⟩
 have hP7 := Blk.below hP6 hb7 hP6.lt
 have hY7 := Blk.below hY6 hb7 hY6.lt
 have hB7 := below_next hB6 (Nat.le_refl _) hb7
 have hs7 : w.heap.size + 2 <= w7.heap.size := Nat.le_trans hs6 (hb7).size
 have hV7 := Blk.below hV6 hb7 hV6.lt
 clear hP6 hY6 hB6 hV6
 go_wp2_with fail
 refine hKa.out _ _ hP7 ?_
 clear hKa Ka hb7
 refine wpAnyH_one (i := 8) (by kernel_rfl) rfl (by rfl) (fun Ka hKa => ?_)
 obtain ⟨z0, z1, z2, z3, z4, z5, z6, m0, m1, m2, m3, m4, m5, m6⟩ := blk7 hV7
 have hl := hV7.lt
 go_simp
 have hP8 : Blk (((((((w7.setCell ⟨V, 0, none⟩ (.int .i64 2)).setCell ⟨V, 1, none⟩ (.int .i64 0)).setCell ⟨V, 2, none⟩ (.int .i64 0)).setCell ⟨V, 3, none⟩ (.string ⟨t.toArray⟩)).setCell ⟨V, 4, none⟩ (.string ⟨tt.toArray⟩)).setCell ⟨V, 5, none⟩ (.bool oo)).setCell ⟨V, 6, none⟩ (.slice none 0 0)) w.heap.size 38 #[.string ⟨n.toArray⟩, .int .i64 7, .int .i64 2, .int .i64 0, .string ⟨t.toArray⟩] := Blk.far7 hP7 (by omega) _ _ _ _ _ _ _
 have hY8 : Blk (((((((w7.setCell ⟨V, 0, none⟩ (.int .i64 2)).setCell ⟨V, 1, none⟩ (.int .i64 0)).setCell ⟨V, 2, none⟩ (.int .i64 0)).setCell ⟨V, 3, none⟩ (.string ⟨t.toArray⟩)).setCell ⟨V, 4, none⟩ (.string ⟨tt.toArray⟩)).setCell ⟨V, 5, none⟩ (.bool oo)).setCell ⟨V, 6, none⟩ (.slice none 0 0)) (w.heap.size + 1) 29 #[.int .i64 0, .int .i64 0, .int .i64 0, .string ⟨#[]⟩, .string ⟨#[]⟩, .bool false, .slice none 0 0] := Blk.far7 hY7 (by omega) _ _ _ _ _ _ _
 have hV8 : Blk (((((((w7.setCell ⟨V, 0, none⟩ (.int .i64 2)).setCell ⟨V, 1, none⟩ (.int .i64 0)).setCell ⟨V, 2, none⟩ (.int .i64 0)).setCell ⟨V, 3, none⟩ (.string ⟨t.toArray⟩)).setCell ⟨V, 4, none⟩ (.string ⟨tt.toArray⟩)).setCell ⟨V, 5, none⟩ (.bool oo)).setCell ⟨V, 6, none⟩ (.slice none 0 0)) V 29 #[.int .i64 2, .int .i64 0, .int .i64 0, .string ⟨t.toArray⟩, .string ⟨tt.toArray⟩, .bool oo, .slice none 0 0] := Blk.put7 hV7 _ _ _ _ _ _ _
 have hB8 : Below w.heap.size w (((((((w7.setCell ⟨V, 0, none⟩ (.int .i64 2)).setCell ⟨V, 1, none⟩ (.int .i64 0)).setCell ⟨V, 2, none⟩ (.int .i64 0)).setCell ⟨V, 3, none⟩ (.string ⟨t.toArray⟩)).setCell ⟨V, 4, none⟩ (.string ⟨tt.toArray⟩)).setCell ⟨V, 5, none⟩ (.bool oo)).setCell ⟨V, 6, none⟩ (.slice none 0 0)) := below_put7 hB7 (by omega) _ _ _ _ _ _ _
 have hs8 : w.heap.size + 2 <= (((((((w7.setCell ⟨V, 0, none⟩ (.int .i64 2)).setCell ⟨V, 1, none⟩ (.int .i64 0)).setCell ⟨V, 2, none⟩ (.int .i64 0)).setCell ⟨V, 3, none⟩ (.string ⟨t.toArray⟩)).setCell ⟨V, 4, none⟩ (.string ⟨tt.toArray⟩)).setCell ⟨V, 5, none⟩ (.bool oo)).setCell ⟨V, 6, none⟩ (.slice none 0 0)).heap.size := by rw [size_put7]; omega
 refine hKa.out _ _ hP8 ?_
 clear hKa Ka z0 z1 z2 z3 z4 z5 z6 m0 m1 m2 m3 m4 m5 m6 hl hP7 hY7 hV7 hB7
 refine wpAnyH_done (by kernel_rfl) ?_ _
 generalize (((((((w7.setCell ⟨V, 0, none⟩ (.int .i64 2)).setCell ⟨V, 1, none⟩ (.int .i64 0)).setCell ⟨V, 2, none⟩ (.int .i64 0)).setCell ⟨V, 3, none⟩ (.string ⟨t.toArray⟩)).setCell ⟨V, 4, none⟩ (.string ⟨tt.toArray⟩)).setCell ⟨V, 5, none⟩ (.bool oo)).setCell ⟨V, 6, none⟩ (.slice none 0 0)) = w8 at *
 obtain ⟨p0, p1, p2, p3, p4, _⟩ := blk5 hP8
 have hl := hP8.lt
 go_wp2_with fail
 refine (shutsOut_at 7 w8 false rfl).mono ?_
 rintro e wz ⟨rfl, rfl⟩
 obtain ⟨z0, z1, z2, z3, z4, z5, z6, m0, m1, m2, m3, m4, m5, m6⟩ := blk7 hV8
 have hlV := hV8.lt
 have hOa : OwnW wz (w.heap.size + 2) (.slice none 0 0) ([] : List Val) := OwnK.none_ _ _
 go_wp2_with fail
 clear p0 p1 p2 p3 p4 z0 z1 z2 z3 z4 z5 z6 m0 m1 m2 m3 m4 m5 m6 hl
 have hYa := hY8
 have hBa := hB8
 have hsa := hs8
 have hVla := hlV
 clear hP8 hY8 hB8
 generalize wz = wa at *
 refine (trim2 t tt oo none 0 0 wa (w.heap.size + 2) ([] : List Val) (.inl ht) (upOpn HTT.out HOO.out) (fun _ => .inl (Nat.le_trans (upLen HTT.out) ht)) (by simp) rfl (by omega) hOa hsa).mono ?_
 rintro e wb ⟨⟨rK, rlo, rhi, rf, rt, ro, rno⟩, A7, n7, c7, rfl, hl7, hn7, ho7, hb7, hP7⟩
 dsimp only at hl7 ho7
 have HL7 := Lib.hid hl7
 have HP7 := Lib.hid hP7
 have hYb := Blk.below hYa hb7 (by omega)
 have hBb : Below w.heap.size w wb := hBa.trans (hb7.mono (by omega))
 have hsb := hb7.size
 have hc7 : n7 <= c7 := by
  obtain ⟨_, _, e, h, _⟩ := OwnK.rd ho7
  injection e with e1 e2 e3
  omega
 obtain ⟨u0, u1, u2, u3, u4, u5, u6, q0, q1, q2, q3, q4, q5, q6⟩ := blk7 hYb
 have hg7 : w.heap.size + 1 < wb.heap.size := hYb.lt
 clear hb7 hYb hl7 hP7
 go_wp2_with fail
 refine bodyPost_ret (v := spF rK rlo rhi rf rt ro A7 n7 c7) (by simp [results, Try.results19, go_sem, u0, u1, u2, u3, u4, u5, u6]) rfl ?_
 exact ⟨⟨rK, rlo, rhi, rf, rt, ro, rno⟩, HP7.out, by show rno.length <= _; have := HL7.out; omega, A7, n7, c7, rfl, HL7.out, hc7, (OwnK.put7 ho7 (by omega) _ _ _ _ _ _ _).less (by omega), below_put7 hBb (by omega) _ _ _ _ _ _ _⟩
end Go.Proofs.Ytoffnfooeojhnaa
namespace Go.Proofs.Ytoffnfooeojhnaa
open Go.RowKit Go.Sort Spans Op
set_option maxRecDepth 100000 in
set_option maxHeartbeats 2000000 in
theorem of_no (n : List UInt8) (o k i : Int) (t : List UInt8) (w : World) (hn : n.length <= 9223372036854775807) (hl : t.length <= 9223372036854775807) (hr : Preds.right n o k i t = false) :
  Calls Try.prog 19 #[.agg #[.string ⟨n.toArray⟩, .int .i64 o, .int .i64 k, .int .i64 i, .string ⟨t.toArray⟩]] w (Gives w none_) := by
 have HRR := Lib.hid hr
 clear hr
 have hgr := gr2 w (.cells #[.string ⟨n.toArray⟩, .int .i64 o, .int .i64 k, .int .i64 i, .string ⟨t.toArray⟩] 38) (.cells #[.int .i64 0, .int .i64 0, .int .i64 0, .string ⟨#[]⟩, .string ⟨#[]⟩, .bool false, .slice none 0 0] 29)
 have hY := Blk.new (w.alloc (.cells #[.string ⟨n.toArray⟩, .int .i64 o, .int .i64 k, .int .i64 i, .string ⟨t.toArray⟩] 38)) 29 #[.int .i64 0, .int .i64 0, .int .i64 0, .string ⟨#[]⟩, .string ⟨#[]⟩, .bool false, .slice none 0 0]
 rw [show (w.alloc (.cells #[.string ⟨n.toArray⟩, .int .i64 o, .int .i64 k, .int .i64 i, .string ⟨t.toArray⟩] 38)).heap.size = w.heap.size + 1 by simp] at hY
 go_enter Try.func19, Try.ntmps19
 go_wp2_with fail
 generalize (w.alloc (.cells #[.string ⟨n.toArray⟩, .int .i64 o, .int .i64 k, .int .i64 i, .string ⟨t.toArray⟩] 38)).alloc (.cells #[.int .i64 0, .int .i64 0, .int .i64 0, .string ⟨#[]⟩, .string ⟨#[]⟩, .bool false, .slice none 0 0] 29) = w0 at *
 refine (pright_is n o k i t w0 hn hl false HRR.out).mono ?_
 rintro e w1 ⟨rfl, hb1⟩
 have hY1 := Blk.below hY hb1 hY.lt
 have hB1 := below_next hgr.below (Nat.le_refl _) hb1
 obtain ⟨y0, y1, y2, y3, y4, y5, y6, q0, q1, q2, q3, q4, q5, q6⟩ := blk7 hY1
 have hl1 := hY1.lt
 clear hgr hY hb1
 go_wp2_with fail
 refine bodyPost_ret (v := spF 0 0 0 [] [] false none 0 0) (by simp [results, Try.results19, go_sem, y0, y1, y2, y3, y4, y5, y6]) rfl ?_
 exact ⟨none, 0, 0, rfl, rfl, Nat.le_refl _, OwnK.none_ _ _, below_put7 hB1 (by omega) _ _ _ _ _ _ _⟩
set_option maxRecDepth 100000 in
set_option maxHeartbeats 2000000 in
theorem of_any (n : List UInt8) (k i : Int) (t : List UInt8) (w : World) (hn : n.length <= 9223372036854775807) (hl : t.length <= 9223372036854775807) (hr : Preds.right n 8 k i t = true) :
  Calls Try.prog 19 #[.agg #[.string ⟨n.toArray⟩, .int .i64 8, .int .i64 k, .int .i64 i, .string ⟨t.toArray⟩]] w (Gives w any_) := by
 have HRR := Lib.hid hr
 clear hr
 have hgr := gr2 w (.cells #[.string ⟨n.toArray⟩, .int .i64 8, .int .i64 k, .int .i64 i, .string ⟨t.toArray⟩] 38) (.cells #[.int .i64 0, .int .i64 0, .int .i64 0, .string ⟨#[]⟩, .string ⟨#[]⟩, .bool false, .slice none 0 0] 29)
 have hP := (Blk.new w 38 #[.string ⟨n.toArray⟩, .int .i64 8, .int .i64 k, .int .i64 i, .string ⟨t.toArray⟩]).alloc (.cells #[.int .i64 0, .int .i64 0, .int .i64 0, .string ⟨#[]⟩, .string ⟨#[]⟩, .bool false, .slice none 0 0] 29)
 have hY := Blk.new (w.alloc (.cells #[.string ⟨n.toArray⟩, .int .i64 8, .int .i64 k, .int .i64 i, .string ⟨t.toArray⟩] 38)) 29 #[.int .i64 0, .int .i64 0, .int .i64 0, .string ⟨#[]⟩, .string ⟨#[]⟩, .bool false, .slice none 0 0]
 rw [show (w.alloc (.cells #[.string ⟨n.toArray⟩, .int .i64 8, .int .i64 k, .int .i64 i, .string ⟨t.toArray⟩] 38)).heap.size = w.heap.size + 1 by simp] at hY
 go_enter Try.func19, Try.ntmps19
 go_wp2_with fail
 generalize (w.alloc (.cells #[.string ⟨n.toArray⟩, .int .i64 8, .int .i64 k, .int .i64 i, .string ⟨t.toArray⟩] 38)).alloc (.cells #[.int .i64 0, .int .i64 0, .int .i64 0, .string ⟨#[]⟩, .string ⟨#[]⟩, .bool false, .slice none 0 0] 29) = w0 at *
 refine (pright_is n 8 k i t w0 hn hl true HRR.out).mono ?_
 rintro e w1 ⟨rfl, hb1⟩
 have hP1 := Blk.below hP hb1 hP.lt
 have hY1 := Blk.below hY hb1 hY.lt
 have hB1 := below_next hgr.below (Nat.le_refl _) hb1
 obtain ⟨p0, p1, p2, p3, p4, _⟩ := blk5 hP1
 have hl1 := hP1.lt
 clear hgr hY hb1 hP
 go_wp2_with fail
 refine (all_at w1).mono ?_
 rintro e w2 ⟨rfl, hg2⟩
 have hY2 := Blk.below hY1 hg2.below hY1.lt
 have hB2 := below_next hB1 (Nat.le_refl _) hg2.below
 obtain ⟨y0, y1, y2, y3, y4, y5, y6, q0, q1, q2, q3, q4, q5, q6⟩ := blk7 hY2
 have hl2 := hY2.lt
 clear p0 p1 p2 p3 p4 hP1 hY1 hB1 hg2
 go_wp2_with fail
 refine bodyPost_ret (v := spF 4 0 0 [] [] false none 0 0) (by simp [results, Try.results19, go_sem, y0, y1, y2, y3, y4, y5, y6]) rfl ?_
 exact ⟨none, 0, 0, rfl, rfl, Nat.le_refl _, OwnK.none_ _ _, below_put7 hB2 (by omega) _ _ _ _ _ _ _⟩
end Go.Proofs.Ytoffnfooeojhnaa
namespace Spans
open Go.Op (bytesLess)
theorem ofN_of {p : Pr} {r : Sp} (h : rightP p = true) (hk : p.k = 1 ∨ p.k = 3) {lo hi : Int} {no : List Val} (hi' : IsInts p.k lo hi no r)
  (he : ∀ v, rightV v = true -> v.k = p.k -> ((lo <= v.i /\ v.i <= hi /\ v ∉ no) ↔ (ofLo p <= v.i /\ v.i <= ofHi p /\ v ∉ ofNo p))) : IsOf p r :=
 ⟨hi'.1, fun v hv => by
  rw [hi'.2 v hv, holds_N h hk hv]
  constructor
  ·rintro ⟨a, b⟩; exact ⟨a, (he v hv a).1 b⟩
  ·rintro ⟨a, b⟩; exact ⟨a, (he v hv a).2 b⟩⟩
theorem ofT_of {p : Pr} {r : Sp} (h : rightP p = true) (hk : p.k = 2) {f t : List UInt8} {o : Bool} {no : List Val} (hi' : IsTexts f t o no r)
  (he : ∀ v, rightV v = true -> v.k = 2 -> ((bytesLess v.t f = false /\ (o = true ∨ bytesLess v.t t = true) /\ v ∉ no) ↔ (bytesLess v.t (ofFrm p) = false /\ (ofOpn p = true ∨ bytesLess v.t (ofTo p) = true) /\ v ∉ ofNo p))) : IsOf p r :=
 ⟨hi'.1, fun v hv => by
  rw [hi'.2 v hv, holds_T h hk hv]
  constructor
  ·rintro ⟨a, b⟩; exact ⟨a, (he v hv a).1 b⟩
  ·rintro ⟨a, b⟩; exact ⟨a, (he v hv a).2 b⟩⟩
theorem notN {k i : Int} {v : Val} (hv : rightV v = true) (hk : k = 1 ∨ k = 3) (hvk : v.k = k) : v ∉ [(⟨k, i, []⟩ : Val)] ↔ v.i ≠ i := by
 rw [List.mem_singleton]
 have ht := right_numT hv (hvk ▸ hk)
 exact ⟨fun h e => h (Val.ext_ hvk e ht), fun h e => h (by rw [e])⟩
theorem notT {t : List UInt8} {v : Val} (hv : rightV v = true) (hvk : v.k = 2) : v ∉ [(⟨2, 0, t⟩ : Val)] ↔ v.t ≠ t := by
 rw [List.mem_singleton]
 have hi := (right_textI hv hvk).1
 exact ⟨fun h e => h (Val.ext_ hvk hi e), fun h e => h (by rw [e])⟩
theorem lt_iff_next {a t : List UInt8} : (bytesLess a (t ++ [0]) = true /\ a ≠ t) ↔ bytesLess a t = true := by
 rw [lt_next]
 constructor
 ·rintro ⟨h1, h2⟩
  rcases less_or a t with h | h | h
  ·exact h
  ·exact absurd h h2
  ·rw [h] at h1; simp at h1
 ·intro h
  exact ⟨le_of_lt h, fun e => by rw [e, Vals.less_irr] at h; simp at h⟩
theorem ge_iff_next {a t : List UInt8} : (bytesLess a t = false /\ a ≠ t) ↔ bytesLess a (t ++ [0]) = false := by
 have h := lt_next a t
 constructor
 ·rintro ⟨h1, h2⟩
  rcases less_or a t with g | g | g
  ·rw [g] at h1; simp at h1
  ·exact absurd g h2
  ·cases hq : bytesLess a (t ++ [0]) with
   | false => rfl
   | true => rw [h.1 hq] at g; simp at g
 ·intro g
  have h3 : bytesLess t a = true := by
   cases hq : bytesLess t a with
   | true => rfl
   | false => rw [h.2 hq] at g; simp at g
  exact ⟨le_of_lt h3, fun e => by rw [e, Vals.less_irr] at h3; simp at h3⟩
end Spans
namespace Go.Proofs.Ytoffnfooeojhnaa
open Go.RowKit Go.Sort Spans Op
/-- What Of tells. -/
def Ofs (w : World) (p : Pr) (e : Ending) (w' : World) : Prop := ∃ r, IsOf p r /\ r.no.length <= 1 /\ Gives w r e w'
theorem of_at (p : Pr) (w : World) (hn : p.n.length <= 9223372036854775807) (hl : p.t.length <= 9223372036854775807) (hi1 : -9223372036854775808 <= p.i) (hi2 : p.i <= 9223372036854775807) :
  Calls Try.prog 19 #[.agg #[.string ⟨p.n.toArray⟩, .int .i64 p.o, .int .i64 p.k, .int .i64 p.i, .string ⟨p.t.toArray⟩]] w (Ofs w p) := by
 obtain ⟨n, o, k, i, t⟩ := p
 dsimp only at *
 cases hr : Preds.right n o k i t with
 | false => exact (of_no n o k i t w hn hl hr).mono fun e w' h => ⟨none_, of_wrong hr, by simp [none_], h⟩
 | true =>
  have hP : rightP ⟨n, o, k, i, t⟩ = true := (rightP_iff _).2 ⟨hr, hi1, hi2⟩
  rcases rightP_cases hP with ⟨h8, h1, h2, h3⟩ | ⟨h8, h1, h2, hv, hlt, h7⟩
  ·dsimp only at h8 h1 h2 h3
   subst h8
   exact (of_any n k i t w hn hl hr).mono fun e w' h => ⟨any_, of_E hP rfl, by simp [any_], h⟩
  ·dsimp only at h8 h1 h2 hv hlt h7
   by_cases hk2 : k = 2
   ·subst hk2
    have hi0 : i = 0 := by rcases Vals.right_cases hv with ⟨h, _⟩ | ⟨_, h, _⟩ | ⟨h, _⟩ <;> omega
    subst hi0
    have hoo : o = 1 ∨ o = 2 ∨ o = 3 ∨ o = 4 ∨ o = 5 ∨ o = 6 ∨ o = 7 := by omega
    rcases hoo with rfl | rfl | rfl | rfl | rfl | rfl | rfl
    ·exact (of_T1 n t hlt w hn hr).mono fun e w' ⟨r, hi, hl, h⟩ => ⟨r, ofT_of hP rfl hi (fun v _ _ => by simp [ofFrm, ofTo, ofOpn, ofNo]), hl, h⟩
    ·exact (of_T2 n t hlt w hn hr).mono fun e w' ⟨r, hi, hl, h⟩ => ⟨r, ofT_of hP rfl hi (fun v _ _ => by simp [ofFrm, ofTo, ofOpn, ofNo, sideV]), hl, h⟩
    ·exact (of_T3 n t hlt w hn hr).mono fun e w' ⟨r, hi, hl, h⟩ => ⟨r, ofT_of hP rfl hi (fun v hv hk => by rw [notT hv hk]; simp only [Bool.false_eq_true, false_or, lt_iff_next]; simp [ofFrm, ofTo, ofOpn, ofNo]), hl, h⟩
    ·exact (of_T4 n t hlt w hn hr).mono fun e w' ⟨r, hi, hl, h⟩ => ⟨r, ofT_of hP rfl hi (fun v _ _ => by simp [ofFrm, ofTo, ofOpn, ofNo]), hl, h⟩
    ·exact (of_T5 n t hlt w hn hr).mono fun e w' ⟨r, hi, hl, h⟩ => ⟨r, ofT_of hP rfl hi (fun v hv hk => by rw [notT hv hk]; simp only [true_or, true_and, ge_iff_next]; simp [ofFrm, ofOpn, ofNo]), hl, h⟩
    ·exact (of_T6 n t hlt w hn hr).mono fun e w' ⟨r, hi, hl, h⟩ => ⟨r, ofT_of hP rfl hi (fun v _ _ => by simp [ofFrm, ofOpn, ofNo]), hl, h⟩
    ·exact (of_T7 n t hlt _ _ rfl rfl w hn hr).mono fun e w' ⟨r, hi, hl, h⟩ => ⟨r, ofT_of hP rfl hi (fun v _ _ => by simp [ofFrm, ofTo, ofOpn, ofNo]), hl, h⟩
   ·have hk : k = 1 ∨ k = 3 := by rcases Vals.right_cases hv with ⟨h, _⟩ | ⟨h, _⟩ | ⟨h, _⟩ <;> omega
    have ht : t = [] := by rcases Vals.right_cases hv with ⟨_, h⟩ | ⟨h, _⟩ | ⟨_, h, _⟩ <;> first | exact h | omega
    subst ht
    have hb := num_bd (rightP_side hP h8) hk
    have hb1 : lowest k <= i := hb.1
    have hb2 : i <= highest k := hb.2
    have hoo : o = 1 ∨ o = 2 ∨ o = 3 ∨ o = 4 ∨ o = 5 ∨ o = 6 := by
     rcases (show o = 7 ∨ o ≠ 7 by omega) with h | h
     ·exact absurd (h7 h) hk2
     ·omega
    rcases hoo with rfl | rfl | rfl | rfl | rfl | rfl
    ·exact (of_N1 n k i hk hb1 hb2 w hn hr).mono fun e w' ⟨r, hi, hl, h⟩ => ⟨r, ofN_of hP hk hi (fun v _ _ => by simp [ofLo, ofHi, ofNo]), hl, h⟩
    ·exact (of_N2 n k i hk hb1 hb2 w hn hr).mono fun e w' ⟨r, hi, hl, h⟩ => ⟨r, ofN_of hP hk hi (fun v _ _ => by simp [ofLo, ofHi, ofNo, sideV]), hl, h⟩
    ·exact (of_N3 n k i hk hb1 hb2 w hn hr).mono fun e w' ⟨r, hi, hl, h⟩ => ⟨r, ofN_of hP hk hi (fun v hv hvk => by rw [notN hv hk hvk]; simp [ofLo, ofHi, ofNo]; omega), hl, h⟩
    ·exact (of_N4 n k i hk hb1 hb2 w hn hr).mono fun e w' ⟨r, hi, hl, h⟩ => ⟨r, ofN_of hP hk hi (fun v _ _ => by simp [ofLo, ofHi, ofNo]), hl, h⟩
    ·exact (of_N5 n k i hk hb1 hb2 w hn hr).mono fun e w' ⟨r, hi, hl, h⟩ => ⟨r, ofN_of hP hk hi (fun v hv hvk => by rw [notN hv hk hvk]; simp [ofLo, ofHi, ofNo]; omega), hl, h⟩
    ·exact (of_N6 n k i hk hb1 hb2 w hn hr).mono fun e w' ⟨r, hi, hl, h⟩ => ⟨r, ofN_of hP hk hi (fun v _ _ => by simp [ofLo, ofHi, ofNo]), hl, h⟩
end Go.Proofs.Ytoffnfooeojhnaa
