/- Package span: what Of stands on. -/
import Derived.Test.YtcgmbgfbhdimeaaSMeet
namespace Go.Proofs.Ytcgmbgfbhdimeaa
open Go.RowKit Go.Sort Spans Op
theorem Blk.far7 {w : World} {g b : Nat} {t : TypeId} {cs : Array Value} (h : Blk w g t cs) (hb : g ≠ b) (u0 u1 u2 u3 u4 u5 u6 : Value) : Blk (((((((w.setCell ⟨b, 0, none⟩ u0).setCell ⟨b, 1, none⟩ u1).setCell ⟨b, 2, none⟩ u2).setCell ⟨b, 3, none⟩ u3).setCell ⟨b, 4, none⟩ u4).setCell ⟨b, 5, none⟩ u5).setCell ⟨b, 6, none⟩ u6) g t cs :=
  Blk.far (Blk.far (Blk.far (Blk.far (Blk.far (Blk.far (Blk.far h (p := ⟨b, 0, none⟩) hb u0) (p := ⟨b, 1, none⟩) hb u1) (p := ⟨b, 2, none⟩) hb u2) (p := ⟨b, 3, none⟩) hb u3) (p := ⟨b, 4, none⟩) hb u4) (p := ⟨b, 5, none⟩) hb u5) (p := ⟨b, 6, none⟩) hb u6
theorem Blk.put7 {w : World} {b : Nat} {t : TypeId} {c0 c1 c2 c3 c4 c5 c6 : Value} (h : Blk w b t #[c0, c1, c2, c3, c4, c5, c6]) (u0 u1 u2 u3 u4 u5 u6 : Value) : Blk (((((((w.setCell ⟨b, 0, none⟩ u0).setCell ⟨b, 1, none⟩ u1).setCell ⟨b, 2, none⟩ u2).setCell ⟨b, 3, none⟩ u3).setCell ⟨b, 4, none⟩ u4).setCell ⟨b, 5, none⟩ u5).setCell ⟨b, 6, none⟩ u6) b t #[u0, u1, u2, u3, u4, u5, u6] := by
  have h7 := ((((((h.put 0 u0).put 1 u1).put 2 u2).put 3 u3).put 4 u4).put 5 u5).put 6 u6
  simp at h7
  exact h7
theorem size_put7 (w : World) (b : Nat) (u0 u1 u2 u3 u4 u5 u6 : Value) : (((((((w.setCell ⟨b, 0, none⟩ u0).setCell ⟨b, 1, none⟩ u1).setCell ⟨b, 2, none⟩ u2).setCell ⟨b, 3, none⟩ u3).setCell ⟨b, 4, none⟩ u4).setCell ⟨b, 5, none⟩ u5).setCell ⟨b, 6, none⟩ u6).heap.size = w.heap.size := by simp
theorem wholeN_at (k : Int) (w : World) (hk : k = 1 ∨ k = 3) : Calls Try.prog 45 #[.int .i64 k] w fun e w' => e = .returned (spF k (lowest k) (highest k) [] [] false none 0 0) ∧ Grown w w' := by
  rcases hk with rfl | rfl
  · exact whole_at 1 w (by decide)
  · exact whole_at 3 w (by decide)
theorem wholeT_at (w : World) : Calls Try.prog 45 #[.int .i64 2] w fun e w' => e = .returned (spF 2 0 0 [] [] true none 0 0) ∧ Grown w w' := whole_at 2 w (by decide)
theorem trimN_at (K lo hi : Int) (A : Option Addr) (n c : Nat) (w : World) (base : Nat) (l : List Val) (hk : K = 1 ∨ K = 3) (hlow : lowest K ≤ lo) (hhigh : hi ≤ highest K) (hl : ∀ v ∈ l, v.k = K ∧ v.t = []) (hn : l.length = n) (hm : n ≤ 100000) (ho : OwnW w base (.slice A n c) l) (hbase : base ≤ w.heap.size) :
    Calls Try.prog 33 #[spF K lo hi [] [] false A n c] w (TrimsO (IsInts K lo hi l) base n w) := by
  rcases hk with rfl | rfl
  · exact trim1 lo hi A n c w base l hlow hhigh hl hn hm ho hbase
  · exact trim3 lo hi A n c w base l hlow hhigh hl hn hm ho hbase
theorem own_lit (w : World) (base : Nat) (hb : base ≤ w.heap.size) (v : Val) {cs : Array Value} (h : cs = (cellsV v).toArray) : OwnW (w.alloc (.cells cs 24)) base (.slice (some ⟨w.heap.size, 0, none⟩) 1 1) [v] := by
  subst h
  have hB : Lies (w.alloc (.cells (cellsV v).toArray 24)) w.heap.size [v] [] := by
    unfold Lies
    simpa using Blk.new w 24 (cellsV v).toArray
  exact own_of_lies (cap := 1) hB hb (by simp) (by rw [maxLen_num]; omega) (by simp)
theorem upLen {t tt : List UInt8} (h : (Spans.up t).getD [] = tt) : tt.length ≤ t.length := by
  subst h
  cases hu : Spans.up t with
  | none => simp
  | some u => exact up_len t u hu
theorem upOpn {t tt : List UInt8} {oo : Bool} (h : (Spans.up t).getD [] = tt) (ho : (Spans.up t).isNone = oo) : oo = true → tt = [] := by
  subst h; subst ho
  cases hu : Spans.up t with
  | none => simp
  | some u => simp
end Go.Proofs.Ytcgmbgfbhdimeaa
