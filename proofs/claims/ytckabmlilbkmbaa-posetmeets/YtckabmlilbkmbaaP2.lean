/- Contracts of the program and of the document (PoRel, PoEdge, PoCut), each used further on. -/
import Derived.WalkMore
import Derived.Deep.LoopGhost
import Derived.Test.YtckabmlilbkmbaaP1
namespace Go.Proofs.Ytckabmlilbkmbaa
open Go.RowKit Go.ChangeShapes Go.WideShapes Go.Deep Go.Sort Spans Tb
theorem made_one (z : Value) (n : Nat) : madeCells #[z] (n * 1) = Array.replicate n z := by
  unfold madeCells
  apply Array.ext
  · simp
  · intro i h1 h2
    simp [Nat.mod_one]
theorem make_sl (n : Nat) (hn : n ≤ 100000) (W : World) : (Instr.makeSlice 49 (.int .i64 (n : Int)) (.int .i64 (n : Int))).run Try.prog W = .ok (.slice (some ⟨W.heap.size, 0, none⟩) n n) (W.alloc (.cells (Array.replicate n (Value.slice none 0 0)) 51)) := by
  obtain ⟨i, hi, hz, hs, hby⟩ := LayZ.has laySl
  have h := run_make (P := Try.prog) W 49 51 i _ Try.underlying49 hi hz .i64 .i64 n n (by omega) (by omega) (by rw [hby]; show (24 : Int) * n ≤ _; omega) (by omega)
  rw [hs, show laySl.k = 1 from rfl, show (laySl.zero).cells = #[Value.slice none 0 0] from rfl] at h
  rw [h]
  simp only [Int.toNat_natCast, made_one]
theorem make_bo (n : Nat) (hn : n ≤ 100000) (W : World) : (Instr.makeSlice 51 (.int .i64 (n : Int)) (.int .i64 (n : Int))).run Try.prog W = .ok (.slice (some ⟨W.heap.size, 0, none⟩) n n) (W.alloc (.cells (Array.replicate n (Value.bool false)) 4)) := by
  obtain ⟨i, hi, hz, hs, hby⟩ := LayZ.has layB
  have h := run_make (P := Try.prog) W 51 4 i _ Try.underlying51 hi hz .i64 .i64 n n (by omega) (by omega) (by rw [hby]; show (1 : Int) * n ≤ _; omega) (by omega)
  rw [hs, show layB.k = 1 from rfl, show (layB.zero).cells = #[Value.bool false] from rfl] at h
  rw [h]
  simp only [Int.toNat_natCast, made_one]
/-- A row whose first j cells are told. -/
def part (z : Value) (f : Nat → Value) (n j : Nat) : List Value := (List.range j).map f ++ List.replicate (n - j) z
theorem part_len {z : Value} {f : Nat → Value} {n j : Nat} (h : j ≤ n) : (part z f n j).length = n := by unfold part; simp; omega
theorem part_zero {z : Value} {f : Nat → Value} {n : Nat} : (part z f n 0).toArray = Array.replicate n z := by unfold part; simp
theorem part_all {z : Value} {f : Nat → Value} {n : Nat} : part z f n n = (List.range n).map f := by unfold part; simp
theorem part_set {z : Value} {f : Nat → Value} {n j : Nat} (h : j < n) : (part z f n j).toArray.setIfInBounds j (f j) = (part z f n (j + 1)).toArray := by
  unfold part
  rw [List.setIfInBounds_toArray, List.set_append_right _ _ (by simp)]
  rw [show n - j = (n - (j + 1)) + 1 by omega, List.replicate_succ, List.range_succ]
  simp
theorem part_at {z : Value} {f : Nat → Value} {n j : Nat} (h : j < n) : (part z f n j).toArray[j]? = some z := by
  unfold part
  rw [List.getElem?_toArray, List.getElem?_append_right (by simp)]
  simp only [List.length_map, List.length_range, Nat.sub_self]
  rw [List.getElem?_replicate, if_pos (by omega)]
/-- A table whose first i rows are told. -/
structure Tbl (w : World) (p0 n i : Nat) (q : Nat → Nat → Bool) (gs : Nat → Nat) : Prop where
  le : i ≤ n
  blk : Blk w p0 51 (part (.slice none 0 0) (fun j => .slice (some ⟨gs j, 0, none⟩) n n) n i).toArray
  gt : ∀ j, j < i → p0 < gs j
  row : ∀ j, j < i → Blk w (gs j) 4 (part (.bool false) (fun k => .bool (q j k)) n n).toArray
theorem part_congr {z : Value} {f g : Nat → Value} {n j : Nat} (h : ∀ k, k < j → f k = g k) : part z f n j = part z g n j := by
  unfold part
  rw [List.map_congr_left fun k hk => h k (List.mem_range.1 hk)]
theorem Tbl.rd {w : World} {p0 n : Nat} {q : Nat → Nat → Bool} {gs : Nat → Nat} (h : Tbl w p0 n n q gs) : RdM w (some ⟨p0, 0, none⟩) n q := by
  refine ⟨(List.range n).map fun j => ⟨some ⟨gs j, 0, none⟩, n, n⟩, by simp, ?_, fun i hi => ?_⟩
  · refine .inr ⟨p0, 0, rfl, h.blk.lt, fun i hi j v hv => ?_⟩
    have hi' : i < n := by simpa using hi
    have hj : j = 0 := by have := (List.getElem?_eq_some_iff.1 hv).1; simpa [laySl] using this
    subst hj
    rw [h.blk.cell, part_all]
    simp [laySl] at hv ⊢
    simp [hi', hv]
  · have hi' : i < n := by simpa using hi
    refine ⟨by simp, ?_⟩
    simp only [List.getElem_map, List.getElem_range]
    refine .inr ⟨gs i, 0, rfl, (h.row i hi').lt, fun k hk j v hv => ?_⟩
    have hk' : k < n := by simpa using hk
    have hj : j = 0 := by have := (List.getElem?_eq_some_iff.1 hv).1; simpa [layB] using this
    subst hj
    rw [(h.row i hi').cell, part_all]
    simp [layB] at hv ⊢
    simp [hk', hv]
theorem Tbl.alloc {w : World} {p0 n i : Nat} {q : Nat → Nat → Bool} {gs : Nat → Nat} (h : Tbl w p0 n i q gs) (o : Obj) : Tbl (w.alloc o) p0 n i q gs := ⟨h.le, h.blk.alloc o, h.gt, fun j hj => (h.row j hj).alloc o⟩
/-- One row more. -/
theorem Tbl.more {w w' : World} {p0 n i p1 : Nat} {q : Nat → Nat → Bool} {gs : Nat → Nat} (h : Tbl w p0 n i q gs) (hi : i < n) (hp : w.heap.size = p1)
    (hb : Blk w' p0 51 ((part (.slice none 0 0) (fun j => .slice (some ⟨gs j, 0, none⟩) n n) n i).toArray.setIfInBounds i (.slice (some ⟨p1, 0, none⟩) n n)))
    (hr : Blk w' p1 4 (part (.bool false) (fun k => .bool (q i k)) n n).toArray) (hk : ∀ g, g < p1 → g ≠ p0 → ∀ t cs, Blk w g t cs → Blk w' g t cs) : Tbl w' p0 n (i + 1) q (fun j => if j = i then p1 else gs j) := by
  have h0 := h.blk.lt
  refine ⟨hi, ?_, fun j hj => ?_, fun j hj => ?_⟩
  · have e : (part (.slice none 0 0) (fun j => Value.slice (some ⟨gs j, 0, none⟩) n n) n i) = part (.slice none 0 0) (fun j => Value.slice (some ⟨if j = i then p1 else gs j, 0, none⟩) n n) n i :=
      part_congr fun k hk => by rw [if_neg (by omega)]
    rw [e] at hb
    have := part_set (z := .slice none 0 0) (f := fun j => Value.slice (some ⟨if j = i then p1 else gs j, 0, none⟩) n n) hi
    simp only [if_pos] at this
    rw [this] at hb
    exact hb
  · by_cases e : j = i
    · show p0 < if j = i then p1 else gs j
      rw [if_pos e]; omega
    · show p0 < if j = i then p1 else gs j
      rw [if_neg e]; exact h.gt j (by omega)
  · by_cases e : j = i
    · show Blk w' (if j = i then p1 else gs j) _ _
      rw [if_pos e, e]; exact hr
    · show Blk w' (if j = i then p1 else gs j) _ _
      rw [if_neg e]
      have h1 := h.row j (by omega)
      have := h.gt j (by omega)
      exact hk _ (by have := h1.lt; omega) (by omega) _ _ h1
set_option maxRecDepth 100000 in
set_option maxHeartbeats 4000000 in
theorem relation_at (A : Option Addr) (es : List Ex) (n c : Nat) (hn : es.length = n) (hm : n ≤ 1000) (hf : EFew es) (w : World) (hr : RdEn w A es) (q : Nat → Nat → Bool) (hq : Abvs es n q) :
    Calls Try.prog 27 #[.slice A n c] w fun e w' => ∃ B, e = .returned (.slice B n n) ∧ RdM w' B n q ∧ Below w.heap.size w w' := by
  have HN := Lib.hid hn
  have HF := Lib.hid hf
  have HR := Lib.hid hr
  have HQ := Lib.hid hq
  have hmk := make_sl n (by omega) w
  have HMB : Hid (∀ W : World, (Instr.makeSlice 51 (.int .i64 (n : Int)) (.int .i64 (n : Int))).run Try.prog W = .ok (.slice (some ⟨W.heap.size, 0, none⟩) n n) (W.alloc (.cells (Array.replicate n (Value.bool false)) 4))) := fun W => make_bo n (by omega) W
  have HB0 := Lib.hid (gr1 w (.cells (Array.replicate n (Value.slice none 0 0)) 51)).below
  have HT0 : Hid (Tbl (w.alloc (.cells (Array.replicate n (Value.slice none 0 0)) 51)) w.heap.size n 0 q id) := ⟨Nat.zero_le _, by rw [part_zero]; exact Blk.new _ _ _, fun j hj => by omega, fun j hj => by omega⟩
  clear hn hf hr hq
  go_enter Try.func27, Try.ntmps27
  go_wp2_with fail
  clear hmk
  generalize w.alloc (.cells (Array.replicate n (Value.slice none 0 0)) 51) = w0 at *
  go_loopg [11] n (fun gg s11 wr => ∃ (i : Nat) (gs : Nat → Nat), i ≤ n ∧ n - i ≤ gg ∧ s11 = .int .i64 (i : Int) ∧ Hid (Tbl wr w.heap.size n i q gs) ∧ Hid (Below w.heap.size w wr))
  case atStart => exact ⟨0, id, Nat.zero_le _, by omega, rfl, HT0, HB0⟩
  case round =>
    obtain ⟨i, gs, hi, hgg, rfl, HT, HB⟩ := hrel
    clear HB0 HT0
    by_cases hlt : i < n
    · have w5 : (i : Int) < (n : Int) := by omega
      have hi' : i < es.length := by rw [HN.out]; exact hlt
      obtain ⟨g, off, rfl, hg, c0, c1, c2, hfx⟩ := RdEn.at3 HR.out hi'
      have hsx := HF.out _ (List.getElem_mem hi')
      obtain ⟨x, hx⟩ : ∃ x, es[i] = x := ⟨_, rfl⟩
      have HXE := Lib.hid hx
      rw [hx] at c0 c1 c2 hfx hsx
      clear hx
      obtain ⟨xi, xr, xA, xn, xc, xf⟩ := x
      obtain ⟨hf1, _, hf3⟩ := hfx
      dsimp only at c0 c1 c2 hsx hf1 hf3
      have HC := Lib.hid (And.intro c0 (And.intro c1 c2))
      have HGG : Hid (g < w.heap.size) := hg
      have HXL : Hid (xf.length = xn) := hf1
      have HXR := Lib.hid hf3
      have HXP := Lib.hid hsx
      clear c0 c1 c2 hg hf1 hf3 hsx
      have hmb := HMB.out wr
      have hT1 := HT.out.alloc (.cells (Array.replicate n (Value.bool false)) 4)
      have hx := hT1.blk
      have c0 : (wr.alloc (.cells (Array.replicate n (Value.bool false)) 4)).cell? ⟨w.heap.size, i, none⟩ = some (.slice none 0 0) := by rw [hx.cell]; exact part_at hlt
      have f0 := hx.frozen i
      have hl := hx.lt
      have hwp : w.heap.size < wr.heap.size := HT.out.blk.lt
      have HX := Lib.hid ((HT.out.blk.put i (.slice (some ⟨wr.heap.size, 0, none⟩) n n)).alloc (.cells (Array.replicate n (Value.bool false)) 4))
      have hsz : (wr.setCell ⟨w.heap.size, i, none⟩ (.slice (some ⟨wr.heap.size, 0, none⟩) n n)).heap.size = wr.heap.size := by simp
      have HY0 := Blk.new (wr.setCell ⟨w.heap.size, i, none⟩ (.slice (some ⟨wr.heap.size, 0, none⟩) n n)) 4 (Array.replicate n (Value.bool false))
      rw [hsz] at HY0
      have HY := Lib.hid HY0
      have HK : Hid (∀ g, g < wr.heap.size → g ≠ w.heap.size → ∀ t cs, Blk wr g t cs → Blk ((wr.setCell ⟨w.heap.size, i, none⟩ (.slice (some ⟨wr.heap.size, 0, none⟩) n n)).alloc (.cells (Array.replicate n (Value.bool false)) 4)) g t cs) := fun g _ h2 t cs h3 => (Blk.far h3 (p := ⟨w.heap.size, i, none⟩) h2 _).alloc _
      have hbs : Below w.heap.size w (wr.setCell ⟨w.heap.size, i, none⟩ (.slice (some ⟨wr.heap.size, 0, none⟩) n n)) := below_set HB.out (Nat.le_refl _)
      have HB1 : Hid (Below w.heap.size w ((wr.setCell ⟨w.heap.size, i, none⟩ (.slice (some ⟨wr.heap.size, 0, none⟩) n n)).alloc (.cells (Array.replicate n (Value.bool false)) 4))) := below_next hbs (Nat.le_refl _) (gr1 _ _).below
      clear hT1 hx HY0 HB hsz hbs
      go_wp2_with fail
      clear c0 f0 hl hmb
      generalize ((wr.setCell ⟨w.heap.size, i, none⟩ (.slice (some ⟨wr.heap.size, 0, none⟩) n n)).alloc (.cells (Array.replicate n (Value.bool false)) 4)) = wo at *
      generalize hpe : wr.heap.size = p1 at *
      obtain ⟨wp, rfl⟩ : ∃ x : World, x = wr := ⟨_, rfl⟩
      go_loopg [22] n (fun g2 s22 wy => ∃ j : Nat, j + g2 = n ∧ s22 = .int .i64 (j : Int) ∧ Hid (Touch p1 wo wy) ∧ Hid (Blk wy p1 4 (part (.bool false) (fun k => .bool (q i k)) n j).toArray))
      case atStart => exact ⟨0, by omega, rfl, Touch.refl _ _, by show Blk _ _ _ _; rw [part_zero]; exact HY.out⟩
      case round =>
        obtain ⟨j, hjg, rfl, HG, HY2⟩ := hrel
        have hpp : w.heap.size < p1 := hwp
        have HX2 := Lib.hid (Touch.blk HG.out HX.out (by omega))
        have HB2 := Lib.hid (Touch.below HG.out HB1.out HB1.out.size (by omega))
        cases gk with
        | zero =>
          obtain rfl : j = n := by omega
          have HT2 : Hid (Tbl wr w.heap.size j (i + 1) q (fun k => if k = i then p1 else gs k)) := Tbl.more HT.out hlt hpe HX2.out HY2.out (fun g h1 h2 t cs h3 => Touch.blk HG.out (HK.out g (by have := hpe; omega) h2 t cs h3) (by omega))
          go_wp2_with fail
          go_roundg (j - (i + 1))
          case measure => omega
          case rel => exact ⟨i + 1, _, by omega, Nat.le_refl _, by go_num, HT2, HB2⟩
        | succ gk =>
          have hjn : j < n := by omega
          have hj' : j < es.length := by rw [HN.out]; omega
          obtain ⟨g', off', e0, _, d0, d1, d2, hfy⟩ := RdEn.at3 HR.out hj'
          injection e0 with e0
          injection e0 with e1 e2
          subst e1; subst e2
          have hsy := HF.out _ (List.getElem_mem hj')
          obtain ⟨y, hy⟩ : ∃ y, es[j] = y := ⟨_, rfl⟩
          have HYE := Lib.hid hy
          rw [hy] at d0 d1 d2 hfy hsy
          clear hy
          have HQJ := Lib.hid (HQ.out.at_ HN.out hlt hjn (fun _ => HXE.out) (fun _ => HYE.out))
          obtain ⟨yi, yr, yA, yn, yc, yf⟩ := y
          obtain ⟨hf1, _, hf3⟩ := hfy
          dsimp only at d0 d1 d2 hsy hf1 hf3
          obtain ⟨qj, hqj⟩ : ∃ b, q i j = b := ⟨_, rfl⟩
          have HQV := Lib.hid hqj
          rw [hqj] at HQJ
          have HYL : Hid (yf.length = yn) := hf1
          have HYR := Lib.hid hf3
          have HE : Hid (∀ w', Below w.heap.size w w' → w'.cell? ⟨g, off + i * 3, none⟩ = some (.int .i64 xi) ∧ w'.cell? ⟨g, off + i * 3 + 1, none⟩ = some (.int .i64 xr) ∧ w'.cell? ⟨g, off + i * 3 + 2, none⟩ = some (.slice xA xn xc) ∧ w'.cell? ⟨g, off + j * 3, none⟩ = some (.int .i64 yi) ∧ w'.cell? ⟨g, off + j * 3 + 1, none⟩ = some (.int .i64 yr) ∧ w'.cell? ⟨g, off + j * 3 + 2, none⟩ = some (.slice yA yn yc)) := fun w' hb =>
            ⟨(hb.cell (p := ⟨g, off + i * 3, none⟩) HGG.out).trans HC.out.1, (hb.cell (p := ⟨g, off + i * 3 + 1, none⟩) HGG.out).trans HC.out.2.1, (hb.cell (p := ⟨g, off + i * 3 + 2, none⟩) HGG.out).trans HC.out.2.2, (hb.cell (p := ⟨g, off + j * 3, none⟩) HGG.out).trans d0, (hb.cell (p := ⟨g, off + j * 3 + 1, none⟩) HGG.out).trans d1, (hb.cell (p := ⟨g, off + j * 3 + 2, none⟩) HGG.out).trans d2⟩
          have w6 : (j : Int) < (n : Int) := by omega
          have hS0 : Below w.heap.size w wr.drew ∧ wr.drew.cell? ⟨w.heap.size, i, none⟩ = some (.slice (some ⟨p1, 0, none⟩) n n) := ⟨HB2.out.drew, by
            show wr.cell? _ = _
            rw [HX2.out.cell, Array.getElem?_setIfInBounds_self_of_lt]
            rw [List.size_toArray, part_len (by omega)]; exact hlt⟩
          have HG2 : Hid (Touch p1 wo wr.drew) := HG.out.trans (Touch.of_below (Below.refl _ _).drew)
          have HY3 : Hid (Blk wr.drew p1 4 (part (.bool false) (fun k => .bool (q i k)) n j).toArray) := HY2.out
          clear d0 d1 d2 hf1 hf3 hqj HX2 HB2 HG HY2
          go_wp2_with fail
          refine wp_region_held_drew (S := fun w' => Below w.heap.size w w' ∧ w'.cell? ⟨w.heap.size, i, none⟩ = some (.slice (some ⟨p1, 0, none⟩) n n)) (by kernel_rfl) hS0 (fun _ => ?_)
          refine wpAnyH_yes (i := 0) (d := 25) (v := ?_) rfl rfl (by kernel_rfl) (by kernel_rfl) (by kernel_rfl) (fun _ _ _ h => h) (by rfl) ?_ hS0 ?_
          rotate_left
          · intro w' hSw; skip; go_simp <;> with_reducible rfl
          simp only [Act.put, List.setIfInBounds_toArray, List.set_cons_zero, List.set_cons_succ]
          refine wpAnyH_yes (i := 1) (d := 26) (v := ?_) rfl rfl (by kernel_rfl) (by kernel_rfl) (by kernel_rfl) (fun _ _ _ h => h) (by rfl) ?_ hS0 ?_
          rotate_left
          · intro w' hSw; skip; go_simp <;> with_reducible rfl
          simp only [Act.put, List.setIfInBounds_toArray, List.set_cons_zero, List.set_cons_succ]
          refine wpAnyH_yes (i := 2) (d := 27) (v := ?_) rfl rfl (by kernel_rfl) (by kernel_rfl) (by kernel_rfl) (fun _ _ _ h => h) (by rfl) ?_ hS0 ?_
          rotate_left
          · intro w' hSw; skip; go_simp <;> with_reducible rfl
          simp only [Act.put, List.setIfInBounds_toArray, List.set_cons_zero, List.set_cons_succ]
          refine wpAnyH_yes (i := 3) (d := 28) (v := ?_) rfl rfl (by kernel_rfl) (by kernel_rfl) (by kernel_rfl) (fun _ _ _ h => h) (by rfl) ?_ hS0 ?_
          rotate_left
          · intro w' hSw; obtain ⟨hSb, hSc⟩ := hSw; obtain ⟨e0, e1, e2, e3, e4, e5⟩ := HE.out _ hSb; go_simp <;> with_reducible rfl
          simp only [Act.put, List.setIfInBounds_toArray, List.set_cons_zero, List.set_cons_succ]
          refine wpAnyH_yes (i := 4) (d := 29) (v := ?_) rfl rfl (by kernel_rfl) (by kernel_rfl) (by kernel_rfl) (fun _ _ _ h => h) (by rfl) ?_ hS0 ?_
          rotate_left
          · intro w' hSw; skip; go_simp <;> with_reducible rfl
          simp only [Act.put, List.setIfInBounds_toArray, List.set_cons_zero, List.set_cons_succ]
          refine wpAnyH_yes (i := 5) (d := 30) (v := ?_) rfl rfl (by kernel_rfl) (by kernel_rfl) (by kernel_rfl) (fun _ _ _ h => h) (by rfl) ?_ hS0 ?_
          rotate_left
          · intro w' hSw; skip; go_simp <;> with_reducible rfl
          simp only [Act.put, List.setIfInBounds_toArray, List.set_cons_zero, List.set_cons_succ]
          refine wpAnyH_yes (i := 6) (d := 31) (v := ?_) rfl rfl (by kernel_rfl) (by kernel_rfl) (by kernel_rfl) (fun _ _ _ h => h) (by rfl) ?_ hS0 ?_
          rotate_left
          · intro w' hSw; skip; go_simp <;> with_reducible rfl
          simp only [Act.put, List.setIfInBounds_toArray, List.set_cons_zero, List.set_cons_succ]
          refine wpAnyH_yes (i := 7) (d := 32) (v := ?_) rfl rfl (by kernel_rfl) (by kernel_rfl) (by kernel_rfl) (fun _ _ _ h => h) (by rfl) ?_ hS0 ?_
          rotate_left
          · intro w' hSw; skip; go_simp <;> with_reducible rfl
          simp only [Act.put, List.setIfInBounds_toArray, List.set_cons_zero, List.set_cons_succ]
          refine wpAnyH_yes (i := 8) (d := 33) (v := ?_) rfl rfl (by kernel_rfl) (by kernel_rfl) (by kernel_rfl) (fun _ _ _ h => h) (by rfl) ?_ hS0 ?_
          rotate_left
          · intro w' hSw; obtain ⟨hSb, hSc⟩ := hSw; obtain ⟨e0, e1, e2, e3, e4, e5⟩ := HE.out _ hSb; go_simp <;> with_reducible rfl
          simp only [Act.put, List.setIfInBounds_toArray, List.set_cons_zero, List.set_cons_succ]
          refine wpAnyH_yes (i := 9) (d := 34) (v := ?_) rfl rfl (by kernel_rfl) (by kernel_rfl) (by kernel_rfl) (fun _ _ _ h => h) (by rfl) ?_ hS0 ?_
          rotate_left
          · intro w' hSw; skip; go_simp <;> with_reducible rfl
          simp only [Act.put, List.setIfInBounds_toArray, List.set_cons_zero, List.set_cons_succ]
          refine wpAnyH_yes (i := 10) (d := 35) (v := ?_) rfl rfl (by kernel_rfl) (by kernel_rfl) (by kernel_rfl) (fun _ _ _ h => h) (by rfl) ?_ hS0 ?_
          rotate_left
          · intro w' hSw; skip; go_simp <;> with_reducible rfl
          simp only [Act.put, List.setIfInBounds_toArray, List.set_cons_zero, List.set_cons_succ]
          refine wpAnyH_yes (i := 11) (d := 36) (v := ?_) rfl rfl (by kernel_rfl) (by kernel_rfl) (by kernel_rfl) (fun _ _ _ h => h) (by rfl) ?_ hS0 ?_
          rotate_left
          · intro w' hSw; skip; go_simp <;> with_reducible rfl
          simp only [Act.put, List.setIfInBounds_toArray, List.set_cons_zero, List.set_cons_succ]
          refine wpAnyH_yes (i := 12) (d := 37) (v := ?_) rfl rfl (by kernel_rfl) (by kernel_rfl) (by kernel_rfl) (fun _ _ _ h => h) (by rfl) ?_ hS0 ?_
          rotate_left
          · intro w' hSw; obtain ⟨hSb, hSc⟩ := hSw; obtain ⟨e0, e1, e2, e3, e4, e5⟩ := HE.out _ hSb; go_simp <;> with_reducible rfl
          simp only [Act.put, List.setIfInBounds_toArray, List.set_cons_zero, List.set_cons_succ]
          generalize wr.drew = wD at *
          refine wpAnyH_one (i := 13) (by kernel_rfl) rfl (by rfl) (fun K hK => ?_)
          go_simp
          have hrx : RdQ wD xA xf := RdK.below HXR.out hS0.1
          have hry : RdQ wD yA yf := RdK.below HYR.out hS0.1
          with_reducible refine (above_at ⟨xi, xr, xA, xn, xc, xf⟩ ⟨yi, yr, yA, yn, yc, yf⟩ HXL.out HXP.out.1 HXP.out.2 HYL.out hsy.1 hsy.2 wD hrx hry qj HQJ.out).mono ?_
          rintro e w7 ⟨rfl, hb7⟩
          have hS1 : Below w.heap.size w w7 ∧ w7.cell? ⟨w.heap.size, i, none⟩ = some (.slice (some ⟨p1, 0, none⟩) n n) := ⟨below_next hS0.1 (Nat.le_refl _) hb7, (hb7.cell (p := ⟨w.heap.size, i, none⟩) (by have := HY3.out.lt; show w.heap.size < _; omega)).trans hS0.2⟩
          have HG3 := Lib.hid (HG2.out.trans (Touch.of_below hb7))
          have HY4 := Lib.hid (Blk.below HY3.out hb7 HY3.out.lt)
          clear hb7 hrx hry HG2 HY3 hS0
          go_wp2_with fail
          refine hK.out _ _ hS1 ?_
          clear hK
          refine wpAnyH_yes (i := 14) (d := 39) (v := ?_) rfl rfl (by kernel_rfl) (by kernel_rfl) (by kernel_rfl) (fun _ _ _ h => h) (by rfl) ?_ hS1 ?_
          rotate_left
          · intro w' hSw; skip; go_simp <;> with_reducible rfl
          simp only [Act.put, List.setIfInBounds_toArray, List.set_cons_zero, List.set_cons_succ]
          refine wpAnyH_one (i := 15) (by kernel_rfl) rfl (by rfl) (fun K hK => ?_)
          have hc : w7.cell? ⟨p1, j, none⟩ = some (.bool false) := by rw [HY4.out.cell]; exact part_at hjn
          have hfz := HY4.out.frozen j
          have hl7 := HY4.out.lt
          go_simp
          have hS2 : Below w.heap.size w (w7.setCell ⟨p1, j, none⟩ (.bool qj)) ∧ (w7.setCell ⟨p1, j, none⟩ (.bool qj)).cell? ⟨w.heap.size, i, none⟩ = some (.slice (some ⟨p1, 0, none⟩) n n) := ⟨below_set hS1.1 (by omega), by rw [← hS1.2]; exact World.cell?_setCell_other _ _ _ _ (by intro h; simp only [Addr.mk.injEq] at h; omega)⟩
          refine hK.out _ _ hS2 ?_
          clear hK
          refine wpAnyH_done (by kernel_rfl) ?_ _
          have HG5 := Lib.hid (HG3.out.set_ j (.bool qj))
          have HY5 : Hid (Blk (w7.setCell ⟨p1, j, none⟩ (.bool qj)) p1 4 (part (.bool false) (fun k => .bool (q i k)) n (j + 1)).toArray) := by
            have := Blk.put HY4.out j (.bool qj)
            rw [← HQV.out, part_set (z := .bool false) (f := fun k => .bool (q i k)) hjn] at this
            rw [← HQV.out]
            exact this
          generalize w7.setCell ⟨p1, j, none⟩ (.bool qj) = w8 at *
          clear hc hfz hl7 hS1 hS2 HG3 HY4
          go_wp2_with fail
          go_roundg gk
          case measure => omega
          case rel => exact ⟨j + 1, by omega, by go_num, HG5, HY5⟩
    · obtain rfl : i = n := by omega
      go_wp2_with fail
      go_ret
      exact ⟨_, rfl, HT.out.rd, HB.out⟩
end Go.Proofs.Ytckabmlilbkmbaa
namespace Go.Proofs.Ytckabmlilbkmbaa
open Go.RowKit Go.ChangeShapes Go.WideShapes Go.Deep Go.Sort Spans Tb
/-- Pairs in new memory. -/
def GivesN (w : World) (l : List (Int × Int)) (e : Ending) (w' : World) : Prop := ∃ (B : Option Addr) (m d : Nat), e = .returned (.slice B m d) ∧ l.length = m ∧ m ≤ d ∧ OwnZ layN w' w.heap.size (.slice B m d) l ∧ Below w.heap.size w w'
theorem EFew.ids {es : List Ex} {n i : Nat} (hn : es.length = n) (hi : i < n) {w : World} {g off : Nat} (hr : RdEn w (some ⟨g, off, none⟩) es) : g < w.heap.size ∧ w.cell? ⟨g, off + i * 3, none⟩ = some (.int .i64 (idAt es i)) := by
  have hi' : i < es.length := by omega
  obtain ⟨g', off', e0, hg, d0, _⟩ := RdEn.at3 hr hi'
  injection e0 with e0
  injection e0 with e1 e2
  subst e1; subst e2
  exact ⟨hg, by rw [idAt_is hi']; exact d0⟩
theorem ents_addr {es : List Ex} {w : World} {A : Option Addr} (hr : RdEn w A es) (h : 0 < es.length) : ∃ g off, A = some ⟨g, off, none⟩ := by
  obtain ⟨g, off, e, _⟩ := RdEn.at3 hr h
  exact ⟨g, off, e⟩
theorem pair_room {k i n : Nat} {q : Nat → Nat → Bool} {id : Nat → Int} (hk : k ≤ n) (hi : i < n) (hn : n ≤ 1000) : (Po.upTo q id n i k).length ≤ 1001000 := by
  have h1 := Po.upTo_len (q := q) (id := id) (n := n) (i := i) (k := k)
  have h2 : i * n ≤ 1000 * 1000 := Nat.mul_le_mul (by omega) hn
  omega
set_option maxRecDepth 100000 in
set_option maxHeartbeats 4000000 in
theorem edges_at (A : Option Addr) (es : List Ex) (n c : Nat) (hn : es.length = n) (hm : n ≤ 1000) (hf : EFew es) (w : World) (hr : RdEn w A es) (q : Nat → Nat → Bool) (hq : Abvs es n q) :
    Calls Try.prog 18 #[.slice A n c] w (GivesN w (Po.edgesL q (idAt es) n)) := by
  have HN := Lib.hid hn
  have HR := Lib.hid hr
  have hrel0 := relation_at A es n c hn hm hf w hr q hq
  obtain ⟨id, hid⟩ : ∃ id, idAt es = id := ⟨_, rfl⟩
  have HID := Lib.hid hid
  rw [hid]
  clear hn hf hr hq hid
  go_enter Try.func18, Try.ntmps18
  go_wp2_with fail
  refine hrel0.mono ?_
  rintro e w1 ⟨M, rfl, hM, hb⟩
  have HBW := Lib.hid hb
  have HM1 := Lib.hid hM
  have HR1 := Lib.hid (HR.out.below hb)
  have HB0 := Lib.hid (gr1 w1 (.cells #[] 38)).below
  have HO0 := Lib.hid (OwnZ.empty (L := layN) w1 w1.heap.size (Nat.le_refl _))
  clear hrel0 hM hb HR
  go_wp2_with fail
  go_loopg [4, 13] n (fun gg s4 s13 wr => ∃ (i m d : Nat) (B : Option Addr), i ≤ n ∧ n - i ≤ gg ∧ s13 = .int .i64 (i : Int) ∧ s4 = .slice B m d ∧ m ≤ d ∧ Hid ((Po.upTo q id n i 0).length = m) ∧ Hid (OwnZ layN wr w1.heap.size (.slice B m d) (Po.upTo q id n i 0)) ∧ Hid (Below w1.heap.size w1 wr))
  case atStart => exact ⟨0, 0, 0, _, Nat.zero_le _, by omega, rfl, rfl, Nat.le_refl _, rfl, HO0, HB0⟩
  case round =>
    obtain ⟨i, m, d, B, hi, hgg, rfl, rfl, hmd, HM, HO, HB⟩ := hrel
    clear HB0 HO0
    by_cases hlt : i < n
    · have w5 : (i : Int) < (n : Int) := by omega
      go_wp2_with fail
      go_step3
      go_wp2_with fail
      go_step3
      go_wp2_with fail
      obtain ⟨wo, rfl⟩ : ∃ x : World, x = wr := ⟨_, rfl⟩
      go_loopg [4, 18] n (fun g2 s4 s18 wy => ∃ (k m d : Nat) (B : Option Addr), k ≤ n ∧ n - k ≤ g2 ∧ s18 = .int .i64 (k : Int) ∧ s4 = .slice B m d ∧ m ≤ d ∧ Hid ((Po.upTo q id n i k).length = m) ∧ Hid (OwnZ layN wy w1.heap.size (.slice B m d) (Po.upTo q id n i k)) ∧ Hid (Below w1.heap.size w1 wy))
      case atStart => exact ⟨0, m, d, B, Nat.zero_le _, by omega, rfl, rfl, hmd, HM, HO, HB⟩
      case round =>
        clear HM HO HB hmd
        obtain ⟨k, m, d, B, hk, hgg2, rfl, rfl, hmd, HM, HO, HB⟩ := hrel
        by_cases hkn : k < n
        · have w6 : (k : Int) < (n : Int) := by omega
          obtain ⟨gm, om, rfl⟩ := HM1.out.addr (by omega)
          obtain ⟨hgm, g2, o2, c2, r0, hg2, r1⟩ := RdM.get (HM1.out.below HB.out) hlt hkn
          obtain ⟨qk, hqk⟩ : ∃ b, q i k = b := ⟨_, rfl⟩
          rw [hqk] at r1
          have HQK := Lib.hid hqk
          clear hqk
          cases qk with
          | false =>
            have hU : Po.upTo q id n i (k + 1) = Po.upTo q id n i k := Po.upTo_no (Po.edge_no HQK.out)
            have HM3 : Hid ((Po.upTo q id n i (k + 1)).length = m) := by rw [hU]; exact HM.out
            have HO3 : Hid (OwnZ layN wr w1.heap.size (.slice B m d) (Po.upTo q id n i (k + 1))) := by rw [hU]; exact HO.out
            clear hU
            go_wp2_with fail
            go_roundg (n - (k + 1))
            case measure => omega
            case rel => exact ⟨k + 1, m, d, B, by omega, Nat.le_refl _, by go_num, rfl, hmd, HM3, HO3, HB⟩
          | true =>
            go_wp2_with fail
            clear r0 r1 hgm hg2
            obtain ⟨wp, rfl⟩ : ∃ x : World, x = wr := ⟨_, rfl⟩
            go_loopg [31] n (fun g3 s31 wz => ∃ b : Nat, b + g3 = n ∧ s31 = .int .i64 (b : Int) ∧ wp = wz ∧ Hid (∀ j, j < b → (q i j && q j k) = false))
            case atStart => exact ⟨0, by omega, rfl, rfl, fun j hj => by omega⟩
            case round =>
              obtain ⟨b, hbg, rfl, rfl, HL⟩ := hrel
              cases gk with
              | zero =>
                obtain rfl : b = n := by omega
                have hU : Po.upTo q id b i (k + 1) = Po.upTo q id b i k ++ [(id i, id k)] := Po.upTo_yes (Po.edge_yes HQK.out HL.out)
                have HU := Lib.hid hU
                obtain ⟨g, off, rfl⟩ := ents_addr HR1.out (by rw [HN.out]; omega)
                have he1 := EFew.ids HN.out hlt HR1.out
                have he2 := EFew.ids HN.out hkn HR1.out
                rw [HID.out] at he1 he2
                have HE : Hid (∀ w', Below w1.heap.size w1 w' → w'.cell? ⟨g, off + i * 3, none⟩ = some (.int .i64 (id i)) ∧ w'.cell? ⟨g, off + k * 3, none⟩ = some (.int .i64 (id k))) := fun w' hb =>
                  ⟨(hb.cell (p := ⟨g, off + i * 3, none⟩) he1.1).trans he1.2, (hb.cell (p := ⟨g, off + k * 3, none⟩) he1.1).trans he2.2⟩
                clear hU he1 he2
                have hS0 : Below w1.heap.size w1 wp.drew := HB.out.drew
                have HO3 : Hid (OwnZ layN wp.drew w1.heap.size (.slice B m d) (Po.upTo q id b i k)) := HO.out
                clear HO HB
                go_wp2_with fail
                refine wp_region_held_drew (S := fun w' => Below w1.heap.size w1 w') (by kernel_rfl) hS0 (fun _ => ?_)
                refine wpAnyH_yes (i := 0) (d := 51) (v := ?_) rfl rfl (by kernel_rfl) (by kernel_rfl) (by kernel_rfl) (fun _ _ _ h => h) (by rfl) ?_ hS0 ?_
                rotate_left
                · intro w' hSw; skip; go_simp <;> with_reducible rfl
                simp only [Act.put, List.setIfInBounds_toArray, List.set_cons_zero, List.set_cons_succ]
                refine wpAnyH_yes (i := 1) (d := 52) (v := ?_) rfl rfl (by kernel_rfl) (by kernel_rfl) (by kernel_rfl) (fun _ _ _ h => h) (by rfl) ?_ hS0 ?_
                rotate_left
                · intro w' hSw; skip; go_simp <;> with_reducible rfl
                simp only [Act.put, List.setIfInBounds_toArray, List.set_cons_zero, List.set_cons_succ]
                refine wpAnyH_yes (i := 2) (d := 53) (v := ?_) rfl rfl (by kernel_rfl) (by kernel_rfl) (by kernel_rfl) (fun _ _ _ h => h) (by rfl) ?_ hS0 ?_
                rotate_left
                · intro w' hSw; skip; go_simp <;> with_reducible rfl
                simp only [Act.put, List.setIfInBounds_toArray, List.set_cons_zero, List.set_cons_succ]
                refine wpAnyH_yes (i := 3) (d := 54) (v := ?_) rfl rfl (by kernel_rfl) (by kernel_rfl) (by kernel_rfl) (fun _ _ _ h => h) (by rfl) ?_ hS0 ?_
                rotate_left
                · intro w' hSw; skip; go_simp <;> with_reducible rfl
                simp only [Act.put, List.setIfInBounds_toArray, List.set_cons_zero, List.set_cons_succ]
                refine wpAnyH_yes (i := 4) (d := 55) (v := ?_) rfl rfl (by kernel_rfl) (by kernel_rfl) (by kernel_rfl) (fun _ _ _ h => h) (by rfl) ?_ hS0 ?_
                rotate_left
                · intro w' hSw; skip; go_simp <;> with_reducible rfl
                simp only [Act.put, List.setIfInBounds_toArray, List.set_cons_zero, List.set_cons_succ]
                refine wpAnyH_yes (i := 5) (d := 56) (v := ?_) rfl rfl (by kernel_rfl) (by kernel_rfl) (by kernel_rfl) (fun _ _ _ h => h) (by rfl) ?_ hS0 ?_
                rotate_left
                · intro w' hSw; obtain ⟨e0, e1⟩ := HE.out _ hSw; go_simp <;> with_reducible rfl
                simp only [Act.put, List.setIfInBounds_toArray, List.set_cons_zero, List.set_cons_succ]
                refine wpAnyH_yes (i := 6) (d := 57) (v := ?_) rfl rfl (by kernel_rfl) (by kernel_rfl) (by kernel_rfl) (fun _ _ _ h => h) (by rfl) ?_ hS0 ?_
                rotate_left
                · intro w' hSw; skip; go_simp <;> with_reducible rfl
                simp only [Act.put, List.setIfInBounds_toArray, List.set_cons_zero, List.set_cons_succ]
                refine wpAnyH_yes (i := 7) (d := 58) (v := ?_) rfl rfl (by kernel_rfl) (by kernel_rfl) (by kernel_rfl) (fun _ _ _ h => h) (by rfl) ?_ hS0 ?_
                rotate_left
                · intro w' hSw; skip; go_simp <;> with_reducible rfl
                simp only [Act.put, List.setIfInBounds_toArray, List.set_cons_zero, List.set_cons_succ]
                refine wpAnyH_yes (i := 8) (d := 59) (v := ?_) rfl rfl (by kernel_rfl) (by kernel_rfl) (by kernel_rfl) (fun _ _ _ h => h) (by rfl) ?_ hS0 ?_
                rotate_left
                · intro w' hSw; skip; go_simp <;> with_reducible rfl
                simp only [Act.put, List.setIfInBounds_toArray, List.set_cons_zero, List.set_cons_succ]
                refine wpAnyH_yes (i := 9) (d := 60) (v := ?_) rfl rfl (by kernel_rfl) (by kernel_rfl) (by kernel_rfl) (fun _ _ _ h => h) (by rfl) ?_ hS0 ?_
                rotate_left
                · intro w' hSw; skip; go_simp <;> with_reducible rfl
                simp only [Act.put, List.setIfInBounds_toArray, List.set_cons_zero, List.set_cons_succ]
                refine wpAnyH_yes (i := 10) (d := 61) (v := ?_) rfl rfl (by kernel_rfl) (by kernel_rfl) (by kernel_rfl) (fun _ _ _ h => h) (by rfl) ?_ hS0 ?_
                rotate_left
                · intro w' hSw; obtain ⟨e0, e1⟩ := HE.out _ hSw; go_simp <;> with_reducible rfl
                simp only [Act.put, List.setIfInBounds_toArray, List.set_cons_zero, List.set_cons_succ]
                refine wpAnyH_yes (i := 11) (d := 62) (v := ?_) rfl rfl (by kernel_rfl) (by kernel_rfl) (by kernel_rfl) (fun _ _ _ h => h) (by rfl) ?_ hS0 ?_
                rotate_left
                · intro w' hSw; skip; go_simp <;> with_reducible rfl
                simp only [Act.put, List.setIfInBounds_toArray, List.set_cons_zero, List.set_cons_succ]
                generalize wp.drew = wD at *
                refine wpAnyH_one (i := 12) (by kernel_rfl) rfl (by rfl) (fun K hK => ?_)
                go_simp
                have hbq : Below wD.heap.size wD (wD.alloc (.cells #[.int .i64 (id i), .int .i64 (id k)] 38)) := (gr1 wD _).below
                have hS1 := below_next hS0 (Nat.le_refl _) hbq
                have hrx := rdz_one layN wD (id i, id k) 38 #[.int .i64 (id i), .int .i64 (id k)] rfl
                have ho3 := OwnZ.below HO3.out hbq
                have hs3 : w1.heap.size ≤ (wD.alloc (.cells #[.int .i64 (id i), .int .i64 (id k)] 38)).heap.size := hS1.size
                have hlm := HM.out
                have hrm := pair_room (q := q) (id := id) (k := k) hk hlt hm
                rw [hlm] at hrm
                refine hK.out _ _ hS1 ?_
                clear hK
                refine wpAnyH_one (i := 13) (by kernel_rfl) rfl (by rfl) (fun K hK => ?_)
                refine op_append_z layN (.tmp 51) (.tmp 63) 33 underN (by rfl) w1.heap.size _ (Po.upTo q id b i k) (by rfl) ho3 _ [(id i, id k)] 1 1 (by rfl) hrx rfl (by rw [maxLen_num, hlm]; omega) (by simp only [layN]; rw [hlm]; omega) hs3 ?_
                intro v2 y2 o2 b2
                rw [← HU.out] at o2
                have hl2 : (Po.upTo q id b i (k + 1)).length = m + 1 := by rw [HU.out, List.length_append, hlm]; rfl
                obtain ⟨B2, d2, hv2, hd2, _⟩ := OwnZ.form o2 hl2
                subst hv2
                have HB3 := Lib.hid (b2 w1 hS1)
                have HO4 := Lib.hid o2
                have HM4 := Lib.hid hl2
                refine hK.out _ _ HB3.out ?_
                clear hK b2 o2 hl2 hS1 hrx ho3 hs3 hlm hrm hbq
                simp only [Act.put, List.setIfInBounds_toArray, List.set_cons_zero, List.set_cons_succ]
                refine wpAnyH_yes (i := 14) (d := 4) (v := ?_) rfl rfl (by kernel_rfl) (by kernel_rfl) (by kernel_rfl) (fun _ _ _ h => h) (by rfl) ?_ HB3.out ?_
                rotate_left
                · intro w' hSw; skip; go_simp <;> with_reducible rfl
                simp only [Act.put, List.setIfInBounds_toArray, List.set_cons_zero, List.set_cons_succ]
                refine wpAnyH_done (by kernel_rfl) ?_ _
                go_wp2_with fail
                go_roundg (b - (k + 1))
                case measure => omega
                case rel => exact ⟨k + 1, m + 1, d2, B2, by omega, Nat.le_refl _, by go_num, rfl, hd2, HM4, HO4, HB3⟩
              | succ gk =>
                have hbn : b < n := by omega
                have w7 : (b : Int) < (n : Int) := by omega
                obtain ⟨hgm, g2, o2, c2, r0, hg2, r1⟩ := RdM.get (HM1.out.below HB.out) hlt hbn
                obtain ⟨_, g3, o3, c3, r2, hg3, r3⟩ := RdM.get (HM1.out.below HB.out) hbn hkn
                obtain ⟨u, hu⟩ : ∃ x, q i b = x := ⟨_, rfl⟩
                obtain ⟨v, hv⟩ : ∃ x, q b k = x := ⟨_, rfl⟩
                have HUV : Hid ((q i b && q b k) = (u && v)) := by rw [hu, hv]; rfl
                rw [hu] at r1
                rw [hv] at r3
                clear hu hv
                by_cases hc : (u && v) = true
                · have hU : Po.upTo q id n i (k + 1) = Po.upTo q id n i k := Po.upTo_no (Po.edge_not hbn (HUV.out.trans hc))
                  have HM3 : Hid ((Po.upTo q id n i (k + 1)).length = m) := by rw [hU]; exact HM.out
                  have HO3 : Hid (OwnZ layN wp w1.heap.size (.slice B m d) (Po.upTo q id n i (k + 1))) := by rw [hU]; exact HO.out
                  obtain ⟨rfl, rfl⟩ : u = true ∧ v = true := by simpa using hc
                  clear hU hc
                  go_wp2_with fail
                  go_roundg (n - (k + 1))
                  case measure => omega
                  case rel => exact ⟨k + 1, m, d, B, by omega, Nat.le_refl _, by go_num, rfl, hmd, HM3, HO3, HB⟩
                · have HL2 : Hid (∀ j, j < b + 1 → (q i j && q j k) = false) := fun j hj => by
                    by_cases e : j = b
                    · rw [e, HUV.out]; simpa using hc
                    · exact HL.out j (by omega)
                  cases u with
                  | false =>
                    go_wp2_with fail
                    go_roundg gk
                    case measure => omega
                    case rel => exact ⟨b + 1, by omega, by go_num, rfl, HL2⟩
                  | true =>
                    cases v with
                    | true => exact absurd rfl hc
                    | false =>
                      go_wp2_with fail
                      go_roundg gk
                      case measure => omega
                      case rel => exact ⟨b + 1, by omega, by go_num, rfl, HL2⟩
        · obtain rfl : k = n := by omega
          have hU := Po.upTo_row (q := q) (id := id) (n := k) (i := i)
          have HM3 : Hid ((Po.upTo q id k (i + 1) 0).length = m) := by rw [← hU]; exact HM.out
          have HO3 : Hid (OwnZ layN wr w1.heap.size (.slice B m d) (Po.upTo q id k (i + 1) 0)) := by rw [← hU]; exact HO.out
          clear hU
          go_wp2_with fail
          rw [Exit.noGoto_normal]
          go_wp2_with fail
          go_roundg (k - (i + 1))
          case measure => omega
          case rel => exact ⟨i + 1, m, d, B, by omega, Nat.le_refl _, by go_num, rfl, hmd, HM3, HO3, HB⟩
    · obtain rfl : i = n := by omega
      go_wp2_with fail
      try rw [Exit.noGoto_ret]
      go_ret
      have hU := Po.upTo_all (q := q) (id := id) (n := i)
      exact ⟨B, m, d, rfl, by rw [← hU]; exact HM.out, hmd, by rw [← hU]; exact HO.out.less HBW.out.size, below_next HBW.out (Nat.le_refl _) HB.out⟩
end Go.Proofs.Ytckabmlilbkmbaa
namespace Go.Proofs.Ytckabmlilbkmbaa
open Go.RowKit Go.ChangeShapes Go.WideShapes Go.Deep Go.Sort
theorem run_cutN {w : World} {A : Option Addr} {es : List (Int × Int)} {n cap k : Nat} (hr : RdZ layN w A es) (hn : es.length = n) (hk : k ≤ n) (hc : n ≤ cap) :
    ∃ A', (∀ W, (Instr.slice 33 (.slice A n cap) (some (.int .i64 (k : Int))) none none).run Try.prog W = .ok (.slice A' (n - k) (cap - k)) W) ∧ RdZ layN w A' (es.drop k) := by
  by_cases hck : cap = k
  · refine ⟨A, fun W => ?_, .inl (List.drop_eq_nil_of_le (by omega))⟩
    have h1 : (0 : Int) ≤ (k : Int) := by omega
    have h2 : (k : Int) ≤ (n : Int) := by omega
    subst hck
    go_simp
  · refine ⟨A.map fun x => x.add (k * 2), fun W => ?_, ?_⟩
    · have h1 : (0 : Int) ≤ (k : Int) := by omega
      have h2 : (k : Int) ≤ (n : Int) := by omega
      go_simp
    · rcases hr with rfl | ⟨g, off, rfl, hg, hcell⟩
      · exact .inl (by simp)
      · refine .inr ⟨g, off + k * 2, by simp [add_lit], hg, fun i hi j v hv => ?_⟩
        have hi' : k + i < es.length := by simp at hi; omega
        rw [List.getElem_drop] at hv
        have := hcell (k + i) hi' j v hv
        rw [show off + (k + i) * layN.k + j = off + k * 2 + i * layN.k + j by show off + (k + i) * 2 + j = off + k * 2 + i * 2 + j; omega] at this
        exact this
theorem run_headN (A : Option Addr) (n cap k : Nat) (hk : k ≤ n) (hc : n ≤ cap) (W : World) :
    (Instr.slice 33 (.slice A n cap) none (some (.int .i64 (k : Int))) none).run Try.prog W = .ok (.slice A k cap) W := by
  have h1 : (0 : Int) ≤ (k : Int) := by omega
  have h2 : (k : Int) ≤ (cap : Int) := by omega
  go_simp
end Go.Proofs.Ytckabmlilbkmbaa
