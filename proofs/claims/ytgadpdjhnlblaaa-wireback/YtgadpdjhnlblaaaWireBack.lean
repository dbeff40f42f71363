/-
  What was laid is read as it was: for all numbers, ints and texts, one behind the other, the call of the law answers true, and all arguments read behind it as they read before. No condition.
-/
import Derived.Test.YtgadpdjhnlblaaaWSml
import Derived.Test.YtgadpdjhnlblaaaArgs
namespace Go.Proofs.Ytgadpdjhnlblaaa
open Go.RowKit Go.ChangeShapes Go.WideShapes Go.ChangeAt
/-- Things laid one behind the other. -/
def lays {α : Type} (f : α → List UInt8) (l : List α) : List UInt8 := (l.map f).flatten
theorem lays_take {α : Type} (f : α → List UInt8) (l : List α) (k : Nat) (h : k < l.length) : lays f (l.take (k + 1)) = lays f (l.take k) ++ f l[k] := by
  unfold lays
  rw [List.take_succ_eq_append_getElem h, List.map_append, List.flatten_append]
  congr 1
  simp
theorem lays_drop {α : Type} (f : α → List UInt8) (l : List α) (k : Nat) (h : k < l.length) : lays f (l.drop k) = f l[k] ++ lays f (l.drop (k + 1)) := by
  unfold lays
  rw [List.drop_eq_getElem_cons h, List.map_cons, List.flatten_cons]
theorem numV_put (n : Nat) (r : List UInt8) (e : Int) (h : n < 2 ^ 64) : (Wire.St.mk (Wire.put n ++ r) e).numV = n := by
  unfold Wire.St.numV; rw [Wire.num_put n h]
theorem numS_put (n : Nat) (r : List UInt8) (e : Int) (h : n < 2 ^ 64) : (Wire.St.mk (Wire.put n ++ r) e).numS = ⟨r, e⟩ := by
  unfold Wire.St.numS; simp only; rw [Wire.num_put n h]; simp
theorem text_over (s r : List UInt8) (e : Int) (h : s.length ≤ 300) : (Wire.St.mk (Wire.text s ++ r) e).over 300 = false := by
  unfold Wire.St.over Wire.text
  rw [List.append_assoc, numV_put _ _ _ (by omega)]; simp; omega
theorem text_upV (s r : List UInt8) (e : Int) (h : s.length ≤ 300) : (Wire.St.mk (Wire.text s ++ r) e).uptoV 300 = s.length := by
  unfold Wire.St.uptoV
  rw [text_over s r e h]
  unfold Wire.text
  rw [List.append_assoc, numV_put _ _ _ (by omega)]; simp
theorem text_upS (s r : List UInt8) (e : Int) (h : s.length ≤ 300) : (Wire.St.mk (Wire.text s ++ r) e).uptoS 300 = ⟨s ++ r, e⟩ := by
  unfold Wire.St.uptoS
  rw [text_over s r e h]
  unfold Wire.text
  rw [List.append_assoc, numS_put _ _ _ (by omega)]; simp
theorem textV_text (s r : List UInt8) (e : Int) (h : s.length ≤ 300) : (Wire.St.mk (Wire.text s ++ r) e).textV 300 = s := by
  unfold Wire.St.textV
  rw [text_upV s r e h, text_upS s r e h, if_neg (by simp)]; simp
theorem textS_text (s r : List UInt8) (e : Int) (h : s.length ≤ 300) : (Wire.St.mk (Wire.text s ++ r) e).textS 300 = ⟨r, e⟩ := by
  unfold Wire.St.textS
  rw [text_upV s r e h, text_upS s r e h, if_neg (by simp)]; simp
set_option maxRecDepth 100000 in
set_option maxHeartbeats 800000 in
theorem wback_out (w : World) (A B C : Option Addr) (l1 c1 l2 c2 l3 c3 : Nat) (h : 30 < l1 ∨ 30 < l2 ∨ 30 < l3) :
    Calls Try.prog 5 #[.slice A l1 c1, .slice B l2 c2, .slice C l3 c3] w fun e w' => e = .returned (.bool true) ∧ Below w.heap.size w w' := by
  go_enter Try.func5, Try.ntmps5
  go_wp2_with fail
  refine (small_any _).mono ?_
  rintro e w1 ⟨rfl, hb1⟩
  by_cases h1 : (30 : Int) < (l1 : Int)
  · have hd1 : decide ((30 : Int) < (l1 : Int)) = true := by simpa using h1
    go_wp2_with fail
    go_ret
    exact ⟨rfl, hb1⟩
  · have hd1 : decide ((30 : Int) < (l1 : Int)) = false := by simpa using h1
    by_cases h2 : (30 : Int) < (l2 : Int)
    · have hd2 : decide ((30 : Int) < (l2 : Int)) = true := by simpa using h2
      go_wp2_with fail
      go_ret
      exact ⟨rfl, hb1⟩
    · have hd2 : decide ((30 : Int) < (l2 : Int)) = false := by simpa using h2
      have hd3 : decide ((30 : Int) < (l3 : Int)) = true := by simp; omega
      go_wp2_with fail
      go_ret
      exact ⟨rfl, hb1⟩
/-- Bytes that were laid so far. -/
def Laid (w : World) (v : Value) (bs : List UInt8) (most : Nat) : Prop := ∃ A n c, v = .slice A n c ∧ bs.length = n ∧ n ≤ most ∧ Rd w A bs
def fU (z : Int) : List UInt8 := Wire.put z.toNat
def fI (z : Int) : List UInt8 := Wire.put (Wire.zig z)
set_option maxRecDepth 100000 in
set_option maxHeartbeats 3200000 in
theorem wback_in (w : World) (A B C : Option Addr) (us is : List Int) (ts : List (List UInt8)) (l1 c1 l2 c2 l3 c3 : Nat) (hl1 : us.length = l1) (hl2 : is.length = l2) (hl3 : ts.length = l3) (h1 : l1 ≤ 30) (h2 : l2 ≤ 30) (h3 : l3 ≤ 30)
    (rd1 : RdV w A (us.map (Value.int .u64))) (rd2 : RdV w B (is.map (Value.int .i64))) (rd3 : RdV w C (ts.map fun s => Value.string ⟨s.toArray⟩))
    (hw1 : ∀ z ∈ us, (Lit.int .u64 z).wf = true) (hw2 : ∀ z ∈ is, (Lit.int .i64 z).wf = true) :
    Calls Try.prog 5 #[.slice A l1 c1, .slice B l2 c2, .slice C l3 c3] w fun e w' => e = .returned (.bool true) ∧ Below w.heap.size w w' := by
  have H1 := Lib.hid hl1
  have H2 := Lib.hid hl2
  have H3 := Lib.hid hl3
  have W1 := Lib.hid hw1
  have W2 := Lib.hid hw2
  clear hl1 hl2 hl3 hw1 hw2
  have hd1 : decide ((30 : Int) < (l1 : Int)) = false := by simp; omega
  have hd2 : decide ((30 : Int) < (l2 : Int)) = false := by simp; omega
  have hd3 : decide ((30 : Int) < (l3 : Int)) = false := by simp; omega
  go_enter Try.func5, Try.ntmps5
  go_wp2_with fail
  refine (small_any _).mono ?_
  rintro e w1 ⟨rfl, hb1⟩
  go_wp2_with fail
  go_loopw [8, 9] (fun v i wr => ∃ k : Nat, k ≤ l1 ∧ i = .int .i64 (k : Int) ∧ Below w.heap.size w wr ∧ Laid wr v (lays fU (us.take k)) (10 * k)) (fun _ i _ => l1 - (intOf i).toNat)
  case atStart => exact ⟨0, by omega, rfl, hb1, none, 0, 0, rfl, rfl, by omega, .inl rfl⟩
  case round =>
    obtain ⟨k, hk, rfl, hbr, D, n, c, rfl, hn, hnm, hrd⟩ := hrel
    have HN := Lib.hid hn
    clear hn hb1
    by_cases hlt : k < l1
    · have hku : k < us.length := by rw [H1.out]; exact hlt
      obtain ⟨g2, off, rfl, hg2, hc⟩ := (rd1.below hbr).at_ (k := k) (by simpa using hku)
      rw [List.getElem_map] at hc
      have hwf := bounds_u64 (W1.out _ (List.getElem_mem hku))
      have HT := Lib.hid (lays_take fU us k hku)
      generalize us[k] = z at *
      obtain ⟨m, rfl⟩ := Int.eq_ofNat_of_zero_le hwf.1
      have HM : Hid (m < 2 ^ 64) := by have := hwf.2; show _ < _; omega
      clear hwf
      have hpl := Wire.put_len_le m HM.out
      go_wp2_with fail
      refine (put_at D _ n c m (n + (Wire.put m).length) HN.out rfl HM.out (by omega) _ hrd).mono ?_
      rintro e w2 ⟨g, rfl, hg, hb2, hB2⟩
      replace hb2 := below_next hbr (Nat.le_refl _) hb2
      go_wp2_with fail
      go_roundw
      case rel =>
        refine ⟨k + 1, by omega, by go_num, hb2, _, _, _, rfl, ?_, by omega, ?_⟩
        · rw [HT.out, List.length_append, HN.out]; rfl
        · rw [HT.out]; exact hB2.rd
      case measure => simp [intOf]; omega
    · obtain rfl : k = l1 := by omega
      rw [List.take_of_length_le (by rw [H1.out]; omega)] at hrd
      have HN1 : Hid ((lays fU us).length = n) := by
        have := HN.out
        rwa [List.take_of_length_le (by rw [H1.out]; omega)] at this
      clear HN
      go_wp2_with fail
      have hb1 := hbr
      have hn1 : n ≤ 300 := by omega
      go_loopw [8, 10] (fun v i wr => ∃ j : Nat, j ≤ l2 ∧ i = .int .i64 (j : Int) ∧ Below w.heap.size w wr ∧ Laid wr v (lays fU us ++ lays fI (is.take j)) (300 + 10 * j)) (fun _ i _ => l2 - (intOf i).toNat)
      case atStart => exact ⟨0, by omega, rfl, hb1, D, n, c, rfl, by simpa [lays] using HN1.out, by omega, by simpa [lays] using hrd⟩
      case round =>
        clear hbr hrd HN1 hn1 hnm hk hlt hb1
        obtain ⟨j, hj, rfl, hbr, D, n, c, rfl, hn, hnm, hrd⟩ := hrel
        have HN := Lib.hid hn
        clear hn
        by_cases hlt : j < l2
        · have hku : j < is.length := by rw [H2.out]; exact hlt
          obtain ⟨g2, off, rfl, hg2, hc⟩ := (rd2.below hbr).at_ (k := j) (by simpa using hku)
          rw [List.getElem_map] at hc
          have hwf := bounds_i64 (W2.out _ (List.getElem_mem hku))
          have HT := Lib.hid (lays_take fI is j hku)
          generalize is[j] = z at *
          have HM := Lib.hid hwf
          clear hwf
          have hpl := Wire.put_len_le _ (Wire.zig_lt z HM.out.1 HM.out.2)
          go_wp2_with fail
          refine (putInt_at D _ n c (n + (Wire.put (Wire.zig z)).length) z HN.out rfl HM.out.1 HM.out.2 (by omega) _ hrd).mono ?_
          rintro e w2 ⟨g, rfl, hg, hb2, hB2⟩
          replace hb2 := below_next hbr (Nat.le_refl _) hb2
          go_wp2_with fail
          go_roundw
          case rel =>
            refine ⟨j + 1, by omega, by go_num, hb2, _, _, _, rfl, ?_, by omega, ?_⟩
            · rw [HT.out, ← List.append_assoc, List.length_append, HN.out]; rfl
            · rw [HT.out, ← List.append_assoc]; exact hB2.rd
          case measure => simp [intOf]; omega
        · obtain rfl : j = l2 := by omega
          rw [List.take_of_length_le (by rw [H2.out]; omega)] at hrd
          have HN1 : Hid ((lays fU us ++ lays fI is).length = n) := by
            have := HN.out
            rwa [List.take_of_length_le (by rw [H2.out]; omega)] at this
          clear HN
          go_wp2_with fail
          have hb1 := hbr
          have hn1 : n ≤ 600 := by omega
          go_loopw [8, 11] (fun v i wr => ∃ q : Nat, q ≤ l3 ∧ i = .int .i64 (q : Int) ∧ Below w.heap.size w wr ∧ Laid wr v (lays fU us ++ lays fI is ++ lays Wire.text (ts.take q)) (600 + 310 * q) ∧ Hid (∀ s ∈ ts.take q, s.length ≤ 300)) (fun _ i _ => l3 - (intOf i).toNat)
          case atStart => exact ⟨0, by omega, rfl, hb1, ⟨D, n, c, rfl, by simpa [lays] using HN1.out, by omega, by simpa [lays] using hrd⟩, fun s hs => by simp at hs⟩
          case round =>
            clear hbr hrd HN1 hn1 hnm hj hlt hb1
            obtain ⟨q, hq, rfl, hbr, ⟨D, n, c, rfl, hn, hnm, hrd⟩, HA⟩ := hrel
            have HN := Lib.hid hn
            clear hn
            by_cases hlt : q < l3
            · have hku : q < ts.length := by rw [H3.out]; exact hlt
              obtain ⟨g2, off, rfl, hg2, hc⟩ := (rd3.below hbr).at_ (k := q) (by simpa using hku)
              rw [List.getElem_map] at hc
              have HT := Lib.hid (lays_take Wire.text ts q hku)
              have HT2 := Lib.hid (List.take_succ_eq_append_getElem hku)
              generalize ts[q] = z at *
              have HZ : Hid ((⟨z.toArray⟩ : ByteArray).size = z.length) := rfl
              by_cases hz : 300 < z.length
              · have hd4 : decide ((300 : Int) < (z.length : Int)) = true := by simp; omega
                have hsz : (⟨z.toArray⟩ : ByteArray).size = z.length := HZ.out
                go_wp2_with fail
                go_ret
                exact ⟨rfl, hbr⟩
              · have hd4 : decide ((300 : Int) < (z.length : Int)) = false := by simp; omega
                have hsz : (⟨z.toArray⟩ : ByteArray).size = z.length := HZ.out
                have hpl : (Wire.text z).length ≤ 310 := by
                  have := Wire.put_len_le z.length (by omega)
                  unfold Wire.text
                  rw [List.length_append]; omega
                go_wp2_with fail
                refine (putText_at D _ z n c z.length (n + (Wire.text z).length) HN.out rfl rfl (by omega) _ hrd).mono ?_
                rintro e w2 ⟨g, rfl, hg, hb2, hB2⟩
                replace hb2 := below_next hbr (Nat.le_refl _) hb2
                go_wp2_with fail
                go_roundw
                case rel =>
                  refine ⟨q + 1, by omega, by go_num, hb2, ⟨_, _, _, rfl, ?_, by omega, ?_⟩, ?_⟩
                  · rw [HT.out, ← List.append_assoc, List.length_append, HN.out]
                  · rw [HT.out, ← List.append_assoc]; exact hB2.rd
                  · intro s hs
                    rw [HT2.out] at hs
                    simp only [List.mem_append, List.mem_singleton] at hs
                    rcases hs with hs | rfl
                    · exact HA.out s hs
                    · omega
                case measure => simp [intOf]; omega
            · obtain rfl : q = l3 := by omega
              rw [List.take_of_length_le (by rw [H3.out]; omega)] at hrd
              have HN1 : Hid ((lays fU us ++ lays fI is ++ lays Wire.text ts).length = n) := by
                have := HN.out
                rwa [List.take_of_length_le (by rw [H3.out]; omega)] at this
              have HB : Hid (∀ s ∈ ts, s.length ≤ 300) := by
                have := HA.out
                rwa [List.take_of_length_le (by rw [H3.out]; omega)] at this
              clear HN HA
              go_wp2_with fail
              refine (on_at D _ n c HN1.out (by omega) _ hrd).mono ?_
              rintro e w4 ⟨g, rfl, hg, hb4, hs4⟩
              have hz1 := hbr.size
              have hgw : w.heap.size ≤ g := Nat.le_trans hz1 hg
              replace hb4 := below_next hbr (Nat.le_refl _) hb4
              clear hbr hrd HN1 hnm hq hlt hg hz1
              go_wp2_with fail
              have HS4 : Hid (Sc w4 g 54 ⟨lays fU (us.drop 0) ++ (lays fI is ++ lays Wire.text ts), 0⟩) := by
                rw [← List.append_assoc]; exact hs4
              clear hs4
              have hb1 := hb4
              go_loopw [13] (fun i wr => ∃ a : Nat, a ≤ k ∧ i = .int .i64 (a : Int) ∧ Below w.heap.size w wr ∧ Sc wr g 54 ⟨lays fU (us.drop a) ++ (lays fI is ++ lays Wire.text ts), 0⟩) (fun i _ => k - (intOf i).toNat)
              case atStart => exact ⟨0, by omega, rfl, hb1, HS4.out⟩
              case round =>
                clear hb4 hb1 HS4
                obtain ⟨a, ha, rfl, hbr, hsr⟩ := hrel
                by_cases hlt : a < k
                · have hku : a < us.length := by rw [H1.out]; exact hlt
                  obtain ⟨g2, off, rfl, hg2, hc⟩ := rd1.at_ (k := a) (by simpa using hku)
                  rw [List.getElem_map] at hc
                  have hwf := bounds_u64 (W1.out _ (List.getElem_mem hku))
                  rw [lays_drop fU us a hku, List.append_assoc] at hsr
                  generalize us[a] = z at *
                  obtain ⟨m, rfl⟩ := Int.eq_ofNat_of_zero_le hwf.1
                  have HM : Hid (m < 2 ^ 64) := by have := hwf.2; show _ < _; omega
                  clear hwf
                  have hS : Below w.heap.size w wr.drew ∧ wr.drew.cell? ⟨g2, off + a, none⟩ = some (.int .u64 (m : Int)) := ⟨hbr.drew, (hbr.drew.cell (p := ⟨g2, off + a, none⟩) hg2).trans hc⟩
                  have hsd := hsr.drew
                  have HC := Lib.hid hc
                  clear hc hsr
                  go_wp2_with fail
                  go_region_held3 (fun w' => Below w.heap.size w w' ∧ w'.cell? ⟨g2, off + a, none⟩ = some (.int .u64 (m : Int))) (first | assumption)
                    (first
                      | (go_at_call 16; ((with_reducible refine (num_is _ g _ _ m hsd (numV_put m _ _ HM.out) (numS_put m _ _ HM.out)).mono ?_); rintro e w5 ⟨rfl, hs5, ht5⟩; have hb5 := ht5.below hS.1 hS.1.size hgw; have hS5 : Below w.heap.size w w5 ∧ w5.cell? ⟨g2, off + a, none⟩ = some (.int .u64 (m : Int)) := ⟨hb5, (hb5.cell (p := ⟨g2, off + a, none⟩) hg2).trans HC.out⟩)))
                  go_wp2_with fail
                  go_roundw
                  case rel => exact ⟨a + 1, by omega, by go_num, hS5.1, hs5⟩
                  case measure => simp [intOf]; omega
                · obtain rfl : a = k := by omega
                  have HS4 : Hid (Sc wr g 54 ⟨lays fI (is.drop 0) ++ lays Wire.text ts, 0⟩) := by
                    have h := hsr
                    rw [List.drop_eq_nil_of_le (by rw [H1.out]; omega)] at h
                    exact h
                  clear hsr
                  go_wp2_with fail
                  have hb1 := hbr
                  go_loopw [14] (fun i wr => ∃ a : Nat, a ≤ j ∧ i = .int .i64 (a : Int) ∧ Below w.heap.size w wr ∧ Sc wr g 54 ⟨lays fI (is.drop a) ++ lays Wire.text ts, 0⟩) (fun i _ => j - (intOf i).toNat)
                  case atStart => exact ⟨0, by omega, rfl, hb1, HS4.out⟩
                  case round =>
                    clear hbr hb1 HS4
                    obtain ⟨a, ha, rfl, hbr, hsr⟩ := hrel
                    by_cases hlt : a < j
                    · have hku : a < is.length := by rw [H2.out]; exact hlt
                      obtain ⟨g2, off, rfl, hg2, hc⟩ := rd2.at_ (k := a) (by simpa using hku)
                      rw [List.getElem_map] at hc
                      have hwf := bounds_i64 (W2.out _ (List.getElem_mem hku))
                      rw [lays_drop fI is a hku, List.append_assoc] at hsr
                      generalize is[a] = z at *
                      have HM := Lib.hid hwf
                      have HZ := Lib.hid (Wire.zig_lt z hwf.1 hwf.2)
                      clear hwf
                      have hS : Below w.heap.size w wr.drew ∧ wr.drew.cell? ⟨g2, off + a, none⟩ = some (.int .i64 z) := ⟨hbr.drew, (hbr.drew.cell (p := ⟨g2, off + a, none⟩) hg2).trans hc⟩
                      have hsd := hsr.drew
                      have HC := Lib.hid hc
                      clear hc hsr
                      go_wp2_with fail
                      go_region_held3 (fun w' => Below w.heap.size w w' ∧ w'.cell? ⟨g2, off + a, none⟩ = some (.int .i64 z)) (first | assumption)
                        (first
                          | (go_at_call 20; ((with_reducible refine (int_is _ g _ _ z hsd (by rw [fI, numV_put _ _ _ HZ.out, Wire.zag_zig]) (numS_put _ _ _ HZ.out)).mono ?_); rintro e w5 ⟨rfl, hs5, ht5⟩; have hb5 := ht5.below hS.1 hS.1.size hgw; have hS5 : Below w.heap.size w w5 ∧ w5.cell? ⟨g2, off + a, none⟩ = some (.int .i64 z) := ⟨hb5, (hb5.cell (p := ⟨g2, off + a, none⟩) hg2).trans HC.out⟩)))
                      go_wp2_with fail
                      go_roundw
                      case rel => exact ⟨a + 1, by omega, by go_num, hS5.1, hs5⟩
                      case measure => simp [intOf]; omega
                    · obtain rfl : a = j := by omega
                      have HS4 : Hid (Sc wr g 54 ⟨lays Wire.text (ts.drop 0), 0⟩) := by
                        have h := hsr
                        rw [List.drop_eq_nil_of_le (by rw [H2.out]; omega)] at h
                        exact h
                      clear hsr
                      go_wp2_with fail
                      have hb1 := hbr
                      go_loopw [15] (fun i wr => ∃ a : Nat, a ≤ q ∧ i = .int .i64 (a : Int) ∧ Below w.heap.size w wr ∧ Sc wr g 54 ⟨lays Wire.text (ts.drop a), 0⟩) (fun i _ => q - (intOf i).toNat)
                      case atStart => exact ⟨0, by omega, rfl, hb1, HS4.out⟩
                      case round =>
                        clear hbr hb1 HS4
                        obtain ⟨a, ha, rfl, hbr, hsr⟩ := hrel
                        by_cases hlt : a < q
                        · have hku : a < ts.length := by rw [H3.out]; exact hlt
                          obtain ⟨g2, off, rfl, hg2, hc⟩ := rd3.at_ (k := a) (by simpa using hku)
                          rw [List.getElem_map] at hc
                          have HZ := Lib.hid (HB.out _ (List.getElem_mem hku))
                          rw [lays_drop Wire.text ts a hku] at hsr
                          generalize ts[a] = z at *
                          have hS : Below w.heap.size w wr.drew ∧ wr.drew.cell? ⟨g2, off + a, none⟩ = some (.string ⟨z.toArray⟩) := ⟨hbr.drew, (hbr.drew.cell (p := ⟨g2, off + a, none⟩) hg2).trans hc⟩
                          have hsd := hsr.drew
                          have HC := Lib.hid hc
                          clear hc hsr
                          go_wp2_with fail
                          go_region_held3 (fun w' => Below w.heap.size w w' ∧ w'.cell? ⟨g2, off + a, none⟩ = some (.string ⟨z.toArray⟩)) (first | assumption)
                            (first
                              | (go_at_call 22; ((with_reducible refine (text_is _ g _ _ z hsd 300 (by decide) (by decide) (textV_text z _ _ HZ.out) (textS_text z _ _ HZ.out)).mono ?_); rintro e w5 ⟨rfl, hs5, ht5⟩; have hb5 := ht5.below hS.1 hS.1.size hgw; have hS5 : Below w.heap.size w w5 ∧ w5.cell? ⟨g2, off + a, none⟩ = some (.string ⟨z.toArray⟩) := ⟨hb5, (hb5.cell (p := ⟨g2, off + a, none⟩) hg2).trans HC.out⟩)))
                          go_wp2_with fail
                          go_roundw
                          case rel => exact ⟨a + 1, by omega, by go_num, hS5.1, hs5⟩
                          case measure => simp [intOf]; omega
                        · obtain rfl : a = q := by omega
                          have HS4 : Hid (Sc wr g 54 ⟨[], 0⟩) := by
                            have h := hsr
                            rw [List.drop_eq_nil_of_le (by rw [H3.out]; omega)] at h
                            exact h
                          clear hsr
                          go_wp2_with fail
                          refine (end_at _ g _ HS4.out 0 rfl).mono ?_
                          rintro e wz ⟨rfl, rfl⟩
                          go_wp2_with fail
                          refine (left_at _ g _ HS4.out 0 rfl).mono ?_
                          rintro e wz ⟨rfl, rfl⟩
                          go_wp2_with fail
                          go_ret
                          exact ⟨rfl, hbr⟩
theorem walk_WireBack (w : World) (a0 : Option Addr) (us : List Int) (l1 c1 : Nat) (hl1 : us.length = l1) (_hc1 : l1 ≤ c1) (_hm1 : c1 ≤ maxLen) (rd1 : RdV w a0 (us.map (Value.int .u64))) (hw1 : ∀ z ∈ us, (Lit.int .u64 z).wf = true)
    (a1 : Option Addr) (is : List Int) (l2 c2 : Nat) (hl2 : is.length = l2) (_hc2 : l2 ≤ c2) (_hm2 : c2 ≤ maxLen) (rd2 : RdV w a1 (is.map (Value.int .i64))) (hw2 : ∀ z ∈ is, (Lit.int .i64 z).wf = true)
    (a2 : Option Addr) (ts : List (List UInt8)) (l3 c3 : Nat) (hl3 : ts.length = l3) (_hc3 : l3 ≤ c3) (_hm3 : c3 ≤ maxLen) (rd3 : RdV w a2 (ts.map fun s => Value.string ⟨s.toArray⟩)) (_hw3 : ∀ z ∈ ts, z.length ≤ maxLen) :
    Calls Try.prog 5 #[.slice a0 l1 c1, .slice a1 l2 c2, .slice a2 l3 c3] w fun e w' => e = .returned (.bool true) ∧ Below w.heap.size w w' := by
  by_cases h : 30 < l1 ∨ 30 < l2 ∨ 30 < l3
  · exact wback_out w a0 a1 a2 l1 c1 l2 c2 l3 c3 h
  · exact wback_in w a0 a1 a2 us is ts l1 c1 l2 c2 l3 c3 hl1 hl2 hl3 (by omega) (by omega) (by omega) rd1 rd2 rd3 hw1 hw2

/-! ### The row's step. -/
namespace wireBack
theorem own : ownKnob Try.prog.godebug = none := by kernel_rfl
theorem laidOut : laidOutB Try.prog = true := by kernel_rfl
set_option linter.unusedVariables false in
set_option maxRecDepth 100000 in
theorem lifted (os : Os) (started : os.Started) (H : Type) (enc : TypeId × Value → H) :
    ReturnsInHanded {} Try.checked os 5 .any (Rows.wireBackSpec.pre6 enc Try.prog Try.f5 Rows.wireBackRow.domain false) (Rows.wireBackSpec.post enc Try.prog Try.f5 false true false false) := by
  refine returnsInHanded_of_change_sized (C := Try.checked) own started (by kernel_rfl) Try.func5
    (ChangeSpec.witness6 (enc := enc) (C := Try.checked) false ⟨#[], #[.slice none 0 0, .slice none 0 0, .slice none 0 0], []⟩ 8 (by kernel_rfl) (by kernel_rfl) (by kernel_rfl) (by kernel_rfl)) ?_
  intro W base args ds gs before hval0 hW hcnd hsz0 _
  have hval : ∀ (j : Nat) t v, Try.f5.params[j]? = some t → args[j]? = some v → Value.okWide Try.prog W .any base t v := hval0
  have hsz : (DataW.weightsEach Try.prog (Try.f5.params.toList ++ Rows.wireBackSpec.plain.varTypes Try.prog) (ds ++ gs)).all (· ≤ reachBytes) = true := hsz0
  have hW' := hW
  obtain ⟨p, q, hA0, hV, rfl, hfz, hnd⟩ := hW
  have hA : DataW.TrodAll enc Try.prog W 0 (fun _ => true) true Try.f5.params.toList args.toList ds p := hA0
  rw [Try.params5] at hA hval hsz
  obtain ⟨v0, vs0, d0, ds0, p0, q0, hargs, rfl, rfl, h0, r0⟩ := trodAll_cons hA
  obtain ⟨v1, vs1, d1, ds1, p1, q1, rfl, rfl, rfl, h1, r1⟩ := trodAll_cons r0
  obtain ⟨v2, vs2, d2, ds2, p2, q2, rfl, rfl, rfl, h2, r2⟩ := trodAll_cons r1
  obtain ⟨rfl, rfl, rfl⟩ := trodAll_nil r2
  obtain rfl : args = #[v0, v1, v2] := by cases args; simp_all
  obtain ⟨rfl, rfl⟩ := trodVars_none hV
  obtain ⟨a0, len0, cap0, rfl⟩ := okWide_slice Try.underlying45 (hval 0 45 v0 rfl rfl)
  have k0 := h0
  have lt0 : ∀ x ∈ p0, x.block < W.heap.size := by obtain ⟨m, hm⟩ := k0; exact DataW.trod_lt m _ _ _ hm
  obtain ⟨zs0, hl0, hc0, hm0, rd0, hw0⟩ := open_ints_of Try.underlying45 Try.underlying23 (by kernel_rfl) k0
  obtain ⟨a1, len1, cap1, rfl⟩ := okWide_slice Try.underlying46 (hval 1 46 v1 rfl rfl)
  have k1 := h1
  have lt1 : ∀ x ∈ p1, x.block < W.heap.size := by obtain ⟨m, hm⟩ := k1; exact DataW.trod_lt m _ _ _ hm
  obtain ⟨zs1, hl1, hc1, hm1, rd1, hw1⟩ := open_ints_of Try.underlying46 Try.underlying3 (by kernel_rfl) k1
  obtain ⟨a2, len2, cap2, rfl⟩ := okWide_slice Try.underlying47 (hval 2 47 v2 rfl rfl)
  have k2 := h2
  have lt2 : ∀ x ∈ p2, x.block < W.heap.size := by obtain ⟨m, hm⟩ := k2; exact DataW.trod_lt m _ _ _ hm
  obtain ⟨zs2, hl2, hc2, hm2, rd2, hw2⟩ := open_strs_of Try.underlying47 Try.underlying9 (by kernel_rfl) k2
  clear hA0 hval0
  refine (walk_WireBack W a0 zs0 len0 cap0 hl0 hc0 hm0 rd0 hw0 a1 zs1 len1 cap1 hl1 hc1 hm1 rd1 hw1 a2 zs2 len2 cap2 hl2 hc2 hm2 rd2 hw2).mono fun e W' ⟨he, bel⟩ => ?_
  subst he
  exact ⟨_, rfl, _, _, _, [], _, [], hW', trodAll_mk1 (shut_bool Try.underlying4 _), (trodAll_cons_mk (Below.trod laidOut (by kernel_rfl) (of_decide_eq_true (by kernel_rfl)) k0 bel lt0) (trodAll_cons_mk (Below.trod laidOut (by kernel_rfl) (of_decide_eq_true (by kernel_rfl)) k1 bel lt1) (trodAll_cons_mk (Below.trod laidOut (by kernel_rfl) (of_decide_eq_true (by kernel_rfl)) k2 bel lt2) trodAll_mk0))), rfl, bel.frame _, fun h => by cases h⟩
theorem over : Rows.wireBackRow.holds Try.pinned (OpenSpec.ofChange Rows.wireBackSpec) :=
  OpenClaim.holds_of_wide 5 Try.f5 rfl rfl rfl rfl rfl rfl rfl ⟨rfl, rfl, rfl, rfl, rfl⟩ rfl rfl rfl rfl rfl (by kernel_rfl) Try.func5 (by kernel_rfl)
    (of_decide_eq_true (by kernel_rfl)) (by unfold Func.isWrapper; first | (rw [if_pos (by decide +kernel)]; kernel_rfl) | (rw [if_neg (by decide +kernel)]; exact ⟨rfl, rfl⟩))
    (fun os started H enc _ => lifted os started H enc)
end wireBack
/-- THE STATEMENT. -/
theorem wireBack_holds : Rows.WireBackSaid := wireBack.over
#print axioms wireBack_holds
end Go.Proofs.Ytgadpdjhnlblaaa
