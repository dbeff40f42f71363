/- Contracts of the program and of the document (TRL, TRight, TFew, TArgs), each used further on. -/
import Derived.Test.YtckabmlilbkmbaaM1
import Derived.Test.YtckabmlilbkmbaaD2
import Derived.Test.YtckabmlilbkmbaaT1
import Derived.Test.YtckabmlilbkmbaaT2
namespace Go.Proofs.Ytckabmlilbkmbaa
open Go.RowKit Go.Sort Spans Tb
end Go.Proofs.Ytckabmlilbkmbaa
namespace Go.Proofs.Ytckabmlilbkmbaa
open Go.RowKit Go.Sort Spans Tb
def PBs (es : List Ex) : Prop := ∀ x ∈ es, PBd x.f
end Go.Proofs.Ytckabmlilbkmbaa
namespace Go.Proofs.Ytckabmlilbkmbaa
open Go.RowKit Go.Sort Spans Tb
def shortP (p : Pr) : Prop := p.n.length ≤ 100 ∧ p.t.length ≤ 100
instance (p : Pr) : Decidable (shortP p) := inferInstanceAs (Decidable (_ ∧ _))
def total (xs : List Ex) : Nat := (xs.map Ex.n).sum
def fewE (xs : List Ex) : Bool := decide (∀ x ∈ xs, ∀ p ∈ x.f, shortP p) && (decide (xs.length ≤ 80) && decide (total xs ≤ 300))
theorem total_le {xs : List Ex} {x : Ex} (h : x ∈ xs) : x.n ≤ total xs := by
  induction xs with
  | nil => cases h
  | cons a r ih =>
    unfold total at *
    rw [List.map_cons, List.sum_cons]
    rcases List.mem_cons.1 h with rfl | h
    · omega
    · have := ih h; omega
theorem total_snoc {xs : List Ex} {k : Nat} (h : k < xs.length) : total (xs.take (k + 1)) = total (xs.take k) + (xs[k]).n := by
  unfold total
  rw [map_snoc Ex.n h, List.sum_append]; simp
theorem total_bd {R : Nat} {xs : List Ex} (hb : ∀ x ∈ xs, x.n ≤ R) : ∀ k, total (xs.take k) ≤ k * R
  | 0 => by simp [total]
  | k + 1 => by
    have h0 := total_bd hb k
    rw [Nat.succ_mul]
    by_cases h : k < xs.length
    · rw [total_snoc h]
      exact Nat.add_le_add h0 (hb _ (List.getElem_mem h))
    · rw [List.take_of_length_le (by omega)] at h0 ⊢
      exact Nat.le_trans h0 (Nat.le_add_right _ _)
theorem fewE_of {xs : List Ex} (h : fewE xs = true) : (∀ x ∈ xs, ∀ p ∈ x.f, shortP p) ∧ xs.length ≤ 80 ∧ ∀ x ∈ xs, x.n ≤ 300 := by
  unfold fewE at h
  simp only [Bool.and_eq_true, decide_eq_true_eq] at h
  exact ⟨h.1, h.2.1, fun x hx => Nat.le_trans (total_le hx) h.2.2⟩
/-- The sum that Few has come to: as it is, of few entries; of many, whatever. -/
def SumIs (m : Nat) (t : Nat) (s : Int) : Prop := m ≤ 80 → s = (t : Int)
set_option maxRecDepth 100000 in
set_option maxHeartbeats 4000000 in
theorem tfew_at (B : Option Addr) (es : List Ex) (m d : Nat) (hn : es.length = m) (hm : m ≤ 9223372036854775807) (hb : EBx es) (w : World) (hr : RdEn w B es) (q : Bool) (hq : fewE es = q) :
    Calls Try.prog 10 #[.slice B m d] w fun e w' => e = .returned (.bool q) ∧ Below w.heap.size w w' := by
  have HN := Lib.hid hn
  have HQ := Lib.hid hq
  have HR := Lib.hid hr
  have HBX := Lib.hid hb
  have HTB : Hid (∀ k, total (es.take k) ≤ k * 2600000000000) := total_bd fun x hx => (hb x hx).1
  clear hn hq hr hb
  go_enter Try.func10, Try.ntmps10
  go_wp2_with fail
  go_loopg [3, 4] m (fun gg s3 s4 wr => ∃ (k : Nat) (s : Int), k ≤ m ∧ m - k ≤ gg ∧ s4 = .int .i64 (k : Int) ∧ s3 = .int .i64 s ∧ Hid (Below w.heap.size w wr) ∧ Hid (SumIs m (total (es.take k)) s) ∧ Hid (∀ x ∈ es.take k, ∀ p ∈ x.f, shortP p))
  case atStart => exact ⟨0, 0, Nat.zero_le _, by omega, rfl, rfl, Below.refl _ _, fun _ => by simp [total], by show ∀ _, _; simp⟩
  case round =>
    obtain ⟨k, s, hk, hgg, rfl, rfl, HB, HS, HA⟩ := hrel
    by_cases hlt : k < m
    · have hk' : k < es.length := by rw [HN.out]; exact hlt
      obtain ⟨g, off, rfl, hg, c0, c1, c2, hf⟩ := RdEn.at3 HR.out hk'
      have hbx := HBX.out _ (List.getElem_mem hk')
      obtain ⟨x, hx⟩ : ∃ x, es[k] = x := ⟨_, rfl⟩
      have HE := Lib.hid hx
      rw [hx] at c0 c1 c2 hf hbx
      clear hx
      obtain ⟨xi, xr, xA, xn, xc, xf⟩ := x
      obtain ⟨hf1, hf2, hf3⟩ := hf
      obtain ⟨hb1, _, _, hb4⟩ := hbx
      dsimp only at c0 c1 c2 hf1 hf2 hf3 hb1 hb4
      have HPB := Lib.hid hb4
      have HF1 := Lib.hid hf1
      have HRX := Lib.hid hf3
      have w5 : (k : Int) < (m : Int) := by omega
      obtain ⟨s', hs'⟩ : ∃ s', IntKind.i64.wrap (s + (xn : Int)) = s' := ⟨_, rfl⟩
      have HS2 : Hid (SumIs m (total (es.take (k + 1))) s') := fun h80 => by
        have h1 := HS.out h80
        have h2 := HTB.out k
        have h3 := total_snoc hk'
        rw [HE.out] at h3
        dsimp only at h3
        rw [← hs', h3, h1, IntKind.wrap_i64]
        omega
      have HC2 := Lib.hid c2
      clear hb4 hf1 hf3 HS c0 c1 c2
      have c2 := (HB.out.cell (p := ⟨g, off + k * 3 + 2, none⟩) hg).trans HC2.out
      go_wp2_with fail
      clear hs' c2
      go_loopg [5] xn (fun g2 s5 wi => ∃ j : Nat, j ≤ xn ∧ xn - j ≤ g2 ∧ s5 = .int .i64 (j : Int) ∧ Hid (Below w.heap.size w wi) ∧ Hid (∀ p ∈ xf.take j, shortP p))
      case atStart => exact ⟨0, Nat.zero_le _, by omega, rfl, HB, by show ∀ _, _; simp⟩
      case round =>
        obtain ⟨j, hj, hgg2, rfl, HBi, HAi⟩ := hrel
        clear HB
        have c2 := (HBi.out.cell (p := ⟨g, off + k * 3 + 2, none⟩) hg).trans HC2.out
        by_cases hjl : j < xn
        · have hj' : j < xf.length := by rw [HF1.out]; exact hjl
          obtain ⟨g', off', rfl, hg', b0, b1, b2, b3, b4⟩ := RdQ.at5 (RdK.below HRX.out HBi.out) hj'
          have hbp := HPB.out _ (List.getElem_mem hj')
          obtain ⟨p, hp⟩ : ∃ p, xf[j] = p := ⟨_, rfl⟩
          have HPE := Lib.hid hp
          rw [hp] at b0 b1 b2 b3 b4 hbp
          clear hp
          obtain ⟨pn, po, pk, pi, pt⟩ := p
          obtain ⟨hb5, hb6, _, _⟩ := hbp
          dsimp only at b0 b1 b2 b3 b4 hb5 hb6
          have w6 : (j : Int) < (xn : Int) := by omega
          have HB2 := Lib.hid (HBi.out.alloc HBi.out.size (.cells #[.string ⟨pn.toArray⟩, .int .i64 po, .int .i64 pk, .int .i64 pi, .string ⟨pt.toArray⟩] 47))
          have hz1 : (⟨pn.toArray⟩ : ByteArray).size = pn.length := by simp [ByteArray.size]
          have hz2 : (⟨pt.toArray⟩ : ByteArray).size = pt.length := by simp [ByteArray.size]
          have hno : ¬ shortP ⟨pn, po, pk, pi, pt⟩ → fewE es = false := fun h => by
            unfold fewE
            rw [decide_eq_false (fun hall => h ?_), Bool.false_and]
            have := hall _ (List.getElem_mem hk') xf[j] (by rw [HE.out]; exact List.getElem_mem hj')
            rwa [HPE.out] at this
          have HNO := Lib.hid hno
          clear hno
          by_cases h1 : (100 : Int) < (pn.length : Int)
          · have d1 : decide ((100 : Int) < (pn.length : Int)) = true := decide_eq_true h1
            have HF : Hid (false = q) := by
              show _ = _
              rw [← HQ.out, HNO.out (fun h => by have := h.1; dsimp only at this; omega)]
            go_wp2_with fail
            go_ret
            exact ⟨ret_b HF.out, HB2.out⟩
          · have d1 : decide ((100 : Int) < (pn.length : Int)) = false := decide_eq_false h1
            by_cases h2 : (100 : Int) < (pt.length : Int)
            · have d2 : decide ((100 : Int) < (pt.length : Int)) = true := decide_eq_true h2
              have HF : Hid (false = q) := by
                show _ = _
                rw [← HQ.out, HNO.out (fun h => by have := h.2; dsimp only at this; omega)]
              go_wp2_with fail
              go_ret
              exact ⟨ret_b HF.out, HB2.out⟩
            · have d2 : decide ((100 : Int) < (pt.length : Int)) = false := decide_eq_false h2
              have HA3 : Hid (∀ p ∈ xf.take (j + 1), shortP p) := fun p hp => by
                rw [List.take_succ_eq_append_getElem hj', HPE.out] at hp
                rcases List.mem_append.1 hp with h | h
                · exact HAi.out p h
                · simp at h; subst h; exact ⟨by dsimp only; omega, by dsimp only; omega⟩
              go_wp2_with fail
              go_roundg (xn - (j + 1))
              case measure => omega
              case rel => exact ⟨j + 1, by omega, Nat.le_refl _, by go_num, HB2, HA3⟩
        · have hjn : j = xn := by omega
          have HA4 : Hid (∀ x ∈ es.take (k + 1), ∀ p ∈ x.f, shortP p) := fun x hx => by
            rw [List.take_succ_eq_append_getElem hk', HE.out] at hx
            rcases List.mem_append.1 hx with h | h
            · exact HA.out x h
            · simp at h; subst h
              have := HAi.out
              rwa [hjn, List.take_of_length_le (by rw [HF1.out]; exact Nat.le_refl _)] at this
          go_wp2_with fail
          go_roundg (m - (k + 1))
          case measure => omega
          case rel => exact ⟨k + 1, s', by omega, Nat.le_refl _, by go_num, rfl, HBi, HS2, HA4⟩
    · have hkm : k = m := by omega
      subst hkm
      have HALL : Hid (∀ x ∈ es, ∀ p ∈ x.f, shortP p) := by
        have := HA.out
        rwa [List.take_of_length_le (by rw [HN.out]; exact Nat.le_refl _)] at this
      have hST : k ≤ 80 → s = (total es : Int) := fun h => by
        have := HS.out h
        rwa [List.take_of_length_le (by rw [HN.out]; exact Nat.le_refl _)] at this
      have HST := Lib.hid hST
      clear hST HS HA
      have hq2 : q = (decide (k ≤ 80) && decide (total es ≤ 300)) := by
        rw [← HQ.out]
        unfold fewE
        rw [decide_eq_true HALL.out, Bool.true_and, HN.out]
      have HQ2 := Lib.hid hq2
      clear hq2
      by_cases h80 : (k : Int) ≤ 80
      · have d80 : decide ((k : Int) ≤ 80) = true := decide_eq_true h80
        have hs : s = (total es : Int) := HST.out (by omega)
        subst hs
        by_cases h300 : (total es : Int) ≤ 300
        · have d3 : decide ((total es : Int) ≤ 300) = true := decide_eq_true h300
          have HF : Hid (true = q) := by
            show _ = _
            rw [HQ2.out, decide_eq_true (show k ≤ 80 by omega), decide_eq_true (show total es ≤ 300 by omega)]; rfl
          clear h80 h300
          go_wp2_with fail
          go_ret
          exact ⟨ret_b HF.out, HB.out⟩
        · have d3 : decide ((total es : Int) ≤ 300) = false := decide_eq_false h300
          have HF : Hid (false = q) := by
            show _ = _
            rw [HQ2.out, decide_eq_false (show ¬ total es ≤ 300 by omega), Bool.and_false]
          clear h80 h300
          go_wp2_with fail
          go_ret
          exact ⟨ret_b HF.out, HB.out⟩
      · have d80 : decide ((k : Int) ≤ 80) = false := decide_eq_false h80
        have HF : Hid (false = q) := by
          show _ = _
          rw [HQ2.out, decide_eq_false (show ¬ k ≤ 80 by omega), Bool.false_and]
        clear h80
        go_wp2_with fail
        go_ret
        exact ⟨ret_b HF.out, HB.out⟩
end Go.Proofs.Ytckabmlilbkmbaa
namespace Go.Proofs.Ytckabmlilbkmbaa
open Go.RowKit Go.ChangeShapes Go.WideShapes Go.Deep Go.Joins Spans Tb
section
variable {H : Type} {enc : TypeId × Value → H} {w : World} {base : Nat} {spare : Nat → Bool} {held : Bool}
theorem field_at {P : Program} {fs : Array Field} {cs : List Value} {xs : List (DataW H × List MemPlace)} {n i o m : Nat} {t : TypeId} {f : Field}
    (hfs : ∀ (i : Nat) (f : Field), fs[i]? = some f → DataW.trod enc P w base spare held n f.type ((cs.drop f.offset).take (P.cellsOf f.type)) = xs[i]?) (hl : xs.length = fs.size)
    (hf : fs[i]? = some f) (ht : f.type = t ∧ f.offset = o ∧ P.cellsOf t = m) : ∃ y, xs[i]? = some y ∧ DataW.trod enc P w base spare held n t ((cs.drop o).take m) = some y := by
  obtain ⟨rfl, rfl, rfl⟩ := ht
  have hi : i < xs.length := by rw [hl]; exact (Array.getElem?_eq_some_iff.1 hf).1
  exact ⟨xs[i], List.getElem?_eq_getElem hi, (hfs i f hf).trans (List.getElem?_eq_getElem hi)⟩
theorem weights_all {P : Program} {e : TypeId} {R : Nat} : ∀ {l : List (DataW H)}, (∀ n ∈ DataW.weightsAll P e l, n ≤ R) → ∀ d ∈ l, ∀ n ∈ d.weights P e, n ≤ R
  | [], _, d, hd, _, _ => by cases hd
  | a :: r, h, d, hd, n, hn => by
    simp only [DataW.weightsAll, List.mem_append] at h
    rcases List.mem_cons.1 hd with rfl | hd
    · exact h n (.inl hn)
    · exact weights_all (fun m hm => h m (.inr hm)) d hd n hn
theorem weights_slice {P : Program} {t e : TypeId} {R : Nat} {elems spare : List (DataW H)} (ht : P.underlying t = some (.slice e)) (hw : ∀ n ∈ (DataW.slice elems spare).weights P t, n ≤ R) :
    (elems.length + spare.length) * P.bytesOf e ≤ R ∧ ∀ d ∈ elems, ∀ n ∈ d.weights P e, n ≤ R := by
  simp only [DataW.weights, ht] at hw
  exact ⟨hw _ (List.mem_cons_self ..), weights_all fun n hn => hw n (List.mem_cons_of_mem _ (List.mem_append_left _ hn))⟩
theorem weights_struct {P : Program} {t : TypeId} {R : Nat} {parts : List (DataW H)} {fs : Array Field} (ht : P.underlying t = some (.struct fs)) (hw : ∀ n ∈ (DataW.agg parts).weights P t, n ≤ R)
    {i : Nat} {f : Field} {d : DataW H} (hf : fs[i]? = some f) (hd : parts[i]? = some d) : ∀ n ∈ d.weights P f.type, n ≤ R := fun n hn => by
  simp only [DataW.weights, ht] at hw
  exact hw n (DataW.weights_mem_each (j := i) (by rw [List.getElem?_map]; simp [hf]) hd n hn)
theorem reach_num : reachBytes = 140737488351232 := rfl
theorem bounds_of {i : Int} (h : (Lit.int .i64 i).wf = true) : -9223372036854775808 ≤ i ∧ i ≤ 9223372036854775807 := bounds_i64 h
set_option maxRecDepth 100000 in
/-- A filter in a field. -/
theorem open_flt {fuel : Nat} {v : Value} {x : DataW H × List MemPlace} (h : DataW.trod enc Try.prog w base spare held fuel 26 [v] = some x) (hw : ∀ n ∈ x.1.weights Try.prog 26, n ≤ reachBytes) :
    ∃ A n c f, v = .slice A n c ∧ f.length = n ∧ n ≤ c ∧ c ≤ maxLen ∧ n ≤ 2600000000000 ∧ RdQ w A f ∧ PBx f := by
  have hv : ∃ A n c, v = .slice A n c ∧ n ≤ 2600000000000 := by
    rcases open_slice Try.underlying26 h with ⟨hcs, _⟩ | ⟨a, l, c, m, n, D, Pl, hcs, _, hl, hm, hmm, hx1, hx⟩
    · exact ⟨none, 0, 0, by simpa using hcs, by omega⟩
    · refine ⟨some a, l, c, by simpa using hcs, ?_⟩
      subst hx1
      have := (weights_slice Try.underlying26 hw).1
      rw [show Try.prog.bytesOf 47 = 56 from by kernel_rfl, reach_num] at this
      simp at this
      omega
  obtain ⟨A, n, c, rfl, hn⟩ := hv
  have TR : ∀ {a b : Nat}, a = b → a = b := id
  obtain ⟨es, h1, h2, h3, h4, h5⟩ := open_preds_of (enc := enc) (P := Try.prog) (w := w) (base := base) (spare := spare) (held := held) (d := x.1) (p := x.2) Try.underlying26 Try.underlying47 (by kernel_rfl) ⟨rfl, rfl, by kernel_rfl⟩ ⟨rfl, rfl, by kernel_rfl⟩ ⟨rfl, rfl, by kernel_rfl⟩ Try.underlying9 Try.underlying3 Try.underlying45 ⟨rfl, rfl, by kernel_rfl⟩ ⟨rfl, rfl, by kernel_rfl⟩ ⟨rfl, rfl, by kernel_rfl⟩ Try.underlying3 Try.underlying3 Try.underlying9 ⟨fuel, h⟩
  exact ⟨A, n, c, es, rfl, h1, h2, h3, hn, h4, fun p hp => by
    obtain ⟨q1, q2, q3⟩ := h5 p hp
    rw [maxLen_num] at q1 q2
    exact ⟨q1, q2, bounds_of q3⟩⟩
set_option maxRecDepth 100000 in
theorem open_ents {fuel : Nat} {v : Value} {x : DataW H × List MemPlace} (h : DataW.trod enc Try.prog w base spare held fuel 22 [v] = some x) (hw : ∀ n ∈ x.1.weights Try.prog 22, n ≤ reachBytes) :
    ∃ A n c es, v = .slice A n c ∧ es.length = n ∧ n ≤ c ∧ c ≤ maxLen ∧ n ≤ 3600000000000 ∧ RdEn w A es ∧ EBx es := by
  rcases open_slice Try.underlying22 h with ⟨hcs, _⟩ | ⟨a, len, cap, m, n, D, Pl, hcs, _, hl, hm, hmm, hx1, hx⟩
  · exact ⟨none, 0, 0, [], by simpa using hcs, rfl, by omega, by simp, by omega, RdEn.nil _ _, fun k hk => by cases hk⟩
  · subst hx1
    obtain ⟨hbd, hwe⟩ := weights_slice Try.underlying22 hw
    rw [show Try.prog.bytesOf 28 = 40 from by kernel_rfl, reach_num] at hbd
    simp at hbd
    have hlm : len ≤ m := by rw [hmm]; split <;> omega
    have each : ∀ i, i < len → ∃ z : Ex, (w.cell? ((a.add (i * 3)).add 0) = some (.int .i64 z.id) ∧ w.cell? ((a.add (i * 3)).add 1) = some (.int .i64 z.fr) ∧ w.cell? ((a.add (i * 3)).add 2) = some (.slice z.A z.n z.c)) ∧ Flt w z ∧ (z.n ≤ 2600000000000 ∧ -9223372036854775808 ≤ z.id ∧ z.id ≤ 9223372036854775807 ∧ PBx z.f) := fun i hi => by
      obtain ⟨cs, k1, k2⟩ := hx i (by omega)
      rw [show Try.prog.cellsOf 28 = 3 from by kernel_rfl] at k1
      obtain ⟨_, hlen, hat⟩ := World.cells?_some k1
      obtain ⟨xs, n', _, hxx, _, hxl, hfs⟩ := DataW.trod_struct Try.underlying28 k2
      match cs, hlen with
      | [c0, c1, c2], _ =>
        obtain ⟨y0, _, g0⟩ := field_at (i := 0) (t := 3) (o := 0) (m := 1) hfs hxl rfl ⟨rfl, rfl, by kernel_rfl⟩
        obtain ⟨y1, _, g1⟩ := field_at (i := 1) (t := 3) (o := 1) (m := 1) hfs hxl rfl ⟨rfl, rfl, by kernel_rfl⟩
        obtain ⟨y2, e2, g2⟩ := field_at (i := 2) (t := 26) (o := 2) (m := 1) hfs hxl rfl ⟨rfl, rfl, by kernel_rfl⟩
        obtain ⟨z0, q0, _, w0⟩ := DataW.trod_int Try.underlying3 g0
        obtain ⟨z1, q1, _, w1⟩ := DataW.trod_int Try.underlying3 g1
        have hD : D i = .agg (xs.map (·.1)) := congrArg Prod.fst hxx
        have hwi := hwe (D i) (List.mem_map.2 ⟨i, List.mem_range.2 hi, rfl⟩)
        rw [hD] at hwi
        obtain ⟨A, n0, c0', f, q2, f1, f2, f3, f4, f5, f6⟩ := open_flt g2 (weights_struct Try.underlying28 hwi (i := 2) rfl (by rw [List.getElem?_map, e2]; rfl))
        have a0 := hat 0 (by omega)
        have a1 := hat 1 (by omega)
        have a2 := hat 2 (by omega)
        simp at q0 q1
        subst q0; subst q1; subst q2
        have hb := bounds_of w0
        exact ⟨⟨z0, z1, A, n0, c0', f⟩, ⟨a0, a1, a2⟩, ⟨f1, f2, f5⟩, f4, hb.1, hb.2, f6⟩
    obtain ⟨Z, hZ⟩ := choose_lt each
    refine ⟨some a, len, cap, (List.range len).map Z, by simpa using hcs, by simp, hl, hm, by omega, ⟨?_, ?_⟩, ?_⟩
    · by_cases h0 : len = 0
      · exact .inl (by simp [h0])
      · obtain ⟨b, off, rfl, hb⟩ := plain_atQ (a := a) (by simpa [Addr.add] using (hZ 0 (by omega)).1.1)
        refine .inr ⟨b, off, rfl, hb, fun i hi j v hv => ?_⟩
        have hi' : i < len := by simpa using hi
        have := (hZ i hi').1
        rw [add_lit, add_lit, add_lit, add_lit] at this
        obtain ⟨q0, q1, q2⟩ := this
        have hz : ((List.range len).map Z)[i] = Z i := by simp
        rw [hz] at hv
        have hj : j < 3 := by have := (List.getElem?_eq_some_iff.1 hv).1; simpa [layE, cellsE] using this
        show w.cell? ⟨b, off + i * 3 + j, none⟩ = some v
        match j, hj with
        | 0, _ => rw [← hv]; exact q0
        | 1, _ => rw [← hv]; exact q1
        | 2, _ => rw [← hv]; exact q2
    · intro z hz
      simp only [List.mem_map, List.mem_range] at hz
      obtain ⟨i, hi, rfl⟩ := hz
      exact (hZ i hi).2.1
    · intro z hz
      simp only [List.mem_map, List.mem_range] at hz
      obtain ⟨i, hi, rfl⟩ := hz
      exact (hZ i hi).2.2
theorem open_ents_of {A : Option Addr} {len cap : Nat} {d : DataW H} {p : List MemPlace} (h : DataW.Trod enc Try.prog w base spare held 22 (.slice A len cap) d p) (hw : ∀ n ∈ d.weights Try.prog 22, n ≤ reachBytes) :
    ∃ es : List Ex, es.length = len ∧ len ≤ cap ∧ cap ≤ maxLen ∧ len ≤ 3600000000000 ∧ RdEn w A es ∧ EBx es := by
  obtain ⟨fuel, hf⟩ := h
  obtain ⟨A', n', c', es, e, h1, h2, h3, h4, h5, h6⟩ := open_ents (v := .slice A len cap) hf hw
  injection e with e1 e2 e3
  subst e1; subst e2; subst e3
  exact ⟨es, h1, h2, h3, h4, h5, h6⟩
end
end Go.Proofs.Ytckabmlilbkmbaa
