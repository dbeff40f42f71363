/- Contracts of the program and of the document (PoEq, PoReach, GSm0), each used further on. -/
import Derived.ChangeKeysEq
import Derived.Test.YtckabmlilbkmbaaP2
namespace Go.Proofs.Ytckabmlilbkmbaa
open Go.RowKit Go.ChangeShapes Go.WideShapes Go.Deep Go.Sort
theorem take_ext {α : Type} {a b : List α} {k : Nat} (ha : k < a.length) (hb : k < b.length) (h : a.take k = b.take k) (e : a[k] = b[k]) : a.take (k + 1) = b.take (k + 1) := by
  rw [List.take_succ_eq_append_getElem ha, List.take_succ_eq_append_getElem hb, h, e]
set_option maxRecDepth 100000 in
set_option maxHeartbeats 4000000 in
theorem ints_at (A : Option Addr) (a : List Int) (n c : Nat) (hn : a.length = n) (B : Option Addr) (b : List Int) (m d : Nat) (hm : b.length = m) (hb9 : n ≤ 100000000 ∧ m ≤ 100000000) (w : World) (ha : RdZ layI w A a) (hb : RdZ layI w B b) (q : Bool) (hq : q = true ↔ a = b) :
    Calls Try.prog 14 #[.slice A n c, .slice B m d] w fun e w' => e = .returned (.bool q) ∧ Below w.heap.size w w' := by
  have HN := Lib.hid hn
  have HM := Lib.hid hm
  have HA := Lib.hid ha
  have HBR := Lib.hid hb
  have HQ := Lib.hid hq
  clear hn hm ha hb hq
  by_cases hnm : n = m
  · subst hnm
    go_enter Try.func14, Try.ntmps14
    go_wp2_with fail
    go_loopg [5] n (fun gg s5 wr => ∃ k : Nat, k + gg = n ∧ s5 = .int .i64 (k : Int) ∧ Hid (Below w.heap.size w wr) ∧ Hid (a.take k = b.take k))
    case atStart => exact ⟨0, by omega, rfl, Below.refl _ _, by show _ = _; simp⟩
    case round =>
      obtain ⟨k, hkg, rfl, HB, HT⟩ := hrel
      cases gk with
      | zero =>
        obtain rfl : k = n := by omega
        have HF : Hid (true = q) := by
          refine (HQ.out.2 ?_).symm
          have := HT.out
          rwa [List.take_of_length_le (by rw [HN.out]; exact Nat.le_refl _), List.take_of_length_le (by rw [HM.out]; exact Nat.le_refl _)] at this
        go_wp2_with fail
        go_ret
        exact ⟨ret_b HF.out, HB.out⟩
      | succ gk =>
        have hk1 : k < a.length := by rw [HN.out]; omega
        have hk2 : k < b.length := by rw [HM.out]; omega
        have w5 : (k : Int) < (n : Int) := by omega
        obtain ⟨g, off, rfl, hg, c0⟩ := RdI.at1 (RdZ.below HA.out HB.out) hk1
        obtain ⟨g', off', rfl, hg', c1⟩ := RdI.at1 (RdZ.below HBR.out HB.out) hk2
        obtain ⟨x, hx⟩ : ∃ x, a[k] = x := ⟨_, rfl⟩
        obtain ⟨y, hy⟩ : ∃ y, b[k] = y := ⟨_, rfl⟩
        rw [hx] at c0
        rw [hy] at c1
        have HX := Lib.hid hx
        have HY := Lib.hid hy
        have c0 := gx_cell c0
        have c1 := gx_cell c1
        clear hx hy
        by_cases he : x = y
        · have hd : (x != y) = false := by simpa using he
          have HT2 : Hid (a.take (k + 1) = b.take (k + 1)) := take_ext hk1 hk2 HT.out (by rw [HX.out, HY.out]; exact he)
          clear he
          go_wp2_with fail
          (refine qb_region mixedT (by kernel_rfl) ?_; (repeat (refine hq_step (fun K hK => ?_); go_simp; first | (refine hK _ ?_; clear hK K) | (apply Exists.intro; refine ⟨fun _ => ?_, hK _ ?_⟩; (fail); clear hK K))); refine hq_nil ?_; intro _ hw'; obtain ⟨⟨nq, osq⟩, hw''⟩ := hw'; subst hw'')
          have HB2 := Lib.hid (below_next HB.out (Nat.le_refl _) (below_gx wr nq osq))
          clear c0 c1
          go_wp2_with fail
          go_roundg gk
          case measure => omega
          case rel => exact ⟨k + 1, by omega, by go_num, HB2, HT2⟩
        · have hd : (x != y) = true := by simpa using he
          have HF : Hid (false = q) := by
            cases q with
            | false => rfl
            | true =>
              have e := HQ.out.1 rfl
              refine absurd ?_ he
              rw [← HX.out, ← HY.out]
              simp only [e]
          clear he
          go_wp2_with fail
          (refine qb_region mixedT (by kernel_rfl) ?_; (repeat (refine hq_step (fun K hK => ?_); go_simp; first | (refine hK _ ?_; clear hK K) | (apply Exists.intro; refine ⟨fun _ => ?_, hK _ ?_⟩; (fail); clear hK K))); refine hq_nil ?_; intro _ hw'; obtain ⟨⟨nq, osq⟩, hw''⟩ := hw'; subst hw'')
          have HB2 := Lib.hid (below_next HB.out (Nat.le_refl _) (below_gx wr nq osq))
          go_wp2_with fail
          go_ret
          exact ⟨ret_b HF.out, HB2.out⟩
  · have hd : ((n : Int) != (m : Int)) = true := by simp; omega
    have HF : Hid (false = q) := by
      cases q with
      | false => rfl
      | true => exact absurd (by rw [← HN.out, ← HM.out, HQ.out.1 rfl]) hnm
    clear hnm
    go_enter Try.func14, Try.ntmps14
    go_wp2_with fail
    go_ret
    exact ⟨ret_b HF.out, Below.refl _ _⟩
theorem eqN (W : World) (x1 x2 y1 y2 : Int) : (Op.equalIn 10000 38 (.agg #[.int .i64 x1, .int .i64 x2]) (.agg #[.int .i64 y1, .int .i64 y2])).run Try.prog W = .ok (x1 == y1 && x2 == y2) W := by
  obtain ⟨i, hi, hz, hs, hby⟩ := LayZ.has layI
  rw [show (10000 : Nat) = 9999 + 1 from rfl, run_equalIn_array W 9999 _ _ Try.underlying38 hi]
  rw [show Try.prog.cellsOf 3 = 1 from by kernel_rfl, show (List.range 2) = [0, 1] from rfl]
  have h1 : (x1 == y1) = true ∨ (x1 == y1) = false := by cases (x1 == y1) <;> simp
  have h2 : (x2 == y2) = true ∨ (x2 == y2) = false := by cases (x2 == y2) <;> simp
  rcases h1 with h1 | h1 <;> rcases h2 with h2 | h2 <;> rw [h1, h2] <;> simp [Op.eqItems, go_sem, h1, h2]
theorem eqGuardN : Try.prog.eqGuardType Try.prog.depth 38 = false := by kernel_rfl
set_option maxRecDepth 100000 in
set_option maxHeartbeats 4000000 in
theorem pairs_at (A : Option Addr) (a : List (Int × Int)) (n c : Nat) (hn : a.length = n) (B : Option Addr) (b : List (Int × Int)) (m d : Nat) (hm : b.length = m) (hb9 : n ≤ 100000000 ∧ m ≤ 100000000) (w : World) (ha : RdZ layN w A a) (hb : RdZ layN w B b) (q : Bool) (hq : q = true ↔ a = b) :
    Calls Try.prog 17 #[.slice A n c, .slice B m d] w fun e w' => e = .returned (.bool q) ∧ Below w.heap.size w w' := by
  have hG := eqGuardN
  have HN := Lib.hid hn
  have HM := Lib.hid hm
  have HA := Lib.hid ha
  have HBR := Lib.hid hb
  have HQ := Lib.hid hq
  clear hn hm ha hb hq
  by_cases hnm : n = m
  · subst hnm
    go_enter Try.func17, Try.ntmps17
    go_wp2_with fail
    go_loopg [5] n (fun gg s5 wr => ∃ k : Nat, k + gg = n ∧ s5 = .int .i64 (k : Int) ∧ Hid (Below w.heap.size w wr) ∧ Hid (a.take k = b.take k))
    case atStart => exact ⟨0, by omega, rfl, Below.refl _ _, by show _ = _; simp⟩
    case round =>
      obtain ⟨k, hkg, rfl, HB, HT⟩ := hrel
      cases gk with
      | zero =>
        obtain rfl : k = n := by omega
        have HF : Hid (true = q) := by
          refine (HQ.out.2 ?_).symm
          have := HT.out
          rwa [List.take_of_length_le (by rw [HN.out]; exact Nat.le_refl _), List.take_of_length_le (by rw [HM.out]; exact Nat.le_refl _)] at this
        go_wp2_with fail
        go_ret
        exact ⟨ret_b HF.out, HB.out⟩
      | succ gk =>
        have hk1 : k < a.length := by rw [HN.out]; omega
        have hk2 : k < b.length := by rw [HM.out]; omega
        have w5 : (k : Int) < (n : Int) := by omega
        obtain ⟨g, off, rfl, hg, c0, c2⟩ := RdN.at2 (RdZ.below HA.out HB.out) hk1
        obtain ⟨g', off', rfl, hg', c1, c3⟩ := RdN.at2 (RdZ.below HBR.out HB.out) hk2
        obtain ⟨x, hx⟩ : ∃ x, a[k] = x := ⟨_, rfl⟩
        obtain ⟨y, hy⟩ : ∃ y, b[k] = y := ⟨_, rfl⟩
        rw [hx] at c0 c2
        rw [hy] at c1 c3
        have HX := Lib.hid hx
        have HY := Lib.hid hy
        have c0 := gx_cell c0
        have c1 := gx_cell c1
        have c2 := gx_cell c2
        have c3 := gx_cell c3
        clear hx hy
        obtain ⟨x1, x2⟩ := x
        obtain ⟨y1, y2⟩ := y
        dsimp only at c0 c1 c2 c3
        by_cases he : (x1, x2) = (y1, y2)
        · obtain ⟨h1, h2⟩ := Prod.mk.inj he
          have hen : ∀ W : World, (Op.equalIn 10000 38 (.agg #[.int .i64 x1, .int .i64 x2]) (.agg #[.int .i64 y1, .int .i64 y2])).run Try.prog W = .ok true W := fun W => by rw [eqN, beq_iff_eq.2 h1, beq_iff_eq.2 h2]; rfl
          have HT2 : Hid (a.take (k + 1) = b.take (k + 1)) := take_ext hk1 hk2 HT.out (by rw [HX.out, HY.out]; exact he)
          clear he h1 h2
          go_wp2_with fail
          (refine qb_region mixedT (by kernel_rfl) ?_; (repeat (refine hq_step (fun K hK => ?_); go_simp; first | (refine hK _ ?_; clear hK K) | (apply Exists.intro; refine ⟨fun _ => ?_, hK _ ?_⟩; (fail); clear hK K))); refine hq_nil ?_; intro _ hw'; obtain ⟨⟨nq, osq⟩, hw''⟩ := hw'; subst hw'')
          have HB2 := Lib.hid (below_next HB.out (Nat.le_refl _) (below_gx wr nq osq))
          clear c0 c1 c2 c3
          go_wp2_with fail
          go_roundg gk
          case measure => omega
          case rel => exact ⟨k + 1, by omega, by go_num, HB2, HT2⟩
        · have hen : ∀ W : World, (Op.equalIn 10000 38 (.agg #[.int .i64 x1, .int .i64 x2]) (.agg #[.int .i64 y1, .int .i64 y2])).run Try.prog W = .ok false W := fun W => by rw [eqN, show (x1 == y1 && x2 == y2) = false by rw [Bool.eq_false_iff]; intro h; simp at h; exact he (by rw [h.1, h.2])]
          have HF : Hid (false = q) := by
            cases q with
            | false => rfl
            | true =>
              have e := HQ.out.1 rfl
              refine absurd ?_ he
              rw [← HX.out, ← HY.out]
              simp only [e]
          clear he
          go_wp2_with fail
          (refine qb_region mixedT (by kernel_rfl) ?_; (repeat (refine hq_step (fun K hK => ?_); go_simp; first | (refine hK _ ?_; clear hK K) | (apply Exists.intro; refine ⟨fun _ => ?_, hK _ ?_⟩; (fail); clear hK K))); refine hq_nil ?_; intro _ hw'; obtain ⟨⟨nq, osq⟩, hw''⟩ := hw'; subst hw'')
          have HB2 := Lib.hid (below_next HB.out (Nat.le_refl _) (below_gx wr nq osq))
          go_wp2_with fail
          go_ret
          exact ⟨ret_b HF.out, HB2.out⟩
  · have hd : ((n : Int) != (m : Int)) = true := by simp; omega
    have HF : Hid (false = q) := by
      cases q with
      | false => rfl
      | true => exact absurd (by rw [← HN.out, ← HM.out, HQ.out.1 rfl]) hnm
    clear hnm
    go_enter Try.func17, Try.ntmps17
    go_wp2_with fail
    go_ret
    exact ⟨ret_b HF.out, Below.refl _ _⟩
end Go.Proofs.Ytckabmlilbkmbaa
namespace Go.Proofs.Ytckabmlilbkmbaa
open Go.RowKit Go.ChangeShapes Go.WideShapes Go.Deep Go.Sort
namespace Po
/-- What has been reached so far: from a; of the first i all that the edges tell; of the next one the first k edges. -/
structure Rc (E : List (Int × Int)) (T : List Int) (a : Int) (i k : Nat) (r : List Int) : Prop where
  nd : r.Nodup
  hd : ∃ t, r = a :: t
  st : ∀ x ∈ r, Star E a x
  sub : ∀ x ∈ r, x = a ∨ x ∈ T
  cl : ∀ j (h : j < r.length), j < i → ∀ y, (r[j], y) ∈ E → y ∈ r
  cur : ∀ (h : i < r.length) j (h2 : j < E.length), j < k → E[j].1 = r[i] → E[j].2 ∈ r
theorem Rc.start (E : List (Int × Int)) (T : List Int) (a : Int) : Rc E T a 0 0 [a] :=
  ⟨by simp, ⟨[], rfl⟩, fun x hx => by simp at hx; subst hx; exact .refl _, fun x hx => by simp at hx; exact .inl hx, fun j _ h => by omega, fun _ j _ h => by omega⟩
theorem Rc.pos {E : List (Int × Int)} {T : List Int} {a : Int} {i k : Nat} {r : List Int} (h : Rc E T a i k r) : 0 < r.length := by
  obtain ⟨t, rfl⟩ := h.hd; simp
theorem Rc.len {E : List (Int × Int)} {T : List Int} {a : Int} {i k : Nat} {r : List Int} (h : Rc E T a i k r) : r.length ≤ T.length + 1 := by
  have := nodup_len (L := r) (M := a :: T) h.nd fun x hx => by
    rcases h.sub x hx with rfl | hx
    · simp
    · exact List.mem_cons_of_mem _ hx
  simpa using this
theorem Rc.skip {E : List (Int × Int)} {T : List Int} {a : Int} {i k : Nat} {r : List Int} (h : Rc E T a i k r) (hk : k < E.length) (hi : i < r.length) (hs : E[k].1 = r[i] → E[k].2 ∈ r) : Rc E T a i (k + 1) r :=
  ⟨h.nd, h.hd, h.st, h.sub, h.cl, fun h1 j h2 hj e => by
    by_cases hjk : j = k
    · subst hjk; exact hs e
    · exact h.cur h1 j h2 (by omega) e⟩
theorem Rc.more {E : List (Int × Int)} {T : List Int} {a : Int} {i k : Nat} {r : List Int} (h : Rc E T a i k r) (hT : ∀ p ∈ E, p.2 ∈ T) (hk : k < E.length) (hi : i < r.length) (e : E[k].1 = r[i]) (hn : E[k].2 ∉ r) : Rc E T a i (k + 1) (r ++ [E[k].2]) := by
  have hm : (r[i], E[k].2) ∈ E := by rw [← e]; exact List.getElem_mem hk
  refine ⟨?_, ?_, fun x hx => ?_, fun x hx => ?_, fun j h1 hj y hy => ?_, fun h1 j h2 hj ej => ?_⟩
  · rw [List.nodup_append]
    exact ⟨h.nd, by simp, fun x hx y hy e => by simp at hy; subst hy; exact hn (e ▸ hx)⟩
  · obtain ⟨t, rfl⟩ := h.hd; exact ⟨t ++ [E[k].2], rfl⟩
  · rcases List.mem_append.1 hx with hx | hx
    · exact h.st x hx
    · simp at hx; subst hx; exact .step (h.st _ (List.getElem_mem hi)) hm
  · rcases List.mem_append.1 hx with hx | hx
    · exact h.sub x hx
    · simp at hx; subst hx; exact .inr (hT _ (List.getElem_mem hk))
  · have hjr : j < r.length := by omega
    rw [List.getElem_append_left hjr] at hy
    exact List.mem_append_left _ (h.cl j hjr hj y hy)
  · rw [List.getElem_append_left hi] at ej
    by_cases hjk : j = k
    · subst hjk; simp
    · exact List.mem_append_left _ (h.cur hi j h2 (by omega) ej)
theorem Rc.next {E : List (Int × Int)} {T : List Int} {a : Int} {i : Nat} {r : List Int} (h : Rc E T a i E.length r) (hi : i < r.length) : Rc E T a (i + 1) 0 r :=
  ⟨h.nd, h.hd, h.st, h.sub, fun j h1 hj y hy => by
    by_cases hji : j = i
    · subst hji
      obtain ⟨m, hm, e⟩ := List.getElem_of_mem hy
      have := h.cur h1 m hm hm (by rw [e])
      rw [e] at this; exact this
    · exact h.cl j h1 (by omega) y hy, fun _ j _ h => by omega⟩
theorem Rc.done {E : List (Int × Int)} {T : List Int} {a : Int} {i k : Nat} {r : List Int} (h : Rc E T a i k r) (hi : r.length ≤ i) : Reach E a r :=
  reach_of h.nd h.hd h.st fun x hx y hy => by
    obtain ⟨m, hm, e⟩ := List.getElem_of_mem hx
    subst e
    exact h.cl m hm (by omega) y hy
end Po
/-- Is a number among the first of a row, or so already? -/
def Hm (r : List Int) (y : Int) (s : Bool) (m : Nat) (b : Bool) : Prop := b = true ↔ s = true ∨ y ∈ r.take m
theorem Hm.next {r : List Int} {y : Int} {s : Bool} {m : Nat} {b : Bool} (h : Hm r y s m b) (hm : m < r.length) {x : Int} (hx : r[m] = x) : Hm r y s (m + 1) (b || x == y) := by
  unfold Hm at *
  rw [Bool.or_eq_true, h, List.take_succ_eq_append_getElem hm, List.mem_append, hx, beq_iff_eq]
  simp only [List.mem_singleton]
  constructor
  · rintro ((a | a) | a)
    · exact .inl a
    · exact .inr (.inl a)
    · exact .inr (.inr a.symm)
  · rintro (a | a | a)
    · exact .inl (.inl a)
    · exact .inl (.inr a)
    · exact .inr a.symm
set_option maxRecDepth 100000 in
set_option maxHeartbeats 4000000 in
theorem reach_at (A : Option Addr) (E : List (Int × Int)) (n c : Nat) (hn : E.length = n) (hm : n ≤ 100000) (a : Int) (T : List Int) (hT : ∀ p ∈ E, p.2 ∈ T) (hT9 : T.length ≤ 90) (w : World) (hr : RdZ layN w A E) :
    Calls Try.prog 21 #[.slice A n c, .int .i64 a] w fun e w' => ∃ (r : List Int) (B : Option Addr) (m d : Nat), e = .returned (.slice B m d) ∧ r.length = m ∧ m ≤ 91 ∧ m ≤ d ∧ RdZ layI w' B r ∧ Po.Reach E a r ∧ Below w.heap.size w w' := by
  have HN := Lib.hid hn
  have HR := Lib.hid hr
  have HT := Lib.hid hT
  have HB0 := Lib.hid (gr1 w (.cells #[.int .i64 a] 3)).below
  have HO0 := Lib.hid (ownz_lit layI w w.heap.size (Nat.le_refl _) [a] (by rw [maxLen_num]; simp) #[.int .i64 a] rfl)
  clear hn hr hT
  go_enter Try.func21, Try.ntmps21
  go_wp2_with fail
  go_loopg [5, 6] 100 (fun gg s5 s6 wr => ∃ (i m d : Nat) (B : Option Addr) (r : List Int), i ≤ m ∧ 100 - i ≤ gg ∧ s6 = .int .i64 (i : Int) ∧ s5 = .slice B m d ∧ m ≤ d ∧ m ≤ 91 ∧ Hid (r.length = m) ∧ Hid (Po.Rc E T a i 0 r) ∧ Hid (OwnZ layI wr w.heap.size (.slice B m d) r) ∧ Hid (Below w.heap.size w wr))
  case atStart => exact ⟨0, 1, 1, _, [a], by omega, by omega, rfl, rfl, Nat.le_refl _, by omega, rfl, Po.Rc.start E T a, HO0, HB0⟩
  case round =>
    obtain ⟨i, m, d, B, r, him, hgg, rfl, rfl, hmd, hm9, HM, HC, HO, HB⟩ := hrel
    clear HB0 HO0
    have hd : decide ((m : Int) < 100) = true := decide_eq_true (by omega)
    by_cases hlt : i < m
    · have hd1 : decide ((i : Int) < (m : Int)) = true := decide_eq_true (by omega)
      go_wp2_with fail
      obtain ⟨wo, rfl⟩ : ∃ x : World, x = wr := ⟨_, rfl⟩
      go_loopg [5, 7] n (fun g2 s5 s7 wy => ∃ (k m d : Nat) (B : Option Addr) (r : List Int), k ≤ n ∧ n - k ≤ g2 ∧ s7 = .int .i64 (k : Int) ∧ s5 = .slice B m d ∧ m ≤ d ∧ m ≤ 91 ∧ i < m ∧ Hid (r.length = m) ∧ Hid (Po.Rc E T a i k r) ∧ Hid (OwnZ layI wy w.heap.size (.slice B m d) r) ∧ Hid (Below w.heap.size w wy))
      case atStart => exact ⟨0, m, d, B, r, Nat.zero_le _, by omega, rfl, rfl, hmd, hm9, hlt, HM, HC, HO, HB⟩
      case round =>
        clear HM HC HO HB hmd hm9 hd hd1 hlt him
        obtain ⟨k, m, d, B, r, hk, hgg2, rfl, rfl, hmd, hm9, him, HM, HC, HO, HB⟩ := hrel
        by_cases hkn : k < n
        · have w5 : (k : Int) < (n : Int) := by omega
          have w6 : (i : Int) < (m : Int) := by omega
          have hk' : k < E.length := by rw [HN.out]; exact hkn
          have hi' : i < r.length := by rw [HM.out]; exact him
          obtain ⟨g, off, rfl, hg, c0, c1⟩ := RdN.at2 (RdZ.below HR.out HB.out) hk'
          obtain ⟨g', off', hB9, hg', c2⟩ := RdI.at1 (rdz_own HO.out) hi'
          subst hB9
          obtain ⟨⟨x, y⟩, hxy⟩ : ∃ p, E[k] = p := ⟨_, rfl⟩
          obtain ⟨z, hz⟩ : ∃ z, r[i] = z := ⟨_, rfl⟩
          rw [hxy] at c0 c1
          rw [hz] at c2
          dsimp only at c0 c1
          have HXY := Lib.hid hxy
          have HZ := Lib.hid hz
          obtain ⟨s, hs⟩ : ∃ s, (x != z) = s := ⟨_, rfl⟩
          have HS := Lib.hid hs
          have d0 := gx_cell c0
          have d2 := gx_cell c2
          clear hxy hz c0 c1 c2
          go_wp2_with fail
          (refine qb_region mixedT (by kernel_rfl) ?_; (repeat (refine hq_step (fun K hK => ?_); go_simp; first | (refine hK _ ?_; clear hK K) | (apply Exists.intro; refine ⟨fun _ => ?_, hK _ ?_⟩; (fail); clear hK K))); refine hq_nil ?_; intro _ hw'; obtain ⟨⟨nq, osq⟩, hw''⟩ := hw'; subst hw'')
          have hb := below_gx wr nq osq
          have HO2 := Lib.hid (OwnZ.below HO.out hb)
          have HB2 := Lib.hid (below_next HB.out (Nat.le_refl _) hb)
          generalize gx wr nq osq = w2 at *
          clear d0 d2 hb hg hg' HO HB hs
          obtain ⟨wp, rfl⟩ : ∃ x : World, x = w2 := ⟨_, rfl⟩
          go_wp2_with fail
          go_loopg [8, 9] m (fun g3 s8 s9 wz => ∃ (u : Nat) (b : Bool), u + g3 = m ∧ s9 = .int .i64 (u : Int) ∧ s8 = .bool b ∧ Hid (Hm r y s u b) ∧ Hid (Below wp.heap.size wp wz))
          case atStart => exact ⟨0, s, by omega, rfl, rfl, by show _ ↔ _; simp, Below.refl _ _⟩
          case round =>
            obtain ⟨u, b, hug, rfl, rfl, HH, HG⟩ := hrel
            have HO3 := Lib.hid (OwnZ.below HO2.out HG.out)
            have HB3 := Lib.hid (below_next HB2.out (Nat.le_refl _) HG.out)
            cases gk with
            | zero =>
              obtain rfl : u = m := by omega
              have hh : b = true ↔ s = true ∨ y ∈ r := by
                have := HH.out
                unfold Hm at this
                rwa [List.take_of_length_le (by rw [HM.out]; exact Nat.le_refl _)] at this
              cases b with
              | true =>
                have HC2 : Hid (Po.Rc E T a i (k + 1) r) := HC.out.skip hk' hi' fun e => by
                  rw [HXY.out, HZ.out] at e
                  rw [HXY.out]
                  rcases hh.1 rfl with h1 | h1
                  · have := HS.out
                    rw [h1] at this
                    simp at this
                    exact absurd e this
                  · exact h1
                clear hh
                go_wp2_with fail
                go_roundg (n - (k + 1))
                case measure => omega
                case rel => exact ⟨k + 1, u, d, _, r, by omega, Nat.le_refl _, by go_num, rfl, hmd, hm9, him, HM, HC2, HO3, HB3⟩
              | false =>
                have hs0 : s = false := by
                  cases s with
                  | false => rfl
                  | true => have := hh.2 (.inl rfl); cases this
                have hyn : y ∉ r := fun hy => by have := hh.2 (.inr hy); cases this
                have HC2 : Hid (Po.Rc E T a i (k + 1) (r ++ [y])) := by
                  have := HC.out.more HT.out hk' hi' (by rw [HXY.out, HZ.out]; have := HS.out; rw [hs0] at this; simpa using this) (by rw [HXY.out]; exact hyn)
                  rw [HXY.out] at this
                  exact this
                have hl9 : u + 1 ≤ 91 := by have := HC2.out.len; rw [List.length_append, HM.out] at this; simp at this; omega
                obtain ⟨g2, off2, hA9, hg2, _, c1⟩ := RdN.at2 (RdZ.below HR.out HB3.out) hk'
                injection hA9 with hA9
                injection hA9 with e1 e2
                subst e1; subst e2
                rw [HXY.out] at c1
                dsimp only at c1
                have hrx := rdz_one layI wr y 3 #[.int .i64 y] rfl
                have hbq : Below wr.heap.size wr (wr.alloc (.cells #[.int .i64 y] 3)) := (gr1 wr _).below
                have ho3 := OwnZ.below HO3.out hbq
                have hs3 : w.heap.size ≤ (wr.alloc (.cells #[.int .i64 y] 3)).heap.size := Nat.le_trans HB3.out.size hbq.size
                have hb3 := below_next HB3.out (Nat.le_refl _) hbq
                have hlm := HM.out
                clear hh hs0 hyn
                go_wp2_with (at_builtin; refine wpList_append_z layI (by rfl) (.tmp 60) (.tmp 66) 30 underI rfl w.heap.size _ r (by rfl) ho3 _ [y] 1 1 (by rfl) hrx rfl (by rw [maxLen_num, hlm]; omega) (by simp only [layI]; rw [hlm]; omega) hs3 ?_; intro v2 y2 o2 b2 _ _; have hl2 : (r ++ [y]).length = u + 1 := (by rw [List.length_append, hlm]; rfl); obtain ⟨B2, d2, hv2, hd2, _⟩ := OwnZ.form o2 hl2; subst hv2; have HB4 := Lib.hid (b2 w hb3); have HO4 := Lib.hid o2; have HM4 := Lib.hid hl2; clear b2 o2 hl2 hb3 ho3 hrx hbq hs3 hlm c1)
                go_roundg (n - (k + 1))
                case measure => omega
                case rel => exact ⟨k + 1, u + 1, d2, B2, r ++ [y], by omega, Nat.le_refl _, by go_num, rfl, hd2, hl9, by omega, HM4, HC2, HO4, HB4⟩
            | succ gk =>
              have hu' : u < r.length := by rw [HM.out]; omega
              have w8 : (u : Int) < (m : Int) := by omega
              obtain ⟨g2, off2, hA9, hg2, _, c1⟩ := RdN.at2 (RdZ.below HR.out HB3.out) hk'
              injection hA9 with hA9
              injection hA9 with e1 e2
              subst e1; subst e2
              obtain ⟨g3, off3, hB9, hg3, c2⟩ := RdI.at1 (rdz_own HO3.out) hu'
              injection hB9 with hB9
              injection hB9 with e1 e2
              subst e1; subst e2
              rw [HXY.out] at c1
              dsimp only at c1
              obtain ⟨v, hv⟩ : ∃ v, r[u] = v := ⟨_, rfl⟩
              rw [hv] at c2
              have c1 := gx_cell c1
              have c2 := gx_cell c2
              have HH2 := Lib.hid (HH.out.next hu' hv)
              clear hv
              cases b with
              | true =>
                go_wp2_with fail
                (refine qb_region mixedT (by kernel_rfl) ?_; (repeat (refine hq_step (fun K hK => ?_); go_simp; first | (refine hK _ ?_; clear hK K) | (apply Exists.intro; refine ⟨fun _ => ?_, hK _ ?_⟩; (fail); clear hK K))); refine hq_nil ?_; intro _ hw'; obtain ⟨⟨nq, osq⟩, hw''⟩ := hw'; subst hw'')
                have HG2 := Lib.hid (below_next HG.out (Nat.le_refl _) (below_gx wr nq osq))
                clear c1 c2
                go_wp2_with fail
                go_roundg gk
                case measure => omega
                case rel => exact ⟨u + 1, true, by omega, by go_num, rfl, HH2, HG2⟩
              | false =>
                obtain ⟨b2, hb2⟩ : ∃ b2, (v == y) = b2 := ⟨_, rfl⟩
                rw [hb2] at HH2
                go_wp2_with fail
                (refine qb_region mixedT (by kernel_rfl) ?_; (repeat (refine hq_step (fun K hK => ?_); go_simp; first | (refine hK _ ?_; clear hK K) | (apply Exists.intro; refine ⟨fun _ => ?_, hK _ ?_⟩; (fail); clear hK K))); refine hq_nil ?_; intro _ hw'; obtain ⟨⟨nq, osq⟩, hw''⟩ := hw'; subst hw'')
                have HG2 := Lib.hid (below_next HG.out (Nat.le_refl _) (below_gx wr nq osq))
                clear c1 c2 hb2
                go_wp2_with fail
                go_roundg gk
                case measure => omega
                case rel => exact ⟨u + 1, b2, by omega, by go_num, rfl, HH2, HG2⟩
        · obtain rfl : k = n := by omega
          have HC2 : Hid (Po.Rc E T a (i + 1) 0 r) := by
            have := HC.out
            rw [← HN.out] at this
            exact this.next (by rw [HM.out]; exact him)
          go_wp2_with fail
          go_roundg (100 - (i + 1))
          case measure => omega
          case rel => exact ⟨i + 1, m, d, B, r, by omega, Nat.le_refl _, by go_num, rfl, hmd, hm9, HM, HC2, HO, HB⟩
    · have hd1 : decide ((i : Int) < (m : Int)) = false := decide_eq_false (by omega)
      go_wp2_with fail
      go_ret
      exact ⟨r, B, m, d, rfl, HM.out, hm9, hmd, rdz_own HO.out, HC.out.done (by rw [HM.out]; omega), HB.out⟩
end Go.Proofs.Ytckabmlilbkmbaa
namespace Go.Proofs.Ytckabmlilbkmbaa
open Go.RowKit Spans Op
def ip (o k : Int) : Pr := ⟨[97], o, 1, k, []⟩
def spn (lo hi : Int) : Sp := ⟨1, lo, hi, [], [], false, []⟩
theorem can_spn {lo hi : Int} (h1 : -9223372036854775808 ≤ lo) (h2 : lo ≤ hi) (h3 : hi ≤ 9223372036854775807) : CanonN (spn lo hi) :=
  ⟨.inl rfl, rfl, rfl, rfl, h1, h2, h3, fun v hv => by simp [spn] at hv, List.Pairwise.nil⟩
theorem holds_ints {l : List Pr} (hr : ∀ p ∈ l, rightP p = true ∧ p.k = 1 ∧ ofNo p = []) (hne : l ≠ []) {v : Val} (hv : rightV v = true) : (∀ p ∈ l, holdsP p v = true) ↔ v.k = 1 ∧ ∀ p ∈ l, ofLo p ≤ v.i ∧ v.i ≤ ofHi p := by
  constructor
  · intro h
    obtain ⟨p, hp⟩ := List.exists_mem_of_ne_nil _ hne
    refine ⟨?_, fun q hq => ?_⟩
    · obtain ⟨h1, h2, _⟩ := hr p hp
      have := (holds_N h1 (.inl h2) hv).1 (h p hp)
      rw [this.1, h2]
    · obtain ⟨h1, h2, _⟩ := hr q hq
      have := (holds_N h1 (.inl h2) hv).1 (h q hq)
      exact ⟨this.2.1, this.2.2.1⟩
  · rintro ⟨h0, h⟩ q hq
    obtain ⟨h1, h2, h3⟩ := hr q hq
    rw [holds_N h1 (.inl h2) hv, h2, h3]
    exact ⟨h0, (h q hq).1, (h q hq).2, by simp⟩
theorem all_ints {l : List Pr} {lo hi : Int} (hr : ∀ p ∈ l, rightP p = true ∧ p.k = 1 ∧ ofNo p = []) (hne : l ≠ []) (h : ∀ x : Int, -9223372036854775808 ≤ x → x ≤ 9223372036854775807 → ((∀ p ∈ l, ofLo p ≤ x ∧ x ≤ ofHi p) ↔ lo ≤ x ∧ x ≤ hi))
    (h1 : -9223372036854775808 ≤ lo) (h2 : lo ≤ hi) (h3 : hi ≤ 9223372036854775807) : IsAll l (spn lo hi) := by
  refine ⟨.inr (.inr (.inl (can_spn h1 h2 h3))), fun v hv => ?_⟩
  have hb := (rightV_iff v).1 hv
  rw [N_iff (can_spn h1 h2 h3), holds_ints hr hne hv, h v.i hb.2.1 hb.2.2]
  simp [spn, hv]
theorem all_none {l : List Pr} (hr : ∀ p ∈ l, rightP p = true ∧ p.k = 1 ∧ ofNo p = []) (hne : l ≠ []) (h : ∀ x : Int, ¬ ∀ p ∈ l, ofLo p ≤ x ∧ x ≤ ofHi p) : IsAll l none_ := by
  refine ⟨.inl rfl, fun v hv => ?_⟩
  rw [has_none, holds_ints hr hne hv]
  constructor
  · intro h; cases h
  · rintro ⟨_, h1⟩; exact absurd h1 (h _)
def all97 (f : List Pr) : Prop := f ≠ [] ∧ ∀ p ∈ f, p.n = [97]
theorem of97 {f : List Pr} (h : all97 f) : Fil.of f [97] = f := List.filter_eq_self.2 fun p hp => by simp [h.2 p hp]
theorem names97 {f : List Pr} (h : all97 f) : Fil.IsNames f [[97]] := by
  refine ⟨by simp, fun n => ?_⟩
  rw [List.mem_singleton]
  constructor
  · rintro rfl
    obtain ⟨p, hp⟩ := List.exists_mem_of_ne_nil _ h.1
    exact ⟨p, hp, h.2 p hp⟩
  · rintro ⟨p, hp, rfl⟩
    exact h.2 p hp
theorem spans97 {f : List Pr} {a : Sp} (h : all97 f) (ha : IsAll f a) : Fil.IsSpans f (fun _ => a) := fun n hn => by
  have : n = [97] := by obtain ⟨p, hp, rfl⟩ := hn; exact h.2 p hp
  subst this
  rw [of97 h]
  exact ha
theorem good97 {f out : List Pr} {a : Sp} (h : all97 f) (hs : Fil.Sound f) (ha : IsAll f a) (h0 : a.kind ≠ 0) (ho : predsOf [97] a = out) (hl : out.length ≤ 24) : Fil.Good f out (fun _ => a) [[97]] where
  sound := hs
  spans := spans97 h ha
  names := names97 h
  full := fun ⟨_, _, e⟩ => h0 e
  len := hl
  is := by unfold Fil.outOf; simp [ho]
theorem void97 {f : List Pr} (h : all97 f) (hs : Fil.Sound f) (ha : IsAll f none_) : Fil.NormIs f [] 9 := by
  refine .inr (.inr ⟨hs, _, _, spans97 h ha, names97 h, .inl ⟨?_, rfl, rfl⟩⟩)
  obtain ⟨p, hp⟩ := List.exists_mem_of_ne_nil _ h.1
  exact ⟨p, hp, rfl⟩
def f1 : List Pr := [ip 3 6, ip 5 3]
def o1 : List Pr := [ip 6 4, ip 4 5]
def f2 : List Pr := [ip 3 3, ip 5 3]
def f3 : List Pr := [⟨[97], 0, 0, 0, []⟩]
def f4 : List Pr := [ip 3 1]
def f5 : List Pr := [ip 5 0]
theorem g1 : Fil.Good f1 o1 (fun _ => spn 4 5) [[97]] := by
  refine good97 ⟨by decide, by decide⟩ (by decide) (all_ints (by decide) (by decide) (fun x _ _ => ?_) (by decide) (by decide) (by decide)) (by decide) (by decide) (by decide)
  simp only [f1, List.forall_mem_cons, List.not_mem_nil, false_implies, implies_true, and_true]
  simp [ip, ofLo, ofHi, lowest, highest]
  omega
theorem n1 : Fil.NormIs f1 o1 0 := g1.norm
theorem n2 : Fil.NormIs f2 [] 9 := by
  refine void97 ⟨by decide, by decide⟩ (by decide) (all_none (by decide) (by decide) fun x => ?_)
  simp only [f2, List.forall_mem_cons, List.not_mem_nil, false_implies, implies_true, and_true]
  simp [ip, ofLo, ofHi, lowest, highest]
  omega
theorem n3 : Fil.NormIs f3 [] 1 := .inr (.inl ⟨by decide, by decide, rfl, rfl⟩)
theorem g4 : Fil.Good f4 [ip 4 0] (fun _ => spn (-9223372036854775808) 0) [[97]] := by
  refine good97 ⟨by decide, by decide⟩ (by decide) (all_ints (by decide) (by decide) (fun x _ _ => ?_) (by decide) (by decide) (by decide)) (by decide) (by decide) (by decide)
  simp only [f4, List.forall_mem_cons, List.not_mem_nil, false_implies, implies_true, and_true]
  simp [ip, ofLo, ofHi, lowest]
theorem n4 : ¬ Fil.NormIs f4 f4 0 := fun h => by
  have := (h.one g4.norm).1
  exact absurd this (by decide)
theorem n0 : Fil.NormIs [] [] 0 := by
  have h0 : ∀ n, ¬ Fil.Asked [] n := fun n ⟨p, hp, _⟩ => by cases hp
  exact .inr (.inr ⟨⟨by simp, fun p hp => (by cases hp)⟩, fun _ => none_, [], fun n hn => absurd hn (h0 n), Fil.IsNames.nil, .inr (.inr ⟨fun ⟨p, hp, _⟩ => (by cases hp), by simp [Fil.outOf], rfl, rfl⟩)⟩)
theorem g5 : Fil.Good f5 [ip 6 1] (fun _ => spn 1 9223372036854775807) [[97]] := by
  refine good97 ⟨by decide, by decide⟩ (by decide) (all_ints (by decide) (by decide) (fun x _ _ => ?_) (by decide) (by decide) (by decide)) (by decide) (by decide) (by decide)
  simp only [f5, List.forall_mem_cons, List.not_mem_nil, false_implies, implies_true, and_true]
  simp [ip, ofLo, ofHi, highest]
theorem m1 : Fil.meets o1 [⟨[97], 1, 5, []⟩] = true := by decide
theorem m2 : Fil.meets [ip 2 5] [⟨[97], 1, 5, []⟩] = false := by decide
end Go.Proofs.Ytckabmlilbkmbaa
