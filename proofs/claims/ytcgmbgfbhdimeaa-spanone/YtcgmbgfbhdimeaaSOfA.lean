/- Package span: Of, of whatever predicate. -/
import Derived.Test.YtcgmbgfbhdimeaaSOfN
import Derived.Test.YtcgmbgfbhdimeaaSOfT
namespace Go.Proofs.Ytcgmbgfbhdimeaa
open Go.RowKit Go.Sort Spans Op
set_option maxRecDepth 100000 in
set_option maxHeartbeats 2000000 in
theorem of_no (n : List UInt8) (o k i : Int) (t : List UInt8) (w : World) (hn : n.length ≤ 9223372036854775807) (hl : t.length ≤ 9223372036854775807) (hr : Preds.right n o k i t = false) :
    Calls Try.prog 28 #[.agg #[.string ⟨n.toArray⟩, .int .i64 o, .int .i64 k, .int .i64 i, .string ⟨t.toArray⟩]] w (Gives w none_) := by
  have HRR := Lib.hid hr
  clear hr
  have hgr := gr2 w (.cells #[.string ⟨n.toArray⟩, .int .i64 o, .int .i64 k, .int .i64 i, .string ⟨t.toArray⟩] 40) (.cells #[.int .i64 0, .int .i64 0, .int .i64 0, .string ⟨#[]⟩, .string ⟨#[]⟩, .bool false, .slice none 0 0] 29)
  have hY := Blk.new (w.alloc (.cells #[.string ⟨n.toArray⟩, .int .i64 o, .int .i64 k, .int .i64 i, .string ⟨t.toArray⟩] 40)) 29 #[.int .i64 0, .int .i64 0, .int .i64 0, .string ⟨#[]⟩, .string ⟨#[]⟩, .bool false, .slice none 0 0]
  rw [show (w.alloc (.cells #[.string ⟨n.toArray⟩, .int .i64 o, .int .i64 k, .int .i64 i, .string ⟨t.toArray⟩] 40)).heap.size = w.heap.size + 1 by simp] at hY
  go_enter Try.func28, Try.ntmps28
  go_wp2_with fail
  generalize (w.alloc (.cells #[.string ⟨n.toArray⟩, .int .i64 o, .int .i64 k, .int .i64 i, .string ⟨t.toArray⟩] 40)).alloc (.cells #[.int .i64 0, .int .i64 0, .int .i64 0, .string ⟨#[]⟩, .string ⟨#[]⟩, .bool false, .slice none 0 0] 29) = w0 at *
  refine (pright_is n o k i t w0 hn hl false HRR.out).mono ?_
  rintro e w1 ⟨rfl, hb1⟩
  have hY1 := Blk.below hY hb1 hY.lt
  have hB1 := below_next hgr.below (Nat.le_refl _) hb1
  obtain ⟨y0, y1, y2, y3, y4, y5, y6, q0, q1, q2, q3, q4, q5, q6⟩ := blk7 hY1
  have hl1 := hY1.lt
  clear hgr hY hb1
  go_wp2_with fail
  refine bodyPost_ret (v := spF 0 0 0 [] [] false none 0 0) (by simp [results, Try.results28, go_sem, y0, y1, y2, y3, y4, y5, y6]) rfl ?_
  exact ⟨none, 0, 0, rfl, rfl, Nat.le_refl _, OwnK.none_ _ _, below_put7 hB1 (by omega) _ _ _ _ _ _ _⟩
set_option maxRecDepth 100000 in
set_option maxHeartbeats 2000000 in
theorem of_any (n : List UInt8) (k i : Int) (t : List UInt8) (w : World) (hn : n.length ≤ 9223372036854775807) (hl : t.length ≤ 9223372036854775807) (hr : Preds.right n 8 k i t = true) :
    Calls Try.prog 28 #[.agg #[.string ⟨n.toArray⟩, .int .i64 8, .int .i64 k, .int .i64 i, .string ⟨t.toArray⟩]] w (Gives w any_) := by
  have HRR := Lib.hid hr
  clear hr
  have hgr := gr2 w (.cells #[.string ⟨n.toArray⟩, .int .i64 8, .int .i64 k, .int .i64 i, .string ⟨t.toArray⟩] 40) (.cells #[.int .i64 0, .int .i64 0, .int .i64 0, .string ⟨#[]⟩, .string ⟨#[]⟩, .bool false, .slice none 0 0] 29)
  have hP := (Blk.new w 40 #[.string ⟨n.toArray⟩, .int .i64 8, .int .i64 k, .int .i64 i, .string ⟨t.toArray⟩]).alloc (.cells #[.int .i64 0, .int .i64 0, .int .i64 0, .string ⟨#[]⟩, .string ⟨#[]⟩, .bool false, .slice none 0 0] 29)
  have hY := Blk.new (w.alloc (.cells #[.string ⟨n.toArray⟩, .int .i64 8, .int .i64 k, .int .i64 i, .string ⟨t.toArray⟩] 40)) 29 #[.int .i64 0, .int .i64 0, .int .i64 0, .string ⟨#[]⟩, .string ⟨#[]⟩, .bool false, .slice none 0 0]
  rw [show (w.alloc (.cells #[.string ⟨n.toArray⟩, .int .i64 8, .int .i64 k, .int .i64 i, .string ⟨t.toArray⟩] 40)).heap.size = w.heap.size + 1 by simp] at hY
  go_enter Try.func28, Try.ntmps28
  go_wp2_with fail
  generalize (w.alloc (.cells #[.string ⟨n.toArray⟩, .int .i64 8, .int .i64 k, .int .i64 i, .string ⟨t.toArray⟩] 40)).alloc (.cells #[.int .i64 0, .int .i64 0, .int .i64 0, .string ⟨#[]⟩, .string ⟨#[]⟩, .bool false, .slice none 0 0] 29) = w0 at *
  refine (pright_is n 8 k i t w0 hn hl true HRR.out).mono ?_
  rintro e w1 ⟨rfl, hb1⟩
  have hP1 := Blk.below hP hb1 hP.lt
  have hY1 := Blk.below hY hb1 hY.lt
  have hB1 := below_next hgr.below (Nat.le_refl _) hb1
  obtain ⟨p0, p1, p2, p3, p4, _⟩ := blk5 hP1
  have hl1 := hP1.lt
  clear hgr hY hb1 hP
  go_wp2_with fail
  refine (all_at w1).mono ?_
  rintro e w2 ⟨rfl, hg2⟩
  have hY2 := Blk.below hY1 hg2.below hY1.lt
  have hB2 := below_next hB1 (Nat.le_refl _) hg2.below
  obtain ⟨y0, y1, y2, y3, y4, y5, y6, q0, q1, q2, q3, q4, q5, q6⟩ := blk7 hY2
  have hl2 := hY2.lt
  clear p0 p1 p2 p3 p4 hP1 hY1 hB1 hg2
  go_wp2_with fail
  refine bodyPost_ret (v := spF 4 0 0 [] [] false none 0 0) (by simp [results, Try.results28, go_sem, y0, y1, y2, y3, y4, y5, y6]) rfl ?_
  exact ⟨none, 0, 0, rfl, rfl, Nat.le_refl _, OwnK.none_ _ _, below_put7 hB2 (by omega) _ _ _ _ _ _ _⟩
end Go.Proofs.Ytcgmbgfbhdimeaa
namespace Spans
open Go.Op (bytesLess)
theorem ofN_of {p : Pr} {r : Sp} (h : rightP p = true) (hk : p.k = 1 ∨ p.k = 3) {lo hi : Int} {no : List Val} (hi' : IsInts p.k lo hi no r)
    (he : ∀ v, rightV v = true → v.k = p.k → ((lo ≤ v.i ∧ v.i ≤ hi ∧ v ∉ no) ↔ (ofLo p ≤ v.i ∧ v.i ≤ ofHi p ∧ v ∉ ofNo p))) : IsOf p r :=
  ⟨hi'.1, fun v hv => by
    rw [hi'.2 v hv, holds_N h hk hv]
    constructor
    · rintro ⟨a, b⟩; exact ⟨a, (he v hv a).1 b⟩
    · rintro ⟨a, b⟩; exact ⟨a, (he v hv a).2 b⟩⟩
theorem ofT_of {p : Pr} {r : Sp} (h : rightP p = true) (hk : p.k = 2) {f t : List UInt8} {o : Bool} {no : List Val} (hi' : IsTexts f t o no r)
    (he : ∀ v, rightV v = true → v.k = 2 → ((bytesLess v.t f = false ∧ (o = true ∨ bytesLess v.t t = true) ∧ v ∉ no) ↔ (bytesLess v.t (ofFrm p) = false ∧ (ofOpn p = true ∨ bytesLess v.t (ofTo p) = true) ∧ v ∉ ofNo p))) : IsOf p r :=
  ⟨hi'.1, fun v hv => by
    rw [hi'.2 v hv, holds_T h hk hv]
    constructor
    · rintro ⟨a, b⟩; exact ⟨a, (he v hv a).1 b⟩
    · rintro ⟨a, b⟩; exact ⟨a, (he v hv a).2 b⟩⟩
theorem notN {k i : Int} {v : Val} (hv : rightV v = true) (hk : k = 1 ∨ k = 3) (hvk : v.k = k) : v ∉ [(⟨k, i, []⟩ : Val)] ↔ v.i ≠ i := by
  rw [List.mem_singleton]
  have ht := right_numT hv (hvk ▸ hk)
  exact ⟨fun h e => h (Val.ext_ hvk e ht), fun h e => h (by rw [e])⟩
theorem notT {t : List UInt8} {v : Val} (hv : rightV v = true) (hvk : v.k = 2) : v ∉ [(⟨2, 0, t⟩ : Val)] ↔ v.t ≠ t := by
  rw [List.mem_singleton]
  have hi := (right_textI hv hvk).1
  exact ⟨fun h e => h (Val.ext_ hvk hi e), fun h e => h (by rw [e])⟩
theorem lt_iff_next {a t : List UInt8} : (bytesLess a (t ++ [0]) = true ∧ a ≠ t) ↔ bytesLess a t = true := by
  rw [lt_next]
  constructor
  · rintro ⟨h1, h2⟩
    rcases less_or a t with h | h | h
    · exact h
    · exact absurd h h2
    · rw [h] at h1; simp at h1
  · intro h
    exact ⟨le_of_lt h, fun e => by rw [e, Vals.less_irr] at h; simp at h⟩
theorem ge_iff_next {a t : List UInt8} : (bytesLess a t = false ∧ a ≠ t) ↔ bytesLess a (t ++ [0]) = false := by
  have h := lt_next a t
  constructor
  · rintro ⟨h1, h2⟩
    rcases less_or a t with g | g | g
    · rw [g] at h1; simp at h1
    · exact absurd g h2
    · cases hq : bytesLess a (t ++ [0]) with
      | false => rfl
      | true => rw [h.1 hq] at g; simp at g
  · intro g
    have h3 : bytesLess t a = true := by
      cases hq : bytesLess t a with
      | true => rfl
      | false => rw [h.2 hq] at g; simp at g
    exact ⟨le_of_lt h3, fun e => by rw [e, Vals.less_irr] at h3; simp at h3⟩
end Spans
namespace Go.Proofs.Ytcgmbgfbhdimeaa
open Go.RowKit Go.Sort Spans Op
/-- What Of tells. -/
def Ofs (w : World) (p : Pr) (e : Ending) (w' : World) : Prop := ∃ r, IsOf p r ∧ r.no.length ≤ 1 ∧ Gives w r e w'
theorem of_at (p : Pr) (w : World) (hn : p.n.length ≤ 9223372036854775807) (hl : p.t.length ≤ 9223372036854775807) (hi1 : -9223372036854775808 ≤ p.i) (hi2 : p.i ≤ 9223372036854775807) :
    Calls Try.prog 28 #[.agg #[.string ⟨p.n.toArray⟩, .int .i64 p.o, .int .i64 p.k, .int .i64 p.i, .string ⟨p.t.toArray⟩]] w (Ofs w p) := by
  obtain ⟨n, o, k, i, t⟩ := p
  dsimp only at *
  cases hr : Preds.right n o k i t with
  | false => exact (of_no n o k i t w hn hl hr).mono fun e w' h => ⟨none_, of_wrong hr, by simp [none_], h⟩
  | true =>
    have hP : rightP ⟨n, o, k, i, t⟩ = true := (rightP_iff _).2 ⟨hr, hi1, hi2⟩
    rcases rightP_cases hP with ⟨h8, h1, h2, h3⟩ | ⟨h8, h1, h2, hv, hlt, h7⟩
    · dsimp only at h8 h1 h2 h3
      subst h8
      exact (of_any n k i t w hn hl hr).mono fun e w' h => ⟨any_, of_E hP rfl, by simp [any_], h⟩
    · dsimp only at h8 h1 h2 hv hlt h7
      by_cases hk2 : k = 2
      · subst hk2
        have hi0 : i = 0 := by rcases Vals.right_cases hv with ⟨h, _⟩ | ⟨_, h, _⟩ | ⟨h, _⟩ <;> omega
        subst hi0
        have hoo : o = 1 ∨ o = 2 ∨ o = 3 ∨ o = 4 ∨ o = 5 ∨ o = 6 ∨ o = 7 := by omega
        rcases hoo with rfl | rfl | rfl | rfl | rfl | rfl | rfl
        · exact (of_T1 n t hlt w hn hr).mono fun e w' ⟨r, hi, hl, h⟩ => ⟨r, ofT_of hP rfl hi (fun v _ _ => by simp [ofFrm, ofTo, ofOpn, ofNo]), hl, h⟩
        · exact (of_T2 n t hlt w hn hr).mono fun e w' ⟨r, hi, hl, h⟩ => ⟨r, ofT_of hP rfl hi (fun v _ _ => by simp [ofFrm, ofTo, ofOpn, ofNo, sideV]), hl, h⟩
        · exact (of_T3 n t hlt w hn hr).mono fun e w' ⟨r, hi, hl, h⟩ => ⟨r, ofT_of hP rfl hi (fun v hv hk => by rw [notT hv hk]; simp only [Bool.false_eq_true, false_or, lt_iff_next]; simp [ofFrm, ofTo, ofOpn, ofNo]), hl, h⟩
        · exact (of_T4 n t hlt w hn hr).mono fun e w' ⟨r, hi, hl, h⟩ => ⟨r, ofT_of hP rfl hi (fun v _ _ => by simp [ofFrm, ofTo, ofOpn, ofNo]), hl, h⟩
        · exact (of_T5 n t hlt w hn hr).mono fun e w' ⟨r, hi, hl, h⟩ => ⟨r, ofT_of hP rfl hi (fun v hv hk => by rw [notT hv hk]; simp only [true_or, true_and, ge_iff_next]; simp [ofFrm, ofOpn, ofNo]), hl, h⟩
        · exact (of_T6 n t hlt w hn hr).mono fun e w' ⟨r, hi, hl, h⟩ => ⟨r, ofT_of hP rfl hi (fun v _ _ => by simp [ofFrm, ofOpn, ofNo]), hl, h⟩
        · exact (of_T7 n t hlt _ _ rfl rfl w hn hr).mono fun e w' ⟨r, hi, hl, h⟩ => ⟨r, ofT_of hP rfl hi (fun v _ _ => by simp [ofFrm, ofTo, ofOpn, ofNo]), hl, h⟩
      · have hk : k = 1 ∨ k = 3 := by rcases Vals.right_cases hv with ⟨h, _⟩ | ⟨h, _⟩ | ⟨h, _⟩ <;> omega
        have ht : t = [] := by rcases Vals.right_cases hv with ⟨_, h⟩ | ⟨h, _⟩ | ⟨_, h, _⟩ <;> first | exact h | omega
        subst ht
        have hb := num_bd (rightP_side hP h8) hk
        have hb1 : lowest k ≤ i := hb.1
        have hb2 : i ≤ highest k := hb.2
        have hoo : o = 1 ∨ o = 2 ∨ o = 3 ∨ o = 4 ∨ o = 5 ∨ o = 6 := by
          rcases (show o = 7 ∨ o ≠ 7 by omega) with h | h
          · exact absurd (h7 h) hk2
          · omega
        rcases hoo with rfl | rfl | rfl | rfl | rfl | rfl
        · exact (of_N1 n k i hk hb1 hb2 w hn hr).mono fun e w' ⟨r, hi, hl, h⟩ => ⟨r, ofN_of hP hk hi (fun v _ _ => by simp [ofLo, ofHi, ofNo]), hl, h⟩
        · exact (of_N2 n k i hk hb1 hb2 w hn hr).mono fun e w' ⟨r, hi, hl, h⟩ => ⟨r, ofN_of hP hk hi (fun v _ _ => by simp [ofLo, ofHi, ofNo, sideV]), hl, h⟩
        · exact (of_N3 n k i hk hb1 hb2 w hn hr).mono fun e w' ⟨r, hi, hl, h⟩ => ⟨r, ofN_of hP hk hi (fun v hv hvk => by rw [notN hv hk hvk]; simp [ofLo, ofHi, ofNo]; omega), hl, h⟩
        · exact (of_N4 n k i hk hb1 hb2 w hn hr).mono fun e w' ⟨r, hi, hl, h⟩ => ⟨r, ofN_of hP hk hi (fun v _ _ => by simp [ofLo, ofHi, ofNo]), hl, h⟩
        · exact (of_N5 n k i hk hb1 hb2 w hn hr).mono fun e w' ⟨r, hi, hl, h⟩ => ⟨r, ofN_of hP hk hi (fun v hv hvk => by rw [notN hv hk hvk]; simp [ofLo, ofHi, ofNo]; omega), hl, h⟩
        · exact (of_N6 n k i hk hb1 hb2 w hn hr).mono fun e w' ⟨r, hi, hl, h⟩ => ⟨r, ofN_of hP hk hi (fun v _ _ => by simp [ofLo, ofHi, ofNo]), hl, h⟩
end Go.Proofs.Ytcgmbgfbhdimeaa
