/-
 A filter's one form, which filters are right, which events meet them, which filters cover and cross, and their bytes, are the document's own answer: for all rows of predicates, every row of attributes and all bytes the call of the law answers true, and all arguments read behind it as they read before. No condition.
-/
import Derived.Test.YtaglnncihmohfaaGreatF4
set_option maxRecDepth 100000
set_option maxHeartbeats 4000000
namespace Go.Proofs.YtaglnncihmohfaaGreat
open Go.RowKit Go.ChangeShapes Go.WideShapes Go.ChangeAt Go.Sort Spans Op
def few8 (l : List Pr) : Bool := decide (∀ p ∈ l, p.n.length <= 100 /\ p.t.length <= 100) && decide (l.length <= 40)
theorem pbd_few8 {f : List Pr} (h : few8 f = true) (hb : ∀ p ∈ f, -9223372036854775808 <= p.i /\ p.i <= 9223372036854775807) : PBd f /\ f.length <= 40 := by
 unfold few8 at h
 simp only [Bool.and_eq_true, decide_eq_true_eq] at h
 exact ⟨fun p hp => ⟨(h.1 p hp).1, (h.1 p hp).2, (hb p hp).1, (hb p hp).2⟩, h.2⟩
theorem tells_same {a b : Bool} {P : Prop} (h : a = true ↔ P) (k : b = true ↔ P) : a = b := Bool.eq_iff_iff.2 (h.trans k.symm)
theorem bool_of (P : Prop) : ∃ q : Bool, q = true ↔ P := (Classical.em P).elim (fun h => ⟨true, fun _ => h, fun _ => rfl⟩) (fun h => ⟨false, fun k => (by cases k), fun k => absurd k h⟩)
theorem own_blk {w : World} {base : Nat} {A : Option Addr} {n c : Nat} {es : List Pr} (h : OwnQ w base (.slice A n c) es) (hn : es.length = n) : ∃ g, 0 < n -> A = some ⟨g, 0, none⟩ /\ base <= g /\ ∃ cs : Array Value, Blk w g 35 cs /\ n * 5 <= cs.size := by
 rcases liek_of_own h with ⟨h1, h2⟩ | ⟨g, cp, sp, h1, h2, h3, _, h5, h6⟩
 ·exact ⟨0, fun h => by rw [h2] at hn; simp at hn; omega⟩
 ·injection h1 with e1 _ _
  refine ⟨g, fun _ => ⟨e1, h2, _, h5, ?_⟩⟩
  have : (es.flatMap layP.enc).length = es.length * 5 := flatL_length (L := layP) es
  simp only [List.size_toArray, List.length_append, this, hn]
  omega
theorem few8_at (A : Option Addr) (l : List Pr) (n c : Nat) (hn : l.length = n) (hm : n <= 9223372036854775807) (hl : ∀ p ∈ l, p.n.length <= 9223372036854775807 /\ p.t.length <= 9223372036854775807) (w : World) (hr : RdQ w A l) (b : Bool) (hb : few8 l = b) :
  Calls Tryz.prog 11 #[.slice A n c] w fun e w' => e = .returned (.bool b) /\ w' = w := by
 subst hb
 have HN := Lib.hid hn
 have HLL := Lib.hid hl
 clear hn hl
 go_enter Tryz.func11, Tryz.ntmps11
 go_wp2_with fail
 go_loopg [3] n (fun gg s3 wr => w = wr /\ ∃ k : Nat, k <= n /\ n - k <= gg /\ s3 = .int .i64 (k : Int) /\ Hid (∀ p ∈ l.take k, p.n.length <= 100 /\ p.t.length <= 100))
 case atStart => exact ⟨rfl, 0, Nat.zero_le _, by omega, rfl, by show ∀ _, _; simp⟩
 case round =>
  obtain ⟨rfl, k, hk, hgg, rfl, HA⟩ := hrel
  by_cases hlt : k < n
  ·have hk' : k < l.length := by rw [HN.out]; exact hlt
   obtain ⟨g, off, rfl, hg, c0, c1, c2, c3, c4⟩ := RdQ.at5 hr hk'
   have hpl := HLL.out _ (List.getElem_mem hk')
   obtain ⟨x, hx⟩ : ∃ x, l[k] = x := ⟨_, rfl⟩
   have HX := Lib.hid hx
   rw [hx] at c0 c1 c2 c3 c4 hpl
   clear hx
   obtain ⟨xn, xo, xk, xi, xt⟩ := x
   obtain ⟨hp1, hp2⟩ := hpl
   dsimp only at hp1 hp2
   have w5 : (k : Int) < (n : Int) := by omega
   by_cases hs : xn.length <= 100 /\ xt.length <= 100
   ·obtain ⟨hs1, hs2⟩ := hs
    have HQ : Hid (∀ p ∈ l.take (k + 1), p.n.length <= 100 /\ p.t.length <= 100) := by
     show ∀ p ∈ l.take (k + 1), _
     rw [List.take_succ_eq_append_getElem hk', HX.out]
     intro v hv
     rcases List.mem_append.1 hv with hv | hv
     ·exact HA.out v hv
     ·simp at hv; subst hv; exact ⟨hs1, hs2⟩
    have v1 : ¬ (100 : Int) < (xn.length : Int) := by omega
    have v2 : ¬ (100 : Int) < (xt.length : Int) := by omega
    go_wp2_with fail
    go_roundg (n - (k + 1))
    case measure => omega
    case rel => exact ⟨rfl, k + 1, by omega, Nat.le_refl _, by go_num, HQ⟩
   ·have HQ : Hid (few8 l = false) := by
     show few8 l = false
     unfold few8
     rw [decide_eq_false (fun h => hs (by have := h _ (List.getElem_mem hk'); rw [HX.out] at this; exact this))]
     rfl
    by_cases h1 : xn.length <= 100
    ·have h2 : ¬ xt.length <= 100 := fun h => hs ⟨h1, h⟩
     have v1 : ¬ (100 : Int) < (xn.length : Int) := by omega
     have v2 : (100 : Int) < (xt.length : Int) := by omega
     clear hs
     go_wp2_with fail
     go_ret
     exact ⟨ret_b HQ.out.symm, rfl⟩
    ·have v1 : (100 : Int) < (xn.length : Int) := by omega
     clear hs
     go_wp2_with fail
     go_ret
     exact ⟨ret_b HQ.out.symm, rfl⟩
  ·have hkn : Hid (k = n) := by show k = n; omega
   go_wp2_with fail
   go_ret
   refine ⟨ret_b ?_, rfl⟩
   have h := HA.out
   rw [hkn.out, List.take_of_length_le (by rw [HN.out]; exact Nat.le_refl _)] at h
   unfold few8
   rw [decide_eq_true h, HN.out]
   simp
   omega
theorem walk_FilterTells (w : World) (A : Option Addr) (f : List Pr) (n c : Nat) (hn : f.length = n) (hc : n <= c) (hm : c <= maxLen) (hr : RdQ w A f) (hl : ∀ a ∈ f, a.n.length <= maxLen /\ a.t.length <= maxLen /\ (Lit.int .i64 a.i).wf = true) (A' : Option Addr) (g : List Pr) (n' c' : Nat) (hn' : g.length = n') (hc' : n' <= c') (hm' : c' <= maxLen) (hr' : RdQ w A' g) (hl' : ∀ a ∈ g, a.n.length <= maxLen /\ a.t.length <= maxLen /\ (Lit.int .i64 a.i).wf = true) (B : Option Addr) (es : List Ev.At) (m d : Nat) (hes : es.length = m) (hec : m <= d) (hem : d <= maxLen) (hre : RdA w B es) (hle : ∀ a ∈ es, a.n.length <= maxLen /\ a.t.length <= maxLen /\ (Lit.int .i64 a.i).wf = true) (D : Option Addr) (bs : List UInt8) (len cap : Nat) (hbl : bs.length = len) (_hbc : len <= cap) (_hbm : cap <= 140737488351232) (rd : Rd w D bs) :
  Calls Tryz.prog 3 #[.slice A n c, .slice A' n' c', .slice B m d, .slice D len cap] w fun e w' => e = .returned (.bool true) /\ Below w.heap.size w w' := by
 rw [maxLen_num] at hm
 have HL2 : Hid (∀ p ∈ f, p.n.length <= 9223372036854775807 /\ p.t.length <= 9223372036854775807) := fun p hp => by have := hl p hp; rw [maxLen_num] at this; exact ⟨this.1, this.2.1⟩
 have HL3 : Hid (∀ p ∈ f, -9223372036854775808 <= p.i /\ p.i <= 9223372036854775807) := fun p hp => bounds_i64 (hl p hp).2.2
 have HN := Lib.hid hn
 have HR := Lib.hid hr
 clear hn hl hr
 rw [maxLen_num] at hm'
 have HL2' : Hid (∀ p ∈ g, p.n.length <= 9223372036854775807 /\ p.t.length <= 9223372036854775807) := fun p hp => by have := hl' p hp; rw [maxLen_num] at this; exact ⟨this.1, this.2.1⟩
 have HL3' : Hid (∀ p ∈ g, -9223372036854775808 <= p.i /\ p.i <= 9223372036854775807) := fun p hp => bounds_i64 (hl' p hp).2.2
 have HN' := Lib.hid hn'
 have HR' := Lib.hid hr'
 clear hn' hl' hr'
 have HE := Lib.hid hes
 have HEB : Hid (∀ a ∈ es, a.n.length <= maxLen /\ a.t.length <= maxLen) := fun a ha => ⟨(hle a ha).1, (hle a ha).2.1⟩
 have HEI : Hid (∀ a ∈ es, -9223372036854775808 <= a.i /\ a.i <= 9223372036854775807) := fun a ha => bounds_i64 (hle a ha).2.2
 have HRE := Lib.hid hre
 have HMM : Hid (m <= maxLen) := Nat.le_trans hec hem
 clear hes hle hre hem
 have HBL := Lib.hid hbl
 have HRB := Lib.hid rd
 clear hbl rd
 go_enter Tryz.func3, Tryz.ntmps3
 go_wp2_with fail
 refine (small_at w).mono ?_
 rintro e w1 ⟨rfl, hb⟩
 have BB := Lib.hid hb
 clear hb
 obtain ⟨qf, hqf⟩ : ∃ q, few8 f = q := ⟨_, rfl⟩
 have HQF := Lib.hid hqf
 obtain ⟨qg, hqg⟩ : ∃ q, few8 g = q := ⟨_, rfl⟩
 have HQG := Lib.hid hqg
 obtain ⟨qe, hqe⟩ : ∃ q, decide (Ev.Few es) = q := ⟨_, rfl⟩
 have HQE := Lib.hid hqe
 clear hqf hqg hqe
 go_wp2_with fail
 refine (few8_at A f n c HN.out (by omega) HL2.out w1 (RdK.below HR.out BB.out) qf HQF.out).mono ?_
 rintro e wz ⟨rfl, hwz⟩
 obtain rfl := hwz.symm
 clear hwz
 go_wp2_with fail
 refine (few8_at A' g n' c' HN'.out (by omega) HL2'.out _ (RdK.below HR'.out BB.out) qg HQG.out).mono ?_
 rintro e wy ⟨rfl, hwz⟩
 obtain rfl := hwz.symm
 clear hwz
 go_wp2_with fail
 refine (efew_at B es m d HE.out HMM.out HEB.out _ (HRE.out.below BB.out)).mono ?_
 rintro e wx ⟨rfl, hwz⟩
 obtain rfl := hwz.symm
 clear hwz
 rw [HQE.out]
 cases qf with
 | false =>
  go_wp2_with fail
  go_ret
  exact ⟨rfl, BB.out⟩
 | true =>
  cases qg with
  | false =>
   go_wp2_with fail
   go_ret
   exact ⟨rfl, BB.out⟩
  | true =>
   cases qe with
   | false =>
    go_wp2_with fail
    go_ret
    exact ⟨rfl, BB.out⟩
   | true =>
    by_cases hb3 : 300 < len
    ·have d3 : decide ((300 : Int) < (len : Int)) = true := decide_eq_true (by omega)
     go_wp2_with fail
     go_ret
     exact ⟨rfl, BB.out⟩
    ·have d3 : decide ((300 : Int) < (len : Int)) = false := decide_eq_false (by omega)
     obtain ⟨hpf, hf40⟩ := pbd_few8 HQF.out HL3.out
     obtain ⟨hpg, hg40⟩ := pbd_few8 HQG.out HL3'.out
     rw [HN.out] at hf40
     rw [HN'.out] at hg40
     have HPF := Lib.hid hpf
     have HPG := Lib.hid hpg
     clear hpf hpg HQF HQG HQE HL2 HL3 HL2' HL3' HEI
     have hb0 : Below w1.heap.size w1 (w1.alloc (.cells #[] 35)) := (gr1 w1 _).below
     have hO0 : OwnQ (w1.alloc (.cells #[] 35)) w1.heap.size (.slice (some ⟨w1.heap.size, 0, none⟩) 0 0) [] := OwnK.empty w1 w1.heap.size (Nat.le_refl _)
     have hR0 := RdK.below HR.out (below_next BB.out (Nat.le_refl _) hb0)
     have hs0 := hb0.size
     go_wp2_with (at_builtin; refine wpList_append_k layP (by rfl) (.tmp 43) (.tmp 44) 22 underQ rfl w1.heap.size _ [] (by rfl) hO0 A f n c (by rfl) hR0 HN.out (by rw [maxLen_num]; simp only [List.length_nil]; omega) (by simp only [layP, List.length_nil]; omega) hs0 ?_; intro v1 w2 o1 b1 g1 l1; rw [List.nil_append] at o1; have hB1 := b1 w1 hb0; obtain ⟨Ai, ci, hv1, hci, hri⟩ := OwnK.form o1 HN.out; subst hv1; clear b1 g1 l1 hO0 hR0 hb0 hs0)
     have RI := Lib.hid hri
     have B2 := Lib.hid (below_next BB.out (Nat.le_refl _) hB1)
     clear hri hB1 o1
     refine (norm_at Ai f n ci HN.out (by omega) HPF.out w2 RI.out).mono ?_
     rintro e w3 ⟨out, er, A1, n1, c1, rfl, hno, hl1, hc1, ho1, hb⟩
     have HNO := Lib.hid hno
     have HL1 := Lib.hid hl1
     have O1 := Lib.hid ho1
     have B3 := Lib.hid hb
     clear hno hl1 ho1 hb
     have h24 : n1 <= 24 := by
      have h := HNO.out
      rcases Classical.em (er = 0) with h0 | h0
      ·subst h0; obtain ⟨S, T, hG⟩ := h.good; rw [<- HL1.out]; exact hG.len
      ·rw [<- HL1.out, h.bad h0]; simp
     go_wp2_with fail
     refine (rnorm_at A f n c HN.out (by omega) HPF.out w3 (RdK.below HR.out (below_next B2.out (Nat.le_refl _) B3.out))).mono ?_
     rintro e w4 ⟨out2, er2, A2, n2, c2, rfl, hno, hl2, hc2, ho2, hb⟩
     obtain ⟨h1, h2⟩ := hno.one HNO.out
     subst h1
     subst h2
     have HL2 := Lib.hid hl2
     have R2 := Lib.hid (rdk_own' ho2)
     have O4 := Lib.hid (OwnK.below O1.out hb)
     have B4 := Lib.hid (below_next B3.out (Nat.le_refl _) hb)
     clear hno hl2 ho2 hb B3 O1
     obtain ⟨gx, hgx⟩ := own_blk O4.out HL1.out
     have HGX := Lib.hid hgx
     clear hgx
     have hse : (er2 == er2) = true := beq_self_eq_true _
     go_wp2_with fail
     refine (samePs_at A1 out2 n1 c1 HL1.out (by omega) A2 out2 n2 c2 HL2.out (by have := HL1.out; have := HL2.out; omega) w4 (rdk_own' O4.out) R2.out true (decide_eq_true rfl)).mono ?_
     rintro e w5 ⟨rfl, hg⟩
     have B5 := Lib.hid (below_next B4.out (Nat.le_refl _) hg.below)
     have BX := Lib.hid hg.below
     clear hg
     go_wp2_with fail
     refine (samePs_at Ai f n ci HN.out (by omega) A f n c HN.out (by omega) w5 (RdK.below RI.out B5.out) (RdK.below HR.out (below_next B2.out (Nat.le_refl _) B5.out)) true (decide_eq_true rfl)).mono ?_
     rintro e w6 ⟨rfl, hg⟩
     replace B5 := Lib.hid (below_next B5.out (Nat.le_refl _) hg.below)
     replace BX := Lib.hid (below_next BX.out (Nat.le_refl _) hg.below)
     clear hg B4
     have HCS : Hid (0 < n1 -> ∃ cs : Array Value, Blk w6 gx 35 cs /\ n1 * 5 <= cs.size) := fun h => by
      obtain ⟨_, _, cs, hB, hs⟩ := HGX.out h
      exact ⟨cs, hB.below BX.out hB.lt, hs⟩
     go_wp2_with fail
     go_loopg [19] n1 (fun gg s19 wr => ∃ u : Nat, u <= n1 /\ n1 - u <= gg /\ s19 = .int .i64 (u : Int) /\ Hid (Below w2.heap.size w2 wr) /\ Hid (0 < n1 -> ∃ cs : Array Value, Blk wr gx 35 cs /\ n1 * 5 <= cs.size))
     case atStart => exact ⟨0, Nat.zero_le _, by omega, rfl, B5, HCS⟩
     case round =>
      obtain ⟨u, hu, hgg, rfl, BR, HC⟩ := hrel
      clear B5 HCS BX
      by_cases hlt : u < n1
      ·obtain ⟨hA1, hgb, _⟩ := HGX.out (by omega)
       obtain ⟨cs, hB, hcs⟩ := HC.out (by omega)
       subst hA1
       have y0 : wr.cell? ⟨gx, u * 5, none⟩ = some (cs[u * 5]'(by omega)) := by rw [hB.cell]; exact Array.getElem?_eq_getElem _
       have f0 := hB.frozen (u * 5)
       have y1 : wr.cell? ⟨gx, u * 5 + 1, none⟩ = some (cs[u * 5 + 1]'(by omega)) := by rw [hB.cell]; exact Array.getElem?_eq_getElem _
       have f1 := hB.frozen (u * 5 + 1)
       have y2 : wr.cell? ⟨gx, u * 5 + 2, none⟩ = some (cs[u * 5 + 2]'(by omega)) := by rw [hB.cell]; exact Array.getElem?_eq_getElem _
       have f2 := hB.frozen (u * 5 + 2)
       have y3 : wr.cell? ⟨gx, u * 5 + 3, none⟩ = some (cs[u * 5 + 3]'(by omega)) := by rw [hB.cell]; exact Array.getElem?_eq_getElem _
       have f3 := hB.frozen (u * 5 + 3)
       have y4 : wr.cell? ⟨gx, u * 5 + 4, none⟩ = some (cs[u * 5 + 4]'(by omega)) := by rw [hB.cell]; exact Array.getElem?_eq_getElem _
       have f4 := hB.frozen (u * 5 + 4)
       have w5 : (u : Int) < (n1 : Int) := by omega
       have hB2 := (((((hB.put (u * 5) (.string ⟨#[122, 122]⟩)).put (u * 5 + 1) (.int .i64 0)).put (u * 5 + 2) (.int .i64 0)).put (u * 5 + 3) (.int .i64 0)).put (u * 5 + 4) (.string ⟨#[]⟩))
       have HB2 : Hid (0 < n1 -> ∃ cs : Array Value, Blk _ gx 35 cs /\ n1 * 5 <= cs.size) := fun _ => ⟨_, hB2, by simp only [Array.size_setIfInBounds]; exact hcs⟩
       have BR2 : Hid (Below w2.heap.size w2 (((((wr.setCell ⟨gx, u * 5, none⟩ (.string ⟨#[122, 122]⟩)).setCell ⟨gx, u * 5 + 1, none⟩ (.int .i64 0)).setCell ⟨gx, u * 5 + 2, none⟩ (.int .i64 0)).setCell ⟨gx, u * 5 + 3, none⟩ (.int .i64 0)).setCell ⟨gx, u * 5 + 4, none⟩ (.string ⟨#[]⟩))) := (below_set (below_set (below_set (below_set (below_set BR.out hgb) hgb) hgb) hgb) hgb)
       clear hB2 hB
       go_wp2_with fail
       go_roundg (n1 - (u + 1))
       case measure => omega
       case rel => exact ⟨u + 1, by omega, Nat.le_refl _, by go_num, BR2, HB2⟩
      ·skip
       clear HC HGX
       have BW := Lib.hid (below_next B2.out (Nat.le_refl _) BR.out)
       obtain ⟨qr, hqr⟩ := bool_of (Fil.NormIs f f 0)
       have Hqr := Lib.hid hqr
       have eqr : (qr == qr) = true := beq_self_eq_true _
       clear hqr
       obtain ⟨qc, hqc⟩ := bool_of (Fil.Cov f g)
       have Hqc := Lib.hid hqc
       have eqc : (qc == qc) = true := beq_self_eq_true _
       clear hqc
       obtain ⟨qx, hqx⟩ := bool_of (Fil.Cross f g)
       have Hqx := Lib.hid hqx
       have eqx : (qx == qx) = true := beq_self_eq_true _
       clear hqx
       obtain ⟨qm, hqm⟩ : ∃ q, Fil.meets f es = q := ⟨_, rfl⟩
       have Hqm := Lib.hid hqm
       have eqm : (qm == qm) = true := beq_self_eq_true _
       clear hqm
       go_wp2_with fail
       have hS0 : Below wr.heap.size wr wr.drew := (Below.refl _ _).drew
       refine wp_region_held_drew (S := fun w' => Below wr.heap.size wr w') (by kernel_rfl) hS0 (fun _ => ?_)
       refine wq 0 79 (v := ?_) rfl rfl (by kernel_rfl) (fun _ _ _ h => h) (by rfl) ?_ hS0 ?_
       rotate_left
       ·intro w' hSw; go_simp <;> with_reducible rfl
       simp only [Act.put, zu0, zu1, zu2]
       refine wq 1 80 (v := ?_) rfl rfl (by kernel_rfl) (fun _ _ _ h => h) (by rfl) ?_ hS0 ?_
       rotate_left
       ·intro w' hSw; go_simp <;> with_reducible rfl
       simp only [Act.put, zu0, zu1, zu2]
       refine wq 2 81 (v := ?_) rfl rfl (by kernel_rfl) (fun _ _ _ h => h) (by rfl) ?_ hS0 ?_
       rotate_left
       ·intro w' hSw; go_simp <;> with_reducible rfl
       simp only [Act.put, zu0, zu1, zu2]
       refine wq 3 82 (v := ?_) rfl rfl (by kernel_rfl) (fun _ _ _ h => h) (by rfl) ?_ hS0 ?_
       rotate_left
       ·intro w' hSw; go_simp <;> with_reducible rfl
       simp only [Act.put, zu0, zu1, zu2]
       refine wq 4 83 (v := ?_) rfl rfl (by kernel_rfl) (fun _ _ _ h => h) (by rfl) ?_ hS0 ?_
       rotate_left
       ·intro w' hSw; go_simp <;> with_reducible rfl
       simp only [Act.put, zu0, zu1, zu2]
       refine wq 5 84 (v := ?_) rfl rfl (by kernel_rfl) (fun _ _ _ h => h) (by rfl) ?_ hS0 ?_
       rotate_left
       ·intro w' hSw; go_simp <;> with_reducible rfl
       simp only [Act.put, zu0, zu1, zu2]
       refine wq 6 85 (v := ?_) rfl rfl (by kernel_rfl) (fun _ _ _ h => h) (by rfl) ?_ hS0 ?_
       rotate_left
       ·intro w' hSw; go_simp <;> with_reducible rfl
       simp only [Act.put, zu0, zu1, zu2]
       refine wpAnyH_one (i := 7) (by kernel_rfl) rfl (by rfl) (fun Kx hK1 => ?_)
       go_simp
       with_reducible refine (samePs_at Ai f n ci HN.out (by omega) A f n c HN.out (by omega) _ (RdK.below RI.out (below_next BR.out (Nat.le_refl _) hS0)) (RdK.below HR.out (below_next BW.out (Nat.le_refl _) hS0)) true (decide_eq_true rfl)).mono ?_
       rintro e x1 ⟨rfl, hb⟩
       have hS1 := below_next hS0 (Nat.le_refl _) hb.below
       go_wp2_with fail
       refine hK1.out _ _ hS1 ?_
       refine wq 8 87 (v := ?_) rfl rfl (by kernel_rfl) (fun _ _ _ h => h) (by rfl) ?_ hS1 ?_
       rotate_left
       ·intro w' hSw; go_simp <;> with_reducible rfl
       simp only [Act.put, zu0, zu1, zu2]
       refine wq 9 88 (v := ?_) rfl rfl (by kernel_rfl) (fun _ _ _ h => h) (by rfl) ?_ hS1 ?_
       rotate_left
       ·intro w' hSw; go_simp <;> with_reducible rfl
       simp only [Act.put, zu0, zu1, zu2]
       refine wq 10 89 (v := ?_) rfl rfl (by kernel_rfl) (fun _ _ _ h => h) (by rfl) ?_ hS1 ?_
       rotate_left
       ·intro w' hSw; go_simp <;> with_reducible rfl
       simp only [Act.put, zu0, zu1, zu2]
       refine wq 12 91 (v := ?_) rfl rfl (by kernel_rfl) (fun _ _ _ h => h) (by rfl) ?_ hS1 ?_
       rotate_left
       ·intro w' hSw; go_simp <;> with_reducible rfl
       simp only [Act.put, zu0, zu1, zu2]
       refine wpAnyH_one (i := 11) (by kernel_rfl) rfl (by rfl) (fun Kx hK2 => ?_)
       go_simp
       with_reducible refine (fright_at A f n c HN.out (by omega) HPF.out _ (RdK.below HR.out (below_next BW.out (Nat.le_refl _) hS1))).mono ?_
       rintro e x2 ⟨q', rfl, hq', hb⟩
       obtain rfl : qr = q' := tells_same Hqr.out hq'
       have hS2 := below_next hS1 (Nat.le_refl _) hb
       go_wp2_with fail
       refine hK2.out _ _ hS2 ?_
       refine wpAnyH_one (i := 13) (by kernel_rfl) rfl (by rfl) (fun Kx hK3 => ?_)
       go_simp
       with_reducible refine (rfright_at A f n c HN.out (by omega) HPF.out _ (RdK.below HR.out (below_next BW.out (Nat.le_refl _) hS2)) qr Hqr.out).mono ?_
       rintro e x3 ⟨rfl, hb⟩
       have hS3 := below_next hS2 (Nat.le_refl _) hb
       go_wp2_with fail
       refine hK3.out _ _ hS3 ?_
       refine wq 14 93 (v := ?_) rfl rfl (by kernel_rfl) (fun _ _ _ h => h) (by rfl) ?_ hS3 ?_
       rotate_left
       ·intro w' hSw; go_simp <;> with_reducible rfl
       simp only [Act.put, zu0, zu1, zu2]
       refine wq 15 94 (v := ?_) rfl rfl (by kernel_rfl) (fun _ _ _ h => h) (by rfl) ?_ hS3 ?_
       rotate_left
       ·intro w' hSw; go_simp <;> with_reducible rfl
       simp only [Act.put, zu0, zu1, zu2]
       refine wq 16 95 (v := ?_) rfl rfl (by kernel_rfl) (fun _ _ _ h => h) (by rfl) ?_ hS3 ?_
       rotate_left
       ·intro w' hSw; go_simp <;> with_reducible rfl
       simp only [Act.put, zu0, zu1, zu2]
       refine wq 17 96 (v := ?_) rfl rfl (by kernel_rfl) (fun _ _ _ h => h) (by rfl) ?_ hS3 ?_
       rotate_left
       ·intro w' hSw; go_simp <;> with_reducible rfl
       simp only [Act.put, zu0, zu1, zu2]
       refine wq 18 97 (v := ?_) rfl rfl (by kernel_rfl) (fun _ _ _ h => h) (by rfl) ?_ hS3 ?_
       rotate_left
       ·intro w' hSw; go_simp <;> with_reducible rfl
       simp only [Act.put, zu0, zu1, zu2]
       refine wq 20 99 (v := ?_) rfl rfl (by kernel_rfl) (fun _ _ _ h => h) (by rfl) ?_ hS3 ?_
       rotate_left
       ·intro w' hSw; go_simp <;> with_reducible rfl
       simp only [Act.put, zu0, zu1, zu2]
       refine wq 21 100 (v := ?_) rfl rfl (by kernel_rfl) (fun _ _ _ h => h) (by rfl) ?_ hS3 ?_
       rotate_left
       ·intro w' hSw; go_simp <;> with_reducible rfl
       simp only [Act.put, zu0, zu1, zu2]
       refine wpAnyH_one (i := 19) (by kernel_rfl) rfl (by rfl) (fun Kx hK4 => ?_)
       go_simp
       with_reducible refine (fmeets_at A f n c HN.out (by omega) HPF.out B es m d HE.out HMM.out HEB.out _ (RdK.below HR.out (below_next BW.out (Nat.le_refl _) hS3)) (HRE.out.below (below_next BW.out (Nat.le_refl _) hS3)) qm Hqm.out).mono ?_
       rintro e x4 ⟨rfl, hb⟩
       have hS4 := below_next hS3 (Nat.le_refl _) hb
       go_wp2_with fail
       refine hK4.out _ _ hS4 ?_
       refine wpAnyH_one (i := 22) (by kernel_rfl) rfl (by rfl) (fun Kx hK5 => ?_)
       go_simp
       with_reducible refine (rfmeets_at A f n c HN.out (by omega) HPF.out B es m d HE.out HMM.out HEB.out _ (RdK.below HR.out (below_next BW.out (Nat.le_refl _) hS4)) (HRE.out.below (below_next BW.out (Nat.le_refl _) hS4)) qm Hqm.out).mono ?_
       rintro e x5 ⟨rfl, hb⟩
       have hS5 := below_next hS4 (Nat.le_refl _) hb
       go_wp2_with fail
       refine hK5.out _ _ hS5 ?_
       refine wq 23 102 (v := ?_) rfl rfl (by kernel_rfl) (fun _ _ _ h => h) (by rfl) ?_ hS5 ?_
       rotate_left
       ·intro w' hSw; go_simp <;> with_reducible rfl
       simp only [Act.put, zu0, zu1, zu2]
       refine wq 24 103 (v := ?_) rfl rfl (by kernel_rfl) (fun _ _ _ h => h) (by rfl) ?_ hS5 ?_
       rotate_left
       ·intro w' hSw; go_simp <;> with_reducible rfl
       simp only [Act.put, zu0, zu1, zu2]
       refine wq 25 104 (v := ?_) rfl rfl (by kernel_rfl) (fun _ _ _ h => h) (by rfl) ?_ hS5 ?_
       rotate_left
       ·intro w' hSw; go_simp <;> with_reducible rfl
       simp only [Act.put, zu0, zu1, zu2]
       refine wq 26 105 (v := ?_) rfl rfl (by kernel_rfl) (fun _ _ _ h => h) (by rfl) ?_ hS5 ?_
       rotate_left
       ·intro w' hSw; go_simp <;> with_reducible rfl
       simp only [Act.put, zu0, zu1, zu2]
       refine wq 27 106 (v := ?_) rfl rfl (by kernel_rfl) (fun _ _ _ h => h) (by rfl) ?_ hS5 ?_
       rotate_left
       ·intro w' hSw; go_simp <;> with_reducible rfl
       simp only [Act.put, zu0, zu1, zu2]
       refine wq 29 108 (v := ?_) rfl rfl (by kernel_rfl) (fun _ _ _ h => h) (by rfl) ?_ hS5 ?_
       rotate_left
       ·intro w' hSw; go_simp <;> with_reducible rfl
       simp only [Act.put, zu0, zu1, zu2]
       refine wq 30 109 (v := ?_) rfl rfl (by kernel_rfl) (fun _ _ _ h => h) (by rfl) ?_ hS5 ?_
       rotate_left
       ·intro w' hSw; go_simp <;> with_reducible rfl
       simp only [Act.put, zu0, zu1, zu2]
       refine wpAnyH_one (i := 28) (by kernel_rfl) rfl (by rfl) (fun Kx hK6 => ?_)
       go_simp
       with_reducible refine (covers_at A f n c HN.out (by omega) HPF.out A' g n' c' HN'.out (by omega) HPG.out _ (RdK.below HR.out (below_next BW.out (Nat.le_refl _) hS5)) (RdK.below HR'.out (below_next BW.out (Nat.le_refl _) hS5))).mono ?_
       rintro e x6 ⟨q', rfl, hq', hb⟩
       obtain rfl : qc = q' := tells_same Hqc.out hq'
       have hS6 := below_next hS5 (Nat.le_refl _) hb
       go_wp2_with fail
       refine hK6.out _ _ hS6 ?_
       refine wpAnyH_one (i := 31) (by kernel_rfl) rfl (by rfl) (fun Kx hK7 => ?_)
       go_simp
       with_reducible refine (rcovers_at A f n c HN.out (by omega) HPF.out A' g n' c' HN'.out (by omega) HPG.out _ (RdK.below HR.out (below_next BW.out (Nat.le_refl _) hS6)) (RdK.below HR'.out (below_next BW.out (Nat.le_refl _) hS6))).mono ?_
       rintro e x7 ⟨q', rfl, hq', hb⟩
       obtain rfl : qc = q' := tells_same Hqc.out hq'
       have hS7 := below_next hS6 (Nat.le_refl _) hb
       go_wp2_with fail
       refine hK7.out _ _ hS7 ?_
       refine wq 32 111 (v := ?_) rfl rfl (by kernel_rfl) (fun _ _ _ h => h) (by rfl) ?_ hS7 ?_
       rotate_left
       ·intro w' hSw; go_simp <;> with_reducible rfl
       simp only [Act.put, zu0, zu1, zu2]
       refine wq 33 112 (v := ?_) rfl rfl (by kernel_rfl) (fun _ _ _ h => h) (by rfl) ?_ hS7 ?_
       rotate_left
       ·intro w' hSw; go_simp <;> with_reducible rfl
       simp only [Act.put, zu0, zu1, zu2]
       refine wq 34 113 (v := ?_) rfl rfl (by kernel_rfl) (fun _ _ _ h => h) (by rfl) ?_ hS7 ?_
       rotate_left
       ·intro w' hSw; go_simp <;> with_reducible rfl
       simp only [Act.put, zu0, zu1, zu2]
       refine wq 35 114 (v := ?_) rfl rfl (by kernel_rfl) (fun _ _ _ h => h) (by rfl) ?_ hS7 ?_
       rotate_left
       ·intro w' hSw; go_simp <;> with_reducible rfl
       simp only [Act.put, zu0, zu1, zu2]
       refine wq 36 115 (v := ?_) rfl rfl (by kernel_rfl) (fun _ _ _ h => h) (by rfl) ?_ hS7 ?_
       rotate_left
       ·intro w' hSw; go_simp <;> with_reducible rfl
       simp only [Act.put, zu0, zu1, zu2]
       refine wq 38 117 (v := ?_) rfl rfl (by kernel_rfl) (fun _ _ _ h => h) (by rfl) ?_ hS7 ?_
       rotate_left
       ·intro w' hSw; go_simp <;> with_reducible rfl
       simp only [Act.put, zu0, zu1, zu2]
       refine wq 39 118 (v := ?_) rfl rfl (by kernel_rfl) (fun _ _ _ h => h) (by rfl) ?_ hS7 ?_
       rotate_left
       ·intro w' hSw; go_simp <;> with_reducible rfl
       simp only [Act.put, zu0, zu1, zu2]
       refine wpAnyH_one (i := 37) (by kernel_rfl) rfl (by rfl) (fun Kx hK8 => ?_)
       go_simp
       with_reducible refine (crosses_at A f n c HN.out (by omega) HPF.out A' g n' c' HN'.out (by omega) HPG.out _ (RdK.below HR.out (below_next BW.out (Nat.le_refl _) hS7)) (RdK.below HR'.out (below_next BW.out (Nat.le_refl _) hS7))).mono ?_
       rintro e x8 ⟨q', rfl, hq', hb⟩
       obtain rfl : qx = q' := tells_same Hqx.out hq'
       have hS8 := below_next hS7 (Nat.le_refl _) hb
       go_wp2_with fail
       refine hK8.out _ _ hS8 ?_
       refine wpAnyH_one (i := 40) (by kernel_rfl) rfl (by rfl) (fun Kx hK9 => ?_)
       go_simp
       with_reducible refine (rcrosses_at A f n c HN.out (by omega) HPF.out A' g n' c' HN'.out (by omega) HPG.out _ (RdK.below HR.out (below_next BW.out (Nat.le_refl _) hS8)) (RdK.below HR'.out (below_next BW.out (Nat.le_refl _) hS8))).mono ?_
       rintro e x9 ⟨q', rfl, hq', hb⟩
       obtain rfl : qx = q' := tells_same Hqx.out hq'
       have hS9 := below_next hS8 (Nat.le_refl _) hb
       go_wp2_with fail
       refine hK9.out _ _ hS9 ?_
       refine wq 41 120 (v := ?_) rfl rfl (by kernel_rfl) (fun _ _ _ h => h) (by rfl) ?_ hS9 ?_
       rotate_left
       ·intro w' hSw; go_simp <;> with_reducible rfl
       simp only [Act.put, zu0, zu1, zu2]
       refine wq 42 121 (v := ?_) rfl rfl (by kernel_rfl) (fun _ _ _ h => h) (by rfl) ?_ hS9 ?_
       rotate_left
       ·intro w' hSw; go_simp <;> with_reducible rfl
       simp only [Act.put, zu0, zu1, zu2]
       refine wq 43 122 (v := ?_) rfl rfl (by kernel_rfl) (fun _ _ _ h => h) (by rfl) ?_ hS9 ?_
       rotate_left
       ·intro w' hSw; go_simp <;> with_reducible rfl
       simp only [Act.put, zu0, zu1, zu2]
       refine wq 44 123 (v := ?_) rfl rfl (by kernel_rfl) (fun _ _ _ h => h) (by rfl) ?_ hS9 ?_
       rotate_left
       ·intro w' hSw; go_simp <;> with_reducible rfl
       simp only [Act.put, zu0, zu1, zu2]
       refine wq 45 124 (v := ?_) rfl rfl (by kernel_rfl) (fun _ _ _ h => h) (by rfl) ?_ hS9 ?_
       rotate_left
       ·intro w' hSw; go_simp <;> with_reducible rfl
       simp only [Act.put, zu0, zu1, zu2]
       refine wq 48 127 (v := ?_) rfl rfl (by kernel_rfl) (fun _ _ _ h => h) (by rfl) ?_ hS9 ?_
       rotate_left
       ·intro w' hSw; go_simp <;> with_reducible rfl
       simp only [Act.put, zu0, zu1, zu2]
       refine wq 49 128 (v := ?_) rfl rfl (by kernel_rfl) (fun _ _ _ h => h) (by rfl) ?_ hS9 ?_
       rotate_left
       ·intro w' hSw; go_simp <;> with_reducible rfl
       simp only [Act.put, zu0, zu1, zu2]
       refine wpAnyH_one (i := 46) (by kernel_rfl) rfl (by rfl) (fun Kx hK10 => ?_)
       go_simp
       with_reducible refine (fput_at D bs len cap HBL.out (by omega) A f n c HN.out (by omega) HPF.out _ (HRB.out.below (below_next BW.out (Nat.le_refl _) hS9)) (RdK.below HR.out (below_next BW.out (Nat.le_refl _) hS9))).mono ?_
       rintro e x10 ⟨fs, hfl, hfn, D1, e1, rfl, _, hb, hr8⟩
       have HFL := Lib.hid hfl
       have HX : Hid ((bs ++ fs).length = len + fs.length) := by show _ = _; rw [List.length_append, HBL.out]
       obtain ⟨xx, hxx⟩ : ∃ x, bs ++ fs = x := ⟨_, rfl⟩
       obtain ⟨LL, hLL⟩ : ∃ x, len + fs.length = x := ⟨_, rfl⟩
       rw [hxx] at hr8
       have HXX := Lib.hid hxx
       have HLL := Lib.hid hLL
       have HXL : Hid (xx.length = LL) := by show _ = _; rw [<- hxx, <- hLL]; exact HX.out
       rw [hLL]
       clear hxx hLL hfl
       have hS10 := below_next hS9 (Nat.le_refl _) hb
       go_wp2_with fail
       refine hK10.out _ _ hS10 ?_
       have hk2 : Hid (∀ w', Below x10.heap.size x10 w' -> Below wr.heap.size wr w' /\ Sem.run Tryz.prog (convert 24 9 (.slice D1 LL e1)) w' = .ok (.string ⟨(xx).toArray⟩) w' /\ Below x10.heap.size x10 w') := fun w' h => ⟨below_next hS10 (Nat.le_refl _) h, str_below e1 hr8 HXL.out h, h⟩
       refine wpAnyH_more (S' := fun w' => Below wr.heap.size wr w' /\ Sem.run Tryz.prog (convert 24 9 (.slice D1 LL e1)) w' = .ok (.string ⟨(xx).toArray⟩) w' /\ Below x10.heap.size x10 w') (fun w' h => h.1) _ _ _ _ ?_
       have hT0 := hk2.out x10 (Below.refl _ _)
       refine wq 47 126 (v := ?_) rfl rfl (by kernel_rfl) (fun _ _ _ h => h) (by rfl) ?_ hT0 ?_
       rotate_left
       ·intro w' hSw; go_simp <;> with_reducible rfl
       simp only [Act.put, zu0, zu1, zu2]
       refine wpAnyH_one (i := 50) (by kernel_rfl) rfl (by rfl) (fun Kx hK11 => ?_)
       go_simp
       with_reducible refine (rfput_at D bs len cap HBL.out (by omega) A f n c HN.out (by omega) HPF.out _ (HRB.out.below (below_next BW.out (Nat.le_refl _) hT0.1)) (RdK.below HR.out (below_next BW.out (Nat.le_refl _) hT0.1))).mono ?_
       rintro e x11 ⟨fs2, hfl2, hfn2, D2, e2, rfl, hb, hr9⟩
       obtain rfl : fs = fs2 := HFL.out.one hfl2
       rw [HXX.out] at hr9
       rw [HLL.out]
       have hst := str_below e2 hr9 HXL.out (Below.refl _ _)
       have hT1 := hk2.out x11 hb
       have hee : (xx == xx) = true := beq_self_eq_true _
       go_wp2_with fail
       refine hK11.out _ _ hT1 ?_
       refine wpAnyH_one (i := 51) (by kernel_rfl) rfl (by rfl) (fun K hKc => ?_)
       go_simp
       refine hKc.out _ _ hT1 ?_
       refine wq 52 131 (v := ?_) rfl rfl (by kernel_rfl) (fun _ _ _ h => h) (by rfl) ?_ hT1 ?_
       rotate_left
       ·intro w' hSw; go_simp <;> with_reducible rfl
       simp only [Act.put, zu0, zu1, zu2]
       refine wq 53 132 (v := ?_) rfl rfl (by kernel_rfl) (fun _ _ _ h => h) (by rfl) ?_ hT1 ?_
       rotate_left
       ·intro w' hSw; go_simp <;> with_reducible rfl
       simp only [Act.put, zu0, zu1, zu2]
       refine wq 54 8 (v := ?_) rfl rfl (by kernel_rfl) (fun _ _ _ h => h) (by rfl) ?_ hT1 ?_
       rotate_left
       ·intro w' hSw; go_simp <;> with_reducible rfl
       simp only [Act.put, zu0, zu1, zu2]
       refine wpAnyH_done (by kernel_rfl) ?_ _
       have hbl := below_next BW.out (Nat.le_refl _) hT1.1
       go_wp2_with fail
       go_ret
       exact ⟨rfl, hbl⟩
/-! ### The row's step. -/
namespace filterTells
theorem own : ownKnob Tryz.prog.godebug = none := by kernel_rfl
theorem laidOut : laidOutB Tryz.prog = true := by kernel_rfl
set_option linter.unusedVariables false in
theorem lifted (os : Os) (started : os.Started) (H : Type) (enc : TypeId × Value -> H) :
  ReturnsInHanded {} Tryz.checked os 3 .any (Rows.filterTellsSpec.pre6 enc Tryz.prog Tryz.f3 Rows.filterTellsRow.domain false) (Rows.filterTellsSpec.post enc Tryz.prog Tryz.f3 false true false false) := by
 refine returnsInHanded_of_change_sized (C := Tryz.checked) own started (by kernel_rfl) Tryz.func3
  (ChangeSpec.witness6 (enc := enc) (C := Tryz.checked) false ⟨#[], #[.slice none 0 0, .slice none 0 0, .slice none 0 0, .slice none 0 0], []⟩ 8 (by kernel_rfl) (by kernel_rfl) (by kernel_rfl) (by kernel_rfl)) ?_
 intro W base args ds gs before hval0 hW hcnd hsz0 _
 have hval : ∀ (j : Nat) t v, Tryz.f3.params[j]? = some t -> args[j]? = some v -> Value.okWide Tryz.prog W .any base t v := hval0
 have hsz : (DataW.weightsEach Tryz.prog (Tryz.f3.params.toList ++ Rows.filterTellsSpec.plain.varTypes Tryz.prog) (ds ++ gs)).all (· <= reachBytes) = true := hsz0
 have hW' := hW
 obtain ⟨p, q, hA0, hV, rfl, hfz, hnd⟩ := hW
 have hA : DataW.TrodAll enc Tryz.prog W 0 (fun _ => true) true Tryz.f3.params.toList args.toList ds p := hA0
 rw [Tryz.params3] at hA hval hsz
 obtain ⟨v0, vs0, d0, ds0, p0, q0, hargs, rfl, rfl, h0, r0⟩ := trodAll_cons hA
 obtain ⟨v1, vs1, d1, ds1, p1, q1, rfl, rfl, rfl, h1, r1⟩ := trodAll_cons r0
 obtain ⟨v2, vs2, d2, ds2, p2, q2, rfl, rfl, rfl, h2, r2⟩ := trodAll_cons r1
 obtain ⟨v3, vs3, d3, ds3, p3, q3, rfl, rfl, rfl, h3, r3⟩ := trodAll_cons r2
 obtain ⟨rfl, rfl, rfl⟩ := trodAll_nil r3
 obtain rfl : args = #[v0, v1, v2, v3] := by cases args; simp_all
 obtain ⟨rfl, rfl⟩ := trodVars_none hV
 obtain ⟨a0, len0, cap0, rfl⟩ := okWide_slice Tryz.underlying22 (hval 0 22 v0 rfl rfl)
 have k0 := h0
 have lt0 : ∀ x ∈ p0, x.block < W.heap.size := by obtain ⟨m, hm⟩ := k0; exact DataW.trod_lt m _ _ _ hm
 obtain ⟨es0, hl0, hc0, hm0, rd0, hw0⟩ := open_preds_of Tryz.underlying22 Tryz.underlying35 (by kernel_rfl) ⟨rfl, rfl, by kernel_rfl⟩ ⟨rfl, rfl, by kernel_rfl⟩ ⟨rfl, rfl, by kernel_rfl⟩ Tryz.underlying9 Tryz.underlying3 Tryz.underlying33 ⟨rfl, rfl, by kernel_rfl⟩ ⟨rfl, rfl, by kernel_rfl⟩ ⟨rfl, rfl, by kernel_rfl⟩ Tryz.underlying3 Tryz.underlying3 Tryz.underlying9 k0
 obtain ⟨a1, len1, cap1, rfl⟩ := okWide_slice Tryz.underlying22 (hval 1 22 v1 rfl rfl)
 have k1 := h1
 have lt1 : ∀ x ∈ p1, x.block < W.heap.size := by obtain ⟨m, hm⟩ := k1; exact DataW.trod_lt m _ _ _ hm
 obtain ⟨es1, hl1, hc1, hm1, rd1, hw1⟩ := open_preds_of Tryz.underlying22 Tryz.underlying35 (by kernel_rfl) ⟨rfl, rfl, by kernel_rfl⟩ ⟨rfl, rfl, by kernel_rfl⟩ ⟨rfl, rfl, by kernel_rfl⟩ Tryz.underlying9 Tryz.underlying3 Tryz.underlying33 ⟨rfl, rfl, by kernel_rfl⟩ ⟨rfl, rfl, by kernel_rfl⟩ ⟨rfl, rfl, by kernel_rfl⟩ Tryz.underlying3 Tryz.underlying3 Tryz.underlying9 k1
 obtain ⟨a2, len2, cap2, rfl⟩ := okWide_slice Tryz.underlying23 (hval 2 23 v2 rfl rfl)
 have k2 := h2
 have lt2 : ∀ x ∈ p2, x.block < W.heap.size := by obtain ⟨m, hm⟩ := k2; exact DataW.trod_lt m _ _ _ hm
 obtain ⟨es2, hl2, hc2, hm2, rd2, hw2⟩ := open_attrs_w Tryz.underlying23 Tryz.underlying81 (by kernel_rfl) ⟨rfl, rfl, by kernel_rfl⟩ ⟨rfl, rfl, by kernel_rfl⟩ Tryz.underlying9 Tryz.underlying33 ⟨rfl, rfl, by kernel_rfl⟩ ⟨rfl, rfl, by kernel_rfl⟩ ⟨rfl, rfl, by kernel_rfl⟩ Tryz.underlying3 Tryz.underlying3 Tryz.underlying9 k2
 obtain ⟨a3, len3, cap3, rfl⟩ := okWide_slice Tryz.underlying24 (hval 3 24 v3 rfl rfl)
 have k3 := h3
 have lt3 : ∀ x ∈ p3, x.block < W.heap.size := by obtain ⟨m, hm⟩ := k3; exact DataW.trod_lt m _ _ _ hm
 obtain ⟨bs3, hl3, hc3, hm3, rd3⟩ : ∃ bs : List UInt8, bs.length = len3 /\ len3 <= cap3 /\ cap3 <= 140737488351232 /\ Rd W a3 bs := by
  obtain ⟨fuel, hf⟩ := h3
  rcases open_ints Tryz.underlying24 Tryz.underlying5 (by kernel_rfl) hf with ⟨hcs, _⟩ | ⟨x, l, c, zs, hcs, _, hl, hm, hz, hx, hcell, hwz⟩
  ·simp [Value.cells] at hcs
   obtain ⟨rfl, rfl, rfl⟩ := hcs
   exact ⟨[], rfl, by omega, by omega, .inl rfl⟩
  ·simp [Value.cells] at hcs
   obtain ⟨rfl, rfl, rfl⟩ := hcs
   have hz' : zs.length = cap3 := by simpa using hz
   have hd : d3 = .slice (lits .u8 (zs.take len3)) (lits .u8 (zs.drop len3)) := congrArg Prod.fst hx
   have hb := sized_slice hsz (j := 3) (t := 24) (elems := lits .u8 (zs.take len3)) (spare := lits .u8 (zs.drop len3)) rfl (by rw [hd]; rfl) Tryz.underlying24
   have hb' : cap3 <= 140737488351232 := by
    rw [show Tryz.prog.bytesOf 5 = 1 from by kernel_rfl] at hb
    simp [lits, reachBytes] at hb; omega
   obtain ⟨bs, e1, e2⟩ := rd_of_ints hl hz' hcell hwz
   exact ⟨bs, e1, hl, hb', e2⟩
 clear hA0 hval0
 refine (walk_FilterTells W a0 es0 len0 cap0 hl0 hc0 hm0 rd0 hw0 a1 es1 len1 cap1 hl1 hc1 hm1 rd1 hw1 a2 es2 len2 cap2 hl2 hc2 hm2 rd2 hw2 a3 bs3 len3 cap3 hl3 hc3 hm3 rd3).mono fun e W' ⟨he, bel⟩ => ?_
 subst he
 exact ⟨_, rfl, _, _, _, [], _, [], hW', trodAll_mk1 (shut_bool Tryz.underlying4 _), (trodAll_cons_mk (Below.trod laidOut (by kernel_rfl) (of_decide_eq_true (by kernel_rfl)) k0 bel lt0) (trodAll_cons_mk (Below.trod laidOut (by kernel_rfl) (of_decide_eq_true (by kernel_rfl)) k1 bel lt1) (trodAll_cons_mk (Below.trod laidOut (by kernel_rfl) (of_decide_eq_true (by kernel_rfl)) k2 bel lt2) (trodAll_cons_mk (Below.trod laidOut (by kernel_rfl) (of_decide_eq_true (by kernel_rfl)) k3 bel lt3) trodAll_mk0)))), rfl, bel.frame _, fun h => by cases h⟩
theorem over : Rows.filterTellsRow.holds Tryz.pinned (OpenSpec.ofChange Rows.filterTellsSpec) :=
 OpenClaim.holds_of_wide 3 Tryz.f3 rfl rfl rfl rfl rfl rfl rfl ⟨rfl, rfl, rfl, rfl, rfl⟩ rfl rfl rfl rfl rfl (by kernel_rfl) Tryz.func3 (by kernel_rfl)
  (of_decide_eq_true (by kernel_rfl)) (by unfold Func.isWrapper; first | (rw [if_pos (by decide +kernel)]; kernel_rfl) | (rw [if_neg (by decide +kernel)]; exact ⟨rfl, rfl⟩))
  (fun os started H enc _ => lifted os started H enc)
end filterTells
theorem filterTells_holds : Rows.FilterTellsSaid := filterTells.over
#print axioms filterTells_holds
end Go.Proofs.YtaglnncihmohfaaGreat
