/- Contracts of the program and of the document (GNrm, GCov), each used further on. -/
import Derived.Test.YtckabmlilbkmbaaA2
import Derived.Test.YtckabmlilbkmbaaA4
import Derived.Test.YtckabmlilbkmbaaD1
namespace Go.Proofs.Ytckabmlilbkmbaa
open Go.RowKit Go.Maps Spans Op
/-- What Norm tells. -/
def Normed (w : World) (f : List Pr) (e : Ending) (w' : World) : Prop :=
  ∃ (out : List Pr) (er : Int) (A : Option Addr) (n c : Nat), e = .returned (.tuple #[.slice A n c, .int .i64 er]) ∧ Fil.NormIs f out er ∧ out.length = n ∧ n ≤ c ∧ OwnQ w' w.heap.size (.slice A n c) out ∧ Below w.heap.size w w'
/-- A call that tells if something is so. -/
def Tells (w : World) (P : Prop) (e : Ending) (w' : World) : Prop := ∃ q : Bool, e = .returned (.bool q) ∧ (q = true ↔ P) ∧ Below w.heap.size w w'
set_option maxRecDepth 100000 in
set_option maxHeartbeats 1000000 in
theorem fmeets_at (A : Option Addr) (f : List Pr) (n c : Nat) (hn : f.length = n) (hm : n ≤ 100000) (hl : PBd f) (B : Option Addr) (es : List Ev.At) (m d : Nat) (hes : es.length = m) (hml : m ≤ maxLen) (hbd : ∀ a ∈ es, a.n.length ≤ maxLen ∧ a.t.length ≤ maxLen) (w : World) (hr : RdQ w A f) (hr' : RdA w B es) (q : Bool) (hq : Fil.meets f es = q) :
    Calls Try.prog 24 #[.slice A n c, .slice B m d] w fun e w' => e = .returned (.bool q) ∧ Below w.heap.size w w' := by
  subst hq
  have HN := Lib.hid hn
  have HLL := Lib.hid hl
  have HR := Lib.hid hr
  have HR' := Lib.hid hr'
  have HE := Lib.hid hes
  have HM := Lib.hid hml
  have HBD := Lib.hid hbd
  clear hn hl hr hr' hes hml hbd
  go_enter Try.func24, Try.ntmps24
  go_wp2_with fail
  go_loopg [9] n (fun gg s9 wr => ∃ k : Nat, k ≤ n ∧ n - k ≤ gg ∧ s9 = .int .i64 (k : Int) ∧ Hid (Below w.heap.size w wr) ∧ Hid (Fil.meets (f.take k) es = true))
  case atStart => exact ⟨0, Nat.zero_le _, by omega, rfl, Below.refl _ _, by show _ = _; simp [Fil.meets]⟩
  case round =>
    obtain ⟨k, hk, hgg, rfl, HB, HA⟩ := hrel
    by_cases hlt : k < n
    · have hk' : k < f.length := by rw [HN.out]; exact hlt
      have hpl := HLL.out _ (List.getElem_mem hk')
      obtain ⟨g, off, rfl, hg, c0, c1, c2, c3, c4⟩ := RdQ.at5 (RdK.below HR.out HB.out) hk'
      obtain ⟨x, hx⟩ : ∃ x, f[k] = x := ⟨_, rfl⟩
      have HX := Lib.hid hx
      rw [hx] at c0 c1 c2 c3 c4 hpl
      clear hx HLL
      obtain ⟨xn, xo, xk, xi, xt⟩ := x
      obtain ⟨hp1, hp2, hp3, hp4⟩ := hpl
      dsimp only at hp1 hp2 hp3 hp4 c0 c1 c2 c3 c4
      have w5 : (k : Int) < (n : Int) := by omega
      have hb1 := HB.out.alloc (by have := HB.out.size; omega) (.cells #[.string ⟨xn.toArray⟩, .int .i64 xo, .int .i64 xk, .int .i64 xi, .string ⟨xt.toArray⟩] 47)
      have HB1 := Lib.hid hb1
      have HRE := Lib.hid (HR'.out.below hb1)
      clear hb1
      cases hq : meetsV es xn xo xk xi xt with
      | true =>
        have HQ := Lib.hid hq
        clear hq
        go_wp2_with fail
        refine (meets_is xn xo xk xi xt B es m d _ HE.out HM.out HBD.out (by omega) (by omega) HRE.out true HQ.out).mono ?_
        rintro e w2 ⟨rfl, hb2⟩
        have HB2 := Lib.hid (below_next HB1.out (by have := HB1.out.size; omega) hb2)
        have HA2 : Hid (Fil.meets (f.take (k + 1)) es = true) := by
          show _ = _
          rw [List.take_succ_eq_append_getElem hk', HX.out]
          have h1 := HA.out
          unfold Fil.meets at *
          rw [List.all_append, h1]
          simp [HQ.out]
        clear hb2 c0 c1 c2 c3 c4 HRE
        go_wp2_with fail
        go_roundg (n - (k + 1))
        case measure => omega
        case rel => exact ⟨k + 1, by omega, Nat.le_refl _, by go_num, HB2, HA2⟩
      | false =>
        have HQ := Lib.hid hq
        clear hq
        go_wp2_with fail
        refine (meets_is xn xo xk xi xt B es m d _ HE.out HM.out HBD.out (by omega) (by omega) HRE.out false HQ.out).mono ?_
        rintro e w2 ⟨rfl, hb2⟩
        have HB2 := Lib.hid (below_next HB1.out (by have := HB1.out.size; omega) hb2)
        have HF : Hid (Fil.meets f es = false) := by
          show _ = _
          unfold Fil.meets
          rw [List.all_eq_false]
          exact ⟨_, List.getElem_mem hk', by rw [HX.out]; simp [HQ.out]⟩
        clear hb2 c0 c1 c2 c3 c4 HRE
        go_wp2_with fail
        go_ret
        exact ⟨ret_b HF.out.symm, HB2.out⟩
    · have hkn : Hid (k = n) := by show k = n; omega
      go_wp2_with fail
      go_ret
      refine ⟨ret_b ?_, HB.out⟩
      have := HA.out
      rw [hkn.out, List.take_of_length_le (by rw [HN.out]; exact Nat.le_refl _)] at this
      exact this.symm
end Go.Proofs.Ytckabmlilbkmbaa
namespace Go.Proofs.Ytckabmlilbkmbaa
open Go.RowKit Go.Maps Spans Op
theorem tells_no {w w' : World} {P : Prop} (h : ¬ P) (hb : Below w.heap.size w w') : Tells w P (.returned (.bool false)) w' := ⟨false, rfl, ⟨fun k => (by cases k), fun k => absurd k h⟩, hb⟩
theorem tells_yes {w w' : World} {P : Prop} (h : P) (hb : Below w.heap.size w w') : Tells w P (.returned (.bool true)) w' := ⟨true, rfl, ⟨fun _ => h, fun _ => rfl⟩, hb⟩
set_option maxRecDepth 100000 in
set_option maxHeartbeats 4000000 in
theorem covers_at (A : Option Addr) (f : List Pr) (n c : Nat) (hn : f.length = n) (hm : n ≤ 1000) (hl : PBd f) (A' : Option Addr) (g : List Pr) (n' c' : Nat) (hn' : g.length = n') (hm' : n' ≤ 1000) (hl' : PBd g) (w : World) (hr : RdQ w A f) (hr' : RdQ w A' g) :
    Calls Try.prog 20 #[.slice A n c, .slice A' n' c'] w (Tells w (Fil.Cov f g)) := by
  have HN := Lib.hid hn
  have HN' := Lib.hid hn'
  have HLL := Lib.hid hl
  have HLL' := Lib.hid hl'
  have HR := Lib.hid hr
  have HR' := Lib.hid hr'
  clear hn hl hr hn' hl' hr'
  go_enter Try.func20, Try.ntmps20
  go_wp2_with fail
  by_cases hF : Fil.Sound f
  · refine (sound_at A f n c HN.out (by omega) HLL.out w HR.out true (decide_eq_true hF)).mono ?_
    rintro e w1 ⟨rfl, hb1⟩
    have HF := Lib.hid hF
    have HB1 := Lib.hid hb1
    clear hF hb1
    go_wp2_with fail
    by_cases hG : Fil.Sound g
    · refine (sound_at A' g n' c' HN'.out (by omega) HLL'.out w1 (RdK.below HR'.out HB1.out) true (decide_eq_true hG)).mono ?_
      rintro e w2 ⟨rfl, hb2⟩
      have HG := Lib.hid hG
      have HB2 := Lib.hid (below_next HB1.out (Nat.le_refl _) hb2)
      clear hG hb2 HB1
      go_wp2_with fail
      refine (spansOf_at A f n c HN.out (by have := HF.out.1; rw [HN.out] at this; omega) HLL.out w2 (RdK.below HR.out HB2.out)).mono ?_
      rintro e w3 ⟨b, S, rfl, hsp, _, hb3⟩
      have HB3 := Lib.hid (below_next HB2.out (Nat.le_refl _) hb3)
      have HSP := Lib.hid hsp
      clear hb3 hsp HB2
      go_wp2_with fail
      refine (spansOf_at A' g n' c' HN'.out (by have := HG.out.1; rw [HN'.out] at this; omega) HLL'.out w3 (RdK.below HR'.out HB3.out)).mono ?_
      rintro e w4 ⟨b', T, rfl, hsp', _, hb4⟩
      have HB4 := Lib.hid (below_next HB3.out (Nat.le_refl _) hb4)
      have HSP4 := Lib.hid (HSP.out.below hb4)
      have HSP' := Lib.hid hsp'
      clear hb4 hsp' HB3 HSP
      have HCW : Hid (Fil.Cov f g ↔ Fil.Sound f ∧ Fil.Sound g ∧ (Fil.Void g T ∨ ∀ n, Fil.Asked f n → Fil.Asked g n ∧ inn (T n) (S n) = true)) := by
        obtain ⟨_, _, _, _, h1⟩ := HSP4.out
        obtain ⟨_, _, _, _, h2⟩ := HSP'.out
        exact Fil.cov_with h1.spans h2.spans
      go_wp2_with fail
      by_cases hV : Fil.Void g T
      · refine (anyEmpty_at b' g T w4 HSP'.out true (decide_eq_true hV)).mono ?_
        rintro e w5 ⟨rfl, hb5⟩
        have HV := Lib.hid hV
        have HB5 := Lib.hid (below_next HB4.out (Nat.le_refl _) hb5)
        clear hV hb5
        go_wp2_with fail
        go_ret
        exact tells_yes (HCW.out.2 ⟨HF.out, HG.out, .inl HV.out⟩) HB5.out
      · refine (anyEmpty_at b' g T w4 HSP'.out false (decide_eq_false hV)).mono ?_
        rintro e w5 ⟨rfl, hb5⟩
        have HV := Lib.hid hV
        have HB5 := Lib.hid (below_next HB4.out (Nat.le_refl _) hb5)
        have HSP5 := Lib.hid (HSP4.out.below hb5)
        have HSP5' := Lib.hid (HSP'.out.below hb5)
        clear hV hb5 HSP4 HSP' HB4
        obtain ⟨m, D, hown, hmf, hS⟩ := HSP5.out
        obtain ⟨m', D', hown', hmf', hT⟩ := HSP5'.out
        have HS := Lib.hid hS
        have HT := Lib.hid hT
        have HO' : Hid (OwnM w5 b' m' D') := hown'
        have HMF : Hid (f.length ≤ 24) := HF.out.1
        have HMG : Hid (g.length ≤ 24) := HG.out.1
        clear hS hT hown' HSP5 HSP5'
        go_wp2_with (first | (at_range; refine wpList_range_own _ rfl _ 53 rfl 9 58 lawS Try.underlying53 _ b m _ rfl hown ?_; intro w6 hrg0 hg0 hs0) | go_in)
        go_frame
        go_loopw [7] (fun _ wr => ∃ (left : Lit → Bool) (cnt : Nat), wr.ranges Try.prog 9 elemR b w5.heap.size m D left cnt ∧ Hid (∀ n, Fil.Asked f n → left (.string n) = false → Fil.Asked g n ∧ inn (T n) (S n) = true) ∧ Hid (Below w5.heap.size w5 wr)) (fun _ wr => wr.rangeLeft b w5.heap.size)
        case atStart => exact ⟨_, _, hrg0, fun n hn hl => (by rw [(HS.out.has n).2 hn] at hl; cases hl), (Below.refl _ _).grown hg0 (Nat.le_refl _) (fun j hj => by cases hj)⟩
        case round =>
          obtain ⟨left, cnt, hrg, HL, HB⟩ := hrel
          clear hrg0 hg0 hs0 hown
          go_wp2_with (first | (at_next; refine wpList_next_S rfl _ rfl b w5.heap.size m D left cnt rfl hrg ?_ ?_) | go_in)
          · intro _ hl0
            have HFIN : Hid (Fil.Cov f g) := HCW.out.2 ⟨HF.out, HG.out, .inr fun n hn => HL.out n hn (hl0 _)⟩
            clear hl0 hrg
            go_wp2_with fail
            go_ret
            exact tells_yes HFIN.out (below_next HB5.out (Nat.le_refl _) HB.out)
          · intro x s w7 cnt1 hlx hat hrg1 hlt hg1 hs1 hen
            have HB7 : Hid (Below w5.heap.size w5 w7) := HB.out.grown hg1 HB.out.size (fun j hj => by cases hj; exact Nat.le_refl _)
            obtain ⟨hax, Af, cf, hsr, hcf, hrdf⟩ := (HS.out.below HB7.out).kind hat
            subst hsr
            simp only [rw_] at hen ⊢
            have hxl : x.length ≤ 100 := by obtain ⟨p, hp, e⟩ := hax; rw [← e]; exact (HLL.out p hp).1
            have HAX := Lib.hid hax
            have hrg2 := hrg1.alloc (.cells #[.int .i64 (S x).kind, .int .i64 (S x).lo, .int .i64 (S x).hi, .string ⟨(S x).frm.toArray⟩, .string ⟨(S x).to_.toArray⟩, .bool (S x).opn, .slice Af (S x).no.length cf] 58)
            have hb8 := HB7.out.alloc HB7.out.size (.cells #[.int .i64 (S x).kind, .int .i64 (S x).lo, .int .i64 (S x).hi, .string ⟨(S x).frm.toArray⟩, .string ⟨(S x).to_.toArray⟩, .bool (S x).opn, .slice Af (S x).no.length cf] 58)
            have hO8 := World.ownsMap.alloc (OwnM.below HO'.out HB7.out) (.cells #[.int .i64 (S x).kind, .int .i64 (S x).lo, .int .i64 (S x).hi, .string ⟨(S x).frm.toArray⟩, .string ⟨(S x).to_.toArray⟩, .bool (S x).opn, .slice Af (S x).no.length cf] 58)
            have hV8 := Blk.new w7 58 #[.int .i64 (S x).kind, .int .i64 (S x).lo, .int .i64 (S x).hi, .string ⟨(S x).frm.toArray⟩, .string ⟨(S x).to_.toArray⟩, .bool (S x).opn, .slice Af (S x).no.length cf]
            have hrd8 := RdK.below hrdf ((Below.refl _ _).alloc (Nat.le_refl _) (.cells #[.int .i64 (S x).kind, .int .i64 (S x).lo, .int .i64 (S x).hi, .string ⟨(S x).frm.toArray⟩, .string ⟨(S x).to_.toArray⟩, .bool (S x).opn, .slice Af (S x).no.length cf] 58))
            have HI : Hid (IsAll (Fil.of f x) (S x)) := (HS.out.all x HAX.out).1
            have hnx : (S x).no.length ≤ 100 := by have := (HS.out.all x HAX.out).2.1; have := HMF.out; omega
            clear hs1 hat hg1 hrg1 hax hrdf
            by_cases hag : Fil.Asked g x
            · obtain ⟨hIg, hng, Ag, cg, hatg, hcg, hrdg⟩ := (HT.out.below hb8).all x hag
              have hlook : (Instr.lookup 53 (.map (some b')) (.string ⟨x.toArray⟩) true).run Try.prog (w7.alloc (.cells #[.int .i64 (S x).kind, .int .i64 (S x).lo, .int .i64 (S x).hi, .string ⟨(S x).frm.toArray⟩, .string ⟨(S x).to_.toArray⟩, .bool (S x).opn, .slice Af (S x).no.length cf] 58)) = .ok (.tuple #[.agg #[.int .i64 (T x).kind, .int .i64 (T x).lo, .int .i64 (T x).hi, .string ⟨(T x).frm.toArray⟩, .string ⟨(T x).to_.toArray⟩, .bool (T x).opn, .slice Ag (T x).no.length cg], .bool true]) (w7.alloc (.cells #[.int .i64 (S x).kind, .int .i64 (S x).lo, .int .i64 (S x).hi, .string ⟨(S x).frm.toArray⟩, .string ⟨(S x).to_.toArray⟩, .bool (S x).opn, .slice Af (S x).no.length cf] 58)) := (look_yes hO8 (by omega) hatg).1
              have hs8 : (w7.alloc (.cells #[.int .i64 (S x).kind, .int .i64 (S x).lo, .int .i64 (S x).hi, .string ⟨(S x).frm.toArray⟩, .string ⟨(S x).to_.toArray⟩, .bool (S x).opn, .slice Af (S x).no.length cf] 58)).heap.size = w7.heap.size + 1 := by simp
              have hV9 : Blk ((w7.alloc (.cells #[.int .i64 (S x).kind, .int .i64 (S x).lo, .int .i64 (S x).hi, .string ⟨(S x).frm.toArray⟩, .string ⟨(S x).to_.toArray⟩, .bool (S x).opn, .slice Af (S x).no.length cf] 58)).alloc (.cells #[.int .i64 (T x).kind, .int .i64 (T x).lo, .int .i64 (T x).hi, .string ⟨(T x).frm.toArray⟩, .string ⟨(T x).to_.toArray⟩, .bool (T x).opn, .slice Ag (T x).no.length cg] 58)) (w7.heap.size + 1) 58 #[.int .i64 (T x).kind, .int .i64 (T x).lo, .int .i64 (T x).hi, .string ⟨(T x).frm.toArray⟩, .string ⟨(T x).to_.toArray⟩, .bool (T x).opn, .slice Ag (T x).no.length cg] := by
                have := Blk.new (w7.alloc (.cells #[.int .i64 (S x).kind, .int .i64 (S x).lo, .int .i64 (S x).hi, .string ⟨(S x).frm.toArray⟩, .string ⟨(S x).to_.toArray⟩, .bool (S x).opn, .slice Af (S x).no.length cf] 58)) 58 #[.int .i64 (T x).kind, .int .i64 (T x).lo, .int .i64 (T x).hi, .string ⟨(T x).frm.toArray⟩, .string ⟨(T x).to_.toArray⟩, .bool (T x).opn, .slice Ag (T x).no.length cg]
                rwa [hs8] at this
              have hV9' := Blk.alloc hV8 (.cells #[.int .i64 (T x).kind, .int .i64 (T x).lo, .int .i64 (T x).hi, .string ⟨(T x).frm.toArray⟩, .string ⟨(T x).to_.toArray⟩, .bool (T x).opn, .slice Ag (T x).no.length cg] 58)
              have hb9 := hb8.alloc hb8.size (.cells #[.int .i64 (T x).kind, .int .i64 (T x).lo, .int .i64 (T x).hi, .string ⟨(T x).frm.toArray⟩, .string ⟨(T x).to_.toArray⟩, .bool (T x).opn, .slice Ag (T x).no.length cg] 58)
              have hrg3 := hrg2.alloc (.cells #[.int .i64 (T x).kind, .int .i64 (T x).lo, .int .i64 (T x).hi, .string ⟨(T x).frm.toArray⟩, .string ⟨(T x).to_.toArray⟩, .bool (T x).opn, .slice Ag (T x).no.length cg] 58)
              have hbl : Below (w7.alloc (.cells #[.int .i64 (S x).kind, .int .i64 (S x).lo, .int .i64 (S x).hi, .string ⟨(S x).frm.toArray⟩, .string ⟨(S x).to_.toArray⟩, .bool (S x).opn, .slice Af (S x).no.length cf] 58)).heap.size (w7.alloc (.cells #[.int .i64 (S x).kind, .int .i64 (S x).lo, .int .i64 (S x).hi, .string ⟨(S x).frm.toArray⟩, .string ⟨(S x).to_.toArray⟩, .bool (S x).opn, .slice Af (S x).no.length cf] 58)) ((w7.alloc (.cells #[.int .i64 (S x).kind, .int .i64 (S x).lo, .int .i64 (S x).hi, .string ⟨(S x).frm.toArray⟩, .string ⟨(S x).to_.toArray⟩, .bool (S x).opn, .slice Af (S x).no.length cf] 58)).alloc (.cells #[.int .i64 (T x).kind, .int .i64 (T x).lo, .int .i64 (T x).hi, .string ⟨(T x).frm.toArray⟩, .string ⟨(T x).to_.toArray⟩, .bool (T x).opn, .slice Ag (T x).no.length cg] 58)) := (Below.refl _ _).alloc (Nat.le_refl _) _
              have HRF := Lib.hid (RdK.below hrd8 hbl)
              have HRG := Lib.hid (RdK.below hrdg hbl)
              have HIG := Lib.hid hIg
              have HAG := Lib.hid hag
              have HB9 := Lib.hid hb9
              have hng' : (T x).no.length ≤ 100 := by have := HMG.out; omega
              clear hIg hatg hrdg hrd8 hb8 hb9 hO8 hV8 hs8 hbl hag hrg2 hng
              go_wp2_with fail
              clear hlook hen hV9 hV9'
              generalize (w7.alloc (.cells #[.int .i64 (S x).kind, .int .i64 (S x).lo, .int .i64 (S x).hi, .string ⟨(S x).frm.toArray⟩, .string ⟨(S x).to_.toArray⟩, .bool (S x).opn, .slice Af (S x).no.length cf] 58)).alloc (.cells #[.int .i64 (T x).kind, .int .i64 (T x).lo, .int .i64 (T x).hi, .string ⟨(T x).frm.toArray⟩, .string ⟨(T x).to_.toArray⟩, .bool (T x).opn, .slice Ag (T x).no.length cg] 58) = w9 at *
              refine (in_at (T x) (S x) HIG.out.1 HI.out.1 Ag _ cg Af _ cf w9 rfl (by omega) rfl (by omega) HRG.out HRF.out (inn (T x) (S x)) rfl).mono ?_
              rintro e w10 ⟨rfl, hb10⟩
              have HB10 := Lib.hid (below_next HB9.out (by have := HB9.out.size; omega) hb10)
              have hrg4 := hrg3.kept (row := none) ⟨hb10.os, hb10.tape, hb10.output, hb10.size, fun k hk _ => hb10.block k hk⟩ (by simp) (by simp)
              clear hb10 hrg3 HB9 HRF HRG
              cases hin : inn (T x) (S x) with
              | false =>
                have HNC : Hid (¬ Fil.Cov f g) := fun h => by
                  obtain ⟨_, _, h2⟩ := HCW.out.1 h
                  have := ((h2.resolve_left HV.out) x HAX.out).2
                  rw [hin] at this
                  cases this
                clear hin
                go_wp2_with fail
                go_ret
                exact tells_no HNC.out (below_next HB5.out (Nat.le_refl _) HB10.out)
              | true =>
                have HL2 : Hid (∀ n, Fil.Asked f n → (left (.string n) && !(Lit.string n).sameKey (.string x)) = false → Fil.Asked g n ∧ inn (T n) (S n) = true) := fun n hn h => by
                  rcases left_next h with e | e
                  · subst e; exact ⟨HAG.out, hin⟩
                  · exact HL.out n hn e
                clear hin
                go_wp2_with fail
                go_roundw
                case rel => exact ⟨_, cnt1, hrg4, HL2, HB10⟩
                case measure => rw [hrg4.left_eq, hrg.left_eq]; exact hlt
            · have hno : Maps.has D' (.string x) = false := by
                cases h : Maps.has D' (.string x) with
                | false => rfl
                | true => exact absurd ((HT.out.has x).1 h) hag
              have hlook : (Instr.lookup 53 (.map (some b')) (.string ⟨x.toArray⟩) true).run Try.prog (w7.alloc (.cells #[.int .i64 (S x).kind, .int .i64 (S x).lo, .int .i64 (S x).hi, .string ⟨(S x).frm.toArray⟩, .string ⟨(S x).to_.toArray⟩, .bool (S x).opn, .slice Af (S x).no.length cf] 58)) = .ok (.tuple #[.agg #[.int .i64 0, .int .i64 0, .int .i64 0, .string ⟨#[]⟩, .string ⟨#[]⟩, .bool false, .slice none 0 0], .bool false]) (w7.alloc (.cells #[.int .i64 (S x).kind, .int .i64 (S x).lo, .int .i64 (S x).hi, .string ⟨(S x).frm.toArray⟩, .string ⟨(S x).to_.toArray⟩, .bool (S x).opn, .slice Af (S x).no.length cf] 58)) := look_no hO8 (by omega) hno
              have HNC : Hid (¬ Fil.Cov f g) := fun h => by
                obtain ⟨_, _, h2⟩ := HCW.out.1 h
                exact hag ((h2.resolve_left HV.out) x HAX.out).1
              have HB9 := Lib.hid (hb8.alloc hb8.size (.cells #[.int .i64 0, .int .i64 0, .int .i64 0, .string ⟨#[]⟩, .string ⟨#[]⟩, .bool false, .slice none 0 0] 58))
              clear hno hag hO8 hrd8 hb8 hrg2
              go_wp2_with fail
              go_ret
              exact tells_no HNC.out (below_next HB5.out (Nat.le_refl _) HB9.out)
    · refine (sound_at A' g n' c' HN'.out (by omega) HLL'.out w1 (RdK.below HR'.out HB1.out) false (decide_eq_false hG)).mono ?_
      rintro e w2 ⟨rfl, hb2⟩
      have HG := Lib.hid hG
      have HB2 := Lib.hid (below_next HB1.out (Nat.le_refl _) hb2)
      clear hG hb2 HB1
      go_wp2_with fail
      go_ret
      exact tells_no (fun h => HG.out h.2.1) HB2.out
  · refine (sound_at A f n c HN.out (by omega) HLL.out w HR.out false (decide_eq_false hF)).mono ?_
    rintro e w1 ⟨rfl, hb1⟩
    have HF := Lib.hid hF
    have HB1 := Lib.hid hb1
    clear hF hb1
    go_wp2_with fail
    go_ret
    exact tells_no (fun h => HF.out h.1) HB1.out
/-- There are spans, and names. -/
def SpanEx (f : List Pr) : Prop := ∃ S L, Fil.IsSpans f S ∧ Fil.IsNames f L
end Go.Proofs.Ytckabmlilbkmbaa
