/- Contracts of the program and of the document (DFew, DArgs, DSml), each used further on. -/
import Derived.Test.YtckabmlilbkmbaaGreatA4
import Derived.Test.YtckabmlilbkmbaaGreatD3
import Derived.Test.YtckabmlilbkmbaaGreatT3
import Derived.Test.YtckabmlilbkmbaaGreatX6
import Derived.Test.YtckabmlilbkmbaaGreatX7
set_option maxRecDepth 100000
set_option maxHeartbeats 4000000
namespace Go.Proofs.YtckabmlilbkmbaaGreat
section
open Go.RowKit Go.Sort Spans Tb Dm
deriving instance DecidableEq for Dm.Dd
def shortD (x : Dx) : Prop := x.ad.length <= 100 /\ ∀ p ∈ x.f, shortP p
instance (x : Dx) : Decidable (shortD x) := inferInstanceAs (Decidable (_ /\ _))
def DBx (xs : List Dx) : Prop := ∀ x ∈ xs, x.n <= 2600000000000 /\ x.ad.length <= 9223372036854775807 /\ PBx x.f
def totalD (xs : List Dx) : Nat := (xs.map Dx.n).sum
def fewD (xs : List Dx) : Bool := decide (∀ x ∈ xs, shortD x) && (decide (xs.length <= 120) && decide (totalD xs <= 400))
def SumD (m : Nat) (t : Nat) (s : Int) : Prop := m <= 120 -> s = (t : Int)
theorem dsame_at (xk xi xr : Int) (xa : LU) (xf : List Pr) (xA : OA) (xn xc : Nat) (hx : xf.length = xn) (hmx : xn <= 100000) (yk yi yr : Int) (ya : LU) (yf : List Pr) (yA : OA) (yn yc : Nat) (hy : yf.length = yn) (hmy : yn <= 100000) (w : World) (hr : RdQ w xA xf) (hr' : RdQ w yA yf) (q : Bool) (hq : decide ((⟨xk, xi, xr, xa, xf⟩ : Dd) = ⟨yk, yi, yr, ya, yf⟩) = q) :
  Calls Tryz.prog 11 #[.agg #[.int .i64 xk, .int .i64 xi, .int .i64 xr, .string ⟨xa.toArray⟩, .slice xA xn xc], .agg #[.int .i64 yk, .int .i64 yi, .int .i64 yr, .string ⟨ya.toArray⟩, .slice yA yn yc]] w fun e w' => e = .returned (.bool q) /\ Below w.heap.size w w' := by
 have hB0 := (gr2 w (.cells #[.int .i64 xk, .int .i64 xi, .int .i64 xr, .string ⟨xa.toArray⟩, .slice xA xn xc] 28) (.cells #[.int .i64 yk, .int .i64 yi, .int .i64 yr, .string ⟨ya.toArray⟩, .slice yA yn yc] 28)).below
 have hX0 := (Blk.new w 28 #[.int .i64 xk, .int .i64 xi, .int .i64 xr, .string ⟨xa.toArray⟩, .slice xA xn xc]).alloc (.cells #[.int .i64 yk, .int .i64 yi, .int .i64 yr, .string ⟨ya.toArray⟩, .slice yA yn yc] 28)
 have hY0 := Blk.new (w.alloc (.cells #[.int .i64 xk, .int .i64 xi, .int .i64 xr, .string ⟨xa.toArray⟩, .slice xA xn xc] 28)) 28 #[.int .i64 yk, .int .i64 yi, .int .i64 yr, .string ⟨ya.toArray⟩, .slice yA yn yc]
 rw [show (w.alloc (.cells #[.int .i64 xk, .int .i64 xi, .int .i64 xr, .string ⟨xa.toArray⟩, .slice xA xn xc] 28)).heap.size = w.heap.size + 1 by simp] at hY0
 have HX := Jh hx
 have HY := Jh hy
 have HQ := Jh hq
 have HR0 := Jh (RdK.below hr hB0)
 have HR1 := Jh (RdK.below hr' hB0)
 have HB0 := Jh hB0
 obtain ⟨x0, x1, x2, x3, x4, _⟩ := blk5 hX0
 obtain ⟨y0, y1, y2, y3, y4, _⟩ := blk5 hY0
 have hl1 := hX0.lt
 have hl2 := hY0.lt
 clear hx hy hq hB0 hX0 hY0 hr hr'
 by_cases h0 : xk = yk
 ·have d0 : (xk == yk) = true := beq_iff_eq.2 h0
  by_cases h1 : xi = yi
  ·have d1 : (xi == yi) = true := beq_iff_eq.2 h1
   by_cases h2 : xr = yr
   ·have d2 : (xr == yr) = true := beq_iff_eq.2 h2
    by_cases h3 : xa = ya
    ·subst h3
     have HF : Hid (decide (xf = yf) = q) := by
      show _ = _
      rw [<- HQ.o]
      simp [h0, h1, h2]
     clear h0 h1 h2
     go_enter Tryz.func11, Tryz.ntmps11
     go_wp2_with fail
     refine (samePs_at xA xf xn xc HX.o hmx yA yf yn yc HY.o hmy _ HR0.o HR1.o q HF.o).mono ?_
     rintro e w2 ⟨rfl, hg2⟩
     have HB2 := Jh (below_next HB0.o (by have := HB0.o.size; omega) hg2.below)
     clear hg2 x0 x1 x2 x3 x4 y0 y1 y2 y3 y4
     go_wp2_with fail
     go_ret
     exact ⟨rfl, HB2.o⟩
    ·have d3 : ((⟨xa.toArray⟩ : ByteArray) == ⟨ya.toArray⟩) = false := by show (xa.toArray == ya.toArray) = false; simpa using h3
     have HF : Hid (false = q) := by
      show _ = _
      rw [<- HQ.o]
      simp [h3]
     clear h0 h1 h2
     go_enter Tryz.func11, Tryz.ntmps11
     go_wp2_with fail
     go_ret
     exact ⟨ret_b HF.o, HB0.o⟩
   ·have d2 : (xr == yr) = false := beq_eq_false_iff_ne.2 h2
    have HF : Hid (false = q) := by
     show _ = _
     rw [<- HQ.o]
     simp [h2]
    clear h0 h1 h2
    go_enter Tryz.func11, Tryz.ntmps11
    go_wp2_with fail
    go_ret
    exact ⟨ret_b HF.o, HB0.o⟩
  ·have d1 : (xi == yi) = false := beq_eq_false_iff_ne.2 h1
   have HF : Hid (false = q) := by
    show _ = _
    rw [<- HQ.o]
    simp [h1]
   clear h0 h1
   go_enter Tryz.func11, Tryz.ntmps11
   go_wp2_with fail
   go_ret
   exact ⟨ret_b HF.o, HB0.o⟩
 ·have d0 : (xk == yk) = false := beq_eq_false_iff_ne.2 h0
  have HF : Hid (false = q) := by
   show _ = _
   rw [<- HQ.o]
   simp [h0]
  clear h0
  go_enter Tryz.func11, Tryz.ntmps11
  go_wp2_with fail
  go_ret
  exact ⟨ret_b HF.o, HB0.o⟩
end
section
open Go.RowKit Go.ChangeShapes Go.WideShapes Go.Deep Go.Joins Spans Tb Dm
abbrev dxV (x : Dx) : Value := .agg #[.int .i64 x.k, .int .i64 x.id, .int .i64 x.fr, .string ⟨x.ad.toArray⟩, .slice x.A x.n x.c]
section
variable {H : Type} {enc : TypeId × Value -> H} {w : World} {base : Nat} {spare : Nat -> Bool} {held : Bool}
end
end
section
open Go.RowKit Go.Sort Spans Tb Dm
def pE2 : List Pr := [⟨[97], 8, 0, 0, []⟩, ⟨[97], 8, 0, 0, []⟩]
def pE1 : List Pr := [⟨[97], 8, 0, 0, []⟩]
theorem rZ0 : Tb.Right ⟨0, [], [], []⟩ := ⟨by decide, by decide, ⟨by decide, rise_nil, fun e he => by cases he⟩, ⟨by decide, rise_nil, fun e he => by cases he⟩, ⟨by decide, rise_nil, fun e he => by cases he⟩⟩
theorem shZ : Short [] := fun x hx => by cases hx
theorem nE2 : Fil.NormIs pE2 pE1 0 := by
 have hp : predsOf [97] any_ = pE1 := by decide
 have hc : Canon any_ := .inr (.inl rfl)
 have ha : IsAll pE1 any_ := by rw [<- hp]; exact preds_all hc (by decide) (by decide) (by decide)
 have hb : IsAll pE2 any_ := ⟨hc, fun v hv => (ha.2 v hv).trans (by simp [pE1, pE2])⟩
 exact (good97 (f := pE2) (a := any_) ⟨by decide, by decide⟩ ⟨by decide, by decide⟩ hb (by decide) hp (by decide)).norm
theorem nS : DNorm ⟨5, 8, 5, [], pE2⟩ ⟨5, 8, 5, [], pE1⟩ 0 := .inr ⟨by unfold Fit Ent; decide, pE1, nE2, .inl ⟨rfl, rfl⟩⟩
theorem owN : Dm.Own ⟨5, 8, 5, [], pE1⟩ := nS.good.1
def bS : Bk := ⟨2, [⟨4, [120]⟩], [], [⟨7, 4, pE1⟩]⟩
def l0 : List Dd := [⟨1, 4, 0, [120], []⟩, ⟨5, 7, 4, [], pE2⟩, ⟨2, 4, 0, [], []⟩]
theorem norm_of {d : Dd} (h : Fit d) (hf : d.f = []) : DNorm d d 0 := (show Dm.Own d from ⟨h, by rw [hf]; exact norm_nil⟩).norm
theorem foldS : Dm.Folds zeroB l0 bS 2 10 := by
 refine .good (t := ⟨1, [⟨4, [120]⟩], [], []⟩) ⟨⟨1, 4, 0, [120], []⟩, 0, norm_of (by unfold Fit Ent; decide) rfl, .inr (.inr (.inr ⟨rfl, by decide, by decide, rfl, rfl⟩))⟩ ?_
 refine .good (t := bS) ⟨⟨5, 7, 4, [], pE1⟩, 0, .inr ⟨by unfold Fit Ent; decide, pE1, nE2, .inl ⟨rfl, rfl⟩⟩, .inr (.inr (.inr ⟨rfl, by decide, by decide, rfl, rfl⟩))⟩ ?_
 exact .bad ⟨⟨2, 4, 0, [], []⟩, 0, norm_of (by unfold Fit Ent; decide) rfl, .inr (.inr (.inl ⟨rfl, by decide, by decide, rfl, by decide⟩))⟩ (by decide)
theorem does1 : Does bS ⟨5, 8, 5, [], pE2⟩ bS 7 := ⟨_, 0, nS, .inr (.inr (.inl ⟨rfl, by decide, by decide, rfl, by decide⟩))⟩
theorem does2 : Does bS ⟨6, 8, 0, [], []⟩ bS 7 := ⟨_, 0, norm_of (by unfold Fit Ent; decide) rfl, .inr (.inr (.inl ⟨rfl, by decide, by decide, rfl, by decide⟩))⟩
theorem does3 : Does bS ⟨6, 7, 4, [], []⟩ bS 1 := ⟨zeroD, 1, .inl ⟨by unfold Fit Ent; decide, rfl, rfl⟩, .inl ⟨by decide, rfl, rfl⟩⟩
theorem rS : Tb.Right bS := (foldS.right rZ0).1
theorem dbN : dbytes ⟨5, 8, 5, [], pE1⟩ = [5, 8, 5, 1, 1, 97, 8] := by
 have e1 : Wire.put 1 = [1] := Wire.put_lo 1 (by decide)
 have e8 : Wire.put 8 = [8] := Wire.put_lo 8 (by decide)
 have e5 : Wire.put 5 = [5] := Wire.put_lo 5 (by decide)
 have hr : Preds.right [97] 8 0 0 [] = true := by decide
 have hE : Ent 5 := .inr rfl
 simp only [dbytes, behindK, fbytes, pE1, layOf, List.flatMap_cons, List.flatMap_nil, List.length_cons, List.length_nil, Nat.zero_add, List.append_nil]
 unfold Preds.lay
 rw [if_pos hr, if_neg (by decide), if_pos hE]
 unfold Preds.bytes
 rw [if_pos rfl]
 unfold Wire.text
 simp [e1, e8, e5]
theorem pbX : PBd pE1 := by unfold PBd; decide
theorem pbE : PBd pE2 := by unfold PBd; decide
theorem pbN : PBd [] := fun p hp => by cases hp
abbrev lX (b : Nat) : List Dx := [⟨1, 4, 0, [120], none, 0, 0, []⟩, ⟨5, 7, 4, [], some ⟨b, 0, none⟩, 2, 2, pE2⟩, ⟨2, 4, 0, [], none, 0, 0, []⟩]
theorem shX (b : Nat) : ShortD (lX b) := fun x hx => by
 simp at hx
 rcases hx with rfl | rfl | rfl
 ·exact ⟨by decide, pbN⟩
 ·exact ⟨by show 2 <= 100000; decide, pbE⟩
 ·exact ⟨by decide, pbN⟩
abbrev sT (A : OA) (c : Nat) (A1 : OA) (c1 : Nat) (A2 : OA) (c2 : Nat) (fA : OA) (fc : Nat) : Sx := ⟨2, A, 1, c, [⟨4, [120]⟩], A1, 0, c1, [], A2, 1, c2, [⟨7, 4, fA, 1, fc, pE1⟩]⟩
theorem st_form {w : World} {base : Nat} {t : Sx} (h : t.bk = bS) (hf : Fresh w base t) : ∃ A c A1 c1 A2 c2 fA fc, t = sT A c A1 c1 A2 c2 fA fc := by
 obtain ⟨ep, A, n, c, ls, A1, n1, c1, av, A2, n2, c2, su⟩ := t
 obtain ⟨hl, ho, _⟩ := hf
 injection h with h1 h2 h3 h4
 dsimp only at h1 h2 h3 h4
 subst h1 h2
 have e3 : av = [] := List.map_eq_nil_iff.1 h3
 subst e3
 match su, h4 with
 | [⟨xi, xr, xA, xn, xc, xf⟩], h4 =>
  injection h4 with h4 _
  injection h4 with q1 q2 q3
  dsimp only at q1 q2 q3
  subst q1 q2 q3
  have hx := (ho.su.2 _ (List.mem_singleton.2 rfl)).1
  obtain rfl : xn = 1 := hx.symm
  obtain rfl : n = 1 := hl.n.symm
  obtain rfl : n1 = 0 := hl.n1.symm
  obtain rfl : n2 = 1 := hl.n2.symm
  exact ⟨A, c, A1, c1, A2, c2, xA, xc, rfl⟩
theorem dsmall_at (w : World) : Calls Tryz.prog 6 #[] w fun e w' => e = .returned (.bool true) /\ Below w.heap.size w w' := by
 have hb0 := (gr2 w (.cells #[.string ⟨#[97]⟩, .int .i64 8, .int .i64 0, .int .i64 0, .string ⟨#[]⟩, .string ⟨#[97]⟩, .int .i64 8, .int .i64 0, .int .i64 0, .string ⟨#[]⟩] 64) (.cells #[.int .i64 1, .int .i64 4, .int .i64 0, .string ⟨#[120]⟩, .slice none 0 0, .int .i64 5, .int .i64 7, .int .i64 4, .string ⟨#[]⟩, .slice (some ⟨w.heap.size, 0, none⟩) 2 2, .int .i64 2, .int .i64 4, .int .i64 0, .string ⟨#[]⟩, .slice none 0 0] 28)).below
 have BB := Jh hb0
 have RP : Hid (RdQ ((w.alloc (.cells #[.string ⟨#[97]⟩, .int .i64 8, .int .i64 0, .int .i64 0, .string ⟨#[]⟩, .string ⟨#[97]⟩, .int .i64 8, .int .i64 0, .int .i64 0, .string ⟨#[]⟩] 64)).alloc (.cells #[.int .i64 1, .int .i64 4, .int .i64 0, .string ⟨#[120]⟩, .slice none 0 0, .int .i64 5, .int .i64 7, .int .i64 4, .string ⟨#[]⟩, .slice (some ⟨w.heap.size, 0, none⟩) 2 2, .int .i64 2, .int .i64 4, .int .i64 0, .string ⟨#[]⟩, .slice none 0 0] 28)) (some ⟨w.heap.size, 0, none⟩) pE2) := RdK.below (rdk_lit layP w pE2 64 #[.string ⟨#[97]⟩, .int .i64 8, .int .i64 0, .int .i64 0, .string ⟨#[]⟩, .string ⟨#[97]⟩, .int .i64 8, .int .i64 0, .int .i64 0, .string ⟨#[]⟩] rfl) (gr1 (w.alloc (.cells #[.string ⟨#[97]⟩, .int .i64 8, .int .i64 0, .int .i64 0, .string ⟨#[]⟩, .string ⟨#[97]⟩, .int .i64 8, .int .i64 0, .int .i64 0, .string ⟨#[]⟩] 64)) _).below
 have hrd := rdk_lit layD (w.alloc (.cells #[.string ⟨#[97]⟩, .int .i64 8, .int .i64 0, .int .i64 0, .string ⟨#[]⟩, .string ⟨#[97]⟩, .int .i64 8, .int .i64 0, .int .i64 0, .string ⟨#[]⟩] 64)) (lX w.heap.size) 28 #[.int .i64 1, .int .i64 4, .int .i64 0, .string ⟨#[120]⟩, .slice none 0 0, .int .i64 5, .int .i64 7, .int .i64 4, .string ⟨#[]⟩, .slice (some ⟨w.heap.size, 0, none⟩) 2 2, .int .i64 2, .int .i64 4, .int .i64 0, .string ⟨#[]⟩, .slice none 0 0] rfl
 rw [show (w.alloc (.cells #[.string ⟨#[97]⟩, .int .i64 8, .int .i64 0, .int .i64 0, .string ⟨#[]⟩, .string ⟨#[97]⟩, .int .i64 8, .int .i64 0, .int .i64 0, .string ⟨#[]⟩] 64)).heap.size = w.heap.size + 1 by simp] at hrd
 have RD : Hid (RdDx ((w.alloc (.cells #[.string ⟨#[97]⟩, .int .i64 8, .int .i64 0, .int .i64 0, .string ⟨#[]⟩, .string ⟨#[97]⟩, .int .i64 8, .int .i64 0, .int .i64 0, .string ⟨#[]⟩] 64)).alloc (.cells #[.int .i64 1, .int .i64 4, .int .i64 0, .string ⟨#[120]⟩, .slice none 0 0, .int .i64 5, .int .i64 7, .int .i64 4, .string ⟨#[]⟩, .slice (some ⟨w.heap.size, 0, none⟩) 2 2, .int .i64 2, .int .i64 4, .int .i64 0, .string ⟨#[]⟩, .slice none 0 0] 28)) (some ⟨w.heap.size + 1, 0, none⟩) (lX w.heap.size)) := ⟨hrd, fun x hx => by
  simp at hx
  rcases hx with rfl | rfl | rfl
  ·exact ⟨rfl, Jn, .inl rfl⟩
  ·exact ⟨rfl, Jn, RP.o⟩
  ·exact ⟨rfl, Jn, .inl rfl⟩⟩
 clear hb0 hrd
 go_enter Tryz.func6, Tryz.ntmps6
 go_wp2_with fail
 generalize ((w.alloc (.cells #[.string ⟨#[97]⟩, .int .i64 8, .int .i64 0, .int .i64 0, .string ⟨#[]⟩, .string ⟨#[97]⟩, .int .i64 8, .int .i64 0, .int .i64 0, .string ⟨#[]⟩] 64)).alloc (.cells #[.int .i64 1, .int .i64 4, .int .i64 0, .string ⟨#[120]⟩, .slice none 0 0, .int .i64 5, .int .i64 7, .int .i64 4, .string ⟨#[]⟩, .slice (some ⟨w.heap.size, 0, none⟩) 2 2, .int .i64 2, .int .i64 4, .int .i64 0, .string ⟨#[]⟩, .slice none 0 0] 28)) = w0 at *
 refine (dfold_at zeroS ⟨rfl, Jn, rfl, Jn, rfl, Jn⟩ ⟨by decide, by decide, by decide, shZ, shZ⟩ (lX w.heap.size) (some ⟨w.heap.size + 1, 0, none⟩) 3 3 rfl (by decide) (shX _) w0 rZ0 ⟨.inl rfl, RdEn.nil _ _, RdEn.nil _ _⟩ RD.o).mono ?_
 rintro e w1 ⟨t, n, er, rfl, hf, hfr, hb⟩
 obtain ⟨hbk, rfl, rfl⟩ := (show Dm.Folds zeroB l0 t.bk n er from hf).one foldS
 obtain ⟨A, c, A1, c1, A2, c2, fA, fc, rfl⟩ := st_form hbk hfr
 have HC1 : Hid (1 <= c) := hfr.len.c
 have HC2 : Hid (1 <= c2) := hfr.len.c2
 have HFW : Hid ((sT A c A1 c1 A2 c2 fA fc).Few) := ⟨by show 1 <= 100000; decide, by show 0 <= 100000; decide, by show 1 <= 100000; decide, shZ, fun x hx => by simp at hx; subst hx; show 1 <= 100000; decide⟩
 have RS := Jh hfr.own.rd
 clear hf hbk hfr RD
 replace BB := Jh (below_next BB.o (Jn) hb)
 replace RP := Jh (RdK.below RP.o hb)
 clear hb
 have hb := (gr1 w1 (.cells #[.int .i64 2, .slice A 1 c, .slice A1 0 c1, .slice A2 1 c2] 25)).below
 have HX := Jh (Blk.new w1 25 #[.int .i64 2, .slice A 1 c, .slice A1 0 c1, .slice A2 1 c2])
 replace BB := Jh (below_next BB.o (Jn) hb)
 replace RP := Jh (RdK.below RP.o hb)
 replace RS := Jh (Sx.Rd.below RS.o hb)
 clear hb
 obtain ⟨x0, x1, x2, x3, _⟩ := blk4 HX.o
 go_wp2_with fail
 clear x0 x1 x2 x3
 generalize w1.alloc (.cells #[.int .i64 2, .slice A 1 c, .slice A1 0 c1, .slice A2 1 c2] 25) = w2 at *
 generalize w1.heap.size = p at *
 refine (ddo_at (sT A c A1 c1 A2 c2 fA fc) ⟨rfl, HC1.o, rfl, Nat.zero_le _, rfl, HC2.o⟩ HFW.o 5 8 5 [] pE2 (some ⟨w.heap.size, 0, none⟩) 2 2 rfl (by decide) pbE w2 rS RS.o RP.o).mono ?_
 rintro e w3 ⟨t, er, b, rfl, hdo, hbk, hfr, hb⟩
 obtain ⟨_, rfl⟩ := (show Does bS ⟨5, 8, 5, [], pE2⟩ b er from hdo).one does1
 clear hdo hbk hfr
 replace BB := Jh (below_next BB.o (Jn) hb)
 replace RP := Jh (RdK.below RP.o hb)
 replace RS := Jh (Sx.Rd.below RS.o hb)
 replace HX := Jh (Blk.below HX.o hb HX.o.lt)
 clear hb
 have hb := (gr1 w3 (.cells #[.int .i64 t.ep, .slice t.A t.n t.c, .slice t.A1 t.n1 t.c1, .slice t.A2 t.n2 t.c2] 25)).below
 replace BB := Jh (below_next BB.o (Jn) hb)
 replace RP := Jh (RdK.below RP.o hb)
 replace RS := Jh (Sx.Rd.below RS.o hb)
 replace HX := Jh (Blk.below HX.o hb HX.o.lt)
 clear hb
 obtain ⟨x0, x1, x2, x3, _⟩ := blk4 HX.o
 go_wp2_with fail
 clear x0 x1 x2 x3
 generalize w3.alloc (.cells #[.int .i64 t.ep, .slice t.A t.n t.c, .slice t.A1 t.n1 t.c1, .slice t.A2 t.n2 t.c2] 25) = w4 at *
 refine (ddo_at (sT A c A1 c1 A2 c2 fA fc) ⟨rfl, HC1.o, rfl, Nat.zero_le _, rfl, HC2.o⟩ HFW.o 6 8 0 [] [] none 0 0 rfl (by decide) pbN w4 rS RS.o (.inl rfl)).mono ?_
 rintro e w5 ⟨t, er, b, rfl, hdo, hbk, hfr, hb⟩
 obtain ⟨_, rfl⟩ := (show Does bS ⟨6, 8, 0, [], []⟩ b er from hdo).one does2
 clear hdo hbk hfr
 replace BB := Jh (below_next BB.o (Jn) hb)
 replace RP := Jh (RdK.below RP.o hb)
 replace RS := Jh (Sx.Rd.below RS.o hb)
 replace HX := Jh (Blk.below HX.o hb HX.o.lt)
 clear hb
 have hb := (gr1 w5 (.cells #[.int .i64 t.ep, .slice t.A t.n t.c, .slice t.A1 t.n1 t.c1, .slice t.A2 t.n2 t.c2] 25)).below
 replace BB := Jh (below_next BB.o (Jn) hb)
 replace RP := Jh (RdK.below RP.o hb)
 replace RS := Jh (Sx.Rd.below RS.o hb)
 replace HX := Jh (Blk.below HX.o hb HX.o.lt)
 clear hb
 obtain ⟨x0, x1, x2, x3, _⟩ := blk4 HX.o
 go_wp2_with fail
 clear x0 x1 x2 x3
 generalize w5.alloc (.cells #[.int .i64 t.ep, .slice t.A t.n t.c, .slice t.A1 t.n1 t.c1, .slice t.A2 t.n2 t.c2] 25) = w6 at *
 refine (ddo_at (sT A c A1 c1 A2 c2 fA fc) ⟨rfl, HC1.o, rfl, Nat.zero_le _, rfl, HC2.o⟩ HFW.o 6 7 4 [] [] none 0 0 rfl (by decide) pbN w6 rS RS.o (.inl rfl)).mono ?_
 rintro e w7 ⟨t, er, b, rfl, hdo, hbk, hfr, hb⟩
 obtain ⟨_, rfl⟩ := (show Does bS ⟨6, 7, 4, [], []⟩ b er from hdo).one does3
 clear hdo hbk hfr
 replace BB := Jh (below_next BB.o (Jn) hb)
 replace RP := Jh (RdK.below RP.o hb)
 replace RS := Jh (Sx.Rd.below RS.o hb)
 replace HX := Jh (Blk.below HX.o hb HX.o.lt)
 clear hb
 have hb := (gr1 w7 (.cells #[.int .i64 t.ep, .slice t.A t.n t.c, .slice t.A1 t.n1 t.c1, .slice t.A2 t.n2 t.c2] 25)).below
 replace BB := Jh (below_next BB.o (Jn) hb)
 replace RP := Jh (RdK.below RP.o hb)
 replace RS := Jh (Sx.Rd.below RS.o hb)
 replace HX := Jh (Blk.below HX.o hb HX.o.lt)
 clear hb
 obtain ⟨x0, x1, x2, x3, _⟩ := blk4 HX.o
 go_wp2_with fail
 clear x0 x1 x2 x3
 generalize w7.alloc (.cells #[.int .i64 t.ep, .slice t.A t.n t.c, .slice t.A1 t.n1 t.c1, .slice t.A2 t.n2 t.c2] 25) = w8 at *
 refine (dnorm_at ⟨5, 8, 5, [], pE2⟩ (some ⟨w.heap.size, 0, none⟩) 2 2 rfl (by decide) pbE w8 RP.o).mono ?_
 rintro e w9 ⟨⟨ok, oi, of, oa, off⟩, er, A6, n6, c6, rfl, hdn, hl6, hc6, ho6, hb⟩
 obtain ⟨h, rfl⟩ := hdn.one nS
 injection h with h1 h2 h3 h4 h5
 subst h1 h2 h3 h4 h5
 obtain rfl : n6 = 1 := hl6.symm
 have RN := Jh (own_rdq ho6)
 clear hdn hl6 ho6
 clear RP
 replace BB := Jh (below_next BB.o (Jn) hb)
 replace RS := Jh (Sx.Rd.below RS.o hb)
 replace HX := Jh (Blk.below HX.o hb HX.o.lt)
 clear hb
 have hb := (gr1 w9 (.cells #[.int .i64 5, .int .i64 8, .int .i64 5, .string ⟨#[]⟩, .slice A6 1 c6] 28)).below
 have HN := Jh (Blk.new w9 28 #[.int .i64 5, .int .i64 8, .int .i64 5, .string ⟨#[]⟩, .slice A6 1 c6])
 replace BB := Jh (below_next BB.o (Jn) hb)
 replace RS := Jh (Sx.Rd.below RS.o hb)
 replace HX := Jh (Blk.below HX.o hb HX.o.lt)
 replace RN := Jh (RdK.below RN.o hb)
 clear hb
 obtain ⟨d0, d1, d2, d3, d4, _⟩ := blk5 HN.o
 go_wp2_with fail
 clear d0 d1 d2 d3 d4
 generalize w9.alloc (.cells #[.int .i64 5, .int .i64 8, .int .i64 5, .string ⟨#[]⟩, .slice A6 1 c6] 28) = w10 at *
 generalize w9.heap.size = p6 at *
 refine (dput_at none [] 0 0 rfl (by decide) 5 8 5 [] pE1 A6 1 c6 rfl (by decide) pbX w10 (.inl rfl) RN.o).mono ?_
 rintro e w11 ⟨fs, hfl, hf9, D, cc, he, hcc, hb, hrd⟩
 obtain rfl : fs = [5, 8, 5, 1, 1, 97, 8] := hfl.one (.inl ⟨owN, dbN.symm⟩)
 obtain rfl : e = .returned (.slice D 7 cc) := he
 rw [List.nil_append] at hrd
 have RB := Jh hrd
 clear hfl hf9 hrd
 replace BB := Jh (below_next BB.o (Jn) hb)
 replace RS := Jh (Sx.Rd.below RS.o hb)
 replace HX := Jh (Blk.below HX.o hb HX.o.lt)
 replace RN := Jh (RdK.below RN.o hb)
 replace HN := Jh (Blk.below HN.o hb HN.o.lt)
 clear hb
 go_wp2_with fail
 refine (on_at D [5, 8, 5, 1, 1, 97, 8] 7 cc rfl (by decide) w11 RB.o).mono ?_
 rintro e w12 ⟨gs, rfl, hgs, hbo, hsc⟩
 have SS := Jh hsc
 have HBO := Jh hbo
 have hXn := HX.o.below hbo HX.o.lt
 obtain ⟨x0, x1, x2, x3, _⟩ := blk4 hXn
 clear hsc hbo
 go_wp2_with fail
 clear x0 x1 x2 x3 hXn
 refine (dget_at w12 gs _ SS.o).mono ?_
 rintro e w13 ⟨⟨xk, xi, xr, xa, xf⟩, s', A9, n9, c9, hg, rfl, hl9, h24, hc9, ho9, hs9, ht9⟩
 rw [show (⟨[5, 8, 5, 1, 1, 97, 8], 0⟩ : Wire.St) = ⟨dbytes ⟨5, 8, 5, [], pE1⟩ ++ [], 0⟩ by rw [dbN]; rfl] at hg
 obtain ⟨h, rfl⟩ := Dm.get_lay owN [] hg
 injection h with h1 h2 h3 h4 h5
 subst h1 h2 h3 h4 h5
 obtain rfl : n9 = 1 := hl9.symm
 have RX := Jh (own_rdq ho9)
 have hb := ht9.below HBO.o HBO.o.size hgs
 replace SS := Jh hs9
 clear hg hl9 ho9 hs9 ht9 HBO
 replace BB := Jh (below_next BB.o (Jn) hb)
 replace RS := Jh (Sx.Rd.below RS.o hb)
 replace HX := Jh (Blk.below HX.o hb HX.o.lt)
 replace RN := Jh (RdK.below RN.o hb)
 replace HN := Jh (Blk.below HN.o hb HN.o.lt)
 replace RB := Jh (Rd.below RB.o hb)
 clear hb
 have hb := (gr1 w13 (.cells #[.int .i64 5, .int .i64 8, .int .i64 5, .string ⟨#[]⟩, .slice A9 1 c9] 28)).below
 have HY := Jh (Blk.new w13 28 #[.int .i64 5, .int .i64 8, .int .i64 5, .string ⟨#[]⟩, .slice A9 1 c9])
 replace BB := Jh (below_next BB.o (Jn) hb)
 replace RS := Jh (Sx.Rd.below RS.o hb)
 replace HX := Jh (Blk.below HX.o hb HX.o.lt)
 replace RN := Jh (RdK.below RN.o hb)
 replace HN := Jh (Blk.below HN.o hb HN.o.lt)
 replace RB := Jh (Rd.below RB.o hb)
 replace SS := Jh (Sc.below SS.o hb)
 replace RX := Jh (RdK.below RX.o hb)
 clear hb
 obtain ⟨x0, x1, x2, x3, _⟩ := blk4 HX.o
 obtain ⟨d0, d1, d2, d3, d4, _⟩ := blk5 HN.o
 obtain ⟨y0, y1, y2, y3, y4, _⟩ := blk5 HY.o
 obtain ⟨ge, oe, hAe, hge, c0, c1x, c2x, _⟩ := RdEn.at3 RS.o.su (show 0 < 1 by decide)
 dsimp only at hAe
 subst hAe
 simp only [Nat.zero_mul, Nat.add_zero, List.getElem_cons_zero] at c0 c1x c2x
 go_wp2_with fail
 clear x0 x1 x2 x3 d0 d1 d2 d3 d4 y0 y1 y2 y3 y4 c0 c1x c2x
 generalize w13.alloc (.cells #[.int .i64 5, .int .i64 8, .int .i64 5, .string ⟨#[]⟩, .slice A9 1 c9] 28) = w14 at *
 refine (dsame_at 5 8 5 [] pE1 A9 1 c9 rfl (by decide) 5 8 5 [] pE1 A6 1 c6 rfl (by decide) w14 RX.o RN.o true rfl).mono ?_
 rintro e w15 ⟨rfl, hb⟩
 replace BB := Jh (below_next BB.o (Jn) hb)
 replace RS := Jh (Sx.Rd.below RS.o hb)
 replace HX := Jh (Blk.below HX.o hb HX.o.lt)
 replace RN := Jh (RdK.below RN.o hb)
 replace HN := Jh (Blk.below HN.o hb HN.o.lt)
 replace RB := Jh (Rd.below RB.o hb)
 replace SS := Jh (Sc.below SS.o hb)
 replace RX := Jh (RdK.below RX.o hb)
 replace HY := Jh (Blk.below HY.o hb HY.o.lt)
 clear hb
 go_wp2_with fail
 refine (end_at w15 gs _ SS.o 0 rfl).mono ?_
 rintro e wx ⟨rfl, rfl⟩
 have hst := run_str (P := Tryz.prog) w15 D [5, 8, 5, 1, 1, 97, 8] 7 cc RB.o rfl 29 5 9 Tryz.underlying29 Tryz.underlying5 Tryz.underlying9
 go_wp2_with fail
 go_ret
 exact ⟨rfl, BB.o⟩
end
end Go.Proofs.YtckabmlilbkmbaaGreat
