/- Contracts of the program and of the document (GSpn, GPre, GCat), each used further on. -/
import Derived.Test.YtckabmlilbkmbaaB1
import Derived.Test.YtckabmlilbkmbaaC1
import Derived.Test.YtckabmlilbkmbaaC3
import Derived.Test.YtckabmlilbkmbaaD0
namespace Go.Proofs.Ytckabmlilbkmbaa
open Go.RowKit Go.Maps Spans Op
/-- Rows lie beside the maps. -/
theorem RdK.kept {α : Type} {L : Lay α} {w w' : World} {A : Option Addr} {es : List α} {b m : Nat} {D : DataW Rw} (h : RdK L w A es) (ho : OwnM w b m D) (hg : w.grownBy w' (some b)) : RdK L w' A es := by
  rcases h with h | ⟨g, off, rfl, hgl, hc⟩
  · exact .inl h
  · by_cases e : g = b
    · subst e
      obtain ⟨es', clock, hb, _⟩ := ho
      cases es with
      | nil => exact .inl rfl
      | cons x xs =>
        exfalso
        have hlen := L.len x
        have hpos := L.pos
        have h0 : (L.enc x)[0]? = some ((L.enc x)[0]'(by omega)) := List.getElem?_eq_getElem (by omega)
        have := hc 0 (by simp) 0 _ h0
        simp [World.cell?, hb] at this
    · refine .inr ⟨g, off, rfl, Nat.lt_of_lt_of_le hgl hg.size, fun i hi j v hv => ?_⟩
      exact hg.cell (hc i hi j v hv) (fun k => e (Option.some.inj k))
theorem Spm.kept {w w' : World} {D D' : DataW Rw} {f : List Pr} {S : List UInt8 → Sp} {b m : Nat} (h : Spm w D f S) (ho : OwnM w b m D') (hg : w.grownBy w' (some b)) : Spm w' D f S :=
  ⟨h.map, h.has, fun n hn => by
    obtain ⟨h1, h2, A, c, h3, h4, h5⟩ := h.all n hn
    exact ⟨h1, h2, A, c, h3, h4, RdK.kept h5 ho hg⟩⟩
theorem grown7 (b : Nat) (w : World) (u0 u1 u2 u3 u4 u5 u6 : Value) : w.grownBy (((((((w.setCell ⟨b, 0, none⟩ u0).setCell ⟨b, 1, none⟩ u1).setCell ⟨b, 2, none⟩ u2).setCell ⟨b, 3, none⟩ u3).setCell ⟨b, 4, none⟩ u4).setCell ⟨b, 5, none⟩ u5).setCell ⟨b, 6, none⟩ u6) (some b) := by
  have h : ∀ (w : World) (i : Nat) (u : Value), w.grownBy (w.setCell ⟨b, i, none⟩ u) (some b) := fun w i u => (Touch.refl b w).set_ i u
  exact ((((((h _ _ _).trans (h _ _ _)).trans (h _ _ _)).trans (h _ _ _)).trans (h _ _ _)).trans (h _ _ _)).trans (h _ _ _)
/-- What spansOf tells. -/
def Spanned (w : World) (f : List Pr) (e : Ending) (w' : World) : Prop := ∃ b S, e = .returned (.map (some b)) ∧ SpMap w' b f S ∧ w.heap.size ≤ b ∧ Below w.heap.size w w'
set_option maxRecDepth 100000 in
set_option maxHeartbeats 4000000 in
theorem spansOf_at (A : Option Addr) (f : List Pr) (n c : Nat) (hn : f.length = n) (hm : n ≤ 100) (hl : ∀ p ∈ f, p.n.length ≤ 100 ∧ p.t.length ≤ 100 ∧ -9223372036854775808 ≤ p.i ∧ p.i ≤ 9223372036854775807) (w : World) (hr : RdQ w A f) :
    Calls Try.prog 29 #[.slice A n c] w (Spanned w f) := by
  have HN := Lib.hid hn
  have HLL := Lib.hid hl
  have HR := Lib.hid hr
  clear hn hl hr
  have hmm : ∀ (m : Nat) (W : World), (Instr.makeMap 53 (some (.int .i64 (m : Int)))).run Try.prog W = .ok (.map (some W.heap.size)) (W.alloc (.map #[] 0)) := fun m W => by
    simp [Instr.makeMap, run_underlying Try.underlying53, asInt, asIntOf]
  have hown0 : Hid (OwnM (w.alloc (.map #[] 0)) w.heap.size 0 (.map [])) := World.ownsMap_made (H := Rw) w Try.prog 9 elemR
  have hb0 : Hid (Below w.heap.size w (w.alloc (.map #[] 0))) := (Below.refl _ _).alloc (Nat.le_refl _) _
  have hs0 : Hid (Spm (w.alloc (.map #[] 0)) (.map []) (f.take 0) (fun _ => none_)) := ⟨isMap_empty, fun n => by simp [Maps.has, Fil.Asked], fun n ⟨p, hp, _⟩ => by simp at hp⟩
  go_enter Try.func29, Try.ntmps29
  go_wp2_with fail
  clear hmm
  go_loopg [13] n (fun gg s13 wr => ∃ (k : Nat) (D : DataW Rw) (S : List UInt8 → Sp), k ≤ n ∧ n - k ≤ gg ∧ s13 = .int .i64 (k : Int) ∧ Hid (OwnM wr w.heap.size k D) ∧ Hid (Spm wr D (f.take k) S) ∧ Hid (Below w.heap.size w wr))
  case atStart => exact ⟨0, _, _, Nat.zero_le _, by omega, rfl, hown0, hs0, hb0⟩
  case round =>
    obtain ⟨k, D, S, hk, hgg, rfl, HO, HS, HB⟩ := hrel
    clear hown0 hb0 hs0
    by_cases hlt : k < n
    · have hk' : k < f.length := by rw [HN.out]; exact hlt
      have hpl := HLL.out _ (List.getElem_mem hk')
      obtain ⟨g, off, rfl, hg, c0, c1, c2, c3, c4⟩ := RdQ.at5 (RdK.below HR.out HB.out) hk'
      obtain ⟨x, hx⟩ : ∃ x, f[k] = x := ⟨_, rfl⟩
      have HX := Lib.hid hx
      rw [hx] at c0 c1 c2 c3 c4 hpl
      clear hx HLL
      obtain ⟨xn, xo, xk, xi, xt⟩ := x
      obtain ⟨hp1, hp2, hp3, hp4⟩ := hpl
      dsimp only at hp1 hp2 hp3 hp4 c0 c1 c2 c3 c4
      have w5 : (k : Int) < (n : Int) := by omega
      have hP0 := Blk.new wr 47 #[.string ⟨xn.toArray⟩, .int .i64 xo, .int .i64 xk, .int .i64 xi, .string ⟨xt.toArray⟩]
      have hPl : w.heap.size < wr.heap.size := World.ownsMap.lt HO.out
      have hO1 := World.ownsMap.alloc HO.out (.cells #[.string ⟨xn.toArray⟩, .int .i64 xo, .int .i64 xk, .int .i64 xi, .string ⟨xt.toArray⟩] 47)
      by_cases hask : Fil.Asked (f.take k) xn
      · obtain ⟨ha1, ha2, B, d, ha3, ha4, ha5⟩ := HS.out.all xn hask
        obtain ⟨a, hSa⟩ : ∃ a, S xn = a := ⟨_, rfl⟩
        rw [hSa] at ha1 ha2 ha3 ha4 ha5
        clear hSa hask
        obtain ⟨K, lo, hi, g1, t1, o1, es⟩ := a
        dsimp only [rw_] at ha2 ha3 ha4 ha5
        obtain ⟨m, hml⟩ : ∃ m, es.length = m := ⟨_, rfl⟩
        rw [hml] at ha2 ha3 ha4
        have hmk : m ≤ k := by rw [List.length_take] at ha2; omega
        have hlook : (Instr.lookup 53 (.map (some w.heap.size)) (.string ⟨xn.toArray⟩) true).run Try.prog (wr.alloc (.cells #[.string ⟨xn.toArray⟩, .int .i64 xo, .int .i64 xk, .int .i64 xi, .string ⟨xt.toArray⟩] 47)) = .ok (.tuple #[.agg #[.int .i64 K, .int .i64 lo, .int .i64 hi, .string ⟨g1.toArray⟩, .string ⟨t1.toArray⟩, .bool o1, .slice B m d], .bool true]) (wr.alloc (.cells #[.string ⟨xn.toArray⟩, .int .i64 xo, .int .i64 xk, .int .i64 xi, .string ⟨xt.toArray⟩] 47)) := (look_yes hO1 (by omega) ha3).1
        have hV : Blk ((wr.alloc (.cells #[.string ⟨xn.toArray⟩, .int .i64 xo, .int .i64 xk, .int .i64 xi, .string ⟨xt.toArray⟩] 47)).alloc (.cells #[.int .i64 K, .int .i64 lo, .int .i64 hi, .string ⟨g1.toArray⟩, .string ⟨t1.toArray⟩, .bool o1, .slice B m d] 58)) (wr.heap.size + 1) 58 #[.int .i64 K, .int .i64 lo, .int .i64 hi, .string ⟨g1.toArray⟩, .string ⟨t1.toArray⟩, .bool o1, .slice B m d] := by
          have := Blk.new (wr.alloc (.cells #[.string ⟨xn.toArray⟩, .int .i64 xo, .int .i64 xk, .int .i64 xi, .string ⟨xt.toArray⟩] 47)) 58 #[.int .i64 K, .int .i64 lo, .int .i64 hi, .string ⟨g1.toArray⟩, .string ⟨t1.toArray⟩, .bool o1, .slice B m d]
          rwa [show (wr.alloc (.cells #[.string ⟨xn.toArray⟩, .int .i64 xo, .int .i64 xk, .int .i64 xi, .string ⟨xt.toArray⟩] 47)).heap.size = wr.heap.size + 1 by simp] at this
        have hP := Blk.alloc hP0 (.cells #[.int .i64 K, .int .i64 lo, .int .i64 hi, .string ⟨g1.toArray⟩, .string ⟨t1.toArray⟩, .bool o1, .slice B m d] 58)
        have HBW := Lib.hid ((HB.out.alloc (by have := HB.out.size; omega) (.cells #[.string ⟨xn.toArray⟩, .int .i64 xo, .int .i64 xk, .int .i64 xi, .string ⟨xt.toArray⟩] 47)).alloc (by have := HB.out.size; simp; omega) (.cells #[.int .i64 K, .int .i64 lo, .int .i64 hi, .string ⟨g1.toArray⟩, .string ⟨t1.toArray⟩, .bool o1, .slice B m d] 58))
        have HOW : Hid (OwnM _ _ _ _) := Lib.hid (World.ownsMap.alloc hO1 (.cells #[.int .i64 K, .int .i64 lo, .int .i64 hi, .string ⟨g1.toArray⟩, .string ⟨t1.toArray⟩, .bool o1, .slice B m d] 58))
        have hbl : Below wr.heap.size wr ((wr.alloc (.cells #[.string ⟨xn.toArray⟩, .int .i64 xo, .int .i64 xk, .int .i64 xi, .string ⟨xt.toArray⟩] 47)).alloc (.cells #[.int .i64 K, .int .i64 lo, .int .i64 hi, .string ⟨g1.toArray⟩, .string ⟨t1.toArray⟩, .bool o1, .slice B m d] 58)) := ((Below.refl _ _).alloc (Nat.le_refl _) _).alloc (by simp) _
        have HSW := Lib.hid (HS.out.below hbl)
        have hrB := RdK.below ha5 hbl
        have HI := Lib.hid ha1
        clear ha1 ha2 ha3 ha4 ha5 hbl hO1 hP0 HO HS HB
        go_wp2_with fail
        clear hlook c0 c1 c2 c3 c4 hg
        generalize (wr.alloc (.cells #[.string ⟨xn.toArray⟩, .int .i64 xo, .int .i64 xk, .int .i64 xi, .string ⟨xt.toArray⟩] 47)).alloc (.cells #[.int .i64 K, .int .i64 lo, .int .i64 hi, .string ⟨g1.toArray⟩, .string ⟨t1.toArray⟩, .bool o1, .slice B m d] 58) = W at *
        generalize wr.heap.size = P at *
        have hS0 : Blk W.drew P 47 #[.string ⟨xn.toArray⟩, .int .i64 xo, .int .i64 xk, .int .i64 xi, .string ⟨xt.toArray⟩] ∧ Blk W.drew (P + 1) 58 #[.int .i64 K, .int .i64 lo, .int .i64 hi, .string ⟨g1.toArray⟩, .string ⟨t1.toArray⟩, .bool o1, .slice B m d] := ⟨hP, hV⟩
        refine wp_region_held_drew (S := fun w' => Blk w' P 47 #[.string ⟨xn.toArray⟩, .int .i64 xo, .int .i64 xk, .int .i64 xi, .string ⟨xt.toArray⟩] ∧ Blk w' (P + 1) 58 #[.int .i64 K, .int .i64 lo, .int .i64 hi, .string ⟨g1.toArray⟩, .string ⟨t1.toArray⟩, .bool o1, .slice B m d]) (by kernel_rfl) hS0 (fun _ => ?_)
        refine wpAnyH_yes (i := 0) (d := 27) (v := ?_) rfl rfl (by kernel_rfl) (by kernel_rfl) (by kernel_rfl) (fun _ _ _ h => h) (by rfl) ?_ hS0 ?_
        rotate_left
        · intro w' hSw; obtain ⟨q0, q1, q2, q3, q4, _⟩ := blk5 hSw.1; obtain ⟨s0, s1, s2, s3, s4, s5, s6, _⟩ := blk7 hSw.2; go_simp <;> with_reducible rfl
        simp only [Act.put, List.setIfInBounds_toArray, List.set_cons_zero, List.set_cons_succ]
        refine wpAnyH_yes (i := 1) (d := 28) (v := ?_) rfl rfl (by kernel_rfl) (by kernel_rfl) (by kernel_rfl) (fun _ _ _ h => h) (by rfl) ?_ hS0 ?_
        rotate_left
        · intro w' hSw; obtain ⟨q0, q1, q2, q3, q4, _⟩ := blk5 hSw.1; obtain ⟨s0, s1, s2, s3, s4, s5, s6, _⟩ := blk7 hSw.2; go_simp <;> with_reducible rfl
        simp only [Act.put, List.setIfInBounds_toArray, List.set_cons_zero, List.set_cons_succ]
        refine wpAnyH_yes (i := 2) (d := 29) (v := ?_) rfl rfl (by kernel_rfl) (by kernel_rfl) (by kernel_rfl) (fun _ _ _ h => h) (by rfl) ?_ hS0 ?_
        rotate_left
        · intro w' hSw; obtain ⟨q0, q1, q2, q3, q4, _⟩ := blk5 hSw.1; obtain ⟨s0, s1, s2, s3, s4, s5, s6, _⟩ := blk7 hSw.2; go_simp <;> with_reducible rfl
        simp only [Act.put, List.setIfInBounds_toArray, List.set_cons_zero, List.set_cons_succ]
        refine wpAnyH_yes (i := 3) (d := 30) (v := ?_) rfl rfl (by kernel_rfl) (by kernel_rfl) (by kernel_rfl) (fun _ _ _ h => h) (by rfl) ?_ hS0 ?_
        rotate_left
        · intro w' hSw; obtain ⟨q0, q1, q2, q3, q4, _⟩ := blk5 hSw.1; obtain ⟨s0, s1, s2, s3, s4, s5, s6, _⟩ := blk7 hSw.2; go_simp <;> with_reducible rfl
        simp only [Act.put, List.setIfInBounds_toArray, List.set_cons_zero, List.set_cons_succ]
        refine wpAnyH_yes (i := 4) (d := 31) (v := ?_) rfl rfl (by kernel_rfl) (by kernel_rfl) (by kernel_rfl) (fun _ _ _ h => h) (by rfl) ?_ hS0 ?_
        rotate_left
        · intro w' hSw; obtain ⟨q0, q1, q2, q3, q4, _⟩ := blk5 hSw.1; obtain ⟨s0, s1, s2, s3, s4, s5, s6, _⟩ := blk7 hSw.2; go_simp <;> with_reducible rfl
        simp only [Act.put, List.setIfInBounds_toArray, List.set_cons_zero, List.set_cons_succ]
        have hB3 := HBW.out.drew
        have hM3 : OwnM W.drew w.heap.size k D := HOW.out
        have hSp3 : Spm W.drew D (f.take k) S := HSW.out.below (Below.refl _ _).drew
        have hr3 : RdW W.drew B es := RdK.below hrB (Below.refl _ _).drew
        clear HBW HOW HSW hrB hP hV
        generalize W.drew = w4 at *
        refine wpAnyH_one (i := 5) (by kernel_rfl) rfl (by rfl) (fun Ka hKa => ?_)
        go_simp
        with_reducible refine (of_at ⟨xn, xo, xk, xi, xt⟩ w4 (by show xn.length ≤ _; omega) (by show xt.length ≤ _; omega) hp3 hp4).mono ?_
        rintro e w5 ⟨⟨uK, ulo, uhi, uf, ut, uo, uno⟩, hof, hul, A5, n5, c5, rfl, hl5, hc5, ho5, hb5⟩
        dsimp only at hul hl5 ho5
        have hS1 : Blk w5 P 47 #[.string ⟨xn.toArray⟩, .int .i64 xo, .int .i64 xk, .int .i64 xi, .string ⟨xt.toArray⟩] ∧ Blk w5 (P + 1) 58 #[.int .i64 K, .int .i64 lo, .int .i64 hi, .string ⟨g1.toArray⟩, .string ⟨t1.toArray⟩, .bool o1, .slice B m d] := ⟨Blk.below hS0.1 hb5 hS0.1.lt, Blk.below hS0.2 hb5 hS0.2.lt⟩
        have hB5 := below_next hB3 (by have := hB3.size; omega) hb5
        have hM5 := OwnM.below hM3 hb5
        have hSp5 := hSp3.below hb5
        have hr5 := RdK.below hr3 hb5
        go_wp2_with fail
        refine hKa.out _ _ hS1 ?_
        clear hKa Ka hB3 hM3 hSp3 hr3 hb5 hS0
        refine wpAnyH_one (i := 6) (by kernel_rfl) rfl (by rfl) (fun Ka hKa => ?_)
        go_simp
        have hcA : Canon ⟨K, lo, hi, g1, t1, o1, es⟩ := HI.out.1
        have hcB : Canon ⟨uK, ulo, uhi, uf, ut, uo, uno⟩ := hof.1
        have hrB := Gives.rd ho5
        with_reducible refine (meet_at ⟨K, lo, hi, g1, t1, o1, es⟩ ⟨uK, ulo, uhi, uf, ut, uo, uno⟩ hcA hcB B m d A5 n5 c5 w5 hml (by omega) hl5 (by omega) hr5 hrB).mono ?_
        rintro e w6 ⟨⟨rK, rlo, rhi, rf, rt, ro, rno⟩, him, hrl, A7, n7, c7, rfl, hl7, hc7, ho7, hb7⟩
        dsimp only at hrl hl7 ho7
        have hS2 : Blk w6 P 47 #[.string ⟨xn.toArray⟩, .int .i64 xo, .int .i64 xk, .int .i64 xi, .string ⟨xt.toArray⟩] ∧ Blk w6 (P + 1) 58 #[.int .i64 K, .int .i64 lo, .int .i64 hi, .string ⟨g1.toArray⟩, .string ⟨t1.toArray⟩, .bool o1, .slice B m d] := ⟨Blk.below hS1.1 hb7 hS1.1.lt, Blk.below hS1.2 hb7 hS1.2.lt⟩
        have hB6 := below_next hB5 (by have := hB5.size; omega) hb7
        have hM6 := OwnM.below hM5 hb7
        have hSp6 := hSp5.below hb7
        have hr7 := Gives.rd ho7
        have HA7 : Hid (IsAll (Fil.of (f.take k) xn ++ [⟨xn, xo, xk, xi, xt⟩]) ⟨rK, rlo, rhi, rf, rt, ro, rno⟩) := all_snoc HI.out hof him
        go_wp2_with fail
        refine hKa.out _ _ hS2 ?_
        clear hKa Ka hB5 hM5 hSp5 hr5 hS1 hrB hb7 ho7 ho5 hof him hcA hcB
        refine wpAnyH_one (i := 7) (by kernel_rfl) rfl (by rfl) (fun Ka hKa => ?_)
        obtain ⟨w7, hrun7, hM7, hg7⟩ := World.ownsMap.update hM6 lawS Try.underlying53 (show k < maxLen by rw [maxLen_num]; omega) (keyN (n := xn) (by omega)) (elemR_mk ⟨rK, rlo, rhi, rf, rt, ro, A7, n7, c7⟩)
        have hrun8 : (Instr.mapUpdate 53 (.map (some w.heap.size)) (.string ⟨xn.toArray⟩) (.agg #[.int .i64 rK, .int .i64 rlo, .int .i64 rhi, .string ⟨rf.toArray⟩, .string ⟨rt.toArray⟩, .bool ro, .slice A7 n7 c7])).run Try.prog w6 = .ok () w7 := hrun7
        have hne1 : P ≠ w.heap.size := by omega
        have hne2 : P + 1 ≠ w.heap.size := by omega
        have hS3 : Blk w7 P 47 #[.string ⟨xn.toArray⟩, .int .i64 xo, .int .i64 xk, .int .i64 xi, .string ⟨xt.toArray⟩] ∧ Blk w7 (P + 1) 58 #[.int .i64 K, .int .i64 lo, .int .i64 hi, .string ⟨g1.toArray⟩, .string ⟨t1.toArray⟩, .bool o1, .slice B m d] := ⟨(hg7.block _ hS2.1.lt (fun e => hne1 (Option.some.inj e))).trans hS2.1, (hg7.block _ hS2.2.lt (fun e => hne2 (Option.some.inj e))).trans hS2.2⟩
        have HB7 : Hid (Below w.heap.size w w7) := hB6.grown hg7 hB6.size (fun j hj => by cases hj; exact Nat.le_refl _)
        have HSp7 : Hid (Spm w7 (D.put (.string xn) (.held ⟨rK, rlo, rhi, rf, rt, ro, A7, n7, c7⟩)) (f.take (k + 1)) (fun n => if n = xn then ⟨rK, rlo, rhi, rf, rt, ro, rno⟩ else S n)) := by
          show Spm _ _ _ _
          rw [List.take_succ_eq_append_getElem hk', HX.out]
          have hlen : (f.take k).length = k := by rw [List.length_take, HN.out]; omega
          have := Spm.snoc (p := ⟨xn, xo, xk, xi, xt⟩) (A := A7) (c := c7) (hSp6.kept hM6 hg7) HA7.out (by show rno.length ≤ _; rw [hlen]; omega) (by show rno.length ≤ c7; omega) (RdK.kept hr7 hM6 hg7)
          unfold rw_ at this
          dsimp only at this
          rw [hl7] at this
          exact this
        have HM7 := Lib.hid hM7
        clear hM7 hM6 hSp6 hr7 hB6 hrun7 hg7
        go_simp
        refine hKa.out _ _ hS3 ?_
        clear hKa Ka hS2 hS3 hrun8 HA7
        refine wpAnyH_done (by kernel_rfl) ?_ _
        clear HI HX HR hml hrl hul hl5 hl7
        go_wp2_with fail
        go_roundg (n - (k + 1))
        case measure => omega
        case rel => exact ⟨k + 1, _, _, by omega, Nat.le_refl _, by go_num, HM7, HSp7, HB7⟩
      · have hno : Maps.has D (.string xn) = false := by
          cases h : Maps.has D (.string xn) with
          | false => rfl
          | true => exact absurd ((HS.out.has xn).1 h) hask
        have hlook : (Instr.lookup 53 (.map (some w.heap.size)) (.string ⟨xn.toArray⟩) true).run Try.prog (wr.alloc (.cells #[.string ⟨xn.toArray⟩, .int .i64 xo, .int .i64 xk, .int .i64 xi, .string ⟨xt.toArray⟩] 47)) = .ok (.tuple #[.agg #[.int .i64 0, .int .i64 0, .int .i64 0, .string ⟨#[]⟩, .string ⟨#[]⟩, .bool false, .slice none 0 0], .bool false]) (wr.alloc (.cells #[.string ⟨xn.toArray⟩, .int .i64 xo, .int .i64 xk, .int .i64 xi, .string ⟨xt.toArray⟩] 47)) := look_no hO1 (by omega) hno
        have hV0 : Blk ((wr.alloc (.cells #[.string ⟨xn.toArray⟩, .int .i64 xo, .int .i64 xk, .int .i64 xi, .string ⟨xt.toArray⟩] 47)).alloc (.cells #[.int .i64 0, .int .i64 0, .int .i64 0, .string ⟨#[]⟩, .string ⟨#[]⟩, .bool false, .slice none 0 0] 58)) (wr.heap.size + 1) 58 #[.int .i64 0, .int .i64 0, .int .i64 0, .string ⟨#[]⟩, .string ⟨#[]⟩, .bool false, .slice none 0 0] := by
          have := Blk.new (wr.alloc (.cells #[.string ⟨xn.toArray⟩, .int .i64 xo, .int .i64 xk, .int .i64 xi, .string ⟨xt.toArray⟩] 47)) 58 #[.int .i64 0, .int .i64 0, .int .i64 0, .string ⟨#[]⟩, .string ⟨#[]⟩, .bool false, .slice none 0 0]
          rwa [show (wr.alloc (.cells #[.string ⟨xn.toArray⟩, .int .i64 xo, .int .i64 xk, .int .i64 xi, .string ⟨xt.toArray⟩] 47)).heap.size = wr.heap.size + 1 by simp] at this
        have hP := Blk.alloc hP0 (.cells #[.int .i64 0, .int .i64 0, .int .i64 0, .string ⟨#[]⟩, .string ⟨#[]⟩, .bool false, .slice none 0 0] 58)
        have HBW := (HB.out.alloc (by have := HB.out.size; omega) (.cells #[.string ⟨xn.toArray⟩, .int .i64 xo, .int .i64 xk, .int .i64 xi, .string ⟨xt.toArray⟩] 47)).alloc (by have := HB.out.size; simp; omega) (.cells #[.int .i64 0, .int .i64 0, .int .i64 0, .string ⟨#[]⟩, .string ⟨#[]⟩, .bool false, .slice none 0 0] 58)
        have HOW := World.ownsMap.alloc hO1 (.cells #[.int .i64 0, .int .i64 0, .int .i64 0, .string ⟨#[]⟩, .string ⟨#[]⟩, .bool false, .slice none 0 0] 58)
        have hbl : Below wr.heap.size wr ((wr.alloc (.cells #[.string ⟨xn.toArray⟩, .int .i64 xo, .int .i64 xk, .int .i64 xi, .string ⟨xt.toArray⟩] 47)).alloc (.cells #[.int .i64 0, .int .i64 0, .int .i64 0, .string ⟨#[]⟩, .string ⟨#[]⟩, .bool false, .slice none 0 0] 58)) := ((Below.refl _ _).alloc (Nat.le_refl _) _).alloc (by simp) _
        have HSK : Hid (∀ w', Below wr.heap.size wr w' → Spm w' D (f.take k) S) := fun w' h => HS.out.below h
        have HBL := Lib.hid hbl
        have HI : Hid (IsAll (Fil.of (f.take k) xn) ⟨4, 0, 0, [], [], false, []⟩) := by
          show IsAll _ _
          rw [of_none hask]
          exact all_nil
        clear hbl hO1 hP0 HO HS HB hno hask
        have HP := Lib.hid hP
        have HV0 := Lib.hid hV0
        have HBW0 := Lib.hid HBW
        have HOW0 : Hid (OwnM _ _ _ _) := Lib.hid HOW
        clear hP hV0 HBW HOW
        go_wp2_with fail
        clear hlook c0 c1 c2 c3 c4 hg
        generalize (wr.alloc (.cells #[.string ⟨xn.toArray⟩, .int .i64 xo, .int .i64 xk, .int .i64 xi, .string ⟨xt.toArray⟩] 47)).alloc (.cells #[.int .i64 0, .int .i64 0, .int .i64 0, .string ⟨#[]⟩, .string ⟨#[]⟩, .bool false, .slice none 0 0] 58) = W0 at *
        generalize wr.heap.size = P at *
        refine (all_at W0).mono ?_
        rintro e W1 ⟨rfl, hg1⟩
        have hV1 := Blk.below HV0.out hg1.below HV0.out.lt
        have hP1 := Blk.below HP.out hg1.below HP.out.lt
        obtain ⟨z0, z1, z2, z3, z4, z5, z6, y0, y1, y2, y3, y4, y5, y6⟩ := blk7 hV1
        have hlV := hV1.lt
        have hV := Blk.put7 hV1 (.int .i64 4) (.int .i64 0) (.int .i64 0) (.string ⟨#[]⟩) (.string ⟨#[]⟩) (.bool false) (.slice none 0 0)
        have hP := Blk.far7 hP1 (b := P + 1) (by omega) (.int .i64 4) (.int .i64 0) (.int .i64 0) (.string ⟨#[]⟩) (.string ⟨#[]⟩) (.bool false) (.slice none 0 0)
        have hBW1 := below_next HBW0.out (by have := HBW0.out.size; omega) hg1.below
        have HBW := Lib.hid (below_put7 hBW1 (show w.heap.size ≤ P + 1 by omega) (.int .i64 4) (.int .i64 0) (.int .i64 0) (.string ⟨#[]⟩) (.string ⟨#[]⟩) (.bool false) (.slice none 0 0))
        have hgt := grown7 (P + 1) W1 (.int .i64 4) (.int .i64 0) (.int .i64 0) (.string ⟨#[]⟩) (.string ⟨#[]⟩) (.bool false) (.slice none 0 0)
        have HOW : Hid (OwnM _ _ _ _) := Lib.hid (World.ownsMap.kept (OwnM.below HOW0.out hg1.below) hgt (fun e => by have := Option.some.inj e; omega))
        have hbl1 := HBL.out.trans (hg1.below.mono (by have := HV0.out.lt; omega))
        have HSW := Lib.hid (HSK.out _ (below_put7 hbl1 (show P ≤ P + 1 by omega) (.int .i64 4) (.int .i64 0) (.int .i64 0) (.string ⟨#[]⟩) (.string ⟨#[]⟩) (.bool false) (.slice none 0 0)))
        clear hBW1 hgt hP1 HP HV0 HBW0 HOW0 HSK HBL hbl1 hg1
        go_wp2_with fail
        clear z0 z1 z2 z3 z4 z5 z6 y0 y1 y2 y3 y4 y5 y6 hlV hV1
        generalize (((((((W1.setCell ⟨P + 1, 0, none⟩ (.int .i64 4)).setCell ⟨P + 1, 1, none⟩ (.int .i64 0)).setCell ⟨P + 1, 2, none⟩ (.int .i64 0)).setCell ⟨P + 1, 3, none⟩ (.string ⟨#[]⟩)).setCell ⟨P + 1, 4, none⟩ (.string ⟨#[]⟩)).setCell ⟨P + 1, 5, none⟩ (.bool false)).setCell ⟨P + 1, 6, none⟩ (.slice none 0 0)) = W at *
        have hrB : RdW W none [] := .inl rfl
        have hml : ([] : List Val).length = 0 := rfl
        have hmk : 0 ≤ k := Nat.zero_le _
        have hS0 : Blk W.drew P 47 #[.string ⟨xn.toArray⟩, .int .i64 xo, .int .i64 xk, .int .i64 xi, .string ⟨xt.toArray⟩] ∧ Blk W.drew (P + 1) 58 #[.int .i64 4, .int .i64 0, .int .i64 0, .string ⟨#[]⟩, .string ⟨#[]⟩, .bool false, .slice none 0 0] := ⟨hP, hV⟩
        refine wp_region_held_drew (S := fun w' => Blk w' P 47 #[.string ⟨xn.toArray⟩, .int .i64 xo, .int .i64 xk, .int .i64 xi, .string ⟨xt.toArray⟩] ∧ Blk w' (P + 1) 58 #[.int .i64 4, .int .i64 0, .int .i64 0, .string ⟨#[]⟩, .string ⟨#[]⟩, .bool false, .slice none 0 0]) (by kernel_rfl) hS0 (fun _ => ?_)
        refine wpAnyH_yes (i := 0) (d := 27) (v := ?_) rfl rfl (by kernel_rfl) (by kernel_rfl) (by kernel_rfl) (fun _ _ _ h => h) (by rfl) ?_ hS0 ?_
        rotate_left
        · intro w' hSw; obtain ⟨q0, q1, q2, q3, q4, _⟩ := blk5 hSw.1; obtain ⟨s0, s1, s2, s3, s4, s5, s6, _⟩ := blk7 hSw.2; go_simp <;> with_reducible rfl
        simp only [Act.put, List.setIfInBounds_toArray, List.set_cons_zero, List.set_cons_succ]
        refine wpAnyH_yes (i := 1) (d := 28) (v := ?_) rfl rfl (by kernel_rfl) (by kernel_rfl) (by kernel_rfl) (fun _ _ _ h => h) (by rfl) ?_ hS0 ?_
        rotate_left
        · intro w' hSw; obtain ⟨q0, q1, q2, q3, q4, _⟩ := blk5 hSw.1; obtain ⟨s0, s1, s2, s3, s4, s5, s6, _⟩ := blk7 hSw.2; go_simp <;> with_reducible rfl
        simp only [Act.put, List.setIfInBounds_toArray, List.set_cons_zero, List.set_cons_succ]
        refine wpAnyH_yes (i := 2) (d := 29) (v := ?_) rfl rfl (by kernel_rfl) (by kernel_rfl) (by kernel_rfl) (fun _ _ _ h => h) (by rfl) ?_ hS0 ?_
        rotate_left
        · intro w' hSw; obtain ⟨q0, q1, q2, q3, q4, _⟩ := blk5 hSw.1; obtain ⟨s0, s1, s2, s3, s4, s5, s6, _⟩ := blk7 hSw.2; go_simp <;> with_reducible rfl
        simp only [Act.put, List.setIfInBounds_toArray, List.set_cons_zero, List.set_cons_succ]
        refine wpAnyH_yes (i := 3) (d := 30) (v := ?_) rfl rfl (by kernel_rfl) (by kernel_rfl) (by kernel_rfl) (fun _ _ _ h => h) (by rfl) ?_ hS0 ?_
        rotate_left
        · intro w' hSw; obtain ⟨q0, q1, q2, q3, q4, _⟩ := blk5 hSw.1; obtain ⟨s0, s1, s2, s3, s4, s5, s6, _⟩ := blk7 hSw.2; go_simp <;> with_reducible rfl
        simp only [Act.put, List.setIfInBounds_toArray, List.set_cons_zero, List.set_cons_succ]
        refine wpAnyH_yes (i := 4) (d := 31) (v := ?_) rfl rfl (by kernel_rfl) (by kernel_rfl) (by kernel_rfl) (fun _ _ _ h => h) (by rfl) ?_ hS0 ?_
        rotate_left
        · intro w' hSw; obtain ⟨q0, q1, q2, q3, q4, _⟩ := blk5 hSw.1; obtain ⟨s0, s1, s2, s3, s4, s5, s6, _⟩ := blk7 hSw.2; go_simp <;> with_reducible rfl
        simp only [Act.put, List.setIfInBounds_toArray, List.set_cons_zero, List.set_cons_succ]
        have hB3 := HBW.out.drew
        have hM3 : OwnM W.drew w.heap.size k D := HOW.out
        have hSp3 : Spm W.drew D (f.take k) S := HSW.out.below (Below.refl _ _).drew
        have hr3 : RdW W.drew none [] := RdK.below hrB (Below.refl _ _).drew
        clear HBW HOW HSW hrB hP hV
        generalize W.drew = w4 at *
        refine wpAnyH_one (i := 5) (by kernel_rfl) rfl (by rfl) (fun Ka hKa => ?_)
        go_simp
        with_reducible refine (of_at ⟨xn, xo, xk, xi, xt⟩ w4 (by show xn.length ≤ _; omega) (by show xt.length ≤ _; omega) hp3 hp4).mono ?_
        rintro e w5 ⟨⟨uK, ulo, uhi, uf, ut, uo, uno⟩, hof, hul, A5, n5, c5, rfl, hl5, hc5, ho5, hb5⟩
        dsimp only at hul hl5 ho5
        have hS1 : Blk w5 P 47 #[.string ⟨xn.toArray⟩, .int .i64 xo, .int .i64 xk, .int .i64 xi, .string ⟨xt.toArray⟩] ∧ Blk w5 (P + 1) 58 #[.int .i64 4, .int .i64 0, .int .i64 0, .string ⟨#[]⟩, .string ⟨#[]⟩, .bool false, .slice none 0 0] := ⟨Blk.below hS0.1 hb5 hS0.1.lt, Blk.below hS0.2 hb5 hS0.2.lt⟩
        have hB5 := below_next hB3 (by have := hB3.size; omega) hb5
        have hM5 := OwnM.below hM3 hb5
        have hSp5 := hSp3.below hb5
        have hr5 := RdK.below hr3 hb5
        go_wp2_with fail
        refine hKa.out _ _ hS1 ?_
        clear hKa Ka hB3 hM3 hSp3 hr3 hb5 hS0
        refine wpAnyH_one (i := 6) (by kernel_rfl) rfl (by rfl) (fun Ka hKa => ?_)
        go_simp
        have hcA : Canon ⟨4, 0, 0, [], [], false, []⟩ := HI.out.1
        have hcB : Canon ⟨uK, ulo, uhi, uf, ut, uo, uno⟩ := hof.1
        have hrB := Gives.rd ho5
        with_reducible refine (meet_at ⟨4, 0, 0, [], [], false, []⟩ ⟨uK, ulo, uhi, uf, ut, uo, uno⟩ hcA hcB none 0 0 A5 n5 c5 w5 hml (by omega) hl5 (by omega) hr5 hrB).mono ?_
        rintro e w6 ⟨⟨rK, rlo, rhi, rf, rt, ro, rno⟩, him, hrl, A7, n7, c7, rfl, hl7, hc7, ho7, hb7⟩
        dsimp only at hrl hl7 ho7
        have hS2 : Blk w6 P 47 #[.string ⟨xn.toArray⟩, .int .i64 xo, .int .i64 xk, .int .i64 xi, .string ⟨xt.toArray⟩] ∧ Blk w6 (P + 1) 58 #[.int .i64 4, .int .i64 0, .int .i64 0, .string ⟨#[]⟩, .string ⟨#[]⟩, .bool false, .slice none 0 0] := ⟨Blk.below hS1.1 hb7 hS1.1.lt, Blk.below hS1.2 hb7 hS1.2.lt⟩
        have hB6 := below_next hB5 (by have := hB5.size; omega) hb7
        have hM6 := OwnM.below hM5 hb7
        have hSp6 := hSp5.below hb7
        have hr7 := Gives.rd ho7
        have HA7 : Hid (IsAll (Fil.of (f.take k) xn ++ [⟨xn, xo, xk, xi, xt⟩]) ⟨rK, rlo, rhi, rf, rt, ro, rno⟩) := all_snoc HI.out hof him
        go_wp2_with fail
        refine hKa.out _ _ hS2 ?_
        clear hKa Ka hB5 hM5 hSp5 hr5 hS1 hrB hb7 ho7 ho5 hof him hcA hcB
        refine wpAnyH_one (i := 7) (by kernel_rfl) rfl (by rfl) (fun Ka hKa => ?_)
        obtain ⟨w7, hrun7, hM7, hg7⟩ := World.ownsMap.update hM6 lawS Try.underlying53 (show k < maxLen by rw [maxLen_num]; omega) (keyN (n := xn) (by omega)) (elemR_mk ⟨rK, rlo, rhi, rf, rt, ro, A7, n7, c7⟩)
        have hrun8 : (Instr.mapUpdate 53 (.map (some w.heap.size)) (.string ⟨xn.toArray⟩) (.agg #[.int .i64 rK, .int .i64 rlo, .int .i64 rhi, .string ⟨rf.toArray⟩, .string ⟨rt.toArray⟩, .bool ro, .slice A7 n7 c7])).run Try.prog w6 = .ok () w7 := hrun7
        have hne1 : P ≠ w.heap.size := by omega
        have hne2 : P + 1 ≠ w.heap.size := by omega
        have hS3 : Blk w7 P 47 #[.string ⟨xn.toArray⟩, .int .i64 xo, .int .i64 xk, .int .i64 xi, .string ⟨xt.toArray⟩] ∧ Blk w7 (P + 1) 58 #[.int .i64 4, .int .i64 0, .int .i64 0, .string ⟨#[]⟩, .string ⟨#[]⟩, .bool false, .slice none 0 0] := ⟨(hg7.block _ hS2.1.lt (fun e => hne1 (Option.some.inj e))).trans hS2.1, (hg7.block _ hS2.2.lt (fun e => hne2 (Option.some.inj e))).trans hS2.2⟩
        have HB7 : Hid (Below w.heap.size w w7) := hB6.grown hg7 hB6.size (fun j hj => by cases hj; exact Nat.le_refl _)
        have HSp7 : Hid (Spm w7 (D.put (.string xn) (.held ⟨rK, rlo, rhi, rf, rt, ro, A7, n7, c7⟩)) (f.take (k + 1)) (fun n => if n = xn then ⟨rK, rlo, rhi, rf, rt, ro, rno⟩ else S n)) := by
          show Spm _ _ _ _
          rw [List.take_succ_eq_append_getElem hk', HX.out]
          have hlen : (f.take k).length = k := by rw [List.length_take, HN.out]; omega
          have := Spm.snoc (p := ⟨xn, xo, xk, xi, xt⟩) (A := A7) (c := c7) (hSp6.kept hM6 hg7) HA7.out (by show rno.length ≤ _; rw [hlen]; omega) (by show rno.length ≤ c7; omega) (RdK.kept hr7 hM6 hg7)
          unfold rw_ at this
          dsimp only at this
          rw [hl7] at this
          exact this
        have HM7 := Lib.hid hM7
        clear hM7 hM6 hSp6 hr7 hB6 hrun7 hg7
        go_simp
        refine hKa.out _ _ hS3 ?_
        clear hKa Ka hS2 hS3 hrun8 HA7
        refine wpAnyH_done (by kernel_rfl) ?_ _
        clear HI HX HR hml hrl hul hl5 hl7
        go_wp2_with fail
        go_roundg (n - (k + 1))
        case measure => omega
        case rel => exact ⟨k + 1, _, _, by omega, Nat.le_refl _, by go_num, HM7, HSp7, HB7⟩
    · have hkn : Hid (k = n) := by show k = n; omega
      go_wp2_with fail
      go_ret
      have hS := HS.out
      rw [hkn.out, List.take_of_length_le (by rw [HN.out]; exact Nat.le_refl _)] at hS
      exact ⟨w.heap.size, S, rfl, ⟨k, D, HO.out, by rw [HN.out]; exact hk, hS⟩, Nat.le_refl _, HB.out⟩
end Go.Proofs.Ytckabmlilbkmbaa
namespace Go.Proofs.Ytckabmlilbkmbaa
open Go.RowKit Go.Maps Spans Op
/-- A row of texts, in a block from lo on, ahead of hi. -/
def RdS (lo hi : Nat) (w : World) (A : Option Addr) (L : List (List UInt8)) : Prop := hi ≤ w.heap.size ∧ (L = [] ∨ ∃ g, A = some ⟨g, 0, none⟩ ∧ lo ≤ g ∧ g < hi ∧ ∀ i (h : i < L.length), w.cell? ⟨g, i, none⟩ = some (.string ⟨L[i].toArray⟩))
theorem RdS.grown {lo hi : Nat} {w w' : World} {A : Option Addr} {L : List (List UInt8)} {j : Option Nat} (h : RdS lo hi w A L) (hg : w.grownBy w' j) (hj : ∀ i, j = some i → i < lo ∨ hi ≤ i) : RdS lo hi w' A L := by
  refine ⟨Nat.le_trans h.1 hg.size, ?_⟩
  rcases h.2 with h2 | ⟨g, rfl, h2, h3, hc⟩
  · exact .inl h2
  · exact .inr ⟨g, rfl, h2, h3, fun i hi => hg.cell (hc i hi) (fun e => by have := hj g e.symm; omega)⟩
theorem RdS.below {lo hi : Nat} {w w' : World} {A : Option Addr} {L : List (List UInt8)} (h : RdS lo hi w A L) (hb : Below w.heap.size w w') : RdS lo hi w' A L :=
  h.grown (j := none) ⟨hb.os, hb.tape, hb.output, hb.size, fun k hk _ => hb.block k hk⟩ (fun i hi => by cases hi)
theorem RdS.at_ {lo hi : Nat} {w : World} {A : Option Addr} {L : List (List UInt8)} (h : RdS lo hi w A L) {k : Nat} (hk : k < L.length) : ∃ g, A = some ⟨g, 0, none⟩ ∧ g < w.heap.size ∧ w.cell? ⟨g, k, none⟩ = some (.string ⟨L[k].toArray⟩) := by
  rcases h.2 with rfl | ⟨g, rfl, _, hg, hc⟩
  · simp at hk
  · exact ⟨g, rfl, Nat.lt_of_lt_of_le hg h.1, hc k hk⟩
/-- What predsOf tells. -/
def Toldq (w : World) (f : List Pr) (S : List UInt8 → Sp) (e : Ending) (w' : World) : Prop := ∃ L A n c, e = .returned (.slice A n c) ∧ Fil.IsNames f L ∧ (L.flatMap fun n => prs n (S n)).length = n ∧ n ≤ c ∧ n ≤ 11000 ∧ OwnQ w' w.heap.size (.slice A n c) (L.flatMap fun n => prs n (S n)) ∧ Below w.heap.size w w'
end Go.Proofs.Ytckabmlilbkmbaa
namespace Go.Proofs.Ytckabmlilbkmbaa
open Go.RowKit Go.Sort Spans Op
end Go.Proofs.Ytckabmlilbkmbaa
