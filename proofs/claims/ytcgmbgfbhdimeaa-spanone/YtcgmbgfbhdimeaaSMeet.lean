/- Package span: Meet. -/
import Derived.Test.YtcgmbgfbhdimeaaSTrim
namespace Go.Proofs.Ytcgmbgfbhdimeaa
open Go.RowKit Go.Sort Spans Op
set_option maxRecDepth 100000 in
set_option maxHeartbeats 2000000 in
theorem meet_left (lo hi : Int) (f t : List UInt8) (o : Bool) (A : Option Addr) (n c : Nat) (K' lo' hi' : Int) (f' t' : List UInt8) (o' : Bool) (A' : Option Addr) (n' c' : Nat) (w : World) (fs : List Val) (hn' : fs.length = n') (hm' : n' ≤ 100000) (hr' : RdW w A' fs) :
    Calls Try.prog 13 #[spF 4 lo hi f t o A n c, spF K' lo' hi' f' t' o' A' n' c'] w (Gives w ⟨K', lo', hi', f', t', o', fs⟩) := by
  have HN' := Lib.hid hn'
  clear hn'
  have hgr := gr3 w (.cells #[.int .i64 4, .int .i64 lo, .int .i64 hi, .string ⟨f.toArray⟩, .string ⟨t.toArray⟩, .bool o, .slice A n c] 29) (.cells #[.int .i64 K', .int .i64 lo', .int .i64 hi', .string ⟨f'.toArray⟩, .string ⟨t'.toArray⟩, .bool o', .slice A' n' c'] 29) (.cells #[.int .i64 0, .int .i64 0, .int .i64 0, .string ⟨#[]⟩, .string ⟨#[]⟩, .bool false, .slice none 0 0] 29)
  have hbx := ((Blk.new w 29 #[.int .i64 4, .int .i64 lo, .int .i64 hi, .string ⟨f.toArray⟩, .string ⟨t.toArray⟩, .bool o, .slice A n c]).alloc (.cells #[.int .i64 K', .int .i64 lo', .int .i64 hi', .string ⟨f'.toArray⟩, .string ⟨t'.toArray⟩, .bool o', .slice A' n' c'] 29)).alloc (.cells #[.int .i64 0, .int .i64 0, .int .i64 0, .string ⟨#[]⟩, .string ⟨#[]⟩, .bool false, .slice none 0 0] 29)
  have hbx2 := (Blk.new (w.alloc (.cells #[.int .i64 4, .int .i64 lo, .int .i64 hi, .string ⟨f.toArray⟩, .string ⟨t.toArray⟩, .bool o, .slice A n c] 29)) 29 #[.int .i64 K', .int .i64 lo', .int .i64 hi', .string ⟨f'.toArray⟩, .string ⟨t'.toArray⟩, .bool o', .slice A' n' c']).alloc (.cells #[.int .i64 0, .int .i64 0, .int .i64 0, .string ⟨#[]⟩, .string ⟨#[]⟩, .bool false, .slice none 0 0] 29)
  have hrs := Blk.new ((w.alloc (.cells #[.int .i64 4, .int .i64 lo, .int .i64 hi, .string ⟨f.toArray⟩, .string ⟨t.toArray⟩, .bool o, .slice A n c] 29)).alloc (.cells #[.int .i64 K', .int .i64 lo', .int .i64 hi', .string ⟨f'.toArray⟩, .string ⟨t'.toArray⟩, .bool o', .slice A' n' c'] 29)) 29 #[.int .i64 0, .int .i64 0, .int .i64 0, .string ⟨#[]⟩, .string ⟨#[]⟩, .bool false, .slice none 0 0]
  rw [show (w.alloc (.cells #[.int .i64 4, .int .i64 lo, .int .i64 hi, .string ⟨f.toArray⟩, .string ⟨t.toArray⟩, .bool o, .slice A n c] 29)).heap.size = w.heap.size + 1 by simp] at hbx2
  rw [show ((w.alloc (.cells #[.int .i64 4, .int .i64 lo, .int .i64 hi, .string ⟨f.toArray⟩, .string ⟨t.toArray⟩, .bool o, .slice A n c] 29)).alloc (.cells #[.int .i64 K', .int .i64 lo', .int .i64 hi', .string ⟨f'.toArray⟩, .string ⟨t'.toArray⟩, .bool o', .slice A' n' c'] 29)).heap.size = w.heap.size + 2 by simp] at hrs
  have hsz : (((w.alloc (.cells #[.int .i64 4, .int .i64 lo, .int .i64 hi, .string ⟨f.toArray⟩, .string ⟨t.toArray⟩, .bool o, .slice A n c] 29)).alloc (.cells #[.int .i64 K', .int .i64 lo', .int .i64 hi', .string ⟨f'.toArray⟩, .string ⟨t'.toArray⟩, .bool o', .slice A' n' c'] 29)).alloc (.cells #[.int .i64 0, .int .i64 0, .int .i64 0, .string ⟨#[]⟩, .string ⟨#[]⟩, .bool false, .slice none 0 0] 29)).heap.size = w.heap.size + 3 := by simp
  have hr2 := RdK.below hr' hgr.below
  clear hr'
  go_enter Try.func13, Try.ntmps13
  go_wp2_with fail
  generalize hw2 : (((w.alloc (.cells #[.int .i64 4, .int .i64 lo, .int .i64 hi, .string ⟨f.toArray⟩, .string ⟨t.toArray⟩, .bool o, .slice A n c] 29)).alloc (.cells #[.int .i64 K', .int .i64 lo', .int .i64 hi', .string ⟨f'.toArray⟩, .string ⟨t'.toArray⟩, .bool o', .slice A' n' c'] 29)).alloc (.cells #[.int .i64 0, .int .i64 0, .int .i64 0, .string ⟨#[]⟩, .string ⟨#[]⟩, .bool false, .slice none 0 0] 29)) = w2 at *
  clear hw2
  refine (copied_at K' lo' hi' f' t' o' A' n' c' w2 fs HN'.out hm' hr2).mono ?_
  rintro e w7 ⟨A7, n7, c7, rfl, hl7, hc7, ho7, hb7⟩
  dsimp only at hl7 ho7
  have HL7 := Lib.hid hl7
  have hY7 := Blk.below hrs hb7 (by omega)
  have hB7 := below_next hgr.below (Nat.le_refl _) hb7
  have hs7 := hb7.size
  obtain ⟨y0, y1, y2, y3, y4, y5, y6, q0, q1, q2, q3, q4, q5, q6⟩ := blk7 hY7
  have hg7 : w.heap.size + 2 < w7.heap.size := by omega
  clear hb7 hY7 hl7
  go_wp2_with fail
  refine bodyPost_ret (v := spF K' lo' hi' f' t' o' A7 n7 c7) (by simp [results, Try.results13, go_sem, y0, y1, y2, y3, y4, y5, y6]) rfl ?_
  exact ⟨A7, n7, c7, rfl, HL7.out, hc7, (OwnK.put7 ho7 (by omega) _ _ _ _ _ _ _).less (by omega), below_put7 hB7 (by omega) _ _ _ _ _ _ _⟩
set_option maxRecDepth 100000 in
set_option maxHeartbeats 2000000 in
theorem meet_right (K lo hi : Int) (f t : List UInt8) (o : Bool) (A : Option Addr) (n c : Nat) (lo' hi' : Int) (f' t' : List UInt8) (o' : Bool) (A' : Option Addr) (n' c' : Nat) (w : World) (es : List Val) (hn : es.length = n) (hm : n ≤ 100000) (hr : RdW w A es) (hK : K ≠ 4) :
    Calls Try.prog 13 #[spF K lo hi f t o A n c, spF 4 lo' hi' f' t' o' A' n' c'] w (Gives w ⟨K, lo, hi, f, t, o, es⟩) := by
  have HN := Lib.hid hn
  have v1 : (K == 4) = false := beq_eq_false_iff_ne.2 hK
  clear hn
  have hgr := gr3 w (.cells #[.int .i64 K, .int .i64 lo, .int .i64 hi, .string ⟨f.toArray⟩, .string ⟨t.toArray⟩, .bool o, .slice A n c] 29) (.cells #[.int .i64 4, .int .i64 lo', .int .i64 hi', .string ⟨f'.toArray⟩, .string ⟨t'.toArray⟩, .bool o', .slice A' n' c'] 29) (.cells #[.int .i64 0, .int .i64 0, .int .i64 0, .string ⟨#[]⟩, .string ⟨#[]⟩, .bool false, .slice none 0 0] 29)
  have hbx := ((Blk.new w 29 #[.int .i64 K, .int .i64 lo, .int .i64 hi, .string ⟨f.toArray⟩, .string ⟨t.toArray⟩, .bool o, .slice A n c]).alloc (.cells #[.int .i64 4, .int .i64 lo', .int .i64 hi', .string ⟨f'.toArray⟩, .string ⟨t'.toArray⟩, .bool o', .slice A' n' c'] 29)).alloc (.cells #[.int .i64 0, .int .i64 0, .int .i64 0, .string ⟨#[]⟩, .string ⟨#[]⟩, .bool false, .slice none 0 0] 29)
  have hbx2 := (Blk.new (w.alloc (.cells #[.int .i64 K, .int .i64 lo, .int .i64 hi, .string ⟨f.toArray⟩, .string ⟨t.toArray⟩, .bool o, .slice A n c] 29)) 29 #[.int .i64 4, .int .i64 lo', .int .i64 hi', .string ⟨f'.toArray⟩, .string ⟨t'.toArray⟩, .bool o', .slice A' n' c']).alloc (.cells #[.int .i64 0, .int .i64 0, .int .i64 0, .string ⟨#[]⟩, .string ⟨#[]⟩, .bool false, .slice none 0 0] 29)
  have hrs := Blk.new ((w.alloc (.cells #[.int .i64 K, .int .i64 lo, .int .i64 hi, .string ⟨f.toArray⟩, .string ⟨t.toArray⟩, .bool o, .slice A n c] 29)).alloc (.cells #[.int .i64 4, .int .i64 lo', .int .i64 hi', .string ⟨f'.toArray⟩, .string ⟨t'.toArray⟩, .bool o', .slice A' n' c'] 29)) 29 #[.int .i64 0, .int .i64 0, .int .i64 0, .string ⟨#[]⟩, .string ⟨#[]⟩, .bool false, .slice none 0 0]
  rw [show (w.alloc (.cells #[.int .i64 K, .int .i64 lo, .int .i64 hi, .string ⟨f.toArray⟩, .string ⟨t.toArray⟩, .bool o, .slice A n c] 29)).heap.size = w.heap.size + 1 by simp] at hbx2
  rw [show ((w.alloc (.cells #[.int .i64 K, .int .i64 lo, .int .i64 hi, .string ⟨f.toArray⟩, .string ⟨t.toArray⟩, .bool o, .slice A n c] 29)).alloc (.cells #[.int .i64 4, .int .i64 lo', .int .i64 hi', .string ⟨f'.toArray⟩, .string ⟨t'.toArray⟩, .bool o', .slice A' n' c'] 29)).heap.size = w.heap.size + 2 by simp] at hrs
  have hsz : (((w.alloc (.cells #[.int .i64 K, .int .i64 lo, .int .i64 hi, .string ⟨f.toArray⟩, .string ⟨t.toArray⟩, .bool o, .slice A n c] 29)).alloc (.cells #[.int .i64 4, .int .i64 lo', .int .i64 hi', .string ⟨f'.toArray⟩, .string ⟨t'.toArray⟩, .bool o', .slice A' n' c'] 29)).alloc (.cells #[.int .i64 0, .int .i64 0, .int .i64 0, .string ⟨#[]⟩, .string ⟨#[]⟩, .bool false, .slice none 0 0] 29)).heap.size = w.heap.size + 3 := by simp
  have hr2 := RdK.below hr hgr.below
  clear hr
  go_enter Try.func13, Try.ntmps13
  go_wp2_with fail
  generalize hw2 : (((w.alloc (.cells #[.int .i64 K, .int .i64 lo, .int .i64 hi, .string ⟨f.toArray⟩, .string ⟨t.toArray⟩, .bool o, .slice A n c] 29)).alloc (.cells #[.int .i64 4, .int .i64 lo', .int .i64 hi', .string ⟨f'.toArray⟩, .string ⟨t'.toArray⟩, .bool o', .slice A' n' c'] 29)).alloc (.cells #[.int .i64 0, .int .i64 0, .int .i64 0, .string ⟨#[]⟩, .string ⟨#[]⟩, .bool false, .slice none 0 0] 29)) = w2 at *
  clear hw2
  refine (copied_at K lo hi f t o A n c w2 es HN.out hm hr2).mono ?_
  rintro e w7 ⟨A7, n7, c7, rfl, hl7, hc7, ho7, hb7⟩
  dsimp only at hl7 ho7
  have HL7 := Lib.hid hl7
  have hY7 := Blk.below hrs hb7 (by omega)
  have hB7 := below_next hgr.below (Nat.le_refl _) hb7
  have hs7 := hb7.size
  obtain ⟨y0, y1, y2, y3, y4, y5, y6, q0, q1, q2, q3, q4, q5, q6⟩ := blk7 hY7
  have hg7 : w.heap.size + 2 < w7.heap.size := by omega
  clear hb7 hY7 hl7
  go_wp2_with fail
  refine bodyPost_ret (v := spF K lo hi f t o A7 n7 c7) (by simp [results, Try.results13, go_sem, y0, y1, y2, y3, y4, y5, y6]) rfl ?_
  exact ⟨A7, n7, c7, rfl, HL7.out, hc7, (OwnK.put7 ho7 (by omega) _ _ _ _ _ _ _).less (by omega), below_put7 hB7 (by omega) _ _ _ _ _ _ _⟩
set_option maxRecDepth 100000 in
set_option maxHeartbeats 2000000 in
theorem meet_unlike (K lo hi : Int) (f t : List UInt8) (o : Bool) (A : Option Addr) (n c : Nat) (K' lo' hi' : Int) (f' t' : List UInt8) (o' : Bool) (A' : Option Addr) (n' c' : Nat) (w : World) (hK : K ≠ 4) (hK' : K' ≠ 4) (hne : K ≠ K') :
    Calls Try.prog 13 #[spF K lo hi f t o A n c, spF K' lo' hi' f' t' o' A' n' c'] w (Gives w none_) := by
  have v1 : (K == 4) = false := beq_eq_false_iff_ne.2 hK
  have v2 : (K' == 4) = false := beq_eq_false_iff_ne.2 hK'
  have v3 : (K == K') = false := beq_eq_false_iff_ne.2 hne
  go_enter Try.func13, Try.ntmps13
  go_wp2_with fail
  refine bodyPost_ret (v := spF 0 0 0 [] [] false none 0 0) (by simp [results, Try.results13, go_sem]) rfl ?_
  exact ⟨none, 0, 0, rfl, rfl, Nat.le_refl _, OwnK.none_ _ _, (gr3 _ _ _ _).below⟩
theorem lesser_is (K lo hi : Int) (f t : List UInt8) (o : Bool) (A : Option Addr) (n c : Nat) (K' lo' hi' : Int) (f' t' : List UInt8) (o' : Bool) (A' : Option Addr) (n' c' : Nat) (w : World) (tt : List UInt8) (htt : (if o then t' else if o' then t else minT t t') = tt) (oo : Bool) (hoo : (o && o') = oo) :
    Calls Try.prog 32 #[spF K lo hi f t o A n c, spF K' lo' hi' f' t' o' A' n' c'] w fun e w' => e = .returned (.tuple #[.string ⟨tt.toArray⟩, .bool oo]) ∧ Grown w w' := by
  subst htt; subst hoo
  exact lesser_at K lo hi f t o A n c K' lo' hi' f' t' o' A' n' c' w
theorem own_far {w : World} {base : Nat} {A : Option Addr} {n c : Nat} {l : List Val} {b i : Nat} {u : Value} (h : OwnW w base (.slice A n c) l) (hb : ∀ a, A = some a → a.block ≠ b) : OwnW (w.setCell ⟨b, i, none⟩ u) base (.slice A n c) l := by
  rcases lies_of_own h with ⟨e, hl⟩ | ⟨g, cap, sp, e, hbg, hc, hcm, hl, hs⟩
  · injection e with e1 e2 e3
    subst e1; subst e2; subst e3; subst hl
    exact OwnK.none_ _ _
  · injection e with e1 e2 e3
    have hgA := hb _ e1
    rw [e1, e2, e3]
    exact own_of_lies (Blk.far hl (by show g ≠ b; exact hgA) _) hbg hc hcm hs
section
variable {P : Program} {md : Region.Mode} {ops : Array Oper} {Q : Exit → Act → World → Prop} {S : World → Prop}
/-- Two operations that may come up, both orders. -/
theorem wpAnyH_pair {i j : Nat} {oi oj : Oper} {fuel : Nat} {listed : Array Bool} {a : Act} {w : World} (hr : Region.ready md ops listed = [i, j]) (hi : ops.toList[i]? = some oi) (hj : ops.toList[j]? = some oj)
    (hw : Region.wanted oi (yielded ops a.tmps) = true) (hw' : Region.wanted oj (yielded ops a.tmps) = true)
    (h : ∀ K : Act → World → Prop, Hid (∀ a w, S w → wpAnyH P md ops Q S fuel (listed.setIfInBounds i true) a w → K a w) → Oper.wp P oi a w K Q)
    (h' : ∀ K : Act → World → Prop, Hid (∀ a w, S w → wpAnyH P md ops Q S fuel (listed.setIfInBounds j true) a w → K a w) → Oper.wp P oj a w K Q) : wpAnyH P md ops Q S (fuel + 1) listed a w := by
  refine wpAnyH_ready hr (by simp) (AllReadyH.cons (by simpa using hi) (fun K hK => ?_) (AllReadyH.cons (by simpa using hj) (fun K hK => ?_) AllReadyH.nil))
  · rw [if_pos hw]
    exact h K (fun a w hS hW => hK.out a w hS (fun _ => hW))
  · rw [if_pos hw']
    exact h' K (fun a w hS hW => hK.out a w hS (fun _ => hW))
end
end Go.Proofs.Ytcgmbgfbhdimeaa
