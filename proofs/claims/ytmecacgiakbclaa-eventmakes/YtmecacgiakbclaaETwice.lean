/- Are there two attributes of one name? Names are counted in a map. -/
import Derived.Test.YtmecacgiakbclaaEOne
import Derived.Maps.OwnOps
import Derived.Maps.Views
namespace Go.Proofs.Ytmecacgiakbclaa
open Go.RowKit Go.Sort Go.Maps Go.WideMaps Ev
theorem lawS : Keyed Try.prog 9 := string_keyed Try.underlying9
theorem zeroI (w : World) : (zeroValue 3).run Try.prog w = .ok (.int .i64 0) w := by kernel_rfl
/-- What a map that counts names holds. -/
def Counts (D : DataW Unit) (ns : List (List UInt8)) : Prop := IsMap D ∧ ∀ s, D.atKey (.string s) (.lit (.int .i64 0)) = .lit (.int .i64 (if s ∈ ns then 1 else 0))
theorem Counts.snoc {D : DataW Unit} {ns : List (List UInt8)} (h : Counts D ns) (s : List UInt8) : Counts (D.put (.string s) (.lit (.int .i64 1))) (ns ++ [s]) := by
  refine ⟨h.1.put _ _, fun t => ?_⟩
  by_cases ht : t = s
  · subst ht
    rw [atKey_put_same h.1 (show WideAt.IsKeyLit (.string t) from trivial)]; simp
  · rw [atKey_put_other (by simpa using ht), h.2 t]; simp [ht]
theorem once_snoc {es : List At} {k : Nat} (hk : k < es.length) (h : Once (es.take k)) (hn : es[k].n ∉ (es.take k).map At.n) : Once (es.take (k + 1)) := by
  unfold Once at *
  rw [List.take_succ_eq_append_getElem hk, List.map_append, List.nodup_append]
  refine ⟨h, by simp, fun a ha b hb => ?_⟩
  simp at hb
  subst hb
  rintro rfl
  exact hn ha
theorem not_once {es : List At} {k : Nat} (hk : k < es.length) (hn : es[k].n ∈ (es.take k).map At.n) : ¬ Once es := by
  intro h
  have h2 : Once (es.take (k + 1)) := by
    unfold Once at *
    rw [← List.take_append_drop (k + 1) es, List.map_append, List.nodup_append] at h
    exact h.1
  unfold Once at h2
  rw [List.take_succ_eq_append_getElem hk, List.map_append, List.nodup_append] at h2
  exact h2.2.2 _ hn _ (by simp) rfl
/-- Is a name there twice? -/
def twice (es : List At) : Bool := decide (¬ Once es)
theorem lit_int {a b : Int} (h : (DataW.lit (.int .i64 a) : DataW Unit) = .lit (.int .i64 b)) : a = b := by injection h with h; injection h
set_option maxRecDepth 100000 in
set_option maxHeartbeats 1000000 in
theorem twice_at (A : Option Addr) (es : List At) (n c : Nat) (hn : es.length = n) (hm : n ≤ 24) (hb : ∀ a ∈ es, a.n.length ≤ 16) (w : World) (hr : RdA w A es) :
    Calls Try.prog 19 #[.slice A n c] w fun e w' => e = .returned (.bool (twice es)) ∧ Below w.heap.size w w' := by
  have HN := Lib.hid hn
  clear hn
  have hmm : ∀ (m : Nat) (W : World), (Instr.makeMap 42 (some (.int .i64 (m : Int)))).run Try.prog W = .ok (.map (some W.heap.size)) (W.alloc (.map #[] 0)) := fun m W => by
    simp [Instr.makeMap, run_underlying Try.underlying42, asInt, asIntOf]
  have hown0 := Lib.hid (World.ownsMap_made (H := Unit) w Try.prog 9 (plainElem Try.prog 3))
  have hb0 : Hid (Below w.heap.size w (w.alloc (.map #[] 0))) := (Below.refl _ _).alloc (Nat.le_refl _) _
  go_enter Try.func19, Try.ntmps19
  go_wp2_with fail
  clear hmm
  go_loopw [11] (fun i wr => ∃ k : Nat, k ≤ n ∧ i = .int .i64 (k : Int) ∧ Hid (Below w.heap.size w wr) ∧ (∃ D, Hid (wr.ownsMap Try.prog 9 (plainElem (H := Unit) Try.prog 3) w.heap.size k D) ∧ Hid (Counts D ((es.take k).map At.n))) ∧ Hid (Once (es.take k))) (fun i _ => n - (intOf i).toNat)
  case atStart => exact ⟨0, by omega, rfl, hb0, ⟨_, hown0, isMap_empty, fun s => by simp [DataW.atKey]⟩, by show Once _; simp [Once]⟩
  case round =>
    obtain ⟨k, hk, rfl, HB, ⟨D, HO, HC⟩, H1⟩ := hrel
    clear hb0 hown0
    by_cases hlt : k < n
    · have hk' : k < es.length := by rw [HN.out]; exact hlt
      obtain ⟨g, off, rfl, hg, hC⟩ := (hr.below HB.out).at_ hk'
      have hl := hb _ (List.getElem_mem hk')
      obtain ⟨z, hz⟩ : ∃ z, es[k] = z := ⟨_, rfl⟩
      have HE := Lib.hid hz
      rw [hz] at hC hl
      clear hz hr hb
      obtain ⟨zn, zk, zi, zt⟩ := z
      obtain ⟨c0, c1, c2, c3⟩ := hC
      have hkey : keyOf Try.prog 9 (.string ⟨zn.toArray⟩) = some (.string zn) := keyOf_string_mk Try.underlying9 (by show zn.toArray.size ≤ _; simp; simp at hl; unfold maxLen; omega)
      have hown := HO.out.alloc (.cells #[.string ⟨zn.toArray⟩, .int .i64 zk, .int .i64 zi, .string ⟨zt.toArray⟩] 32)
      have hB := Blk.new wr 32 #[.string ⟨zn.toArray⟩, .int .i64 zk, .int .i64 zi, .string ⟨zt.toArray⟩]
      have hb1 := HB.out.alloc HB.out.size (.cells #[.string ⟨zn.toArray⟩, .int .i64 zk, .int .i64 zi, .string ⟨zt.toArray⟩] 32)
      have hne : wr.heap.size ≠ w.heap.size := fun e => by have := HO.out.lt; omega
      obtain ⟨cv, hrun, hat, _⟩ := hown.lookup_int lawS Try.underlying42 Try.underlying3 (zeroI _) hkey
      have hcv : cv = if zn ∈ (es.take k).map At.n then 1 else 0 := lit_int (hat.symm.trans (HC.out.2 zn))
      clear hat
      by_cases hin : zn ∈ (es.take k).map At.n
      · rw [if_pos hin] at hcv
        subst hcv
        have HF : Hid (twice es = true) := decide_eq_true (not_once hk' (by rw [HE.out]; exact hin))
        clear hin
        go_wp2_with (at_mapUpdate; refine wpList_mapUpdate_own _ rfl _ _ _ 42 rfl 9 3 lawS Try.underlying42 _ w.heap.size k _ rfl hown (by unfold maxLen; omega) _ _ _ rfl rfl hkey _ [] (plainElem_int Try.underlying3 (by decide)) ?_; intro w2 hown2 hgrow; have hb2 := Lib.hid (hb1.grown hgrow hb1.size (fun j hj => by cases hj; exact Nat.le_refl _)); have d0 : w2.cell? ⟨wr.heap.size, 0, none⟩ = some (.string ⟨zn.toArray⟩) := hgrow.cell (hB.cell 0) (fun e => hne (Option.some.inj e)); have hown3 := Lib.hid hown2; obtain ⟨c2, hrun2, hat2, _⟩ := hown2.lookup_int lawS Try.underlying42 Try.underlying3 (zeroI _) hkey; rw [atKey_put_same HC.out.1 (show WideAt.IsKeyLit (.string zn) from trivial)] at hat2; obtain rfl := lit_int hat2; clear hown hB hb1 hgrow hat2 hrun hown2)
        go_ret
        exact ⟨ret_bool HF.out.symm, hb2.out⟩
      · rw [if_neg hin] at hcv
        subst hcv
        have H2 : Hid (Once (es.take (k + 1))) := once_snoc hk' H1.out (by rw [HE.out]; exact hin)
        have HC2 : Hid (Counts (D.put (.string zn) (.lit (.int .i64 1))) ((es.take (k + 1)).map At.n)) := by
          show Counts _ _
          rw [List.take_succ_eq_append_getElem hk', List.map_append, HE.out]
          exact HC.out.snoc zn
        clear hin
        go_wp2_with (at_mapUpdate; refine wpList_mapUpdate_own _ rfl _ _ _ 42 rfl 9 3 lawS Try.underlying42 _ w.heap.size k _ rfl hown (by unfold maxLen; omega) _ _ _ rfl rfl hkey _ [] (plainElem_int Try.underlying3 (by decide)) ?_; intro w2 hown2 hgrow; have hb2 := Lib.hid (hb1.grown hgrow hb1.size (fun j hj => by cases hj; exact Nat.le_refl _)); have d0 : w2.cell? ⟨wr.heap.size, 0, none⟩ = some (.string ⟨zn.toArray⟩) := hgrow.cell (hB.cell 0) (fun e => hne (Option.some.inj e)); have hown3 := Lib.hid hown2; obtain ⟨c2, hrun2, hat2, _⟩ := hown2.lookup_int lawS Try.underlying42 Try.underlying3 (zeroI _) hkey; rw [atKey_put_same HC.out.1 (show WideAt.IsKeyLit (.string zn) from trivial)] at hat2; obtain rfl := lit_int hat2; clear hown hB hb1 hgrow hat2 hrun hown2)
        go_roundw
        case rel => exact ⟨k + 1, by omega, by go_num, hb2, ⟨_, hown3, HC2⟩, H2⟩
        case measure => simp [intOf]; omega
    · have HF : Hid (twice es = false) := decide_eq_false fun h => h (by
        have := H1.out
        rwa [List.take_of_length_le (by rw [HN.out]; omega)] at this)
      clear HO HC H1
      go_wp2_with fail
      go_ret
      exact ⟨ret_bool HF.out.symm, HB.out⟩
end Go.Proofs.Ytmecacgiakbclaa
