/- What event.Make makes. -/
import Derived.Test.YtmecacgiakbclaaESort
import Derived.Test.YtmecacgiakbclaaETwice
namespace Go.Proofs.Ytmecacgiakbclaa
open Go.RowKit Go.Sort Ev
theorem run_copy_a (w : World) (ty : TypeId) (g n dcap : Nat) (A : Option Addr) (es : List At) (c : Nat) (hr : RdA w A es) (hn : es.length = n) (Z : Array Value) (hg : Blk w g 32 Z) (hZ : Z.size = n * 4) :
    ∃ w', (Builtin.copy_ #[22, 22] ty #[.slice (some ⟨g, 0, none⟩) n dcap, .slice A n c]).run Try.prog w = .ok (goInt n) w' ∧ Blk w' g 32 (es.flatMap cellsA).toArray ∧ ∀ B w0, Below B w0 w → B ≤ g → Below B w0 w' := by
  subst hn
  obtain ⟨i, hi, hz, hs, hby⟩ := attr_has
  by_cases h0 : es = []
  · subst h0
    have : Z = #[] := Array.eq_empty_of_size_eq_zero (by simpa using hZ)
    subst this
    refine ⟨w, ?_, hg, fun _ _ h _ => h⟩
    rcases A with _ | ad
    · simp [Builtin.copy_, run_underlying Try.underlying22, sizeOf, typeInfo, hi, Builtin.lenOf, Builtin.firstCells, storeCells]
    · simp [Builtin.copy_, run_underlying Try.underlying22, sizeOf, typeInfo, hi, Builtin.lenOf, Builtin.firstCells, storeCells, loadCells, loadCellsFrom]
  · obtain ⟨ad, rfl⟩ : ∃ ad, A = some ad := by
      rcases hr with h | ⟨g', off, e, _⟩
      · exact absurd h h0
      · exact ⟨_, e⟩
    have hl := run_loadCells_list (P := Try.prog) w ad (es.flatMap cellsA) hr.src
    have hst := run_storeCells_at Try.prog g 0 32 (es.flatMap cellsA) 0 Z w hg (by rw [flat_length]; omega) (flat_one es)
    refine ⟨_, ?_, setRow_heap w g Z _ _ _ hg, fun B w0 hb hB => below_setRow hb hB _⟩
    rw [flat_length] at hl hst
    have hd : Z.toList.drop (es.length * 4) = [] := List.drop_eq_nil_of_le (by simp; omega)
    simp only [Nat.zero_add, List.take_zero, List.nil_append] at hst
    rw [hd, List.append_nil] at hst
    simp [Builtin.copy_, run_underlying Try.underlying22, Builtin.lenOf, Builtin.firstCells, sizeOf, typeInfo, hi, hs, hl, hst]
theorem make_row (n : Nat) (hn : n ≤ 24) : ∃ Z : Array Value, Z.size = n * 4 ∧ ∀ W : World, (Instr.makeSlice 22 (.int .i64 (n : Int)) (.int .i64 (n : Int))).run Try.prog W = .ok (.slice (some ⟨W.heap.size, 0, none⟩) n n) (W.alloc (.cells Z 32)) := by
  obtain ⟨i, hi, hz, hs, hby⟩ := attr_has
  refine ⟨madeCells (Value.agg #[.string ⟨#[]⟩, .int .i64 0, .int .i64 0, .string ⟨#[]⟩]).cells (n * 4), size_madeCells _ _, fun W => ?_⟩
  have h := run_make (P := Try.prog) W 22 32 i _ Try.underlying22 hi hz .i64 .i64 n n (by omega) (Int.le_refl _) (by rw [hby]; omega) (by omega)
  rw [hs] at h
  simpa using h
theorem own_made {w : World} {base g n : Nat} {out : List At} (hB : Blk w g 32 (out.flatMap cellsA).toArray) (hb : base ≤ g) (hn : out.length = n) (hm : n ≤ 24) : OwnA w base (.slice (some ⟨g, 0, none⟩) n n) out := by
  subst hn
  refine ⟨flat_length out, .inr ⟨g, out.length, _, rfl, hb, hB, Nat.le_refl _, by unfold maxLen; omega, by simp only [List.size_toArray, flat_length], ?_⟩⟩
  exact List.take_of_length_le (by rw [flat_length]; omega)
/-- What both Makes tell. -/
def Makes (w : World) (es : List At) (e : Ending) (w' : World) : Prop :=
  ∃ v cd out, e = .returned (.tuple #[v, .int .i64 cd]) ∧ Made es cd out ∧ OwnA w' w.heap.size v out ∧ Below w.heap.size w w'
theorem makes_none {w w' : World} {es : List At} {cd : Int} (hM : Made es cd []) (hb : Below w.heap.size w w') : Makes w es (.returned (.tuple #[.slice none 0 0, .int .i64 cd])) w' :=
  ⟨_, cd, [], rfl, hM, OwnA.none_ _ _, hb⟩
set_option maxRecDepth 100000 in
set_option maxHeartbeats 1000000 in
theorem make_at (A : Option Addr) (es : List At) (n c : Nat) (hn : es.length = n) (hm : n ≤ maxLen) (hb : ∀ a ∈ es, a.n.length ≤ maxLen ∧ a.t.length ≤ maxLen) (w : World) (hr : RdA w A es) :
    Calls Try.prog 10 #[.slice A n c] w (Makes w es) := by
  have HN := Lib.hid hn
  rw [maxLen_num] at hm
  simp only [maxLen_num] at hb
  clear hn
  by_cases h24 : n ≤ 24
  · have q24 : decide ((24 : Int) < (n : Int)) = false := by simp; omega
    go_enter Try.func10, Try.ntmps10
    go_wp2_with fail
    clear q24
    go_loopw [12] (fun i wr => ∃ k : Nat, k ≤ n ∧ i = .int .i64 (k : Int) ∧ Hid (Grown w wr) ∧ Hid (∀ a ∈ es.take k, ok a = true)) (fun i _ => n - (intOf i).toNat)
    case atStart => exact ⟨0, by omega, rfl, Grown.refl w, by show ∀ _, _; simp⟩
    case round =>
      obtain ⟨k, hk, rfl, HG, HA⟩ := hrel
      by_cases hlt : k < n
      · have hk' : k < es.length := by rw [HN.out]; exact hlt
        obtain ⟨g, off, rfl, hg, hC⟩ := (hr.below HG.out.below).at_ hk'
        have hmem := List.getElem_mem hk'
        obtain ⟨b1, b2⟩ := hb _ hmem
        have HT : Hid (es.take (k + 1) = es.take k ++ [es[k]]) := List.take_succ_eq_append_getElem hk'
        have HM := Lib.hid hmem
        generalize es[k] = z at *
        clear hmem hb hr
        obtain ⟨zn, zk, zi, zt⟩ := z
        obtain ⟨c0, c1, c2, c3⟩ := hC
        have HG2 := Lib.hid (HG.out.alloc (.cells #[.string ⟨zn.toArray⟩, .int .i64 zk, .int .i64 zi, .string ⟨zt.toArray⟩] 32))
        go_wp2_with fail
        refine (rightAttr_at zn zk zi zt _ b1 b2).mono ?_
        rintro e w1 ⟨rfl, hgr⟩
        have HG3 := Lib.hid (HG2.out.trans hgr)
        clear c0 c1 c2 c3 hg HG HG2 hgr
        cases hok : ok ⟨zn, zk, zi, zt⟩ with
        | false =>
          have HF : Hid (Made es 1 []) := made_bad (by rw [HN.out]; exact h24) ⟨_, HM.out, hok⟩
          clear hok
          go_wp2_with fail
          go_ret2
          exact makes_none HF.out HG3.out.below
        | true =>
          have HA2 : Hid (∀ a ∈ es.take (k + 1), ok a = true) := by
            show ∀ _, _
            rw [HT.out]
            intro a ha
            rcases List.mem_append.1 ha with ha | ha
            · exact HA.out a ha
            · simp at ha; subst ha; exact hok
          clear hok HA HT HM
          go_wp2_with fail
          go_roundw
          case rel => exact ⟨k + 1, by omega, by go_num, HG3, HA2⟩
          case measure => simp [intOf]; omega
      · have HA2 : Hid (∀ a ∈ es, ok a = true) := by
          have h := HA.out
          rwa [List.take_of_length_le (by rw [HN.out]; omega)] at h
        have hlen : ∀ a ∈ es, a.n.length ≤ 16 := fun a ha => by
          have := HA2.out a ha
          simp [ok] at this
          omega
        have hbl := HG.out.below
        have hr1 := hr.below hbl
        clear hr hb HA HG
        go_wp2_with fail
        refine (twice_at A es n c HN.out h24 hlen wr hr1).mono ?_
        rintro e w1 ⟨rfl, hb1⟩
        have hr2 := hr1.below hb1
        have hbw := below_next hbl (Nat.le_refl _) hb1
        clear hr1 hbl hb1 hlen
        by_cases h1 : Once es
        · have ht : twice es = false := decide_eq_false (fun h => h h1)
          have H1 := Lib.hid h1
          rw [ht]
          clear ht h1
          obtain ⟨Z, hZ, hmk⟩ := make_row n h24
          have HZ := Lib.hid hZ
          clear hZ
          have hBZ := Blk.new w1 32 Z
          have hr3 := hr2.below ((Below.refl _ _).alloc (Nat.le_refl _) (.cells Z 32))
          have hbw2 := hbw.alloc (by have := hbw.size; omega) (.cells Z 32)
          have hgw : w.heap.size ≤ w1.heap.size := hbw.size
          clear hr2 hbw
          obtain ⟨w3, hcp, hB3, hk3⟩ := run_copy_a (w1.alloc (.cells Z 32)) 3 w1.heap.size n n A es c hr3 HN.out Z hBZ HZ.out
          have hbw3 := hk3 _ _ hbw2 hgw
          clear hr3 hBZ hbw2 hk3
          go_wp2_with fail
          clear hcp hmk
          refine (sort_at w1.heap.size es n n 32 HN.out h24 H1.out w3 hB3).mono ?_
          rintro e w4 ⟨rfl, out, hso, hB4, hk4⟩
          have hbw4 := hk4 _ _ hbw3 hgw
          clear hB3 hbw3 hk4
          go_wp2_with fail
          go_ret2
          exact ⟨_, 0, out, rfl, made_good (by rw [HN.out]; exact h24) HA2.out hso, own_made hB4 hgw (by rw [hso.length]; exact HN.out) h24, hbw4⟩
        · have ht : twice es = true := decide_eq_true h1
          have HF : Hid (Made es 8 []) := made_twice (by rw [HN.out]; exact h24) HA2.out h1
          rw [ht]
          clear ht h1
          go_wp2_with fail
          go_ret2
          exact makes_none HF.out hbw
  · have HF : Hid (Made es 4 []) := made_long (by rw [HN.out]; omega)
    have q24 : decide ((24 : Int) < (n : Int)) = true := by simp; omega
    go_enter Try.func10, Try.ntmps10
    go_wp2_with fail
    go_ret2
    exact makes_none HF.out (Below.refl _ _)
end Go.Proofs.Ytmecacgiakbclaa
