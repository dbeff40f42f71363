/- Contracts of the program and of the document (PoSml, PoArgs), each used further on. -/
import Derived.Test.YtckabmlilbkmbaaP3
import Derived.Test.YtckabmlilbkmbaaT3
namespace Go.Proofs.Ytckabmlilbkmbaa
open Go.RowKit Go.ChangeShapes Go.WideShapes Go.Deep Go.Sort Spans Tb
set_option maxRecDepth 100000 in
set_option maxHeartbeats 1000000 in
theorem mk_at (i o k : Int) (w : World) :
    Calls Try.prog 25 #[.int .i64 i, .int .i64 o, .int .i64 k] w fun e w' => ∃ A : Option Addr, e = .returned (exV ⟨i, 0, A, 1, 1, [ip o k]⟩) ∧ RdQ w' A [ip o k] ∧ Below w.heap.size w w' := by
  go_enter Try.func25, Try.ntmps25
  go_wp2_with fail
  have hb := (gr2 w (.cells #[.int .i64 i, .int .i64 0, .slice (some ⟨w.heap.size + 1, 0, none⟩) 1 1] 28) (.cells #[.string ⟨#[97]⟩, .int .i64 o, .int .i64 1, .int .i64 k, .string ⟨#[]⟩] 47)).below
  have hB := (Blk.new w 28 #[.int .i64 i, .int .i64 0, .slice (some ⟨w.heap.size + 1, 0, none⟩) 1 1]).alloc (.cells #[.string ⟨#[97]⟩, .int .i64 o, .int .i64 1, .int .i64 k, .string ⟨#[]⟩] 47)
  obtain ⟨r0, r1, r2⟩ := cells3 hB
  have hr := rdk_one layP (w.alloc (.cells #[.int .i64 i, .int .i64 0, .slice (some ⟨w.heap.size + 1, 0, none⟩) 1 1] 28)) (ip o k) 47 #[.string ⟨#[97]⟩, .int .i64 o, .int .i64 1, .int .i64 k, .string ⟨#[]⟩] rfl
  rw [show (w.alloc (.cells #[.int .i64 i, .int .i64 0, .slice (some ⟨w.heap.size + 1, 0, none⟩) 1 1] 28)).heap.size = w.heap.size + 1 by simp] at hr
  refine bodyPost_ret (v := exV ⟨i, 0, some ⟨w.heap.size + 1, 0, none⟩, 1, 1, [ip o k]⟩) (by simp [results, Try.results25, go_sem, r0, r1, r2]) rfl ?_
  exact ⟨_, rfl, hr, hb⟩
/-! The four entries. -/
def ge (k : Int) : List Pr := [ip 6 k]
theorem ge_few {k : Int} (h : k = 9 ∨ k = 5 ∨ k = 1) : PBd (ge k) := fun p hp => by
  have : p = ip 6 k := by simpa [ge] using hp
  subst this
  rcases h with rfl | rfl | rfl <;> decide
theorem ge_sound {k : Int} (h : k = 9 ∨ k = 5 ∨ k = 1) : Fil.Sound (ge k) := by rcases h with rfl | rfl | rfl <;> decide
theorem ge_97 (k : Int) : all97 (ge k) := ⟨by simp [ge], fun p hp => by have : p = ip 6 k := by simpa [ge] using hp
                                                                        subst this; rfl⟩
theorem ge_spans {k : Int} (h : k = 9 ∨ k = 5 ∨ k = 1) : Fil.IsSpans (ge k) (fun _ => spn k 9223372036854775807) := by
  refine spans97 (ge_97 k) (all_ints (by rcases h with rfl | rfl | rfl <;> decide) (by simp [ge]) (fun x _ _ => ?_) (by omega) (by omega) (by omega))
  simp only [ge, List.forall_mem_cons, List.not_mem_nil, false_implies, implies_true, and_true]
  simp [ip, ofLo, ofHi, highest]
theorem ge_asked {k : Int} {n : List UInt8} : Fil.Asked (ge k) n ↔ n = [97] := by
  constructor
  · rintro ⟨p, hp, e⟩; rw [← e]; exact (ge_97 k).2 p hp
  · rintro rfl; exact ⟨ip 6 k, by simp [ge], rfl⟩
theorem ge_cov {a b : Int} (ha : a = 9 ∨ a = 5 ∨ a = 1) (hb : b = 9 ∨ b = 5 ∨ b = 1) : Fil.Cov (ge a) (ge b) ↔ a ≤ b := by
  rw [Fil.cov_with (ge_spans ha) (ge_spans hb)]
  constructor
  · rintro ⟨_, _, h | h⟩
    · obtain ⟨_, _, e⟩ := h; cases e
    · have := (h [97] (ge_asked.2 rfl)).2
      rcases ha with rfl | rfl | rfl <;> rcases hb with rfl | rfl | rfl <;> revert this <;> decide
  · intro h
    refine ⟨ge_sound ha, ge_sound hb, .inr fun n hn => ⟨ge_asked.2 (ge_asked.1 hn), ?_⟩⟩
    rcases ha with rfl | rfl | rfl <;> rcases hb with rfl | rfl | rfl <;> revert h <;> decide
theorem ge_abv {i k a b : Int} (ha : a = 9 ∨ a = 5 ∨ a = 1) (hb : b = 9 ∨ b = 5 ∨ b = 1) : Po.Abv i (ge a) k (ge b) ↔ i ≠ k ∧ a ≤ b ∧ (i < k ∨ ¬ b ≤ a) := by
  unfold Po.Abv; rw [ge_cov ha hb, ge_cov hb ha]
def q4 (i k : Nat) : Bool := decide ((i, k) = (1, 0) ∨ (i, k) = (1, 3) ∨ (i, k) = (2, 0) ∨ (i, k) = (2, 1) ∨ (i, k) = (2, 3) ∨ (i, k) = (3, 0))
def l4 (A B C D : Option Addr) : List Ex := [⟨5, 0, A, 1, 1, ge 9⟩, ⟨2, 0, B, 1, 1, ge 5⟩, ⟨7, 0, C, 1, 1, ge 1⟩, ⟨8, 0, D, 1, 1, ge 5⟩]
theorem l4_abvs (A B C D : Option Addr) : Abvs (l4 A B C D) 4 q4 := by
  intro i k hi hk
  match i, k, hi, hk with
  | 0, 0, _, _ => show _ ↔ Po.Abv 5 (ge 9) 5 (ge 9); rw [ge_abv (by decide) (by decide)]; decide
  | 0, 1, _, _ => show _ ↔ Po.Abv 5 (ge 9) 2 (ge 5); rw [ge_abv (by decide) (by decide)]; decide
  | 0, 2, _, _ => show _ ↔ Po.Abv 5 (ge 9) 7 (ge 1); rw [ge_abv (by decide) (by decide)]; decide
  | 0, 3, _, _ => show _ ↔ Po.Abv 5 (ge 9) 8 (ge 5); rw [ge_abv (by decide) (by decide)]; decide
  | 1, 0, _, _ => show _ ↔ Po.Abv 2 (ge 5) 5 (ge 9); rw [ge_abv (by decide) (by decide)]; decide
  | 1, 1, _, _ => show _ ↔ Po.Abv 2 (ge 5) 2 (ge 5); rw [ge_abv (by decide) (by decide)]; decide
  | 1, 2, _, _ => show _ ↔ Po.Abv 2 (ge 5) 7 (ge 1); rw [ge_abv (by decide) (by decide)]; decide
  | 1, 3, _, _ => show _ ↔ Po.Abv 2 (ge 5) 8 (ge 5); rw [ge_abv (by decide) (by decide)]; decide
  | 2, 0, _, _ => show _ ↔ Po.Abv 7 (ge 1) 5 (ge 9); rw [ge_abv (by decide) (by decide)]; decide
  | 2, 1, _, _ => show _ ↔ Po.Abv 7 (ge 1) 2 (ge 5); rw [ge_abv (by decide) (by decide)]; decide
  | 2, 2, _, _ => show _ ↔ Po.Abv 7 (ge 1) 7 (ge 1); rw [ge_abv (by decide) (by decide)]; decide
  | 2, 3, _, _ => show _ ↔ Po.Abv 7 (ge 1) 8 (ge 5); rw [ge_abv (by decide) (by decide)]; decide
  | 3, 0, _, _ => show _ ↔ Po.Abv 8 (ge 5) 5 (ge 9); rw [ge_abv (by decide) (by decide)]; decide
  | 3, 1, _, _ => show _ ↔ Po.Abv 8 (ge 5) 2 (ge 5); rw [ge_abv (by decide) (by decide)]; decide
  | 3, 2, _, _ => show _ ↔ Po.Abv 8 (ge 5) 7 (ge 1); rw [ge_abv (by decide) (by decide)]; decide
  | 3, 3, _, _ => show _ ↔ Po.Abv 8 (ge 5) 8 (ge 5); rw [ge_abv (by decide) (by decide)]; decide
theorem l4_few (A B C D : Option Addr) : EFew (l4 A B C D) := fun x hx => by
  simp only [l4, List.mem_cons, List.not_mem_nil, or_false] at hx
  rcases hx with rfl | rfl | rfl | rfl <;> exact ⟨Nat.le_of_ble_eq_true rfl, ge_few (by decide)⟩
def id4 (i : Nat) : Int := if i = 0 then 5 else if i = 1 then 2 else if i = 2 then 7 else if i = 3 then 8 else 0
theorem l4_id (A B C D : Option Addr) : idAt (l4 A B C D) = id4 := by
  funext i
  match i with
  | 0 => rfl
  | 1 => rfl
  | 2 => rfl
  | 3 => rfl
  | n + 4 => simp [idAt, l4, id4]
theorem l4_tops : Po.topsL q4 id4 4 = [7] := by decide
theorem l4_edges : Po.edgesL q4 id4 4 = [(2, 8), (7, 2), (8, 5)] := by decide
set_option maxRecDepth 100000 in
set_option maxHeartbeats 4000000 in
theorem small_at (w : World) : Calls Try.prog 9 #[] w fun e w' => e = .returned (.bool true) ∧ Below w.heap.size w w' := by
  go_enter Try.func9, Try.ntmps9
  go_wp2_with fail
  refine (mk_at 5 6 9 w).mono ?_
  rintro e w1 ⟨A, rfl, hr, hb⟩
  have BB := Lib.hid hb
  have RA : Hid (RdQ w1 A (ge 9)) := hr
  clear hr hb
  go_wp2_with fail
  refine (mk_at 2 6 5 w1).mono ?_
  rintro e w2 ⟨B, rfl, hr, hb⟩
  replace BB := Lib.hid (below_next BB.out (Nat.le_refl _) hb)
  replace RA := Lib.hid (RdK.below RA.out hb)
  have RB : Hid (RdQ w2 B (ge 5)) := hr
  clear hr hb
  go_wp2_with fail
  refine (mk_at 7 6 1 w2).mono ?_
  rintro e w3 ⟨C, rfl, hr, hb⟩
  replace BB := Lib.hid (below_next BB.out (Nat.le_refl _) hb)
  replace RA := Lib.hid (RdK.below RA.out hb)
  replace RB := Lib.hid (RdK.below RB.out hb)
  have RC : Hid (RdQ w3 C (ge 1)) := hr
  clear hr hb
  go_wp2_with fail
  refine (mk_at 8 6 5 w3).mono ?_
  rintro e w4 ⟨D, rfl, hr, hb⟩
  replace BB := Lib.hid (below_next BB.out (Nat.le_refl _) hb)
  replace RA := Lib.hid (RdK.below RA.out hb)
  replace RB := Lib.hid (RdK.below RB.out hb)
  replace RC := Lib.hid (RdK.below RC.out hb)
  have RD : Hid (RdQ w4 D (ge 5)) := hr
  clear hr hb
  have hb := (gr1 w4 (.cells #[.int .i64 5, .int .i64 0, .slice A 1 1, .int .i64 2, .int .i64 0, .slice B 1 1, .int .i64 7, .int .i64 0, .slice C 1 1, .int .i64 8, .int .i64 0, .slice D 1 1] 28)).below
  have HL : Hid (RdEn (w4.alloc (.cells #[.int .i64 5, .int .i64 0, .slice A 1 1, .int .i64 2, .int .i64 0, .slice B 1 1, .int .i64 7, .int .i64 0, .slice C 1 1, .int .i64 8, .int .i64 0, .slice D 1 1] 28)) (some ⟨w4.heap.size, 0, none⟩) (l4 A B C D)) := ⟨rdk_lit layE w4 (l4 A B C D) 28 #[.int .i64 5, .int .i64 0, .slice A 1 1, .int .i64 2, .int .i64 0, .slice B 1 1, .int .i64 7, .int .i64 0, .slice C 1 1, .int .i64 8, .int .i64 0, .slice D 1 1] rfl, fun x hx => by
    simp only [l4, List.mem_cons, List.not_mem_nil, or_false] at hx
    rcases hx with rfl | rfl | rfl | rfl
    · exact ⟨rfl, Nat.le_refl _, RdK.below RA.out hb⟩
    · exact ⟨rfl, Nat.le_refl _, RdK.below RB.out hb⟩
    · exact ⟨rfl, Nat.le_refl _, RdK.below RC.out hb⟩
    · exact ⟨rfl, Nat.le_refl _, RdK.below RD.out hb⟩⟩
  have hB := Blk.new w4 28 #[.int .i64 5, .int .i64 0, .slice A 1 1, .int .i64 2, .int .i64 0, .slice B 1 1, .int .i64 7, .int .i64 0, .slice C 1 1, .int .i64 8, .int .i64 0, .slice D 1 1]
  replace BB := Lib.hid (below_next BB.out (Nat.le_refl _) hb)
  have hlt : w4.heap.size < (w4.alloc (.cells #[.int .i64 5, .int .i64 0, .slice A 1 1, .int .i64 2, .int .i64 0, .slice B 1 1, .int .i64 7, .int .i64 0, .slice C 1 1, .int .i64 8, .int .i64 0, .slice D 1 1] 28)).heap.size := by simp
  clear hb RA RB RC RD
  have HC : Hid (∀ w', Below (w4.alloc (.cells #[.int .i64 5, .int .i64 0, .slice A 1 1, .int .i64 2, .int .i64 0, .slice B 1 1, .int .i64 7, .int .i64 0, .slice C 1 1, .int .i64 8, .int .i64 0, .slice D 1 1] 28)).heap.size (w4.alloc (.cells #[.int .i64 5, .int .i64 0, .slice A 1 1, .int .i64 2, .int .i64 0, .slice B 1 1, .int .i64 7, .int .i64 0, .slice C 1 1, .int .i64 8, .int .i64 0, .slice D 1 1] 28)) w' → w'.cell? ⟨w4.heap.size, 0, none⟩ = some (.int .i64 5) ∧ w'.cell? ⟨w4.heap.size, 1, none⟩ = some (.int .i64 0) ∧ w'.cell? ⟨w4.heap.size, 2, none⟩ = some (.slice A 1 1) ∧ w'.cell? ⟨w4.heap.size, 3, none⟩ = some (.int .i64 2) ∧ w'.cell? ⟨w4.heap.size, 4, none⟩ = some (.int .i64 0) ∧ w'.cell? ⟨w4.heap.size, 5, none⟩ = some (.slice B 1 1) ∧ w'.cell? ⟨w4.heap.size, 6, none⟩ = some (.int .i64 7) ∧ w'.cell? ⟨w4.heap.size, 7, none⟩ = some (.int .i64 0) ∧ w'.cell? ⟨w4.heap.size, 8, none⟩ = some (.slice C 1 1) ∧ w'.cell? ⟨w4.heap.size, 9, none⟩ = some (.int .i64 8) ∧ w'.cell? ⟨w4.heap.size, 10, none⟩ = some (.int .i64 0) ∧ w'.cell? ⟨w4.heap.size, 11, none⟩ = some (.slice D 1 1)) := fun w' hw => by
    have hB2 := Blk.below hB hw hB.lt
    exact ⟨hB2.cell 0, hB2.cell 1, hB2.cell 2, hB2.cell 3, hB2.cell 4, hB2.cell 5, hB2.cell 6, hB2.cell 7, hB2.cell 8, hB2.cell 9, hB2.cell 10, hB2.cell 11⟩
  clear hB
  obtain ⟨z0, z1, z2, z3, z4, z5, z6, z7, z8, z9, z10, z11⟩ := HC.out _ (Below.refl _ _)
  go_wp2_with fail
  clear z0 z1 z2 z3 z4 z5 z6 z7 z8 z9 z10 z11
  generalize (w4.alloc (.cells #[.int .i64 5, .int .i64 0, .slice A 1 1, .int .i64 2, .int .i64 0, .slice B 1 1, .int .i64 7, .int .i64 0, .slice C 1 1, .int .i64 8, .int .i64 0, .slice D 1 1] 28)) = w5 at *
  generalize w4.heap.size = p at *
  have BP : Hid (Below w5.heap.size w5 w5.drew) := (Below.refl _ _).drew
  clear hlt
  refine wp_region_held_drew (S := fun w' => Below w5.heap.size w5 w') (by kernel_rfl) BP.out (fun _ => ?_)
  generalize w5.drew = w6 at *
  refine wpAnyH_yes (i := 0) (d := 12) (v := ?_) rfl rfl (by kernel_rfl) (by kernel_rfl) (by kernel_rfl) (fun _ _ _ h => h) (by rfl) ?_ BP.out ?_
  rotate_left
  · intro w' hSw; skip; go_simp <;> with_reducible rfl
  simp only [Act.put, List.setIfInBounds_toArray, List.set_cons_zero, List.set_cons_succ]
  refine wpAnyH_yes (i := 1) (d := 13) (v := ?_) rfl rfl (by kernel_rfl) (by kernel_rfl) (by kernel_rfl) (fun _ _ _ h => h) (by rfl) ?_ BP.out ?_
  rotate_left
  · intro w' hSw; skip; go_simp <;> with_reducible rfl
  simp only [Act.put, List.setIfInBounds_toArray, List.set_cons_zero, List.set_cons_succ]
  refine wpAnyH_yes (i := 2) (d := 14) (v := ?_) rfl rfl (by kernel_rfl) (by kernel_rfl) (by kernel_rfl) (fun _ _ _ h => h) (by rfl) ?_ BP.out ?_
  rotate_left
  · intro w' hSw; obtain ⟨z0, z1, z2, z3, z4, z5, z6, z7, z8, z9, z10, z11⟩ := HC.out _ hSw; go_simp <;> with_reducible rfl
  simp only [Act.put, List.setIfInBounds_toArray, List.set_cons_zero, List.set_cons_succ]
  refine wpAnyH_yes (i := 3) (d := 15) (v := ?_) rfl rfl (by kernel_rfl) (by kernel_rfl) (by kernel_rfl) (fun _ _ _ h => h) (by rfl) ?_ BP.out ?_
  rotate_left
  · intro w' hSw; skip; go_simp <;> with_reducible rfl
  simp only [Act.put, List.setIfInBounds_toArray, List.set_cons_zero, List.set_cons_succ]
  refine wpAnyH_yes (i := 4) (d := 16) (v := ?_) rfl rfl (by kernel_rfl) (by kernel_rfl) (by kernel_rfl) (fun _ _ _ h => h) (by rfl) ?_ BP.out ?_
  rotate_left
  · intro w' hSw; skip; go_simp <;> with_reducible rfl
  simp only [Act.put, List.setIfInBounds_toArray, List.set_cons_zero, List.set_cons_succ]
  refine wpAnyH_yes (i := 5) (d := 17) (v := ?_) rfl rfl (by kernel_rfl) (by kernel_rfl) (by kernel_rfl) (fun _ _ _ h => h) (by rfl) ?_ BP.out ?_
  rotate_left
  · intro w' hSw; obtain ⟨z0, z1, z2, z3, z4, z5, z6, z7, z8, z9, z10, z11⟩ := HC.out _ hSw; go_simp <;> with_reducible rfl
  simp only [Act.put, List.setIfInBounds_toArray, List.set_cons_zero, List.set_cons_succ]
  refine wpAnyH_one (i := 6) (by kernel_rfl) rfl (by rfl) (fun K hK => ?_)
  go_simp
  refine (above_at ⟨2, 0, B, 1, 1, ge 5⟩ ⟨5, 0, A, 1, 1, ge 9⟩ rfl (Nat.le_of_ble_eq_true rfl) (ge_few (by decide)) rfl (Nat.le_of_ble_eq_true rfl) (ge_few (by decide)) w6 ((HL.out.below BP.out).2 ⟨2, 0, B, 1, 1, ge 5⟩ (by simp [l4])).2.2 ((HL.out.below BP.out).2 ⟨5, 0, A, 1, 1, ge 9⟩ (by simp [l4])).2.2 true (by show _ ↔ Po.Abv 2 (ge 5) 5 (ge 9); rw [ge_abv (by decide) (by decide)]; decide)).mono ?_
  rintro e w7 ⟨rfl, hb⟩
  replace BP := Lib.hid (below_next BP.out (Nat.le_refl _) hb)
  clear hb
  go_wp2_with fail
  refine hK.out _ _ BP.out ?_
  clear hK
  refine wpAnyH_yes (i := 7) (d := 19) (v := ?_) rfl rfl (by kernel_rfl) (by kernel_rfl) (by kernel_rfl) (fun _ _ _ h => h) (by rfl) ?_ BP.out ?_
  rotate_left
  · intro w' hSw; skip; go_simp <;> with_reducible rfl
  simp only [Act.put, List.setIfInBounds_toArray, List.set_cons_zero, List.set_cons_succ]
  refine wpAnyH_yes (i := 8) (d := 20) (v := ?_) rfl rfl (by kernel_rfl) (by kernel_rfl) (by kernel_rfl) (fun _ _ _ h => h) (by rfl) ?_ BP.out ?_
  rotate_left
  · intro w' hSw; skip; go_simp <;> with_reducible rfl
  simp only [Act.put, List.setIfInBounds_toArray, List.set_cons_zero, List.set_cons_succ]
  refine wpAnyH_yes (i := 9) (d := 21) (v := ?_) rfl rfl (by kernel_rfl) (by kernel_rfl) (by kernel_rfl) (fun _ _ _ h => h) (by rfl) ?_ BP.out ?_
  rotate_left
  · intro w' hSw; skip; go_simp <;> with_reducible rfl
  simp only [Act.put, List.setIfInBounds_toArray, List.set_cons_zero, List.set_cons_succ]
  refine wpAnyH_yes (i := 10) (d := 22) (v := ?_) rfl rfl (by kernel_rfl) (by kernel_rfl) (by kernel_rfl) (fun _ _ _ h => h) (by rfl) ?_ BP.out ?_
  rotate_left
  · intro w' hSw; obtain ⟨z0, z1, z2, z3, z4, z5, z6, z7, z8, z9, z10, z11⟩ := HC.out _ hSw; go_simp <;> with_reducible rfl
  simp only [Act.put, List.setIfInBounds_toArray, List.set_cons_zero, List.set_cons_succ]
  refine wpAnyH_yes (i := 11) (d := 23) (v := ?_) rfl rfl (by kernel_rfl) (by kernel_rfl) (by kernel_rfl) (fun _ _ _ h => h) (by rfl) ?_ BP.out ?_
  rotate_left
  · intro w' hSw; skip; go_simp <;> with_reducible rfl
  simp only [Act.put, List.setIfInBounds_toArray, List.set_cons_zero, List.set_cons_succ]
  refine wpAnyH_yes (i := 12) (d := 24) (v := ?_) rfl rfl (by kernel_rfl) (by kernel_rfl) (by kernel_rfl) (fun _ _ _ h => h) (by rfl) ?_ BP.out ?_
  rotate_left
  · intro w' hSw; skip; go_simp <;> with_reducible rfl
  simp only [Act.put, List.setIfInBounds_toArray, List.set_cons_zero, List.set_cons_succ]
  refine wpAnyH_yes (i := 13) (d := 25) (v := ?_) rfl rfl (by kernel_rfl) (by kernel_rfl) (by kernel_rfl) (fun _ _ _ h => h) (by rfl) ?_ BP.out ?_
  rotate_left
  · intro w' hSw; obtain ⟨z0, z1, z2, z3, z4, z5, z6, z7, z8, z9, z10, z11⟩ := HC.out _ hSw; go_simp <;> with_reducible rfl
  simp only [Act.put, List.setIfInBounds_toArray, List.set_cons_zero, List.set_cons_succ]
  refine wpAnyH_one (i := 14) (by kernel_rfl) rfl (by rfl) (fun K hK => ?_)
  go_simp
  refine (above_at ⟨5, 0, A, 1, 1, ge 9⟩ ⟨2, 0, B, 1, 1, ge 5⟩ rfl (Nat.le_of_ble_eq_true rfl) (ge_few (by decide)) rfl (Nat.le_of_ble_eq_true rfl) (ge_few (by decide)) w7 ((HL.out.below BP.out).2 ⟨5, 0, A, 1, 1, ge 9⟩ (by simp [l4])).2.2 ((HL.out.below BP.out).2 ⟨2, 0, B, 1, 1, ge 5⟩ (by simp [l4])).2.2 false (by show _ ↔ Po.Abv 5 (ge 9) 2 (ge 5); rw [ge_abv (by decide) (by decide)]; decide)).mono ?_
  rintro e w8 ⟨rfl, hb⟩
  replace BP := Lib.hid (below_next BP.out (Nat.le_refl _) hb)
  clear hb
  go_wp2_with fail
  refine hK.out _ _ BP.out ?_
  clear hK
  refine wpAnyH_yes (i := 15) (d := 27) (v := ?_) rfl rfl (by kernel_rfl) (by kernel_rfl) (by kernel_rfl) (fun _ _ _ h => h) (by rfl) ?_ BP.out ?_
  rotate_left
  · intro w' hSw; skip; go_simp <;> with_reducible rfl
  simp only [Act.put, List.setIfInBounds_toArray, List.set_cons_zero, List.set_cons_succ]
  refine wpAnyH_yes (i := 16) (d := 28) (v := ?_) rfl rfl (by kernel_rfl) (by kernel_rfl) (by kernel_rfl) (fun _ _ _ h => h) (by rfl) ?_ BP.out ?_
  rotate_left
  · intro w' hSw; skip; go_simp <;> with_reducible rfl
  simp only [Act.put, List.setIfInBounds_toArray, List.set_cons_zero, List.set_cons_succ]
  refine wpAnyH_yes (i := 17) (d := 29) (v := ?_) rfl rfl (by kernel_rfl) (by kernel_rfl) (by kernel_rfl) (fun _ _ _ h => h) (by rfl) ?_ BP.out ?_
  rotate_left
  · intro w' hSw; skip; go_simp <;> with_reducible rfl
  simp only [Act.put, List.setIfInBounds_toArray, List.set_cons_zero, List.set_cons_succ]
  refine wpAnyH_yes (i := 18) (d := 30) (v := ?_) rfl rfl (by kernel_rfl) (by kernel_rfl) (by kernel_rfl) (fun _ _ _ h => h) (by rfl) ?_ BP.out ?_
  rotate_left
  · intro w' hSw; skip; go_simp <;> with_reducible rfl
  simp only [Act.put, List.setIfInBounds_toArray, List.set_cons_zero, List.set_cons_succ]
  refine wpAnyH_yes (i := 19) (d := 31) (v := ?_) rfl rfl (by kernel_rfl) (by kernel_rfl) (by kernel_rfl) (fun _ _ _ h => h) (by rfl) ?_ BP.out ?_
  rotate_left
  · intro w' hSw; skip; go_simp <;> with_reducible rfl
  simp only [Act.put, List.setIfInBounds_toArray, List.set_cons_zero, List.set_cons_succ]
  refine wpAnyH_yes (i := 20) (d := 32) (v := ?_) rfl rfl (by kernel_rfl) (by kernel_rfl) (by kernel_rfl) (fun _ _ _ h => h) (by rfl) ?_ BP.out ?_
  rotate_left
  · intro w' hSw; obtain ⟨z0, z1, z2, z3, z4, z5, z6, z7, z8, z9, z10, z11⟩ := HC.out _ hSw; go_simp <;> with_reducible rfl
  simp only [Act.put, List.setIfInBounds_toArray, List.set_cons_zero, List.set_cons_succ]
  refine wpAnyH_yes (i := 21) (d := 33) (v := ?_) rfl rfl (by kernel_rfl) (by kernel_rfl) (by kernel_rfl) (fun _ _ _ h => h) (by rfl) ?_ BP.out ?_
  rotate_left
  · intro w' hSw; skip; go_simp <;> with_reducible rfl
  simp only [Act.put, List.setIfInBounds_toArray, List.set_cons_zero, List.set_cons_succ]
  refine wpAnyH_yes (i := 22) (d := 34) (v := ?_) rfl rfl (by kernel_rfl) (by kernel_rfl) (by kernel_rfl) (fun _ _ _ h => h) (by rfl) ?_ BP.out ?_
  rotate_left
  · intro w' hSw; skip; go_simp <;> with_reducible rfl
  simp only [Act.put, List.setIfInBounds_toArray, List.set_cons_zero, List.set_cons_succ]
  refine wpAnyH_yes (i := 23) (d := 35) (v := ?_) rfl rfl (by kernel_rfl) (by kernel_rfl) (by kernel_rfl) (fun _ _ _ h => h) (by rfl) ?_ BP.out ?_
  rotate_left
  · intro w' hSw; obtain ⟨z0, z1, z2, z3, z4, z5, z6, z7, z8, z9, z10, z11⟩ := HC.out _ hSw; go_simp <;> with_reducible rfl
  simp only [Act.put, List.setIfInBounds_toArray, List.set_cons_zero, List.set_cons_succ]
  refine wpAnyH_one (i := 24) (by kernel_rfl) rfl (by rfl) (fun K hK => ?_)
  go_simp
  refine (above_at ⟨2, 0, B, 1, 1, ge 5⟩ ⟨8, 0, D, 1, 1, ge 5⟩ rfl (Nat.le_of_ble_eq_true rfl) (ge_few (by decide)) rfl (Nat.le_of_ble_eq_true rfl) (ge_few (by decide)) w8 ((HL.out.below BP.out).2 ⟨2, 0, B, 1, 1, ge 5⟩ (by simp [l4])).2.2 ((HL.out.below BP.out).2 ⟨8, 0, D, 1, 1, ge 5⟩ (by simp [l4])).2.2 true (by show _ ↔ Po.Abv 2 (ge 5) 8 (ge 5); rw [ge_abv (by decide) (by decide)]; decide)).mono ?_
  rintro e w9 ⟨rfl, hb⟩
  replace BP := Lib.hid (below_next BP.out (Nat.le_refl _) hb)
  clear hb
  go_wp2_with fail
  refine hK.out _ _ BP.out ?_
  clear hK
  refine wpAnyH_yes (i := 25) (d := 37) (v := ?_) rfl rfl (by kernel_rfl) (by kernel_rfl) (by kernel_rfl) (fun _ _ _ h => h) (by rfl) ?_ BP.out ?_
  rotate_left
  · intro w' hSw; skip; go_simp <;> with_reducible rfl
  simp only [Act.put, List.setIfInBounds_toArray, List.set_cons_zero, List.set_cons_succ]
  refine wpAnyH_yes (i := 26) (d := 38) (v := ?_) rfl rfl (by kernel_rfl) (by kernel_rfl) (by kernel_rfl) (fun _ _ _ h => h) (by rfl) ?_ BP.out ?_
  rotate_left
  · intro w' hSw; skip; go_simp <;> with_reducible rfl
  simp only [Act.put, List.setIfInBounds_toArray, List.set_cons_zero, List.set_cons_succ]
  refine wpAnyH_yes (i := 27) (d := 39) (v := ?_) rfl rfl (by kernel_rfl) (by kernel_rfl) (by kernel_rfl) (fun _ _ _ h => h) (by rfl) ?_ BP.out ?_
  rotate_left
  · intro w' hSw; skip; go_simp <;> with_reducible rfl
  simp only [Act.put, List.setIfInBounds_toArray, List.set_cons_zero, List.set_cons_succ]
  refine wpAnyH_yes (i := 28) (d := 40) (v := ?_) rfl rfl (by kernel_rfl) (by kernel_rfl) (by kernel_rfl) (fun _ _ _ h => h) (by rfl) ?_ BP.out ?_
  rotate_left
  · intro w' hSw; skip; go_simp <;> with_reducible rfl
  simp only [Act.put, List.setIfInBounds_toArray, List.set_cons_zero, List.set_cons_succ]
  refine wpAnyH_yes (i := 29) (d := 41) (v := ?_) rfl rfl (by kernel_rfl) (by kernel_rfl) (by kernel_rfl) (fun _ _ _ h => h) (by rfl) ?_ BP.out ?_
  rotate_left
  · intro w' hSw; obtain ⟨z0, z1, z2, z3, z4, z5, z6, z7, z8, z9, z10, z11⟩ := HC.out _ hSw; go_simp <;> with_reducible rfl
  simp only [Act.put, List.setIfInBounds_toArray, List.set_cons_zero, List.set_cons_succ]
  refine wpAnyH_yes (i := 30) (d := 42) (v := ?_) rfl rfl (by kernel_rfl) (by kernel_rfl) (by kernel_rfl) (fun _ _ _ h => h) (by rfl) ?_ BP.out ?_
  rotate_left
  · intro w' hSw; skip; go_simp <;> with_reducible rfl
  simp only [Act.put, List.setIfInBounds_toArray, List.set_cons_zero, List.set_cons_succ]
  refine wpAnyH_yes (i := 31) (d := 43) (v := ?_) rfl rfl (by kernel_rfl) (by kernel_rfl) (by kernel_rfl) (fun _ _ _ h => h) (by rfl) ?_ BP.out ?_
  rotate_left
  · intro w' hSw; skip; go_simp <;> with_reducible rfl
  simp only [Act.put, List.setIfInBounds_toArray, List.set_cons_zero, List.set_cons_succ]
  refine wpAnyH_yes (i := 32) (d := 44) (v := ?_) rfl rfl (by kernel_rfl) (by kernel_rfl) (by kernel_rfl) (fun _ _ _ h => h) (by rfl) ?_ BP.out ?_
  rotate_left
  · intro w' hSw; obtain ⟨z0, z1, z2, z3, z4, z5, z6, z7, z8, z9, z10, z11⟩ := HC.out _ hSw; go_simp <;> with_reducible rfl
  simp only [Act.put, List.setIfInBounds_toArray, List.set_cons_zero, List.set_cons_succ]
  refine wpAnyH_one (i := 33) (by kernel_rfl) rfl (by rfl) (fun K hK => ?_)
  go_simp
  refine (above_at ⟨8, 0, D, 1, 1, ge 5⟩ ⟨2, 0, B, 1, 1, ge 5⟩ rfl (Nat.le_of_ble_eq_true rfl) (ge_few (by decide)) rfl (Nat.le_of_ble_eq_true rfl) (ge_few (by decide)) w9 ((HL.out.below BP.out).2 ⟨8, 0, D, 1, 1, ge 5⟩ (by simp [l4])).2.2 ((HL.out.below BP.out).2 ⟨2, 0, B, 1, 1, ge 5⟩ (by simp [l4])).2.2 false (by show _ ↔ Po.Abv 8 (ge 5) 2 (ge 5); rw [ge_abv (by decide) (by decide)]; decide)).mono ?_
  rintro e w10 ⟨rfl, hb⟩
  replace BP := Lib.hid (below_next BP.out (Nat.le_refl _) hb)
  clear hb
  go_wp2_with fail
  refine hK.out _ _ BP.out ?_
  clear hK
  refine wpAnyH_yes (i := 34) (d := 46) (v := ?_) rfl rfl (by kernel_rfl) (by kernel_rfl) (by kernel_rfl) (fun _ _ _ h => h) (by rfl) ?_ BP.out ?_
  rotate_left
  · intro w' hSw; skip; go_simp <;> with_reducible rfl
  simp only [Act.put, List.setIfInBounds_toArray, List.set_cons_zero, List.set_cons_succ]
  refine wpAnyH_yes (i := 35) (d := 47) (v := ?_) rfl rfl (by kernel_rfl) (by kernel_rfl) (by kernel_rfl) (fun _ _ _ h => h) (by rfl) ?_ BP.out ?_
  rotate_left
  · intro w' hSw; skip; go_simp <;> with_reducible rfl
  simp only [Act.put, List.setIfInBounds_toArray, List.set_cons_zero, List.set_cons_succ]
  refine wpAnyH_yes (i := 36) (d := 48) (v := ?_) rfl rfl (by kernel_rfl) (by kernel_rfl) (by kernel_rfl) (fun _ _ _ h => h) (by rfl) ?_ BP.out ?_
  rotate_left
  · intro w' hSw; skip; go_simp <;> with_reducible rfl
  simp only [Act.put, List.setIfInBounds_toArray, List.set_cons_zero, List.set_cons_succ]
  refine wpAnyH_yes (i := 37) (d := 49) (v := ?_) rfl rfl (by kernel_rfl) (by kernel_rfl) (by kernel_rfl) (fun _ _ _ h => h) (by rfl) ?_ BP.out ?_
  rotate_left
  · intro w' hSw; skip; go_simp <;> with_reducible rfl
  simp only [Act.put, List.setIfInBounds_toArray, List.set_cons_zero, List.set_cons_succ]
  refine wpAnyH_pr (i := 38) (j := 39) (by kernel_rfl) rfl rfl (by rfl) (by rfl) (fun Ka hKa => ?_) (fun Kb hKb => ?_)
  · skip
    go_simp
    refine (tops_at (some ⟨p, 0, none⟩) (l4 A B C D) 4 4 rfl (by decide) (l4_few A B C D) w10 (HL.out.below BP.out) q4 (l4_abvs A B C D)).mono ?_
    rintro e w11 ⟨T, m, d, rfl, hm, hmd, hrt, hb⟩
    rw [l4_id, l4_tops] at hm hrt
    obtain rfl : m = 1 := hm.symm
    have HT := Lib.hid hrt
    clear hm hrt hmd
    replace BP := Lib.hid (below_next BP.out (Nat.le_refl _) hb)
    clear hb
    go_wp2_with fail
    refine hKa.out _ _ BP.out ?_
    clear hKa
    refine wpAnyH_one (i := 39) (by kernel_rfl) rfl (by rfl) (fun K hK => ?_)
    go_simp
    have hb : Below w11.heap.size w11 (w11.alloc (.cells #[.int .i64 7] 3)) := (gr1 w11 _).below
    have HI := Lib.hid (rdz_lit layI w11 [7] 3 #[.int .i64 7] rfl)
    replace HT := Lib.hid (RdZ.below HT.out hb)
    replace BP := Lib.hid (below_next BP.out (Nat.le_refl _) hb)
    clear hb
    generalize (w11.alloc (.cells #[.int .i64 7] 3)) = w12 at *
    generalize w11.heap.size = g12 at *
    refine hK.out _ _ BP.out ?_
    clear hK
    refine wpAnyH_one (i := 40) (by kernel_rfl) rfl (by rfl) (fun K hK => ?_)
    go_simp
    refine (ints_at T [7] 1 d rfl _ [7] 1 1 rfl (by decide) w12 HT.out HI.out true (by decide)).mono ?_
    rintro e w13 ⟨rfl, hb⟩
    replace BP := Lib.hid (below_next BP.out (Nat.le_refl _) hb)
    clear hb
    go_wp2_with fail
    refine hK.out _ _ BP.out ?_
    clear hK
    clear HT HI
    refine wpAnyH_yes (i := 41) (d := 53) (v := ?_) rfl rfl (by kernel_rfl) (by kernel_rfl) (by kernel_rfl) (fun _ _ _ h => h) (by rfl) ?_ BP.out ?_
    rotate_left
    · intro w' hSw; skip; go_simp <;> with_reducible rfl
    simp only [Act.put, List.setIfInBounds_toArray, List.set_cons_zero, List.set_cons_succ]
    refine wpAnyH_yes (i := 42) (d := 54) (v := ?_) rfl rfl (by kernel_rfl) (by kernel_rfl) (by kernel_rfl) (fun _ _ _ h => h) (by rfl) ?_ BP.out ?_
    rotate_left
    · intro w' hSw; skip; go_simp <;> with_reducible rfl
    simp only [Act.put, List.setIfInBounds_toArray, List.set_cons_zero, List.set_cons_succ]
    refine wpAnyH_yes (i := 43) (d := 55) (v := ?_) rfl rfl (by kernel_rfl) (by kernel_rfl) (by kernel_rfl) (fun _ _ _ h => h) (by rfl) ?_ BP.out ?_
    rotate_left
    · intro w' hSw; skip; go_simp <;> with_reducible rfl
    simp only [Act.put, List.setIfInBounds_toArray, List.set_cons_zero, List.set_cons_succ]
    refine wpAnyH_yes (i := 45) (d := 57) (v := ?_) rfl rfl (by kernel_rfl) (by kernel_rfl) (by kernel_rfl) (fun _ _ _ h => h) (by rfl) ?_ BP.out ?_
    rotate_left
    · intro w' hSw; skip; go_simp <;> with_reducible rfl
    simp only [Act.put, List.setIfInBounds_toArray, List.set_cons_zero, List.set_cons_succ]
    refine wpAnyH_yes (i := 46) (d := 58) (v := ?_) rfl rfl (by kernel_rfl) (by kernel_rfl) (by kernel_rfl) (fun _ _ _ h => h) (by rfl) ?_ BP.out ?_
    rotate_left
    · intro w' hSw; skip; go_simp <;> with_reducible rfl
    simp only [Act.put, List.setIfInBounds_toArray, List.set_cons_zero, List.set_cons_succ]
    refine wpAnyH_yes (i := 47) (d := 59) (v := ?_) rfl rfl (by kernel_rfl) (by kernel_rfl) (by kernel_rfl) (fun _ _ _ h => h) (by rfl) ?_ BP.out ?_
    rotate_left
    · intro w' hSw; skip; go_simp <;> with_reducible rfl
    simp only [Act.put, List.setIfInBounds_toArray, List.set_cons_zero, List.set_cons_succ]
    refine wpAnyH_pr (i := 44) (j := 48) (by kernel_rfl) rfl rfl (by rfl) (by rfl) (fun Ka hKa => ?_) (fun Kb hKb => ?_)
    · skip
      go_simp
      refine (edges_at (some ⟨p, 0, none⟩) (l4 A B C D) 4 4 rfl (by decide) (l4_few A B C D) w13 (HL.out.below BP.out) q4 (l4_abvs A B C D)).mono ?_
      rintro e w14 ⟨T, m, d, rfl, hm, hmd, hrt, hb⟩
      rw [l4_id, l4_edges] at hm hrt
      obtain rfl : m = 3 := hm.symm
      have HT := Lib.hid (rdz_own hrt)
      clear hm hrt hmd
      replace BP := Lib.hid (below_next BP.out (Nat.le_refl _) hb)
      clear hb
      go_wp2_with fail
      refine hKa.out _ _ BP.out ?_
      clear hKa
      refine wpAnyH_one (i := 48) (by kernel_rfl) rfl (by rfl) (fun K hK => ?_)
      go_simp
      have hb : Below w14.heap.size w14 (w14.alloc (.cells #[.int .i64 2, .int .i64 8, .int .i64 7, .int .i64 2, .int .i64 8, .int .i64 5] 38)) := (gr1 w14 _).below
      have HI := Lib.hid (rdz_lit layN w14 [(2, 8), (7, 2), (8, 5)] 38 #[.int .i64 2, .int .i64 8, .int .i64 7, .int .i64 2, .int .i64 8, .int .i64 5] rfl)
      replace HT := Lib.hid (RdZ.below HT.out hb)
      replace BP := Lib.hid (below_next BP.out (Nat.le_refl _) hb)
      clear hb
      generalize (w14.alloc (.cells #[.int .i64 2, .int .i64 8, .int .i64 7, .int .i64 2, .int .i64 8, .int .i64 5] 38)) = w15 at *
      generalize w14.heap.size = g15 at *
      refine hK.out _ _ BP.out ?_
      clear hK
      refine wpAnyH_one (i := 49) (by kernel_rfl) rfl (by rfl) (fun K hK => ?_)
      go_simp
      refine (pairs_at T [(2, 8), (7, 2), (8, 5)] 3 d rfl _ [(2, 8), (7, 2), (8, 5)] 3 3 rfl (by decide) w15 HT.out HI.out true (by decide)).mono ?_
      rintro e w16 ⟨rfl, hb⟩
      replace BP := Lib.hid (below_next BP.out (Nat.le_refl _) hb)
      clear hb
      go_wp2_with fail
      refine hK.out _ _ BP.out ?_
      clear hK
      clear HT HI
      refine wpAnyH_yes (i := 50) (d := 62) (v := ?_) rfl rfl (by kernel_rfl) (by kernel_rfl) (by kernel_rfl) (fun _ _ _ h => h) (by rfl) ?_ BP.out ?_
      rotate_left
      · intro w' hSw; skip; go_simp <;> with_reducible rfl
      simp only [Act.put, List.setIfInBounds_toArray, List.set_cons_zero, List.set_cons_succ]
      refine wpAnyH_yes (i := 51) (d := 63) (v := ?_) rfl rfl (by kernel_rfl) (by kernel_rfl) (by kernel_rfl) (fun _ _ _ h => h) (by rfl) ?_ BP.out ?_
      rotate_left
      · intro w' hSw; skip; go_simp <;> with_reducible rfl
      simp only [Act.put, List.setIfInBounds_toArray, List.set_cons_zero, List.set_cons_succ]
      refine wpAnyH_one (i := 52) (by kernel_rfl) rfl (by rfl) (fun K hK => ?_)
      go_simp
      refine (tops_at none [] 0 0 rfl (by decide) (fun x hx => by cases hx) w16 (RdEn.nil _ _) (fun _ _ => false) (fun i k hi => by omega)).mono ?_
      rintro e w17 ⟨T, m, d, rfl, hm, hmd, hrt, hb⟩
      obtain rfl : m = 0 := by rw [← hm]; rfl
      clear hm hrt hmd
      replace BP := Lib.hid (below_next BP.out (Nat.le_refl _) hb)
      clear hb
      go_wp2_with fail
      refine hK.out _ _ BP.out ?_
      clear hK
      refine wpAnyH_yes (i := 53) (d := 65) (v := ?_) rfl rfl (by kernel_rfl) (by kernel_rfl) (by kernel_rfl) (fun _ _ _ h => h) (by rfl) ?_ BP.out ?_
      rotate_left
      · intro w' hSw; skip; go_simp <;> with_reducible rfl
      simp only [Act.put, List.setIfInBounds_toArray, List.set_cons_zero, List.set_cons_succ]
      refine wpAnyH_yes (i := 54) (d := 66) (v := ?_) rfl rfl (by kernel_rfl) (by kernel_rfl) (by kernel_rfl) (fun _ _ _ h => h) (by rfl) ?_ BP.out ?_
      rotate_left
      · intro w' hSw; skip; go_simp <;> with_reducible rfl
      simp only [Act.put, List.setIfInBounds_toArray, List.set_cons_zero, List.set_cons_succ]
      refine wpAnyH_yes (i := 55) (d := 67) (v := ?_) rfl rfl (by kernel_rfl) (by kernel_rfl) (by kernel_rfl) (fun _ _ _ h => h) (by rfl) ?_ BP.out ?_
      rotate_left
      · intro w' hSw; skip; go_simp <;> with_reducible rfl
      simp only [Act.put, List.setIfInBounds_toArray, List.set_cons_zero, List.set_cons_succ]
      refine wpAnyH_yes (i := 56) (d := 68) (v := ?_) rfl rfl (by kernel_rfl) (by kernel_rfl) (by kernel_rfl) (fun _ _ _ h => h) (by rfl) ?_ BP.out ?_
      rotate_left
      · intro w' hSw; skip; go_simp <;> with_reducible rfl
      simp only [Act.put, List.setIfInBounds_toArray, List.set_cons_zero, List.set_cons_succ]
      refine wpAnyH_yes (i := 57) (d := 69) (v := ?_) rfl rfl (by kernel_rfl) (by kernel_rfl) (by kernel_rfl) (fun _ _ _ h => h) (by rfl) ?_ BP.out ?_
      rotate_left
      · intro w' hSw; skip; go_simp <;> with_reducible rfl
      simp only [Act.put, List.setIfInBounds_toArray, List.set_cons_zero, List.set_cons_succ]
      refine wpAnyH_yes (i := 58) (d := 70) (v := ?_) rfl rfl (by kernel_rfl) (by kernel_rfl) (by kernel_rfl) (fun _ _ _ h => h) (by rfl) ?_ BP.out ?_
      rotate_left
      · intro w' hSw; skip; go_simp <;> with_reducible rfl
      simp only [Act.put, List.setIfInBounds_toArray, List.set_cons_zero, List.set_cons_succ]
      refine wpAnyH_yes (i := 59) (d := 71) (v := ?_) rfl rfl (by kernel_rfl) (by kernel_rfl) (by kernel_rfl) (fun _ _ _ h => h) (by rfl) ?_ BP.out ?_
      rotate_left
      · intro w' hSw; obtain ⟨z0, z1, z2, z3, z4, z5, z6, z7, z8, z9, z10, z11⟩ := HC.out _ hSw; go_simp <;> with_reducible rfl
      simp only [Act.put, List.setIfInBounds_toArray, List.set_cons_zero, List.set_cons_succ]
      refine wpAnyH_yes (i := 60) (d := 72) (v := ?_) rfl rfl (by kernel_rfl) (by kernel_rfl) (by kernel_rfl) (fun _ _ _ h => h) (by rfl) ?_ BP.out ?_
      rotate_left
      · intro w' hSw; skip; go_simp <;> with_reducible rfl
      simp only [Act.put, List.setIfInBounds_toArray, List.set_cons_zero, List.set_cons_succ]
      refine wpAnyH_yes (i := 61) (d := 73) (v := ?_) rfl rfl (by kernel_rfl) (by kernel_rfl) (by kernel_rfl) (fun _ _ _ h => h) (by rfl) ?_ BP.out ?_
      rotate_left
      · intro w' hSw; skip; go_simp <;> with_reducible rfl
      simp only [Act.put, List.setIfInBounds_toArray, List.set_cons_zero, List.set_cons_succ]
      refine wpAnyH_yes (i := 62) (d := 74) (v := ?_) rfl rfl (by kernel_rfl) (by kernel_rfl) (by kernel_rfl) (fun _ _ _ h => h) (by rfl) ?_ BP.out ?_
      rotate_left
      · intro w' hSw; obtain ⟨z0, z1, z2, z3, z4, z5, z6, z7, z8, z9, z10, z11⟩ := HC.out _ hSw; go_simp <;> with_reducible rfl
      simp only [Act.put, List.setIfInBounds_toArray, List.set_cons_zero, List.set_cons_succ]
      refine wpAnyH_one (i := 63) (by kernel_rfl) rfl (by rfl) (fun K hK => ?_)
      go_simp
      refine (above_at ⟨5, 0, A, 1, 1, ge 9⟩ ⟨5, 0, A, 1, 1, ge 9⟩ rfl (Nat.le_of_ble_eq_true rfl) (ge_few (by decide)) rfl (Nat.le_of_ble_eq_true rfl) (ge_few (by decide)) w17 ((HL.out.below BP.out).2 ⟨5, 0, A, 1, 1, ge 9⟩ (by simp [l4])).2.2 ((HL.out.below BP.out).2 ⟨5, 0, A, 1, 1, ge 9⟩ (by simp [l4])).2.2 false (by show _ ↔ Po.Abv 5 (ge 9) 5 (ge 9); rw [ge_abv (by decide) (by decide)]; decide)).mono ?_
      rintro e w18 ⟨rfl, hb⟩
      replace BP := Lib.hid (below_next BP.out (Nat.le_refl _) hb)
      clear hb
      go_wp2_with fail
      refine hK.out _ _ BP.out ?_
      clear hK
      refine wpAnyH_yes (i := 64) (d := 76) (v := ?_) rfl rfl (by kernel_rfl) (by kernel_rfl) (by kernel_rfl) (fun _ _ _ h => h) (by rfl) ?_ BP.out ?_
      rotate_left
      · intro w' hSw; skip; go_simp <;> with_reducible rfl
      simp only [Act.put, List.setIfInBounds_toArray, List.set_cons_zero, List.set_cons_succ]
      refine wpAnyH_yes (i := 65) (d := 77) (v := ?_) rfl rfl (by kernel_rfl) (by kernel_rfl) (by kernel_rfl) (fun _ _ _ h => h) (by rfl) ?_ BP.out ?_
      rotate_left
      · intro w' hSw; skip; go_simp <;> with_reducible rfl
      simp only [Act.put, List.setIfInBounds_toArray, List.set_cons_zero, List.set_cons_succ]
      refine wpAnyH_yes (i := 66) (d := 0) (v := ?_) rfl rfl (by kernel_rfl) (by kernel_rfl) (by kernel_rfl) (fun _ _ _ h => h) (by rfl) ?_ BP.out ?_
      rotate_left
      · intro w' hSw; skip; go_simp <;> with_reducible rfl
      simp only [Act.put, List.setIfInBounds_toArray, List.set_cons_zero]
      refine wpAnyH_done (by kernel_rfl) ?_ _
      go_wp2_with fail
      go_ret
      exact ⟨rfl, below_next BB.out (Nat.le_refl _) BP.out⟩
    · skip
      go_simp
      have hb : Below w13.heap.size w13 (w13.alloc (.cells #[.int .i64 2, .int .i64 8, .int .i64 7, .int .i64 2, .int .i64 8, .int .i64 5] 38)) := (gr1 w13 _).below
      have HI := Lib.hid (rdz_lit layN w13 [(2, 8), (7, 2), (8, 5)] 38 #[.int .i64 2, .int .i64 8, .int .i64 7, .int .i64 2, .int .i64 8, .int .i64 5] rfl)
      replace BP := Lib.hid (below_next BP.out (Nat.le_refl _) hb)
      clear hb
      generalize (w13.alloc (.cells #[.int .i64 2, .int .i64 8, .int .i64 7, .int .i64 2, .int .i64 8, .int .i64 5] 38)) = w14 at *
      generalize w13.heap.size = g14 at *
      refine hKb.out _ _ BP.out ?_
      clear hKb
      refine wpAnyH_one (i := 44) (by kernel_rfl) rfl (by rfl) (fun K hK => ?_)
      go_simp
      refine (edges_at (some ⟨p, 0, none⟩) (l4 A B C D) 4 4 rfl (by decide) (l4_few A B C D) w14 (HL.out.below BP.out) q4 (l4_abvs A B C D)).mono ?_
      rintro e w15 ⟨T, m, d, rfl, hm, hmd, hrt, hb⟩
      rw [l4_id, l4_edges] at hm hrt
      obtain rfl : m = 3 := hm.symm
      have HT := Lib.hid (rdz_own hrt)
      clear hm hrt hmd
      replace HI := Lib.hid (RdZ.below HI.out hb)
      replace BP := Lib.hid (below_next BP.out (Nat.le_refl _) hb)
      clear hb
      go_wp2_with fail
      refine hK.out _ _ BP.out ?_
      clear hK
      refine wpAnyH_one (i := 49) (by kernel_rfl) rfl (by rfl) (fun K hK => ?_)
      go_simp
      refine (pairs_at T [(2, 8), (7, 2), (8, 5)] 3 d rfl _ [(2, 8), (7, 2), (8, 5)] 3 3 rfl (by decide) w15 HT.out HI.out true (by decide)).mono ?_
      rintro e w16 ⟨rfl, hb⟩
      replace BP := Lib.hid (below_next BP.out (Nat.le_refl _) hb)
      clear hb
      go_wp2_with fail
      refine hK.out _ _ BP.out ?_
      clear hK
      clear HT HI
      refine wpAnyH_yes (i := 50) (d := 62) (v := ?_) rfl rfl (by kernel_rfl) (by kernel_rfl) (by kernel_rfl) (fun _ _ _ h => h) (by rfl) ?_ BP.out ?_
      rotate_left
      · intro w' hSw; skip; go_simp <;> with_reducible rfl
      simp only [Act.put, List.setIfInBounds_toArray, List.set_cons_zero, List.set_cons_succ]
      refine wpAnyH_yes (i := 51) (d := 63) (v := ?_) rfl rfl (by kernel_rfl) (by kernel_rfl) (by kernel_rfl) (fun _ _ _ h => h) (by rfl) ?_ BP.out ?_
      rotate_left
      · intro w' hSw; skip; go_simp <;> with_reducible rfl
      simp only [Act.put, List.setIfInBounds_toArray, List.set_cons_zero, List.set_cons_succ]
      refine wpAnyH_one (i := 52) (by kernel_rfl) rfl (by rfl) (fun K hK => ?_)
      go_simp
      refine (tops_at none [] 0 0 rfl (by decide) (fun x hx => by cases hx) w16 (RdEn.nil _ _) (fun _ _ => false) (fun i k hi => by omega)).mono ?_
      rintro e w17 ⟨T, m, d, rfl, hm, hmd, hrt, hb⟩
      obtain rfl : m = 0 := by rw [← hm]; rfl
      clear hm hrt hmd
      replace BP := Lib.hid (below_next BP.out (Nat.le_refl _) hb)
      clear hb
      go_wp2_with fail
      refine hK.out _ _ BP.out ?_
      clear hK
      refine wpAnyH_yes (i := 53) (d := 65) (v := ?_) rfl rfl (by kernel_rfl) (by kernel_rfl) (by kernel_rfl) (fun _ _ _ h => h) (by rfl) ?_ BP.out ?_
      rotate_left
      · intro w' hSw; skip; go_simp <;> with_reducible rfl
      simp only [Act.put, List.setIfInBounds_toArray, List.set_cons_zero, List.set_cons_succ]
      refine wpAnyH_yes (i := 54) (d := 66) (v := ?_) rfl rfl (by kernel_rfl) (by kernel_rfl) (by kernel_rfl) (fun _ _ _ h => h) (by rfl) ?_ BP.out ?_
      rotate_left
      · intro w' hSw; skip; go_simp <;> with_reducible rfl
      simp only [Act.put, List.setIfInBounds_toArray, List.set_cons_zero, List.set_cons_succ]
      refine wpAnyH_yes (i := 55) (d := 67) (v := ?_) rfl rfl (by kernel_rfl) (by kernel_rfl) (by kernel_rfl) (fun _ _ _ h => h) (by rfl) ?_ BP.out ?_
      rotate_left
      · intro w' hSw; skip; go_simp <;> with_reducible rfl
      simp only [Act.put, List.setIfInBounds_toArray, List.set_cons_zero, List.set_cons_succ]
      refine wpAnyH_yes (i := 56) (d := 68) (v := ?_) rfl rfl (by kernel_rfl) (by kernel_rfl) (by kernel_rfl) (fun _ _ _ h => h) (by rfl) ?_ BP.out ?_
      rotate_left
      · intro w' hSw; skip; go_simp <;> with_reducible rfl
      simp only [Act.put, List.setIfInBounds_toArray, List.set_cons_zero, List.set_cons_succ]
      refine wpAnyH_yes (i := 57) (d := 69) (v := ?_) rfl rfl (by kernel_rfl) (by kernel_rfl) (by kernel_rfl) (fun _ _ _ h => h) (by rfl) ?_ BP.out ?_
      rotate_left
      · intro w' hSw; skip; go_simp <;> with_reducible rfl
      simp only [Act.put, List.setIfInBounds_toArray, List.set_cons_zero, List.set_cons_succ]
      refine wpAnyH_yes (i := 58) (d := 70) (v := ?_) rfl rfl (by kernel_rfl) (by kernel_rfl) (by kernel_rfl) (fun _ _ _ h => h) (by rfl) ?_ BP.out ?_
      rotate_left
      · intro w' hSw; skip; go_simp <;> with_reducible rfl
      simp only [Act.put, List.setIfInBounds_toArray, List.set_cons_zero, List.set_cons_succ]
      refine wpAnyH_yes (i := 59) (d := 71) (v := ?_) rfl rfl (by kernel_rfl) (by kernel_rfl) (by kernel_rfl) (fun _ _ _ h => h) (by rfl) ?_ BP.out ?_
      rotate_left
      · intro w' hSw; obtain ⟨z0, z1, z2, z3, z4, z5, z6, z7, z8, z9, z10, z11⟩ := HC.out _ hSw; go_simp <;> with_reducible rfl
      simp only [Act.put, List.setIfInBounds_toArray, List.set_cons_zero, List.set_cons_succ]
      refine wpAnyH_yes (i := 60) (d := 72) (v := ?_) rfl rfl (by kernel_rfl) (by kernel_rfl) (by kernel_rfl) (fun _ _ _ h => h) (by rfl) ?_ BP.out ?_
      rotate_left
      · intro w' hSw; skip; go_simp <;> with_reducible rfl
      simp only [Act.put, List.setIfInBounds_toArray, List.set_cons_zero, List.set_cons_succ]
      refine wpAnyH_yes (i := 61) (d := 73) (v := ?_) rfl rfl (by kernel_rfl) (by kernel_rfl) (by kernel_rfl) (fun _ _ _ h => h) (by rfl) ?_ BP.out ?_
      rotate_left
      · intro w' hSw; skip; go_simp <;> with_reducible rfl
      simp only [Act.put, List.setIfInBounds_toArray, List.set_cons_zero, List.set_cons_succ]
      refine wpAnyH_yes (i := 62) (d := 74) (v := ?_) rfl rfl (by kernel_rfl) (by kernel_rfl) (by kernel_rfl) (fun _ _ _ h => h) (by rfl) ?_ BP.out ?_
      rotate_left
      · intro w' hSw; obtain ⟨z0, z1, z2, z3, z4, z5, z6, z7, z8, z9, z10, z11⟩ := HC.out _ hSw; go_simp <;> with_reducible rfl
      simp only [Act.put, List.setIfInBounds_toArray, List.set_cons_zero, List.set_cons_succ]
      refine wpAnyH_one (i := 63) (by kernel_rfl) rfl (by rfl) (fun K hK => ?_)
      go_simp
      refine (above_at ⟨5, 0, A, 1, 1, ge 9⟩ ⟨5, 0, A, 1, 1, ge 9⟩ rfl (Nat.le_of_ble_eq_true rfl) (ge_few (by decide)) rfl (Nat.le_of_ble_eq_true rfl) (ge_few (by decide)) w17 ((HL.out.below BP.out).2 ⟨5, 0, A, 1, 1, ge 9⟩ (by simp [l4])).2.2 ((HL.out.below BP.out).2 ⟨5, 0, A, 1, 1, ge 9⟩ (by simp [l4])).2.2 false (by show _ ↔ Po.Abv 5 (ge 9) 5 (ge 9); rw [ge_abv (by decide) (by decide)]; decide)).mono ?_
      rintro e w18 ⟨rfl, hb⟩
      replace BP := Lib.hid (below_next BP.out (Nat.le_refl _) hb)
      clear hb
      go_wp2_with fail
      refine hK.out _ _ BP.out ?_
      clear hK
      refine wpAnyH_yes (i := 64) (d := 76) (v := ?_) rfl rfl (by kernel_rfl) (by kernel_rfl) (by kernel_rfl) (fun _ _ _ h => h) (by rfl) ?_ BP.out ?_
      rotate_left
      · intro w' hSw; skip; go_simp <;> with_reducible rfl
      simp only [Act.put, List.setIfInBounds_toArray, List.set_cons_zero, List.set_cons_succ]
      refine wpAnyH_yes (i := 65) (d := 77) (v := ?_) rfl rfl (by kernel_rfl) (by kernel_rfl) (by kernel_rfl) (fun _ _ _ h => h) (by rfl) ?_ BP.out ?_
      rotate_left
      · intro w' hSw; skip; go_simp <;> with_reducible rfl
      simp only [Act.put, List.setIfInBounds_toArray, List.set_cons_zero, List.set_cons_succ]
      refine wpAnyH_yes (i := 66) (d := 0) (v := ?_) rfl rfl (by kernel_rfl) (by kernel_rfl) (by kernel_rfl) (fun _ _ _ h => h) (by rfl) ?_ BP.out ?_
      rotate_left
      · intro w' hSw; skip; go_simp <;> with_reducible rfl
      simp only [Act.put, List.setIfInBounds_toArray, List.set_cons_zero]
      refine wpAnyH_done (by kernel_rfl) ?_ _
      go_wp2_with fail
      go_ret
      exact ⟨rfl, below_next BB.out (Nat.le_refl _) BP.out⟩
  · skip
    go_simp
    have hb : Below w10.heap.size w10 (w10.alloc (.cells #[.int .i64 7] 3)) := (gr1 w10 _).below
    have HI := Lib.hid (rdz_lit layI w10 [7] 3 #[.int .i64 7] rfl)
    replace BP := Lib.hid (below_next BP.out (Nat.le_refl _) hb)
    clear hb
    generalize (w10.alloc (.cells #[.int .i64 7] 3)) = w11 at *
    generalize w10.heap.size = g11 at *
    refine hKb.out _ _ BP.out ?_
    clear hKb
    refine wpAnyH_one (i := 38) (by kernel_rfl) rfl (by rfl) (fun K hK => ?_)
    go_simp
    refine (tops_at (some ⟨p, 0, none⟩) (l4 A B C D) 4 4 rfl (by decide) (l4_few A B C D) w11 (HL.out.below BP.out) q4 (l4_abvs A B C D)).mono ?_
    rintro e w12 ⟨T, m, d, rfl, hm, hmd, hrt, hb⟩
    rw [l4_id, l4_tops] at hm hrt
    obtain rfl : m = 1 := hm.symm
    have HT := Lib.hid hrt
    clear hm hrt hmd
    replace HI := Lib.hid (RdZ.below HI.out hb)
    replace BP := Lib.hid (below_next BP.out (Nat.le_refl _) hb)
    clear hb
    go_wp2_with fail
    refine hK.out _ _ BP.out ?_
    clear hK
    refine wpAnyH_one (i := 40) (by kernel_rfl) rfl (by rfl) (fun K hK => ?_)
    go_simp
    refine (ints_at T [7] 1 d rfl _ [7] 1 1 rfl (by decide) w12 HT.out HI.out true (by decide)).mono ?_
    rintro e w13 ⟨rfl, hb⟩
    replace BP := Lib.hid (below_next BP.out (Nat.le_refl _) hb)
    clear hb
    go_wp2_with fail
    refine hK.out _ _ BP.out ?_
    clear hK
    clear HT HI
    refine wpAnyH_yes (i := 41) (d := 53) (v := ?_) rfl rfl (by kernel_rfl) (by kernel_rfl) (by kernel_rfl) (fun _ _ _ h => h) (by rfl) ?_ BP.out ?_
    rotate_left
    · intro w' hSw; skip; go_simp <;> with_reducible rfl
    simp only [Act.put, List.setIfInBounds_toArray, List.set_cons_zero, List.set_cons_succ]
    refine wpAnyH_yes (i := 42) (d := 54) (v := ?_) rfl rfl (by kernel_rfl) (by kernel_rfl) (by kernel_rfl) (fun _ _ _ h => h) (by rfl) ?_ BP.out ?_
    rotate_left
    · intro w' hSw; skip; go_simp <;> with_reducible rfl
    simp only [Act.put, List.setIfInBounds_toArray, List.set_cons_zero, List.set_cons_succ]
    refine wpAnyH_yes (i := 43) (d := 55) (v := ?_) rfl rfl (by kernel_rfl) (by kernel_rfl) (by kernel_rfl) (fun _ _ _ h => h) (by rfl) ?_ BP.out ?_
    rotate_left
    · intro w' hSw; skip; go_simp <;> with_reducible rfl
    simp only [Act.put, List.setIfInBounds_toArray, List.set_cons_zero, List.set_cons_succ]
    refine wpAnyH_yes (i := 45) (d := 57) (v := ?_) rfl rfl (by kernel_rfl) (by kernel_rfl) (by kernel_rfl) (fun _ _ _ h => h) (by rfl) ?_ BP.out ?_
    rotate_left
    · intro w' hSw; skip; go_simp <;> with_reducible rfl
    simp only [Act.put, List.setIfInBounds_toArray, List.set_cons_zero, List.set_cons_succ]
    refine wpAnyH_yes (i := 46) (d := 58) (v := ?_) rfl rfl (by kernel_rfl) (by kernel_rfl) (by kernel_rfl) (fun _ _ _ h => h) (by rfl) ?_ BP.out ?_
    rotate_left
    · intro w' hSw; skip; go_simp <;> with_reducible rfl
    simp only [Act.put, List.setIfInBounds_toArray, List.set_cons_zero, List.set_cons_succ]
    refine wpAnyH_yes (i := 47) (d := 59) (v := ?_) rfl rfl (by kernel_rfl) (by kernel_rfl) (by kernel_rfl) (fun _ _ _ h => h) (by rfl) ?_ BP.out ?_
    rotate_left
    · intro w' hSw; skip; go_simp <;> with_reducible rfl
    simp only [Act.put, List.setIfInBounds_toArray, List.set_cons_zero, List.set_cons_succ]
    refine wpAnyH_pr (i := 44) (j := 48) (by kernel_rfl) rfl rfl (by rfl) (by rfl) (fun Ka hKa => ?_) (fun Kb hKb => ?_)
    · skip
      go_simp
      refine (edges_at (some ⟨p, 0, none⟩) (l4 A B C D) 4 4 rfl (by decide) (l4_few A B C D) w13 (HL.out.below BP.out) q4 (l4_abvs A B C D)).mono ?_
      rintro e w14 ⟨T, m, d, rfl, hm, hmd, hrt, hb⟩
      rw [l4_id, l4_edges] at hm hrt
      obtain rfl : m = 3 := hm.symm
      have HT := Lib.hid (rdz_own hrt)
      clear hm hrt hmd
      replace BP := Lib.hid (below_next BP.out (Nat.le_refl _) hb)
      clear hb
      go_wp2_with fail
      refine hKa.out _ _ BP.out ?_
      clear hKa
      refine wpAnyH_one (i := 48) (by kernel_rfl) rfl (by rfl) (fun K hK => ?_)
      go_simp
      have hb : Below w14.heap.size w14 (w14.alloc (.cells #[.int .i64 2, .int .i64 8, .int .i64 7, .int .i64 2, .int .i64 8, .int .i64 5] 38)) := (gr1 w14 _).below
      have HI := Lib.hid (rdz_lit layN w14 [(2, 8), (7, 2), (8, 5)] 38 #[.int .i64 2, .int .i64 8, .int .i64 7, .int .i64 2, .int .i64 8, .int .i64 5] rfl)
      replace HT := Lib.hid (RdZ.below HT.out hb)
      replace BP := Lib.hid (below_next BP.out (Nat.le_refl _) hb)
      clear hb
      generalize (w14.alloc (.cells #[.int .i64 2, .int .i64 8, .int .i64 7, .int .i64 2, .int .i64 8, .int .i64 5] 38)) = w15 at *
      generalize w14.heap.size = g15 at *
      refine hK.out _ _ BP.out ?_
      clear hK
      refine wpAnyH_one (i := 49) (by kernel_rfl) rfl (by rfl) (fun K hK => ?_)
      go_simp
      refine (pairs_at T [(2, 8), (7, 2), (8, 5)] 3 d rfl _ [(2, 8), (7, 2), (8, 5)] 3 3 rfl (by decide) w15 HT.out HI.out true (by decide)).mono ?_
      rintro e w16 ⟨rfl, hb⟩
      replace BP := Lib.hid (below_next BP.out (Nat.le_refl _) hb)
      clear hb
      go_wp2_with fail
      refine hK.out _ _ BP.out ?_
      clear hK
      clear HT HI
      refine wpAnyH_yes (i := 50) (d := 62) (v := ?_) rfl rfl (by kernel_rfl) (by kernel_rfl) (by kernel_rfl) (fun _ _ _ h => h) (by rfl) ?_ BP.out ?_
      rotate_left
      · intro w' hSw; skip; go_simp <;> with_reducible rfl
      simp only [Act.put, List.setIfInBounds_toArray, List.set_cons_zero, List.set_cons_succ]
      refine wpAnyH_yes (i := 51) (d := 63) (v := ?_) rfl rfl (by kernel_rfl) (by kernel_rfl) (by kernel_rfl) (fun _ _ _ h => h) (by rfl) ?_ BP.out ?_
      rotate_left
      · intro w' hSw; skip; go_simp <;> with_reducible rfl
      simp only [Act.put, List.setIfInBounds_toArray, List.set_cons_zero, List.set_cons_succ]
      refine wpAnyH_one (i := 52) (by kernel_rfl) rfl (by rfl) (fun K hK => ?_)
      go_simp
      refine (tops_at none [] 0 0 rfl (by decide) (fun x hx => by cases hx) w16 (RdEn.nil _ _) (fun _ _ => false) (fun i k hi => by omega)).mono ?_
      rintro e w17 ⟨T, m, d, rfl, hm, hmd, hrt, hb⟩
      obtain rfl : m = 0 := by rw [← hm]; rfl
      clear hm hrt hmd
      replace BP := Lib.hid (below_next BP.out (Nat.le_refl _) hb)
      clear hb
      go_wp2_with fail
      refine hK.out _ _ BP.out ?_
      clear hK
      refine wpAnyH_yes (i := 53) (d := 65) (v := ?_) rfl rfl (by kernel_rfl) (by kernel_rfl) (by kernel_rfl) (fun _ _ _ h => h) (by rfl) ?_ BP.out ?_
      rotate_left
      · intro w' hSw; skip; go_simp <;> with_reducible rfl
      simp only [Act.put, List.setIfInBounds_toArray, List.set_cons_zero, List.set_cons_succ]
      refine wpAnyH_yes (i := 54) (d := 66) (v := ?_) rfl rfl (by kernel_rfl) (by kernel_rfl) (by kernel_rfl) (fun _ _ _ h => h) (by rfl) ?_ BP.out ?_
      rotate_left
      · intro w' hSw; skip; go_simp <;> with_reducible rfl
      simp only [Act.put, List.setIfInBounds_toArray, List.set_cons_zero, List.set_cons_succ]
      refine wpAnyH_yes (i := 55) (d := 67) (v := ?_) rfl rfl (by kernel_rfl) (by kernel_rfl) (by kernel_rfl) (fun _ _ _ h => h) (by rfl) ?_ BP.out ?_
      rotate_left
      · intro w' hSw; skip; go_simp <;> with_reducible rfl
      simp only [Act.put, List.setIfInBounds_toArray, List.set_cons_zero, List.set_cons_succ]
      refine wpAnyH_yes (i := 56) (d := 68) (v := ?_) rfl rfl (by kernel_rfl) (by kernel_rfl) (by kernel_rfl) (fun _ _ _ h => h) (by rfl) ?_ BP.out ?_
      rotate_left
      · intro w' hSw; skip; go_simp <;> with_reducible rfl
      simp only [Act.put, List.setIfInBounds_toArray, List.set_cons_zero, List.set_cons_succ]
      refine wpAnyH_yes (i := 57) (d := 69) (v := ?_) rfl rfl (by kernel_rfl) (by kernel_rfl) (by kernel_rfl) (fun _ _ _ h => h) (by rfl) ?_ BP.out ?_
      rotate_left
      · intro w' hSw; skip; go_simp <;> with_reducible rfl
      simp only [Act.put, List.setIfInBounds_toArray, List.set_cons_zero, List.set_cons_succ]
      refine wpAnyH_yes (i := 58) (d := 70) (v := ?_) rfl rfl (by kernel_rfl) (by kernel_rfl) (by kernel_rfl) (fun _ _ _ h => h) (by rfl) ?_ BP.out ?_
      rotate_left
      · intro w' hSw; skip; go_simp <;> with_reducible rfl
      simp only [Act.put, List.setIfInBounds_toArray, List.set_cons_zero, List.set_cons_succ]
      refine wpAnyH_yes (i := 59) (d := 71) (v := ?_) rfl rfl (by kernel_rfl) (by kernel_rfl) (by kernel_rfl) (fun _ _ _ h => h) (by rfl) ?_ BP.out ?_
      rotate_left
      · intro w' hSw; obtain ⟨z0, z1, z2, z3, z4, z5, z6, z7, z8, z9, z10, z11⟩ := HC.out _ hSw; go_simp <;> with_reducible rfl
      simp only [Act.put, List.setIfInBounds_toArray, List.set_cons_zero, List.set_cons_succ]
      refine wpAnyH_yes (i := 60) (d := 72) (v := ?_) rfl rfl (by kernel_rfl) (by kernel_rfl) (by kernel_rfl) (fun _ _ _ h => h) (by rfl) ?_ BP.out ?_
      rotate_left
      · intro w' hSw; skip; go_simp <;> with_reducible rfl
      simp only [Act.put, List.setIfInBounds_toArray, List.set_cons_zero, List.set_cons_succ]
      refine wpAnyH_yes (i := 61) (d := 73) (v := ?_) rfl rfl (by kernel_rfl) (by kernel_rfl) (by kernel_rfl) (fun _ _ _ h => h) (by rfl) ?_ BP.out ?_
      rotate_left
      · intro w' hSw; skip; go_simp <;> with_reducible rfl
      simp only [Act.put, List.setIfInBounds_toArray, List.set_cons_zero, List.set_cons_succ]
      refine wpAnyH_yes (i := 62) (d := 74) (v := ?_) rfl rfl (by kernel_rfl) (by kernel_rfl) (by kernel_rfl) (fun _ _ _ h => h) (by rfl) ?_ BP.out ?_
      rotate_left
      · intro w' hSw; obtain ⟨z0, z1, z2, z3, z4, z5, z6, z7, z8, z9, z10, z11⟩ := HC.out _ hSw; go_simp <;> with_reducible rfl
      simp only [Act.put, List.setIfInBounds_toArray, List.set_cons_zero, List.set_cons_succ]
      refine wpAnyH_one (i := 63) (by kernel_rfl) rfl (by rfl) (fun K hK => ?_)
      go_simp
      refine (above_at ⟨5, 0, A, 1, 1, ge 9⟩ ⟨5, 0, A, 1, 1, ge 9⟩ rfl (Nat.le_of_ble_eq_true rfl) (ge_few (by decide)) rfl (Nat.le_of_ble_eq_true rfl) (ge_few (by decide)) w17 ((HL.out.below BP.out).2 ⟨5, 0, A, 1, 1, ge 9⟩ (by simp [l4])).2.2 ((HL.out.below BP.out).2 ⟨5, 0, A, 1, 1, ge 9⟩ (by simp [l4])).2.2 false (by show _ ↔ Po.Abv 5 (ge 9) 5 (ge 9); rw [ge_abv (by decide) (by decide)]; decide)).mono ?_
      rintro e w18 ⟨rfl, hb⟩
      replace BP := Lib.hid (below_next BP.out (Nat.le_refl _) hb)
      clear hb
      go_wp2_with fail
      refine hK.out _ _ BP.out ?_
      clear hK
      refine wpAnyH_yes (i := 64) (d := 76) (v := ?_) rfl rfl (by kernel_rfl) (by kernel_rfl) (by kernel_rfl) (fun _ _ _ h => h) (by rfl) ?_ BP.out ?_
      rotate_left
      · intro w' hSw; skip; go_simp <;> with_reducible rfl
      simp only [Act.put, List.setIfInBounds_toArray, List.set_cons_zero, List.set_cons_succ]
      refine wpAnyH_yes (i := 65) (d := 77) (v := ?_) rfl rfl (by kernel_rfl) (by kernel_rfl) (by kernel_rfl) (fun _ _ _ h => h) (by rfl) ?_ BP.out ?_
      rotate_left
      · intro w' hSw; skip; go_simp <;> with_reducible rfl
      simp only [Act.put, List.setIfInBounds_toArray, List.set_cons_zero, List.set_cons_succ]
      refine wpAnyH_yes (i := 66) (d := 0) (v := ?_) rfl rfl (by kernel_rfl) (by kernel_rfl) (by kernel_rfl) (fun _ _ _ h => h) (by rfl) ?_ BP.out ?_
      rotate_left
      · intro w' hSw; skip; go_simp <;> with_reducible rfl
      simp only [Act.put, List.setIfInBounds_toArray, List.set_cons_zero]
      refine wpAnyH_done (by kernel_rfl) ?_ _
      go_wp2_with fail
      go_ret
      exact ⟨rfl, below_next BB.out (Nat.le_refl _) BP.out⟩
    · skip
      go_simp
      have hb : Below w13.heap.size w13 (w13.alloc (.cells #[.int .i64 2, .int .i64 8, .int .i64 7, .int .i64 2, .int .i64 8, .int .i64 5] 38)) := (gr1 w13 _).below
      have HI := Lib.hid (rdz_lit layN w13 [(2, 8), (7, 2), (8, 5)] 38 #[.int .i64 2, .int .i64 8, .int .i64 7, .int .i64 2, .int .i64 8, .int .i64 5] rfl)
      replace BP := Lib.hid (below_next BP.out (Nat.le_refl _) hb)
      clear hb
      generalize (w13.alloc (.cells #[.int .i64 2, .int .i64 8, .int .i64 7, .int .i64 2, .int .i64 8, .int .i64 5] 38)) = w14 at *
      generalize w13.heap.size = g14 at *
      refine hKb.out _ _ BP.out ?_
      clear hKb
      refine wpAnyH_one (i := 44) (by kernel_rfl) rfl (by rfl) (fun K hK => ?_)
      go_simp
      refine (edges_at (some ⟨p, 0, none⟩) (l4 A B C D) 4 4 rfl (by decide) (l4_few A B C D) w14 (HL.out.below BP.out) q4 (l4_abvs A B C D)).mono ?_
      rintro e w15 ⟨T, m, d, rfl, hm, hmd, hrt, hb⟩
      rw [l4_id, l4_edges] at hm hrt
      obtain rfl : m = 3 := hm.symm
      have HT := Lib.hid (rdz_own hrt)
      clear hm hrt hmd
      replace HI := Lib.hid (RdZ.below HI.out hb)
      replace BP := Lib.hid (below_next BP.out (Nat.le_refl _) hb)
      clear hb
      go_wp2_with fail
      refine hK.out _ _ BP.out ?_
      clear hK
      refine wpAnyH_one (i := 49) (by kernel_rfl) rfl (by rfl) (fun K hK => ?_)
      go_simp
      refine (pairs_at T [(2, 8), (7, 2), (8, 5)] 3 d rfl _ [(2, 8), (7, 2), (8, 5)] 3 3 rfl (by decide) w15 HT.out HI.out true (by decide)).mono ?_
      rintro e w16 ⟨rfl, hb⟩
      replace BP := Lib.hid (below_next BP.out (Nat.le_refl _) hb)
      clear hb
      go_wp2_with fail
      refine hK.out _ _ BP.out ?_
      clear hK
      clear HT HI
      refine wpAnyH_yes (i := 50) (d := 62) (v := ?_) rfl rfl (by kernel_rfl) (by kernel_rfl) (by kernel_rfl) (fun _ _ _ h => h) (by rfl) ?_ BP.out ?_
      rotate_left
      · intro w' hSw; skip; go_simp <;> with_reducible rfl
      simp only [Act.put, List.setIfInBounds_toArray, List.set_cons_zero, List.set_cons_succ]
      refine wpAnyH_yes (i := 51) (d := 63) (v := ?_) rfl rfl (by kernel_rfl) (by kernel_rfl) (by kernel_rfl) (fun _ _ _ h => h) (by rfl) ?_ BP.out ?_
      rotate_left
      · intro w' hSw; skip; go_simp <;> with_reducible rfl
      simp only [Act.put, List.setIfInBounds_toArray, List.set_cons_zero, List.set_cons_succ]
      refine wpAnyH_one (i := 52) (by kernel_rfl) rfl (by rfl) (fun K hK => ?_)
      go_simp
      refine (tops_at none [] 0 0 rfl (by decide) (fun x hx => by cases hx) w16 (RdEn.nil _ _) (fun _ _ => false) (fun i k hi => by omega)).mono ?_
      rintro e w17 ⟨T, m, d, rfl, hm, hmd, hrt, hb⟩
      obtain rfl : m = 0 := by rw [← hm]; rfl
      clear hm hrt hmd
      replace BP := Lib.hid (below_next BP.out (Nat.le_refl _) hb)
      clear hb
      go_wp2_with fail
      refine hK.out _ _ BP.out ?_
      clear hK
      refine wpAnyH_yes (i := 53) (d := 65) (v := ?_) rfl rfl (by kernel_rfl) (by kernel_rfl) (by kernel_rfl) (fun _ _ _ h => h) (by rfl) ?_ BP.out ?_
      rotate_left
      · intro w' hSw; skip; go_simp <;> with_reducible rfl
      simp only [Act.put, List.setIfInBounds_toArray, List.set_cons_zero, List.set_cons_succ]
      refine wpAnyH_yes (i := 54) (d := 66) (v := ?_) rfl rfl (by kernel_rfl) (by kernel_rfl) (by kernel_rfl) (fun _ _ _ h => h) (by rfl) ?_ BP.out ?_
      rotate_left
      · intro w' hSw; skip; go_simp <;> with_reducible rfl
      simp only [Act.put, List.setIfInBounds_toArray, List.set_cons_zero, List.set_cons_succ]
      refine wpAnyH_yes (i := 55) (d := 67) (v := ?_) rfl rfl (by kernel_rfl) (by kernel_rfl) (by kernel_rfl) (fun _ _ _ h => h) (by rfl) ?_ BP.out ?_
      rotate_left
      · intro w' hSw; skip; go_simp <;> with_reducible rfl
      simp only [Act.put, List.setIfInBounds_toArray, List.set_cons_zero, List.set_cons_succ]
      refine wpAnyH_yes (i := 56) (d := 68) (v := ?_) rfl rfl (by kernel_rfl) (by kernel_rfl) (by kernel_rfl) (fun _ _ _ h => h) (by rfl) ?_ BP.out ?_
      rotate_left
      · intro w' hSw; skip; go_simp <;> with_reducible rfl
      simp only [Act.put, List.setIfInBounds_toArray, List.set_cons_zero, List.set_cons_succ]
      refine wpAnyH_yes (i := 57) (d := 69) (v := ?_) rfl rfl (by kernel_rfl) (by kernel_rfl) (by kernel_rfl) (fun _ _ _ h => h) (by rfl) ?_ BP.out ?_
      rotate_left
      · intro w' hSw; skip; go_simp <;> with_reducible rfl
      simp only [Act.put, List.setIfInBounds_toArray, List.set_cons_zero, List.set_cons_succ]
      refine wpAnyH_yes (i := 58) (d := 70) (v := ?_) rfl rfl (by kernel_rfl) (by kernel_rfl) (by kernel_rfl) (fun _ _ _ h => h) (by rfl) ?_ BP.out ?_
      rotate_left
      · intro w' hSw; skip; go_simp <;> with_reducible rfl
      simp only [Act.put, List.setIfInBounds_toArray, List.set_cons_zero, List.set_cons_succ]
      refine wpAnyH_yes (i := 59) (d := 71) (v := ?_) rfl rfl (by kernel_rfl) (by kernel_rfl) (by kernel_rfl) (fun _ _ _ h => h) (by rfl) ?_ BP.out ?_
      rotate_left
      · intro w' hSw; obtain ⟨z0, z1, z2, z3, z4, z5, z6, z7, z8, z9, z10, z11⟩ := HC.out _ hSw; go_simp <;> with_reducible rfl
      simp only [Act.put, List.setIfInBounds_toArray, List.set_cons_zero, List.set_cons_succ]
      refine wpAnyH_yes (i := 60) (d := 72) (v := ?_) rfl rfl (by kernel_rfl) (by kernel_rfl) (by kernel_rfl) (fun _ _ _ h => h) (by rfl) ?_ BP.out ?_
      rotate_left
      · intro w' hSw; skip; go_simp <;> with_reducible rfl
      simp only [Act.put, List.setIfInBounds_toArray, List.set_cons_zero, List.set_cons_succ]
      refine wpAnyH_yes (i := 61) (d := 73) (v := ?_) rfl rfl (by kernel_rfl) (by kernel_rfl) (by kernel_rfl) (fun _ _ _ h => h) (by rfl) ?_ BP.out ?_
      rotate_left
      · intro w' hSw; skip; go_simp <;> with_reducible rfl
      simp only [Act.put, List.setIfInBounds_toArray, List.set_cons_zero, List.set_cons_succ]
      refine wpAnyH_yes (i := 62) (d := 74) (v := ?_) rfl rfl (by kernel_rfl) (by kernel_rfl) (by kernel_rfl) (fun _ _ _ h => h) (by rfl) ?_ BP.out ?_
      rotate_left
      · intro w' hSw; obtain ⟨z0, z1, z2, z3, z4, z5, z6, z7, z8, z9, z10, z11⟩ := HC.out _ hSw; go_simp <;> with_reducible rfl
      simp only [Act.put, List.setIfInBounds_toArray, List.set_cons_zero, List.set_cons_succ]
      refine wpAnyH_one (i := 63) (by kernel_rfl) rfl (by rfl) (fun K hK => ?_)
      go_simp
      refine (above_at ⟨5, 0, A, 1, 1, ge 9⟩ ⟨5, 0, A, 1, 1, ge 9⟩ rfl (Nat.le_of_ble_eq_true rfl) (ge_few (by decide)) rfl (Nat.le_of_ble_eq_true rfl) (ge_few (by decide)) w17 ((HL.out.below BP.out).2 ⟨5, 0, A, 1, 1, ge 9⟩ (by simp [l4])).2.2 ((HL.out.below BP.out).2 ⟨5, 0, A, 1, 1, ge 9⟩ (by simp [l4])).2.2 false (by show _ ↔ Po.Abv 5 (ge 9) 5 (ge 9); rw [ge_abv (by decide) (by decide)]; decide)).mono ?_
      rintro e w18 ⟨rfl, hb⟩
      replace BP := Lib.hid (below_next BP.out (Nat.le_refl _) hb)
      clear hb
      go_wp2_with fail
      refine hK.out _ _ BP.out ?_
      clear hK
      refine wpAnyH_yes (i := 64) (d := 76) (v := ?_) rfl rfl (by kernel_rfl) (by kernel_rfl) (by kernel_rfl) (fun _ _ _ h => h) (by rfl) ?_ BP.out ?_
      rotate_left
      · intro w' hSw; skip; go_simp <;> with_reducible rfl
      simp only [Act.put, List.setIfInBounds_toArray, List.set_cons_zero, List.set_cons_succ]
      refine wpAnyH_yes (i := 65) (d := 77) (v := ?_) rfl rfl (by kernel_rfl) (by kernel_rfl) (by kernel_rfl) (fun _ _ _ h => h) (by rfl) ?_ BP.out ?_
      rotate_left
      · intro w' hSw; skip; go_simp <;> with_reducible rfl
      simp only [Act.put, List.setIfInBounds_toArray, List.set_cons_zero, List.set_cons_succ]
      refine wpAnyH_yes (i := 66) (d := 0) (v := ?_) rfl rfl (by kernel_rfl) (by kernel_rfl) (by kernel_rfl) (fun _ _ _ h => h) (by rfl) ?_ BP.out ?_
      rotate_left
      · intro w' hSw; skip; go_simp <;> with_reducible rfl
      simp only [Act.put, List.setIfInBounds_toArray, List.set_cons_zero]
      refine wpAnyH_done (by kernel_rfl) ?_ _
      go_wp2_with fail
      go_ret
      exact ⟨rfl, below_next BB.out (Nat.le_refl _) BP.out⟩
end Go.Proofs.Ytckabmlilbkmbaa
namespace Go.Proofs.Ytckabmlilbkmbaa
open Go.RowKit Go.ChangeShapes Go.WideShapes Go.Deep Go.Joins Spans Tb
section
variable {H : Type} {enc : TypeId × Value → H} {w : World} {base : Nat} {spare : Nat → Bool} {held : Bool}
set_option maxRecDepth 100000 in
theorem open_entry {r : Reach} {b0 : Nat} {v : Value} {d : DataW H} {p : List MemPlace} (hok : Value.okWide Try.prog w r b0 28 v) (h : DataW.Trod enc Try.prog w base spare held 28 v d p) (hw : ∀ n ∈ d.weights Try.prog 28, n ≤ reachBytes) :
    ∃ x : Ex, v = exV x ∧ Flt w x ∧ EBx [x] := by
  obtain ⟨cs, rfl, hsz⟩ := okWide_struct Try.underlying28 hok
  rw [show Try.prog.cellsOf 28 = 3 from by kernel_rfl] at hsz
  obtain ⟨cs⟩ := cs
  obtain ⟨fuel, k2⟩ := h
  obtain ⟨xs, n', _, hxx, _, hxl, hfs⟩ := DataW.trod_struct Try.underlying28 k2
  have hD : d = .agg (xs.map (·.1)) := congrArg Prod.fst hxx
  subst hD
  match cs, hsz with
  | [c0, c1, c2], _ =>
    obtain ⟨y0, _, g0⟩ := field_at (i := 0) (t := 3) (o := 0) (m := 1) hfs hxl rfl ⟨rfl, rfl, by kernel_rfl⟩
    obtain ⟨y1, _, g1⟩ := field_at (i := 1) (t := 3) (o := 1) (m := 1) hfs hxl rfl ⟨rfl, rfl, by kernel_rfl⟩
    obtain ⟨y2, e2, g2⟩ := field_at (i := 2) (t := 26) (o := 2) (m := 1) hfs hxl rfl ⟨rfl, rfl, by kernel_rfl⟩
    obtain ⟨z0, q0, _, w0⟩ := DataW.trod_int Try.underlying3 g0
    obtain ⟨z1, q1, _, w1⟩ := DataW.trod_int Try.underlying3 g1
    obtain ⟨A, n, c, f, q2, f1, f2, f3, f4, f5, f6⟩ := open_flt g2 (weights_struct Try.underlying28 hw (i := 2) rfl (by rw [List.getElem?_map, e2]; rfl))
    simp [Value.cells] at q0 q1
    subst q0; subst q1; subst q2
    have hb := bounds_of w0
    exact ⟨⟨z0, z1, A, n, c, f⟩, rfl, ⟨f1, f2, f5⟩, fun x hx => by simp at hx; subst hx; exact ⟨f4, hb.1, hb.2, f6⟩⟩
end
/-- What Few lets in is short enough. -/
theorem few_ef {es : List Ex} (h : fewE es = true) (hb : EBx es) : EFew es := fun x hx => by
  obtain ⟨h1, _, h3⟩ := fewE_of h
  exact ⟨Nat.le_trans (h3 x hx) (by decide), fun p hp => ⟨(h1 x hx p hp).1, (h1 x hx p hp).2, ((hb x hx).2.2.2 p hp).2.2⟩⟩
theorem abv_ex (x y : Ex) : ∃ q : Bool, q = true ↔ Po.Abv x.id x.f y.id y.f := by
  by_cases h : Po.Abv x.id x.f y.id y.f
  · exact ⟨true, by simp [h]⟩
  · exact ⟨false, by simp [h]⟩
theorem prop_ex (P : Prop) : ∃ q : Bool, q = true ↔ P := by
  by_cases h : P
  · exact ⟨true, by simp [h]⟩
  · exact ⟨false, by simp [h]⟩
theorem ebx_app {a b : List Ex} (h : EBx a) (k : EBx b) : EBx (a ++ b) := fun x hx => (List.mem_append.1 hx).elim (h x) (k x)
end Go.Proofs.Ytckabmlilbkmbaa
