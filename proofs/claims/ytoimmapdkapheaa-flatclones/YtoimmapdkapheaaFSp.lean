/- Spaces: their numbers, rising. -/
import Derived.Test.YtoimmapdkapheaaFRun
import Derived.Test.YtoimmapdkapheaaFShelf
namespace Go.Proofs.Ytoimmapdkapheaa
set_option maxRecDepth 4000
open Go.RowKit Go.Maps Go.Sort Go.Shelf
open Go.WideElems (Fit rg)

/-- Numbers in a row. -/
def rNm : Rec Int := ⟨3, 1, 8, 0, fun x => [.int .i64 x], fun _ => rfl, by decide, fun x u hu => by simp at hu; rw [hu]; rfl⟩
theorem rNm.all (l : List Int) : rNm.all l = l.map encZ := by
  induction l with
  | nil => rfl
  | cons x r ih => rw [rNm.all_cons, ih]; rfl
def anyR (_ : Value) : Option (DataW Unit × List MemPlace) := some (.nil, [])
theorem mp_owns {w : World} {m : Nat} {l : Spl} (h : Mp spM w m l) (hlen : l.length ≤ 255) :
    ∃ (D0 : DataW Unit) (n : Nat), w.ownsMap Try.prog 3 anyR m n D0 ∧ (intKeys D0).Perm (l.map (·.1)) ∧ Maps.size D0 = l.length := by
  obtain ⟨es, clock, hb, hs, he, hok⟩ := h
  have hkey : ∀ x ∈ es.toList, ∃ p ∈ l, x.key = .int .i64 p.1 ∧ rg Try.prog 3 anyR x = (.int .i64 p.1, .nil) := fun x hx => by
    obtain ⟨p, hp, e1, _⟩ := he.mem hx
    refine ⟨p, hp, e1, ?_⟩
    have w1 : (Lit.int .i64 p.1).wf = true := WalkArith.wf_i64 ⟨(hok p hp).1, (hok p hp).2⟩
    have : keyOf Try.prog 3 x.key = some (.int .i64 p.1) := by
      rw [e1]
      show keyOf Try.prog 3 (.int .i64 p.1) = _
      simp [keyOf, Try.underlying3, mapKey, w1]
    unfold rg Go.WideElems.rd
    rw [this]
    rfl
  have hF : Fit Try.prog 3 anyR es clock := ⟨by rw [he.len]; unfold maxLen; omega, hs, fun x hx => by
    obtain ⟨p, hp, e1, e2⟩ := hkey x hx
    obtain ⟨k, hk⟩ := i_reads (hok p hp)
    exact ⟨_, by unfold Go.WideElems.rd; rw [e1, hk]; rfl⟩⟩
  refine ⟨_, es.size, ⟨es, clock, hb, hF, Nat.le_refl _, rfl⟩, ?_, ?_⟩
  · show ((List.foldr DataW.insert [] (es.toList.map (rg Try.prog 3 anyR))).map fun p => Go.intOf p.1).Perm _
    refine ((WideShapes.sorted_perm _).map _).trans ?_
    rw [List.map_map]
    have e : es.toList.map ((fun p : Lit × DataW Unit => Go.intOf p.1) ∘ rg Try.prog 3 anyR) = l.map (·.1) := by
      have h1 : (es.toList.map fun x => x.key) = l.map fun p => Value.int .i64 p.1 := by
        have := congrArg (List.map Prod.fst) he
        simpa [List.map_map, Function.comp_def, spM] using this
      have h2 : (es.toList.map fun x => match x.key with | .int _ a => a | _ => 0) = l.map (·.1) := by
        have := congrArg (List.map fun v : Value => match v with | .int _ a => a | _ => (0 : Int)) h1
        simpa [List.map_map, Function.comp_def] using this
      rw [← h2]
      refine List.map_congr_left fun x hx => ?_
      obtain ⟨p, hp, e1, e2⟩ := hkey x hx
      show Go.intOf (rg Try.prog 3 anyR x).1 = _
      rw [e2, e1]
      rfl
    rw [e]
  · show (List.foldr DataW.insert [] (es.toList.map (rg Try.prog 3 anyR))).length = _
    rw [(WideShapes.sorted_perm _).length_eq, List.length_map, Array.length_toList, he.len]
theorem sorts_A (m : Nat) : AnyZI.SortsIn Try.prog Try.sortedA_ren Fence.wide m :=
  ⟨fun blk off cap ss W hH hblk hsz => callsIn_wide.2 (AnyM.slices_Sort_int Try.sortA blk off cap ss W hH hblk hsz),
   fun p cap W => callsIn_wide.2 (AnyM.slices_Sort_int_none Try.sortA p cap W)⟩
/-- What Spaces tells. -/
def SpsP (w : World) (A : Wd) (e : Ending) (w' : World) : Prop :=
  ∃ (v : Value) (ss : List Int), e = .returned v ∧ Row rNm w.heap.size w' v ss ∧ ss.Pairwise (fun a b => a < b) ∧ (∀ n, n ∈ ss ↔ A n ≠ none) ∧ ss.length ≤ 255 ∧ Below w.heap.size w w'
theorem lk_keys {l : Spl} (n : Int) : n ∈ l.map (·.1) ↔ lkP l n ≠ none := by
  rw [Ne, lk_none', List.mem_map]
  constructor
  · rintro ⟨p, hp, rfl⟩ h
    exact getL_none' h p hp rfl
  · intro h
    obtain ⟨x, hx⟩ := Option.ne_none_iff_exists'.1 h
    exact ⟨_, getL_mem hx, rfl⟩
theorem keys_few {l : Spl} (hd : l.Pairwise fun p q => p.1 ≠ q.1) (hok : (lkP l).ok) : (l.map (·.1)).Nodup ∧ l.length ≤ 255 := by
  have h1 : (l.map (·.1)).Nodup := List.pairwise_map.2 hd
  refine ⟨h1, ?_⟩
  have := few_keys 255 (l.map (·.1)) h1 fun k hk => by
    obtain ⟨s, hs⟩ := Option.ne_none_iff_exists'.1 ((lk_keys k).1 hk)
    exact (hok k s hs).1
  simpa using this
set_option maxRecDepth 100000 in
set_option maxHeartbeats 4000000 in
theorem spaces_any {F : Nat → Prop} {w : World} {p : Nat} {A : Wd} (h : (FlT p A).In F w) : Calls Try.prog 19 #[.pointer (some ⟨p, 0, none⟩)] w (SpsP w A) := by
  obtain ⟨⟨m, l⟩, ⟨rfl, hok⟩, h⟩ := h
  simp only at h hok ⊢
  obtain ⟨hnd, hfew⟩ := keys_few (FlX.mp h).apart hok
  obtain ⟨D0, n0, hown, hperm, hsize⟩ := mp_owns (FlX.mp h) hfew
  have c0 : w.cell? ⟨p, 0, none⟩ = some (.map (some m)) := by rw [(FlX.box h).cell]; rfl
  have hbl := (FlX.mp h).lt
  refine (callsIn_wide (n := 6)).1 ?_
  have hseq : SeqGives Fence.wide 2 Try.prog 66 #[.pointer (some ⟨w.heap.size, 0, none⟩)] encZ (fun ss => ss.Perm (intKeys D0)) (Maps.size D0) (w.alloc (.cells #[.map (some m)] 66)) :=
    AnyZI.keys_gives (ρ := Try.keysA_ren) { Try.keysA with } Fence.wide _ trivial rfl (by omega) w.heap.size m n0 D0 _ (by simp) (by simp) (by
      obtain ⟨es, clock, hb, Ft, hs, hD⟩ := hown
      exact ⟨es, clock, (Below.heap_alloc _ _ m hbl).trans hb, Ft, hs, hD⟩)
  have cK : ∀ mb W, CallsIn Fence.wide 5 Try.prog 46 #[.map mb] W fun e w' => e = .returned (.func (.func 66) #[] #[.pointer (some ⟨W.heap.size, 0, none⟩)]) ∧ w' = W.alloc (.cells #[.map mb] 66) := fun mb W => AnyZI.keys_in Try.keysA Fence.wide 5 trivial rfl mb W
  have cS := AnyZI.sorted_in Try.sortedA Fence.wide 5 trivial trivial trivial trivial rfl (by omega) (sorts_A _) (enters_of Try.func65 (by kernel_rfl) rfl) 66 #[.pointer (some ⟨w.heap.size, 0, none⟩)] trivial (enters_of Try.func66 (by kernel_rfl) rfl) _ _ (by rw [hsize]; unfold maxLen; omega) (by rw [hsize]; omega) _ hseq
  change CallsIn _ _ Try.prog 45 _ _ _ at cS
  have hfK : Fence.wide.fn 46 := trivial
  have hfS : Fence.wide.fn 45 := trivial
  have HZ : Hid (∀ (v : Value) (ss : List Int) (w' : World), ss.Perm (intKeys D0) → w'.ownsRow (w.alloc (.cells #[.map (some m)] 66)).heap.size 3 1 v ss.length ((ss.mergeSort (fun x y => decide (x ≤ y))).map encZ) → Below (w.alloc (.cells #[.map (some m)] 66)).heap.size (w.alloc (.cells #[.map (some m)] 66)) w' → SpsP w (lkP l) (.returned v) w') := fun v ss w' hS hrow hb => by
    have hp2 := (List.mergeSort_perm ss (fun x y => decide (x ≤ y))).trans (hS.trans hperm)
    refine ⟨v, ss.mergeSort (fun x y => decide (x ≤ y)), rfl, ?_, ?_, fun n => ?_, ?_, ((Below.refl _ w).alloc (Nat.le_refl _) _).trans (hb.mono (by simp))⟩
    · have h0 : Row rNm (w.alloc (.cells #[.map (some m)] 66)).heap.size w' v (ss.mergeSort (fun x y => decide (x ≤ y))) := by
        unfold Row
        rw [rNm.all, (List.mergeSort_perm ss _).length_eq]
        exact hrow
      exact h0.lower (by simp)
    · have hle : (ss.mergeSort (fun x y => decide (x ≤ y))).Pairwise fun a b => decide (a ≤ b) = true := List.pairwise_mergeSort (fun a b c h1 h2 => by simp only [decide_eq_true_eq] at *; omega) (fun a b => by simp only [Bool.or_eq_true, decide_eq_true_eq]; omega) ss
      have hne : (ss.mergeSort (fun x y => decide (x ≤ y))).Nodup := hp2.nodup_iff.2 hnd
      exact List.Pairwise.imp₂ (fun a b h1 h2 => by simp only [decide_eq_true_eq] at h1; omega) hle hne
    · rw [hp2.mem_iff]
      exact lk_keys n
    · rw [hp2.length_eq, List.length_map]
      exact hfew
  clear hown hperm hsize hseq hbl hnd hfew h hok
  refine callsIn_of_wp Try.func19 rfl trivial ?_ rfl
  simp only [Try.ntmps19, List.size_toArray, List.length_cons, List.length_nil, Nat.reduceAdd, Nat.reduceSub, Array.replicate_succ, Array.replicate_zero, List.push_toArray, List.append_toArray, List.nil_append, List.cons_append]
  gi_wp2_with (first
    | (gi_at_call 46; refine (cK _ _).mono ?_; rintro e w' ⟨rfl, rfl⟩)
    | (gi_at_call 45; refine cS.mono ?_; rintro e w' ⟨v, ss, rfl, hS, hrow, hnil, hb⟩))
  go_ret
  exact HZ.out _ _ _ hS hrow hb
end Go.Proofs.Ytoimmapdkapheaa
