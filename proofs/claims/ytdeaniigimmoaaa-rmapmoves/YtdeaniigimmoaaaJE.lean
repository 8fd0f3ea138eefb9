/- Own texts, joined: QSps, QPgs, QLaw, QCln, QCnt, QAll, QRef. -/
import Derived.Test.YtdeaniigimmoaaaJC
import Derived.Test.YtdeaniigimmoaaaJD
import Derived.BigQuiet
import Derived.Deep.CutRange
import Derived.Shelf.SlMaps.Clone
import Derived.Lib.Walk
import Derived.Test.YtdeaniigimmoaaaJB
/- Frames, Pages. -/
namespace Go.Proofs.Ytdeaniigimmoaaa
open Go.RowKit Go.Maps Go.Sort Go.Shelf
open Go.WideElems (Fit rg)

def anyR (_ : Value) : Option (DataW Unit × List MemPlace) := some (.nil, [])
set_option maxRecDepth 100000 in
theorem mp_owns {β : Type} (M : Mk Try.prog Int β) (e1 : M.key = fun k => Value.int .i64 k) (e2 : M.ok = okI) {w : World} {m : Nat} {l : List (Int × β)} (h : Mp M w m l) (hlen : l.length ≤ 4096) :
    ∃ (D0 : DataW Unit) (n : Nat), w.ownsMap Try.prog 3 anyR m n D0 ∧ (intKeys D0).Perm (l.map (·.1)) ∧ Maps.size D0 = l.length := by
  obtain ⟨es, clock, hb, hs, he, hok⟩ := h
  have hkey : ∀ x ∈ es.toList, ∃ p ∈ l, x.key = .int .i64 p.1 ∧ rg Try.prog 3 anyR x = (.int .i64 p.1, .nil) := fun x hx => by
    obtain ⟨p, hp, e3, _⟩ := he.mem hx
    rw [e1] at e3
    have hk := hok p hp
    rw [e2] at hk
    refine ⟨p, hp, e3, ?_⟩
    have w1 : (Lit.int .i64 p.1).wf = true := WalkArith.wf_i64 ⟨hk.1, hk.2⟩
    have : keyOf Try.prog 3 x.key = some (.int .i64 p.1) := by
      rw [e3]
      show keyOf Try.prog 3 (.int .i64 p.1) = _
      simp [keyOf, Try.underlying3, mapKey, w1]
    unfold rg Go.WideElems.rd
    rw [this]
    rfl
  have hF : Fit Try.prog 3 anyR es clock := ⟨by rw [he.len]; unfold maxLen; omega, hs, fun x hx => by
    obtain ⟨p, hp, e3, e4⟩ := hkey x hx
    have hk := hok p hp
    rw [e2] at hk
    obtain ⟨k, hk⟩ := i_reads hk
    exact ⟨_, by unfold Go.WideElems.rd; rw [e3, hk]; rfl⟩⟩
  refine ⟨_, es.size, ⟨es, clock, hb, hF, Nat.le_refl _, rfl⟩, ?_, ?_⟩
  · show ((List.foldr DataW.insert [] (es.toList.map (rg Try.prog 3 anyR))).map fun p => Go.intOf p.1).Perm _
    refine ((WideShapes.sorted_perm _).map _).trans ?_
    rw [List.map_map]
    have e : es.toList.map ((fun p : Lit × DataW Unit => Go.intOf p.1) ∘ rg Try.prog 3 anyR) = l.map (·.1) := by
      have h1 : (es.toList.map fun x => x.key) = l.map fun p => Value.int .i64 p.1 := by
        have := congrArg (List.map Prod.fst) he
        rw [e1] at this
        simpa [List.map_map, Function.comp_def] using this
      have h2 : (es.toList.map fun x => match x.key with | .int _ a => a | _ => 0) = l.map (·.1) := by
        have := congrArg (List.map fun v : Value => match v with | .int _ a => a | _ => (0 : Int)) h1
        simpa [List.map_map, Function.comp_def] using this
      rw [← h2]
      refine List.map_congr_left fun x hx => ?_
      obtain ⟨p, hp, e3, e4⟩ := hkey x hx
      show Go.intOf (rg Try.prog 3 anyR x).1 = _
      rw [e4, e3]
      rfl
    rw [e]
  · show (List.foldr DataW.insert [] (es.toList.map (rg Try.prog 3 anyR))).length = _
    rw [(WideShapes.sorted_perm _).length_eq, List.length_map, Array.length_toList, he.len]
theorem sorts_A (m : Nat) : AnyZI.SortsIn Try.prog Try.sortedA_ren Fence.wide m :=
  ⟨fun blk off cap ss W hH hblk hsz => callsIn_wide.2 (AnyM.slices_Sort_int Try.sortA blk off cap ss W hH hblk hsz),
   fun p cap W => callsIn_wide.2 (AnyM.slices_Sort_int_none Try.sortA p cap W)⟩
def srt (ss : List Int) : List Int := ss.mergeSort fun x y => decide (x ≤ y)
theorem srt_perm (ss : List Int) : (srt ss).Perm ss := List.mergeSort_perm ss _
theorem srt_ris {ss : List Int} (h : ss.Nodup) : (srt ss).Pairwise (· < ·) := by
  have hle : (srt ss).Pairwise fun a b => decide (a ≤ b) = true := List.pairwise_mergeSort (fun a b c h1 h2 => by simp only [decide_eq_true_eq] at *; omega) (fun a b => by simp only [Bool.or_eq_true, decide_eq_true_eq]; omega) ss
  have hne : (srt ss).Nodup := (srt_perm ss).nodup_iff.2 h
  exact List.Pairwise.imp₂ (fun a b h1 h2 => by simp only [decide_eq_true_eq] at h1; omega) hle hne
theorem z_ext {a b : List Int} (ha : a.Pairwise (· < ·)) (hb : b.Pairwise (· < ·)) (h : ∀ x, x ∈ a ↔ x ∈ b) : a = b := by
  have := ris_ext (l := a.map fun k => Rw.mk k 0 0) (m := b.map fun k => Rw.mk k 0 0) (List.pairwise_map.2 (ha.imp fun h => Or.inl h)) (List.pairwise_map.2 (hb.imp fun h => Or.inl h)) (fun x => by simp only [List.mem_map, h])
  have := congrArg (List.map Rw.s) this
  simpa [List.map_map, Function.comp_def] using this
set_option maxRecDepth 100000 in
theorem few_from0 (n : Nat) (l : List Int) (h : l.Nodup) (hk : ∀ k ∈ l, 0 ≤ k ∧ k < (n : Int)) : l.length ≤ n := by
  have := few_keys n (l.map (· + 1)) (List.pairwise_map.2 (h.imp fun hab e => hab (by omega))) fun k hk2 => by
    obtain ⟨x, hx, rfl⟩ := List.mem_map.1 hk2
    have := hk x hx
    omega
  simpa using this
/-- What Sorted tells of an iterator that gives S. -/
theorem sorted_by {g : Nat} {lb : Array Value} (eg : ∀ args w, (callFunc g args).run Try.prog w = .ok (.enter g args) w) {S : List Int → Prop} {N : Nat} {w : World} (hN : N ≤ 4096) (hseq : SeqGives Fence.wide 2 Try.prog g lb encZ S N w) :
    Calls Try.prog 33 #[.func (.func g) #[] lb] w fun e w' => ∃ v ss, e = .returned v ∧ S ss ∧ Row rNm w.heap.size w' v (srt ss) ∧ Below w.heap.size w w' := by
  have cS := AnyZI.sorted_in Try.sortedA Fence.wide 5 trivial trivial trivial trivial rfl (by omega) (sorts_A _) (enters_of Try.func43 (by kernel_rfl) rfl) g lb trivial eg S N (by unfold maxLen; omega) (by omega) w hseq
  change CallsIn _ _ Try.prog 33 _ _ _ at cS
  refine (callsIn_wide.1 cS).mono ?_
  rintro e w' ⟨v, ss, rfl, hS, hrow, -, hb⟩
  refine ⟨v, ss, rfl, hS, ?_, hb⟩
  unfold Row
  rw [show rNm.all (srt ss) = (srt ss).map encZ from by
    generalize srt ss = L
    induction L with
    | nil => rfl
    | cons x r ih => rw [rNm.all_cons, ih]; rfl, (srt_perm ss).length_eq]
  exact hrow
section
variable {A : Nat → Prop} {w W : World} {m bf bp : Nat} {s : Int} {l : List Rw}
theorem keysA_any (mb : Option Nat) (W : World) : Calls Try.prog 34 #[.map mb] W fun e w' => e = .returned (.func (.func 44) #[] #[.pointer (some ⟨W.heap.size, 0, none⟩)]) ∧ w' = W.alloc (.cells #[.map mb] 57) :=
  callsIn_wide.1 (AnyZI.keys_in Try.keysA Fence.wide 5 trivial rfl mb W)
theorem keysB_any (mb : Option Nat) (W : World) : Calls Try.prog 36 #[.map mb] W fun e w' => e = .returned (.func (.func 45) #[] #[.pointer (some ⟨W.heap.size, 0, none⟩)]) ∧ w' = W.alloc (.cells #[.map mb] 76) :=
  callsIn_wide.1 (AnyZI.keys_in Try.keysB Fence.wide 5 trivial rfl mb W)
theorem seqA {K : PL} (h : Mp whM w m K) (hlen : K.length ≤ 4096) : SeqGives Fence.wide 2 Try.prog 44 #[.pointer (some ⟨w.heap.size, 0, none⟩)] encZ (fun ss => ss.Perm (K.map (·.1))) K.length (w.alloc (.cells #[.map (some m)] 57)) := by
  obtain ⟨D0, n0, hown, hperm, hsize⟩ := mp_owns whM rfl rfl h hlen
  have hbl := h.lt
  have := AnyZI.keys_gives (ρ := Try.keysA_ren) { Try.keysA with } Fence.wide 2 trivial rfl (by omega) w.heap.size m n0 D0 (w.alloc (.cells #[.map (some m)] 57)) (by simp) (by simp) (by
      obtain ⟨es, clock, hb, Ft, hs, hD⟩ := hown
      exact ⟨es, clock, (Below.heap_alloc _ _ m hbl).trans hb, Ft, hs, hD⟩)
  rw [hsize] at this
  have e : (fun ss : List Int => ss.Perm (K.map (·.1))) = fun ss => ss.Perm (intKeys D0) := by
    funext ss
    exact propext ⟨fun k => k.trans hperm.symm, fun k => k.trans hperm⟩
  rw [e]
  exact this
theorem seqB {K : Ps} (h : Mp ppM w m K) (hlen : K.length ≤ 4096) : SeqGives Fence.wide 2 Try.prog 45 #[.pointer (some ⟨w.heap.size, 0, none⟩)] encZ (fun ss => ss.Perm (K.map (·.1))) K.length (w.alloc (.cells #[.map (some m)] 76)) := by
  obtain ⟨D0, n0, hown, hperm, hsize⟩ := mp_owns ppM rfl rfl h hlen
  have hbl := h.lt
  have := AnyZI.keys_gives (ρ := Try.keysB_ren) { Try.keysB with } Fence.wide 2 trivial rfl (by omega) w.heap.size m n0 D0 (w.alloc (.cells #[.map (some m)] 76)) (by simp) (by simp) (by
      obtain ⟨es, clock, hb, Ft, hs, hD⟩ := hown
      exact ⟨es, clock, (Below.heap_alloc _ _ m hbl).trans hb, Ft, hs, hD⟩)
  rw [hsize] at this
  have e : (fun ss : List Int => ss.Perm (K.map (·.1))) = fun ss => ss.Perm (intKeys D0) := by
    funext ss
    exact propext ⟨fun k => k.trans hperm.symm, fun k => k.trans hperm⟩
  rw [e]
  exact this
theorem seqB0 (w : World) : SeqGives Fence.wide 2 Try.prog 45 #[.pointer (some ⟨w.heap.size, 0, none⟩)] encZ (fun ss : List Int => ss = []) 0 (w.alloc (.cells #[.map none] 76)) :=
  AnyZI.keys_gives_nil (ρ := Try.keysB_ren) { Try.keysB with } Fence.wide 2 trivial rfl w.heap.size (w.alloc (.cells #[.map none] 76)) (by simp) (by simp)
def framesI (l : List Rw) : List Int := (framesR l).map fun n : Nat => (n : Int)
set_option maxRecDepth 100000 in
theorem framesI_ris (l : List Rw) : (framesI l).Pairwise (· < ·) := List.pairwise_map.2 ((frames_ris l).imp fun h => by omega)
set_option maxRecDepth 100000 in
theorem framesI_mem (h : MayR l) {f : Int} : f ∈ framesI l ↔ ∃ x ∈ l, x.f = f := by
  unfold framesI
  rw [List.mem_map]
  constructor
  · rintro ⟨n, hn, rfl⟩
    exact (frames_mem h).1 hn
  · rintro ⟨x, hx, rfl⟩
    have h2 := (h.2 x hx)
    unfold Rw.may at h2
    exact ⟨x.f.toNat, (frames_mem h).2 ⟨x, hx, by omega⟩, by omega⟩
set_option maxRecDepth 100000 in
theorem keys_of {K : PL} (hd : K.Pairwise fun p q => p.1 ≠ q.1) (hl : MayR l) (hK : lkP K = ofR l) (hne : ∀ x ∈ K, x.2.2 ≠ []) : (K.map (·.1)).Nodup ∧ (∀ f, f ∈ K.map (·.1) ↔ ∃ x ∈ l, x.f = f) ∧ K.length ≤ 4096 := by
  have h1 : (K.map (·.1)).Nodup := List.pairwise_map.2 hd
  have h2 : ∀ f, f ∈ K.map (·.1) ↔ ∃ x ∈ l, x.f = f := fun f => by
    have h3 : (lkP K f = []) ↔ getL K f = none := lkP_nil hne f
    constructor
    · intro h
      obtain ⟨p, hp, rfl⟩ := List.mem_map.1 h
      have h4 : lkP K p.1 ≠ [] := fun e => by
        have := h3.1 e
        rw [getL_of_mem hd (n := p.1) (x := p.2) hp] at this
        simp at this
      rw [hK] at h4
      obtain ⟨x, hx⟩ := List.exists_mem_of_ne_nil _ h4
      exact ⟨x, of_mem.1 hx⟩
    · rintro ⟨x, hx, rfl⟩
      have h4 : lkP K x.f ≠ [] := fun e => by
        rw [hK] at e
        have := of_mem.2 ⟨hx, rfl⟩
        rw [e] at this
        simp at this
      obtain ⟨y, hy⟩ := Option.ne_none_iff_exists'.1 fun e => h4 (h3.2 e)
      exact List.mem_map.2 ⟨_, getL_mem hy, rfl⟩
  refine ⟨h1, h2, ?_⟩
  have := few_from0 4096 (K.map (·.1)) h1 fun k hk => by
    obtain ⟨x, hx, rfl⟩ := (h2 k).1 hk
    have := hl.2 x hx
    unfold Rw.may at this
    omega
  simpa using this
set_option maxRecDepth 100000 in
set_option maxHeartbeats 4000000 in
theorem frames_any (h : (RmT m l).In A w) : Calls Try.prog 18 #[.pointer (some ⟨m, 0, none⟩)] w (RowP rNm w (framesI l)) := by
  obtain ⟨⟨bf, bp⟩, hl, h⟩ := h
  obtain ⟨C, hg⟩ := RmX.pg h
  obtain ⟨K, ⟨hK, hne⟩, hg⟩ := hg
  have hM := MX.mp hg
  obtain ⟨hnd, hmem, hfew⟩ := keys_of hM.apart hl.1 hK hne
  have hseq := seqA hM hfew
  have c0 : w.cell? ⟨m, 1, none⟩ = some (.map (some bp)) := by rw [(RmX.box h).cell]; rfl
  have cS := sorted_by (enters_of Try.func44 (by kernel_rfl) rfl) hfew hseq
  have cK := keysA_any
  have HZ : Hid (∀ (v : Value) (ss : List Int) (w' : World), ss.Perm (K.map (·.1)) → Row rNm (w.alloc (.cells #[.map (some bp)] 57)).heap.size w' v (srt ss) → Below (w.alloc (.cells #[.map (some bp)] 57)).heap.size (w.alloc (.cells #[.map (some bp)] 57)) w' → RowP rNm w (framesI l) (.returned v) w') := fun v ss w' hS hrow hb => by
    have e : srt ss = framesI l := z_ext (srt_ris (hS.nodup_iff.2 hnd)) (framesI_ris l) fun f => by rw [(srt_perm ss).mem_iff, hS.mem_iff, hmem, framesI_mem hl.1]
    rw [e] at hrow
    obtain ⟨ao, c, rfl⟩ := hrow.form
    exact ⟨ao, c, rfl, row_new (hrow.lower (by simp)) ((new_below _ _).trans (hb.mono (by simp)))⟩
  clear hseq hnd hmem hfew hM hg hK hne hl h
  go_enter Try.func18, Try.ntmps18
  go_wp2_with (first
    | (go_at_call 34; refine (cK _ _).mono ?_; rintro e w' ⟨rfl, rfl⟩)
    | (go_at_call 33; refine cS.mono ?_; rintro e w' ⟨v, ss, rfl, hS, hrow, hb⟩))
  go_ret
  exact HZ.out _ _ _ hS hrow hb
end
end Go.Proofs.Ytdeaniigimmoaaa
/- Pages. -/
namespace Go.Proofs.Ytdeaniigimmoaaa
open Go.RowKit Go.Maps Go.Sort Go.Shelf

def mpL (s : Int) (F : Int → Option Int) (ss : List Int) : List Rw := ss.map fun p => ⟨s, p, (F p).getD 0⟩
section
variable {A : Nat → Prop} {w W : World} {m bf bp : Nat} {s : Int} {l : List Rw} {F : Fr}
theorem pages_src (h : (FrT bf F).In A w) (hs : okI s) (hF : ∀ p x, F s p = some x → 0 ≤ p ∧ p < 4096) :
    ∃ (o : Option Nat) (S : List Int → Prop) (N : Nat), N ≤ 4096 ∧ (Instr.lookup 56 (.map (some bf)) (.int .i64 s) false).run Try.prog w = .ok (.map o) w ∧
      SeqGives Fence.wide 2 Try.prog 45 #[.pointer (some ⟨w.heap.size, 0, none⟩)] encZ S N (w.alloc (.cells #[.map o] 76)) ∧
      (∀ ss, S ss → ss.Nodup ∧ (∀ p, p ∈ ss ↔ F s p ≠ none) ∧ ss.length ≤ 4096) ∧
      ∀ W p x, Below w.heap.size w W → F s p = some x → (Instr.lookup 76 (.map o) (.int .i64 p) false).run Try.prog W = .ok (.int .i64 x) W := by
  obtain ⟨L, rfl, h⟩ := h
  have hm := MX.mp h
  cases e : getL L s with
  | none =>
    have h0 : ∀ p, lk2 L s p = none := fun p => by unfold lk2; rw [e]; rfl
    refine ⟨none, fun ss => ss = [], 0, by omega, ?_, seqB0 w, fun ss k => ?_, fun W p x _ k => ?_⟩
    · have := get_ff hm hs
      rw [e] at this
      exact this
    · rw [k]
      exact ⟨List.nodup_nil, fun p => by simp [h0 p], by simp⟩
    · rw [h0 p] at k
      simp at k
  | some x =>
    obtain ⟨g, es⟩ := x
    obtain ⟨C, h1, -⟩ := mx_open h e
    have h2 : Mp ppM w g es := h1.2
    have h0 : ∀ p, lk2 L s p = getL es p := fun p => by unfold lk2; rw [e]; rfl
    have hnd : (es.map (·.1)).Nodup := List.pairwise_map.2 h2.apart
    have hmem : ∀ p, p ∈ es.map (·.1) ↔ lk2 L s p ≠ none := fun p => by
      rw [h0]
      constructor
      · intro k
        obtain ⟨q, hq, rfl⟩ := List.mem_map.1 k
        rw [getL_of_mem h2.apart (n := q.1) (x := q.2) hq]
        simp
      · intro k
        obtain ⟨y, hy⟩ := Option.ne_none_iff_exists'.1 k
        exact List.mem_map.2 ⟨_, getL_mem hy, rfl⟩
    have hrg : ∀ k ∈ es.map (·.1), 0 ≤ k ∧ k < ((4096 : Nat) : Int) := fun k hk => by
      obtain ⟨y, hy⟩ := Option.ne_none_iff_exists'.1 ((hmem k).1 hk)
      have := hF k y hy
      omega
    have hfew := few_from0 4096 (es.map (·.1)) hnd hrg
    rw [List.length_map] at hfew
    refine ⟨some g, fun ss => ss.Perm (es.map (·.1)), es.length, hfew, ?_, seqB h2 hfew, fun ss k => ?_, fun W p x hb k => ?_⟩
    · have := get_ff hm hs
      rw [e] at this
      exact this
    · exact ⟨k.nodup_iff.2 hnd, fun p => by rw [k.mem_iff, hmem], by rw [k.length_eq, List.length_map]; exact hfew⟩
    · rw [h0] at k
      have hp : okI p := h2.oks _ (getL_mem k)
      have := get_pp (h2.same (hb.block _ h2.lt)) hp
      rw [k] at this
      exact this
theorem mp_pages (h : MayR l) {ss : List Int} (hr : ss.Pairwise (· < ·)) (hm : ∀ p, p ∈ ss ↔ frF l s p ≠ none) : mpL s (frF l s) ss = pagesR l s := by
  refine ris_ext (List.pairwise_map.2 (hr.imp fun k => Or.inr ⟨rfl, k⟩)) (pages_ris h.1 s) fun x => ?_
  rw [pages_mem]
  unfold mpL
  rw [List.mem_map]
  constructor
  · rintro ⟨p, hp, rfl⟩
    obtain ⟨y, hy⟩ := Option.ne_none_iff_exists'.1 ((hm p).1 hp)
    rw [hy]
    exact ⟨(fr_iff h.1).1 hy, rfl⟩
  · rintro ⟨hx, rfl⟩
    have := (fr_iff h.1 (s := x.s) (p := x.p) (f := x.f)).2 hx
    exact ⟨x.p, (hm _).2 (by rw [this]; simp), by rw [this]; rfl⟩
set_option maxRecDepth 100000 in
set_option maxHeartbeats 8000000 in
theorem pages_any (h : (RmT m l).In A w) (hs : okI s) : Calls Try.prog 22 #[.pointer (some ⟨m, 0, none⟩), .int .i64 s] w (RowP rMp w (pagesR l s)) := by
  obtain ⟨⟨bf, bp⟩, hl, h⟩ := h
  simp only at h
  obtain ⟨C, hg, -⟩ := rm_fr h
  obtain ⟨o, S, N, hN, q0, hseq, hS0, hlk⟩ := pages_src (s := s) hg hs (fun p x e => by
    have := hl.1.2 _ ((fr_iff hl.1.1).1 e)
    unfold Rw.may at this
    simp only at this
    exact ⟨by omega, by omega⟩)
  have c0 : w.cell? ⟨m, 0, none⟩ = some (.map (some bf)) := by rw [(RmX.box h).cell]; rfl
  have cS := sorted_by (enters_of Try.func45 (by kernel_rfl) rfl) hN hseq
  have cK := keysB_any
  have HS : Hid (∀ ss, S ss → ss.Nodup ∧ (∀ p, p ∈ ss ↔ frF l s p ≠ none) ∧ ss.length ≤ 4096) := hS0
  have HLK : Hid (∀ W p x, Below w.heap.size w W → frF l s p = some x → (Instr.lookup 76 (.map o) (.int .i64 p) false).run Try.prog W = .ok (.int .i64 x) W) := hlk
  have HL : Hid (MayR l ∧ l.length ≤ 4096) := hl
  clear hseq hg hS0 hlk h hl hN hs
  go_enter Try.func22, Try.ntmps22
  go_wp2_with (first
    | (go_at_call 36; refine (cK _ _).mono ?_; rintro e w' ⟨rfl, rfl⟩)
    | (go_at_call 33; refine cS.mono ?_; rintro e w2 ⟨v, ss, rfl, hS, hrow, hb⟩; obtain ⟨ao, cc, rfl⟩ := hrow.form))
  obtain ⟨hnd, hmem, hlen⟩ := HS.out ss hS
  have hris := srt_ris hnd
  have hm2 : ∀ p, p ∈ srt ss ↔ frF l s p ≠ none := fun p => by rw [(srt_perm ss).mem_iff]; exact hmem p
  have hl2 : (srt ss).length ≤ 4096 := by rw [(srt_perm ss).length_eq]; exact hlen
  generalize srt ss = SS at *
  have HSS : Hid (SS.Pairwise (· < ·) ∧ (∀ p, p ∈ SS ↔ frF l s p ≠ none) ∧ SS.length ≤ 4096) := ⟨hris, hm2, hl2⟩
  have hbw : Below w.heap.size w w2 := (new_below _ _).trans (hb.mono (by simp))
  have HB0 : Hid (Below w.heap.size w w2) := hbw
  have HRow : Hid (Row rNm w.heap.size w2 (.slice ao SS.length cc) SS) := hrow.lower (by simp)
  have hl9 : SS.length ≤ 9223372036854775807 := by omega
  clear hnd hmem hlen hris hm2 hl2 hrow hb hS hbw cS cK HS q0 c0
  go_loopw [5, 19] (fun av iv wr => ∃ k : Nat, k ≤ SS.length ∧ iv = .int .i64 k ∧ Hid (Row rMp w2.heap.size wr av (mpL s (frF l s) (SS.take k))) ∧ Hid (Below w2.heap.size w2 wr)) (fun _ iv _ => SS.length - (intOf iv).toNat)
  case atStart => exact ⟨0, Nat.zero_le _, rfl, Row.nil _ _ _, Below.refl _ _⟩
  case round =>
    obtain ⟨k, hk, rfl, HR, HB⟩ := hrel
    by_cases hkl : k < SS.length
    · have hki : (k : Int) < (SS.length : Int) := by omega
      have hk0 : (0 : Int) ≤ (k : Int) := by omega
      obtain ⟨g, rfl, _, _, hgl, _, _, hat⟩ := (HRow.out.below HB.out).at hkl
      have y0 := rNm.at hat
      simp only [show rNm.n = 1 from rfl, show Rec.zero rNm = (0 : Int) from rfl, Nat.mul_one] at y0
      have hpm : SS.getD k 0 ∈ SS := by rw [List.getD_eq_getElem?_getD, List.getElem?_eq_getElem hkl]; exact List.getElem_mem hkl
      obtain ⟨x, hx⟩ := Option.ne_none_iff_exists'.1 ((HSS.out.2.1 _).1 hpm)
      have q1 := HLK.out wr _ x (below_call' HB0.out HB.out) hx
      have hTk : mpL s (frF l s) (SS.take (k + 1)) = mpL s (frF l s) (SS.take k) ++ [⟨s, SS.getD k 0, x⟩] := by
        unfold mpL
        rw [List.take_add_one, List.getElem?_eq_getElem hkl, Option.toList_some, List.map_append, List.map_singleton]
        rw [List.getD_eq_getElem?_getD, List.getElem?_eq_getElem hkl, Option.getD_some] at hx ⊢
        rw [hx]
        rfl
      have hTl : (mpL s (frF l s) (SS.take k)).length ≤ 4096 := by
        unfold mpL
        rw [List.length_map, List.length_take]
        have := HSS.out.2.2
        omega
      have HT : Hid (mpL s (frF l s) (SS.take (k + 1)) = mpL s (frF l s) (SS.take k) ++ [⟨s, SS.getD k 0, x⟩]) := hTk
      have HTL : Hid ((mpL s (frF l s) (SS.take k)).length ≤ 4096) := hTl
      generalize mpL s (frF l s) (SS.take k) = T at *
      generalize SS.getD k 0 = p at *
      have HRA : Hid (∀ o1, Row rMp w2.heap.size (wr.alloc o1) u5 T) := fun o1 => HR.out.below (new_below _ _)
      clear hat hpm hx hTk hTl
      go_wp2_with (at_builtin; refine list_app rMp.kin rfl _ _ rfl w2.heap.size _ T [⟨s, p, x⟩] rfl (HRA.out _) (some ⟨wr.heap.size, 0, none⟩) 1 1 rfl rfl ?a2 ?a3 ?a4 ?a5 ?_)
      case a2 => exact Seen.one (by simp) (At.new (R := rMp) wr ⟨s, p, x⟩ _ rfl) 1
      case a3 => have := HTL.out; show T.length + 1 ≤ maxLen; unfold maxLen; omega
      case a4 => have := HTL.out; show (T.length + 1) * 16 ≤ 140737488355328; omega
      case a5 => have := HB.out.size; simp; omega
      intro v' w7 hrow hgrow
      have HR7 : Hid (Row rMp w2.heap.size w7 v' (mpL s (frF l s) (SS.take (k + 1)))) := by
        show Row _ _ _ _ _
        rw [HT.out]
        exact hrow
      have HB7 : Hid (Below w2.heap.size w2 w7) := (HB.out.alloc HB.out.size _).grown hgrow (by have := HB.out.size; simp; omega) (fun j hj => ((HRA.out default).lt j hj).1)
      clear hrow hgrow
      go_wp2
      go_roundw
      case rel => exact ⟨k + 1, hkl, by go_num, HR7, HB7⟩
      case measure => simp only [intOf]; omega
    · obtain rfl : k = SS.length := by omega
      have hR := HR.out
      rw [List.take_length, mp_pages HL.out.1 HSS.out.1 HSS.out.2.1] at hR
      obtain ⟨ao2, c2, rfl⟩ := hR.form
      have HE : Hid (Bec (fun _ => False) w (.row rMp (.slice ao2 (pagesR l s).length c2) (pagesR l s)) wr) := row_new (hR.lower HB0.out.size) (below_call' HB0.out HB.out)
      clear hR HR
      go_wp2
      go_ret
      exact ⟨ao2, c2, rfl, HE⟩
end
end Go.Proofs.Ytdeaniigimmoaaa
/- What the statements' walks share. -/
namespace Go.Proofs.Ytdeaniigimmoaaa
open Go.RowKit

section
variable {A F : Nat → Prop} {w w' W : World} {m : Nat} {l : List Rw} {s p f a b : Int} {Y : Th}
theorem add_ex (l : List Rw) (s p f : Int) : ∃ code l', AddD l s p f code l' ∧ l'.length ≤ l.length + 1 := by
  by_cases h1 : (Rw.mk s p f).may
  · by_cases h2 : atR l s p = none
    · exact ⟨0, _, Or.inr (Or.inr ⟨h1, h2, rfl, rfl⟩), by rw [put_len]; exact Nat.le_refl _⟩
    · exact ⟨4, _, Or.inr (Or.inl ⟨h1, h2, rfl, rfl⟩), by omega⟩
  · exact ⟨1, _, Or.inl ⟨h1, rfl, rfl⟩, by omega⟩
theorem move_ex (l : List Rw) (a b : Int) : ∃ code l', MoveD l a b code l' := by
  by_cases h1 : mayFB a = true ∧ mayFB b = true ∧ a ≠ b
  · by_cases h2 : ofR l b = []
    · exact ⟨0, _, Or.inr (Or.inr ⟨h1, h2, rfl, rfl⟩)⟩
    · exact ⟨7, _, Or.inr (Or.inl ⟨h1, h2, rfl, rfl⟩)⟩
  · exact ⟨1, _, Or.inl ⟨h1, rfl, rfl⟩⟩
/-- Add, at a map that has come to be beside Y. -/
theorem Bec.addc {code : Int} {l' : List Rw} (h : Bec F w ((RmT m l).and Y) W) (hs : okI s) (hp : okI p) (hf : okI f) (hlen : l.length < 4096) (hd : AddD l s p f code l') :
    Calls Try.prog 11 #[.pointer (some ⟨m, 0, none⟩), .int .i64 f, .agg #[.int .i64 s, .int .i64 p]] W fun e W' => e = .returned (errV code) ∧ Hid (Bec F w ((RmT m l').and Y) W') := by
  obtain ⟨A, h1, cl⟩ := h.open
  exact (add_any h1 hs hp hf hlen hd).mono fun e W' k => ⟨k.1, cl k.2⟩
theorem Bec.remc (h : Bec F w ((RmT m l).and Y) W) (hs : okI s) (hp : okI p) :
    Calls Try.prog 14 #[.pointer (some ⟨m, 0, none⟩), .agg #[.int .i64 s, .int .i64 p]] W fun e W' => e = .returned (frV (frF l s p)) ∧ Hid (Bec F w ((RmT m (dropR l s p)).and Y) W') := by
  obtain ⟨A, h1, cl⟩ := h.open
  cases e : atR l s p with
  | none =>
    have e2 : dropR l s p = l := List.filter_eq_self.2 fun x hx => by
      have := at_none e hx
      simp only [Bool.not_eq_true', Bool.and_eq_false_iff, beq_eq_false_iff_ne]
      by_cases k : x.s = s
      · exact Or.inr fun k2 => this ⟨k, k2⟩
      · exact Or.inl k
    rw [show frF l s p = none from fr_at.2 e, e2]
    exact (remove_no h1 hs hp e).mono fun e W' k => ⟨k.1, cl k.2⟩
  | some x =>
    rw [show frF l s p = some x.f by unfold frF; rw [e]; rfl]
    exact (remove_yes h1 hs hp e).mono fun e W' k => ⟨k.1, cl k.2⟩
theorem Bec.movc {code : Int} {l' : List Rw} (h : Bec F w ((RmT m l).and Y) W) (ha : okI a) (hb : okI b) (hd : MoveD l a b code l') :
    Calls Try.prog 16 #[.pointer (some ⟨m, 0, none⟩), .int .i64 a, .int .i64 b] W fun e W' => e = .returned (errV code) ∧ Hid (Bec F w ((RmT m l').and Y) W') := by
  obtain ⟨A, h1, cl⟩ := h.open
  exact (move_any h1 ha hb hd).mono fun e W' k => ⟨k.1, cl k.2⟩
theorem Bec.rmt (h : Bec F w ((RmT m l).and Y) W) : ∃ A, (RmT m l).In A W := by
  obtain ⟨A, h1, -⟩ := h.open
  exact ⟨A, h1⟩
theorem Bec.may (h : Bec F w ((RmT m l).and Y) W) : MayR l ∧ l.length ≤ 4096 := by
  obtain ⟨A, ⟨_, k, -⟩, -⟩ := h.open
  exact k
/-- A row that a call has told, beside the rest. -/
theorem Bec.tell {α : Type} {R : Rec α} {v : Value} {L : List α} {W' : World} (h : Bec F w ((RmT m l).and Y) W) (k : Bec (fun _ => False) W (.row R v L) W') : Bec F w ((RmT m l).and (Y.and (.row R v L))) W' :=
  (h.new k).imp fun q => and_assoc _ _ _ (and_comm _ _ q)
theorem Bec.ofc (h : Bec F w ((RmT m l).and Y) W) (hf : okI f) : Calls Try.prog 19 #[.pointer (some ⟨m, 0, none⟩), .int .i64 f] W fun e W' => ∃ ao c, e = .returned (.slice ao (ofR l f).length c) ∧ Hid (Bec F w ((RmT m l).and (Y.and (.row rWh (.slice ao (ofR l f).length c) (ofR l f)))) W' ∧ Bec F w ((RmT m l).and Y) W' ∧ Below W.heap.size W W' ∧ Row rWh 0 W' (.slice ao (ofR l f).length c) (ofR l f)) := by
  obtain ⟨A, h1⟩ := h.rmt
  refine (of_any h1 hf).mono ?_
  rintro e W' ⟨ao, c, rfl, k⟩
  obtain ⟨G, -, k2, -⟩ := k.out
  exact ⟨ao, c, rfl, h.tell k.out, h.below k.out.frame, k.out.frame, k2.2⟩
theorem Bec.frs (h : Bec F w ((RmT m l).and Y) W) : Calls Try.prog 18 #[.pointer (some ⟨m, 0, none⟩)] W fun e W' => ∃ ao c, e = .returned (.slice ao (framesI l).length c) ∧ Hid (Bec F w ((RmT m l).and (Y.and (.row rNm (.slice ao (framesI l).length c) (framesI l)))) W' ∧ Bec F w ((RmT m l).and Y) W' ∧ Below W.heap.size W W' ∧ Row rNm 0 W' (.slice ao (framesI l).length c) (framesI l)) := by
  obtain ⟨A, h1⟩ := h.rmt
  refine (frames_any h1).mono ?_
  rintro e W' ⟨ao, c, rfl, k⟩
  obtain ⟨G, -, k2, -⟩ := k.out
  exact ⟨ao, c, rfl, h.tell k.out, h.below k.out.frame, k.out.frame, k2.2⟩
theorem Bec.pgs (h : Bec F w ((RmT m l).and Y) W) (hs : okI s) : Calls Try.prog 22 #[.pointer (some ⟨m, 0, none⟩), .int .i64 s] W fun e W' => ∃ ao c, e = .returned (.slice ao (pagesR l s).length c) ∧ Hid (Bec F w ((RmT m l).and Y) W' ∧ Below W.heap.size W W' ∧ Row rMp 0 W' (.slice ao (pagesR l s).length c) (pagesR l s)) := by
  obtain ⟨A, h1⟩ := h.rmt
  refine (pages_any h1 hs).mono ?_
  rintro e W' ⟨ao, c, rfl, k⟩
  obtain ⟨G, -, k2, -⟩ := k.out
  exact ⟨ao, c, rfl, h.below k.out.frame, k.out.frame, k2.2⟩
theorem Bec.cnt (h : Bec F w ((RmT m l).and Y) W) (hf : okI f) : Calls Try.prog 20 #[.pointer (some ⟨m, 0, none⟩), .int .i64 f] W fun e W' => e = .returned (.int .i64 (ofR l f).length) ∧ W' = W := by
  obtain ⟨A, h1⟩ := h.rmt
  exact count_any h1 hf
theorem Bec.frm (h : Bec F w ((RmT m l).and Y) W) (hs : okI s) (hp : okI p) : Calls Try.prog 21 #[.pointer (some ⟨m, 0, none⟩), .agg #[.int .i64 s, .int .i64 p]] W fun e W' => e = .returned (frV (frF l s p)) ∧ Hid (Bec F w ((RmT m l).and Y) W' ∧ Below W.heap.size W W') := by
  obtain ⟨A, h1⟩ := h.rmt
  exact (frame_any h1 hs hp).mono fun e W' k => ⟨k.1, h.below k.2.out, k.2.out⟩
theorem rm_start {m : Nat} (h : Bec (fun _ => False) w (RmT m []) W) : Bec (fun _ => False) w ((RmT m []).and .emp) W := h.imp (emp_and _)
end
end Go.Proofs.Ytdeaniigimmoaaa
/- Clone. -/
namespace Go.Proofs.Ytdeaniigimmoaaa
open Go.RowKit

set_option maxRecDepth 100000 in
set_option maxHeartbeats 2000000 in
theorem mclone_any {w : World} {b : Nat} {es : Array MapEntry} {clock : Nat} (hb : w.heap[b]? = some (.map es clock)) :
    Calls Try.prog 37 #[.map (some b)] w fun e w' => e = .returned (.map (some w.heap.size)) ∧ w' = w.alloc (.map es clock) := by
  have hq := fun w => run_eql_map_nil_sl (P := Try.prog) w 76 _ _ (some b) Try.underlying76
  go_enter Try.func37, Try.ntmps37
  go_wp2
  rw [run_callFunc_extern Try.func46 (by kernel_rfl) (by kernel_rfl) (by kernel_rfl) (e := Extern.MapsClone.clone) (by kernel_rfl), run_maps_clone_sl w 76 hb]
  simp only [Result.andThen]
  rw [Oper.upon_value]
  go_wp2
  rw [run_typeAssert_map_sl _ 76 20 _ _ _ Try.underlying76]
  simp only [Result.andThen]
  rw [Oper.upon_value]
  go_wp2
  go_ret
  exact ⟨rfl, rfl⟩
def stepI (dn : Int → Bool) (s : Int) : Int → Bool := fun k => dn k || decide (k = s)
theorem leftG_le {β : Type} {dn : Int → Bool} (s : Int) : ∀ l : List (Int × β), (l.filter fun p => !stepI dn s p.1).length ≤ (l.filter fun p => !dn p.1).length
  | [] => Nat.le_refl _
  | x :: r => by
    have ih := leftG_le (dn := dn) s r
    simp only [List.filter_cons]
    cases h1 : dn x.1 <;> by_cases h2 : x.1 = s <;> simp [stepI, h1, h2] at ih ⊢ <;> omega
theorem leftG_drops {β : Type} {dn : Int → Bool} {p : Int × β} (hd : dn p.1 = false) : ∀ l : List (Int × β), p ∈ l → (l.filter fun q => !stepI dn p.1 q.1).length < (l.filter fun q => !dn q.1).length
  | [], h => by simp at h
  | x :: r, h => by
    have hle := leftG_le (dn := dn) p.1 r
    have ih := leftG_drops hd r
    simp only [List.filter_cons]
    rcases List.mem_cons.1 h with rfl | h
    · simp [stepI, hd] at hle ⊢
      omega
    · have ih := ih h
      cases h1 : dn x.1 <;> by_cases h2 : x.1 = p.1 <;> simp [stepI, h1, h2] at ih hle ⊢ <;> omega
/-- What has come. -/
def rsF (F : Fr) (dn : Int → Bool) : Fr := fun s p => if dn s = true then F s p else none
def rsG (G : Pg) (dn : Int → Bool) : Pg := fun f => if dn f = true then G f else []
theorem rsF_all {L : FL} {dn : Int → Bool} (h : ∀ p ∈ L, dn p.1 = true) : rsF (lk2 L) dn = lk2 L := by
  funext s p
  unfold rsF
  cases e : getL L s with
  | none =>
    rw [show lk2 L s p = none by unfold lk2; rw [e]; rfl]
    split <;> rfl
  | some x => rw [if_pos (h _ (getL_mem e))]
theorem rsG_all {L : PL} {dn : Int → Bool} (h : ∀ p ∈ L, dn p.1 = true) : rsG (lkP L) dn = lkP L := by
  funext f
  unfold rsG
  cases e : getL L f with
  | none =>
    rw [show lkP L f = [] by unfold lkP; rw [e]]
    split <;> rfl
  | some x => rw [if_pos (h _ (getL_mem e))]
theorem rsF_no (F : Fr) : rsF F (fun _ => false) = fun _ _ => none := by funext s p; simp [rsF]
theorem rsG_no (G : Pg) : rsG G (fun _ => false) = fun _ => [] := by funext f; simp [rsG]
/-- While a loop goes on: X lies in blocks newer than w, beside the iterator r. -/
def ClI (w : World) (r : Nat) (X : Th) (W : World) : Prop := Below w.heap.size w W ∧ ∃ Fo, X.In Fo W ∧ (∀ c, Fo c → w.heap.size ≤ c) ∧ ¬ Fo r
section
variable {w W w1 w2 w' : World} {r m bf bp : Nat} {X Y : Th} {F : Fr} {G : Pg} {dn : Int → Bool}
theorem cl_next (hi : ClI w r X W) (hr : w.heap.size ≤ r) (hg : W.grownBy w1 (some r)) : ClI w r X w1 := by
  obtain ⟨hb, Fo, h, h1, h2⟩ := hi
  have hk := Keeps.of_grown hg
  exact ⟨hb.trans (hk.below hb.size fun c _ e => by simp at e; omega), Fo, X.keeps h hk fun c hc e => h2 (by simp at e; rw [e]; exact hc), h1, h2⟩
theorem cl_start (h : Bec (fun _ => False) w X w1) (hg : w1.grownBy w2 none) : ClI w w1.heap.size X w2 := by
  obtain ⟨Fo, h1, h2, h3⟩ := h
  have hk := Keeps.of_grown hg
  refine ⟨(h3.below (Nat.le_refl _) fun _ _ e => e.elim).trans (hk.below h3.size fun c _ e => by simp at e), Fo, X.keeps h2 hk fun c _ e => by simp at e, fun c hc => (h1 c hc).resolve_left fun e => e, fun hc => ?_⟩
  have := X.lt h2 _ hc
  omega
theorem cl_end (h : ClI w r X W) : Bec (fun _ => False) w X W := by
  obtain ⟨hb, Fo, k1, k2, -⟩ := h
  exact bec_false k1 k2 hb
theorem cl_bec (hi : ClI w r X W) (hr : r < W.heap.size) : ∃ Fo, X.In Fo W ∧ ∀ {X' : Th} {w' : World}, Bec Fo W X' w' → ClI w r X' w' ∧ (∀ c, c < w.heap.size → w'.heap[c]? = W.heap[c]?) ∧ w'.heap[r]? = W.heap[r]? := by
  obtain ⟨hb, Fo, h, h1, h2⟩ := hi
  refine ⟨Fo, h, fun {X' w'} k => ?_⟩
  obtain ⟨F3, f1, f2, f3⟩ := k
  refine ⟨⟨hb.trans (f3.below hb.size fun c _ e => h1 c e), F3, f2, fun c hc => ?_, fun hc => ?_⟩, fun c hc => ?_, ?_⟩
  · rcases f1 c hc with k | k
    · exact h1 c k
    · have := hb.size; omega
  · rcases f1 r hc with k | k
    · exact h2 k
    · omega
  · exact f3.block c (Nat.lt_of_lt_of_le hc hb.size) fun k => by have := h1 c k; omega
  · exact f3.block r hr h2
theorem cl_cells (hi : ClI w r (RmY m bf bp F Y) W) : ∀ W', Below W.heap.size W W' → W'.cell? ⟨m, 0, none⟩ = some (.map (some bf)) ∧ W'.cell? ⟨m, 1, none⟩ = some (.map (some bp)) := by
  obtain ⟨hb, Fo, h, h1, h2⟩ := hi
  intro W' hb'
  have h3 := (RmX.box h).below hb'
  exact ⟨by rw [h3.cell]; rfl, by rw [h3.cell]; rfl⟩
/-- Behind a clone and its store. -/
def CkOp (w W : World) (r m o : Nat) (val : Value) (t : TypeId) (b : Nat) (k : Int) (X : Th) (e : Ending) (w2 : World) : Prop :=
  ∃ v' w3, e = .returned v' ∧ (Instr.mapUpdate t (.map (some b)) (.int .i64 k) v').run Try.prog w2 = .ok () w3 ∧ w2.cell? ⟨m, o, none⟩ = some val ∧ w3.cell? ⟨m, o, none⟩ = some val ∧
    Hid (ClI w r X w3 ∧ (∀ c, c < w.heap.size → w3.heap[c]? = W.heap[c]?) ∧ w3.heap[r]? = W.heap[r]?)
theorem cf_step {L : FL} {A : Nat → Prop} {s : Int} {b0 g : Nat} {es : Ps} (h : (MX ffM spT b0 L).In A w) (hx : getL L s = some (g, es)) (hs : okI s) (hi : ClI w r (RmY m bf bp (rsF (lk2 L) dn) Y) W) (hr : r < W.heap.size) :
    ∀ W', Below W.heap.size W W' → Calls Try.prog 37 #[.map (some g)] W' (CkOp w W r m 0 (.map (some bf)) 56 bf s (RmY m bf bp (rsF (lk2 L) (stepI dn s)) Y)) := by
  intro W' hb'
  obtain ⟨C, c1, -⟩ := mx_open h hx
  have hbw : Below w.heap.size w W' := below_call' hi.1 hb'
  have hcl : Mp ppM W' g es := c1.2.same (hbw.block _ c1.2.lt)
  obtain ⟨ea, clock, e1, e2⟩ := hcl.copy
  refine (mclone_any e1).mono ?_
  rintro e w2 ⟨rfl, rfl⟩
  obtain ⟨Fo, f1, f2⟩ := cl_bec hi hr
  have f3 := in_below f1 hb'
  obtain ⟨D, d1, d2⟩ := rm_fr f3
  obtain ⟨L', hL', d3⟩ := d1
  have k1 : Bec D W' ((spT (W'.heap.size, es)).and (MXh ffM spT bf L' s)) (W'.alloc (.map ea clock)) := (mx_hole d3).new (mp_new e2 (Nat.le_refl _) (new_below _ _))
  obtain ⟨E, k2, k3⟩ := k1.next
  obtain ⟨w3, r1, r2, -⟩ := mx_store (M := ffM) k2 hs
  have k4 : Bec D W' (FrT bf (rsF (lk2 L) (stepI dn s))) w3 := (k3 r2).imp fun k => ⟨_, by
    funext a c
    rw [lk2_put, hL']
    unfold rsF stepI
    by_cases ea : a = s
    · subst ea
      simp [lk2, hx]
    · simp [ea], k⟩
  have k5 := bec_from hb' (d2 k4)
  obtain ⟨k6, k7, k8⟩ := f2 k5
  refine ⟨_, w3, rfl, r1, ?_, ?_, k6, k7, k8⟩
  · exact (cl_cells hi _ (below_call' hb' (new_below _ _))).1
  · exact (cl_cells k6 _ (Below.refl _ _)).1
theorem cp_step {L : PL} {A : Nat → Prop} {f : Int} {b0 : Nat} {v : Value} {l : List Rw} (h : (MX whM rwT b0 L).In A w) (hne : ∀ x ∈ L, x.2.2 ≠ []) (hx : getL L f = some (v, l)) (hl : l.length ≤ 4096) (hf : okI f) (hi : ClI w r (RmY m bf bp F (PgT bp (rsG (lkP L) dn))) W) (hr : r < W.heap.size) :
    ∀ W', Below W.heap.size W W' → Calls Try.prog 35 #[v] W' (CkOp w W r m 1 (.map (some bp)) 57 bp f (RmY m bf bp F (PgT bp (rsG (lkP L) (stepI dn f))))) := by
  intro W' hb'
  obtain ⟨C, c1, -⟩ := mx_open h hx
  have hbw : Below w.heap.size w W' := below_call' hi.1 hb'
  have hcl : Row rWh 0 W' v l := c1.2.below hbw
  refine (clone_rWh hcl hl).mono ?_
  rintro e w2 ⟨v', rfl, hr2, hb2⟩
  obtain ⟨Fo, f1, f2⟩ := cl_bec hi hr
  have f3 := in_below f1 hb'
  obtain ⟨D, d1, d2⟩ := rm_y f3
  obtain ⟨L', ⟨hL', hn'⟩, d3⟩ := d1
  have k1 : Bec D W' ((rwT (v', l)).and (MXh whM rwT bp L' f)) w2 := (mx_hole d3).new (row_new hr2 hb2)
  obtain ⟨E, k2, k3⟩ := k1.next
  obtain ⟨w3, r1, r2⟩ := pg_store k2 hf hn' (hne _ (getL_mem hx))
  have k4 : Bec D W' (PgT bp (rsG (lkP L) (stepI dn f))) w3 := (k3 r2).imp fun k => by
    rw [hL'] at k
    have e : (rsG (lkP L) dn).set f l = rsG (lkP L) (stepI dn f) := by
      funext a
      unfold rsG stepI Pg.set
      by_cases ea : a = f
      · subst ea
        simp [lkP, hx]
      · simp [ea]
    rwa [e] at k
  have k5 := bec_from hb' (d2 k4)
  obtain ⟨k6, k7, k8⟩ := f2 k5
  refine ⟨_, w3, rfl, r1, ?_, ?_, k6, k7, k8⟩
  · exact (cl_cells hi _ (below_call' hb' hb2)).2
  · exact (cl_cells k6 _ (Below.refl _ _)).2
/-- What Clone tells. -/
def ClnP (w : World) (l : List Rw) (e : Ending) (w' : World) : Prop := ∃ m', e = .returned (.pointer (some ⟨m', 0, none⟩)) ∧ Hid (Bec (fun _ => False) w (RmT m' l) w')
set_option maxRecDepth 100000 in
set_option maxHeartbeats 8000000 in
theorem clone_any {A : Nat → Prop} {l : List Rw} (h : (RmT m l).In A w) : Calls Try.prog 23 #[.pointer (some ⟨m, 0, none⟩)] w (ClnP w l) := by
  obtain ⟨⟨b1, b2⟩, hm, h⟩ := h
  simp only at h
  have hnew := new_any w
  obtain ⟨D1, d1, -⟩ := rm_fr h
  obtain ⟨L, hL, e1⟩ := d1
  obtain ⟨D2, d2, -⟩ := rm_y h
  obtain ⟨K, ⟨hK, hne⟩, e2⟩ := d2
  have HM : Hid (MayR l ∧ l.length ≤ 4096) := hm
  have HBX : Hid (Laid w m 59 #[.map (some b1), .map (some b2)]) := RmX.box h
  have H1 : Hid ((MX ffM spT b1 L).In D1 w) := e1
  have H2 : Hid ((MX whM rwT b2 K).In D2 w ∧ (∀ x ∈ K, x.2.2 ≠ []) ∧ ∀ x ∈ K, x.2.2.length ≤ 4096) := ⟨e2, hne, fun x hx => by
    have e : lkP K x.1 = x.2.2 := by
      unfold lkP
      rw [getL_of_mem (MX.mp e2).apart (n := x.1) (x := x.2) hx]
    rw [← e, hK]
    exact Nat.le_trans (of_len l x.1) hm.2⟩
  have HLK : Hid (lk2 L = frF l ∧ lkP K = ofR l) := ⟨hL, hK⟩
  clear h hm e1 e2 hL hK hne
  go_enter Try.func23, Try.ntmps23
  go_wp2_with fail
  refine hnew.mono ?_
  rintro e w1 ⟨po, rfl, hbec0⟩
  have hbec := hbec0.out
  have hb1 := hbec.frame
  have hM1 : Mp ffM w1 b1 L := (MX.mp H1.out).same (hb1.block _ (MX.mp H1.out).lt)
  have c0 : w1.cell? ⟨m, 0, none⟩ = some (.map (some b1)) := by rw [(HBX.out.below hb1).cell]; rfl
  have hz1 : Hid (w.heap.size ≤ w1.heap.size) := hb1.size
  obtain ⟨Fo, ⟨⟨nf, np⟩, _, f1⟩, f2⟩ : ∃ Fo, (RmT po []).In Fo w1 ∧ ∀ {X' : Th} {w'' : World}, Bec Fo w1 X' w'' → Bec (fun _ => False) w X' w'' := hbec.next
  simp only at f1
  have HS : Hid (∀ w2, w1.grownBy w2 none → ClI w w1.heap.size (RmY po nf np (rsF (lk2 L) fun _ => false) (PgT np fun _ => [])) w2) := fun w2 hg => cl_start (f2 (Bec.refl (by
    have e : rsF (lk2 L) (fun _ => false) = frF [] := by rw [rsF_no]; rfl
    rw [e]
    exact f1))) hg
  clear hbec hb1 hnew f1 f2 hbec0
  go_wp2_with (first | (at_range; refine wpList_range_M (M := ffM) _ rfl _ rfl b1 L rfl hM1 ?_; intro w0 hrg0 hg0 hs0) | go_in)
  try go_frame
  go_loopw [4, 5] (fun _ _ W => ∃ dn, Hid (Rg ffM W b1 w1.heap.size L dn) ∧ Hid (ClI w w1.heap.size (RmY po nf np (rsF (lk2 L) dn) (PgT np fun _ => [])) W)) (fun _ _ W => W.rangeLeft b1 w1.heap.size)
  case atStart => exact ⟨_, hrg0, HS.out _ hg0⟩
  case round =>
    obtain ⟨dn, HRG, HCL⟩ := hrel
    have hRG := HRG.out
    go_wp2_with (first | (at_next; refine wpList_next_M (M := ffM) _ rfl _ rfl b1 w1.heap.size _ dn rfl hRG ?_ ?_) | go_in)
    · intro hdone
      have hcl := HCL.out
      rw [rsF_all (fun p hp => hdone p.1 p.2.1 p.2.2 hp)] at hcl
      have hM2 : Mp whM wr b2 K := (MX.mp H2.out.1).same (hcl.1.block _ (MX.mp H2.out.1).lt)
      have c1 : wr.cell? ⟨m, 1, none⟩ = some (.map (some b2)) := by rw [(HBX.out.below hcl.1).cell]; rfl
      have hz2 : Hid (w.heap.size ≤ wr.heap.size) := hcl.1.size
      have HS2 : Hid (∀ w2, wr.grownBy w2 none → ClI w wr.heap.size (RmY po nf np (lk2 L) (PgT np (rsG (lkP K) fun _ => false))) w2) := fun w2 hg => cl_start (by rw [rsG_no]; exact cl_end hcl) hg
      clear hdone hcl hRG hrg0 hg0 hs0 hM1 c0 HCL HRG HS
      obtain ⟨we, hwe⟩ : ∃ we, we = wr := ⟨_, rfl⟩
      subst hwe
      go_wp2_with (first | (at_range; refine wpList_range_M (M := whM) _ rfl _ rfl b2 K rfl hM2 ?_; intro w0 hrg0 hg0 hs0) | go_in)
      try go_frame
      go_loopw [6, 7] (fun _ _ W => ∃ dn, Hid (Rg whM W b2 we.heap.size K dn) ∧ Hid (ClI w we.heap.size (RmY po nf np (lk2 L) (PgT np (rsG (lkP K) dn))) W)) (fun _ _ W => W.rangeLeft b2 we.heap.size)
      case atStart => exact ⟨_, hrg0, HS2.out _ hg0⟩
      case round =>
        obtain ⟨dn2, HRG, HCL⟩ := hrel
        have hRG := HRG.out
        go_wp2_with (first | (at_next; refine wpList_next_M (M := whM) _ rfl _ rfl b2 we.heap.size _ dn2 rfl hRG ?_ ?_) | go_in)
        · intro hdone
          have hcl := HCL.out
          rw [rsG_all (fun p hp => hdone p.1 p.2.1 p.2.2 hp), HLK.out.1, HLK.out.2] at hcl
          have HE : Hid (Bec (fun _ => False) w (RmT po l) wr) := (cl_end hcl).imp fun k => ⟨(nf, np), HM.out, k⟩
          clear hdone hcl hRG HCL HRG
          go_wp2
          go_ret
          exact ⟨po, rfl, HE⟩
        · intro f v l0 w2 hp hdn hrg hg2 hs2 hen
          simp only [whM] at hen
          have hx : getL K f = some (v, l0) := getL_of_mem (MX.mp H2.out.1).apart hp
          have hcl := cl_next HCL.out hz2.out hg2
          have hrlt : we.heap.size < w2.heap.size := hrg.lt
          have hok : okI f := (MX.mp H2.out.1).oks _ hp
          have hcc := cp_step H2.out.1 H2.out.2.1 hx (H2.out.2.2 _ hp) hok hcl hrlt
          have q0 := (cl_cells hcl w2 (Below.refl _ _)).2
          have HRG2 : Hid (Rg whM w2 b2 we.heap.size K (stepI dn2 f)) := hrg
          have HP : Hid ((f, (v, l0)) ∈ K ∧ dn2 f = false) := ⟨hp, hdn⟩
          have HRGo : Hid (Rg whM wr b2 we.heap.size K dn2) := hRG
          have HLT : Hid (b2 < w.heap.size) := (MX.mp H2.out.1).lt
          clear hp hdn hrg hg2 hs2 hx hcl hrlt HCL HRG hrg0 hg0 hs0 hM2 c1 hRG hok
          go_wp2_with fail
          go_region_held3 (fun w' => w'.cell? ⟨po, 1, none⟩ = some (.map (some np))) (go_keep) (first | (go_at_call 35; refine (hcc _ ?q1).mono ?_; (case q1 => first | exact Below.refl _ _ | exact (Below.refl _ _).drew); rintro e w3 ⟨v3, w4, rfl, hrun, x0, x1, HX⟩))
          try go_frame
          go_roundw
          case rel => first | exact ⟨_, _, _, _, _, _, _, _, _, _, _, _, _, _, _, ⟨stepI dn2 f, HRG2.out.same (HX.out.2.1 _ HLT.out) HX.out.2.2, HX.out.1⟩, rfl⟩ | exact ⟨_, _, _, _, _, _, _, _, _, _, _, _, _, _, ⟨stepI dn2 f, HRG2.out.same (HX.out.2.1 _ HLT.out) HX.out.2.2, HX.out.1⟩, rfl⟩ | exact ⟨_, _, _, _, _, _, _, _, _, _, _, _, _, _, _, _, _, ⟨stepI dn2 f, HRG2.out.same (HX.out.2.1 _ HLT.out) HX.out.2.2, HX.out.1⟩, rfl⟩ | exact ⟨_, _, _, _, _, _, _, _, _, _, _, _, _, ⟨stepI dn2 f, HRG2.out.same (HX.out.2.1 _ HLT.out) HX.out.2.2, HX.out.1⟩, rfl⟩ | exact ⟨_, _, _, _, _, _, _, _, _, _, _, _, _, _, _, _, _, _, ⟨stepI dn2 f, HRG2.out.same (HX.out.2.1 _ HLT.out) HX.out.2.2, HX.out.1⟩, rfl⟩ | exact ⟨_, _, _, _, _, _, _, _, _, _, _, _, ⟨stepI dn2 f, HRG2.out.same (HX.out.2.1 _ HLT.out) HX.out.2.2, HX.out.1⟩, rfl⟩ | exact ⟨_, _, _, _, _, _, _, _, _, _, _, _, _, _, _, _, _, _, _, ⟨stepI dn2 f, HRG2.out.same (HX.out.2.1 _ HLT.out) HX.out.2.2, HX.out.1⟩, rfl⟩
          case measure =>
            have e1 := Rg.left_eq (HRG2.out.same (HX.out.2.1 _ HLT.out) HX.out.2.2)
            have e2 := Rg.left_eq (M := whM) HRGo.out
            rw [e1, e2]
            exact leftG_drops HP.out.2 _ HP.out.1
    · intro s g es w2 hp hdn hrg hg2 hs2 hen
      simp only [ffM] at hen
      have hx : getL L s = some (g, es) := getL_of_mem (MX.mp H1.out).apart hp
      have hcl := cl_next HCL.out hz1.out hg2
      have hrlt : w1.heap.size < w2.heap.size := hrg.lt
      have hok : okI s := (MX.mp H1.out).oks _ hp
      have hcc := cf_step H1.out hx hok hcl hrlt
      have q0 := (cl_cells hcl w2 (Below.refl _ _)).1
      have HRG2 : Hid (Rg ffM w2 b1 w1.heap.size L (stepI dn s)) := hrg
      have HP : Hid ((s, (g, es)) ∈ L ∧ dn s = false) := ⟨hp, hdn⟩
      have HRGo : Hid (Rg ffM wr b1 w1.heap.size L dn) := hRG
      have HLT : Hid (b1 < w.heap.size) := (MX.mp H1.out).lt
      clear hp hdn hrg hg2 hs2 hx hcl hrlt HCL HRG hrg0 hg0 hs0 hM1 c0 hRG hok
      go_wp2_with fail
      go_region_held3 (fun w' => w'.cell? ⟨po, 0, none⟩ = some (.map (some nf))) (go_keep) (first | (go_at_call 37; refine (hcc _ ?q1).mono ?_; (case q1 => first | exact Below.refl _ _ | exact (Below.refl _ _).drew); rintro e w3 ⟨v3, w4, rfl, hrun, x0, x1, HX⟩))
      try go_frame
      go_roundw
      case rel => exact ⟨_, _, _, _, _, _, _, _, _, _, _, _, _, _, ⟨stepI dn s, HRG2.out.same (HX.out.2.1 _ HLT.out) HX.out.2.2, HX.out.1⟩, rfl⟩
      case measure =>
        have e1 := Rg.left_eq (HRG2.out.same (HX.out.2.1 _ HLT.out) HX.out.2.2)
        have e2 := Rg.left_eq (M := ffM) HRGo.out
        rw [e1, e2]
        exact leftG_drops HP.out.2 _ HP.out.1
end
end Go.Proofs.Ytdeaniigimmoaaa
/- What same counts. No word of the program. -/
namespace Go.Proofs.Ytdeaniigimmoaaa

def tF (j : Nat) (x : Rw) : Bool := x.f == (j : Int)
def tS (j : Nat) (x : Rw) : Bool := x.s == (j : Int)
/-- How many have each number, of the first k. -/
def seenL (n : Nat) (t : Nat → Rw → Bool) (l : List Rw) (k : Nat) : List Int := (List.range n).map fun j => (cntR (t j) l k : Int)
section
variable {n : Nat} {t : Nat → Rw → Bool} {l : List Rw} {k : Nat}
theorem seen_len : (seenL n t l k).length = n := by simp [seenL]
theorem seen_zero : seenL n t l 0 = List.replicate n 0 := by
  unfold seenL
  refine List.ext_getElem (by simp) fun i h1 h2 => ?_
  simp [cnt_zero]
theorem seen_get {j : Nat} (h : j < n) : (seenL n t l k).getD j 0 = (cntR (t j) l k : Int) := by
  unfold seenL
  rw [List.getD_eq_getElem?_getD, List.getElem?_map, List.getElem?_range h]
  rfl
theorem seen_next (hk : k < l.length) {j : Nat} (hj : j < n) (ht : ∀ i, i < n → (t i (l.getD k zR) = true ↔ i = j)) : (seenL n t l k).set j ((cntR (t j) l k : Int) + 1) = seenL n t l (k + 1) := by
  have e : l.getD k zR = l[k] := by rw [List.getD_eq_getElem?_getD, List.getElem?_eq_getElem hk]; rfl
  rw [e] at ht
  have hat : ∀ k i, i < n → (seenL n t l k)[i]? = some (cntR (t i) l k : Int) := fun k i h => by
    unfold seenL
    rw [List.getElem?_map, List.getElem?_range h]
    rfl
  apply List.ext_getElem?
  intro i
  rw [List.getElem?_set]
  by_cases hi : i < n
  · have h3 := cnt_next (t i) hk
    by_cases c : j = i
    · subst c
      rw [if_pos rfl, seen_len, if_pos hj, hat _ _ hj, h3, if_pos ((ht j hj).2 rfl)]
      simp
    · rw [if_neg c, hat _ _ hi, hat _ _ hi, h3, if_neg fun k => c ((ht i hi).1 k).symm]
      simp
  · rw [if_neg (by omega), List.getElem?_eq_none (by rw [seen_len]; omega), List.getElem?_eq_none (by rw [seen_len]; omega)]
def pF (l : List Rw) (f : Nat) : Bool := l.any fun x => x.f == (f : Int)
def atN (l : List Rw) (f : Nat) : Nat := ((List.range f).filter (pF l)).length
theorem atn_yes {f : Nat} (h : pF l f = true) : atN l (f + 1) = atN l f + 1 := by
  unfold atN
  rw [List.range_succ, List.filter_append, List.length_append, List.filter_cons_of_pos h]
  rfl
theorem atn_no {f : Nat} (h : ¬ pF l f = true) : atN l (f + 1) = atN l f := by
  unfold atN
  rw [List.range_succ, List.filter_append, List.length_append, List.filter_cons_of_neg h]
  rfl
theorem range_cut : ∀ (d f : Nat), ∃ r, List.range (f + d) = List.range f ++ r
  | 0, f => ⟨[], by simp⟩
  | d + 1, f => by
    obtain ⟨r, h⟩ := range_cut d f
    exact ⟨r ++ [f + d], by rw [← Nat.add_assoc, List.range_succ, h, List.append_assoc]⟩
theorem atn_get {f : Nat} (hf : f < 512) (h : pF l f = true) : (framesR l)[atN l f]? = some f := by
  obtain ⟨r, e⟩ := range_cut (512 - (f + 1)) (f + 1)
  rw [show f + 1 + (512 - (f + 1)) = 512 by omega] at e
  have e2 : framesR l = (List.range f).filter (pF l) ++ (f :: r.filter (pF l)) := by
    show (List.range 512).filter (pF l) = _
    rw [e, List.filter_append, List.range_succ, List.filter_append, List.filter_cons_of_pos h, List.append_assoc]
    rfl
  rw [e2]
  unfold atN
  rw [List.getElem?_append_right (Nat.le_refl _), Nat.sub_self]
  rfl
theorem atn_all : atN l 512 = (framesR l).length := rfl
theorem pf_iff {f : Nat} : pF l f = true ↔ (ofR l f).length ≠ 0 := by
  unfold pF ofR
  rw [List.any_eq_true, Ne, List.length_eq_zero_iff, List.filter_eq_nil_iff]
  constructor
  · rintro ⟨x, h1, h2⟩ h3
    exact h3 x h1 h2
  · intro h
    apply Classical.byContradiction
    intro h2
    exact h fun x hx hxf => h2 ⟨x, hx, hxf⟩
theorem cntF_all (f : Nat) : cntR (tF f) l l.length = (ofR l f).length := cnt_all _ _
theorem cntS_all (s : Nat) : cntR (tS s) l l.length = (pagesR l s).length := cnt_all _ _
theorem cntF_get (hk : k < l.length) {f : Nat} (h : (l.getD k zR).f = (f : Int)) : cntR (tF f) l k < (ofR l f).length ∧ (ofR l f).getD (cntR (tF f) l k) zR = l.getD k zR ∧ cntR (tF f) l (k + 1) = cntR (tF f) l k + 1 := by
  have e : l.getD k zR = l[k] := by rw [List.getD_eq_getElem?_getD, List.getElem?_eq_getElem hk]; rfl
  rw [e] at h ⊢
  have ht : tF f l[k] = true := by simpa [tF] using h
  have h1 := cnt_get (tF f) hk ht
  have h2 : (ofR l f)[cntR (tF f) l k]? = some l[k] := h1
  refine ⟨(List.getElem?_eq_some_iff.1 h2).1, by rw [List.getD_eq_getElem?_getD, h2]; rfl, by rw [cnt_next (tF f) hk, if_pos ht]⟩
theorem cntF_no (hk : k < l.length) {f : Nat} (h : ¬ (l.getD k zR).f = (f : Int)) : cntR (tF f) l (k + 1) = cntR (tF f) l k := by
  have e : l.getD k zR = l[k] := by rw [List.getD_eq_getElem?_getD, List.getElem?_eq_getElem hk]; rfl
  rw [e] at h
  rw [cnt_next (tF f) hk, if_neg (by simpa [tF] using h)]
  rfl
theorem cntS_get (hk : k < l.length) {s : Nat} (h : (l.getD k zR).s = (s : Int)) : cntR (tS s) l k < (pagesR l s).length ∧ (pagesR l s).getD (cntR (tS s) l k) zR = l.getD k zR ∧ cntR (tS s) l (k + 1) = cntR (tS s) l k + 1 := by
  have e : l.getD k zR = l[k] := by rw [List.getD_eq_getElem?_getD, List.getElem?_eq_getElem hk]; rfl
  rw [e] at h ⊢
  have ht : tS s l[k] = true := by simpa [tS] using h
  have h1 := cnt_get (tS s) hk ht
  have h2 : (pagesR l s)[cntR (tS s) l k]? = some l[k] := h1
  refine ⟨(List.getElem?_eq_some_iff.1 h2).1, by rw [List.getD_eq_getElem?_getD, h2]; rfl, by rw [cnt_next (tS s) hk, if_pos ht]⟩
theorem cntS_no (hk : k < l.length) {s : Nat} (h : ¬ (l.getD k zR).s = (s : Int)) : cntR (tS s) l (k + 1) = cntR (tS s) l k := by
  have e : l.getD k zR = l[k] := by rw [List.getD_eq_getElem?_getD, List.getElem?_eq_getElem hk]; rfl
  rw [e] at h
  rw [cnt_next (tS s) hk, if_neg (by simpa [tS] using h)]
  rfl
end
end Go.Proofs.Ytdeaniigimmoaaa
/- Of all frames each page comes once. No word of the program. -/
namespace Go.Proofs.Ytdeaniigimmoaaa

def allA (l : List Rw) (Fz : List Int) (i : Nat) : List Rw := (Fz.take i).flatMap (ofR l)
section
variable {l : List Rw} {Fz : List Int}
theorem oal_one {x : Rw} {r : List Rw} : ∀ {Fz : List Int}, Fz.Nodup → x.f ∈ Fz → (Fz.flatMap (ofR (x :: r))).Perm (x :: Fz.flatMap (ofR r))
  | [], _, h => by simp at h
  | f :: Fz, hn, h => by
    obtain ⟨h1, h2⟩ := List.nodup_cons.1 hn
    rw [List.flatMap_cons, List.flatMap_cons]
    by_cases e : x.f = f
    · have e1 : ofR (x :: r) f = x :: ofR r f := List.filter_cons_of_pos (by simpa using e)
      have e2 : Fz.flatMap (ofR (x :: r)) = Fz.flatMap (ofR r) := by
        rw [List.flatMap_def, List.flatMap_def]
        congr 1
        refine List.map_congr_left fun g hg => List.filter_cons_of_neg ?_
        simp only [beq_iff_eq]
        exact fun k => h1 (by rw [← e, k]; exact hg)
      rw [e1, e2]
      exact List.Perm.refl _
    · have e1 : ofR (x :: r) f = ofR r f := List.filter_cons_of_neg (by simpa using e)
      have h3 : x.f ∈ Fz := by
        rcases List.mem_cons.1 h with k | k
        · exact absurd k e
        · exact k
      rw [e1]
      exact ((oal_one h2 h3).append_left _).trans List.perm_middle
theorem oal_perm : ∀ {l : List Rw} {Fz : List Int}, Fz.Nodup → (∀ x ∈ l, x.f ∈ Fz) → (Fz.flatMap (ofR l)).Perm l
  | [], Fz, _, _ => by
    have : Fz.flatMap (ofR []) = [] := List.flatMap_eq_nil_iff.2 fun f _ => rfl
    rw [this]
  | x :: r, Fz, hn, h => (oal_one hn (h x (by simp))).trans ((oal_perm hn fun y hy => h y (List.mem_cons_of_mem _ hy)).cons x)
theorem oal_next (l : List Rw) {Fz : List Int} {i : Nat} (hi : i < Fz.length) : allA l Fz (i + 1) = allA l Fz i ++ ofR l (Fz.getD i 0) := by
  unfold allA
  rw [List.take_add_one, List.getElem?_eq_getElem hi, List.flatMap_append, List.getD_eq_getElem?_getD, List.getElem?_eq_getElem hi]
  simp
theorem oal_end (l : List Rw) (Fz : List Int) : allA l Fz Fz.length = Fz.flatMap (ofR l) := by
  unfold allA
  rw [List.take_length]
/-- What came before is another page. -/
theorem oal_new (hl : MayR l) (hFS : Fz.Pairwise (· < ·)) {i k : Nat} {f : Int} (hfe : Fz.getD i 0 = f) (hi : i < Fz.length) (hk : k < (ofR l f).length) {j : Nat} (hj : j < (allA l Fz i ++ (ofR l f).take k).length) :
    ¬ (((allA l Fz i ++ (ofR l f).take k).getD j zR).s = ((ofR l f).getD k zR).s ∧ ((allA l Fz i ++ (ofR l f).take k).getD j zR).p = ((ofR l f).getD k zR).p) := by
  rintro ⟨h1, h2⟩
  have m1 : (ofR l f).getD k zR ∈ ofR l f := by rw [List.getD_eq_getElem?_getD, List.getElem?_eq_getElem hk]; exact List.getElem_mem hk
  obtain ⟨m2, m3⟩ := of_mem.1 m1
  rcases Nat.lt_or_ge j (allA l Fz i).length with c | c
  · have e : (allA l Fz i ++ (ofR l f).take k).getD j zR = (allA l Fz i).getD j zR := by
      rw [List.getD_eq_getElem?_getD, List.getElem?_append_left c, List.getD_eq_getElem?_getD]
    rw [e] at h1 h2
    have n1 : (allA l Fz i).getD j zR ∈ allA l Fz i := by rw [List.getD_eq_getElem?_getD, List.getElem?_eq_getElem c]; exact List.getElem_mem c
    obtain ⟨f2, hf, n2⟩ := List.mem_flatMap.1 n1
    obtain ⟨n3, n4⟩ := of_mem.1 n2
    have := ris_one hl.1 n3 m2 h1 h2
    rw [this] at n4
    rw [n4] at m3
    obtain ⟨q, hq, rfl⟩ := List.mem_iff_getElem.1 hf
    rw [List.length_take] at hq
    rw [List.getElem_take] at m3
    have h3 := List.pairwise_iff_getElem.1 hFS q i (by omega) hi (by omega)
    rw [← hfe, List.getD_eq_getElem?_getD, List.getElem?_eq_getElem hi, Option.getD_some] at m3
    omega
  · have hj2 : j - (allA l Fz i).length < k := by
      rw [List.length_append, List.length_take] at hj
      omega
    have e : (allA l Fz i ++ (ofR l f).take k).getD j zR = (ofR l f).getD (j - (allA l Fz i).length) zR := by
      rw [List.getD_eq_getElem?_getD, List.getElem?_append_right c, List.getElem?_take_of_lt hj2, List.getD_eq_getElem?_getD]
    rw [e] at h1 h2
    have h3 := ris_at (of_ris hl.1 f) hj2 hk
    unfold Rw.lt at h3
    omega
theorem oal_put {i k : Nat} {f : Int} (hk : k < (ofR l f).length) : allA l Fz i ++ (ofR l f).take (k + 1) = (allA l Fz i ++ (ofR l f).take k) ++ [(ofR l f).getD k zR] := by
  rw [List.take_add_one, List.getElem?_eq_getElem hk, List.append_assoc, List.getD_eq_getElem?_getD, List.getElem?_eq_getElem hk]
  rfl
theorem oal_len (hn : Fz.Nodup) (h : ∀ x ∈ l, x.f ∈ Fz) (i : Nat) : (allA l Fz i).length ≤ l.length := by
  have h1 := (oal_perm hn h).length_eq
  have h2 : Fz.flatMap (ofR l) = allA l Fz i ++ (Fz.drop i).flatMap (ofR l) := by
    unfold allA
    rw [← List.flatMap_append, List.take_append_drop]
  rw [h2, List.length_append] at h1
  omega
theorem oal_space (hn : Fz.Nodup) (h : ∀ x ∈ l, x.f ∈ Fz) (s : Int) : ((Fz.flatMap (ofR l)).filter fun x => x.s == s).length = (pagesR l s).length :=
  ((oal_perm hn h).filter _).length_eq
end
end Go.Proofs.Ytdeaniigimmoaaa
/- The document's May, Find. -/
namespace Go.Proofs.Ytdeaniigimmoaaa
open Go.RowKit

set_option maxHeartbeats 4000000 in
theorem May_any (f s p : Int) (w : World) : Calls Try.prog 12 #[.int .i64 f, wv s p] w fun e w' => e = .returned (.bool (mayFB f && mayPB s p)) ∧ Hid (Below w.heap.size w w') := by
  have HB : Hid (Below w.heap.size w (w.alloc (.cells #[.int .i64 s, .int .i64 p] 28))) := new_below _ _
  unfold wv
  by_cases h1 : 0 ≤ f
  · by_cases h2 : f < 512
    · by_cases h3 : 1 ≤ s
      · by_cases h4 : s ≤ 255
        · by_cases h5 : 0 ≤ p
          · rw [show (mayFB f && mayPB s p) = decide (p < 4096) by simp [mayFB, mayPB, h1, h2, h3, h4, h5]]
            go_enter Try.func12, Try.ntmps12
            go_wp2
            go_ret
            exact ⟨rfl, HB⟩
          · rw [show (mayFB f && mayPB s p) = false by simp [mayPB, h5]]
            go_enter Try.func12, Try.ntmps12
            go_wp2
            go_ret
            exact ⟨rfl, HB⟩
        · rw [show (mayFB f && mayPB s p) = false by simp [mayPB, h4]]
          go_enter Try.func12, Try.ntmps12
          go_wp2
          go_ret
          exact ⟨rfl, HB⟩
      · rw [show (mayFB f && mayPB s p) = false by simp [mayPB, h3]]
        go_enter Try.func12, Try.ntmps12
        go_wp2
        go_ret
        exact ⟨rfl, HB⟩
    · rw [show (mayFB f && mayPB s p) = false by simp [mayFB, h2]]
      go_enter Try.func12, Try.ntmps12
      go_wp2
      go_ret
      exact ⟨rfl, HB⟩
  · rw [show (mayFB f && mayPB s p) = false by simp [mayFB, h1]]
    go_enter Try.func12, Try.ntmps12
    go_wp2
    go_ret
    exact ⟨rfl, HB⟩

/-- What Find tells. -/
def FndD (l : List Rw) (s p a : Int) : Prop := (a = -1 ∧ atR l s p = none) ∨ ∃ i : Nat, i < l.length ∧ a = (i : Int) ∧ (l.getD i zR).s = s ∧ (l.getD i zR).p = p
theorem fnd_none {l : List Rw} {s p : Int} (h : ∀ j, j < l.length → ¬ ((l.getD j zR).s = s ∧ (l.getD j zR).p = p)) : atR l s p = none := by
  cases e : atR l s p with
  | none => rfl
  | some x =>
    obtain ⟨h1, h2, h3⟩ := at_some e
    obtain ⟨j, hj, rfl⟩ := List.mem_iff_getElem.1 h1
    have := h j hj
    rw [List.getD_eq_getElem?_getD, List.getElem?_eq_getElem hj] at this
    exact absurd ⟨h2, h3⟩ this
set_option maxRecDepth 100000 in
set_option maxHeartbeats 8000000 in
theorem find_any {B : Nat} {w : World} {v : Value} {l : List Rw} (h : Row rRw B w v l) (hl : l.length ≤ 4096) (s p : Int) : Calls Try.prog 9 #[v, wv s p] w fun e w' => ∃ a, e = .returned (.int .i64 a) ∧ Hid (FndD l s p a ∧ Below w.heap.size w w') := by
  obtain ⟨ao, c, rfl⟩ := h.form
  have hb0 := new_below w (.cells #[.int .i64 s, .int .i64 p] 28)
  have HB0 : Hid (Below w.heap.size w (w.alloc (.cells #[.int .i64 s, .int .i64 p] 28))) := hb0
  have HR : Hid (Row rRw B (w.alloc (.cells #[.int .i64 s, .int .i64 p] 28)) (.slice ao l.length c) l) := h.below hb0
  have x0 : (w.alloc (.cells #[.int .i64 s, .int .i64 p] 28)).cell? ⟨w.heap.size, 0, none⟩ = some (.int .i64 s) := by simp
  have x1 : (w.alloc (.cells #[.int .i64 s, .int .i64 p] 28)).cell? ⟨w.heap.size, 1, none⟩ = some (.int .i64 p) := by simp
  have lb : w.heap.size < (w.alloc (.cells #[.int .i64 s, .int .i64 p] 28)).heap.size := by simp
  have hl9 : l.length ≤ 9223372036854775807 := by omega
  clear h hb0 hl
  unfold wv
  generalize hW : w.alloc (.cells #[.int .i64 s, .int .i64 p] 28) = W at *
  have HX : Hid (W.cell? ⟨w.heap.size, 0, none⟩ = some (.int .i64 s) ∧ W.cell? ⟨w.heap.size, 1, none⟩ = some (.int .i64 p) ∧ w.heap.size < W.heap.size) := ⟨x0, x1, lb⟩
  go_enter Try.func9, Try.ntmps9
  go_wp2
  clear x0 x1 lb
  go_loopw [5] (fun iv wr => ∃ k : Nat, k ≤ l.length ∧ iv = .int .i64 k ∧ Hid (∀ j, j < k → ¬ ((l.getD j zR).s = s ∧ (l.getD j zR).p = p)) ∧ Hid (Below W.heap.size W wr)) (fun iv _ => l.length - (intOf iv).toNat)
  case atStart => exact ⟨0, Nat.zero_le _, rfl, fun j hj => absurd hj (Nat.not_lt_zero _), Below.refl _ _⟩
  case round =>
    obtain ⟨k, hk, rfl, HN, HB⟩ := hrel
    by_cases hkl : k < l.length
    · have hki : (k : Int) < (l.length : Int) := by omega
      have hk0 : (0 : Int) ≤ (k : Int) := by omega
      obtain ⟨g, rfl, _, _, hgl, _, _, hat⟩ := (HR.out.below HB.out).at hkl
      obtain ⟨y0, y1, -⟩ := rRw.at hat
      simp only [show rRw.n = 3 from rfl, show rRw.zero = zR from rfl] at y0 y1
      have x0 : wr.cell? ⟨w.heap.size, 0, none⟩ = some (.int .i64 s) := ((bcell HB.out).1 _ _ HX.out.2.2).trans HX.out.1
      have x1 : wr.cell? ⟨w.heap.size, 1, none⟩ = some (.int .i64 p) := ((bcell HB.out).1 _ _ HX.out.2.2).trans HX.out.2.1
      have HN2 : Hid (¬ ((l.getD k zR).s = s ∧ (l.getD k zR).p = p) → ∀ j, j < k + 1 → ¬ ((l.getD j zR).s = s ∧ (l.getD j zR).p = p)) := fun h j hj => by
        rcases Nat.lt_or_eq_of_le (Nat.le_of_lt_succ hj) with e | rfl
        · exact HN.out j e
        · exact h
      have HY : Hid ((l.getD k zR).s = s → (l.getD k zR).p = p → FndD l s p k) := fun h1 h2 => Or.inr ⟨k, hkl, rfl, h1, h2⟩
      clear hat HN
      generalize l.getD k zR = x at *
      by_cases e1 : x.s = s
      · have d1 : (x.s == s) = true := by simpa using e1
        by_cases e2 : x.p = p
        · have d2 : (x.p == p) = true := by simpa using e2
          have HE : Hid (FndD l s p k) := HY.out e1 e2
          clear HN2 HY
          go_wp2
          go_quiet (fail)
          go_wp2
          go_ret
          exact ⟨_, rfl, HE.out, below_drewN (below_call' HB0.out HB.out) _⟩
        · have d2 : (x.p == p) = false := by simpa using e2
          have HE : Hid (∀ j, j < k + 1 → ¬ ((l.getD j zR).s = s ∧ (l.getD j zR).p = p)) := HN2.out fun h => e2 h.2
          clear HN2 HY
          go_wp2
          go_quiet (fail)
          go_wp2
          go_roundw
          case rel => exact ⟨k + 1, hkl, by go_num, HE, below_drewN HB.out _⟩
          case measure => simp only [intOf]; omega
      · have d1 : (x.s == s) = false := by simpa using e1
        have HE : Hid (∀ j, j < k + 1 → ¬ ((l.getD j zR).s = s ∧ (l.getD j zR).p = p)) := HN2.out fun h => e1 h.1
        clear HN2 HY
        go_wp2
        go_quiet (fail)
        go_wp2
        go_roundw
        case rel => exact ⟨k + 1, hkl, by go_num, HE, below_drewN HB.out _⟩
        case measure => simp only [intOf]; omega
    · obtain rfl : k = l.length := by omega
      have HE : Hid (FndD l s p (-1) ∧ Below w.heap.size w wr) := ⟨Or.inl ⟨rfl, fnd_none HN.out⟩, below_call' HB0.out HB.out⟩
      clear HN
      go_wp2
      go_ret
      exact ⟨_, rfl, HE⟩
end Go.Proofs.Ytdeaniigimmoaaa
