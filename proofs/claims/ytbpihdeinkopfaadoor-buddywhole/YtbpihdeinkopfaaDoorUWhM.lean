/- What is free and what is taken: no two meet, and all is one or the other. No walk. -/
import Derived.Test.YtbpihdeinkopfaaDoorUTakes
namespace Go.Proofs.YtbpihdeinkopfaaDoor
open Go.RowKit

def apartB (a b : Bk) : Prop := ∀ x, inB a x → ¬ inB b x
structure Tk (n : Nat) (L K : List Bk) : Prop where
  ok : Okl n L
  al : ∀ b ∈ K, alB b ∧ bend b ≤ n
  apart : K.Pairwise apartB
  free : ∀ x, cov L x → ¬ cov K x
  all : ∀ x, x < n → cov L x ∨ cov K x
theorem Okl.cov_lt {n : Nat} {L : List Bk} (h : Okl n L) {x : Nat} (hc : cov L x) : x < n := by
  obtain ⟨b, hb, h1, h2⟩ := hc
  have := h.top b hb
  omega
theorem size_cntA : ∀ (K : List Bk) (n : Nat), K.Pairwise apartB → (∀ b ∈ K, bend b ≤ n) → size K = cnt (covB K) n
  | [], n, _, _ => by
    have : ∀ n, cnt (covB []) n = 0 := fun n => by
      induction n with
      | zero => rfl
      | succ n ih => rw [cnt, ih]; simp [covB]
    rw [this]
    rfl
  | b :: K, n, hp, h => by
    obtain ⟨h1, h2⟩ := List.pairwise_cons.1 hp
    have ih := size_cntA K n h2 fun c hc => h c (by simp [hc])
    have e : size (b :: K) = 2 ^ b.2 + size K := by simp [size]
    have hn : ∀ x, inB b x → ¬ cov K x := by
      rintro x hx ⟨c, hc, hxc⟩
      exact h1 c hc x hx hxc
    rw [e, ih, cnt_more (F := covB K) (G := covB (b :: K)) b (h b (by simp)) (fun x hx => ⟨(covB_false _ _).2 (hn x hx), (covB_iff _ _).2 (cov_cons.2 (Or.inl hx))⟩) (fun x hx => covB_eq (by rw [cov_cons]; exact ⟨Or.inr, fun h => h.elim (fun h' => absurd h' hx) id⟩))]
    omega
theorem cnt_both {F G : Nat → Bool} : ∀ n, (∀ x, x < n → (F x = true ∧ G x = false) ∨ (F x = false ∧ G x = true)) → cnt F n + cnt G n = n
  | 0, _ => rfl
  | n + 1, h => by
    have ih := cnt_both n fun x hx => h x (by omega)
    rw [cnt, cnt]
    rcases h n (by omega) with ⟨h1, h2⟩ | ⟨h1, h2⟩ <;> simp [h1, h2] <;> omega
theorem Tk.count {n : Nat} {L K : List Bk} (h : Tk n L K) : size L + size K = n := by
  rw [size_cnt L n h.ok.good.sorted h.ok.top, size_cntA K n h.apart fun b hb => (h.al b hb).2]
  refine cnt_both n fun x hx => ?_
  by_cases hc : cov L x
  · exact Or.inl ⟨(covB_iff _ _).2 hc, (covB_false _ _).2 (h.free x hc)⟩
  · exact Or.inr ⟨(covB_false _ _).2 hc, (covB_iff _ _).2 ((h.all x hx).resolve_left hc)⟩
theorem Tk.new {n : Nat} (h : n ≤ 512) : Tk n (blkL 0 n) [] := ⟨new_okl h, by simp, List.Pairwise.nil, fun x _ => cov_nil, fun x hx => Or.inl ((new_cov h x).2 hx)⟩
theorem Tk.take {n o : Nat} {L L' K : List Bk} (h : Tk n L K) (ho : o ≤ 5) {m : Nat} (hl : lst o L L.length = some m) (hok : Okl n L') (hc : ∀ x, cov L' x ↔ cov L x ∧ ¬ inB ((L.getD m (0, 0)).1, o) x) : Tk n L' (K ++ [((L.getD m (0, 0)).1, o)]) := by
  have hal := (lst_in h.ok hl).resolve_right (by omega)
  obtain ⟨hbe, hcv⟩ := lst_bend h.ok hl
  generalize (L.getD m (0, 0)).1 = f at *
  refine ⟨hok, fun b hb => ?_, ?_, fun x hx => ?_, fun x hx => ?_⟩
  · rcases List.mem_append.1 hb with hb | hb
    · exact h.al b hb
    · obtain rfl := List.mem_singleton.1 hb
      exact ⟨hal, hbe⟩
  · rw [List.pairwise_append]
    refine ⟨h.apart, List.pairwise_singleton _ _, fun a ha b hb x hx hy => ?_⟩
    obtain rfl := List.mem_singleton.1 hb
    exact h.free x (hcv x hy) ⟨a, ha, hx⟩
  · rw [cov_append]
    rintro (h1 | ⟨b, hb, h1⟩)
    · exact h.free x ((hc x).1 hx).1 h1
    · obtain rfl := List.mem_singleton.1 hb
      exact ((hc x).1 hx).2 h1
  · rw [cov_append, hc]
    rcases h.all x hx with h1 | h1
    · by_cases h2 : inB (f, o) x
      · exact Or.inr (Or.inr ⟨_, List.mem_singleton.2 rfl, h2⟩)
      · exact Or.inl ⟨h1, h2⟩
    · exact Or.inr (Or.inl h1)
theorem Tk.perm {n : Nat} {L K K' : List Bk} (h : Tk n L K) (hp : K.Perm K') : Tk n L K' := by
  have hc : ∀ x, cov K' x ↔ cov K x := fun x => ⟨fun ⟨b, hb, hx⟩ => ⟨b, hp.mem_iff.2 hb, hx⟩, fun ⟨b, hb, hx⟩ => ⟨b, hp.mem_iff.1 hb, hx⟩⟩
  refine ⟨h.ok, fun b hb => h.al b (hp.mem_iff.2 hb), (hp.pairwise_iff fun {a b} hab x hx hy => hab x hy hx).1 h.apart, fun x hx hk => h.free x hx ((hc x).1 hk), fun x hx => (h.all x hx).elim Or.inl fun h1 => Or.inr ((hc x).2 h1)⟩
/-- One that was taken is given back. -/
theorem Tk.give {n : Nat} {L L' K : List Bk} {b : Bk} (h : Tk n L (b :: K)) (hok : Okl n L') (hc : ∀ x, cov L' x ↔ cov L x ∨ inB b x) : Tk n L' K := by
  obtain ⟨h1, h2⟩ := List.pairwise_cons.1 h.apart
  refine ⟨hok, fun c hcm => h.al c (by simp [hcm]), h2, fun x hx hk => ?_, fun x hx => ?_⟩
  · rcases (hc x).1 hx with h3 | h3
    · exact h.free x h3 (cov_cons.2 (Or.inr hk))
    · obtain ⟨c, hcm, hxc⟩ := hk
      exact h1 c hcm x h3 hxc
  · rw [hc]
    rcases h.all x hx with h3 | h3
    · exact Or.inl (Or.inl h3)
    · rcases cov_cons.1 h3 with h4 | h4
      · exact Or.inl (Or.inr h4)
      · exact Or.inr h4
theorem Tk.allB {n : Nat} {L K : List Bk} {b : Bk} (h : Tk n L (b :: K)) : allB L b false := fun x hx => (covB_false _ _).2 fun hc => h.free x hc (cov_cons.2 (Or.inl hx))
theorem perm_at {K : List Bk} {k : Nat} (hk : k < K.length) : K.Perm (K.getD k (0, 0) :: (K.take k ++ K.drop (k + 1))) := by
  have h1 := List.getElem_cons_drop hk
  have hg : K.getD k (0, 0) = K[k] := by rw [List.getD_eq_getElem?_getD, List.getElem?_eq_getElem hk]; rfl
  rw [hg]
  have h2 : K = K.take k ++ K[k] :: K.drop (k + 1) := by rw [h1, List.take_append_drop]
  have h3 : (K.take k ++ K[k] :: K.drop (k + 1)).Perm (K[k] :: (K.take k ++ K.drop (k + 1))) := List.perm_middle
  rwa [← h2] at h3
/-- Nothing is taken: all is free as at first. -/
theorem Tk.done {n : Nat} {L : List Bk} (h : Tk n L []) : L = blkL 0 n := by
  refine size_same h.ok (new_okl h.ok.max) fun x => ?_
  rw [new_cov h.ok.max]
  exact ⟨fun hc => h.ok.cov_lt hc, fun hx => (h.all x hx).resolve_right cov_nil⟩
/-- Two neighbours: what may not be. -/
theorem Good.nb {L : List Bk} (g : Good L) {k : Nat} (hk : k + 1 < L.length) : bend (L.getD k (0, 0)) ≤ (L.getD (k + 1) (0, 0)).1 ∧ ¬ ((L.getD k (0, 0)).2 = (L.getD (k + 1) (0, 0)).2 ∧ (L.getD (k + 1) (0, 0)).2 < 5 ∧ (L.getD k (0, 0)).1 % 2 ^ ((L.getD k (0, 0)).2 + 1) = 0 ∧ (L.getD (k + 1) (0, 0)).1 = (L.getD k (0, 0)).1 + 2 ^ (L.getD k (0, 0)).2) := by
  have e1 : L.getD k (0, 0) = L[k] := by rw [List.getD_eq_getElem?_getD, List.getElem?_eq_getElem (by omega)]; rfl
  have e2 : L.getD (k + 1) (0, 0) = L[k + 1] := by rw [List.getD_eq_getElem?_getD, List.getElem?_eq_getElem hk]; rfl
  rw [e1, e2]
  have m1 : L[k] ∈ L := List.getElem_mem _
  have m2 : L[k + 1] ∈ L := List.getElem_mem _
  have hs := List.pairwise_iff_getElem.1 g.sorted k (k + 1) (by omega) hk (by omega)
  generalize L[k] = a at *
  generalize L[k + 1] = b at *
  refine ⟨hs, ?_⟩
  rintro ⟨h1, h2, h3, h4⟩
  obtain ⟨x, x1, x2, x3⟩ := g.left a m1 (by omega) (Nat.dvd_of_mod_eq_zero h3)
  rw [Nat.pow_succ] at x2
  rcases Nat.lt_or_ge x (a.1 + 2 ^ a.2) with c | c
  · exact x3 ⟨a, m1, x1, c⟩
  · refine x3 ⟨b, m2, by omega, ?_⟩
    unfold bend
    rw [← h1]
    omega
section
variable {W w w' : World} {p n : Nat} {L : List Bk} {G : Nat → Prop}
/-- Something in G is turned; what is new joins G. -/
theorem Ow.grow {s : Nat → Prop} (h : Ow W w p n L G) (hk : Keeps w w' s) (hs : ∀ c, c < w.heap.size → s c → G c ∧ W.heap.size ≤ c) : Ow W w' p n L (plus G w w') := by
  have h' := h.other hk hs
  obtain ⟨F, v, h1, h2, h3, h4, h5, h6⟩ := h
  refine ⟨F, v, h1, fun c hc e => ?_, h3.keeps hk fun c hc e => h2 c hc (hs c (h3.lt c hc) e).1, h4, h'.frame, fun c hc => ?_⟩
  · rcases e with e | e
    · exact h2 c hc e
    · have := h3.lt c hc; omega
  · rcases hc with hc | hc
    · exact Nat.lt_of_lt_of_le (h6 c hc) hk.size
    · exact hc.2
end
end Go.Proofs.YtbpihdeinkopfaaDoor
