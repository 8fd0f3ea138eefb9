/- Whether a world of spaces of the program's stands as one of the document's. -/
import Derived.Test.YtoimmapdkapheaaFDo2
import Derived.Test.YtoimmapdkapheaaFSp
import Derived.Deep.CutRange
import Derived.Lib.ItoaWalk
namespace Go.Proofs.Ytoimmapdkapheaa
set_option maxRecDepth 4000
open Go.RowKit

theorem nod_nums {T : Sps} {A : Wd} (hT : FmOk T A) : (T.map fun x => x.1.n).Nodup ∧ ∀ n, n ∈ T.map (fun x => x.1.n) ↔ A n ≠ none := by
  refine ⟨nod_pw hT.nod, fun n => ⟨fun h => ?_, fun h => ?_⟩⟩
  · obtain ⟨y, hy, rfl⟩ := List.mem_map.1 h
    obtain ⟨i, hi, rfl⟩ := List.mem_iff_getElem.1 hy
    have e := lk_at T hT.nod i hi
    rw [hT.eq] at e
    have e2 : T.getD i zT = T[i] := by rw [List.getD_eq_getElem?_getD, List.getElem?_eq_getElem hi]; rfl
    rw [e2] at e
    rw [e]
    simp
  · obtain ⟨s, hs⟩ := Option.ne_none_iff_exists'.1 h
    obtain ⟨i, hi, hin, -⟩ := lk_mem (T := T) (by rw [hT.eq]; exact hs)
    have e2 : T.getD i zT = T[i] := by rw [List.getD_eq_getElem?_getD, List.getElem?_eq_getElem hi]; rfl
    rw [e2] at hin
    exact List.mem_map.2 ⟨T[i], List.getElem_mem hi, hin⟩
theorem rise_nodup : ∀ {ss : List Int}, ss.Pairwise (fun a b => a < b) → ss.Nodup
  | [], _ => List.nodup_nil
  | x :: r, h => by
    obtain ⟨h1, h2⟩ := List.pairwise_cons.1 h
    exact List.nodup_cons.2 ⟨fun hm => by have := h1 x hm; omega, rise_nodup h2⟩
theorem same_len {T : Sps} {A : Wd} {ss : List Int} (hT : FmOk T A) (h1 : ss.Pairwise (fun a b => a < b)) (h2 : ∀ n, n ∈ ss ↔ A n ≠ none) : ss.length = T.length := by
  obtain ⟨g1, g2⟩ := nod_nums hT
  have := (List.perm_ext_iff_of_nodup (rise_nodup h1) g1).2 fun n => (h2 n).trans (g2 n).symm
  have := this.length_eq
  simpa using this
theorem rise_at {ss : List Int} (h : ss.Pairwise (fun a b => a < b)) {k : Nat} (hk : 0 < k) (hl : k < ss.length) : ss.getD (k - 1) 0 < ss.getD k 0 := by
  have := List.pairwise_iff_getElem.1 h (k - 1) k (by omega) hl (by omega)
  rw [List.getD_eq_getElem?_getD, List.getD_eq_getElem?_getD, List.getElem?_eq_getElem hl, List.getElem?_eq_getElem (show k - 1 < ss.length by omega)]
  exact this
theorem nm_at {B : Nat} {w : World} {ao : Option Addr} {n c : Nat} {l : List Int} (h : Row rNm B w (.slice ao n c) l) {k : Nat} (hk : k < l.length) : ∃ g, ao = some ⟨g, 0, none⟩ ∧ g < w.heap.size ∧ w.cell? ⟨g, k, none⟩ = some (.int .i64 (l.getD k 0)) := by
  obtain ⟨g, e, -, -, hlt, -, -, hat⟩ := h.at hk
  refine ⟨g, e, hlt, ?_⟩
  have := hat 0 (by decide)
  simpa [rNm] using this
/-- Both worlds, in all worlds behind. -/
structure Two (w : World) (p q : Nat) (A : Wd) (T : Sps) (v : Value) : Prop where
  fl : ∃ G, (FlT p A).In G w
  fm : ∃ G, (FmX q v T).In G w
  ok : FmOk T A
theorem two_of {F : Nat → Prop} {w : World} {p q : Nat} {A : Wd} (h : ((FlT p A).and (FmT q A)).In F w) : ∃ T v, Two w p q A T v := by
  obtain ⟨G1, G2, _, _, h1, ⟨v, T⟩, hT, h2⟩ := h
  exact ⟨T, v, ⟨G1, h1⟩, ⟨G2, h2⟩, hT⟩
theorem Two.below {w W : World} {p q : Nat} {A : Wd} {T : Sps} {v : Value} (h : Two w p q A T v) (hb : Below w.heap.size w W) : Two W p q A T v := by
  obtain ⟨⟨G1, h1⟩, ⟨G2, h2⟩, h3⟩ := h
  exact ⟨⟨G1, (FlT p A).keeps h1 (Keeps.of_below hb (fun _ => False)) fun _ _ e => e⟩, ⟨G2, (FmX q v T).keeps h2 (Keeps.of_below hb (fun _ => False)) fun _ _ e => e⟩, h3⟩
theorem Two.find {w : World} {p q : Nat} {A : Wd} {T : Sps} {v : Value} (h : Two w p q A T v) {i : Nat} {n : Int} (hi : i < T.length) (hn : (T.getD i zT).1.n = n) : Calls Try.prog 34 #[.pointer (some ⟨q, 0, none⟩), .int .i64 n] w fun e w' => e = .returned (.int .i64 i) ∧ w' = w := by
  obtain ⟨_, ⟨G2, h2⟩, h3⟩ := h
  exact rfind_yes (FmX.box h2) (FmX.row h2) h3.few h3.nod hi hn
/-- What the word at a place is, in both. -/
def LdE (w : World) (A : Wd) (n pg j code : Int) (e : Ending) (w' : World) : Prop := e = .returned (.tuple #[.int .u64 (ldV A n pg j code), errV code]) ∧ Hid (Below w.heap.size w w')
def AtE (w : World) (i : Nat) (code : Int) (e : Ending) (w' : World) : Prop := e = .returned (.tuple #[.int .i64 (if code = 0 then (i : Int) else 0), .int .i64 code]) ∧ w' = w
theorem Two.at {w : World} {p q : Nat} {A : Wd} {T : Sps} {v : Value} (h : Two w p q A T v) {i : Nat} {n pg j code : Int} (hi : i < T.length) (hn : (T.getD i zT).1.n = n) (hd : AtD A n pg j code) :
    Calls Try.prog 33 #[.pointer (some ⟨q, 0, none⟩), .int .i64 n, .int .i64 pg, .int .i64 j] w (AtE w i code) := by
  obtain ⟨_, ⟨G2, h2⟩, h3⟩ := h
  refine (rat_any h2 h3 hd).mono fun e w' hp => ?_
  obtain ⟨rfl, ⟨hc, rfl⟩ | ⟨hc, i', hi', hn', rfl⟩⟩ := hp
  · exact ⟨by rw [if_neg hc], rfl⟩
  · have := h3.nod i' i hi' hi (by rw [hn', hn])
    subst this
    subst hc
    exact ⟨by rw [if_pos rfl], rfl⟩
theorem Two.load {w : World} {p q : Nat} {A : Wd} {T : Sps} {v : Value} (h : Two w p q A T v) {n pg j code : Int} (hn : okI n) (hd : AtD A n pg j code) :
    Calls Try.prog 16 #[.pointer (some ⟨p, 0, none⟩), .int .i64 n, .int .i64 pg, .int .i64 j] w (LdE w A n pg j code) := by
  obtain ⟨⟨G1, h1⟩, _, _⟩ := h
  exact load_any h1 hn hd
theorem Two.areas {w : World} {p q : Nat} {A : Wd} {T : Sps} {v : Value} (h : Two w p q A T v) {n : Int} (hn : okI n) : Calls Try.prog 20 #[.pointer (some ⟨p, 0, none⟩), .int .i64 n] w (ArP w (A n)) := by
  obtain ⟨⟨G1, h1⟩, _, _⟩ := h
  exact areas_any h1 hn
/-- The cells of a word in the document's world. -/
theorem Two.word {w : World} {p q : Nat} {A : Wd} {T : Sps} {v : Value} (h : Two w p q A T v) {i : Nat} {n pg j : Int} {s : Sp} (hi : i < T.length) (hn : (T.getD i zT).1.n = n) (hs : A n = some s) (hd : AtD A n pg j 0) :
    ∃ (g c gw cw k r : Nat), pg = k ∧ j = r ∧ k < 4096 ∧ r < 8 ∧ w.cell? ⟨q, 0, none⟩ = some (.slice (some ⟨g, 0, none⟩) T.length c) ∧ w.cell? ⟨g, i * 3 + 2, none⟩ = some (.slice (some ⟨gw, 0, none⟩) 4096 cw) ∧ w.cell? ⟨gw, k * 8 + r, none⟩ = some (.int .u64 (ldV A n pg j 0)) := by
  obtain ⟨_, ⟨G2, h2⟩, h3⟩ := h
  obtain ⟨s', t, hs', hj0, hj8, ht⟩ := hd.some
  rw [hs] at hs'
  obtain rfl := Option.some.inj hs'
  have hpg := page_in h3.ok hs ht
  obtain ⟨k, rfl⟩ : ∃ k : Nat, pg = k := ⟨pg.toNat, by omega⟩
  obtain ⟨r, rfl⟩ : ∃ r : Nat, j = r := ⟨j.toNat, by omega⟩
  have e := lk_at T h3.nod i hi
  rw [h3.eq, hn, hs] at e
  have e := Option.some.inj e
  obtain ⟨g, c, gp, cp, gw, cw, c0, c1, c2, c3, c4, c5, c6, c7⟩ := page_cells h2 hi (k := k) (by omega) (t := t) (by rw [← e]; exact ht)
  rw [← e] at c7
  have hlen : k < (wordsA s.wd).length := by rw [words_len]; omega
  obtain ⟨g', e', -, -, -, -, -, hatk⟩ := c7.at hlen
  cases e'
  have hu := rW8.at hatk (j := r) (by omega)
  rw [show (wordsA s.wd).getD k rW8.zero = s.wd k from words_get s.wd (by omega)] at hu
  refine ⟨g, c, gw, cw, k, r, rfl, rfl, by omega, by omega, c0, c2, ?_⟩
  unfold ldV wdA
  rw [if_pos rfl, hs]
  simpa [rW8] using hu
end Go.Proofs.Ytoimmapdkapheaa
