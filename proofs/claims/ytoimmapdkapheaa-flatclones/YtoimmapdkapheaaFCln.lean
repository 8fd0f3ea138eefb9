/- Clone of a world of spaces. -/
import Derived.Test.YtoimmapdkapheaaJG
import Derived.Lib.Walk
namespace Go.Proofs.Ytoimmapdkapheaa
set_option maxRecDepth 4000
open Go.RowKit

/-- The spaces that have come. -/
def rstr (A : Wd) (dn : Int → Bool) : Wd := fun n => if dn n = true then A n else none
theorem rstr_step {A : Wd} {dn : Int → Bool} {n : Int} {s : Sp} (h : A n = some s) : (rstr A dn).set n (some s) = rstr A (stepI dn n) := by
  funext k
  unfold rstr Wd.set stepI
  by_cases e : k = n
  · subst e
    simp [h]
  · simp [e]
theorem rstr_none {A : Wd} : rstr A (fun _ => false) = fun _ => none := by
  funext k
  simp [rstr]
theorem rstr_all {A : Wd} {dn : Int → Bool} (h : ∀ n, A n ≠ none → dn n = true) : rstr A dn = A := by
  funext k
  unfold rstr
  by_cases e : A k = none
  · rw [e]
    split <;> rfl
  · rw [if_pos (h k e)]
theorem leftG_le {β : Type} {dn : Int → Bool} (s : Int) : ∀ l : List (Int × β), (l.filter fun p => !stepI dn s p.1).length ≤ (l.filter fun p => !dn p.1).length
  | [] => Nat.le_refl _
  | x :: r => by
    have ih := leftG_le (dn := dn) s r
    simp only [List.filter_cons]
    cases h1 : dn x.1 <;> by_cases h2 : x.1 = s <;> simp [stepI, h1, h2] at ih ⊢ <;> omega
theorem leftG_drops {β : Type} {dn : Int → Bool} {p : Int × β} (hd : dn p.1 = false) : ∀ l : List (Int × β), p ∈ l → (l.filter fun q => !stepI dn p.1 q.1).length < (l.filter fun q => !dn q.1).length
  | [], h => by simp at h
  | x :: r, h => by
    have hle := leftG_le (dn := dn) p.1 r
    have ih := leftG_drops hd r
    simp only [List.filter_cons]
    rcases List.mem_cons.1 h with rfl | h
    · simp [stepI, hd] at hle ⊢
      omega
    · have ih := ih h
      cases h1 : dn x.1 <;> by_cases h2 : x.1 = p.1 <;> simp [stepI, h1, h2] at ih hle ⊢ <;> omega
/-- While the loop goes on. -/
def ClI (w : World) (r po : Nat) (B : Wd) (W : World) : Prop := Below w.heap.size w W ∧ ∃ Fo, (FlT po B).In Fo W ∧ (∀ c, Fo c → w.heap.size ≤ c) ∧ ¬ Fo r
/-- Behind a space's clone. -/
def CkOp (w W : World) (m r po mo : Nat) (n : Int) (B : Wd) (e : Ending) (w2 : World) : Prop :=
  ∃ g w3, e = .returned (.pointer (some ⟨g, 0, none⟩)) ∧ (Instr.mapUpdate 66 (.map (some mo)) (.int .i64 n) (.pointer (some ⟨g, 0, none⟩))).run Try.prog w2 = .ok () w3 ∧ w2.cell? ⟨po, 0, none⟩ = some (.map (some mo)) ∧ w3.cell? ⟨po, 0, none⟩ = some (.map (some mo)) ∧
    Hid (ClI w r po B w3 ∧ w3.heap[m]? = W.heap[m]? ∧ w3.heap[r]? = W.heap[r]?)
theorem cl_step {F : Nat → Prop} {w W : World} {p m r po : Nat} {l : Spl} {B : Wd} {n : Int} {g : Nat} {s : Sp} (h : (FlX p m l).In F w) (hok : (lkP l).ok) (hx : getL l n = some (g, s)) (hi : ClI w r po B W) (hB : B n = none) (hr : r < W.heap.size) :
    ∃ mo, W.cell? ⟨po, 0, none⟩ = some (.map (some mo)) ∧ ∀ W', Below W.heap.size W W' → Calls Try.prog 42 #[.pointer (some ⟨g, 0, none⟩)] W' (CkOp w W m r po mo n (B.set n (some s))) := by
  obtain ⟨hb, Fo, ⟨⟨mo, lo⟩, ⟨rfl, hoko⟩, ho⟩, h1, h2⟩ := hi
  simp only at ho hoko hB
  have hm := (FlX.mp h).lt
  have hn := hok n s (by unfold lkP; rw [hx]; rfl)
  have c0 : W.cell? ⟨po, 0, none⟩ = some (.map (some mo)) := by rw [(FlX.box ho).cell]; rfl
  refine ⟨mo, c0, fun W' hb' => ?_⟩
  have ho' : (FlX po mo lo).In Fo W' := (FlX po mo lo).keeps ho (Keeps.of_below hb' (fun _ => False)) fun _ _ e => e
  have hbw := below_call' hb hb'
  obtain ⟨G, g1⟩ := fl_see h hx
  have g1' : (PgT g s).In G W' := (PgT g s).keeps g1 (Keeps.of_below hbw (fun _ => False)) fun _ _ e => e
  refine (pclone_any g1').mono fun e w2 hp => ?_
  obtain ⟨g', rfl, hbec⟩ := hp
  obtain ⟨w3, r1, ⟨F3, f1, f2, f3⟩, r3⟩ := fl_new ho' hoko hn.1 hn.2 (lk_none'.1 hB) hbec
  have hz := hb'.size
  have e2 : w2.cell? ⟨po, 0, none⟩ = some (.map (some mo)) := by
    rw [World.cell?_of_block (w := W) (a := ⟨po, 0, none⟩) ((below_call' hb' hbec.frame).block po (FlX.box ho).lt)]
    exact c0
  refine ⟨g', w3, rfl, r1, e2, ?_, ⟨hbw.trans (f3.below hbw.size fun c _ e => h1 c e), F3, f2, fun c hc => ?_, fun hc => ?_⟩, ?_, ?_⟩
  · rw [World.cell?_of_block (w := w2) (a := ⟨po, 0, none⟩) (r3.grown.block po (Nat.lt_of_lt_of_le (FlX.box ho).lt (below_call' hb' hbec.frame).size) (by simpa using ((FlX.mp ho).ne (FlX.box ho)).symm))]
    exact e2
  · rcases f1 c hc with k | k
    · exact h1 c k
    · have := hbw.size; omega
  · rcases f1 r hc with k | k
    · exact h2 k
    · omega
  · rw [f3.block m (Nat.lt_of_lt_of_le hm hbw.size) fun k => by have := h1 m k; omega]
    exact hb'.block m (Nat.lt_of_lt_of_le hm hb.size)
  · rw [f3.block r (by omega) h2]
    exact hb'.block r hr
theorem cl_next {w W w1 : World} {r po : Nat} {B : Wd} (hi : ClI w r po B W) (hr : w.heap.size ≤ r) (hg : W.grownBy w1 (some r)) : ClI w r po B w1 := by
  obtain ⟨hb, Fo, h, h1, h2⟩ := hi
  have hk := Keeps.of_grown hg
  exact ⟨hb.trans (hk.below hb.size fun c _ e => by simp at e; omega), Fo, (FlT po B).keeps h hk fun c hc e => h2 (by simp at e; rw [e]; exact hc), h1, h2⟩
theorem cl_start {w w1 w2 : World} {po : Nat} {B : Wd} (h : Bec (fun _ => False) w (FlT po B) w1) (hg : w1.grownBy w2 none) : ClI w w1.heap.size po B w2 := by
  obtain ⟨Fo, h1, h2, h3⟩ := h
  have hk := Keeps.of_grown hg
  refine ⟨(h3.below (Nat.le_refl _) fun _ _ e => e.elim).trans (hk.below h3.size fun c _ e => by simp at e), Fo, (FlT po B).keeps h2 hk fun c _ e => by simp at e, fun c hc => (h1 c hc).resolve_left fun e => e, fun hc => ?_⟩
  have := (FlT po B).lt h2 _ hc
  omega
def NewP (w : World) (A : Wd) (e : Ending) (w' : World) : Prop := ∃ po, e = .returned (.pointer (some ⟨po, 0, none⟩)) ∧ Bec (fun _ => False) w (FlT po A) w'
set_option maxRecDepth 100000 in
set_option maxHeartbeats 8000000 in
theorem fclone_any {F : Nat → Prop} {w : World} {p : Nat} {A : Wd} (h : (FlT p A).In F w) : Calls Try.prog 18 #[.pointer (some ⟨p, 0, none⟩)] w (NewP w A) := by
  obtain ⟨⟨m, l⟩, ⟨rfl, hok⟩, h⟩ := h
  simp only at h hok ⊢
  have hnew := new_any w
  have HM : Hid (Mp spM w m l) := FlX.mp h
  have HBX : Hid (Laid w p 68 #[.map (some m)]) := FlX.box h
  have HH : Hid ((FlX p m l).In F w ∧ (lkP l).ok) := ⟨h, hok⟩
  clear h hok
  go_enter Try.func18, Try.ntmps18
  go_wp2_with fail
  refine hnew.mono ?_
  rintro e w1 ⟨po, rfl, hbec⟩
  have hb1 := hbec.frame
  have hM1 : Mp spM w1 m l := HM.out.same (hb1.block _ HM.out.lt)
  have c0 : w1.cell? ⟨p, 0, none⟩ = some (.map (some m)) := by rw [(HBX.out.below hb1).cell]; rfl
  have hz1 : Hid (w.heap.size ≤ w1.heap.size) := hb1.size
  have HS : Hid (∀ w2, w1.grownBy w2 none → ClI w w1.heap.size po (fun _ => none) w2) := fun w2 hg => cl_start hbec hg
  clear hbec hb1 hnew
  go_wp2_with (first | (at_range; refine wpList_range_M (M := spM) _ rfl _ rfl m l rfl hM1 ?_; intro w0 hrg0 hg0 hs0) | go_in)
  try go_frame
  go_loopw [4, 5] (fun _ _ W => ∃ dn, Hid (Rg spM W m w1.heap.size l dn) ∧ Hid (ClI w w1.heap.size po (rstr (lkP l) dn) W)) (fun _ _ W => W.rangeLeft m w1.heap.size)
  case atStart => exact ⟨_, hrg0, by rw [rstr_none]; exact HS.out _ hg0⟩
  case round =>
    obtain ⟨dn, HRG, HCL⟩ := hrel
    have hRG := HRG.out
    go_wp2_with (first | (at_next; refine wpList_next_M (M := spM) _ rfl _ rfl m w1.heap.size _ dn rfl hRG ?_ ?_) | go_in)
    · intro hdone
      have HE : Hid (NewP w (lkP l) (.returned (.pointer (some ⟨po, 0, none⟩))) wr) := by
        obtain ⟨hb, Fo, k1, k2, k3⟩ := HCL.out
        rw [rstr_all fun n hn => by
          obtain ⟨x, hx⟩ := Option.ne_none_iff_exists'.1 fun e => hn (lk_none'.2 e)
          exact hdone n x.1 x.2 (getL_mem hx)] at k1
        exact ⟨po, rfl, bec_false k1 k2 hb⟩
      clear hdone hRG hrg0 hg0 hs0 hM1 c0
      go_wp2
      go_ret
      exact HE.out
    · intro n g s w2 hp hdn hrg hg2 hs2 hen
      simp only [spM] at hen
      have hx : getL l n = some (g, s) := getL_at (p := (n, (g, s))) HM.out.apart (List.mem_iff_getElem?.1 hp).choose_spec
      have hcl := cl_next HCL.out hz1.out hg2
      have hrlt : w1.heap.size < w2.heap.size := hrg.lt
      obtain ⟨mo, q0, hcc⟩ := cl_step HH.out.1 HH.out.2 hx hcl (by unfold rstr; rw [hdn]; rfl) hrlt
      rw [rstr_step (show lkP l n = some s by unfold lkP; rw [hx]; rfl)] at hcc
      have HRG2 : Hid (Rg spM w2 m w1.heap.size l (stepI dn n)) := hrg
      have HP : Hid ((n, (g, s)) ∈ l ∧ dn n = false) := ⟨hp, hdn⟩
      have HRGo : Hid (Rg spM wr m w1.heap.size l dn) := hRG
      clear hp hdn hrg hg2 hs2 hx hcl hrlt HCL HRG hrg0 hg0 hs0 hM1 c0 hRG
      go_wp2_with fail
      go_region_held3 (fun w' => w'.cell? ⟨po, 0, none⟩ = some (.map (some mo))) (go_keep) (first | (go_at_call 42; refine (hcc _ ?q1).mono ?_; (case q1 => first | exact Below.refl _ _ | exact (Below.refl _ _).drew); rintro e w3 ⟨g3, w4, rfl, hrun, x0, x1, HX⟩))
      try go_frame
      go_roundw
      case rel => exact ⟨_, _, _, _, _, _, _, _, _, _, _, _, _, _, ⟨stepI dn n, HRG2.out.same HX.out.2.1 HX.out.2.2, HX.out.1⟩, rfl⟩
      case measure =>
        have e1 := Rg.left_eq (HRG2.out.same HX.out.2.1 HX.out.2.2)
        have e2 := Rg.left_eq (M := spM) HRGo.out
        rw [e1, e2]
        exact leftG_drops HP.out.2 _ HP.out.1
end Go.Proofs.Ytoimmapdkapheaa
