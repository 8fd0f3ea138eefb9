/- maps.DeleteFunc over pages' words; forget. -/
import Derived.Test.YtoimmapdkapheaaFPg
import Derived.Lib.Walk
namespace Go.Proofs.Ytoimmapdkapheaa
set_option maxRecDepth 4000
open Go.RowKit

def gonB (a b k : Int) : Bool := decide (a ≤ k) && decide (k < b)
/-- Two numbers in boxes of their own. -/
structure Cap2 (w : World) (x y : Nat) (a b : Int) : Prop where
  h1 : Laid w x 3 #[.int .i64 a]
  h2 : Laid w y 3 #[.int .i64 b]
theorem Cap2.below {w w' : World} {x y : Nat} {a b : Int} (h : Cap2 w x y a b) (hb : Below w.heap.size w w') : Cap2 w' x y a b := ⟨h.h1.below hb, h.h2.below hb⟩
set_option maxHeartbeats 1000000 in
theorem gone_any {w : World} {x y : Nat} {a b : Int} (h : Cap2 w x y a b) (k : Int) (ws : Nat → Nat) :
    Calls Try.prog 63 #[.int .i64 k, wv ws, .pointer (some ⟨x, 0, none⟩), .pointer (some ⟨y, 0, none⟩)] w fun e w' => e = .returned (.bool (gonB a b k)) ∧ Below w.heap.size w w' := by
  have c1 : w.cell? ⟨x, 0, none⟩ = some (.int .i64 a) := by rw [h.h1.cell]; rfl
  have c2 : w.cell? ⟨y, 0, none⟩ = some (.int .i64 b) := by rw [h.h2.cell]; rfl
  have l1 := h.h1.lt
  have l2 := h.h2.lt
  have d1 := fun o v => cell_alloc_old l1 o v
  have d2 := fun o v => cell_alloc_old l2 o v
  have HB : Hid (Below w.heap.size w (w.alloc (.cells (w8arr ws) 77))) := new_below _ _
  unfold wv
  generalize hws : w8arr ws = arr at *
  clear h hws
  by_cases h1 : a ≤ k
  · have HG : gonB a b k = decide (k < b) := by simp [gonB, h1]
    rw [HG]
    clear HG
    go_enter Try.func63, Try.ntmps63
    go_wp2
    go_ret
    exact ⟨rfl, HB.out⟩
  · have HG : gonB a b k = false := by simp [gonB, h1]
    rw [HG]
    clear HG
    go_enter Try.func63, Try.ntmps63
    go_wp2
    go_ret
    exact ⟨rfl, HB.out⟩

/-- The pages while a loop goes over them. -/
def curW (a b : Int) (dn : Int → Bool) (l : Wds) : Wds := l.filter fun p => !(dn p.1 && gonB a b p.1)
def stepI (dn : Int → Bool) (s : Int) : Int → Bool := fun k => dn k || decide (k = s)
def keepW (a b : Int) (l : Wds) : Wds := l.filter fun p => !gonB a b p.1
section
variable {a b : Int} {dn : Int → Bool} {l : Wds}
theorem curW_start : curW a b (fun _ => false) l = l := by simp [curW]
theorem curW_del {s : Int} (hg : gonB a b s = true) : delL (curW a b dn l) s = curW a b (stepI dn s) l := by
  unfold delL curW stepI
  rw [List.filter_filter]
  apply List.filter_congr
  intro p _
  by_cases e : p.1 = s
  · simp [e, hg]
  · simp [e]
theorem curW_turn {s : Int} (hg : gonB a b s = false) : curW a b (stepI dn s) l = curW a b dn l := by
  unfold curW stepI
  apply List.filter_congr
  intro p _
  by_cases e : p.1 = s
  · simp [e, hg]
  · simp [e]
theorem curW_end (h : ∀ p ∈ curW a b dn l, dn p.1 = true) : curW a b dn l = keepW a b l := by
  unfold curW keepW at *
  apply List.filter_congr
  intro p hp
  cases hd : dn p.1 with
  | true => simp
  | false =>
    have := h p (List.mem_filter.2 ⟨hp, by simp [hd]⟩)
    rw [hd] at this
    cases this
theorem leftI_le (s : Int) : ∀ l : Wds, (l.filter fun p => !stepI dn s p.1).length ≤ (l.filter fun p => !dn p.1).length
  | [] => Nat.le_refl _
  | x :: r => by
    have ih := leftI_le s r
    simp only [List.filter_cons]
    cases h1 : dn x.1 <;> by_cases h2 : x.1 = s <;> simp [stepI, h1, h2] at ih ⊢ <;> omega
theorem leftI_drops {p : Int × (Nat → Nat)} (hd : dn p.1 = false) : ∀ l : Wds, p ∈ l → (l.filter fun q => !stepI dn p.1 q.1).length < (l.filter fun q => !dn q.1).length
  | [], h => by simp at h
  | x :: r, h => by
    have hle := leftI_le (dn := dn) p.1 r
    have ih := leftI_drops hd r
    simp only [List.filter_cons]
    rcases List.mem_cons.1 h with rfl | h
    · simp [stepI, hd] at hle ⊢
      omega
    · have ih := ih h
      cases h1 : dn x.1 <;> by_cases h2 : x.1 = p.1 <;> simp [stepI, h1, h2] at ih hle ⊢ <;> omega
theorem leftI_del (s : Int) (l : Wds) : ((delL l s).filter fun p => !dn p.1).length ≤ (l.filter fun p => !dn p.1).length :=
  ((List.filter_sublist (l := l)).filter _).length_le
theorem keepW_get (l : Wds) (k : Int) : getL (keepW a b l) k = if gonB a b k = true then none else getL l k := by
  unfold getL keepW
  rw [List.find?_filter]
  cases hg : gonB a b k with
  | true =>
    rw [if_pos rfl]
    rw [List.find?_eq_none.2]
    · rfl
    · intro p _ e
      simp at e
      rw [← e.2, e.1] at hg
      cases hg
  | false =>
    rw [if_neg (by simp)]
    congr 2
    funext p
    by_cases e : p.1 = k
    · simp [e, hg]
    · simp [e]
end
/-- While the loop goes on. -/
structure DlW (w : World) (m : Nat) (l : Wds) (x y : Nat) (a b : Int) (W : World) (dn : Int → Bool) : Prop where
  rg : Rg wordM W m w.heap.size (curW a b dn l) dn
  cap : Cap2 W x y a b
  keeps : Keeps w W (fun c => c = m)
theorem DlW.start {w w1 : World} {m : Nat} {l : Wds} {x y : Nat} {a b : Int} (hC : Cap2 w x y a b) (hr : Rg wordM w1 m w.heap.size l (fun _ => false)) (hg : w.grownBy w1 none) : DlW w m l x y a b w1 (fun _ => false) :=
  ⟨by rw [curW_start]; exact hr, ⟨hC.h1.kept hg (by simp), hC.h2.kept hg (by simp)⟩, (Keeps.of_grown hg).mono fun _ _ e => by cases e⟩
theorem rg_ne {W : World} {m r : Nat} {l : Wds} {dn : Int → Bool} (h : Rg wordM W m r l dn) {g : Nat} {t : TypeId} {c : Array Value} (hL : Laid W g t c) : g ≠ r ∧ g ≠ m := by
  obtain ⟨es, clock, since, seen, c0, hb, _, _, _, hr, _⟩ := h
  constructor
  · intro e
    unfold Laid at hL
    rw [e, hr] at hL
    cases hL
  · intro e
    unfold Laid at hL
    rw [e, hb] at hL
    cases hL
set_option maxRecDepth 100000 in
set_option maxHeartbeats 4000000 in
theorem delW_any {w : World} {m : Nat} {l : Wds} {x y : Nat} {a b : Int} (hM : Mp wordM w m l) (hC : Cap2 w x y a b) :
    Calls Try.prog 62 #[.map (some m), .func (.func 63) #[] #[.pointer (some ⟨x, 0, none⟩), .pointer (some ⟨y, 0, none⟩)]] w fun e w' => e = .returned (.tuple #[]) ∧ Mp wordM w' m (keepW a b l) ∧ Keeps w w' (fun c => c = m) := by
  have HK : Hid (∀ p ∈ l, okI p.1) := hM.oks
  have HS : Hid (∀ w1, Rg wordM w1 m w.heap.size l (fun _ => false) → w.grownBy w1 none → DlW w m l x y a b w1 (fun _ => false)) := fun w1 h1 h2 => DlW.start hC h1 h2
  clear hC
  go_enter Try.func62, Try.ntmps62
  go_wp2_with (first | (at_range; refine wpList_range_M (M := wordM) _ rfl _ rfl m l rfl hM ?_; intro w0 hrg0 hg0 hs0) | go_in)
  try go_frame
  go_loopw [4] (fun _ W => ∃ dn, Hid (DlW w m l x y a b W dn)) (fun _ W => W.rangeLeft m w.heap.size)
  case atStart => exact ⟨_, HS.out _ hrg0 hg0⟩
  case round =>
    obtain ⟨dn, hD⟩ := hrel
    have hRG := hD.out.rg
    go_wp2_with (first | (at_next; refine wpList_next_M (M := wordM) _ rfl _ rfl m w.heap.size _ dn rfl hRG ?_ ?_) | go_in)
    · intro hdone
      go_wp2
      go_end0
      have e := curW_end fun p hp => hdone p.1 p.2 hp
      exact ⟨rfl, by rw [← e]; exact hRG.mp, hD.out.keeps⟩
    · intro s ws w1 hp hdn hrg hg1 hs1 hen
      have HC1 : Hid (Cap2 w1 x y a b) := ⟨hD.out.cap.h1.kept hg1 (by simpa using (rg_ne hRG hD.out.cap.h1).1), hD.out.cap.h2.kept hg1 (by simpa using (rg_ne hRG hD.out.cap.h2).1)⟩
      have HKP : Hid (Keeps w w1 (fun c => c = m)) := hD.out.keeps.trans (Keeps.of_grown hg1) fun c hc e => by simp at e; omega
      have hks := HK.out _ (List.mem_filter.1 hp).1
      simp only [wordM, wv, w8arr] at hen
      have hc := fun w' (h : Cap2 w' x y a b) => gone_any h s ws
      unfold wv w8arr at hc
      have HP : Hid _ := hp
      have HDN : Hid _ := hdn
      have HRG : Hid (Rg wordM w1 m w.heap.size (curW a b dn l) (stepI dn s)) := hrg
      have HSK : Hid _ := hks
      have HR : Hid (Rg wordM wr m w.heap.size (curW a b dn l) dn) := hRG
      clear hp hdn hrg hks hD hrg0 hg0 hs0 hg1 hs1 hRG
      generalize ws 0 = y0, ws 1 = y1, ws 2 = y2, ws 3 = y3, ws 4 = y4, ws 5 = y5, ws 6 = y6, ws 7 = y7 at hen hc
      go_wp2_with fail
      refine (hc _ (HC1.out.below (new_below _ _))).mono ?_
      rintro e w2 ⟨rfl, hb2⟩
      have HB : Hid (Below w1.heap.size w1 w2) := below_call' (new_below w1 _) hb2
      have HK2 : Hid (Keeps w w2 (fun c => c = m)) := HKP.out.trans (Keeps.of_below HB.out _) fun _ _ e => e
      have HR2 : Hid (Rg wordM w2 m w.heap.size (curW a b dn l) (stepI dn s)) := HRG.out.same (HB.out.block _ HRG.out.mp.lt) (HB.out.block _ HRG.out.lt)
      have HC2 : Hid (Cap2 w2 x y a b) := HC1.out.below HB.out
      clear hb2 hc HB HKP HC1
      cases hgo : gonB a b s with
      | true =>
        have HG : Hid (gonB a b s = true) := hgo
        clear hgo
        go_wp2_with (first | (at_delete; refine wpList_delete_R (M := wordM) _ rfl _ _ rfl m w.heap.size _ _ rfl HR2.out s HSK.out rfl ?_; intro w3 hrg3 hturn) | go_in)
        try go_frame
        go_roundw
        case rel =>
          refine ⟨stepI dn s, ?_, ⟨HC2.out.h1.kept hturn.grown (by simpa using (rg_ne HR2.out HC2.out.h1).2), HC2.out.h2.kept hturn.grown (by simpa using (rg_ne HR2.out HC2.out.h2).2)⟩, HK2.out.trans (Keeps.of_grown hturn.grown) fun c _ e => by simpa using e.symm⟩
          rw [← curW_del HG.out]
          exact hrg3
        case measure =>
          rw [hrg3.left_eq, HR.out.left_eq]
          exact Nat.lt_of_le_of_lt (leftI_del _ _) (leftI_drops HDN.out _ HP.out)
      | false =>
        have HG : Hid (gonB a b s = false) := hgo
        clear hgo
        go_wp2
        go_roundw
        case rel => exact ⟨stepI dn s, by rw [curW_turn HG.out]; exact HR2.out, HC2.out, HK2.out⟩
        case measure =>
          rw [HR2.out.left_eq, HR.out.left_eq]
          exact leftI_drops HDN.out _ HP.out
set_option maxHeartbeats 1000000 in
theorem forget_any {w : World} {g wb : Nat} {v : Value} {l : Wds} (hL : Laid w g 85 (pgC v wb)) (hM : Mp wordM w wb l) (a b : Int) :
    Calls Try.prog 44 #[.pointer (some ⟨g, 0, none⟩), .int .i64 a, .int .i64 b] w fun e w' => e = .returned (.tuple #[]) ∧ Mp wordM w' wb (keepW a b l) ∧ Keeps w w' (fun c => c = wb) := by
  have c1 : w.cell? ⟨g, 1, none⟩ = some (.map (some wb)) := by rw [hL.cell]; rfl
  have l1 := hL.lt
  have d1 := fun o v => cell_alloc_old l1 o v
  have HB : Hid (Below w.heap.size w ((w.alloc (.cells #[.int .i64 a] 3)).alloc (.cells #[.int .i64 b] 3))) := ((Below.refl _ _).alloc (Nat.le_refl _) _).alloc (by simp) _
  have hc := delW_any (hM.same (HB.out.block _ hM.lt)) (x := w.heap.size) (y := w.heap.size + 1) (a := a) (b := b) ⟨(Laid.new w 3 #[.int .i64 a]).below (new_below _ _), by
    have := Laid.new (w.alloc (.cells #[.int .i64 a] 3)) 3 #[.int .i64 b]
    simpa using this⟩
  have d2 : ((w.alloc (.cells #[.int .i64 a] 3)).alloc (.cells #[.int .i64 b] 3)).cell? ⟨g, 1, none⟩ = some (.map (some wb)) := by
    rw [World.cell?_of_block (w := w) (a := ⟨g, 1, none⟩) (HB.out.block _ l1)]
    exact c1
  clear hL hM d1 l1 c1
  go_enter Try.func44, Try.ntmps44
  go_wp2_with fail
  refine hc.mono ?_
  rintro e w2 ⟨rfl, h1, h2⟩
  have H1 : Hid _ := h1
  have H2 : Hid _ := h2
  clear h1 h2 hc
  go_wp2
  go_end0
  exact ⟨rfl, H1.out, (Keeps.of_below HB.out _).trans H2.out fun _ _ e => e⟩
end Go.Proofs.Ytoimmapdkapheaa
