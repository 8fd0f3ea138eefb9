/- Told, Space, Forget. -/
import Derived.Test.YtjijgpdfoilijaaBWat
namespace Go.Proofs.Ytjijgpdfoilijaa
open Go.RowKit

/-- What becomes of one where a page is told. -/
def toldT (a page : Int) (x : Opn) : Opn := if x.asid = a then x.tell page else x
def toldG (a page : Int) (x : Opn) : Bool := ((leftN (toldT a page x).told : Nat) : Int) == 0
theorem toldT_or (a page : Int) (x : Opn) : (toldT a page x).o = x.o ∧ (toldT a page x).r = x.r := by
  unfold toldT
  split <;> exact ⟨rfl, rfl⟩

set_option maxHeartbeats 1000000 in
theorem toldC_any (c c' : Nat) (a page : Int) : Clo 28 #[.pointer (some ⟨c, 0, none⟩), .pointer (some ⟨c', 0, none⟩)] [(c, a), (c', page)] (toldT a page) (toldG a page) := by
  refine ⟨by intro args w; kernel_rfl, fun W x s hC hO => ?_⟩
  have q0 : W.cell? ⟨c, 0, none⟩ = some (.int .i64 a) := by rw [(hC (c, a) (by simp)).cell]; rfl
  have q1 : W.cell? ⟨c', 0, none⟩ = some (.int .i64 page) := by rw [(hC (c', page) (by simp)).cell]; rfl
  have c0 : W.cell? ⟨x.o, 0, none⟩ = some (.int .i64 x.asid) := by rw [hO.box.cell]; rfl
  have c4 : W.cell? ⟨x.o, 4, none⟩ = some (.int .i64 (leftN x.told)) := by rw [hO.box.cell]; rfl
  have hcz := hC.lt (p := (c, a)) (by simp)
  have hcz' := hC.lt (p := (c', page)) (by simp)
  have hoz := hO.box.lt
  simp only at hcz hcz'
  unfold slotV
  have t1 : (W.alloc (.cells #[.int .i64 s.1, .int .i64 s.2] 53)).cell? ⟨c, 0, none⟩ = some (.int .i64 a) := by rw [cell_alloc_old hcz]; exact q0
  have t2 : (W.alloc (.cells #[.int .i64 s.1, .int .i64 s.2] 53)).cell? ⟨x.o, 0, none⟩ = some (.int .i64 x.asid) := by rw [cell_alloc_old hoz]; exact c0
  have t3 : (W.alloc (.cells #[.int .i64 s.1, .int .i64 s.2] 53)).cell? ⟨c', 0, none⟩ = some (.int .i64 page) := by rw [cell_alloc_old hcz']; exact q1
  have t4 : (W.alloc (.cells #[.int .i64 s.1, .int .i64 s.2] 53)).cell? ⟨x.o, 4, none⟩ = some (.int .i64 (leftN x.told)) := by rw [cell_alloc_old hoz]; exact c4
  have k1 : Keeps W (W.alloc (.cells #[.int .i64 s.1, .int .i64 s.2] 53)) fun c => c = x.o ∨ c = x.r := (Keeps.of_grown (World.grownBy_alloc W _ none)).mono fun _ _ e => by cases e
  have o1 : OpnAt (W.alloc (.cells #[.int .i64 s.1, .int .i64 s.2] 53)) x := hO.keeps ((Keeps.of_grown (World.grownBy_alloc W _ none)).mono (s' := fun _ => False) fun _ _ e => by cases e) (fun e => e) (fun e => e)
  have K1 : Hid _ := k1
  have O1 : Hid (OpnAt (W.alloc (.cells #[.int .i64 s.1, .int .i64 s.2] 53)) x) := o1
  by_cases ha : x.asid = a
  · have eT : toldT a page x = x.tell page := by simp [toldT, ha]
    have eG : toldG a page x = (((leftN (x.tell page).told : Nat) : Int) == 0) := by simp [toldG, eT]
    rw [eT, eG]
    have ha' : (x.asid == a) = true := by simp [ha]
    have hT := fun n => tell_any x page _ (o1.drewN n)
    clear k1 o1 q0 c0 q1 c4 hC hO eT eG ha t4 hcz hcz' hoz
    go_enter Try.func28, Try.ntmps28
    go_wp2_with fail
    go_quiet (fail)
    go_wp2_with fail
    refine (hT _).mono ?_
    rintro e w2 ⟨rfl, ho2, hk2⟩
    have d4 : w2.cell? ⟨x.o, 4, none⟩ = some (.int .i64 (leftN (x.tell page).told)) := ho2.box.cell 4
    have H2 : Hid (OpnAt w2 (x.tell page)) := ho2
    have HK2 : Hid _ := hk2
    clear ho2 hk2 hT t1 t2 t3
    go_wp2
    go_ret
    exact ⟨rfl, H2.out, (K1.out.drewN _).trans HK2.out fun _ _ e => e⟩
  · have eT : toldT a page x = x := by simp [toldT, ha]
    have eG : toldG a page x = (((leftN x.told : Nat) : Int) == 0) := by simp [toldG, eT]
    rw [eT, eG]
    have ha' : (x.asid == a) = false := by simpa using ha
    clear k1 o1 q0 c0 q1 c4 hC hO eT eG ha hcz hcz' hoz
    go_enter Try.func28, Try.ntmps28
    go_wp2_with fail
    go_quiet (fail)
    go_wp2
    go_ret
    exact ⟨rfl, O1.out.drewN _, K1.out.drewN _⟩

section
variable {F : Nat → Prop} {w : World} {b m : Nat} {br : Bool} {l : Gaps}
def WPost (F : Nat → Prop) (w : World) (b m : Nat) (br : Bool) (l : Gaps) (e : Ending) (w' : World) : Prop := e = .returned (.tuple #[]) ∧ Wat F w' b m br l ∧ Keeps w w' F
theorem stayT_of {T : Opn → Opn} {gone : Opn → Bool} (hT : ∀ x, (T x).o = x.o ∧ (T x).r = x.r) {p : (Int × Int) × Opn} (hp : p ∈ l.filterMap (stayT T gone)) : ∃ q ∈ l, q.1 = p.1 ∧ q.2.o = p.2.o ∧ q.2.r = p.2.r := by
  obtain ⟨q, hq, e⟩ := List.mem_filterMap.1 hp
  unfold stayT at e
  split at e
  · cases e
  · cases e
    exact ⟨q, hq, rfl, (hT _).1.symm, (hT _).2.symm⟩
/-- The open places behind a page being told. -/
def toldL (a page : Int) (l : Gaps) : Gaps := l.filterMap (stayT (toldT a page) (toldG a page))
def spaceL (a : Int) (l : Gaps) : Gaps := l.filterMap (stayT id fun x => x.asid == a)

set_option maxHeartbeats 1000000 in
theorem told_any (h : Wat F w b m br l) (a page : Int) : Calls Try.prog 12 #[.pointer (some ⟨b, 0, none⟩), .int .i64 a, .int .i64 page] w (WPost F w b m br (toldL a page l)) := by
  obtain ⟨W, hW⟩ : ∃ W, W = (w.alloc (.cells #[.int .i64 a] 3)).alloc (.cells #[.int .i64 page] 3) := ⟨_, rfl⟩
  have e1 : (w.alloc (.cells #[.int .i64 a] 3)).heap.size = w.heap.size + 1 := by simp
  have kb : Below w.heap.size w W := by rw [hW]; exact ((Below.refl _ _).alloc (Nat.le_refl _) _).alloc (by simp) _
  have h' := h.below kb
  have hC : Caps W [(w.heap.size, a), (w.heap.size + 1, page)] := by
    intro p hp
    simp at hp
    rw [hW]
    rcases hp with rfl | rfl
    · exact (Laid.new w _ _).kept (World.grownBy_alloc _ _ none) (by simp)
    · have := Laid.new (w.alloc (.cells #[.int .i64 a] 3)) 3 #[.int .i64 page]
      rw [e1] at this
      exact this
  have hD := delM_any h'.mp h'.op h'.apart hC (toldT_or a page) (toldC_any w.heap.size (w.heap.size + 1) a page)
  obtain ⟨c0, -, -⟩ := h'.cells
  have HW : Hid (Wat F W b m br l) := h'
  have HK : Hid (Below w.heap.size w W) := kb
  rw [hW] at c0 hD
  have HE : Hid (W = (w.alloc (.cells #[.int .i64 a] 3)).alloc (.cells #[.int .i64 page] 3)) := hW
  clear hW hC kb h' h
  go_enter Try.func12, Try.ntmps12
  go_wp2_with fail
  refine hD.mono ?_
  rintro e w1 ⟨rfl, h1, h2, h3⟩
  have H : Hid (WPost F w b m br (toldL a page l) (.returned (.tuple #[])) w1) := by
    rw [← HE.out] at h3
    exact ⟨rfl, HW.out.turned h3 h1 h2 fun p hp => stayT_of (toldT_or a page) hp, (Keeps.of_below HK.out F).trans h3 fun c _ e => HW.out.foot e⟩
  clear h1 h2 h3 hD
  go_wp2
  go_end0
  exact H.out

set_option maxHeartbeats 1000000 in
theorem space_any (h : Wat F w b m br l) (a : Int) : Calls Try.prog 10 #[.pointer (some ⟨b, 0, none⟩), .int .i64 a] w (WPost F w b m br (spaceL a l)) := by
  obtain ⟨W, hW⟩ : ∃ W, W = w.alloc (.cells #[.int .i64 a] 3) := ⟨_, rfl⟩
  have kb : Below w.heap.size w W := by rw [hW]; exact (Below.refl _ _).alloc (Nat.le_refl _) _
  have h' := h.below kb
  have hC : Caps W [(w.heap.size, a)] := by
    intro p hp
    simp at hp
    rw [hW]
    subst hp
    exact Laid.new w _ _
  have hI : ∀ x : Opn, (id x).o = x.o ∧ (id x).r = x.r := fun x => ⟨rfl, rfl⟩
  have hD := delM_any h'.mp h'.op h'.apart hC hI (spaceC_any w.heap.size a)
  obtain ⟨c0, -, -⟩ := h'.cells
  have HW : Hid (Wat F W b m br l) := h'
  have HK : Hid (Below w.heap.size w W) := kb
  have HI : Hid _ := hI
  rw [hW] at c0 hD
  have HE : Hid (W = w.alloc (.cells #[.int .i64 a] 3)) := hW
  clear hW hC kb h' h hI
  go_enter Try.func10, Try.ntmps10
  go_wp2_with fail
  refine hD.mono ?_
  rintro e w1 ⟨rfl, h1, h2, h3⟩
  have H : Hid (WPost F w b m br (spaceL a l) (.returned (.tuple #[])) w1) := by
    rw [← HE.out] at h3
    exact ⟨rfl, HW.out.turned h3 h1 h2 fun p hp => stayT_of HI.out hp, (Keeps.of_below HK.out F).trans h3 fun c _ e => HW.out.foot e⟩
  clear h1 h2 h3 hD
  go_wp2
  go_end0
  exact H.out

/-- The map of a watch is turned: what stood at a place is struck. -/
theorem Wat.struck {w' : World} (h : Wat F w b m br l) {s : Int × Int} (hM : Mp slotM w' m (delL l s)) (ht : w.mapTurned w' m) : Wat F w' b m br (delL l s) := by
  have hk : Keeps w w' fun c => c = m := (Keeps.of_grown ht.grown).mono fun c _ e => by simpa using e.symm
  have hk' : Keeps w w' (Go.Proofs.Ytjijgpdfoilijaa.foot m l) := hk.mono fun c _ e => Or.inl e
  refine h.turned hk' hM (fun p hp => ?_) fun p hp => ⟨p, (mem_delL hp).1, rfl, rfl, rfl⟩
  have hp' := (mem_delL hp).1
  exact (h.op p hp').keeps hk (fun e => h.mp.ne (h.op p hp').box e.symm) (fun e => h.mp.ne (h.op p hp').row e.symm)
theorem Wat.struckK {w' : World} (h : Wat F w b m br l) (ht : w.mapTurned w' m) : Keeps w w' F := (Keeps.of_grown ht.grown).mono fun c _ e => by
  have : m = c := by simpa using e
  rw [← this]
  exact h.fm

/-- The places 0 to k - 1 of a table struck. -/
def forgetL (t : Int) : Nat → Gaps → Gaps
  | 0, l => l
  | k + 1, l => delL (forgetL t k l) (t, (k : Int))
set_option maxHeartbeats 1000000 in
theorem forget_any (h : Wat F w b m br l) (t : Int) (ht : -9223372036854775808 ≤ t ∧ t ≤ 9223372036854775807) : Calls Try.prog 18 #[.pointer (some ⟨b, 0, none⟩), .int .i64 t] w (WPost F w b m br (forgetL t 8 l)) := by
  have HT : Hid _ := ht
  have H : Hid (Wat F w b m br l) := h
  clear h ht
  go_enter Try.func18, Try.ntmps18
  go_wp2_with fail
  go_loopw [5] (fun i W => ∃ k : Nat, k ≤ 8 ∧ i = .int .i64 k ∧ Hid (Wat F W b m br (forgetL t k l)) ∧ Hid (Keeps w W F)) (fun i _ => 8 - (intOf i).toNat)
  case atStart => exact ⟨0, by omega, rfl, H.out, Keeps.refl w F⟩
  case round =>
    obtain ⟨k, hk, rfl, hw, hkp⟩ := hrel
    by_cases h8 : k < 8
    · have h8z : (k : Int) < 8 := by omega
      obtain ⟨c0, -, -⟩ := hw.out.cells
      have hmp := hw.out.mp
      have hok : slotOk (t, (k : Int)) := ⟨HT.out, by omega⟩
      go_wp2_with (first | (at_delete; refine wpList_delete_M (M := slotM) _ rfl _ _ rfl m _ rfl hmp (t, (k : Int)) hok rfl ?_; intro w1 hm1 ht1) | go_in)
      go_roundw
      case rel => exact ⟨k + 1, by omega, by go_num, hw.out.struck hm1 ht1, hkp.out.trans (hw.out.struckK ht1) fun _ _ e => e⟩
      case measure => simp [intOf]; omega
    · obtain rfl : k = 8 := by omega
      go_wp2
      go_end0
      exact ⟨rfl, hw.out, hkp.out⟩
end
end Go.Proofs.Ytjijgpdfoilijaa
