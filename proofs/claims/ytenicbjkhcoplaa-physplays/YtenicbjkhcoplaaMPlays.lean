/- PhysPlays: the walk. -/
import Derived.Test.YtenicbjkhcoplaaMRefOps
import Derived.Test.YtenicbjkhcoplaaMApart
import Derived.Lib.IfaceNeq
namespace Go.Proofs.Ytenicbjkhcoplaa
open Go.RowKit

theorem neq_err (n : Int) (w : World) : (binOp .neq 25 (.iface 28 (.int .i64 n)) (.iface 28 (.int .i64 n))).run Try.prog w = .ok (.bool false) w := by
  have := Lib.run_neq_iface_int (P := Try.prog) w (t := 25) (tx := 28) (k := .i64) n n Try.underlying25 (by kernel_rfl) Try.underlying28
  simpa using this

theorem cell_alloc_old {w : World} {b : Nat} (h : b < w.heap.size) (o : Nat) (v : Obj) : (w.alloc v).cell? ⟨b, o, none⟩ = w.cell? ⟨b, o, none⟩ := World.cell?_of_block (Below.heap_alloc w v b h)
theorem frozen_alloc_old {w : World} {b : Nat} (h : b < w.heap.size) (o : Nat) (v : Obj) : (w.alloc v).frozen? ⟨b, o, none⟩ = w.frozen? ⟨b, o, none⟩ := World.frozen?_of_block (Below.heap_alloc w v b h)
theorem eight_cells (f : Nat → Nat) (c : Nat) (z : Array Value) (j : Nat) (hj : j < 8) :
    (#[Value.int .u64 (f (c * 8)), .int .u64 (f (c * 8 + 1)), .int .u64 (f (c * 8 + 2)), .int .u64 (f (c * 8 + 3)), .int .u64 (f (c * 8 + 4)), .int .u64 (f (c * 8 + 5)), .int .u64 (f (c * 8 + 6)), .int .u64 (f (c * 8 + 7))] ++ z)[j]? = some (.int .u64 (f (c * 8 + j))) := by
  rw [Array.getElem?_append_left (by simpa using hj)]
  have : j = 0 ∨ j = 1 ∨ j = 2 ∨ j = 3 ∨ j = 4 ∨ j = 5 ∨ j = 6 ∨ j = 7 := by omega
  rcases this with rfl | rfl | rfl | rfl | rfl | rfl | rfl | rfl <;> rfl
theorem okP_nat {n : Nat} {a i : Int} (h : okP n a i = true) : ∃ x y : Nat, a = x ∧ i = y ∧ x < n ∧ y < 8 := by
  have := okP_of h
  exact ⟨a.toNat, i.toNat, by omega, by omega, by omega, by omega⟩
theorem okP_zero (n : Nat) (a : Int) : okP n a 0 = okF n a := by unfold okP okF; rw [Bool.eq_iff_iff, decide_eq_true_iff, decide_eq_true_iff]; omega
theorem okF_nat {n : Nat} {a : Int} (h : okF n a = true) : ∃ x : Nat, a = x ∧ x < n := by
  have : 0 ≤ a ∧ a < n := by simpa [okF] using h
  exact ⟨a.toNat, by omega, by omega⟩

theorem Laid.of_mem {B : Nat} {w w' : World} {b s n d : Nat} {f : Nat → Nat} {cs : Array Value} (X : Laid w d 40 cs) (M : Mem B w b s n f) (G : w.grownBy w' (some s)) : Laid w' d 40 cs := by
  obtain ⟨_, h2, _⟩ := M.row
  exact X.kept G (fun e => ne_of_tag X h2 (by decide) (by cases e; rfl))
theorem Ref.of_mem {B B' : Nat} {w w' : World} {b s n n' q : Nat} {f R g : Nat → Nat} (F : Ref B w q n' R g) (M : Mem B' w b s n f) (G : w.grownBy w' (some s)) : Ref B w' q n' R g := by
  obtain ⟨h1, h2, h3⟩ := apart M F
  exact F.kept G (fun e => h2 (by cases e; rfl)) (fun k hk e => (h3 k hk).2.1 (by cases e; rfl))
theorem Laid.four {w : World} {b : Nat} {t : TypeId} {v0 v1 v2 v3 : Value} (X : Laid w b t #[v0, v1, v2, v3]) : w.cell? ⟨b, 0, none⟩ = some v0 ∧ w.cell? ⟨b, 1, none⟩ = some v1 ∧ w.cell? ⟨b, 2, none⟩ = some v2 ∧ w.cell? ⟨b, 3, none⟩ = some v3 :=
  ⟨X.cell 0, X.cell 1, X.cell 2, X.cell 3⟩

set_option maxRecDepth 100000 in
set_option maxHeartbeats 4000000 in
theorem walk_physPlays (x : Int) (ao : Option Addr) (len cap : Nat) (D : Nat → Deed) (w : World) (hx : -9223372036854775808 ≤ x ∧ x ≤ 9223372036854775807) (_ : len ≤ maxLen) (hL : Lst Deed.cells Deed.ok 4 w ao len D) :
    Calls Try.prog 4 #[.int .i64 x, .slice ao len cap] w fun e w' => e = .returned (.bool true) ∧ Below w.heap.size w w' := by
  obtain ⟨x1, x2⟩ := hx
  have hne := neq_err 1
  have q1 := pk_lt x 6 (by omega)
  have px := fun w => pick_k x 6 w x1 x2 (by omega) (by omega)
  obtain ⟨n, hn⟩ : ∃ n : Nat, 1 + (pk x 6 : Int) = n := ⟨1 + pk x 6, by omega⟩
  have n1 : 1 ≤ n := by omega
  have n6 : n ≤ 6 := by omega
  generalize pk x 6 = y at *
  go_enter Try.func4, Try.ntmps4
  go_wp2_with fail
  refine (up_any _).mono ?_
  rintro e W1 ⟨rfl, L1⟩
  go_wp2_with fail
  refine (px _).mono ?_
  rintro e w' ⟨rfl, rfl⟩
  clear px
  go_wp2_with fail
  refine (new_yes n _ n1 (by omega)).mono ?_
  rintro e W2 ⟨bm, sm, rfl, M2, hb⟩
  have L2 := below_call' L1 hb
  replace M2 := M2.base L1.size
  clear hb L1
  go_wp2_with fail
  refine (refNew_any n _ n1 n6).mono ?_
  rintro e W3 ⟨qr, cr, R3, rfl, F3, hb⟩
  have L3 := below_call' L2 hb
  have M3 := M2.below hb
  replace F3 := F3.base L2.size
  clear hb L2 M2
  go_wp2
  clear hn q1
  go_loopw [9] (fun i W => ∃ (k : Nat) (R f : Nat → Nat), k ≤ len ∧ i = .int .i64 k ∧ Mem w.heap.size W bm sm n f ∧ Ref w.heap.size W qr n R f ∧ Below w.heap.size w W) (fun i _ => len - (intOf i).toNat)
  case atStart => exact ⟨0, R3, _, Nat.zero_le _, rfl, M3, F3, L3⟩
  case round =>
    obtain ⟨k, R, f, hk, rfl, M, F, L⟩ := hrel
    clear M3 F3 L3
    by_cases hlt' : k < len ∧ k < 60
    · obtain ⟨hlt, h60⟩ := hlt'
      obtain ⟨b, off, rfl, hbw, hall⟩ := hL.at hlt
      obtain ⟨ok, hc⟩ := hall k hlt
      obtain ⟨⟨ok1, ok2⟩, _, _, _⟩ := ok
      have hold := fun o => L.cell (p := ⟨b, o, none⟩) hbw
      have c0 := (hold _).trans (hc 0 (by omega))
      have c1 := (hold _).trans (hc 1 (by omega))
      have c2 := (hold _).trans (hc 2 (by omega))
      have c3 := (hold _).trans (hc 3 (by omega))
      simp only [Deed.cells, List.getElem?_cons_succ, List.getElem?_cons_zero, Nat.add_zero] at c0 c1 c2 c3
      clear hc hall hold hL
      generalize (D k).what = dw at *
      generalize (D k).a = da at *
      generalize (D k).b = db at *
      generalize (D k).v = dv at *
      have h60' : (k : Int) < 60 := by omega
      have pw := fun w => pick_k dw 3 w ok1 ok2 (by omega) (by omega)
      have q3 := pk_lt dw 3 (by omega)
      generalize pk dw 3 = c at *
      go_wp2_with fail
      have X0 := Laid.new wr 40 #[.int .i64 dw, .int .i64 da, .int .i64 db, .int .u64 dv]
      have B0 : Below wr.heap.size wr (wr.alloc (.cells #[.int .i64 dw, .int .i64 da, .int .i64 db, .int .u64 dv] 40)) := (Below.refl _ _).alloc (Nat.le_refl _) _
      have M0 := M.below B0
      have F0 := F.below B0
      have L0 := below_call' L B0
      refine (pw _).mono ?_
      rintro e w' ⟨rfl, hw⟩
      rw [← hw] at X0 M0 F0 L0
      clear pw hw B0 M F L c0 c1 c2 c3
      generalize wr.heap.size = bd at *
      obtain ⟨x0, x1, x2, x3⟩ := X0.four
      have hcs : c = 0 ∨ c = 1 ∨ c = 2 := by omega
      rcases hcs with rfl | rfl | rfl
      · cases hok : okP n da db
        · have hh := fun w => has_any qr n cr da db w
          rw [hok] at hh
          go_wp2_with fail
          refine (store_no M0 da db dv hok).mono ?_
          rintro e w'' ⟨rfl, hw⟩
          obtain rfl := hw.symm
          clear hw
          go_wp2_with fail
          refine (hh _).mono ?_
          rintro e w'' ⟨rfl, hw⟩
          obtain rfl := hw.symm
          clear hw
          clear hh X0 x0 x1 x2 x3
          go_wp2
          go_loop [13] (fun i => ∃ t : Nat, t ≤ n ∧ i = .int .i64 t) (fun i => n - (intOf i).toNat)
          case atStart => exact ⟨0, by omega, rfl⟩
          case round =>
            obtain ⟨t, ht, rfl⟩ := hrel
            by_cases htt : t < n
            · obtain ⟨⟨ct, r1⟩, r2, _, _⟩ := F0.rules t htt
              go_wp2
              go_loop [14] (fun i => ∃ j : Nat, j ≤ 8 ∧ i = .int .i64 j) (fun i => 8 - (intOf i).toNat)
              case atStart => exact ⟨0, by omega, rfl⟩
              case round =>
                obtain ⟨j, hj, rfl⟩ := hrel
                by_cases hjt : j < 8
                · have r3 := r2 j hjt
                  have hm := load_yes M0 t j htt hjt
                  clear r2
                  go_wp2_with fail
                  refine hm.mono ?_
                  rintro e w'' ⟨rfl, hw⟩
                  obtain rfl := hw.symm
                  clear hw hm
                  go_wp2
                  go_round
                  case rel => exact ⟨j + 1, by omega, by go_num⟩
                  case measure => simp [intOf]; omega
                · go_wp2
                  go_round
                  case rel => exact ⟨t + 1, by omega, by go_num⟩
                  case measure => simp [intOf]; omega
            · go_wp2
              go_roundw
              case rel => exact ⟨k + 1, R, f, by omega, by go_num, M0, F0, L0⟩
              case measure => simp [intOf]; omega
        · have hh := fun w => has_any qr n cr da db w
          rw [hok] at hh
          obtain ⟨a, i, rfl, rfl, ha, hi⟩ := okP_nat hok
          clear hok
          go_wp2_with fail
          refine (store_mem M0 a i dv ha hi).mono ?_
          rintro e W4 ⟨rfl, M4, G⟩
          have X4 := X0.of_mem M0 G
          have F4 := F0.of_mem M0 G
          have L4 := below_row L0 L0.size G M0.hs
          clear X0 M0 F0 L0 G x0 x1 x2 x3
          obtain ⟨x0, x1, x2, x3⟩ := X4.four
          have ap := apart M4 F4
          obtain ⟨⟨ca, r1⟩, r2, r3, _⟩ := F4.rules a ha
          have r4 := r2 i hi
          clear r2
          go_wp2_with fail
          refine (hh _).mono ?_
          rintro e w'' ⟨rfl, hw⟩
          obtain rfl := hw.symm
          clear hw
          clear hh
          have F5 := (F4.set (fun k hk => (ap.2.2 k hk).2.2) a i dv ha hi).drew
          have M5 := (M4.kept (grown_set W4 (R a) i (.int .u64 dv)) (fun e => (ap.2.2 a ha).1 (by cases e; rfl)) (fun e => (ap.2.2 a ha).2.1 (by cases e; rfl))).drew
          have L5 := (below_row L4 L4.size (grown_set W4 (R a) i (.int .u64 dv)) (F4.rows a ha).1).drew
          have HH : Hid _ := And.intro F5 (And.intro M5 L5)
          clear F5 M5 L5 F4 M4 L4 ap
          go_wp2
          go_region
          obtain ⟨F5, M5, L5⟩ := HH.out
          clear HH x0 x1 x2 x3 r1 r3 r4 X4
          generalize (W4.setCell ⟨R a, i, none⟩ (.int .u64 dv)).drew = W5 at F5 M5 L5 ⊢
          go_wp2
          go_loop [13] (fun i => ∃ t : Nat, t ≤ n ∧ i = .int .i64 t) (fun i => n - (intOf i).toNat)
          case atStart => exact ⟨0, by omega, rfl⟩
          case round =>
            obtain ⟨t, ht, rfl⟩ := hrel
            by_cases htt : t < n
            · obtain ⟨⟨ct, r1⟩, r2, _, _⟩ := F5.rules t htt
              go_wp2
              go_loop [14] (fun i => ∃ j : Nat, j ≤ 8 ∧ i = .int .i64 j) (fun i => 8 - (intOf i).toNat)
              case atStart => exact ⟨0, by omega, rfl⟩
              case round =>
                obtain ⟨j, hj, rfl⟩ := hrel
                by_cases hjt : j < 8
                · have r3 := r2 j hjt
                  have hm := load_yes M5 t j htt hjt
                  clear r2
                  go_wp2_with fail
                  refine hm.mono ?_
                  rintro e w'' ⟨rfl, hw⟩
                  obtain rfl := hw.symm
                  clear hw hm
                  go_wp2
                  go_round
                  case rel => exact ⟨j + 1, by omega, by go_num⟩
                  case measure => simp [intOf]; omega
                · go_wp2
                  go_round
                  case rel => exact ⟨t + 1, by omega, by go_num⟩
                  case measure => simp [intOf]; omega
            · go_wp2
              go_roundw
              case rel => exact ⟨k + 1, R, _, by omega, by go_num, M5, F5, L5⟩
              case measure => simp [intOf]; omega
      · cases hok : okF n da
        · have hh := fun w => has_any qr n cr da 0 w
          rw [okP_zero, hok] at hh
          go_wp2_with fail
          refine (clear_no M0 da hok).mono ?_
          rintro e w'' ⟨rfl, hw⟩
          obtain rfl := hw.symm
          clear hw
          go_wp2_with fail
          refine (hh _).mono ?_
          rintro e w'' ⟨rfl, hw⟩
          obtain rfl := hw.symm
          clear hw
          clear hh X0 x0 x1 x2 x3
          go_wp2
          go_loop [13] (fun i => ∃ t : Nat, t ≤ n ∧ i = .int .i64 t) (fun i => n - (intOf i).toNat)
          case atStart => exact ⟨0, by omega, rfl⟩
          case round =>
            obtain ⟨t, ht, rfl⟩ := hrel
            by_cases htt : t < n
            · obtain ⟨⟨ct, r1⟩, r2, _, _⟩ := F0.rules t htt
              go_wp2
              go_loop [14] (fun i => ∃ j : Nat, j ≤ 8 ∧ i = .int .i64 j) (fun i => 8 - (intOf i).toNat)
              case atStart => exact ⟨0, by omega, rfl⟩
              case round =>
                obtain ⟨j, hj, rfl⟩ := hrel
                by_cases hjt : j < 8
                · have r3 := r2 j hjt
                  have hm := load_yes M0 t j htt hjt
                  clear r2
                  go_wp2_with fail
                  refine hm.mono ?_
                  rintro e w'' ⟨rfl, hw⟩
                  obtain rfl := hw.symm
                  clear hw hm
                  go_wp2
                  go_round
                  case rel => exact ⟨j + 1, by omega, by go_num⟩
                  case measure => simp [intOf]; omega
                · go_wp2
                  go_round
                  case rel => exact ⟨t + 1, by omega, by go_num⟩
                  case measure => simp [intOf]; omega
            · go_wp2
              go_roundw
              case rel => exact ⟨k + 1, R, f, by omega, by go_num, M0, F0, L0⟩
              case measure => simp [intOf]; omega
        · have hh := fun w => has_any qr n cr da 0 w
          rw [okP_zero, hok] at hh
          obtain ⟨a, rfl, ha⟩ := okF_nat hok
          obtain ⟨z, hmk, hz⟩ := make8
          have HZ : Hid _ := hz
          clear hok hz
          go_wp2_with fail
          refine (clear_yes M0 a ha).mono ?_
          rintro e W4 ⟨rfl, M4, G⟩
          have X4 := X0.of_mem M0 G
          have F4 := F0.of_mem M0 G
          have L4 := below_row L0 L0.size G M0.hs
          clear X0 M0 F0 L0 G x0 x1 x2 x3
          obtain ⟨x0, x1, x2, x3⟩ := X4.four
          have ap := apart M4 F4
          obtain ⟨⟨ca, r1⟩, r2, r3, r5⟩ := F4.rules a ha
          clear r2
          go_wp2_with fail
          refine (hh _).mono ?_
          rintro e w'' ⟨rfl, hw⟩
          obtain rfl := hw.symm
          clear hw
          clear hh
          have a1 := fun o v => cell_alloc_old X4.lt o v
          have a2 := fun o v => cell_alloc_old F4.ltq o v
          have a3 := fun o v => frozen_alloc_old F4.ltq o v
          have Bz : Below W4.heap.size W4 (W4.alloc (.cells z 30)) := (Below.refl _ _).alloc (Nat.le_refl _) _
          have F5 := (F4.fresh Bz a W4.heap.size 8 (fun _ => 0) ha (Nat.le_refl _) L4.size ⟨z, heap_alloc_new _ _, HZ.out⟩).drew
          have M5 := ((M4.below Bz).kept (grown_set (W4.alloc (.cells z 30)) qr a (.slice (some ⟨W4.heap.size, 0, none⟩) 8 8)) (fun e => ap.1 (by cases e; rfl)) (fun e => ap.2.1 (by cases e; rfl))).drew
          have L5 := (below_row (below_call' L4 Bz) (below_call' L4 Bz).size (grown_set (W4.alloc (.cells z 30)) qr a (.slice (some ⟨W4.heap.size, 0, none⟩) 8 8)) F4.hq).drew
          have HH : Hid _ := And.intro F5 (And.intro M5 L5)
          clear F5 M5 L5 F4 M4 L4 ap Bz
          go_wp2
          go_region
          obtain ⟨F5, M5, L5⟩ := HH.out
          clear HH x0 x1 x2 x3 r1 r3 r5 X4 a1 a2 a3 hmk HZ
          generalize ((W4.alloc (.cells z 30)).setCell ⟨qr, a, none⟩ (.slice (some ⟨W4.heap.size, 0, none⟩) 8 8)).drew = W5 at F5 M5 L5 ⊢
          go_wp2
          go_loop [13] (fun i => ∃ t : Nat, t ≤ n ∧ i = .int .i64 t) (fun i => n - (intOf i).toNat)
          case atStart => exact ⟨0, by omega, rfl⟩
          case round =>
            obtain ⟨t, ht, rfl⟩ := hrel
            by_cases htt : t < n
            · obtain ⟨⟨ct, r1⟩, r2, _, _⟩ := F5.rules t htt
              go_wp2
              go_loop [14] (fun i => ∃ j : Nat, j ≤ 8 ∧ i = .int .i64 j) (fun i => 8 - (intOf i).toNat)
              case atStart => exact ⟨0, by omega, rfl⟩
              case round =>
                obtain ⟨j, hj, rfl⟩ := hrel
                by_cases hjt : j < 8
                · have r3 := r2 j hjt
                  have hm := load_yes M5 t j htt hjt
                  clear r2
                  go_wp2_with fail
                  refine hm.mono ?_
                  rintro e w'' ⟨rfl, hw⟩
                  obtain rfl := hw.symm
                  clear hw hm
                  go_wp2
                  go_round
                  case rel => exact ⟨j + 1, by omega, by go_num⟩
                  case measure => simp [intOf]; omega
                · go_wp2
                  go_round
                  case rel => exact ⟨t + 1, by omega, by go_num⟩
                  case measure => simp [intOf]; omega
            · go_wp2
              go_roundw
              case rel => exact ⟨k + 1, _, _, by omega, by go_num, M5, F5, L5⟩
              case measure => simp [intOf]; omega
      · cases hA : okF n da
        · have hh := fun w => has_any qr n cr da 0 w
          rw [okP_zero, hA] at hh
          go_wp2_with fail
          refine (copy_no M0 da db (Or.inl hA)).mono ?_
          rintro e w'' ⟨rfl, hw⟩
          obtain rfl := hw.symm
          clear hw
          go_wp2_with fail
          refine (hh _).mono ?_
          rintro e w'' ⟨rfl, hw⟩
          obtain rfl := hw.symm
          clear hw
          clear hh X0 x0 x1 x2 x3
          go_wp2
          go_loop [13] (fun i => ∃ t : Nat, t ≤ n ∧ i = .int .i64 t) (fun i => n - (intOf i).toNat)
          case atStart => exact ⟨0, by omega, rfl⟩
          case round =>
            obtain ⟨t, ht, rfl⟩ := hrel
            by_cases htt : t < n
            · obtain ⟨⟨ct, r1⟩, r2, _, _⟩ := F0.rules t htt
              go_wp2
              go_loop [14] (fun i => ∃ j : Nat, j ≤ 8 ∧ i = .int .i64 j) (fun i => 8 - (intOf i).toNat)
              case atStart => exact ⟨0, by omega, rfl⟩
              case round =>
                obtain ⟨j, hj, rfl⟩ := hrel
                by_cases hjt : j < 8
                · have r3 := r2 j hjt
                  have hm := load_yes M0 t j htt hjt
                  clear r2
                  go_wp2_with fail
                  refine hm.mono ?_
                  rintro e w'' ⟨rfl, hw⟩
                  obtain rfl := hw.symm
                  clear hw hm
                  go_wp2
                  go_round
                  case rel => exact ⟨j + 1, by omega, by go_num⟩
                  case measure => simp [intOf]; omega
                · go_wp2
                  go_round
                  case rel => exact ⟨t + 1, by omega, by go_num⟩
                  case measure => simp [intOf]; omega
            · go_wp2
              go_roundw
              case rel => exact ⟨k + 1, R, f, by omega, by go_num, M0, F0, L0⟩
              case measure => simp [intOf]; omega
        cases hB : okF n db
        · have hh := fun w => has_any qr n cr da 0 w
          rw [okP_zero, hA] at hh
          have hi := fun w => has_any qr n cr db 0 w
          rw [okP_zero, hB] at hi
          go_wp2_with fail
          refine (copy_no M0 da db (Or.inr hB)).mono ?_
          rintro e w'' ⟨rfl, hw⟩
          obtain rfl := hw.symm
          clear hw
          go_wp2_with fail
          refine (hh _).mono ?_
          rintro e w'' ⟨rfl, hw⟩
          obtain rfl := hw.symm
          clear hw
          go_wp2_with fail
          refine (hi _).mono ?_
          rintro e w'' ⟨rfl, hw⟩
          obtain rfl := hw.symm
          clear hw
          clear hh hi X0 x0 x1 x2 x3
          go_wp2
          go_loop [13] (fun i => ∃ t : Nat, t ≤ n ∧ i = .int .i64 t) (fun i => n - (intOf i).toNat)
          case atStart => exact ⟨0, by omega, rfl⟩
          case round =>
            obtain ⟨t, ht, rfl⟩ := hrel
            by_cases htt : t < n
            · obtain ⟨⟨ct, r1⟩, r2, _, _⟩ := F0.rules t htt
              go_wp2
              go_loop [14] (fun i => ∃ j : Nat, j ≤ 8 ∧ i = .int .i64 j) (fun i => 8 - (intOf i).toNat)
              case atStart => exact ⟨0, by omega, rfl⟩
              case round =>
                obtain ⟨j, hj, rfl⟩ := hrel
                by_cases hjt : j < 8
                · have r3 := r2 j hjt
                  have hm := load_yes M0 t j htt hjt
                  clear r2
                  go_wp2_with fail
                  refine hm.mono ?_
                  rintro e w'' ⟨rfl, hw⟩
                  obtain rfl := hw.symm
                  clear hw hm
                  go_wp2
                  go_round
                  case rel => exact ⟨j + 1, by omega, by go_num⟩
                  case measure => simp [intOf]; omega
                · go_wp2
                  go_round
                  case rel => exact ⟨t + 1, by omega, by go_num⟩
                  case measure => simp [intOf]; omega
            · go_wp2
              go_roundw
              case rel => exact ⟨k + 1, R, f, by omega, by go_num, M0, F0, L0⟩
              case measure => simp [intOf]; omega
        · have hh := fun w => has_any qr n cr da 0 w
          rw [okP_zero, hA] at hh
          have hi := fun w => has_any qr n cr db 0 w
          rw [okP_zero, hB] at hi
          obtain ⟨a, rfl, ha⟩ := okF_nat hA
          obtain ⟨c, rfl, hc⟩ := okF_nat hB
          clear hA hB
          go_wp2_with fail
          refine (copy_yes M0 a c ha hc).mono ?_
          rintro e W4 ⟨rfl, M4, G⟩
          have X4 := X0.of_mem M0 G
          have F4 := F0.of_mem M0 G
          have L4 := below_row L0 L0.size G M0.hs
          clear X0 M0 F0 L0 G x0 x1 x2 x3
          obtain ⟨x0, x1, x2, x3⟩ := X4.four
          have ap := apart M4 F4
          obtain ⟨⟨ca, r1⟩, _, _, r5⟩ := F4.rules a ha
          obtain ⟨⟨cc, s1⟩, s2, _, _⟩ := F4.rules c hc
          go_wp2_with fail
          refine (hh _).mono ?_
          rintro e w'' ⟨rfl, hw⟩
          obtain rfl := hw.symm
          clear hw
          go_wp2_with fail
          refine (hi _).mono ?_
          rintro e w'' ⟨rfl, hw⟩
          obtain rfl := hw.symm
          clear hw
          clear hh hi
          have a1 := fun o v => cell_alloc_old X4.lt o v
          have a2 := fun o v => cell_alloc_old F4.ltq o v
          have a3 := fun o v => frozen_alloc_old F4.ltq o v
          have a4 := fun o v => cell_alloc_old (F4.rows c hc).2.lt o v
          have e1 := fun A o v => cell_alloc_old (w := W4.alloc A) (Nat.lt_of_lt_of_le X4.lt (by simp)) o v
          have e2 := fun A o v => cell_alloc_old (w := W4.alloc A) (Nat.lt_of_lt_of_le F4.ltq (by simp)) o v
          have e3 := fun A o v => frozen_alloc_old (w := W4.alloc A) (Nat.lt_of_lt_of_le F4.ltq (by simp)) o v
          have d0 := s2 0 (by omega)
          have d1 := s2 1 (by omega)
          have d2 := s2 2 (by omega)
          have d3 := s2 3 (by omega)
          have d4 := s2 4 (by omega)
          have d5 := s2 5 (by omega)
          have d6 := s2 6 (by omega)
          have d7 := s2 7 (by omega)
          have t48 : ¬ (281474976710656 < Builtin.nextslicecap 8 0 * Try.t30.bytes) := by decide +kernel
          clear s2
          go_wp2
          go_region
          clear a1 a2 a3 a4 e1 e2 e3 d0 d1 d2 d3 d4 d5 d6 d7 t48 s1 r1 r5 x0 x1 x2 x3 X4
          generalize (Question.appendCap 8 0 30).cut (W4.tape (W4.drawn + 1) (Question.appendCap 8 0 30)) = cp
          have hz := eight_cells f c (Builtin.zeroCells #[.int .u64 0] (cp - 8))
          generalize #[Value.int .u64 (f (c * 8)), .int .u64 (f (c * 8 + 1)), .int .u64 (f (c * 8 + 2)), .int .u64 (f (c * 8 + 3)), .int .u64 (f (c * 8 + 4)), .int .u64 (f (c * 8 + 5)), .int .u64 (f (c * 8 + 6)), .int .u64 (f (c * 8 + 7))] ++ Builtin.zeroCells #[.int .u64 0] (cp - 8) = zs at hz ⊢
          have Bz : Below W4.heap.size W4 ((W4.alloc (.cells #[] 30)).alloc (.cells zs 30)) := ((Below.refl _ _).alloc (Nat.le_refl _) _).alloc (by simp) _
          have F5 := (F4.fresh Bz a (W4.heap.size + 1) cp (fun j => f (c * 8 + j)) ha (by omega) L4.size ⟨zs, heap_alloc2_new _ _ _, hz⟩).drew.drew
          have M5 := ((M4.below Bz).kept (grown_set ((W4.alloc (.cells #[] 30)).alloc (.cells zs 30)) qr a (.slice (some ⟨W4.heap.size + 1, 0, none⟩) 8 cp)) (fun e => ap.1 (by cases e; rfl)) (fun e => ap.2.1 (by cases e; rfl))).drew.drew
          have L5 := (below_row (below_call' L4 Bz) (below_call' L4 Bz).size (grown_set ((W4.alloc (.cells #[] 30)).alloc (.cells zs 30)) qr a (.slice (some ⟨W4.heap.size + 1, 0, none⟩) 8 cp)) F4.hq).drew.drew
          clear Bz F4 M4 L4 ap hz
          generalize (((W4.alloc (.cells #[] 30)).alloc (.cells zs 30)).setCell ⟨qr, a, none⟩ (.slice (some ⟨W4.heap.size + 1, 0, none⟩) 8 cp)).drew.drew = W5 at F5 M5 L5 ⊢
          go_wp2
          go_loop [13] (fun i => ∃ t : Nat, t ≤ n ∧ i = .int .i64 t) (fun i => n - (intOf i).toNat)
          case atStart => exact ⟨0, by omega, rfl⟩
          case round =>
            obtain ⟨t, ht, rfl⟩ := hrel
            by_cases htt : t < n
            · obtain ⟨⟨ct, r1⟩, r2, _, _⟩ := F5.rules t htt
              go_wp2
              go_loop [14] (fun i => ∃ j : Nat, j ≤ 8 ∧ i = .int .i64 j) (fun i => 8 - (intOf i).toNat)
              case atStart => exact ⟨0, by omega, rfl⟩
              case round =>
                obtain ⟨j, hj, rfl⟩ := hrel
                by_cases hjt : j < 8
                · have r3 := r2 j hjt
                  have hm := load_yes M5 t j htt hjt
                  clear r2
                  go_wp2_with fail
                  refine hm.mono ?_
                  rintro e w'' ⟨rfl, hw⟩
                  obtain rfl := hw.symm
                  clear hw hm
                  go_wp2
                  go_round
                  case rel => exact ⟨j + 1, by omega, by go_num⟩
                  case measure => simp [intOf]; omega
                · go_wp2
                  go_round
                  case rel => exact ⟨t + 1, by omega, by go_num⟩
                  case measure => simp [intOf]; omega
            · go_wp2
              go_roundw
              case rel => exact ⟨k + 1, _, _, by omega, by go_num, M5, F5, L5⟩
              case measure => simp [intOf]; omega
    · clear hL
      have hx : (k < len ∧ ¬ k < 60) ∨ ¬ k < len := by omega
      clear hlt'
      rcases hx with ⟨hx1, hx2⟩ | hx1
      all_goals
        go_wp2
        go_ret
        exact ⟨rfl, L⟩
end Go.Proofs.Ytenicbjkhcoplaa
