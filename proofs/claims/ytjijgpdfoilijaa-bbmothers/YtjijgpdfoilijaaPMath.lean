/- Plain mathematics of descriptors (layer 2): what a word says, the word that says it. Nothing of the program. -/
import Derived.Test.YtjijgpdfoilijaaWMath
namespace Go.Proofs.Ytjijgpdfoilijaa

/-- A descriptor. -/
structure Dsc where
  kind : Int
  frame : Int
  wr : Bool
  ex : Bool
  sn : Bool
  fo : Bool
  so : Int

theorem Dsc.ext' {a b : Dsc} (h1 : a.kind = b.kind) (h2 : a.frame = b.frame) (h3 : a.wr = b.wr) (h4 : a.ex = b.ex) (h5 : a.sn = b.sn) (h6 : a.fo = b.fo) (h7 : a.so = b.so) : a = b := by
  cases a; cases b; simp_all

def bn (b : Bool) : Nat := if b then 1 else 0
theorem bn_le (b : Bool) : bn b ≤ 1 := by cases b <;> decide
theorem bn_dec {n : Nat} (h : n ≤ 1) : bn (decide (n ≠ 0)) = n := by
  have : n = 0 ∨ n = 1 := by omega
  rcases this with rfl | rfl <;> decide
theorem bn_not_dec {n : Nat} (h : n ≤ 1) : bn (!decide (n = 0)) = n := by
  have : n = 0 ∨ n = 1 := by omega
  rcases this with rfl | rfl <;> decide
theorem dec_bn (b : Bool) : decide (bn b ≠ 0) = b := by cases b <;> decide
theorem dec_bn_not (b : Bool) : decide (bn (!b) = 0) = b := by cases b <;> decide

/-- A word's fields. -/
def wF (w : Nat) : Nat := w / 4096 % 68719476736
def w7 (w : Nat) : Nat := w / 128 % 2
def w10 (w : Nat) : Nat := w / 1024 % 2
def w52 (w : Nat) : Nat := w / 4503599627370496 % 2
def w54 (w : Nat) : Nat := w / 18014398509481984 % 2
def wS (w : Nat) : Nat := w / 36028797018963968 % 8

theorem wF_lt (w : Nat) : wF w < 68719476736 := Nat.mod_lt _ (by decide)
theorem w7_le (w : Nat) : w7 w ≤ 1 := by unfold w7; omega
theorem w10_le (w : Nat) : w10 w ≤ 1 := by unfold w10; omega
theorem w52_le (w : Nat) : w52 w ≤ 1 := by unfold w52; omega
theorem w54_le (w : Nat) : w54 w ≤ 1 := by unfold w54; omega
theorem wS_lt (w : Nat) : wS w < 8 := by unfold wS; omega

/-- The only kind that a word may be of. -/
def kindN (l : Int) (w : Nat) : Int :=
  if w = 0 then 0 else if w % 2 = 0 then 4 else if w / 2 % 2 = 0 then (if l = 2 then 2 else 5) else if l = 3 then 3 else 1

def rightsB (k : Int) : Bool := decide (k = 2 ∨ k = 3 ∨ k = 4)
def frameB (k : Int) (n : Nat) : Bool := decide ((k = 2 → n % 8 = 0) ∧ n < 512)

/-- The bits that are 1 in each word of a kind. -/
def mustN (k : Int) : Nat := if k = 1 then 3 else if k = 2 then 65 else if k = 3 then 67 else if k = 4 then 10 else 0
/-- Those that may be either. -/
def mayN (k : Int) : Nat := if k = 1 then 281474976706560 else if k = 2 then 270497452618937472 else if k = 3 then 275001052246307968 else if k = 4 then 270497452618936448 else 0

/-- A word without the bits that may be either. -/
def restN (k : Int) (w : Nat) : Nat :=
  if k = 1 then w - wF w * 4096
  else if k = 2 then w - (wF w * 4096 + w7 w * 128 + w10 w * 1024 + w54 w * 18014398509481984 + wS w * 36028797018963968)
  else if k = 3 then w - (wF w * 4096 + w7 w * 128 + w10 w * 1024 + w52 w * 4503599627370496 + w54 w * 18014398509481984 + wS w * 36028797018963968)
  else if k = 4 then w - (wF w * 4096 + w7 w * 128 + w54 w * 18014398509481984 + wS w * 36028797018963968)
  else w

theorem rest0 (w : Nat) : restN 0 w = w := by unfold restN; rw [if_neg (by decide), if_neg (by decide), if_neg (by decide), if_neg (by decide)]
theorem rest1 (w : Nat) : restN 1 w = w - wF w * 4096 := by unfold restN; rw [if_pos (by decide)]
theorem rest2 (w : Nat) : restN 2 w = w - (wF w * 4096 + w7 w * 128 + w10 w * 1024 + w54 w * 18014398509481984 + wS w * 36028797018963968) := by unfold restN; rw [if_neg (by decide), if_pos (by decide)]
theorem rest3 (w : Nat) : restN 3 w = w - (wF w * 4096 + w7 w * 128 + w10 w * 1024 + w52 w * 4503599627370496 + w54 w * 18014398509481984 + wS w * 36028797018963968) := by unfold restN; rw [if_neg (by decide), if_neg (by decide), if_pos (by decide)]
theorem rest4 (w : Nat) : restN 4 w = w - (wF w * 4096 + w7 w * 128 + w54 w * 18014398509481984 + wS w * 36028797018963968) := by unfold restN; rw [if_neg (by decide), if_neg (by decide), if_neg (by decide), if_pos (by decide)]

def badD : Dsc := ⟨5, 0, false, false, false, false, 0⟩
def nilD : Dsc := ⟨0, 0, false, false, false, false, 0⟩

def okN (l : Int) (w : Nat) : Bool := decide (kindN l w ≠ 5 ∧ restN (kindN l w) w = mustN (kindN l w)) && frameB (kindN l w) (wF w)
/-- What a word says, if it is one of its kind. -/
def tellD (l : Int) (w : Nat) : Dsc :=
  if rightsB (kindN l w) then ⟨kindN l w, wF w, decide (w7 w = 0), decide (w54 w = 0), decide (w10 w ≠ 0), decide (w52 w ≠ 0), wS w⟩ else ⟨kindN l w, wF w, false, false, false, false, 0⟩
def saysD (l : Int) (w : Nat) : Dsc := if okN l w then tellD l w else badD

/-- Can it be said? -/
def mayD (l : Int) (d : Dsc) : Bool :=
  decide (0 ≤ l ∧ l ≤ 3 ∧ 0 ≤ d.frame ∧ d.frame < 512 ∧ 0 ≤ d.so ∧ d.so ≤ 7) &&
  (if d.kind = 0 then decide (d.frame = 0) && !d.wr && !d.ex && !d.sn && !d.fo && decide (d.so = 0)
   else if d.kind = 1 then decide (l ≤ 2) && !d.wr && !d.ex && !d.sn && !d.fo && decide (d.so = 0)
   else if d.kind = 2 then decide (l = 2) && !d.fo && decide (d.frame % 8 = 0)
   else if d.kind = 3 then decide (l = 3)
   else if d.kind = 4 then !d.sn && !d.fo else false)

/-- What is beside the frame. -/
def sideN (d : Dsc) : Nat := d.so.toNat * 36028797018963968 + bn (!d.wr) * 128 + bn (!d.ex) * 18014398509481984 + bn d.sn * 1024 + bn d.fo * 4503599627370496
/-- The word that says it. -/
def wordD (d : Dsc) : Nat :=
  if d.kind = 0 then 0
  else if d.kind = 1 then d.frame.toNat * 4096 + 3
  else if d.kind = 2 then d.frame.toNat * 4096 + sideN d + 65
  else if d.kind = 3 then d.frame.toNat * 4096 + sideN d + 67
  else d.frame.toNat * 4096 + sideN d + 10

/-- A word by its digits. -/
def mk (a0 a1 a2 a6 a7 a8 a10 a11 a12 a48 a52 a53 a54 a55 a58 : Nat) : Nat :=
  a0 + 2 * (a1 + 2 * (a2 + 16 * (a6 + 2 * (a7 + 2 * (a8 + 4 * (a10 + 2 * (a11 + 2 * (a12 + 68719476736 * (a48 + 16 * (a52 + 2 * (a53 + 2 * (a54 + 2 * (a55 + 8 * a58)))))))))))))

theorem dg {a m r : Nat} (h : a < m) : (a + m * r) / m = r ∧ (a + m * r) % m = a := by
  have hm : 0 < m := by omega
  exact ⟨by rw [Nat.add_mul_div_left _ _ hm, Nat.div_eq_of_lt h, Nat.zero_add], by rw [Nat.add_mul_mod_self_left, Nat.mod_eq_of_lt h]⟩
theorem split2 (w m : Nat) (hm : 0 < m) : ∃ a r, w = a + m * r ∧ a < m := ⟨w % m, w / m, by have := Nat.mod_add_div w m; omega, Nat.mod_lt _ hm⟩

theorem mk_ex (w : Nat) : ∃ a0 a1 a2 a6 a7 a8 a10 a11 a12 a48 a52 a53 a54 a55 a58 : Nat, w = mk a0 a1 a2 a6 a7 a8 a10 a11 a12 a48 a52 a53 a54 a55 a58 ∧
    a0 < 2 ∧ a1 < 2 ∧ a2 < 16 ∧ a6 < 2 ∧ a7 < 2 ∧ a8 < 4 ∧ a10 < 2 ∧ a11 < 2 ∧ a12 < 68719476736 ∧ a48 < 16 ∧ a52 < 2 ∧ a53 < 2 ∧ a54 < 2 ∧ a55 < 8 := by
  obtain ⟨a0, r0, rfl, h0⟩ := split2 w 2 (by decide)
  obtain ⟨a1, r1, rfl, h1⟩ := split2 r0 2 (by decide)
  obtain ⟨a2, r2, rfl, h2⟩ := split2 r1 16 (by decide)
  obtain ⟨a6, r6, rfl, h6⟩ := split2 r2 2 (by decide)
  obtain ⟨a7, r7, rfl, h7⟩ := split2 r6 2 (by decide)
  obtain ⟨a8, r8, rfl, h8⟩ := split2 r7 4 (by decide)
  obtain ⟨a10, r10, rfl, h10⟩ := split2 r8 2 (by decide)
  obtain ⟨a11, r11, rfl, h11⟩ := split2 r10 2 (by decide)
  obtain ⟨a12, r12, rfl, h12⟩ := split2 r11 68719476736 (by decide)
  obtain ⟨a48, r48, rfl, h48⟩ := split2 r12 16 (by decide)
  obtain ⟨a52, r52, rfl, h52⟩ := split2 r48 2 (by decide)
  obtain ⟨a53, r53, rfl, h53⟩ := split2 r52 2 (by decide)
  obtain ⟨a54, r54, rfl, h54⟩ := split2 r53 2 (by decide)
  obtain ⟨a55, r55, rfl, h55⟩ := split2 r54 8 (by decide)
  exact ⟨a0, a1, a2, a6, a7, a8, a10, a11, a12, a48, a52, a53, a54, a55, r55, rfl, h0, h1, h2, h6, h7, h8, h10, h11, h12, h48, h52, h53, h54, h55⟩

theorem big52 : (4503599627370496 : Nat) = 4096 * 68719476736 * 16 := by simp only [Nat.reduceMul]
theorem big54 : (18014398509481984 : Nat) = 4096 * 68719476736 * 64 := by simp only [Nat.reduceMul]
theorem big55 : (36028797018963968 : Nat) = 4096 * 68719476736 * 128 := by simp only [Nat.reduceMul]
section
variable {a0 a1 a2 a6 a7 a8 a10 a11 a12 a48 a52 a53 a54 a55 a58 : Nat}
  (h0 : a0 < 2) (h1 : a1 < 2) (h2 : a2 < 16) (h6 : a6 < 2) (h7 : a7 < 2) (h8 : a8 < 4) (h10 : a10 < 2) (h11 : a11 < 2) (h12 : a12 < 68719476736) (h48 : a48 < 16) (h52 : a52 < 2) (h53 : a53 < 2) (h54 : a54 < 2) (h55 : a55 < 8)

/-- All fields of a word by its digits. -/
theorem mk_fields (h0 : a0 < 2) (h1 : a1 < 2) (h2 : a2 < 16) (h6 : a6 < 2) (h7 : a7 < 2) (h8 : a8 < 4) (h10 : a10 < 2) (h11 : a11 < 2) (h12 : a12 < 68719476736) (h48 : a48 < 16) (h52 : a52 < 2) (h53 : a53 < 2) (h54 : a54 < 2) (h55 : a55 < 8)
    {x : Nat} (hx : x = mk a0 a1 a2 a6 a7 a8 a10 a11 a12 a48 a52 a53 a54 a55 a58) :
    x % 2 = a0 ∧ x / 2 % 2 = a1 ∧ wF x = a12 ∧ w7 x = a7 ∧ w10 x = a10 ∧ w52 x = a52 ∧ w54 x = a54 ∧ wS x = a55 := by
  unfold wF w7 w10 w52 w54 wS
  unfold mk at hx
  obtain ⟨u, hu⟩ : ∃ u, u = a48 + 16 * (a52 + 2 * (a53 + 2 * (a54 + 2 * (a55 + 8 * a58)))) := ⟨_, rfl⟩
  obtain ⟨t, ht⟩ : ∃ t, t = a12 + 68719476736 * u := ⟨_, rfl⟩
  have hx2 : x = a0 + 2 * (a1 + 2 * (a2 + 16 * (a6 + 2 * (a7 + 2 * (a8 + 4 * (a10 + 2 * (a11 + 2 * t))))))) := by rw [ht, hu]; exact hx
  clear hx
  have d12 : x / 4096 = t := by omega
  have m7 : x / 128 % 2 = a7 := by omega
  have m10 : x / 1024 % 2 = a10 := by omega
  have m0 : x % 2 = a0 := by omega
  have m1 : x / 2 % 2 = a1 := by omega
  have f12 := dg h12 (r := u)
  rw [← ht] at f12
  have d52 : x / 4503599627370496 = u / 16 := by rw [big52, ← Nat.div_div_eq_div_mul, ← Nat.div_div_eq_div_mul, d12, f12.1]
  have d54 : x / 18014398509481984 = u / 64 := by rw [big54, ← Nat.div_div_eq_div_mul, ← Nat.div_div_eq_div_mul, d12, f12.1]
  have d55 : x / 36028797018963968 = u / 128 := by rw [big55, ← Nat.div_div_eq_div_mul, ← Nat.div_div_eq_div_mul, d12, f12.1]
  refine ⟨m0, m1, by rw [d12]; exact f12.2, m7, m10, ?_, ?_, ?_⟩
  · rw [d52]; omega
  · rw [d54]; omega
  · rw [d55]; omega
end

theorem word1 (d : Dsc) (h : d.kind = 1) : wordD d = d.frame.toNat * 4096 + 3 := by unfold wordD; rw [if_neg (by omega), if_pos h]
theorem word2 (d : Dsc) (h : d.kind = 2) : wordD d = d.frame.toNat * 4096 + sideN d + 65 := by unfold wordD; rw [if_neg (by omega), if_neg (by omega), if_pos h]
theorem word3 (d : Dsc) (h : d.kind = 3) : wordD d = d.frame.toNat * 4096 + sideN d + 67 := by unfold wordD; rw [if_neg (by omega), if_neg (by omega), if_neg (by omega), if_pos h]
theorem word4 (d : Dsc) (h : d.kind = 4) : wordD d = d.frame.toNat * 4096 + sideN d + 10 := by unfold wordD; rw [if_neg (by omega), if_neg (by omega), if_neg (by omega), if_neg (by omega)]

/-- All fields of a word that is told by its digits, linearly. -/
theorem lin_fields {x f s p q c o b0 b1 b2 b6 : Nat} (h0 : b0 < 2) (h1 : b1 < 2) (h2 : b2 < 16) (h6 : b6 < 2) (hf : f < 512) (hs : s < 8) (hp : p ≤ 1) (hq : q ≤ 1) (hc : c ≤ 1) (ho : o ≤ 1)
    (hx : x = f * 4096 + (s * 36028797018963968 + p * 128 + q * 18014398509481984 + c * 1024 + o * 4503599627370496) + (b0 + 2 * b1 + 4 * b2 + 64 * b6)) :
    x % 2 = b0 ∧ x / 2 % 2 = b1 ∧ wF x = f ∧ w7 x = p ∧ w10 x = c ∧ w52 x = o ∧ w54 x = q ∧ wS x = s := by
  obtain ⟨z, hz⟩ : ∃ z : Nat, z = 0 := ⟨_, rfl⟩
  obtain ⟨y, hy⟩ : ∃ y, y = mk b0 b1 b2 b6 p z c z f z o z q s z := ⟨_, rfl⟩
  have hxy : x = y := by have hy2 := hy; unfold mk at hy2; omega
  exact mk_fields h0 h1 h2 h6 (by omega) (by omega) (by omega) (by omega) (by omega) (by omega) (by omega) (by omega) (by omega) hs (hxy.trans hy)

theorem says_word0 (l : Int) : saysD l 0 = nilD := by
  simp [saysD, okN, kindN, restN, mustN, frameB, wF, tellD, rightsB, nilD]

theorem says_word1 (l : Int) (f : Nat) (l2 : l ≤ 2) (f1 : f < 512) : saysD l (wordD ⟨1, f, false, false, false, false, 0⟩) = ⟨1, f, false, false, false, false, 0⟩ := by
  obtain ⟨x, hx⟩ : ∃ x, x = wordD ⟨1, f, false, false, false, false, 0⟩ := ⟨_, rfl⟩
  rw [← hx]
  rw [word1 _ rfl] at hx
  simp only [Int.toNat_natCast] at hx
  obtain ⟨z, hz⟩ : ∃ z : Nat, z = 0 := ⟨_, rfl⟩
  obtain ⟨y, hy⟩ : ∃ y, y = f * 4096 + (z * 36028797018963968 + z * 128 + z * 18014398509481984 + z * 1024 + z * 4503599627370496) + (1 + 2 * 1 + 4 * 0 + 64 * 0) := ⟨_, rfl⟩
  have hxy : x = y := by omega
  obtain ⟨g0, g1, hF, h7, h10, h52, h54, hS⟩ := lin_fields (by omega) (by omega) (by omega) (by omega) f1 (by omega) (by omega) (by omega) (by omega) (by omega) (hxy.trans hy)
  clear hxy hy
  have hk : kindN l x = 1 := by
    unfold kindN; rw [if_neg (by omega), if_neg (by omega), if_neg (by omega), if_neg (by omega)]
  have hr : restN 1 x = 3 := by rw [rest1, hF]; omega
  have hok : okN l x = true := by
    simp only [okN, hk, hr, hF]; simp [mustN, frameB]; omega
  simp only [saysD, hok, tellD, hk, hF]
  simp [rightsB]

theorem says_word2 (f s : Nat) (a b c : Bool) (f1 : f < 512) (h8 : f % 8 = 0) (s1 : s < 8) : saysD 2 (wordD ⟨2, f, a, b, c, false, s⟩) = ⟨2, f, a, b, c, false, s⟩ := by
  obtain ⟨x, hx⟩ : ∃ x, x = wordD ⟨2, f, a, b, c, false, s⟩ := ⟨_, rfl⟩
  rw [← hx]
  rw [word2 _ rfl] at hx
  unfold sideN at hx
  simp only [Int.toNat_natCast] at hx
  have hz : bn false = 0 := rfl
  obtain ⟨g0, g1, hF, h7, h10, h52, h54, hS⟩ := lin_fields (x := x) (f := f) (s := s) (p := bn (!a)) (q := bn (!b)) (c := bn c) (o := bn false) (b0 := 1) (b1 := 0) (b2 := 0) (b6 := 1) (by omega) (by omega) (by omega) (by omega) f1 s1 (bn_le _) (bn_le _) (bn_le _) (bn_le _) hx
  have hk : kindN 2 x = 2 := by
    unfold kindN; rw [if_neg (by omega), if_neg (by omega), if_pos (by omega), if_pos rfl]
  have hr : restN 2 x = 65 := by
    rw [rest2, hF, h7, h54, h10, hS]
    refine Classical.byContradiction fun hne => ?_
    omega
  have hok : okN 2 x = true := by
    simp only [okN, hk, hr, hF]; simp [mustN, frameB]; omega
  simp only [saysD, hok, tellD, hk, hF, h7, h54, h10, h52, hS, dec_bn, dec_bn_not]
  simp [rightsB]

theorem says_word3 (f s : Nat) (a b c o : Bool) (f1 : f < 512) (s1 : s < 8) : saysD 3 (wordD ⟨3, f, a, b, c, o, s⟩) = ⟨3, f, a, b, c, o, s⟩ := by
  obtain ⟨x, hx⟩ : ∃ x, x = wordD ⟨3, f, a, b, c, o, s⟩ := ⟨_, rfl⟩
  rw [← hx]
  rw [word3 _ rfl] at hx
  unfold sideN at hx
  simp only [Int.toNat_natCast] at hx
  obtain ⟨g0, g1, hF, h7, h10, h52, h54, hS⟩ := lin_fields (x := x) (f := f) (s := s) (p := bn (!a)) (q := bn (!b)) (c := bn c) (o := bn o) (b0 := 1) (b1 := 1) (b2 := 0) (b6 := 1) (by omega) (by omega) (by omega) (by omega) f1 s1 (bn_le _) (bn_le _) (bn_le _) (bn_le _) hx
  have hk : kindN 3 x = 3 := by
    unfold kindN; rw [if_neg (by omega), if_neg (by omega), if_neg (by omega), if_pos rfl]
  have hr : restN 3 x = 67 := by
    rw [rest3, hF, h7, h54, h10, h52, hS]
    refine Classical.byContradiction fun hne => ?_
    omega
  have hok : okN 3 x = true := by
    simp only [okN, hk, hr, hF]; simp [mustN, frameB]; omega
  simp only [saysD, hok, tellD, hk, hF, h7, h54, h10, h52, hS, dec_bn, dec_bn_not]
  simp [rightsB]

theorem says_word4 (l : Int) (f s : Nat) (a b : Bool) (f1 : f < 512) (s1 : s < 8) : saysD l (wordD ⟨4, f, a, b, false, false, s⟩) = ⟨4, f, a, b, false, false, s⟩ := by
  obtain ⟨x, hx⟩ : ∃ x, x = wordD ⟨4, f, a, b, false, false, s⟩ := ⟨_, rfl⟩
  rw [← hx]
  rw [word4 _ rfl] at hx
  unfold sideN at hx
  simp only [Int.toNat_natCast] at hx
  have hz : bn false = 0 := rfl
  obtain ⟨g0, g1, hF, h7, h10, h52, h54, hS⟩ := lin_fields (x := x) (f := f) (s := s) (p := bn (!a)) (q := bn (!b)) (c := bn false) (o := bn false) (b0 := 0) (b1 := 1) (b2 := 2) (b6 := 0) (by omega) (by omega) (by omega) (by omega) f1 s1 (bn_le _) (bn_le _) (bn_le _) (bn_le _) hx
  have hk : kindN l x = 4 := by
    unfold kindN; rw [if_neg (by omega), if_pos (by omega)]
  have hr : restN 4 x = 10 := by
    rw [rest4, hF, h7, h54, hS]
    refine Classical.byContradiction fun hne => ?_
    omega
  have hok : okN l x = true := by
    simp only [okN, hk, hr, hF]; simp [mustN, frameB]; omega
  simp only [saysD, hok, tellD, hk, hF, h7, h54, h10, h52, hS, dec_bn, dec_bn_not]
  simp [rightsB]

theorem says_word (l : Int) (d : Dsc) (h : mayD l d = true) : saysD l (wordD d) = d := by
  obtain ⟨k, f, a, b, c, o, s⟩ := d
  simp only [mayD, Bool.and_eq_true, decide_eq_true_eq] at h
  obtain ⟨⟨l0, l3, f0, f1, s0, s1⟩, h⟩ := h
  obtain ⟨f, rfl⟩ := Int.eq_ofNat_of_zero_le f0
  obtain ⟨s, rfl⟩ := Int.eq_ofNat_of_zero_le s0
  by_cases k0 : k = 0
  · subst k0
    simp at h
    obtain ⟨⟨⟨⟨⟨rfl, rfl⟩, rfl⟩, rfl⟩, rfl⟩, rfl⟩ := h
    exact says_word0 l
  by_cases k1 : k = 1
  · subst k1
    simp at h
    obtain ⟨⟨⟨⟨⟨l2, rfl⟩, rfl⟩, rfl⟩, rfl⟩, rfl⟩ := h
    exact says_word1 l f l2 (by omega)
  by_cases k2 : k = 2
  · subst k2
    simp at h
    obtain ⟨⟨rfl, rfl⟩, h8⟩ := h
    exact says_word2 f s a b c (by omega) (by omega) (by omega)
  by_cases k3 : k = 3
  · subst k3
    simp at h
    subst h
    exact says_word3 f s a b c o (by omega) (by omega)
  by_cases k4 : k = 4
  · subst k4
    simp at h
    obtain ⟨rfl, rfl⟩ := h
    exact says_word4 l f s a b (by omega) (by omega)
  simp [k0, k1, k2, k3, k4] at h

theorem kindN_cases (l : Int) (w : Nat) : (kindN l w = 0 ∧ w = 0) ∨ (kindN l w = 1 ∧ w % 2 = 1 ∧ w / 2 % 2 = 1 ∧ l ≠ 3) ∨ (kindN l w = 2 ∧ w % 2 = 1 ∧ w / 2 % 2 = 0 ∧ l = 2) ∨ (kindN l w = 3 ∧ w % 2 = 1 ∧ w / 2 % 2 = 1 ∧ l = 3) ∨ (kindN l w = 4 ∧ w % 2 = 0 ∧ w ≠ 0) ∨ (kindN l w = 5 ∧ w % 2 = 1 ∧ w / 2 % 2 = 0 ∧ l ≠ 2) := by
  unfold kindN
  repeat' split
  all_goals simp
  all_goals omega

theorem okN_true {l : Int} {w : Nat} (h : okN l w = true) : kindN l w ≠ 5 ∧ restN (kindN l w) w = mustN (kindN l w) ∧ (kindN l w = 2 → wF w % 8 = 0) ∧ wF w < 512 := by
  simp only [okN, frameB, Bool.and_eq_true, decide_eq_true_eq] at h
  exact ⟨h.1.1, h.1.2, h.2.1, h.2.2⟩

theorem tell_kind (l : Int) (w : Nat) : (tellD l w).kind = kindN l w := by unfold tellD; split <;> rfl
theorem tell_frame (l : Int) (w : Nat) : (tellD l w).frame = wF w := by unfold tellD; split <;> rfl

theorem says_may {l : Int} {w : Nat} (h0 : 0 ≤ l) (h3 : l ≤ 3) (h : okN l w = true) : mayD l (tellD l w) = true ∧ wordD (tellD l w) = w := by
  obtain ⟨o1, o2, o3, o4⟩ := okN_true h
  have e7 := w7_le w
  have e10 := w10_le w
  have e52 := w52_le w
  have e54 := w54_le w
  have eS := wS_lt w
  obtain ⟨a0, a1, a2, a6, a7, a8, a10, a11, a12, a48, a52, a53, a54, a55, a58, hw, b0, b1, b2, b6, b7, b8, b10, b11, b12, b48, b52, b53, b54, b55⟩ := mk_ex w
  obtain ⟨g0, g1, hF, h7, h10, h52, h54, hS⟩ := mk_fields b0 b1 b2 b6 b7 b8 b10 b11 b12 b48 b52 b53 b54 b55 hw
  unfold mk at hw
  rcases kindN_cases l w with ⟨hk, c⟩ | ⟨hk, c1, c2, c3⟩ | ⟨hk, c1, c2, c3⟩ | ⟨hk, c1, c2, c3⟩ | ⟨hk, c1, c2⟩ | ⟨hk, _⟩
  · clear hw
    subst c
    simp [tellD, hk, rightsB, mayD, wordD, wF]
    omega
  · rw [hk] at o2 o3
    simp [restN, mustN, hF] at o2
    simp [tellD, hk, rightsB, mayD, wordD, hF]
    omega
  · rw [hk] at o2 o3
    have hr : restN 2 w = 65 := o2
    rw [rest2, hF, h7, h10, h54, hS] at hr
    have hz : a52 = 0 := by omega
    simp only [tellD, hk]
    have ee : (rightsB 2 = true) := by decide
    rw [if_pos ee]
    subst c3
    refine ⟨?_, ?_⟩
    · simp [mayD, h52, hz]; omega
    · simp only [wordD, sideN]
      rw [bn_not_dec e7, bn_not_dec e54, bn_dec e10, bn_dec e52, hF, h7, h10, h52, h54, hS]
      rw [Int.toNat_natCast, Int.toNat_natCast]
      refine Classical.byContradiction fun hne => ?_
      revert hne
      simp only [reduceIte, Int.reduceEq]
      omega
  · rw [hk] at o2 o3
    have hr : restN 3 w = 67 := o2
    rw [rest3, hF, h7, h10, h52, h54, hS] at hr
    simp only [tellD, hk]
    have ee : (rightsB 3 = true) := by decide
    rw [if_pos ee]
    subst c3
    refine ⟨?_, ?_⟩
    · simp [mayD]; omega
    · simp only [wordD, sideN]
      rw [bn_not_dec e7, bn_not_dec e54, bn_dec e10, bn_dec e52, hF, h7, h10, h52, h54, hS]
      rw [Int.toNat_natCast, Int.toNat_natCast]
      refine Classical.byContradiction fun hne => ?_
      revert hne
      simp only [reduceIte, Int.reduceEq]
      omega
  · rw [hk] at o2 o3
    have hr : restN 4 w = 10 := o2
    rw [rest4, hF, h7, h54, hS] at hr
    have hz : a52 = 0 := by omega
    have hz2 : a10 = 0 := by omega
    simp only [tellD, hk]
    have ee : (rightsB 4 = true) := by decide
    rw [if_pos ee]
    refine ⟨?_, ?_⟩
    · simp [mayD, h52, h10, hz, hz2]; omega
    · simp only [wordD, sideN]
      rw [bn_not_dec e7, bn_not_dec e54, bn_dec e10, bn_dec e52, hF, h7, h10, h52, h54, hS]
      rw [Int.toNat_natCast, Int.toNat_natCast]
      refine Classical.byContradiction fun hne => ?_
      revert hne
      simp only [reduceIte, Int.reduceEq]
      omega
  · exact absurd hk o1
end Go.Proofs.Ytjijgpdfoilijaa
