import PyProof.Rows.All
import Wide.All
import OpenK.AllK
import Wide.FinOn
import KE.DatumOrd
import HandS.ForMost
import HandS.Wide
import HandS.WideBits
import HandS.IsInst
import HandS.Evl
import HandS.EndBits
import HandS.Walk
import KE.KEqSeq
import KE.Datum
import HandS.Style
import HandS.Iter
import KE.KNest
import PyProof.GenCompD
import HandS.AnyAll
import HandS.EndTab
import HandS.JoinGen
import HandS.EndOwn
import PySem.Challenge.RW_manytimes_k04_whole_rows
set_option autoImplicit false
namespace KM
/-! Numbers: the worth of a pair. -/
theorem fl {n d w : Int} (hd : 0 < d) (h1 : w * d ≤ n) (h2 : n < (w + 1) * d) : n / d = w := by
  have a := (Int.le_ediv_iff_mul_le hd).mpr h1
  have b := (Int.ediv_lt_iff_lt_mul hd).mpr h2
  omega
theorem nosq : ∀ (n : Nat) (L r q : Int), r.toNat ≤ n → 0 < r → 0 < L → 1 ≤ q → L * L = r * (q * L + r) → False
  | 0, L, r, q, hn, hr, hL, hq, h => by omega
  | n + 1, L, r, q, hn, hr, hL, hq, h => by
    have hqr : 0 < q * r := Int.mul_pos (by omega) hr
    have e1 : L * (L - q * r) = r * r := by grind
    have hrr : 0 < r * r := Int.mul_pos hr hr
    have hs : 0 < L - q * r := by
      rcases Int.lt_or_le 0 (L - q * r) with c | c
      · exact c
      · have := Int.mul_le_mul_of_nonneg_left c (Int.le_of_lt hL)
        grind
    have hge : r ≤ q * r := by
      have := Int.mul_le_mul_of_nonneg_right hq (Int.le_of_lt hr)
      omega
    have hlt : L - q * r < r := by
      rcases Int.lt_or_le (L - q * r) r with c | c
      · exact c
      · have := Int.mul_lt_mul_of_pos_left (show r < L by omega) (show (0:Int) < L - q * r by omega)
        have := Int.mul_le_mul_of_nonneg_right c (Int.le_of_lt hr)
        grind
    exact nosq n r (L - q * r) q (by omega) hs hr hq (by grind)
def worthLH (L H : Int) : Int := if (H % L) * H < L * L then H / L - 1 else H / L
def mnF (a b : Int) : Int := if a ≤ b then a else b
def mxF (a b : Int) : Int := if a ≤ b then b else a
def mostF (a b : Int) : Int := (mxF a b - 1) / mnF a b
def worthF (a b : Int) : Int := worthLH (mnF a b) (mxF a b)
def behA (a b t : Int) : Int := if b < a then a - t * b else a
def behB (a b t : Int) : Int := if b < a then b else b - t * a
theorem dm (H L : Int) : H = L * (H / L) + H % L := (Int.mul_ediv_add_emod H L).symm
theorem form {L H : Int} (hL : 0 < L) (hLH : L ≤ H) : (H * H - L * L) / (H * L) = worthLH L H := by
  have hH : 0 < H := by omega
  have hHL : 0 < H * L := Int.mul_pos hH hL
  have e := dm H L
  have r0 := Int.emod_nonneg H (show L ≠ 0 by omega)
  have r1 := Int.emod_lt_of_pos H hL
  unfold worthLH
  generalize H / L = q at *
  generalize H % L = r at *
  have hll : L * L ≤ H * L := Int.mul_le_mul_of_nonneg_right hLH (by omega)
  have hrh : 0 ≤ r * H := Int.mul_nonneg r0 (by omega)
  have hrl : r * H < L * H := Int.mul_lt_mul_of_pos_right r1 hH
  have hL2 : 0 < L * L := Int.mul_pos hL hL
  have ec : L * H = H * L := Int.mul_comm _ _
  have eq2 : H * H - L * L = q * (H * L) + (r * H - L * L) := by grind
  have e3 : (q - 1) * (H * L) = q * (H * L) - H * L := by grind
  have e4 : (q - 1 + 1) * (H * L) = q * (H * L) := by grind
  have e5 : (q + 1) * (H * L) = q * (H * L) + H * L := by grind
  split
  · exact fl hHL (by omega) (by omega)
  · exact fl hHL (by omega) (by omega)
theorem worth0 {L H : Int} (hL : 0 < L) (hLH : L ≤ H) : 0 ≤ worthLH L H := by
  rw [← form hL hLH]
  refine Int.ediv_nonneg ?_ (Int.le_of_lt (Int.mul_pos (by omega) hL))
  have := Int.mul_le_mul hLH hLH (by omega) (by omega)
  omega
theorem ne1 {L H t : Int} (hL : 0 < L) (ht : 1 ≤ t) (_ : L ≤ H - t * L) : worthLH L (H - t * L) < worthLH L H := by
  have e1 : (H - t * L) % L = H % L := by
    rw [Int.sub_emod, Int.mul_emod_left]; simp
  have e2 : (H - t * L) / L = H / L - t := by
    rw [Int.sub_mul_ediv_right _ _ (show L ≠ 0 by omega)]
  have htl : 0 < t * L := Int.mul_pos (by omega) hL
  have r0 := Int.emod_nonneg H (show L ≠ 0 by omega)
  have hm : H % L * (H - t * L) ≤ H % L * H := Int.mul_le_mul_of_nonneg_left (by omega) r0
  unfold worthLH
  rw [e1, e2]
  split <;> split <;> omega
theorem ne2 {L H : Int} (hL : 0 < L) (hLH : L ≤ H) (h0 : 0 < H % L) : worthLH (H % L) L ≠ worthLH L H := by
  have r1 := Int.emod_lt_of_pos H hL
  have e := dm H L
  have q1 : 1 ≤ H / L := (Int.le_ediv_iff_mul_le hL).mpr (by omega)
  rw [← form h0 (by omega)]
  have hrl : 0 < L * (H % L) := Int.mul_pos hL h0
  show (L * L - H % L * (H % L)) / (L * (H % L)) ≠ if (H % L) * H < L * L then H / L - 1 else H / L
  generalize H / L = q at *
  generalize H % L = r at *
  have e2 : r * H = q * (L * r) + r * r := by grind
  split
  · intro c
    have := (Int.ediv_lt_iff_lt_mul (a := L * L - r * r) (b := q) hrl).mp (by omega)
    omega
  · intro c
    have := (Int.le_ediv_iff_mul_le (a := q) (b := L * L - r * r) hrl).mp (by omega)
    have e3 : r * (q * L + r) = q * (L * r) + r * r := by grind
    exact nosq r.toNat L r q (Nat.le_refl _) h0 hL q1 (by omega)
theorem mn_pos {a b : Int} (ha : 0 < a) (hb : 0 < b) : 0 < mnF a b := by unfold mnF; split <;> assumption
theorem mn_mx (a b : Int) : mnF a b ≤ mxF a b := by unfold mnF mxF; split <;> omega
theorem mn_comm (a b : Int) : mnF b a = mnF a b := by unfold mnF; split <;> split <;> omega
theorem mx_comm (a b : Int) : mxF b a = mxF a b := by unfold mxF; split <;> split <;> omega
theorem most_comm (a b : Int) : mostF b a = mostF a b := by unfold mostF; rw [mn_comm, mx_comm]
theorem worth_comm (a b : Int) : worthF b a = worthF a b := by unfold worthF; rw [mn_comm, mx_comm]
theorem worthF0 {a b : Int} (ha : 0 < a) (hb : 0 < b) : 0 ≤ worthF a b := worth0 (mn_pos ha hb) (mn_mx a b)
theorem most0 {a b : Int} (ha : 0 < a) (hb : 0 < b) : 0 ≤ mostF a b := by
  have h1 := mn_pos ha hb
  have h2 := mn_mx a b
  exact Int.ediv_nonneg (by omega) (Int.le_of_lt h1)
/-- t times the lesser is below the greater -/
theorem most_lt {a b t : Int} (ha : 0 < a) (hb : 0 < b) (h : t ≤ mostF a b) : t * mnF a b < mxF a b := by
  have := (Int.le_ediv_iff_mul_le (mn_pos ha hb)).mp h
  omega
theorem behA_pos {a b t : Int} (ha : 0 < a) (hb : 0 < b) (h : t ≤ mostF a b) : 0 < behA a b t := by
  have h1 := most_lt ha hb h
  unfold mnF mxF at h1
  unfold behA
  split
  · rw [if_neg (by omega), if_neg (by omega)] at h1
    omega
  · exact ha
theorem behB_pos {a b t : Int} (ha : 0 < a) (hb : 0 < b) (h : t ≤ mostF a b) : 0 < behB a b t := by
  have h1 := most_lt ha hb h
  unfold mnF mxF at h1
  unfold behB
  split
  · exact hb
  · rw [if_pos (by omega), if_pos (by omega)] at h1
    omega
theorem worth_lohi {x L : Int} (c : L ≤ x) : worthLH (mnF x L) (mxF x L) = worthLH L x := by
  unfold mnF mxF
  split
  · have : x = L := by omega
    subst this; rfl
  · rfl
theorem neLH {L H t : Int} (hL : 0 < L) (hLH : L ≤ H) (ht : 1 ≤ t) (h : t * L < H) : worthF (H - t * L) L ≠ worthLH L H := by
  rcases Int.lt_or_le (H - t * L) L with c | c
  · have er : H % L = H - t * L := by
      have e1 : (H - t * L) % L = H % L := by rw [Int.sub_emod, Int.mul_emod_left]; simp
      rw [← e1]
      exact Int.emod_eq_of_lt (by omega) c
    have e : worthF (H - t * L) L = worthLH (H % L) L := by
      unfold worthF mnF mxF
      rw [if_pos (by omega), if_pos (by omega), er]
    rw [e]
    exact ne2 hL hLH (by omega)
  · have e : worthF (H - t * L) L = worthLH L (H - t * L) := by
      unfold worthF
      rw [worth_lohi c]
    rw [e]
    exact Int.ne_of_lt (ne1 hL ht c)
/-- no taking leaves the worth as it is -/
theorem beh_ne {a b t : Int} (ha : 0 < a) (hb : 0 < b) (ht : 1 ≤ t) (h : t ≤ mostF a b) : worthF (behA a b t) (behB a b t) ≠ worthF a b := by
  have h1 := most_lt ha hb h
  unfold mnF mxF at h1
  rcases Int.lt_or_le b a with c | c
  · rw [if_neg (by omega), if_neg (by omega)] at h1
    unfold behA behB
    rw [if_pos c, if_pos c, ← worth_comm a b]
    have e : worthF b a = worthLH b a := by
      unfold worthF mnF mxF
      rw [if_pos (by omega), if_pos (by omega)]
    rw [e]
    exact neLH hb (by omega) ht h1
  · rw [if_pos (by omega), if_pos (by omega)] at h1
    unfold behA behB
    rw [if_neg (by omega), if_neg (by omega), worth_comm (b - t * a) a]
    have e : worthF a b = worthLH a b := by
      unfold worthF mnF mxF
      rw [if_pos c, if_pos c]
    rw [e]
    exact neLH ha c ht h1
/-- any lesser worth stands behind a taking -/
theorem hitLH {L H w : Int} (hL : 0 < L) (hLH : L ≤ H) (h0 : 0 ≤ w) (hw : w < worthLH L H) : ∃ t, 1 ≤ t ∧ t * L < H ∧ worthF (H - t * L) L = w := by
  have e := dm H L
  have r0 := Int.emod_nonneg H (show L ≠ 0 by omega)
  have r1 := Int.emod_lt_of_pos H hL
  have q1 : 1 ≤ H / L := (Int.le_ediv_iff_mul_le hL).mpr (by omega)
  -- a pair with k times the lesser and the rest
  have at_k : ∀ k : Int, 1 ≤ k → k < H / L → worthF (H - (H / L - k) * L) L = if (H % L) * (k * L + H % L) < L * L then k - 1 else k := by
    intro k k1 k2
    have ex : H - (H / L - k) * L = H % L + L * k := by
      have : (H / L - k) * L = L * (H / L) - L * k := by grind
      omega
    have hk : L ≤ L * k := by
      have := Int.mul_le_mul_of_nonneg_left k1 (Int.le_of_lt hL)
      omega
    rw [ex]
    have c : L ≤ H % L + L * k := by omega
    unfold worthF
    rw [worth_lohi c]
    unfold worthLH
    have em : (H % L + L * k) % L = H % L := by
      rw [Int.add_mul_emod_self_left]
      exact Int.emod_eq_of_lt r0 r1
    have ed : (H % L + L * k) / L = k := by
      rw [Int.add_mul_ediv_left _ _ (show L ≠ 0 by omega), Int.ediv_eq_zero_of_lt r0 r1]
      omega
    have ec : H % L + L * k = k * L + H % L := by
      have : L * k = k * L := Int.mul_comm _ _
      omega
    rw [em, ed, ec]
  have tk : ∀ k : Int, 1 ≤ k → k < H / L → 1 ≤ H / L - k ∧ (H / L - k) * L < H := by
    intro k k1 k2
    refine ⟨by omega, ?_⟩
    have h1 : (H / L - k) * L = L * (H / L) - L * k := by grind
    have hk : L ≤ L * k := by
      have := Int.mul_le_mul_of_nonneg_left k1 (Int.le_of_lt hL)
      omega
    omega
  unfold worthLH at hw
  by_cases cA : (H % L) * ((w + 1) * L + H % L) < L * L
  · -- one more than w times the lesser
    have hk : w + 1 < H / L := by
      rcases Int.lt_or_le (w + 1) (H / L) with z | z
      · exact z
      · exfalso
        have z2 : H / L = w + 1 := by
          by_cases z3 : H % L * H < L * L
          · rw [if_pos z3] at hw; omega
          · rw [if_neg z3] at hw; omega
        have z4 : (w + 1) * L + H % L = H := by
          rw [← z2]
          have : H / L * L = L * (H / L) := Int.mul_comm _ _
          omega
        rw [z4] at cA
        rw [if_pos cA] at hw
        omega
    have a := at_k (w + 1) (by omega) hk
    have b := tk (w + 1) (by omega) hk
    rw [if_pos cA] at a
    exact ⟨_, b.1, b.2, by omega⟩
  · have hwq : w < H / L := by
      by_cases z3 : H % L * H < L * L
      · rw [if_pos z3] at hw; omega
      · rw [if_neg z3] at hw; omega
    by_cases cB : (H % L) * (w * L + H % L) < L * L
    · -- the rest itself
      have hr : 0 < H % L := by
        rcases Int.lt_or_le 0 (H % L) with z | z
        · exact z
        · exfalso
          have z2 : H % L = 0 := by omega
          rw [z2] at cA
          have : 0 < L * L := Int.mul_pos hL hL
          omega
      have hs : H / L * L = L * (H / L) := Int.mul_comm _ _
      refine ⟨H / L, q1, by omega, ?_⟩
      have ex : H - H / L * L = H % L := by omega
      rw [ex]
      have ew : worthF (H % L) L = worthLH (H % L) L := by
        unfold worthF mnF mxF
        rw [if_pos (by omega), if_pos (by omega)]
      rw [ew, ← form hr (by omega)]
      have hrl : 0 < L * (H % L) := Int.mul_pos hL hr
      generalize H % L = r at *
      have e1 : r * ((w + 1) * L + r) = (w + 1) * (L * r) + r * r := by grind
      have e2 : r * (w * L + r) = w * (L * r) + r * r := by grind
      have ne : L * L ≠ r * ((w + 1) * L + r) := fun c => nosq r.toNat L r (w + 1) (Nat.le_refl _) hr hL (by omega) c
      exact fl hrl (by omega) (by omega)
    · -- w times the lesser
      have hk : 1 ≤ w := by
        rcases Int.lt_or_le 0 w with z | z
        · exact z
        · exfalso
          have z2 : w = 0 := by omega
          subst z2
          have : H % L * (0 * L + H % L) < L * L := by
            have e0 : H % L * (0 * L + H % L) = H % L * (H % L) := by grind
            rw [e0]
            rcases Int.lt_or_le 0 (H % L) with y | y
            · have h1 := Int.mul_lt_mul_of_pos_right r1 y
              have h2 := Int.mul_lt_mul_of_pos_left r1 hL
              omega
            · have y2 : H % L = 0 := by omega
              rw [y2]
              have : 0 < L * L := Int.mul_pos hL hL
              omega
          exact cB this
      have a := at_k w hk hwq
      have b := tk w hk hwq
      rw [if_neg cB] at a
      exact ⟨_, b.1, b.2, a⟩
theorem hit {a b w : Int} (ha : 0 < a) (hb : 0 < b) (h0 : 0 ≤ w) (hw : w < worthF a b) : ∃ t, 1 ≤ t ∧ t ≤ mostF a b ∧ worthF (behA a b t) (behB a b t) = w := by
  obtain ⟨t, t1, t2, t3⟩ := hitLH (mn_pos ha hb) (mn_mx a b) h0 hw
  refine ⟨t, t1, (Int.le_ediv_iff_mul_le (mn_pos ha hb)).mpr (by omega), ?_⟩
  unfold mnF mxF at t3
  unfold behA behB
  rcases Int.lt_or_le b a with c | c
  · rw [if_neg (by omega), if_neg (by omega)] at t3
    rw [if_pos c, if_pos c]
    exact t3
  · rw [if_pos (by omega), if_pos (by omega)] at t3
    rw [if_neg (by omega), if_neg (by omega), worth_comm (b - t * a) a]
    exact t3
end KM

set_option autoImplicit false
set_option linter.unusedVariables false
namespace KR
open KM
/-! Rows of quotients, what goes into both, the pair back; the fewest and the most takings. -/
def row : Nat → Int → Int → List Int
  | 0, _, _ => []
  | n + 1, h, l => if l ≤ 0 then [] else h / l :: row n l (h % l)
def com : Nat → Int → Int → Int
  | 0, h, _ => h
  | n + 1, h, l => if l ≤ 0 then h else com n l (h % l)
theorem row_fuel : ∀ (n m : Nat) (h l : Int), l.toNat < n → l.toNat < m → row n h l = row m h l
  | 0, _, _, _, hn, _ => by omega
  | _ + 1, 0, _, _, _, hm => by omega
  | n + 1, m + 1, h, l, hn, hm => by
    unfold row
    by_cases c : l ≤ 0
    · rw [if_pos c, if_pos c]
    · have r0 := Int.emod_nonneg h (show l ≠ 0 by omega)
      have r1 := Int.emod_lt_of_pos h (show 0 < l by omega)
      rw [if_neg c, if_neg c, row_fuel n m l (h % l) (by omega) (by omega)]
theorem com_fuel : ∀ (n m : Nat) (h l : Int), l.toNat < n → l.toNat < m → com n h l = com m h l
  | 0, _, _, _, hn, _ => by omega
  | _ + 1, 0, _, _, _, hm => by omega
  | n + 1, m + 1, h, l, hn, hm => by
    unfold com
    by_cases c : l ≤ 0
    · rw [if_pos c, if_pos c]
    · have r0 := Int.emod_nonneg h (show l ≠ 0 by omega)
      have r1 := Int.emod_lt_of_pos h (show 0 < l by omega)
      rw [if_neg c, if_neg c, com_fuel n m l (h % l) (by omega) (by omega)]
/-- the row of a high and a low number, what is left at last -/
def rowP (h l : Int) : List Int := row (l.toNat + 1) h l
def comP (h l : Int) : Int := com (l.toNat + 1) h l
theorem rowP_zero (h : Int) : rowP h 0 = [] := rfl
theorem comP_zero (h : Int) : comP h 0 = h := rfl
theorem rowP_pos {h l : Int} (hl : 0 < l) : rowP h l = h / l :: rowP l (h % l) := by
  have r0 := Int.emod_nonneg h (show l ≠ 0 by omega)
  have r1 := Int.emod_lt_of_pos h hl
  show (if l ≤ 0 then [] else h / l :: row l.toNat l (h % l)) = _
  rw [if_neg (by omega)]
  exact congrArg _ (row_fuel _ _ _ _ (by omega) (by omega))
theorem comP_pos {h l : Int} (hl : 0 < l) : comP h l = comP l (h % l) := by
  have r0 := Int.emod_nonneg h (show l ≠ 0 by omega)
  have r1 := Int.emod_lt_of_pos h hl
  show (if l ≤ 0 then h else com l.toNat l (h % l)) = _
  rw [if_neg (by omega)]
  exact com_fuel _ _ _ _ (by omega) (by omega)
/-- an induction down a row -/
theorem down {M : Int → Int → Prop} (h0 : ∀ h, 0 < h → M h 0) (hs : ∀ h l, 0 < l → 0 < h → M l (h % l) → M h l) : ∀ (n : Nat) (h l : Int), l.toNat < n → 0 < h → 0 ≤ l → M h l
  | 0, _, _, hn, _, _ => by omega
  | n + 1, h, l, hn, hh, hl => by
    by_cases c : l = 0
    · subst c; exact h0 h hh
    · have r0 := Int.emod_nonneg h c
      have r1 := Int.emod_lt_of_pos h (show 0 < l by omega)
      exact hs h l (by omega) hh (down h0 hs n l (h % l) (by omega) (by omega) r0)
theorem down1 {M : Int → Int → Prop} (h0 : ∀ h, 0 < h → M h 0) (hs : ∀ h l, 0 < l → 0 < h → M l (h % l) → M h l) {h l : Int} (hh : 0 < h) (hl : 0 ≤ l) : M h l := down h0 hs (l.toNat + 1) h l (by omega) hh hl
theorem comP_posit {h l : Int} (hh : 0 < h) (hl : 0 ≤ l) : 0 < comP h l := by
  refine down1 (M := fun h l => 0 < comP h l) (fun h hh => hh) (fun h l hl hh ih => ?_) hh hl
  rw [comP_pos hl]
  exact ih
/-- the pair of a row, from its end on -/
def back (rw : List Int) (c : Int) : Int × Int := rw.foldr (fun q p => (p.1 * q + p.2, p.1)) (c, 0)
theorem back_cons (q : Int) (r : List Int) (c : Int) : back (q :: r) c = ((back r c).1 * q + (back r c).2, (back r c).1) := rfl
theorem back_row {h l : Int} (hh : 0 < h) (hl : 0 ≤ l) : back (rowP h l) (comP h l) = (h, l) := by
  refine down1 (M := fun h l => back (rowP h l) (comP h l) = (h, l)) (fun h hh => rfl) (fun h l hl hh ih => ?_) hh hl
  rw [rowP_pos hl, comP_pos hl, back_cons, ih]
  exact Prod.ext (by show l * (h / l) + h % l = h; exact Int.mul_ediv_add_emod h l) rfl
/-- a row as it may be asked with: above 0 all, the last more than 1 if it isn't alone -/
def GoodRow : List Int → Prop
  | [] => False
  | [q] => 1 ≤ q
  | [p, q] => 1 ≤ p ∧ 2 ≤ q
  | p :: q :: r :: s => 1 ≤ p ∧ GoodRow (q :: r :: s)
theorem back_pos {c : Int} (hc : 0 < c) : ∀ {r : List Int}, GoodRow r → 0 < (back r c).2 ∧ (back r c).2 ≤ (back r c).1 ∧ (r.length ≠ 1 → (back r c).2 < (back r c).1)
  | [q], h => by
    have hq : 1 ≤ q := h
    show 0 < c ∧ c ≤ c * q + 0 ∧ _
    have := Int.mul_le_mul_of_nonneg_left hq (Int.le_of_lt hc)
    exact ⟨hc, by omega, fun z => absurd rfl z⟩
  | [p, q], h => by
    obtain ⟨hp, hq⟩ := (show 1 ≤ p ∧ 2 ≤ q from h)
    show 0 < c * q + 0 ∧ c * q + 0 ≤ (c * q + 0) * p + c ∧ (_ → c * q + 0 < (c * q + 0) * p + c)
    have h1 : 0 < c * q := Int.mul_pos hc (by omega)
    have h2 := Int.mul_le_mul_of_nonneg_left hp (Int.le_of_lt h1)
    have e : (c * q + 0) * p = c * q * p := by grind
    exact ⟨by omega, by omega, fun _ => by omega⟩
  | p :: q :: r :: s, h => by
    obtain ⟨hp, hg⟩ := (show 1 ≤ p ∧ GoodRow (q :: r :: s) from h)
    obtain ⟨i1, i2, i3⟩ := back_pos hc hg
    rw [back_cons]
    have h2 := Int.mul_le_mul_of_nonneg_left hp (show 0 ≤ (back (q :: r :: s) c).1 by omega)
    exact ⟨by show 0 < (back (q :: r :: s) c).1; omega, by show (back (q :: r :: s) c).1 ≤ (back (q :: r :: s) c).1 * p + (back (q :: r :: s) c).2; omega, fun _ => by show (back (q :: r :: s) c).1 < (back (q :: r :: s) c).1 * p + (back (q :: r :: s) c).2; omega⟩
theorem step_back {a b p : Int} (ha : 0 < a) (hb : 0 ≤ b) (hba : b < a) : (a * p + b) / a = p ∧ (a * p + b) % a = b := by
  refine ⟨?_, ?_⟩
  · rw [Int.add_comm, Int.add_mul_ediv_left _ _ (show a ≠ 0 by omega), Int.ediv_eq_zero_of_lt hb hba]
    omega
  · rw [Int.add_comm, Int.add_mul_emod_self_left]
    exact Int.emod_eq_of_lt hb hba
theorem row_back {c : Int} (hc : 0 < c) : ∀ {r : List Int}, GoodRow r → rowP (back r c).1 (back r c).2 = r ∧ comP (back r c).1 (back r c).2 = c
  | [q], h => by
    show rowP (c * q + 0) c = [q] ∧ comP (c * q + 0) c = c
    obtain ⟨e1, e2⟩ := step_back (p := q) hc (Int.le_refl 0) hc
    rw [rowP_pos hc, comP_pos hc, e1, e2]
    exact ⟨rfl, rfl⟩
  | [p, q], h => by
    obtain ⟨hp, hq⟩ := (show 1 ≤ p ∧ 2 ≤ q from h)
    have hq1 : GoodRow [q] := (show 1 ≤ q by omega)
    obtain ⟨i1, i2⟩ := row_back hc hq1
    rw [back_cons]
    have hlt : (back [q] c).2 < (back [q] c).1 := by
      show c < c * q + 0
      have := Int.mul_le_mul_of_nonneg_left hq (Int.le_of_lt hc)
      omega
    obtain ⟨j1, j2, _⟩ := back_pos hc hq1
    have ha : 0 < (back [q] c).1 := by omega
    obtain ⟨e1, e2⟩ := step_back (p := p) ha (Int.le_of_lt j1) hlt
    show rowP ((back [q] c).1 * p + (back [q] c).2) (back [q] c).1 = [p, q] ∧ comP ((back [q] c).1 * p + (back [q] c).2) (back [q] c).1 = c
    rw [rowP_pos ha, comP_pos ha, e1, e2, i1, i2]
    exact ⟨rfl, rfl⟩
  | p :: q :: r :: s, h => by
    obtain ⟨hp, hg⟩ := (show 1 ≤ p ∧ GoodRow (q :: r :: s) from h)
    obtain ⟨i1, i2⟩ := row_back hc hg
    obtain ⟨j1, j2, j3⟩ := back_pos hc hg
    have hlt := j3 (by simp)
    rw [back_cons]
    have ha : 0 < (back (q :: r :: s) c).1 := by omega
    obtain ⟨e1, e2⟩ := step_back (p := p) ha (Int.le_of_lt j1) hlt
    show rowP ((back (q :: r :: s) c).1 * p + (back (q :: r :: s) c).2) (back (q :: r :: s) c).1 = _ ∧ comP ((back (q :: r :: s) c).1 * p + (back (q :: r :: s) c).2) (back (q :: r :: s) c).1 = c
    rw [rowP_pos ha, comP_pos ha, e1, e2, i1, i2]
    exact ⟨rfl, rfl⟩
/-! ### the fewest and the most takings -/
def longLH (l h : Int) : Int := (rowP h l).sum - 1
def fewLH (l h : Int) : Int := if l = h then 0 else ((rowP h l).length : Int)
def longF (a b : Int) : Int := longLH (mnF a b) (mxF a b)
def fewF (a b : Int) : Int := fewLH (mnF a b) (mxF a b)
theorem long_comm (a b : Int) : longF b a = longF a b := by unfold longF; rw [mn_comm, mx_comm]
theorem few_comm (a b : Int) : fewF b a = fewF a b := by unfold fewF; rw [mn_comm, mx_comm]
theorem sum_pos {h l : Int} (hl : 0 < l) : (rowP h l).sum = h / l + (rowP l (h % l)).sum := by rw [rowP_pos hl, List.sum_cons]
theorem len_pos {h l : Int} (hl : 0 < l) : (rowP h l).length = 1 + (rowP l (h % l)).length := by rw [rowP_pos hl, List.length_cons]; omega
theorem at_lohi {x l : Int} (c : l ≤ x) : longF x l = longLH l x ∧ fewF x l = fewLH l x := by
  unfold longF fewF mnF mxF
  split
  · have e : x = l := by omega
    subst e
    exact ⟨rfl, rfl⟩
  · exact ⟨rfl, rfl⟩
/-- behind a taking from a high and a low number -/
theorem takeLH {l h t : Int} (hl : 0 < l) (hlh : l < h) (ht : 1 ≤ t) (hth : t * l < h) : longF (h - t * l) l = longLH l h - t ∧ fewLH l h - 1 ≤ fewF (h - t * l) l := by
  have r0 := Int.emod_nonneg h (show l ≠ 0 by omega)
  have r1 := Int.emod_lt_of_pos h hl
  have e := dm h l
  have em : (h - t * l) % l = h % l := by rw [Int.sub_emod, Int.mul_emod_left]; simp
  have ed : (h - t * l) / l = h / l - t := by rw [Int.sub_mul_ediv_right _ _ (show l ≠ 0 by omega)]
  have ef : fewLH l h = ((rowP h l).length : Int) := if_neg (by omega)
  rcases Int.lt_or_le (h - t * l) l with c | c
  · have er : h % l = h - t * l := by rw [← em]; exact Int.emod_eq_of_lt (by omega) c
    have eq : h / l = t := by
      rw [er] at e
      have e2 : l * (h / l) = l * t := by rw [Int.mul_comm l t]; omega
      exact Int.eq_of_mul_eq_mul_left (show l ≠ 0 by omega) e2
    have h1 : longF (h - t * l) l = longLH (h % l) l ∧ fewF (h - t * l) l = fewLH (h % l) l := by
      rw [← er, long_comm l, few_comm l]
      exact at_lohi (by omega)
    rw [h1.1, h1.2, ef]
    refine ⟨?_, ?_⟩
    · unfold longLH
      rw [sum_pos hl, eq]
      omega
    · unfold fewLH
      rw [if_neg (by omega), len_pos hl]
      omega
  · obtain ⟨h1, h2⟩ := at_lohi c
    rw [h1, h2, ef]
    refine ⟨?_, ?_⟩
    · unfold longLH
      rw [sum_pos hl, sum_pos hl, em, ed]
      omega
    · unfold fewLH
      split
      · have e0 : h % l = 0 := by
          rw [← em, ← (show l = h - t * l by assumption)]
          exact Int.emod_self
        rw [len_pos hl, e0, rowP_zero]
        show (((1 + 0 : Nat) : Int)) - 1 ≤ 0
        omega
      · rw [len_pos hl, len_pos hl, em]
        omega
/-- some taking leaves one less -/
theorem fewLH_at {l h : Int} (hl : 0 < l) (hlh : l < h) : ∃ t, 1 ≤ t ∧ t * l < h ∧ fewF (h - t * l) l = fewLH l h - 1 := by
  have r0 := Int.emod_nonneg h (show l ≠ 0 by omega)
  have r1 := Int.emod_lt_of_pos h hl
  have e := dm h l
  have q1 : 1 ≤ h / l := (Int.le_ediv_iff_mul_le hl).mpr (by omega)
  have ef : fewLH l h = ((rowP h l).length : Int) := if_neg (by omega)
  have ec : h / l * l = l * (h / l) := Int.mul_comm _ _
  by_cases c : h % l = 0
  · have q2 : 2 ≤ h / l := by
      rcases Int.lt_or_le (h / l) 2 with z | z
      · exfalso
        have : h / l = 1 := by omega
        rw [this] at e
        omega
      · exact z
    have e1 : (h / l - 1) * l = h / l * l - l := by grind
    refine ⟨h / l - 1, by omega, by omega, ?_⟩
    rw [show h - (h / l - 1) * l = l by omega, ef, len_pos hl, c, rowP_zero, (at_lohi (Int.le_refl l)).2]
    unfold fewLH
    rw [if_pos rfl]
    rfl
  · refine ⟨h / l, q1, by omega, ?_⟩
    rw [show h - h / l * l = h % l by omega, few_comm l, (at_lohi (show h % l ≤ l by omega)).2, ef]
    unfold fewLH
    rw [if_neg (by omega), len_pos hl]
    omega
theorem take_eq {a b t : Int} (f : Int → Int → Int) (hf : ∀ a b, f b a = f a b) : f (behA a b t) (behB a b t) = f (mxF a b - t * mnF a b) (mnF a b) := by
  unfold behA behB mxF mnF
  rcases Int.lt_or_le b a with c | c
  · rw [if_pos c, if_pos c, if_neg (by omega), if_neg (by omega)]
  · rw [if_neg (by omega), if_neg (by omega), if_pos c, if_pos c, hf]
theorem mnmx_lt {a b t : Int} (ha : 0 < a) (hb : 0 < b) (ht : 1 ≤ t) (hm : t ≤ mostF a b) : mnF a b < mxF a b ∧ t * mnF a b < mxF a b := by
  have h1 := most_lt ha hb hm
  have h2 := mn_pos ha hb
  have h3 := Int.mul_le_mul_of_nonneg_right ht (Int.le_of_lt h2)
  exact ⟨by omega, h1⟩
theorem long_take {a b t : Int} (ha : 0 < a) (hb : 0 < b) (ht : 1 ≤ t) (hm : t ≤ mostF a b) : longF (behA a b t) (behB a b t) = longF a b - t := by
  obtain ⟨h1, h2⟩ := mnmx_lt ha hb ht hm
  rw [take_eq longF long_comm]
  exact (takeLH (mn_pos ha hb) h1 ht h2).1
theorem few_take {a b t : Int} (ha : 0 < a) (hb : 0 < b) (ht : 1 ≤ t) (hm : t ≤ mostF a b) : fewF a b - 1 ≤ fewF (behA a b t) (behB a b t) := by
  obtain ⟨h1, h2⟩ := mnmx_lt ha hb ht hm
  rw [take_eq fewF few_comm]
  exact (takeLH (mn_pos ha hb) h1 ht h2).2
theorem few_at {a b : Int} (ha : 0 < a) (hb : 0 < b) (hm : 1 ≤ mostF a b) : ∃ t, 1 ≤ t ∧ t ≤ mostF a b ∧ fewF (behA a b t) (behB a b t) = fewF a b - 1 := by
  obtain ⟨h1, h2⟩ := mnmx_lt ha hb (Int.le_refl 1) hm
  obtain ⟨t, t1, t2, t3⟩ := fewLH_at (mn_pos ha hb) h1
  refine ⟨t, t1, (Int.le_ediv_iff_mul_le (mn_pos ha hb)).mpr (by omega), ?_⟩
  rw [take_eq fewF few_comm]
  exact t3
theorem alike {a b : Int} (ha : 0 < a) (hb : 0 < b) (hm : mostF a b ≤ 0) : fewF a b = 0 ∧ longF a b = 0 := by
  have h1 := mn_pos ha hb
  have h2 := mn_mx a b
  have e : mnF a b = mxF a b := by
    rcases Int.lt_or_le (mnF a b) (mxF a b) with c | c
    · exfalso
      have : 1 ≤ mostF a b := (Int.le_ediv_iff_mul_le h1).mpr (by omega)
      omega
    · omega
  unfold fewF longF fewLH longLH
  rw [if_pos e, ← e, rowP_pos h1, Int.ediv_self (show mnF a b ≠ 0 by omega), Int.emod_self, rowP_zero]
  exact ⟨rfl, rfl⟩
end KR

set_option Elab.async false
set_option linter.all false
set_option maxRecDepth 100000
set_option maxHeartbeats 4000000
namespace Mt
open PySem PySem.Spec PyProof.Rows L2
/-! ### max, min of a pair -/
def rMaxT (K : PySem.W.Frag) : List V → Hp → VK → Prop := fun vs H Q => ∃ (p : Addr) (i j : Int), vs = [.ref p] ∧ SqT K H p [.int i, .int j] ∧ Q (.int (if i < j then j else i)) H
def rMinT (K : PySem.W.Frag) : List V → Hp → VK → Prop := fun vs H Q => ∃ (p : Addr) (i j : Int), vs = [.ref p] ∧ SqT K H p [.int i, .int j] ∧ Q (.int (if j < i then j else i)) H
theorem holds_int_of {h : Heap} {v : Value} {i : Int} (H : PySem.W.Holds h v i) : ∃ t, v = .int i t := by
  obtain ⟨as, r⟩ := H
  cases r
  exact ⟨_, rfl⟩
theorem holds_mk {h : Heap} {i : Int} {t : Tok} : PySem.W.Holds h (.int i t) i := ⟨_, .int _ _⟩
section
variable {X : Cx}
theorem cr_maxT (hc : X.calm = true) (hu : X.A.units + 64 < cLine) : CallR X (.builtin "max") (rMaxT X.K) := by
  intro pins s σ H vs us Q I r h
  obtain ⟨p, i, j, rfl, hs, q⟩ := h
  obtain ⟨its, rv, ht, _⟩ := I.tuple hs
  rw [Vals.ref1 r]
  obtain ⟨u, w', rfl, ⟨t, rfl⟩, ⟨t', rfl⟩⟩ := vals2 rv
  refine PySem.W.max_tuple_datum (α := Int) (x := i) (xs := [j]) (I.ok.hd hc) ht (.cons holds_mk (.cons holds_mk .nil)) (by show X.A.units + 1 + 0 < cLine; omega) fun k v h' tk hk hv keep => ?_
  obtain ⟨t2, rfl⟩ := holds_int_of hv
  refine ⟨.int _, H, I.kept keep, ⟨_, rfl⟩, ?_⟩
  have e : PySem.W.maxOf i [j] = if i < j then j else i := by
    show (if decide (i < j) = true then j else i) = _
    simp
  rw [e]
  exact q
theorem cr_minT (hc : X.calm = true) (hu : X.A.units + 64 < cLine) : CallR X (.builtin "min") (rMinT X.K) := by
  intro pins s σ H vs us Q I r h
  obtain ⟨p, i, j, rfl, hs, q⟩ := h
  obtain ⟨its, rv, ht, _⟩ := I.tuple hs
  rw [Vals.ref1 r]
  obtain ⟨u, w', rfl, ⟨t, rfl⟩, ⟨t', rfl⟩⟩ := vals2 rv
  refine PySem.W.min_tuple_datum (α := Int) (x := i) (xs := [j]) (I.ok.hd hc) ht (.cons holds_mk (.cons holds_mk .nil)) (by show X.A.units + 1 + 0 < cLine; omega) fun k v h' tk hk hv keep => ?_
  obtain ⟨t2, rfl⟩ := holds_int_of hv
  refine ⟨.int _, H, I.kept keep, ⟨_, rfl⟩, ?_⟩
  have e : PySem.W.minOf i [j] = if j < i then j else i := by
    show (if decide (j < i) = true then j else i) = _
    simp
  rw [e]
  exact q
end

/-! ### a def of the top as the walk takes it -/
structure DefAt (K : PySem.W.Frag) (mg : Str → Option Value) (x : Str) (st : Stmt) (ps : List Str) where
  f : Addr
  fd : FuncData
  F : Fun K x x st f fd
  b : Binds K fd ps []
  g : mg x = some (.ref f)
/-! ### promises and what evaluates to what -/
open Evl
/-- a new tuple is handed back -/
def RetU (xs : List V) (H : Hp) (Q : VK) : Prop := ∀ p H2, H p = none → Ex H H2 → H2 p = some (.tup xs) → Q (.ref p) H2
theorem RetU.go {xs : List V} {H H' H2 : Hp} {Q : VK} {p : Addr} (k : RetU xs H Q) (e : Ex H H') (hp : H' p = none) (e2 : Ex H' H2) (h : H2 p = some (.tup xs)) : Q (.ref p) H2 := k p H2 (fresh_back e hp) (e.trans e2) h
def SpU (sp : Sp) (vs : List V) (H : Hp) (xs : List V) : Prop := ∀ H1, Ex H H1 → ∀ Q : VK, (∀ p H2, H1 p = none → Ex H1 H2 → H2 p = some (.tup xs) → Q (.ref p) H2) → ∀ E : XK, sp vs H1 Q E
section
variable {K : PySem.W.Frag} {σ : L2.St} {H H' : Hp} {ta tb te tx : TE} {t u : TT} {x y z v : V} {r : R2} {D : Ends} {tu tw tz : TS} {g : TG}
theorem EvU.mono {xs : List V} (e : Ex H H') (h : EvU te σ H xs) : EvU te σ H' xs := fun H1 a Q q => h H1 (e.trans a) Q q
theorem eu_call {sp : Sp} {dvs vs xs : List V} {E : XK} {ta : TA} (h : EvA ta σ H vs) (hs : SpU sp (vs ++ dvs) H xs) : EvU (tCall sp dvs E ta) σ H xs := fun H1 e Q q =>
  h H1 e _ fun H2 e2 => hs H2 (e.trans e2) Q (fun p H3 hp e3 h3 => q p H3 (fresh_back e2 hp) (e2.trans e3) h3) E
/-- an argument that is a new tuple -/
theorem ev_callU {sp : Sp} {xs : List V} {E : XK} (h : EvU ta σ H xs) (hs : ∀ p H1, H1 p = some (.tup xs) → Ex H H1 → SpV sp [.ref p] H1 z) : Ev (tCall sp [] E (tCons ta tNil)) σ H z := fun H1 e Q q =>
  h H1 e _ fun p H2 _ e2 hp => hs p H2 hp (e.trans e2) H2 (Ex.refl H2) Q (fun H3 e3 => q H3 (e2.trans e3)) E
/-- a, b = a pair that is made | that stands -/
theorem s_unU {i j : Nat} (h : EvU te σ H [x, y]) (k : ∀ H1, Ex H H1 → D.nx ((σ.set i (some x)).set j (some y)) H1) : tAsg te (gTup K 2 (gCons (gName i) (gCons (gName j) gNil))) D σ H :=
  h H (Ex.refl H) _ fun p H1 _ e hp => ⟨p, [x, y], rfl, st_of hp, rfl, x, [y], rfl, y, [], rfl, rfl, k H1 e⟩
theorem q_unU {i j : Nat} (h : EvU te σ H [x, y]) (k : ∀ H1, Ex H H1 → tz D ((σ.set i (some x)).set j (some y)) H1) : tSeq (tAsg te (gTup K 2 (gCons (gName i) (gCons (gName j) gNil)))) tz D σ H := s_unU (D := { D with nx := tz D }) h k
theorem s_unT {i j : Nat} {p : Addr} (h : Ev te σ H (.ref p)) (ht : SqT K H p [x, y]) (k : ∀ H1, Ex H H1 → D.nx ((σ.set i (some x)).set j (some y)) H1) : tAsg te (gTup K 2 (gCons (gName i) (gCons (gName j) gNil))) D σ H :=
  h H (Ex.refl H) _ fun H1 e => ⟨p, [x, y], rfl, ex_t e ht, rfl, x, [y], rfl, y, [], rfl, rfl, k H1 e⟩
theorem q_unT {i j : Nat} {p : Addr} (h : Ev te σ H (.ref p)) (ht : SqT K H p [x, y]) (k : ∀ H1, Ex H H1 → tz D ((σ.set i (some x)).set j (some y)) H1) : tSeq (tAsg te (gTup K 2 (gCons (gName i) (gCons (gName j) gNil)))) tz D σ H := s_unT (D := { D with nx := tz D }) h ht k
/-- a, b = x, y -/
theorem q_par {i j : Nat} {ta : TA} (h : EvA ta σ H [x, y]) (k : ∀ H1, Ex H H1 → tz D ((σ.set i (some x)).set j (some y)) H1) : tSeq (tPar i j ta) tz D σ H :=
  h H (Ex.refl H) _ fun H1 e => ⟨x, y, rfl, k H1 e⟩
theorem s_par {i j : Nat} {ta : TA} (h : EvA ta σ H [x, y]) (k : ∀ H1, Ex H H1 → D.nx ((σ.set i (some x)).set j (some y)) H1) : tPar i j ta D σ H :=
  h H (Ex.refl H) _ fun H1 e => ⟨x, y, rfl, k H1 e⟩
/-- isinstance -/
theorem ty_tup {p : Addr} {xs : List V} (h : SqT K H p xs) : TyX K H (.ref p) (.type "tuple") := by
  rcases h with (h | ⟨o, h⟩) | ⟨o, its, n, h1, h2, _⟩
  · exact .base (.tup h)
  · exact .fTuple h
  · exact .kTuple h1 h2
theorem rc_isi_int {i : Int} {T : String} {b : Bool} (h : kitB "int" T = some b) : RC (rIsi K) [.int i, .ty T] H (.bl b) := fun H1 _ _ q =>
  ⟨_, _, _, _, b, rfl, .ty T, .base (.int i), kit_ty h, q H1 (Ex.refl H1)⟩
theorem rc_isi_bl {i : Bool} {T : String} {b : Bool} (h : kitB "bool" T = some b) : RC (rIsi K) [.bl i, .ty T] H (.bl b) := fun H1 _ _ q =>
  ⟨_, _, _, _, b, rfl, .ty T, .base (.bl i), kit_ty h, q H1 (Ex.refl H1)⟩
theorem rc_isi_tup {p : Addr} {xs : List V} {T : String} {b : Bool} (hp : SqT K H p xs) (h : kitB "tuple" T = some b) : RC (rIsi K) [.ref p, .ty T] H (.bl b) := fun H1 e _ q =>
  ⟨_, _, _, _, b, rfl, .ty T, ty_tup (ex_t e hp), kit_ty h, q H1 (Ex.refl H1)⟩
/-- len -/
theorem rc_lenT {p : Addr} {xs : List V} (hp : SqT K H p xs) : RC (fun xs H Q => ∃ p ys, xs = [.ref p] ∧ (SqL K H p ys ∨ SqT K H p ys) ∧ Q (.int ys.length) H) [.ref p] H (.int xs.length) := fun H1 e _ q =>
  ⟨p, xs, rfl, .inr (ex_t e hp), q H1 (Ex.refl H1)⟩
theorem rc_lenL {p : Addr} {xs : List V} (hp : SqL K H p xs) : RC (fun xs H Q => ∃ p ys, xs = [.ref p] ∧ (SqL K H p ys ∨ SqT K H p ys) ∧ Q (.int ys.length) H) [.ref p] H (.int xs.length) := fun H1 e _ q =>
  ⟨p, xs, rfl, .inl (ex_l e hp), q H1 (Ex.refl H1)⟩
theorem rc_maxT {p : Addr} {i j : Int} (hp : SqT K H p [.int i, .int j]) : RC (rMaxT K) [.ref p] H (.int (if i < j then j else i)) := fun H1 e _ q => ⟨p, i, j, rfl, ex_t e hp, q H1 (Ex.refl H1)⟩
theorem rc_minT {p : Addr} {i j : Int} (hp : SqT K H p [.int i, .int j]) : RC (rMinT K) [.ref p] H (.int (if j < i then j else i)) := fun H1 e _ q => ⟨p, i, j, rfl, ex_t e hp, q H1 (Ex.refl H1)⟩
theorem rc_sum {p : Addr} {ns : List Int} (hp : SqL K H p (ns.map V.int)) : RC (rSum K) [.ref p] H (.int ns.sum) := fun H1 e _ q => ⟨p, ns, rfl, ex_l e hp, q H1 (Ex.refl H1)⟩
/-- one test that is known, in an or, an and -/
theorem et_or_ff {t u : TT} (h1 : EvT t σ H false) (h2 : EvT u σ H false) : EvT (tOr t u) σ H false := et_or h1 fun _ => h2
/-- == of data at any depth -/
theorem rv_eqD {d e : PyData} (hd : ∀ H1, Ex H H1 → Dp K H1 x d) (he : ∀ H1, Ex H H1 → Dp K H1 y e) (sd : SeqAt.shaped d = true) (se : SeqAt.shaped e = true) : RV (rEqD K) x y H (.bl (PyData.eqv d e)) := fun H1 a _ q =>
  ⟨d, e, hd H1 a, he H1 a, sd, se, q H1 (Ex.refl H1)⟩
theorem rv_neD {d e : PyData} (hd : ∀ H1, Ex H H1 → Dp K H1 x d) (he : ∀ H1, Ex H H1 → Dp K H1 y e) (sd : SeqAt.shaped d = true) (se : SeqAt.shaped e = true) : RV (rNeD K) x y H (.bl (!PyData.eqv d e)) := fun H1 a _ q =>
  ⟨d, e, hd H1 a, he H1 a, sd, se, q H1 (Ex.refl H1)⟩
theorem dp_pair {p : Addr} {a b : Int} (h : SqT K H p [.int a, .int b]) : ∀ H1, Ex H H1 → Dp K H1 (.ref p) (.tuple [.int a, .int b]) := fun _ e => .tup (ex_t e h) (.cons (.int _) (.cons (.int _) .nil))
theorem sh_pair (a b : Int) : SeqAt.shaped (.tuple [.int a, .int b]) = true := rfl
theorem eqv_pair (a b c d : Int) : PyData.eqv (.tuple [.int a, .int b]) (.tuple [.int c, .int d]) = (decide (a = c) && decide (b = d)) := by
  simp only [PyData.eqv, PyData.eqvAll, Bool.and_true]
  rfl
end
/-! ### numbers of a size -/
structure Big (x : Int) : Prop where
  pos : 0 < x
  lt : x.natAbs < 2 ^ 8000
theorem Big.mul {x y : Int} (hx : x.natAbs < 2 ^ 8000) (hy : y.natAbs < 2 ^ 8000) : CMulX x y := mulx_ok hx hy (by decide)
theorem Big.div {i x : Int} (h : Big x) : CDivW i x := wide_div h.pos h.lt (by decide) (by decide)
theorem Big.divp {i x : Int} (h : Big x) : CDivP i x := ⟨h.pos, PyProof.noPylong_of_log2 (h.div (i := i)).2⟩
theorem Big.le {x y : Int} (h : Big x) (h0 : 0 < y) (hy : y ≤ x) : Big y := ⟨h0, wide_le (Int.le_of_lt h0) hy h.lt⟩
theorem Big.nle {x y : Int} (h : Big x) (h0 : 0 ≤ y) (hy : y ≤ x) : y.natAbs < 2 ^ 8000 := wide_le h0 hy h.lt
open KM
set_option exponentiation.threshold 300
theorem big_mn {a b : Int} (ha : Big a) (hb : Big b) : Big (mnF a b) := by unfold mnF; split <;> assumption
theorem big_mx {a b : Int} (ha : Big a) (hb : Big b) : Big (mxF a b) := by unfold mxF; split <;> assumption
theorem eu_divmod {i j : Int} {σ : L2.St} {H : Hp} {ta tb : TE} (ha : Ev ta σ H (.int i)) (hb : Ev tb σ H (.int j)) (hc : CDivP i j) :
    EvU (tCB (fun xs H Q => ∃ i j, xs = [V.int i, V.int j] ∧ CDivP i j ∧ ∀ p, H p = none → Q (.ref p) (upd H p (.tup [.int (i / j), .int (i % j)]))) (tCons ta (tCons tb tNil))) σ H [.int (i / j), .int (i % j)] := fun H1 e Q q =>
  ha H1 e _ fun H2 e2 => hb H2 (e.trans e2) _ fun H3 e3 => ⟨i, j, rfl, hc, fun p hp => q p _ (fresh_back (e2.trans e3) hp) ((e2.trans e3).trans (Ex.new hp)) upd_same⟩
/-! ### sizes in bits -/
def W (k : Nat) (x : Int) : Prop := x.natAbs < 2 ^ k
theorem W.mono {k j : Nat} {x : Int} (h : W k x) (e : k ≤ j) : W j x := Nat.lt_of_lt_of_le h (Nat.pow_le_pow_right (by decide) e)
theorem W.add {k : Nat} {x y : Int} (hx : W k x) (hy : W k y) : W (k + 1) (x + y) := by
  unfold W at *
  have := Int.natAbs_add_le x y
  rw [Nat.pow_succ]
  omega
theorem W.mul {k j : Nat} {x y : Int} (hx : W k x) (hy : W j y) : W (k + j) (x * y) := wide_lt hx hy
theorem W.cm {k j : Nat} {x y : Int} (hx : W k x) (hy : W j y) (h : k + j ≤ 134217728) : CMulX x y := mulx_ok hx hy h
theorem W.of_bits {x : Int} {k : Nat} (h : Builtin.Int.intBits x ≤ k) : W k x := by
  unfold W
  by_cases h0 : x = 0
  · subst h0
    exact Nat.pow_pos (by decide)
  · unfold Builtin.Int.intBits at h
    rw [if_neg (by simpa using h0)] at h
    exact (Nat.log2_lt (by omega)).mp (by omega)
theorem W.small {x : Int} (h0 : 0 ≤ x) (h : x < 4294967296) : W 32 x := by
  unfold W
  have : (2 : Nat) ^ 32 = 4294967296 := by decide
  omega
theorem cd_small {i j : Int} (h0 : 0 < j) (h : j < 4294967296) : CDivW i j := wide_div (b := 32) h0 (W.small (by omega) h) (by decide) (by decide)
theorem cp_small {i j : Int} (h0 : 0 ≤ j) (h : j ≤ 1000000) (hi : 0 ≤ i) (h2 : i < 4294967296) : CPow i j := ⟨h0, h, (W.small hi h2).mono (by decide)⟩
section
variable {K : PySem.W.Frag} {σ : L2.St} {H H' : Hp} {ta tb te tx : TE} {t u : TT} {x y z v : V} {r : R2} {D : Ends} {tu tw tz : TS} {g : TG}
theorem el_if {b : Bool} {xs : List V} (h : EvT t σ H b) (h1 : b = true → EvL ta σ H xs) (h2 : b = false → EvL tb σ H xs) : EvL (tIf t ta tb) σ H xs := fun H1 e Q q => h H1 e _ fun H2 e2 => by
  cases b with
  | true =>
    show ta σ H2 Q
    exact h1 rfl H2 (e.trans e2) Q fun p H3 hp e3 h3 => q p H3 (fresh_back e2 hp) (e2.trans e3) h3
  | false =>
    show tb σ H2 Q
    exact h2 rfl H2 (e.trans e2) Q fun p H3 hp e3 h3 => q p H3 (fresh_back e2 hp) (e2.trans e3) h3
theorem s_retIf {b : Bool} (h : EvT t σ H b) (h1 : b = true → ∀ H1, Ex H H1 → tRet ta D σ H1) (h2 : b = false → ∀ H1, Ex H H1 → tRet tb D σ H1) : tRet (tIf t ta tb) D σ H := h H (Ex.refl H) _ fun H1 e => by
  cases b with
  | true =>
    show ta σ H1 D.rt
    exact h1 rfl H1 e
  | false =>
    show tb σ H1 D.rt
    exact h2 rfl H1 e
/-- the first operand a new tuple -/
theorem ev_opU1 {xs : List V} (ha : EvU ta σ H xs) (hb : Ev tb σ H y) (hr : ∀ p H1, H1 p = some (.tup xs) → Ex H H1 → RV r (.ref p) y H1 z) : Ev (tOp r ta tb) σ H z := fun H1 e Q q =>
  ha H1 e _ fun p H2 _ e2 hp => hb H2 (e.trans e2) _ fun H3 e3 => hr p H3 (e3 p _ hp) ((e.trans e2).trans e3) H3 (Ex.refl H3) Q fun H4 e4 => q H4 ((e2.trans e3).trans e4)
theorem dpall_ints : ∀ ns : List Int, DpAll K H (ns.map V.int) (ns.map PyData.int)
  | [] => .nil
  | n :: r => .cons (.int n) (dpall_ints r)
theorem dp_ints {a : Addr} {ns : List Int} (h : SqL K H a (ns.map V.int)) : ∀ H1, Ex H H1 → Dp K H1 (.ref a) (.list (ns.map PyData.int)) := fun _ e => .lst (ex_l e h) (dpall_ints ns)
theorem eqv_nil : ∀ ns : List Int, PyData.eqv (.list (ns.map PyData.int)) (.list (([] : List Int).map PyData.int)) = decide (ns = [])
  | [] => by simp only [PyData.eqv, List.map_nil, PyData.eqvAll, decide_true]
  | n :: r => by simp [PyData.eqv, PyData.eqvAll]
/-- xs != [] -/
theorem et_nonempty {a : Addr} {ns : List Int} (ha : Ev ta σ H (.ref a)) (h : SqL K H a (ns.map V.int)) : EvT (tTest (tOp (rNeD K) ta (tLst tNil))) σ H (!decide (ns = [])) := by
  have e := eqv_nil ns
  refine et_test (ev_is (ev_opL ha (el_lst ea_nil (by show 0 ≤ 100000; decide)) fun p H1 hp e => rv_neD (dp_ints (ex_l e h)) (dp_ints (ns := []) (sq_of hp)) (PySem.W.ke_shaped_ints ns) (PySem.W.ke_shaped_ints [])) ?_)
  rw [e]
theorem cut63 {xs : List V} (h : xs.length ≤ 63) : cutV xs none (some 63) = xs := by
  unfold cutV
  rw [HT.sIx_none, show ((63 : Int)) = ((63 : Nat) : Int) from rfl, HT.sIx_nat, List.drop_zero]
  exact List.take_of_length_le (by omega)
/-- script[:63] if script != [] else [d] -/
def cellsF (d : Int) (ns : List Int) : List Int := if ns = [] then [d] else ns
theorem cells_len {d : Int} {ns : List Int} (h : ns.length ≤ 63) : 0 < (cellsF d ns).length ∧ (cellsF d ns).length ≤ 63 := by
  unfold cellsF
  split
  · exact ⟨by show 0 < 1; decide, by show 1 ≤ 63; decide⟩
  · exact ⟨List.length_pos_iff.mpr (by assumption), h⟩
theorem cells_W {d : Int} {ns : List Int} (hd : W 1048576 d) (h : ∀ n ∈ ns, W 1048576 n) : ∀ n ∈ cellsF d ns, W 1048576 n := by
  unfold cellsF
  split
  · intro n hn
    rw [List.mem_singleton.mp hn]
    exact hd
  · exact h
theorem el_cells {a : Addr} {ns : List Int} {d : Int} (ha : Ev ta σ H (.ref a)) (hb : Ev tb σ H (.ref a)) (h : SqL K H a (ns.map V.int)) (hl : ns.length ≤ 63) :
    EvL (tIf (tTest (tOp (rNeD K) ta (tLst tNil))) (tSl (rSlL K) tb tNoPart (tPart (tC (.int 63)))) (tLst (tCons (tC (.int d)) tNil))) σ H ((cellsF d ns).map V.int) := by
  refine el_if (et_nonempty ha h) (fun z => ?_) (fun z => ?_)
  · have z1 : ¬ ns = [] := by simpa using z
    have e := el_sl (K := K) (th := tPart (tC (.int 63))) hb eo_none (eo_some (i := 63) ev_c) h
    rw [cut63 (by rw [List.length_map]; exact hl)] at e
    unfold cellsF
    rw [if_neg z1]
    exact e
  · have z1 : ns = [] := by simpa using z
    unfold cellsF
    rw [if_pos z1]
    exact el_lst (ea_cons ev_c ea_nil) (by show 1 ≤ 100000; decide)
theorem at_cells {cs : List Int} {i : Int} (h0 : 0 ≤ i) (h : i < cs.length) : ∃ c ∈ cs, atI (cs.map V.int) i = some (.int c) := by
  have hj : i.toNat < cs.length := by omega
  refine ⟨cs[i.toNat], List.getElem_mem hj, at_of (j := i.toNat) (by omega) ?_⟩
  rw [List.getElem?_map, List.getElem?_eq_getElem hj]
  rfl
end
theorem W.s128 {x : Int} (h0 : 0 ≤ x) (h : x ≤ 100000000000000000000000000000000000000) : W 128 x := by
  unfold W
  have : (2 : Nat) ^ 128 = 340282366920938463463374607431768211456 := by decide
  omega
theorem Big.s200 {x : Int} (h0 : 0 < x) (h : x ≤ 1000000000000000000000000000000000000000 * 1099511627776) : Big x := by
  refine ⟨h0, Nat.lt_of_lt_of_le (m := 2 ^ 200) ?_ (Nat.pow_le_pow_right (by decide) (by decide))⟩
  have : (2 : Nat) ^ 200 = 1606938044258990275541962092341162602522202993782792835301376 := by decide
  omega
section
variable {K : PySem.W.Frag} {σ : L2.St} {H H' : Hp} {ta tb te tx tl : TE} {t u : TT} {x y z v : V} {r : R2} {D : Ends} {tu tw tz : TS} {g : TG}
theorem et_yes : EvT tYes σ H true := fun H1 _ _ q => q H1 (Ex.refl H1)
/-- [e for x in a tuple], no test -/
theorem el_compT {a : Addr} {xs : List V} {j : Nat} {vs : List Nat} (f : Nat → V) (h : Ev tl σ H (.ref a)) (hx : SqT K H a xs) (hz : xs.length ≤ 40000)
    (hw : ∀ x, wipe ((wipe σ vs).set j (some x)) vs = wipe σ vs) (he : ∀ (i : Nat) (x : V) H1, Ex H H1 → xs[i]? = some x → Ev te ((wipe σ vs).set j (some x)) H1 (f i)) :
    EvL (tLc (iTup K tl) (gName j) tYes te vs) σ H (given xs.length (fun _ => true) f) := by
  intro H0 e Q q
  refine h H0 e _ fun H1 e1 => ⟨a, rfl, ⟨xs, ex_t (e.trans e1) hx⟩, fun Dl hD => ?_⟩
  refine lc_it (walk_tup (xs := xs)) (Cw H1 (fun _ => true) f Dl) ⟨hD, Ex.new hD, upd_same⟩ (fun i H' _ p => ex_t ((e.trans e1).trans p.2.1) hx) (fun i x H' H'' hi p hy => ?_) fun H' p => q Dl H' (fresh_back e1 p.1) (e1.trans p.2.1) p.2.2
  obtain ⟨rfl, hi'⟩ := hy
  exact ⟨hw x, cw_turn p (by omega) et_yes fun _ => he i x H1 (e.trans e1) hi'⟩
/-- [e for x in range(lo, hi)], no test -/
theorem el_compR {ta : TA} {lo n : Int} {j : Nat} {vs : List Nat} (f : Nat → V) (h : EvA ta σ H [.int lo, .int n]) (hz : -100000 ≤ lo ∧ lo ≤ 40000 ∧ -100000 ≤ n ∧ n ≤ 40000 ∧ (n - lo).toNat ≤ 40000)
    (hw : ∀ x, wipe ((wipe σ vs).set j (some x)) vs = wipe σ vs) (he : ∀ (i : Nat) H1, Ex H H1 → lo + (i : Int) < n → Ev te ((wipe σ vs).set j (some (.int (lo + (i : Int))))) H1 (f i)) :
    EvL (tLc (iRng2 ta) (gName j) tYes te vs) σ H (given (n - lo).toNat (fun _ => true) f) := by
  intro H0 e Q q
  refine h H0 e _ fun H1 e1 => ⟨lo, n, rfl, ⟨by omega, by omega, by omega, by omega⟩, fun Dl hD => ?_⟩
  refine lc_it (walk_range (lo := lo) (n := (n - lo).toNat)) (Cw H1 (fun _ => true) f Dl) ⟨hD, Ex.new hD, upd_same⟩ (fun _ _ _ _ => trivial) (fun i x H' H'' hi p hy => ?_) fun H' p => q Dl H' (fresh_back e1 p.1) (e1.trans p.2.1) p.2.2
  obtain ⟨rfl, rfl⟩ := hy
  exact ⟨hw _, cw_turn p (by omega) et_yes fun _ => he i H1 (e.trans e1) (by omega)⟩
/-- all(a new list of truths) -/
theorem ev_allL {bs : List Bool} (h : EvL te σ H (bs.map V.bl)) : Ev (tCB (rAll K) (tCons te tNil)) σ H (.bl (bs.all id)) := fun H1 e Q q =>
  h H1 e _ fun p H2 _ e2 hp => ⟨p, bs, rfl, sq_of hp, q H2 e2⟩
end
theorem mx_eq (a b : Int) : (if a < b then b else a) = mxF a b := by unfold mxF; split <;> split <;> omega
theorem mn_eq (a b : Int) : (if b < a then b else a) = mnF a b := by unfold mnF; split <;> split <;> omega
theorem t_big {a b t : Int} (ha : Big a) (hb : Big b) (ht : 1 ≤ t) (hm : t ≤ mostF a b) : t.natAbs < 2 ^ 8000 := by
  have hlt := most_lt ha.pos hb.pos hm
  have hl0 := mn_pos ha.pos hb.pos
  refine (big_mx ha hb).nle (by omega) ?_
  have := Int.mul_le_mul_of_nonneg_left (show 1 ≤ mnF a b by omega) (show 0 ≤ t by omega)
  omega
theorem big_most {a b : Int} (ha : Big a) (hb : Big b) (h : 0 < mostF a b) : Big (mostF a b) := ⟨h, t_big ha hb (by omega) (Int.le_refl _)⟩
theorem big_beh {a b t : Int} (ha : Big a) (hb : Big b) (ht : 1 ≤ t) (hm : t ≤ mostF a b) : Big (behA a b t) ∧ Big (behB a b t) := by
  have h1 := behA_pos ha.pos hb.pos hm
  have h2 := behB_pos ha.pos hb.pos hm
  have h3 : 0 ≤ t * b := Int.mul_nonneg (by omega) (Int.le_of_lt hb.pos)
  have h4 : 0 ≤ t * a := Int.mul_nonneg (by omega) (Int.le_of_lt ha.pos)
  refine ⟨ha.le h1 ?_, hb.le h2 ?_⟩
  · unfold behA; split <;> omega
  · unfold behB; split <;> omega
section
variable {K : PySem.W.Frag} {σ : L2.St} {H H' : Hp} {ta tb te tx tl : TE} {t u : TT} {x y z v : V} {r : R2} {D : Ends} {tu tw tz : TS} {g : TG}
/-- over a new list, the target a name -/
theorem s_forN {xs : List V} {j : Nat} (h : EvL tl σ H xs) (Pv : Addr → Nat → L2.St → Hp → Prop) (h0 : ∀ p H1, H p = none → Ex H H1 → H1 p = some (.lst xs) → Pv p 0 σ H1) (hl : ∀ p i σ' H', i ≤ xs.length → Pv p i σ' H' → SqL K H' p xs)
    (hs : ∀ p i x σ' H', xs[i]? = some x → Pv p i σ' H' → tu { D with nx := Pv p (i + 1), ct := Pv p (i + 1), bk := D.nx } (σ'.set j (some x)) H') (hd : ∀ p σ' H', Pv p xs.length σ' H' → D.nx σ' H') : tFor (iList K tl) (gName j) tu D σ H :=
  s_forNL h Pv h0 hl hs hd
/-- t != u, both pairs, alike -/
theorem rv_nePair {p q : Addr} {a b : Int} (hp : SqT K H p [.int a, .int b]) (hq : SqT K H q [.int a, .int b]) : RV (rNeD K) (.ref p) (.ref q) H (.bl false) := by
  have e := rv_neD (dp_pair hp) (dp_pair hq) (sh_pair a b) (sh_pair a b)
  rw [eqv_pair] at e
  simpa using e
end
section
variable {K : PySem.W.Frag} {σ : L2.St} {H H' : Hp} {ta tb td ty te tv tx tl : TE} {t u : TT} {x y z v : V} {r : R2} {D : Ends} {tu tw tz : TS} {g : TG}
theorem rc_max2 {i j : Int} : RC (fun xs H Q => ∃ i j, xs = [V.int i, V.int j] ∧ Q (.int (if j > i then j else i)) H) [.int i, .int j] H (.int (if i < j then j else i)) := fun H1 _ _ q => ⟨i, j, rfl, q H1 (Ex.refl H1)⟩
theorem rc_min2 {i j : Int} : RC (fun xs H Q => ∃ i j, xs = [V.int i, V.int j] ∧ Q (.int (if j < i then j else i)) H) [.int i, .int j] H (.int (if j < i then j else i)) := fun H1 _ _ q => ⟨i, j, rfl, q H1 (Ex.refl H1)⟩
/-- d[a new tuple] -/
theorem ev_dgetU {d : Addr} {kvs : List (List Key × V)} {k : List Key} (hd : Ev td σ H (.ref d)) (hy : EvU ty σ H (k.map kV)) (hD : H d = some (.dT kvs)) (hv : valV kvs k = some v) : Ev (tDGet td ty) σ H v := by
  intro H1 e Q q
  refine hd H1 e _ fun H2 e2 => hy H2 (e.trans e2) _ fun p H3 _ e3 hp => ⟨d, v, rfl, ?_, q H3 (e2.trans e3)⟩
  rw [← hv]
  exact DGet.t (e3 d _ (e2 d _ (e d _ hD))) hp
/-- d[t] = v, t a tuple that stands -/
theorem s_dput {d b : Addr} {kvs : List (List Key × V)} {k : List Key} (hv : Ev tv σ H v) (hd : Ev td σ H (.ref d)) (hy : Ev ty σ H (.ref b)) (hD : H d = some (.dT kvs)) (hb : H b = some (.tup (k.map kV))) (hl : kvs.length < 100000)
    (n : ∀ H1, Ex H H1 → D.nx σ (upd H1 d (.dT (putK kvs k v)))) : sDPut td ty tv D σ H := by
  refine hv H (Ex.refl H) _ fun H1 e1 => hd H1 e1 _ fun H2 e2 => hy H2 (e1.trans e2) _ fun H3 e3 => ?_
  have e := (e1.trans e2).trans e3
  exact ⟨d, _, rfl, DPut.t (e d _ hD) (e b _ hb) (sz_lt hl), n H3 e⟩
end
section
variable {K : PySem.W.Frag} {σ : L2.St} {H H' : Hp} {ta tb td ty te tv tx tl : TE} {t u : TT} {x y z v : V} {r : R2} {D : Ends} {tu tw tz : TS} {g : TG}
theorem ev_sumL {ns : List Int} (h : EvL te σ H (ns.map V.int)) : Ev (tCB (rSum K) (tCons te tNil)) σ H (.int ns.sum) := fun H1 e Q q =>
  h H1 e _ fun p H2 _ e2 hp => ⟨p, ns, rfl, sq_of hp, q H2 e2⟩
/-- the first of two arguments a new tuple, a tuple handed back -/
theorem eu_callU2 {sp : Sp} {xs zs : List V} {E : XK} (h : EvU ta σ H xs) (hb : Ev tb σ H y) (hs : ∀ p H1, H1 p = some (.tup xs) → Ex H H1 → SpU sp [.ref p, y] H1 zs) : EvU (tCall sp [] E (tCons ta (tCons tb tNil))) σ H zs := fun H1 e Q q =>
  h H1 e _ fun p H2 _ e2 hp => hb H2 (e.trans e2) _ fun H3 e3 => hs p H3 (e3 p _ hp) ((e.trans e2).trans e3) H3 (Ex.refl H3) Q (fun p' H4 hp' e4 h4 => q p' H4 (fresh_back (e2.trans e3) hp') ((e2.trans e3).trans e4) h4) E
/-- some value of which P holds in the heap then -/
def EvS (te : TE) (σ : L2.St) (H : Hp) (P : V → Hp → Prop) : Prop := ∀ H1, Ex H H1 → ∀ Q : VK, (∀ v H2, Ex H1 H2 → P v H2 → Q v H2) → te σ H1 Q
def SpS (sp : Sp) (vs : List V) (H : Hp) (P : V → Hp → Prop) : Prop := ∀ H1, Ex H H1 → ∀ Q : VK, (∀ v H2, Ex H1 H2 → P v H2 → Q v H2) → ∀ E : XK, sp vs H1 Q E
theorem es_call {sp : Sp} {vs : List V} {E : XK} {ta : TA} {P : V → Hp → Prop} (h : EvA ta σ H vs) (hs : SpS sp (vs ++ []) H P) : EvS (tCall sp [] E ta) σ H P := fun H1 e Q q =>
  h H1 e _ fun H2 e2 => hs H2 (e.trans e2) Q (fun v H3 e3 p => q v H3 (e2.trans e3) p) E
theorem ev_callS2 {sp : Sp} {E : XK} {P : V → Hp → Prop} (h : EvS ta σ H P) (hb : Ev tb σ H y) (hs : ∀ v H1 H2, Ex H H1 → P v H1 → Ex H1 H2 → SpV sp [v, y] H2 z) : Ev (tCall sp [] E (tCons ta (tCons tb tNil))) σ H z := fun H1 e Q q =>
  h H1 e _ fun v H2 e2 p => hb H2 (e.trans e2) _ fun H3 e3 => hs v H2 H3 (e.trans e2) p e3 H3 (Ex.refl H3) Q (fun H4 e4 => q H4 ((e2.trans e3).trans e4)) E
theorem ev_callS1 {sp : Sp} {E : XK} {P : V → Hp → Prop} (h : EvS ta σ H P) (hs : ∀ v H1, Ex H H1 → P v H1 → SpV sp [v] H1 z) : Ev (tCall sp [] E (tCons ta tNil)) σ H z := fun H1 e Q q =>
  h H1 e _ fun v H2 e2 p => hs v H2 (e.trans e2) p H2 (Ex.refl H2) Q (fun H4 e4 => q H4 (e2.trans e4)) E
theorem q_asgS {i : Nat} {P : V → Hp → Prop} (h : EvS te σ H P) (k : ∀ v H1, Ex H H1 → P v H1 → tz D (σ.set i (some v)) H1) : tSeq (tAsg te (gName i)) tz D σ H := h H (Ex.refl H) _ fun v H1 e p => k v H1 e p
/-- d[t] of a dict that a walk has locked, t a tuple that stands -/
theorem ev_dgetF {d b : Addr} {o : Obj} {kvs : List (List Key × V)} {k : List Key} (hd : Ev td σ H (.ref d)) (hy : Ev ty σ H (.ref b)) (hD : H d = some (.frz o (.dT kvs))) (hb : H b = some (.tup (k.map kV))) (hv : valV kvs k = some v) : Ev (tDGet td ty) σ H v := by
  intro H1 e Q q
  refine hd H1 e _ fun H2 e2 => hy H2 (e.trans e2) _ fun H3 e3 => ⟨d, v, rfl, ?_, q H3 (e2.trans e3)⟩
  have x := (e.trans e2).trans e3
  exact .inr ⟨kvs, k, b, .inr ⟨o, x d _ hD⟩, rfl, x b _ hb, hv.symm⟩
/-- [e for k in d], d a dict of tuple keys, locked meanwhile -/
theorem el_compK {d : Addr} {kvs : List (List Key × V)} {j : Nat} {vs : List Nat} (f : Nat → V) (hD : H d = some (.dT kvs)) (hz : kvs.length ≤ 40000) (hd : ∀ HL, Ev td σ HL (.ref d)) (hw : ∀ x, wipe ((wipe σ vs).set j (some x)) vs = wipe σ vs)
    (he : ∀ (i : Nat) (k : List Key) (y : V) (b : Addr) (HL : Hp) (od : Obj), HL d = some (.frz od (.dT kvs)) → kvs[i]? = some (k, y) → HL b = some (.tup (k.map kV)) → Ev te ((wipe σ vs).set j (some (.ref b))) HL (f i)) :
    EvL (tLockE (tLc (iKeys td) (gName j) tYes te vs)) σ H (given kvs.length (fun _ => true) f) := by
  intro H1 e Q q
  refine ⟨d, .dT kvs, e d _ hD, trivial, fun od => ?_⟩
  refine hd _ _ (Ex.refl _) _ fun H2 e2 => ⟨d, od, rfl, .inr ⟨kvs, e2 d _ upd_same, fun Dl hDl => ?_⟩⟩
  refine lc_it walk_keysT (Cw H2 (fun _ => true) f Dl) ⟨hDl, Ex.new hDl, upd_same⟩ (fun i H' _ p => p.2.1 d _ (e2 d _ upd_same)) (fun i x H' H'' hi p hy => ?_) fun H' p => ?_
  · obtain ⟨rfl, k, y, b, hk, rfl, hb⟩ := hy
    obtain ⟨p1, p2, p3⟩ := p
    refine ⟨hw _, ?_⟩
    refine he i k y b H'' od (p2 d _ (e2 d _ upd_same)) hk hb H'' (Ex.refl _) _ fun H4 e4 => ⟨given i (fun _ => true) f, e4 Dl _ p3, sz_lt (by have := given_len i (fun _ => true) f; omega), p1, Ex.mut (p2.trans e4) p1, ?_⟩
    rw [given_yes rfl]
    exact upd_same
  · obtain ⟨p1, p2, p3⟩ := p
    have hfr := p2 d _ (e2 d _ upd_same)
    have n1 : Dl ≠ d := fun z => by
      rw [z] at p1
      rw [e2 d _ upd_same] at p1
      cases p1
    refine ⟨hfr, q Dl _ ?_ (fun b o hb => ?_) ?_⟩
    · have z := fresh_back e2 p1
      rw [upd_ne n1] at z
      exact z
    · by_cases c : b = d
      · subst c
        rw [e b _ hD] at hb
        cases hb
        exact upd_same
      · rw [upd_ne c]
        refine p2 b _ (e2 b _ ?_)
        rw [upd_ne c]
        exact hb
    · rw [upd_ne n1]
      exact p3
end
theorem beh_small {a b t : Int} (ha : 0 < a) (hb : 0 < b) (ht : 1 ≤ t) (hm : t ≤ mostF a b) : 0 < behA a b t ∧ behA a b t ≤ a ∧ 0 < behB a b t ∧ behB a b t ≤ b ∧ behA a b t + behB a b t < a + b := by
  have h1 := behA_pos ha hb hm
  have h2 := behB_pos ha hb hm
  have h3 : 0 < t * b := Int.mul_pos (by omega) hb
  have h4 : 0 < t * a := Int.mul_pos (by omega) ha
  refine ⟨h1, ?_, h2, ?_, ?_⟩
  · unfold behA; split <;> omega
  · unfold behB; split <;> omega
  · unfold behA behB; split <;> omega
theorem Big.small {x : Int} (h0 : 0 < x) (h : x ≤ 1000) : Big x := Big.s200 h0 (by omega)
theorem most_le {a b : Int} (ha : 0 < a) (hb : 0 < b) : mostF a b ≤ a + b := by
  have h1 := mn_pos ha hb
  have h2 : mxF a b ≤ a + b := by unfold mxF; split <;> omega
  unfold mostF
  have h3 := Int.ediv_le_self (mnF a b) (show 0 ≤ mxF a b - 1 by unfold mxF; split <;> omega)
  omega
/-- above 0, below 2 ^ 200 -/
structure Med (x : Int) : Prop where
  big : Big x
  w : W 200 x
theorem Med.s200 {x : Int} (h0 : 0 < x) (h : x ≤ 1000000000000000000000000000000000000000 * 1099511627776) : Med x := by
  refine ⟨Big.s200 h0 h, ?_⟩
  unfold W
  have : (2 : Nat) ^ 200 = 1606938044258990275541962092341162602522202993782792835301376 := by decide
  omega
theorem given_true (n : Nat) : given n (fun _ => true) (fun _ => V.bl true) = (List.replicate n true).map V.bl := by
  unfold given
  rw [List.filter_eq_self.mpr (fun _ _ => rfl)]
  induction n with
  | zero => rfl
  | succ n ih => rw [List.range_succ, List.map_append, ih, List.replicate_succ', List.map_append]; rfl
theorem all_true (n : Nat) : (List.replicate n true).all id = true := by simp
end Mt

set_option Elab.async false
set_option linter.all false
set_option maxRecDepth 100000
set_option maxHeartbeats 4000000
set_option exponentiation.threshold 300
namespace Mt
open PySem PySem.Spec PyProof.Rows L2 Evl KM KR
/-! ### a row and what goes into both: a new tuple of a new list and a number -/
def RetQ (rw : List Int) (c : Int) (H : Hp) (Q : VK) : Prop := ∀ p r H2, H p = none → H r = none → Ex H H2 → H2 r = some (.lst (rw.map V.int)) → H2 p = some (.tup [.ref r, .int c]) → Q (.ref p) H2
theorem RetQ.go {rw : List Int} {c : Int} {H H' H2 : Hp} {Q : VK} {p r : Addr} (k : RetQ rw c H Q) (e : Ex H H') (hp : H' p = none) (hr : H' r = none) (e2 : Ex H' H2) (h1 : H2 r = some (.lst (rw.map V.int))) (h2 : H2 p = some (.tup [.ref r, .int c])) : Q (.ref p) H2 :=
  k p r H2 (fresh_back e hp) (fresh_back e hr) (e.trans e2) h1 h2
def EvQ (te : TE) (σ : L2.St) (H : Hp) (rw : List Int) (c : Int) : Prop := ∀ H1, Ex H H1 → ∀ Q : VK, RetQ rw c H1 Q → te σ H1 Q
def SpQ (sp : Sp) (vs : List V) (H : Hp) (rw : List Int) (c : Int) : Prop := ∀ H1, Ex H H1 → ∀ Q : VK, RetQ rw c H1 Q → ∀ E : XK, sp vs H1 Q E
/-- somewhere such a tuple -/
def EvR (K : PySem.W.Frag) (te : TE) (σ : L2.St) (H : Hp) (rw : List Int) (c : Int) : Prop := ∀ H1, Ex H H1 → ∀ Q : VK, (∀ p r H2, Ex H1 H2 → SqL K H2 r (rw.map V.int) → SqT K H2 p [.ref r, .int c] → Q (.ref p) H2) → te σ H1 Q
section
variable {K : PySem.W.Frag} {σ : L2.St} {H H' : Hp} {ta tb te tx tl : TE} {t u : TT} {x y z v : V} {r : R2} {D : Ends} {tu tw tz : TS} {g : TG} {rw rw' : List Int} {c c' : Int}
theorem eq_call {sp : Sp} {vs : List V} {E : XK} {ta : TA} (h : EvA ta σ H vs) (hs : SpQ sp (vs ++ []) H rw c) : EvQ (tCall sp [] E ta) σ H rw c := fun H1 e Q q =>
  h H1 e _ fun H2 e2 => hs H2 (e.trans e2) Q (fun p r H3 hp hr e3 h1 h2 => RetQ.go q e2 hp hr e3 h1 h2) E
theorem eq_callU {sp : Sp} {xs : List V} {E : XK} (h : EvU ta σ H xs) (hs : ∀ p H1, H1 p = some (.tup xs) → Ex H H1 → SpQ sp [.ref p] H1 rw c) : EvQ (tCall sp [] E (tCons ta tNil)) σ H rw c := fun H1 e Q q =>
  h H1 e _ fun p H2 _ e2 hp => hs p H2 hp (e.trans e2) H2 (Ex.refl H2) Q (fun p' r' H3 hp' hr' e3 h1 h2 => RetQ.go q e2 hp' hr' e3 h1 h2) E
theorem EvQ.toR (h : EvQ te σ H rw c) : EvR K te σ H rw c := fun H1 e Q q => h H1 e Q fun p r H2 _ _ e2 h1 h2 => q p r H2 e2 (sq_of h1) (st_of h2)
/-- (a list that stands, a number) -/
theorem er_tup {l : Addr} (ha : Ev ta σ H (.ref l)) (hb : Ev tb σ H (.int c)) (hl : SqL K H l (rw.map V.int)) : EvR K (tTup (tCons ta (tCons tb tNil))) σ H rw c := fun H1 e Q q =>
  ha H1 e _ fun H2 e2 => hb H2 (e.trans e2) _ fun H3 e3 => ⟨by show 2 ≤ sizeLine; decide, fun p hp => q p l _ ((e2.trans e3).trans (Ex.new hp)) (ex_l (((e.trans e2).trans e3).trans (Ex.new hp)) hl) (st_of upd_same)⟩
/-- (a new list, a number) -/
theorem er_tupL (ha : EvL ta σ H (rw.map V.int)) (hb : Ev tb σ H (.int c)) : EvR K (tTup (tCons ta (tCons tb tNil))) σ H rw c := fun H1 e Q q =>
  ha H1 e _ fun l H2 _ e2 hl => hb H2 (e.trans e2) _ fun H3 e3 => ⟨by show 2 ≤ sizeLine; decide, fun p hp => q p l _ ((e2.trans e3).trans (Ex.new hp)) (ex_l (Ex.new hp) (sq_of (e3 l _ hl))) (st_of upd_same)⟩
theorem er_var {p l : Addr} (h : Ev te σ H (.ref p)) (hl : SqL K H l (rw.map V.int)) (hp : SqT K H p [.ref l, .int c]) : EvR K te σ H rw c := fun H1 e Q q =>
  h H1 e _ fun H2 e2 => q p l H2 e2 (ex_l (e.trans e2) hl) (ex_t (e.trans e2) hp)
theorem dp_row {p l : Addr} (hl : SqL K H l (rw.map V.int)) (hp : SqT K H p [.ref l, .int c]) : Dp K H (.ref p) (.tuple [.list (rw.map PyData.int), .int c]) :=
  .tup hp (.cons (.lst hl (dpall_ints rw)) (.cons (.int c) .nil))
theorem depth_ints (rw : List Int) : PyData.depthAll (rw.map PyData.int) ≤ 0 := PySem.W.depthAll_map (α := Int) rw
theorem sh_row (rw : List Int) (c : Int) : SeqAt.shaped (.tuple [.list (rw.map PyData.int), .int c]) = true := by
  have h1 := SeqAt.canLay_of_shaped (PySem.W.ke_shaped_ints rw)
  have h2 := depth_ints rw
  unfold SeqAt.shaped
  rw [Bool.and_eq_true]
  refine ⟨?_, decide_eq_true ?_⟩
  · simp only [PyData.canLay0, PyData.canLayAll0, Bool.and_true]
    simpa only [PyData.canLay0] using h1
  · simp only [PyData.depth, PyData.depthAll]
    omega
theorem eqv_ints (a b : List Int) : PyData.eqv (.list (a.map PyData.int)) (.list (b.map PyData.int)) = decide (a = b) := by
  simp only [PyData.eqv]
  exact PySem.W.eqvAll_map (α := Int) a b
theorem eqv_row (a b : List Int) (c d : Int) : PyData.eqv (.tuple [.list (a.map PyData.int), .int c]) (.tuple [.list (b.map PyData.int), .int d]) = (decide (a = b) && decide (c = d)) := by
  have h := eqv_ints a b
  simp only [PyData.eqv] at h
  simp only [PyData.eqv, PyData.eqvAll, Bool.and_true, h]
  rfl
theorem ev_eqR (ha : EvR K ta σ H rw c) (hb : EvR K tb σ H rw' c') : Ev (tOp (rEqD K) ta tb) σ H (.bl (decide (rw = rw') && decide (c = c'))) := fun H1 e Q q =>
  ha H1 e _ fun p r H2 e2 h1 h2 => hb H2 (e.trans e2) _ fun p' r' H3 e3 h3 h4 =>
    ⟨_, _, dp_row (ex_l e3 h1) (ex_t e3 h2), dp_row h3 h4, sh_row _ _, sh_row _ _, by rw [eqv_row]; exact q H3 (e2.trans e3)⟩
theorem ev_neR (ha : EvR K ta σ H rw c) (hb : EvR K tb σ H rw' c') : Ev (tOp (rNeD K) ta tb) σ H (.bl (!(decide (rw = rw') && decide (c = c')))) := fun H1 e Q q =>
  ha H1 e _ fun p r H2 e2 h1 h2 => hb H2 (e.trans e2) _ fun p' r' H3 e3 h3 h4 =>
    ⟨_, _, dp_row (ex_l e3 h1) (ex_t e3 h2), dp_row h3 h4, sh_row _ _, sh_row _ _, by rw [eqv_row]; exact q H3 (e2.trans e3)⟩
/-- a, b = such a tuple, made -/
theorem q_unQ {i j : Nat} (h : EvQ te σ H rw c) (k : ∀ l H1, H l = none → Ex H H1 → H1 l = some (.lst (rw.map V.int)) → tz D ((σ.set i (some (.ref l))).set j (some (.int c))) H1) :
    tSeq (tAsg te (gTup K 2 (gCons (gName i) (gCons (gName j) gNil)))) tz D σ H :=
  h H (Ex.refl H) _ fun p l H1 _ hl e h1 h2 => ⟨p, [.ref l, .int c], rfl, st_of h2, rfl, .ref l, [.int c], rfl, .int c, [], rfl, rfl, k l H1 hl e h1⟩
theorem q_asgQ {i : Nat} (h : EvQ te σ H rw c) (k : ∀ p l H1, H p = none → H l = none → Ex H H1 → H1 l = some (.lst (rw.map V.int)) → H1 p = some (.tup [.ref l, .int c]) → tz D (σ.set i (some (.ref p))) H1) : tSeq (tAsg te (gName i)) tz D σ H :=
  h H (Ex.refl H) _ fun p l H1 hp hl e h1 h2 => k p l H1 hp hl e h1 h2
/-- lists of numbers compared -/
theorem rv_neInts {p q : Addr} {a b : List Int} (hp : SqL K H p (a.map V.int)) (hq : SqL K H q (b.map V.int)) : RV (rNeD K) (.ref p) (.ref q) H (.bl (!decide (a = b))) := by
  have e := rv_neD (dp_ints hp) (dp_ints hq) (PySem.W.ke_shaped_ints a) (PySem.W.ke_shaped_ints b)
  rw [eqv_ints] at e
  exact e
theorem rv_eqInts {p q : Addr} {a b : List Int} (hp : SqL K H p (a.map V.int)) (hq : SqL K H q (b.map V.int)) : RV (rEqD K) (.ref p) (.ref q) H (.bl (decide (a = b))) := by
  have e := rv_eqD (dp_ints hp) (dp_ints hq) (PySem.W.ke_shaped_ints a) (PySem.W.ke_shaped_ints b)
  rw [eqv_ints] at e
  exact e
/-- xs + ys -/
theorem el_cat {xs ys : List V} (ha : EvL ta σ H xs) (hb : EvL tb σ H ys) (hz : xs.length + ys.length ≤ 100000) : EvL (tOp rCat ta tb) σ H (xs ++ ys) := fun H1 e Q q =>
  ha H1 e _ fun a H2 _ e2 h2 => hb H2 (e.trans e2) _ fun b H3 _ e3 h3 => ⟨a, b, xs, ys, rfl, rfl, e3 a _ h2, h3, sz_of hz, fun p hp => q p _ (fresh_back (e2.trans e3) hp) ((e2.trans e3).trans (Ex.new hp)) upd_same⟩
theorem el_catV {xs ys : List V} {a : Addr} (ha : Ev ta σ H (.ref a)) (h : H a = some (.lst xs)) (hb : EvL tb σ H ys) (hz : xs.length + ys.length ≤ 100000) : EvL (tOp rCat ta tb) σ H (xs ++ ys) := fun H1 e Q q =>
  ha H1 e _ fun H2 e2 => hb H2 (e.trans e2) _ fun b H3 _ e3 h3 => ⟨a, b, xs, ys, rfl, rfl, e3 a _ (e2 a _ (e a _ h)), h3, sz_of hz, fun p hp => q p _ (fresh_back (e2.trans e3) hp) ((e2.trans e3).trans (Ex.new hp)) upd_same⟩
theorem el_rep {xs : List V} {k : Int} (ha : EvL ta σ H xs) (hb : Ev tb σ H (.int k)) (h0 : 0 ≤ k) (h1 : k ≤ 100000) (hz : xs.length * k.toNat ≤ 100000) : EvL (tOp rRep ta tb) σ H (List.replicate k.toNat xs).flatten := fun H1 e Q q =>
  ha H1 e _ fun a H2 _ e2 h2 => hb H2 (e.trans e2) _ fun H3 e3 => ⟨a, k, xs, rfl, rfl, e3 a _ h2, by omega, by omega, sz_of hz, fun p hp => q p _ (fresh_back (e2.trans e3) hp) ((e2.trans e3).trans (Ex.new hp)) upd_same⟩
theorem el_rev {a : Addr} {xs : List V} (ha : Ev ta σ H (.ref a)) (h : SqL K H a xs) : EvL (tRevL K ta) σ H xs.reverse := fun H1 e Q q =>
  ha H1 e _ fun H2 e2 => ⟨a, xs, rfl, ex_l (e.trans e2) h, fun p hp => q p _ (fresh_back e2 hp) (e2.trans (Ex.new hp)) upd_same⟩
theorem el_slL {xs : List V} {tlo thi : TO} {lo hi : Option Int} (ha : EvL ta σ H xs) (h1 : EvO tlo σ H lo) (h2 : EvO thi σ H hi) : EvL (tSl (rSlL K) ta tlo thi) σ H (cutV xs lo hi) := fun H0 e Q q =>
  ha H0 e _ fun a H2 _ e2 h => h1 H2 (e.trans e2) _ fun H3 e3 => h2 H3 ((e.trans e2).trans e3) _ fun H4 e4 =>
    ⟨a, xs, rfl, ex_l e4 (sq_of (e3 a _ h)), fun p hp => q p _ (fresh_back ((e2.trans e3).trans e4) hp) (((e2.trans e3).trans e4).trans (Ex.new hp)) upd_same⟩
/-- [e for x in a new list] -/
theorem el_compNL {xs : List V} {j : Nat} {vs : List Nat} (f : Nat → V) (h : EvL tl σ H xs) (hz : xs.length ≤ 40000) (hw : ∀ x, wipe ((wipe σ vs).set j (some x)) vs = wipe σ vs)
    (he : ∀ (i : Nat) (x : V) H1, Ex H H1 → xs[i]? = some x → Ev te ((wipe σ vs).set j (some x)) H1 (f i)) : EvL (tLc (iList K tl) (gName j) tYes te vs) σ H (given xs.length (fun _ => true) f) :=
  el_lcNL (fun _ => true) f h hz hw (fun _ _ _ _ _ => et_yes) fun i x H1 e1 hi _ => he i x H1 e1 hi
theorem rc_int_bl {b : Bool} : RC (fun xs H Q => (∃ i, xs = [V.int i] ∧ Q (.int i) H) ∨ ∃ k, xs = [V.bl k] ∧ Q (.int (if k then 1 else 0)) H) [.bl b] H (.int (if b then 1 else 0)) := fun H1 _ _ q => .inr ⟨b, rfl, q H1 (Ex.refl H1)⟩
theorem rc_isi_list {p : Addr} {xs : List V} {T : String} {b : Bool} (hp : H p = some (.lst xs)) (h : kitB "list" T = some b) : RC (rIsi K) [.ref p, .ty T] H (.bl b) := fun H1 e _ q =>
  ⟨_, _, _, _, b, rfl, .ty T, .base (.lst (e p _ hp)), kit_ty h, q H1 (Ex.refl H1)⟩
/-- xs[-1] = e -/
theorem q_setLast {l : Addr} {xs : List V} (hl : H l = some (.lst xs)) (h : Ev te σ H v) (ho : Ev ta σ H (.ref l)) (hi : Ev tb σ H (.int (-1))) (hx : xs ≠ []) (n : ∀ H1, Ex H H1 → tz D σ (upd H1 l (.lst (xs.set (xs.length - 1) v)))) :
    tSeq (tAsg te (gSub ta tb rSetL)) tz D σ H := h H (Ex.refl H) _ fun H1 e1 => ho H1 e1 _ fun H2 e2 => hi H2 (e1.trans e2) _ fun H3 e3 => by
  have h0 := List.length_pos_iff.mpr hx
  refine ⟨l, xs, -1, xs.length - 1, rfl, rfl, ((e1.trans e2).trans e3) l _ hl, ?_, n H3 ((e1.trans e2).trans e3)⟩
  unfold ixN
  rw [if_neg (by omega)]
  simp
  omega
end
/-! ### the length of a row -/
theorem row_len (k : Nat) : ∀ (h l : Int), 0 < h → 0 ≤ l → l.toNat < 2 ^ k → (rowP h l).length ≤ 2 * k := by
  induction k with
  | zero =>
    intro h l hh hl hk
    have e : l = 0 := by
      have : l.toNat < 1 := hk
      omega
    subst e
    exact Nat.le_refl _
  | succ k ih =>
    intro h l hh hl hk
    by_cases c : l = 0
    · subst c; exact Nat.zero_le _
    · have hl0 : 0 < l := by omega
      have r0 := Int.emod_nonneg h c
      have r1 := Int.emod_lt_of_pos h hl0
      rw [rowP_pos hl0, List.length_cons]
      by_cases d : h % l = 0
      · rw [d, rowP_zero]
        show 0 + 1 ≤ 2 * (k + 1)
        omega
      · have hr0 : 0 < h % l := by omega
        have s0 := Int.emod_nonneg l d
        have s1 := Int.emod_lt_of_pos l hr0
        have e := dm l (h % l)
        have q1 : 1 ≤ l / (h % l) := (Int.le_ediv_iff_mul_le hr0).mpr (by omega)
        have hm := Int.mul_le_mul_of_nonneg_left q1 (Int.le_of_lt hr0)
        rw [rowP_pos hr0, List.length_cons]
        rw [Nat.pow_succ] at hk
        have := ih (h % l) (l % (h % l)) hr0 s0 (by omega)
        omega
theorem big_row_len {a b : Int} (ha : Big a) (hb : Big b) : (rowP (mxF a b) (mnF a b)).length ≤ 16000 := by
  have h1 := big_mn ha hb
  have h2 := big_mx ha hb
  have h3 := h1.lt
  have h4 := h1.pos
  refine row_len 8000 _ _ h2.pos (Int.le_of_lt h4) ?_
  have e : (mnF a b).toNat = (mnF a b).natAbs := by omega
  rw [e]
  exact h3
end Mt

set_option Elab.async false
set_option linter.all false
set_option maxRecDepth 100000
set_option maxHeartbeats 4000000
namespace Mt
open PySem PySem.Spec PyProof.Rows L2 Evl KM KR
section
variable {K : PySem.W.Frag} {σ : L2.St} {H H' : Hp} {ta tb tc te tx tl : TE} {t u : TT} {x y z v : V} {r : R2} {D : Ends} {tu tw tz : TS} {g : TG}
/-- i <= x <= j and its kin, by numbers -/
theorem ev_chainI {p q : Int → Int → Bool} {i j k : Int} {a b : Bool} (h1 : Ev ta σ H (.int i)) (h2 : Ev tb σ H (.int j)) (h3 : Ev tc σ H (.int k)) (e1 : p i j = a) (e2 : q j k = b) :
    Ev (tChain (rI0 fun i j => .bl (p i j)) (rI0 fun i j => .bl (q i j)) ta tb tc) σ H (.bl (a && b)) := fun H1 e Q n =>
  h1 H1 e _ fun H2 x2 => h2 H2 (e.trans x2) _ fun H3 x3 => ⟨i, j, rfl, rfl, a, congrArg V.bl e1, by
    cases a with
    | true =>
      show tc σ H3 _
      refine h3 H3 ((e.trans x2).trans x3) _ fun H4 x4 => ⟨j, k, rfl, rfl, ?_⟩
      show Q (.bl (q j k)) H4
      rw [e2]
      exact n H4 ((x2.trans x3).trans x4)
    | false =>
      show Q (.bl false) H3
      exact n H3 (x2.trans x3)⟩
theorem ty_list {p : Addr} {xs : List V} (h : SqL K H p xs) : TyX K H (.ref p) (.type "list") := by
  rcases h with (h | ⟨o, h⟩) | ⟨o, its, n, h1, h2, _⟩
  · exact .base (.lst h)
  · exact .base (.frz h)
  · exact .kList h1 h2
theorem rc_isi_seqL {p : Addr} {xs : List V} {T : String} {b : Bool} (hp : SqL K H p xs) (h : kitB "list" T = some b) : RC (rIsi K) [.ref p, .ty T] H (.bl b) := fun H1 e _ q =>
  ⟨_, _, _, _, b, rfl, .ty T, ty_list (ex_l e hp), kit_ty h, q H1 (Ex.refl H1)⟩
/-- for x in reversed(xs) -/
theorem q_forRev {a : Addr} {xs : List V} {tl : TA} {j : Nat} (h : EvA tl σ H [.ref a]) (hx : SqL K H a xs) (Pv : Nat → L2.St → Hp → Prop) (h0 : ∀ H1, Ex H H1 → Pv 0 σ H1) (hl : ∀ i σ' H', i ≤ xs.length → Pv i σ' H' → SqL K H' a xs)
    (hs : ∀ (i : Nat) x σ' H', i < xs.length → xs[xs.length - 1 - i]? = some x → Pv i σ' H' → tu { D with nx := Pv (i + 1), ct := Pv (i + 1), bk := tz D } (σ'.set j (some x)) H') (hd : ∀ σ' H', Pv xs.length σ' H' → tz D σ' H') :
    tSeq (tFor (iRev K tl) (gName j) tu) tz D σ H := h H (Ex.refl H) _ fun H1 e => by
  refine ⟨a, xs, rfl, ex_l e hx, ?_⟩
  refine for_it (D := { D with nx := tz D }) walk_rev Pv (h0 H1 e) hl (fun i x σ' H' H'' hi hP hy => ?_) hd
  obtain ⟨rfl, hx'⟩ := hy
  exact hs i x σ' H'' hi hx' hP
end
theorem good_len : ∀ {r : List Int}, GoodRow r → 1 ≤ r.length
  | [], h => h.elim
  | _ :: _, _ => by rw [List.length_cons]; omega
theorem good_pos : ∀ {r : List Int}, GoodRow r → ∀ q ∈ r, 1 ≤ q
  | [], h, _, _ => h.elim
  | [q], h, x, hx => by rw [List.mem_singleton.mp hx]; exact h
  | [p, q], h, x, hx => by
    obtain ⟨hp, hq⟩ := (show 1 ≤ p ∧ 2 ≤ q from h)
    rcases List.mem_cons.mp hx with e | hx
    · rw [e]; exact hp
    · rw [List.mem_singleton.mp hx]; omega
  | p :: q :: r :: s, h, x, hx => by
    obtain ⟨hp, hg⟩ := (show 1 ≤ p ∧ GoodRow (q :: r :: s) from h)
    rcases List.mem_cons.mp hx with e | hx
    · rw [e]; exact hp
    · exact good_pos hg x hx
theorem good_last : ∀ {r : List Int}, GoodRow r → ¬ r.length = 1 → ∃ n : Int, r[r.length - 1]? = some n ∧ 2 ≤ n
  | [], h, _ => h.elim
  | [_], _, h1 => absurd rfl h1
  | [p, q], h, _ => ⟨q, rfl, (show 1 ≤ p ∧ 2 ≤ q from h).2⟩
  | p :: q :: r :: s, h, _ => by
    obtain ⟨hp, hg⟩ := (show 1 ≤ p ∧ GoodRow (q :: r :: s) from h)
    obtain ⟨n, hn, h2⟩ := good_last hg (by simp)
    refine ⟨n, ?_, h2⟩
    have e : (p :: q :: r :: s).length - 1 = (q :: r :: s).length - 1 + 1 := by simp
    rw [e]
    exact hn
theorem good_tail {p : Int} : ∀ {r : List Int}, GoodRow (p :: r) → r ≠ [] → GoodRow r
  | [], _, h => absurd rfl h
  | [q], h, _ => by
    have h2 := (show 1 ≤ p ∧ 2 ≤ q from h).2
    show 1 ≤ q
    omega
  | q :: r :: s, h, _ => (show 1 ≤ p ∧ GoodRow (q :: r :: s) from h).2
/-- the pair of a row's end is no greater -/
theorem back_drop {c : Int} (hc : 0 < c) : ∀ {r : List Int} (i : Nat), GoodRow r → 0 < (back (r.drop i) c).1 ∧ (back (r.drop i) c).1 ≤ (back r c).1
  | r, 0, hg => by
    obtain ⟨h1, h2, _⟩ := back_pos hc hg
    rw [List.drop_zero]
    exact ⟨by omega, Int.le_refl _⟩
  | [], _ + 1, h => h.elim
  | p :: r, i + 1, hg => by
    obtain ⟨h1, h2, _⟩ := back_pos hc hg
    rw [List.drop_succ_cons]
    rw [back_cons] at h1 h2 ⊢
    by_cases e : r = []
    · subst e
      rw [List.drop_nil]
      exact ⟨hc, h2⟩
    · obtain ⟨i1, i2⟩ := back_drop hc i (good_tail hg e)
      exact ⟨i1, Int.le_trans i2 h2⟩
theorem back_big {r : List Int} {c : Int} (hc : 0 < c) (hg : GoodRow r) (hb : Big (back r c).1) (i : Nat) : Big (back (r.drop i) c).1 := by
  obtain ⟨h1, h2⟩ := back_drop hc i hg
  exact hb.le h1 h2
end Mt
namespace Mt
open PySem PySem.Spec PyProof.Rows L2 Evl KM KR
/-! ### the row of a pair is a row to ask with -/
def Last2 : List Int → Prop
  | [] => False
  | [q] => 2 ≤ q
  | p :: q :: r => 1 ≤ p ∧ Last2 (q :: r)
theorem good_of2 : ∀ {r : List Int}, Last2 r → GoodRow r
  | [], h => h.elim
  | [q], h => by
    have h' : 2 ≤ q := h
    show 1 ≤ q
    omega
  | [p, q], h => by
    obtain ⟨hp, hq⟩ := (show 1 ≤ p ∧ Last2 [q] from h)
    exact ⟨hp, hq⟩
  | p :: q :: r :: s, h => by
    obtain ⟨hp, hq⟩ := (show 1 ≤ p ∧ Last2 (q :: r :: s) from h)
    exact ⟨hp, good_of2 hq⟩
theorem cons_of2 {p : Int} (hp : 1 ≤ p) : ∀ {r : List Int}, Last2 r → GoodRow (p :: r)
  | [], h => h.elim
  | [q], h => ⟨hp, h⟩
  | q :: r :: s, h => ⟨hp, good_of2 h⟩
theorem row_last2 {h l : Int} (hh : 0 < h) (hl : 0 ≤ l) : l < h → 0 < l → Last2 (rowP h l) := by
  refine down1 (M := fun h l => l < h → 0 < l → Last2 (rowP h l)) (fun h hh _ z => absurd z (by omega)) (fun h l hl hh ih hlt _ => ?_) hh hl
  have r0 := Int.emod_nonneg h (show l ≠ 0 by omega)
  have r1 := Int.emod_lt_of_pos h hl
  have e := dm h l
  have q1 : 1 ≤ h / l := (Int.le_ediv_iff_mul_le hl).mpr (by omega)
  rw [rowP_pos hl]
  by_cases d : h % l = 0
  · rw [d, rowP_zero]
    show 2 ≤ h / l
    rcases Int.lt_or_le (h / l) 2 with z | z
    · exfalso
      have : h / l = 1 := by omega
      rw [this, d] at e
      omega
    · exact z
  · have i := ih r1 (by omega)
    cases er : rowP l (h % l) with
    | nil => rw [er] at i; exact i.elim
    | cons q r =>
      rw [er] at i
      exact ⟨q1, i⟩
theorem row_good {h l : Int} (hl : 0 < l) (hlh : l ≤ h) : GoodRow (rowP h l) := by
  have r0 := Int.emod_nonneg h (show l ≠ 0 by omega)
  have r1 := Int.emod_lt_of_pos h hl
  have q1 : 1 ≤ h / l := (Int.le_ediv_iff_mul_le hl).mpr (by omega)
  rw [rowP_pos hl]
  by_cases d : h % l = 0
  · rw [d, rowP_zero]; exact q1
  · exact cons_of2 q1 (row_last2 hl r0 r1 (by omega))
theorem row_le {h l : Int} (hh : 0 < h) (hl : 0 ≤ l) : l ≤ h → ∀ q ∈ rowP h l, 1 ≤ q ∧ q ≤ h := by
  refine down1 (M := fun h l => l ≤ h → ∀ q ∈ rowP h l, 1 ≤ q ∧ q ≤ h) (fun h hh _ q hq => by rw [rowP_zero] at hq; cases hq) (fun h l hl hh ih hlh q hq => ?_) hh hl
  have r1 := Int.emod_lt_of_pos h hl
  have q1 : 1 ≤ h / l := (Int.le_ediv_iff_mul_le hl).mpr (by omega)
  have q2 := Int.ediv_le_self l (show 0 ≤ h by omega)
  rw [rowP_pos hl] at hq
  rcases List.mem_cons.mp hq with e | hq
  · rw [e]; exact ⟨q1, q2⟩
  · obtain ⟨a, b⟩ := ih (by omega) q hq
    exact ⟨a, by omega⟩
theorem mx_of {a b : Int} (h : b ≤ a) : mxF a b = a ∧ mnF a b = b := by unfold mxF mnF; split <;> exact ⟨by omega, by omega⟩
/-- the size of the pair of a row -/
theorem back_W {c : Int} {k m : Nat} (hc : 0 < c) (hw : W m c) : ∀ {r : List Int}, (∀ q ∈ r, 1 ≤ q ∧ q + 1 ≤ ((2 ^ k : Nat) : Int)) → 0 < (back r c).1 ∧ 0 ≤ (back r c).2 ∧ (back r c).2 ≤ (back r c).1 ∧ W (m + k * r.length) (back r c).1
  | [], _ => by
    show 0 < c ∧ 0 ≤ (0 : Int) ∧ (0 : Int) ≤ c ∧ W (m + k * 0) c
    exact ⟨hc, Int.le_refl _, by omega, hw⟩
  | q :: r, h => by
    obtain ⟨i1, i2, i3, i4⟩ := back_W hc hw (fun x hx => h x (List.mem_cons_of_mem _ hx))
    obtain ⟨hq, hq2⟩ := h q List.mem_cons_self
    rw [back_cons]
    have h1 := Int.mul_pos i1 (show 0 < q by omega)
    have h2 := Int.mul_le_mul_of_nonneg_left hq2 (Int.le_of_lt i1)
    have e : (back r c).1 * (q + 1) = (back r c).1 * q + (back r c).1 := by grind
    have h3 := Int.mul_le_mul_of_nonneg_left hq (Int.le_of_lt i1)
    refine ⟨by show 0 < (back r c).1 * q + (back r c).2; omega, by show 0 ≤ (back r c).1; omega, by show (back r c).1 ≤ (back r c).1 * q + (back r c).2; omega, ?_⟩
    show W (m + k * (q :: r).length) ((back r c).1 * q + (back r c).2)
    have hb : ((back r c).1 * ((2 ^ k : Nat) : Int)).natAbs < 2 ^ (m + k * r.length) * 2 ^ k := by
      rw [Int.natAbs_mul, Int.natAbs_natCast]
      exact Nat.mul_lt_mul_of_pos_right i4 (Nat.pow_pos (by decide))
    rw [← Nat.pow_add] at hb
    unfold W
    have e2 : m + k * (q :: r).length = m + k * r.length + k := by rw [List.length_cons, Nat.mul_add]; omega
    rw [e2]
    refine Nat.lt_of_le_of_lt ?_ hb
    omega
end Mt
namespace Mt
open PySem PySem.Spec PyProof.Rows L2 Evl KM KR
section
variable {K : PySem.W.Frag} {σ : L2.St} {H H' : Hp} {ta tb tc te tx tl : TE} {t u : TT} {x y z v : V} {r : R2} {D : Ends} {tu tw tz : TS} {g : TG}
/-- [e for k, x in enumerate(xs)], no test -/
theorem el_compE {a : Addr} {xs : List V} {j1 j2 : Nat} {vs : List Nat} {tl : TA} (f : Nat → V) (h : EvA tl σ H [.ref a]) (hx : SqL K H a xs) (hz : xs.length ≤ 40000)
    (hw : ∀ x y, wipe (((wipe σ vs).set j1 (some x)).set j2 (some y)) vs = wipe σ vs) (he : ∀ (i : Nat) (x : V) H1, Ex H H1 → xs[i]? = some x → Ev te (((wipe σ vs).set j1 (some (.int (i : Int)))).set j2 (some x)) H1 (f i)) :
    EvL (tLc (iEnum K tl) (gTup K 2 (gCons (gName j1) (gCons (gName j2) gNil))) tYes te vs) σ H (given xs.length (fun _ => true) f) := by
  intro H0 e Q q
  refine h H0 e _ fun H1 e1 => ⟨a, xs, rfl, ex_l (e.trans e1) hx, fun Dl hD => ?_⟩
  refine lc_it (walk_enum (xs := xs)) (Cw H1 (fun _ => true) f Dl) ⟨hD, Ex.new hD, upd_same⟩ (fun i H' _ p => ex_l ((e.trans e1).trans p.2.1) hx) (fun i v H' H'' hi p hy => ?_) fun H' p => q Dl H' (fresh_back e1 p.1) (e1.trans p.2.1) p.2.2
  obtain ⟨T, x, y, rfl, hT, rfl, hx1, hy1⟩ := hy
  have hx2 : V.int (i : Int) = x := Option.some.inj hx1
  subst hx2
  obtain ⟨p1, p2, p3⟩ := p
  have nT : Dl ≠ T := ne_of_none p3 hT
  refine ⟨T, _, rfl, st_of upd_same, rfl, _, _, rfl, _, _, rfl, rfl, hw _ _, ?_⟩
  refine he i y H1 (e.trans e1) hy1 _ (p2.trans (Ex.new hT)) _ fun H4 e4 => ⟨given i (fun _ => true) f, e4 Dl _ (by rw [upd_ne nT]; exact p3), sz_lt (by have := given_len i (fun _ => true) f; omega), p1, Ex.mut ((p2.trans (Ex.new hT)).trans e4) p1, ?_⟩
  rw [given_yes rfl]
  exact upd_same
/-- some list of these numbers -/
def EvI (K : PySem.W.Frag) (te : TE) (σ : L2.St) (H : Hp) (rw : List Int) : Prop := ∀ H1, Ex H H1 → ∀ Q : VK, (∀ a H2, Ex H1 H2 → SqL K H2 a (rw.map V.int) → Q (.ref a) H2) → te σ H1 Q
theorem ei_l {rw : List Int} (h : EvL te σ H (rw.map V.int)) : EvI K te σ H rw := fun H1 e Q q => h H1 e Q fun a H2 _ e2 h2 => q a H2 e2 (sq_of h2)
theorem ei_v {rw : List Int} {a : Addr} (h : Ev te σ H (.ref a)) (hs : SqL K H a (rw.map V.int)) : EvI K te σ H rw := fun H1 e Q q => h H1 e Q fun H2 e2 => q a H2 e2 (ex_l (e.trans e2) hs)
/-- lists of numbers, one behind the other -/
def EvAI (K : PySem.W.Frag) (ta : TA) (σ : L2.St) (H : Hp) (rows : List (List Int)) : Prop := ∀ H1, Ex H H1 → ∀ Q : List V → Hp → Prop, (∀ (as : List Addr) H2, Ex H1 H2 → Paired (fun (rw : List Int) a => SqL K H2 a (rw.map V.int)) rows as → Q (as.map V.ref) H2) → ta σ H1 Q
theorem eai_nil : EvAI K tNil σ H [] := fun H1 _ Q q => q [] H1 (Ex.refl H1) .nil
theorem eai_cons {tr : TA} {rw : List Int} {rows : List (List Int)} (h : EvI K te σ H rw) (hr : EvAI K tr σ H rows) : EvAI K (tCons te tr) σ H (rw :: rows) := fun H1 e Q q =>
  h H1 e _ fun a H2 e2 h2 => hr H2 (e.trans e2) _ fun as H3 e3 h3 => q (a :: as) H3 (e2.trans e3) (.cons (ex_l e3 h2) h3)
theorem paired_at {α β : Type} {F : α → β → Prop} : ∀ {xs : List α} {ys : List β} {i : Nat} {y : β}, Paired F xs ys → ys[i]? = some y → ∃ x, xs[i]? = some x ∧ F x y
  | _, _, i, y, .nil, h => by simp at h
  | _, _, 0, y, .cons r _, h => ⟨_, rfl, by rw [← Option.some.inj h]; exact r⟩
  | _, _, i + 1, y, .cons _ t, h => paired_at (i := i) t h
/-- for some in [xs, ys, ..] -/
theorem q_forI {ta : TA} {rows : List (List Int)} {j : Nat} (h : EvAI K ta σ H rows) (hz : rows.length ≤ 100000) (Pv : L2.St → Hp → Prop) (h0 : ∀ H1, Ex H H1 → Pv σ H1)
    (hs : ∀ (rw : List Int) a H1 σ' H', rw ∈ rows → SqL K H1 a (rw.map V.int) → Ex H H1 → Ex H1 H' → Pv σ' H' → tu { D with nx := fun σ'' H'' => Ex H1 H'' ∧ Pv σ'' H'', ct := fun σ'' H'' => Ex H1 H'' ∧ Pv σ'' H'', bk := tz D } (σ'.set j (some (.ref a))) H')
    (hd : ∀ σ' H', Pv σ' H' → tz D σ' H') : tSeq (tFor (iList K (tLst ta)) (gName j) tu) tz D σ H := h H (Ex.refl H) _ fun as H1 e1 hp => by
  have hlen := Paired.length hp
  refine ⟨by rw [List.length_map, ← hlen]; exact sz_of hz, fun l hl => ⟨l, rfl, ⟨_, sq_of upd_same⟩, ?_⟩⟩
  have eN : Ex H1 (upd H1 l (.lst (as.map V.ref))) := Ex.new hl
  refine for_list (D := { D with nx := tz D }) (xs := as.map V.ref) (fun i σ' H' => Ex (upd H1 l (.lst (as.map V.ref))) H' ∧ Pv σ' H') ⟨Ex.refl _, h0 _ (e1.trans eN)⟩ (fun i σ' H' _ p => ex_l p.1 (sq_of upd_same)) (fun i x σ' H' hi p => ?_) fun σ' H' p => hd σ' H' p.2
  rw [List.getElem?_map] at hi
  cases ha : as[i]? with
  | none => rw [ha] at hi; cases hi
  | some a =>
    rw [ha] at hi
    have ex : x = .ref a := (Option.some.inj hi).symm
    subst ex
    obtain ⟨rw, hr, hq⟩ := paired_at hp ha
    exact hs rw a _ σ' H' (List.mem_of_getElem? hr) (ex_l eN hq) (e1.trans eN) p.1 p.2
end
theorem good_snoc {q : Int} (hq : 2 ≤ q) : ∀ {r : List Int}, (∀ x ∈ r, 1 ≤ x) → Last2 (r ++ [q])
  | [], _ => hq
  | [p], h => ⟨h p List.mem_cons_self, hq⟩
  | p :: x :: r, h => ⟨h p List.mem_cons_self, good_snoc hq (r := x :: r) fun y hy => h y (List.mem_cons_of_mem _ hy)⟩
theorem set_last {n : Int} : ∀ {l : List Int}, l ≠ [] → l.set (l.length - 1) n = l.dropLast ++ [n]
  | [], h => absurd rfl h
  | [_], _ => rfl
  | x :: y :: r, _ => by
    have ih := set_last (n := n) (l := y :: r) (by simp)
    have e : (x :: y :: r).length - 1 = (y :: r).length - 1 + 1 := by simp
    rw [e, List.set_cons_succ, ih]
    rfl
end Mt

set_option Elab.async false
set_option linter.all false
set_option maxRecDepth 100000
set_option maxHeartbeats 4000000
namespace GG
open PySem PySem.Spec PyProof.Rows L2
/-! ### defs that change nothing: called from within a generator expression -/
structure QB (K : PySem.W.Frag) (mg : Str → Option Value) (h : Heap) : Prop where
  kin : K.In h
  glob : h.Ns mainGlobals mg
  blt : ∃ mb, h.Ns builtinsNs mb ∧ ∀ x : Str, x ≠ "__name__" → mb x = bootBuiltins x
  nolimit : h.NoLimit
section
variable {K : PySem.W.Frag} {mg : Str → Option Value} {h h' base : Heap}
theorem QB.keeps (q : QB K mg h) (k : ∀ b o, h.get? b = some o → h'.get? b = some o) : QB K mg h' :=
  ⟨q.kin.keeps k, q.glob.keeps k, let ⟨mb, a, r⟩ := q.blt; ⟨mb, a.keeps k, r⟩, q.nolimit.keeps k⟩
theorem QB.of (M : L2.Mod K mg base) (k : ∀ b o, base.get? b = some o → h.get? b = some o) : QB K mg h := (QB.mk M.kin M.glob M.blt M.nolimit).keeps k
end
structure QE (env : Env) : Prop where
  kind : env.scope.kind = .function
  glob : env.globals = mainGlobals
  blt : env.builtins = builtinsNs
/-- how isinstance answers of u, whatever is made -/
def IsI (K : PySem.W.Frag) (h : Heap) (u : Value) (T : String) (b : Bool) : Prop :=
  ∃ (t : Value) (P : Heap → Prop), PySem.W.KitX K u t P ∧ (∀ h' : Heap, (∀ b o, h.get? b = some o → h'.get? b = some o) → P h') ∧ u ≠ .builtin "__main__.__loader__#opaque" ∧ PySem.W.kitOne K t (.type T) = some b
theorem IsI.mono {K : PySem.W.Frag} {h h' : Heap} {u : Value} {T : String} {b : Bool} (k : ∀ b o, h.get? b = some o → h'.get? b = some o) : IsI K h u T b → IsI K h' u T b :=
  fun ⟨t, P, a, p, r⟩ => ⟨t, P, a, fun g e => p g fun b o z => e b o (k b o z), r⟩
/-- a def of one parameter that answers a truth and changes nothing -/
structure QFn (P : Program) (w : World) (K : PySem.W.Frag) (mg : Str → Option Value) (D : Nat) (f : Addr) (R : Heap → Value → Bool → Prop) : Prop where
  run : ∀ (A : Around) (s : Shared) (v : Value) (b : Bool), A.handled = none → A.depth + D < recursionLimit → QB K mg s.heap → R s.heap v b →
    codeAny (model P w) A (.call (.ref f) ⟨[v], []⟩) (fun r s' => r = .ok (.ret (.bool b)) ∧ Keeps s s') s
theorem kt {s s1 s2 : Shared} (a : Keeps s s1) (b : Keeps s1 s2) : Keeps s s2 := by
  obtain ⟨h1, k1, rfl, p1⟩ := a
  obtain ⟨h2, k2, rfl, p2⟩ := b
  exact ⟨h2, k2, rfl, fun b o e => p2 b o (p1 b o e)⟩
theorem ktok {s s1 : Shared} (a : Keeps s s1) (k : Nat) : Keeps s { s1 with toks := k } := kt a ⟨s1.heap, k, rfl, fun _ _ e => e⟩
theorem kheap {s s1 : Shared} (a : Keeps s s1) : ∀ b o, s.heap.get? b = some o → s1.heap.get? b = some o := by
  obtain ⟨h1, k1, rfl, p1⟩ := a
  exact p1
section
variable {prog : Program} {w : World} {A : Around} {E : Value → Shared → Prop} {s : Shared} {env : Env} {K : PySem.W.Frag} {mg m : Str → Option Value} {Q : Value → Shared → Prop} {x y : Str} {u v : Value} {p1 p2 p3 p4 pos : Pos}
theorem q_glob (e : QE env) (B : QB K mg s.heap) (hg : env.kindOf x = some .globalImplicit) (hm : mg x = some u) (h : Q u s) (hd : (x == ("__debug__" : Str)) = false := by decide) : wpAny (model prog w) A (eval (.Name x pos) env) Q E s :=
  Calls.Name_function_global e.kind hg (Calls.loadGlobal_global (by rw [e.glob]; exact B.glob) hm h) hd
theorem q_blt (e : QE env) (B : QB K mg s.heap) (hg : env.kindOf x = some .globalImplicit) (hm : mg x = none) (hv : bootBuiltins x = some u) (h : Q u s) (hn : x ≠ "__name__" := by decide) (hd : (x == ("__debug__" : Str)) = false := by decide) :
    wpAny (model prog w) A (eval (.Name x pos) env) Q E s := by
  obtain ⟨mb, h1, h2⟩ := B.blt
  exact Calls.Name_function_global e.kind hg (Calls.loadGlobal_builtin (by rw [e.glob]; exact B.glob) hm (by rw [e.blt]; exact h1) ((h2 x hn).trans hv) h) hd
theorem q_loc (e : QE env) (hl : env.scope.names.lookup x = some .local) (hn : s.heap.Ns env.locals m) (hm : m x = some v) (hd : (x == ("__debug__" : Str)) = false) (h : Q v s) : wpAny (model prog w) A (eval (.Name x pos) env) Q E s :=
  wpAny_Name (wpAny_loadName_local e.kind hl hn hm h) hd
/-- isinstance(x, T) -/
theorem q_isi {T : Str} {Ts : String} {b : Bool} (e : QE env) (B : QB K mg s.heap) (hl : env.scope.names.lookup x = some .local) (hn : s.heap.Ns env.locals m) (hm : m x = some v) (hd : (x == ("__debug__" : Str)) = false)
    (g1 : env.kindOf "isinstance" = some .globalImplicit) (m1 : mg "isinstance" = none) (g2 : env.kindOf T = some .globalImplicit) (m2 : mg T = none) (hT : bootBuiltins T = some (.type Ts)) (hi : bootBuiltins "isinstance" = some (.builtin "isinstance"))
    (hTn : T ≠ "__name__") (hTd : (T == ("__debug__" : Str)) = false) (hI : IsI K s.heap v Ts b) (h : ∀ tk, Q (.bool b) { s with toks := tk }) :
    wpAny (model prog w) A (eval (.Call (.Name "isinstance" p1) [.Name x p2, .Name T p3] [] p4) env) Q E s := by
  refine wpAny_Call_Name_kw (q_blt e B g1 m1 hi ?_)
  refine PyProof.Rows.callWith_builtin1 ?_ (by rfl) (by rfl)
  show wpAny _ _ (spliced ((false, eval (.Name x p2) env) :: backTo p4 (starEach [.Name T p3] env))) _ _ s
  refine Calls.spliced_cons (q_loc e hl hn hm hd ?_)
  show wpAny _ _ (spliced ((false, eval (.Name T p3) env) :: backTo p4 (starEach [] env))) _ _ s
  refine Calls.spliced_cons (q_blt e B g2 m2 hT ?_ hTn hTd)
  refine Calls.spliced_nil ?_
  obtain ⟨t, P, Z, p, hx, k⟩ := hI
  exact PySem.W.kia_one Z B.kin (p _ fun _ _ q => q) k hx h
/-- f(x) -/
theorem q_call {f : Addr} {fn : Str} {D : Nat} {R : Heap → Value → Bool → Prop} {b : Bool} (F : QFn prog w K mg D f R) (hh : A.handled = none) (hD : A.depth + D < recursionLimit) (hk : PySem.W.keepIn K (.ref f) = true)
    (e : QE env) (B : QB K mg s.heap) (hl : env.scope.names.lookup x = some .local) (hn : s.heap.Ns env.locals m) (hm : m x = some v) (hd : (x == ("__debug__" : Str)) = false) (g1 : env.kindOf fn = some .globalImplicit) (m1 : mg fn = some (.ref f)) (hfd : (fn == ("__debug__" : Str)) = false)
    (hR : R s.heap v b) (h : ∀ s', Keeps s s' → Q (.bool b) s') : wpAny (model prog w) A (eval (.Call (.Name fn p1) [.Name x p2] [] p3) env) Q E s := by
  refine wpAny_Call_Name_kw (q_glob e B g1 m1 ?_ hfd)
  refine PySem.W.callWith_K (h₀ := s.heap) B.kin hk ?_ (by rfl) (by rfl)
  show wpAny _ _ (spliced ((false, eval (.Name x p2) env) :: backTo p3 (starEach [] env))) _ _ s
  refine Calls.spliced_cons (q_loc e hl hn hm hd ?_)
  refine Calls.spliced_nil ⟨B.kin, ?_⟩
  refine wpAny_call (codeAny_mono (F.run A s v b hh hD B hR) fun r s' hq => ?_)
  obtain ⟨rfl, kp⟩ := hq
  exact h s' kp
end
/-- by its body -/
theorem qfn_of {P : Program} {w : World} {K : PySem.W.Frag} {mg : Str → Option Value} {x qual : Str} {st : Stmt} {f : Addr} {fd : FuncData} {N : List Str} {p : Str} {D : Nat} {R : Heap → Value → Bool → Prop}
    (F : Fun K x qual st f fd) (S : FnScope N [p] (defScope st)) (hb : Binds K fd [p] []) (hp : (defScope st).names.lookup p = some .local)
    (body : ∀ (env : Env) (A : Around) (s s1 : Shared) (m : Str → Option Value) (v : Value) (b : Bool), env.scope = defScope st → QE env → s.heap.objs.size ≤ env.locals → A.handled = none → A.depth + D < recursionLimit → QB K mg s.heap → s1.heap.Ns env.locals m → m p = some v → Keeps s s1 → R s.heap v b →
      wpAny (model P w) A (execs (defBody st) env) (fun fl s' => fl = .ret (.bool b) ∧ Keeps s s') (fun _ _ => False) s1) : QFn P w K mg (D + 1) f R := by
  obtain ⟨oc, od, kV, doc, pm, an, cdv, ct, osl, rfl, lk, hcd⟩ := F.ex
  refine ⟨fun A s v b hh hd B hR => ?_⟩
  refine Att.call_fn (binds := [(p, v)]) B.kin B.nolimit lk hcd (by omega) (hb s [v] B.kin rfl) ?_ (fun s₁ X => ?_) S.co S.gen S.kind
  · show ((defScope st).names.lookup p == some NameKind.local || (defScope st).names.lookup p == some NameKind.cell) && true = true
    rw [hp]
    rfl
  · obtain ⟨h1, tk, rfl, hk⟩ := X.done
    refine wpAny_mono (body _ (A.deeper _) s _ _ v b rfl ⟨S.kind, rfl, rfl⟩ (Nat.le_refl _) hh (by show A.depth + 1 + D < _; omega) B X.toInCall.ns (bindL_get (P := [p]) (vs := [v]) (i := 0) (by simp) rfl rfl hp) ⟨h1, tk, rfl, hk⟩ hR) (fun fl s' hq => ?_) fun _ _ z => z.elim
    obtain ⟨rfl, kp⟩ := hq
    exact ⟨rfl, kp⟩
end GG

set_option Elab.async false
set_option linter.all false
set_option maxRecDepth 100000
set_option maxHeartbeats 4000000
namespace GG
open PySem PySem.Spec PyProof.Rows L2
/-- whether u is a whole number -/
def RWhole (K : PySem.W.Frag) (h : Heap) (u : Value) (b : Bool) : Prop := ∃ b1 b2, IsI K h u "int" b1 ∧ IsI K h u "bool" b2 ∧ b = (b1 && !b2)
def RAbove (K : PySem.W.Frag) (h : Heap) (u : Value) (b : Bool) : Prop := ∃ bw, RWhole K h u bw ∧ (bw = true → ∃ i t, u = .int i t ∧ b = decide (0 < i)) ∧ (bw = false → b = false)
def RPair (K : PySem.W.Frag) (h : Heap) (u : Value) (b : Bool) : Prop := ∃ bt, IsI K h u "tuple" bt ∧ (bt = false → b = false) ∧
  (bt = true → ∃ q items, u = .ref q ∧ IsTup h q items ∧ items.size < 2 ^ 40 ∧ (items.size ≠ 2 → b = false) ∧ (items.size = 2 → ∃ x y bx by', items = #[x, y] ∧ RAbove K h x bx ∧ RAbove K h y by' ∧ b = (bx && by')))
section
variable {K : PySem.W.Frag} {h h' : Heap} {u : Value} {b : Bool}
theorem RWhole.mono (k : ∀ b o, h.get? b = some o → h'.get? b = some o) : RWhole K h u b → RWhole K h' u b := fun ⟨b1, b2, a, c, e⟩ => ⟨b1, b2, a.mono k, c.mono k, e⟩
theorem RAbove.mono (k : ∀ b o, h.get? b = some o → h'.get? b = some o) : RAbove K h u b → RAbove K h' u b := fun ⟨bw, a, r⟩ => ⟨bw, a.mono k, r⟩
theorem tup_mono {q : Addr} {items : Array Value} (k : ∀ b o, h.get? b = some o → h'.get? b = some o) : IsTup h q items → IsTup h' q items := fun ⟨o, e, r⟩ => ⟨o, k _ _ e, r⟩
theorem RPair.mono (k : ∀ b o, h.get? b = some o → h'.get? b = some o) : RPair K h u b → RPair K h' u b := fun ⟨bt, a, c, d⟩ => ⟨bt, a.mono k, c, fun e => by
  obtain ⟨q, items, e1, e2, ez, e3, e4⟩ := d e
  exact ⟨q, items, e1, tup_mono k e2, ez, e3, fun z => by
    obtain ⟨x, y, bx, by', f1, f2, f3, f4⟩ := e4 z
    exact ⟨x, y, bx, by', f1, f2.mono k, f3.mono k, f4⟩⟩⟩
end
/-- what the defs' names mean in a frame -/
structure QN (env : Env) (mg : Str → Option Value) : Prop where
  g1 : env.kindOf "isinstance" = some .globalImplicit
  m1 : mg "isinstance" = none
section
variable {prog : Program} {w : World} {A : Around} {s s0 : Shared} {env : Env} {K : PySem.W.Frag} {mg m : Str → Option Value} {x : Str} {v : Value} {b : Bool}
theorem boot_isi : bootBuiltins "isinstance" = some (.builtin "isinstance") := by decide +kernel
theorem boot_int' : bootBuiltins "int" = some (.type "int") := by decide +kernel
theorem boot_bool' : bootBuiltins "bool" = some (.type "bool") := by decide +kernel
theorem boot_tuple' : bootBuiltins "tuple" = some (.type "tuple") := by decide +kernel
theorem boot_len' : bootBuiltins "len" = some (.builtin "len") := by decide +kernel
/-- return isinstance(x, int) and not isinstance(x, bool) -/
theorem body_whole {p1 p2 p3 p4 p5 p6 p7 p8 p9 p10 p11 : Pos} (e : QE env) (B0 : QB K mg s0.heap) (hl : env.scope.names.lookup x = some .local) (hn : s.heap.Ns env.locals m) (hm : m x = some v) (hd : (x == ("__debug__" : Str)) = false)
    (g1 : env.kindOf "isinstance" = some .globalImplicit) (m1 : mg "isinstance" = none) (g2 : env.kindOf "int" = some .globalImplicit) (m2 : mg "int" = none) (g3 : env.kindOf "bool" = some .globalImplicit) (m3 : mg "bool" = none)
    (k0 : Keeps s0 s) (hR : RWhole K s0.heap v b) :
    wpAny (model prog w) A (execs [.Return (some (.BoolOp .And [.Call (.Name "isinstance" p1) [.Name x p2, .Name "int" p3] [] p4, .UnaryOp .Not (.Call (.Name "isinstance" p5) [.Name x p6, .Name "bool" p7] [] p8) p9] p10)) p11] env) (fun fl s' => fl = .ret (.bool b) ∧ Keeps s0 s') (fun _ _ => False) s := by
  have B := B0.keeps (kheap k0)
  obtain ⟨b1, b2, i1, i2, rfl⟩ := RWhole.mono (kheap k0) hR
  refine wpAny_execs_cons (wpAny_Return_some (wpAny_And2 (q_isi e B hl hn hm hd g1 m1 g2 m2 boot_int' boot_isi (by decide) (by decide) i1 fun tk => wpAny_truthy_bool ?_)))
  cases b1 with
  | false => exact ⟨rfl, ktok k0 _⟩
  | true =>
    refine wpAny_UnaryOp (q_isi (s := { s with toks := tk }) e B hl hn hm hd g1 m1 g3 m3 boot_bool' boot_isi (by decide) (by decide) i2 fun tk2 => not_value (wpAny_truthy_bool ?_))
    exact ⟨rfl, ktok k0 _⟩
/-- return is_whole(x) and x > 0 -/
theorem body_above {f : Addr} {fn : Str} {D k : Nat} {p1 p2 p3 p4 p5 p6 p7 p8 : Pos} (F : QFn prog w K mg D f (RWhole K)) (hh : A.handled = none) (hD : A.depth + D < recursionLimit) (hk : PySem.W.keepIn K (.ref f) = true)
    (e : QE env) (B0 : QB K mg s0.heap) (hl : env.scope.names.lookup x = some .local) (hn : s.heap.Ns env.locals m) (hm : m x = some v) (hd : (x == ("__debug__" : Str)) = false)
    (g1 : env.kindOf fn = some .globalImplicit) (m1 : mg fn = some (.ref f)) (hfd : (fn == ("__debug__" : Str)) = false) (k0 : Keeps s0 s) (hR : RAbove K s0.heap v b) :
    wpAny (model prog w) A (execs [.Return (some (.BoolOp .And [.Call (.Name fn p1) [.Name x p2] [] p3, .Compare (.Name x p4) [.Gt] [.Constant (.int 0) k p5] p6] p7)) p8] env) (fun fl s' => fl = .ret (.bool b) ∧ Keeps s0 s') (fun _ _ => False) s := by
  have B := B0.keeps (kheap k0)
  obtain ⟨bw, hw, h1, h2⟩ := RAbove.mono (kheap k0) hR
  refine wpAny_execs_cons (wpAny_Return_some (wpAny_And2 (q_call F hh hD hk e B hl hn hm hd g1 m1 hfd hw fun s' kp => wpAny_truthy_bool ?_)))
  cases bw with
  | false =>
    cases h2 rfl
    exact ⟨rfl, kt k0 kp⟩
  | true =>
    obtain ⟨i, t, rfl, rfl⟩ := h1 rfl
    refine wpAny_Compare1 (q_loc e hl (hn.keeps (kheap kp)) hm hd (wpAny_Constant_int (gt_int ?_)))
    exact ⟨rfl, ktok (kt k0 kp) _⟩
/-- is_pair's body -/
theorem body_pair {f : Addr} {fn y z : Str} {D k k2 k3 : Nat} {p1 p2 p3 p4 p5 p6 p7 p8 p9 p10 p11 p12 p13 p14 p15 p16 p17 p18 p19 p20 p21 p22 p23 p24 p25 p26 p27 : Pos} (F : QFn prog w K mg D f (RAbove K)) (hh : A.handled = none) (hD : A.depth + D < recursionLimit) (hk : PySem.W.keepIn K (.ref f) = true)
    (e : QE env) (B0 : QB K mg s0.heap) (hl : env.scope.names.lookup x = some .local) (hly : env.scope.names.lookup y = some .local) (hlz : env.scope.names.lookup z = some .local) (hyz : z ≠ y) (hn : s.heap.Ns env.locals m) (hm : m x = some v) (hd : (x == ("__debug__" : Str)) = false) (hdy : (y == ("__debug__" : Str)) = false) (hdz : (z == ("__debug__" : Str)) = false)
    (g1 : env.kindOf fn = some .globalImplicit) (m1 : mg fn = some (.ref f)) (hfd : (fn == ("__debug__" : Str)) = false) (g2 : env.kindOf "isinstance" = some .globalImplicit) (m2 : mg "isinstance" = none) (g3 : env.kindOf "tuple" = some .globalImplicit) (m3 : mg "tuple" = none)
    (g4 : env.kindOf "len" = some .globalImplicit) (m4 : mg "len" = none) (k0 : Keeps s0 s) (hab : s0.heap.objs.size ≤ env.locals) (hR : RPair K s0.heap v b) :
    wpAny (model prog w) A (execs [.If (.BoolOp .Or [.UnaryOp .Not (.Call (.Name "isinstance" p1) [.Name x p2, .Name "tuple" p3] [] p4) p5, .Compare (.Call (.Name "len" p6) [.Name x p7] [] p8) [.NotEq] [.Constant (.int 2) k p9] p10] p11) [.Return (some (.Constant (.bool false) k2 p12)) p13] [] p14,
      .Assign [.Tuple [.Name y p15, .Name z p16] k3 p17] (.Name x p18) p19,
      .Return (some (.BoolOp .And [.Call (.Name fn p20) [.Name y p21] [] p22, .Call (.Name fn p23) [.Name z p24] [] p25] p26)) p27] env) (fun fl s' => fl = .ret (.bool b) ∧ Keeps s0 s') (fun _ _ => False) s := by
  have B := B0.keeps (kheap k0)
  obtain ⟨bt, ht, h1, h2⟩ := hR
  replace ht := ht.mono (kheap k0)
  refine wpAny_execs_cons (wpAny_If (wpAny_isTrue_BoolOp (wpAny_allTrue_Or_cons (wpAny_isTrue_Not (wpAny_isTrue_value (q_isi e B hl hn hm hd g2 m2 g3 m3 boot_tuple' boot_isi (by decide) (by decide) ht fun tk => wpAny_truthy_bool ?_) (by rfl))))))
  cases bt with
  | false =>
    cases h1 rfl
    refine wpAny_execs_cons (wpAny_Return_some (wpAny_Constant_bool ⟨rfl, ktok k0 _⟩))
  | true =>
    obtain ⟨q, items, rfl, hT0, hz, h3, h4⟩ := h2 rfl
    have hT := tup_mono (kheap k0) hT0
    refine wpAny_allTrue_Or_cons (wpAny_isTrue_Compare1 ?_)
    refine wpAny_Call_Name_kw (q_blt (s := { s with toks := tk }) e B g4 m4 boot_len' ?_)
    refine PyProof.Rows.callWith_builtin1 ?_ (by rfl) (by rfl)
    show wpAny _ _ (spliced ((false, eval (.Name x p7) env) :: backTo p8 (starEach [] env))) _ _ _
    refine Calls.spliced_cons (q_loc e hl hn hm hd ?_)
    refine Calls.spliced_nil (PyProof.Rows.len_tuple hT (by omega) ?_)
    refine wpAny_Constant_int (ne_int (wpAny_truthy_bool ?_))
    by_cases c : items.size = 2
    · obtain ⟨x0, y0, bx, by', rfl, r1, r2, rfl⟩ := h4 c
      refine wpAny_allTrue_Or_nil ?_
      refine wpAny_execs_nil ?_
      refine wpAny_execs_cons (wpAny_Assign_stores (q_loc (m := m) (v := .ref q) e hl hn hm hd ?_) (by rfl) (by rfl))
      show wpAny _ _ (assignAll _ [assign (.Tuple [.Name y p15, .Name z p16] k3 p17) env]) _ _ _
      refine assign_Tuple_tuple (s := { s with toks := _ }) hh hT (by rfl) (by rfl) fun ha hx => ?_
      obtain ⟨hs, tk0, rfl, kp0⟩ := k0
      have kpa : ∀ b o, hs.get? b = some o → ha.get? b = some o := fun b o z => hx b o (Nat.ne_of_lt (Heap.lt_size z)) z
      show wpAny _ _ (assignInOrder [assign (.Name y p15) env, assign (.Name z p16) env] [x0, y0]) _ _ _
      refine assignInOrder_cons (wpAny_assign_Name (wpAny_storeName_local (m := m) (by show env.scope.names.lookup y = _; exact hly) (hn.keeps kpa) (fun hb hnb sb => ?_) (by show (env.scope.kind == .class || (env.scope.kind == .module && _)) = false; rw [e.kind]; rfl)))
      refine assignInOrder_cons (wpAny_assign_Name (wpAny_storeName_local (by show env.scope.names.lookup z = _; exact hlz) hnb (fun hc hnc sc => ?_) (by show (env.scope.kind == .class || (env.scope.kind == .module && _)) = false; rw [e.kind]; rfl)))
      refine wpAny_pure ?_
      have kpc : ∀ b o, s0.heap.get? b = some o → hc.get? b = some o := fun b o z => by
        have n : b ≠ env.locals := Nat.ne_of_lt (Nat.lt_of_lt_of_le (Heap.lt_size z) hab)
        exact sc.extBut b o n (sb.extBut b o n (kpa b o (kp0 b o z)))
      have Bc := B0.keeps kpc
      refine wpAny_execs_cons (wpAny_Return_some (wpAny_And2 (q_call F hh hD hk e Bc hly hnc (by rw [if_neg (Ne.symm hyz), if_pos rfl]) hdy g1 m1 hfd (r1.mono kpc) fun s' kp => wpAny_truthy_bool ?_)))
      cases bx with
      | false => exact ⟨rfl, kt ⟨hc, _, rfl, kpc⟩ kp⟩
      | true => exact q_call F hh hD hk e (Bc.keeps (kheap kp)) hlz (hnc.keeps (kheap kp)) (by rw [if_pos rfl]) hdz g1 m1 hfd (r2.mono fun b o z => kheap kp b o (kpc b o z)) fun s'' kp2 => ⟨rfl, kt (kt ⟨hc, _, rfl, kpc⟩ kp) kp2⟩
    · cases h3 c
      have ec : ((items.size : Int) != 2) = true := by
        simp only [bne_iff_ne, ne_eq]
        omega
      rw [ec]
      exact wpAny_execs_cons (wpAny_Return_some (wpAny_Constant_bool ⟨rfl, ktok k0 _⟩))
end
end GG

set_option Elab.async false
set_option linter.all false
set_option maxRecDepth 100000
set_option maxHeartbeats 4000000
namespace GG
open PySem PySem.Spec PyProof.Rows L2
/-- a code object's table, however long it has grown -/
def tabO (P : Addr) : HO := .ext fun h => ∃ ps : Array Value, h.get? P = some { cls := .none, data := .fields ps } ∧ TriplesOk ps.toList
/-- all but the table -/
abbrev noP (h : Heap) (P : Addr) : Heap := PySem.W.hideAll h [P]
theorem noP_get {h : Heap} {P b : Addr} {o : Obj} (n : b ≠ P) (e : h.get? b = some o) : (noP h P).get? b = some o := PySem.W.hideAll_get _ e (by simp [n])
theorem of_noP {h : Heap} {P b : Addr} {o : Obj} (e : (noP h P).get? b = some o) : h.get? b = some o ∧ b ≠ P := by
  refine ⟨PySem.W.of_hideAll _ e, fun z => ?_⟩
  have := PySem.W.hideAll_none (h := h) [P] (show b ∈ [P] by simp [z])
  rw [this] at e
  cases e
section
variable {X : Cx} {pins : List (Addr × Obj)} {σ : L2.St} {H : Hp} {s : Shared} {P : Addr}
theorem inv_grow {ps' : Array Value} {h' : Heap} {g' : Array GenState} {d' : Drawn} {t' : Nat} (I : Inv X pins σ H s) (hP : H P = some (tabO P)) (k : ∀ b o, b ≠ P → s.heap.get? b = some o → h'.get? b = some o)
    (hm : h'.get? P = some { cls := .none, data := .fields ps' }) (ht : TriplesOk ps'.toList) (hg : AllBare g') : Inv X pins σ H { s with heap := h', gens := g', drawn := d', toks := t' } := by
  have nN : ∀ b, H b = none → b ≠ P := fun b e z => by
    rw [z, hP] at e
    cases e
  refine I.step (g' := g') (d' := d') (ch := []) (fun b hb => absurd hb (by simp)) (fun b o _ _ _ e n => k b o (nN b n) e) (fun b o _ _ _ e n => ⟨o.slots, k b o (nN b n) e⟩)
    (fun b o _ e n => n) (fun b o _ e => ?_) (fun b xs e => e) (fun b o u e => e) (fun b qs e => ⟨#[], by rw [e]; simp⟩) (fun m hn => ?_) (fun b u e => ?_) hg
  · by_cases hb : b = P
    · rw [hb]
      exact ⟨_, hm⟩
    · exact ⟨o, k b o hb e⟩
  · obtain ⟨ob, es, ep, ho, r⟩ := hn
    exact ⟨ob, es, ep, k _ ob (nN _ I.free) ho, r⟩
  · by_cases hb : b = P
    · subst hb
      rw [hP] at e
      cases e
      have x : ObjOk X.prog X.w H s.heap b (tabO b) := I.hok b _ hP
      exact ⟨⟨ps', hm, ht⟩, ⟨_, hm⟩, x.2.2⟩
    · refine (I.hok b u e).stay (fun d v hd q => k d v ?_ q) (fun d q => q) fun d xs q => q
      rcases hd with z | z
      · rw [z]
        exact hb
      · intro z2
        rw [z2, hP] at z
        cases z
theorem k_noP (I : Inv X pins σ H s) (hP : H P = some (tabO P)) {a : Addr} {o : Obj} (e : X.K.lookup a = some o) : (noP s.heap P).get? a = some o := by
  obtain ⟨h1, h2⟩ := I.bs a o (I.ok.mod.kin a o e)
  exact noP_get (fun z => by rw [z, hP] at h2; cases h2) h1
theorem h_noP (hP : H P = some (tabO P)) {a : Addr} {u : HO} {h : Heap} {o : Obj} (e : H a = some u) (n : u ≠ tabO P) (q : h.get? a = some o) : (noP h P).get? a = some o :=
  noP_get (fun z => by rw [z, hP] at e; exact n (Option.some.inj e).symm) q
theorem isI_of {x : V} {u : Value} {T' T : String} {b : Bool} (I : Inv X pins σ H s) (hP : H P = some (tabO P)) (rx : RelV x u) (ty : TyX X.K H x (.type T')) (k : kitB T' T = some b) : IsI X.K (noP s.heap P) u T b := by
  cases ty with
  | base bb =>
    cases bb with
    | non => cases (show u = Value.none from rx); exact ⟨_, _, PySem.W.kitx_none, fun _ _ => True.intro, (fun z => nomatch z), kit_ty k⟩
    | bl y => cases (show u = Value.bool y from rx); exact ⟨_, _, PySem.W.kitx_bool, fun _ _ => True.intro, (fun z => nomatch z), kit_ty k⟩
    | int i => obtain ⟨t, q⟩ := (show ∃ t, u = Value.int i t from rx); cases q; exact ⟨_, _, PySem.W.kitx_int, fun _ _ => True.intro, (fun z => nomatch z), kit_ty k⟩
    | str y => obtain ⟨t, q⟩ := (show ∃ t, u = Value.str y t from rx); cases q; exact ⟨_, _, PySem.W.kitx_str, fun _ _ => True.intro, (fun z => nomatch z), kit_ty k⟩
    | flt y => obtain ⟨t, q⟩ := (show ∃ t, u = Value.float y t from rx); cases q; exact ⟨_, _, PySem.W.kitx_float, fun _ _ => True.intro, (fun z => nomatch z), kit_ty k⟩
    | @lst a xs ea =>
      cases (show u = Value.ref a from rx)
      obtain ⟨_, _, n, _, h1⟩ := (show ObjOk X.prog X.w H s.heap a (.lst xs) from I.hok a _ ea)
      exact ⟨_, _, PySem.W.kitx_list, fun h' q => ⟨_, q _ _ (h_noP hP ea (fun z => by cases z) h1), rfl⟩, (fun z => nomatch z), kit_ty k⟩
    | @frz a ob xs ea =>
      cases (show u = Value.ref a from rx)
      obtain ⟨_, _, _, n, _, h1⟩ := (show ObjOk X.prog X.w H s.heap a (.frz ob (.lst xs)) from I.hok a _ ea)
      exact ⟨_, _, PySem.W.kitx_list, fun h' q => ⟨_, q _ _ (h_noP hP ea (fun z => by cases z) h1), rfl⟩, (fun z => nomatch z), kit_ty k⟩
    | @tup a xs ea =>
      cases (show u = Value.ref a from rx)
      obtain ⟨_, _, _, o, h1, h2, _⟩ := (show ObjOk X.prog X.w H s.heap a (.tup xs) from I.hok a _ ea)
      exact ⟨_, _, PySem.W.kitx_tuple, fun h' q => ⟨o, q _ _ (h_noP hP ea (fun z => by cases z) h1), h2⟩, (fun z => nomatch z), kit_ty k⟩
    | @dK a kvs ea =>
      cases (show u = Value.ref a from rx)
      obtain ⟨_, _, vs, _, o, es, ep, h1, h2, _⟩ := (show ObjOk X.prog X.w H s.heap a (.dK kvs) from I.hok a _ ea)
      exact ⟨_, _, PySem.W.kitx_dict, fun h' q => ⟨o, q _ _ (h_noP hP ea (fun z => by cases z) h1), h2.1⟩, (fun z => nomatch z), kit_ty k⟩
    | @dT a kvs ea =>
      cases (show u = Value.ref a from rx)
      obtain ⟨_, _, xs, _, o, es, ep, h1, h2, _⟩ := (show ObjOk X.prog X.w H s.heap a (.dT kvs) from I.hok a _ ea)
      exact ⟨_, _, PySem.W.kitx_dict, fun h' q => ⟨o, q _ _ (h_noP hP ea (fun z => by cases z) h1), h2.1⟩, (fun z => nomatch z), kit_ty k⟩
  | byt y => obtain ⟨t, q⟩ := (show ∃ t, u = Value.bytes y t from rx); cases q; exact ⟨_, _, PySem.W.kitx_bytes, fun _ _ => True.intro, (fun z => nomatch z), kit_ty k⟩
  | @set a S n ea =>
    cases (show u = Value.ref a from rx)
    obtain ⟨o, _, _, _, e, ex, _⟩ := I.hok a _ ea
    exact ⟨_, _, PySem.W.kitx_set, fun h' q => ⟨o, q _ _ (h_noP hP ea (fun z => by cases z) e), ex.1⟩, (fun z => nomatch z), kit_ty k⟩
  | @kList a o e c =>
    cases (show u = Value.ref a from rx)
    exact ⟨_, _, PySem.W.kitx_list, fun h' q => ⟨o, q _ _ (k_noP I hP e), c⟩, (fun z => nomatch z), kit_ty k⟩
  | @kTuple a o e c =>
    cases (show u = Value.ref a from rx)
    exact ⟨_, _, PySem.W.kitx_tuple, fun h' q => ⟨o, q _ _ (k_noP I hP e), c⟩, (fun z => nomatch z), kit_ty k⟩
  | @kDict a o e c =>
    cases (show u = Value.ref a from rx)
    exact ⟨_, _, PySem.W.kitx_dict, fun h' q => ⟨o, q _ _ (k_noP I hP e), c⟩, (fun z => nomatch z), kit_ty k⟩
  | @fTuple a ob xs ea =>
    cases (show u = Value.ref a from rx)
    obtain ⟨_, _, _, _, o, h1, h2, _⟩ := (show ObjOk X.prog X.w H s.heap a (.frz ob (.tup xs)) from I.hok a _ ea)
    exact ⟨_, _, PySem.W.kitx_tuple, fun h' q => ⟨o, q _ _ (h_noP hP ea (fun z => by cases z) h1), h2⟩, (fun z => nomatch z), kit_ty k⟩
  | @fDict a ob kvs ea =>
    cases (show u = Value.ref a from rx)
    obtain ⟨_, _, _, vs, _, o, es, ep, h1, h2, _⟩ := (show ObjOk X.prog X.w H s.heap a (.frz ob (.dK kvs)) from I.hok a _ ea)
    exact ⟨_, _, PySem.W.kitx_dict, fun h' q => ⟨o, q _ _ (h_noP hP ea (fun z => by cases z) h1), h2.1⟩, (fun z => nomatch z), kit_ty k⟩
/-- whether x is a whole number above 0; a pair -/
def AbV (K : PySem.W.Frag) (H : Hp) (x : V) (b : Bool) : Prop := ∃ T b1 b2, TyX K H x (.type T) ∧ kitB T "int" = some b1 ∧ kitB T "bool" = some b2 ∧ ((b1 && !b2) = true → ∃ i, x = .int i ∧ b = decide (0 < i)) ∧ ((b1 && !b2) = false → b = false)
def PrV (K : PySem.W.Frag) (H : Hp) (x : V) (b : Bool) : Prop := ∃ T bt, TyX K H x (.type T) ∧ kitB T "tuple" = some bt ∧ (bt = false → b = false) ∧
  (bt = true → ∃ p xs, x = .ref p ∧ SqT K H p xs ∧ (xs.length ≠ 2 → b = false) ∧ (xs.length = 2 → ∃ y z by' bz, xs = [y, z] ∧ AbV K H y by' ∧ AbV K H z bz ∧ b = (by' && bz)))
theorem ab_of {x : V} {u : Value} {b : Bool} (I : Inv X pins σ H s) (hP : H P = some (tabO P)) (rx : RelV x u) (h : AbV X.K H x b) : RAbove X.K (noP s.heap P) u b := by
  obtain ⟨T, b1, b2, ty, k1, k2, h1, h2⟩ := h
  refine ⟨_, ⟨b1, b2, isI_of I hP rx ty k1, isI_of I hP rx ty k2, rfl⟩, fun e => ?_, h2⟩
  obtain ⟨i, rfl, rfl⟩ := h1 e
  obtain ⟨t, q⟩ := (show ∃ t, u = Value.int i t from rx)
  exact ⟨i, t, q, rfl⟩
theorem pr_of {x : V} {u : Value} {b : Bool} (I : Inv X pins σ H s) (hP : H P = some (tabO P)) (rx : RelV x u) (h : PrV X.K H x b) : RPair X.K (noP s.heap P) u b := by
  obtain ⟨T, bt, ty, k1, h1, h2⟩ := h
  refine ⟨bt, isI_of I hP rx ty k1, h1, fun e => ?_⟩
  obtain ⟨p, xs, rfl, hS, h3, h4⟩ := h2 e
  obtain rfl : u = Value.ref p := rx
  obtain ⟨its, rv, ht, hz⟩ := I.tuple hS
  have hlen := rv.length
  have np : p ≠ P := fun z => by
    rcases hS with (h | ⟨o, h⟩) | ⟨o, its, n, h1, _⟩
    · rw [z, hP] at h; cases h
    · rw [z, hP] at h; cases h
    · have := (I.bs p o (I.ok.mod.kin p o h1)).2
      rw [z, hP] at this; cases this
  have hz2 : sizeLine < 2 ^ 40 := by decide
  refine ⟨p, its.toArray, rfl, ?_, by rw [List.size_toArray]; omega, fun c => h3 (by rw [List.size_toArray] at c; omega), fun c => ?_⟩
  · obtain ⟨o, e1, r⟩ := ht
    exact ⟨o, noP_get np e1, r⟩
  · obtain ⟨y, z, by', bz, rfl, a1, a2, rfl⟩ := h4 (by rw [List.size_toArray] at c; omega)
    obtain ⟨u1, u2, rfl, r1, r2⟩ := vals2 rv
    exact ⟨u1, u2, by', bz, rfl, ab_of I hP r1 a1, ab_of I hP r2 a2, rfl⟩
end
end GG

set_option Elab.async false
set_option linter.all false
set_option maxRecDepth 100000
set_option maxHeartbeats 4000000
namespace GG
open PySem PySem.Spec PyProof.Rows L2
theorem pair_at {α β : Type} {F : α → β → Prop} : ∀ {xs : List α} {ys : List β} {i : Nat} {x : α}, Paired F xs ys → xs[i]? = some x → ∃ y, ys[i]? = some y ∧ F x y
  | _, _, i, x, .nil, h => by simp at h
  | _, _, 0, x, .cons r _, h => ⟨_, rfl, by rw [← Option.some.inj h]; exact r⟩
  | _, _, i + 1, x, .cons _ t, h => pair_at (i := i) t h
theorem boot_all' : bootBuiltins "all" = some (.builtin "all") := by decide +kernel
/-- the element -/
def EltQ (prog : Program) (w : World) (K : PySem.W.Frag) (mg : Str → Option Value) (scope : Scope) (x : Str) (elt : Expr) (D : Nat) (rel : Heap → Value → Bool → Prop) : Prop :=
  ∀ (cenv : Env) (A' : Around) (E' : Value → Shared → Prop) (v : Value) (b : Bool) (s₂ : Shared) (m₂ : Str → Option Value), cenv.scope = scope → QE cenv → A'.handled = none → A'.depth + D < recursionLimit → QB K mg s₂.heap → s₂.heap.Ns cenv.locals m₂ → m₂ x = some v → rel s₂.heap v b →
    wpAny (model prog w) A' (eval elt cenv) (fun y s₃ => y = .bool b ∧ Keeps s₂ s₃) E' s₂
theorem elt_call {prog : Program} {w : World} {K : PySem.W.Frag} {mg : Str → Option Value} {scope : Scope} {x fn : Str} {D : Nat} {f : Addr} {R : Heap → Value → Bool → Prop} {p1 p2 p3 : Pos} (F : QFn prog w K mg D f R) (hk : PySem.W.keepIn K (.ref f) = true)
    (hl : scope.names.lookup x = some .local) (hd : (x == ("__debug__" : Str)) = false) (g1 : scope.names.lookup fn = some .globalImplicit) (m1 : mg fn = some (.ref f)) (hfd : (fn == ("__debug__" : Str)) = false) :
    EltQ prog w K mg scope x (.Call (.Name fn p1) [.Name x p2] [] p3) D R := by
  intro cenv A' E' v b s₂ m₂ hs e hh hD B hn hm hR
  exact q_call F hh hD hk e B (by rw [hs]; exact hl) hn hm hd (by show cenv.scope.names.lookup fn = _; rw [hs]; exact g1) m1 hfd hR fun s' kp => ⟨rfl, kp⟩
section
variable {X : Cx} {pins : List (Addr × Obj)} {σ : L2.St} {H : Hp} {s : Shared}
/-- the generator g over things that are asked for bs, ready to be walked, in the state s5; H1: what was held before -/
def ReadyV (X : Cx) (pins : List (Addr × Obj)) (σ : L2.St) (H1 : Hp) (bs : List Bool) (g : Addr) (s5 : Shared) : Prop :=
  ∃ (fp wr : List Addr) (G : Array GenState → Array GenState → Prop) (F : Nat → Value → Prop) (St : Nat → Shared → Prop),
    WalksS X.prog X.w X.A.in1 g fp wr G bs.length F St ∧ St 0 s5 ∧ TruthOf X.prog X.w X.A.in1 F (fun j => bs.getD j true) ∧
    ∀ s', Moved wr G s5 s' → Inv X pins σ H1 s'
theorem gen_lstV {c P : Addr} {elt iter : Expr} {x : Str} {px gpos : Pos} {scope : Scope} {D : Nat} {rel : Heap → Value → Bool → Prop} {relV : Hp → V → Bool → Prop} {te : TE} {k : Nat} {Q' : Value → Shared → Prop} {R : List Bool → Hp → Prop}
    (hr : Room k X.A) (hD : D ≤ 3 * k + 4) (TB : GxR.TabB X.base X.mg c P) (hcode : X.env.code = .ref c) (S : GxR.GenS X.env scope x) (hi : PE X iter te) (hel : EltQ X.prog X.w X.K X.mg scope x elt D rel)
    (mono : ∀ (h h' : Heap) v b, (∀ b o, h.get? b = some o → h'.get? b = some o) → rel h v b → rel h' v b)
    (conv : ∀ (s1 : Shared) (H1 : Hp) (y : V) (u : Value) (b : Bool), Inv X pins σ H1 s1 → H1 P = some (tabO P) → RelV y u → relV H1 y b → rel (noP s1.heap P) u b)
    (hs : ∀ v, genFold iter X.env v = pure v) (I : Inv X pins σ H s) (h : te σ H fun v H1 => ∃ (yl : Addr) (xs : List V) (bs : List Bool), v = .ref yl ∧ SqL X.K H1 yl xs ∧ H1 P = some (tabO P) ∧ Paired (relV H1) xs bs ∧ R bs H1)
    (hQ : ∀ bs H1 g s5, R bs H1 → ReadyV X pins σ H1 bs g s5 → Q' (.ref g) s5) :
    wpAny (model X.prog X.w) X.A (eval (.GeneratorExp elt [⟨.Name x px, iter, [], 0⟩] scope gpos) X.env) Q' X.xe s := by
  refine wpAny_GeneratorExp_walksQD hr.hd S.co (closure_ok S.free) S.cell S.dot S.loc S.kind (by have := hr.dp; omega) ?_ hs
  refine thn (hi.run pins s σ H _ I h) fun xv s1 ⟨v, H1, I1, r1, q1⟩ => ?_
  obtain ⟨yl, xs, bs, rfl, hyl, hP, hrel, q1⟩ := q1
  obtain rfl : xv = Value.ref yl := r1
  obtain ⟨ps, hPs, ht⟩ := (show ObjOk X.prog X.w H1 s1.heap P (tabO P) from I1.hok P _ hP).1
  obtain ⟨its, rv, hl, hz⟩ := I1.list hyl
  have hIL := hl.isList
  have hlen : its.length = bs.length := by rw [← rv.length]; exact Paired.length hrel
  have hat : ∀ (i : Nat) (v : Value), its.toArray[i]? = some v → ∃ b : Bool, bs[i]? = some b ∧ rel (noP s1.heap P) v b := fun i v hv => by
    have hv2 : its[i]? = some v := by simpa using hv
    have hi2 : i < its.length := (List.getElem?_eq_some_iff.mp hv2).1
    have hx : i < xs.length := by have := rv.length; omega
    obtain ⟨u, hu, ru⟩ := rv.get (List.getElem?_eq_getElem hx)
    rw [hv2] at hu
    cases hu
    obtain ⟨b, hb, rb⟩ := pair_at hrel (List.getElem?_eq_getElem hx)
    exact ⟨b, hb, conv s1 H1 _ _ _ I1 hP ru rb⟩
  refine wpAny_pyIter_list hIL ?_
  generalize ho : ({ cls := .type "list_iterator", data := .fields #[.ref yl, .int 0 0] } : Obj) = o
  have hitr : (s1.heap.push o).IsListIter s1.heap.objs.size yl 0 := by
    subst ho
    exact ⟨_, Heap.get?_push_size _ rfl, rfl, rfl⟩
  have hylt : yl < s1.heap.objs.size := by
    obtain ⟨_, e, _⟩ := _root_.id hIL
    exact Heap.lt_size e
  have hPlt : P < s1.heap.objs.size := Heap.lt_size hPs
  have hP2 : (s1.heap.push o).get? P = some { cls := .none, data := .fields ps } := Heap.get?_push_of_some _ hPs
  have cd : PySem.W.CodeHd (s1.heap.push o) c P := TB.code.keeps fun b u e => Heap.get?_push_of_some _ (I1.bk b u e)
  have lim2 : (s1.heap.push o).NoLimit := I1.nolimit.push o
  have cont : ∀ (code : Value) (h3 : Heap) (tk : Nat) (ps' : Array Value), Heap.ExtBut P (s1.heap.push o) h3 → (s1.heap.push o).objs.size ≤ h3.objs.size → h3.get? P = some { cls := .none, data := .fields ps' } → TriplesOk ps'.toList →
      wpAny (model X.prog X.w) X.A (builtinsFor X.env.globals X.env.builtins) (fun bi s₄ =>
        ∃ Ia fp wr n₀ Pf St₀ pz F, Value.ref s1.heap.objs.size = .ref Ia ∧ (∀ A' : Around, A'.handled = none → Walks X.prog X.w A' Ia fp wr n₀ Pf St₀) ∧ St₀ 0 s₄.heap ∧ (∀ b ∈ fp, b < s₄.heap.objs.size) ∧ s₄.heap.NoLimit ∧ cStatics ∉ wr ∧
          (∀ href : Heap, (∀ b o, s₄.heap.get? b = some o → href.get? b = some o) →
            QuietGenD X.prog X.w (genEnv scope (cloFrom X.env.cells scope.names []) s₄.heap.objs.size code bi X.env) x [] elt (List.range s₄.heap.objs.size) wr Pf pz F href (X.A.depth + 1) (X.A.units + 8)) ∧
          (∀ a h₅ tk gs, gs.bare = true → s₄.heap.objs.size < a → h₅.objs.size = a + 1 → (∀ b o, s₄.heap.get? b = some o → h₅.get? b = some o) →
            WalksS X.prog X.w X.A.in4 a (a :: s₄.heap.objs.size :: List.range s₄.heap.objs.size) (s₄.heap.objs.size :: wr) (GenOnlyQ s₄.gens.size) (passing pz n₀ 0).length
              (fun j y => ∃ i, (passing pz n₀ 0)[j]? = some i ∧ F i y) (GenAt X.prog X.w X.A.in4 a s₄.gens.size s₄.heap.objs.size (List.range s₄.heap.objs.size) wr pz n₀ F) →
            GenAt X.prog X.w X.A.in4 a s₄.gens.size s₄.heap.objs.size (List.range s₄.heap.objs.size) wr pz n₀ F 0 { s₄ with gens := s₄.gens.push gs, toks := tk, heap := h₅ } →
            Q' (.ref a) { s₄ with gens := s₄.gens.push gs, toks := tk, heap := h₅ })) X.xe { s1 with heap := h3, toks := tk } := by
    intro code h3 tk ps' hx hsz hP3 ht3
    obtain ⟨bm, ob, e1, e2, e3, e4, e5, e6, e7, e8⟩ := TB.bm
    have hcP : cStatics ≠ P := fun e => by
      obtain ⟨_, hns, _⟩ := I1.nolimit
      obtain ⟨o', es, ep, ho, hd, _⟩ := hns
      rw [e, hPs] at ho
      cases ho
      cases hd
    have hcl : cStatics < s1.heap.objs.size := let ⟨_, hns, _⟩ := I1.nolimit; hns.lt
    have sz2 : (s1.heap.push o).objs.size = s1.heap.objs.size + 1 := Heap.size_push ..
    have keep3 : ∀ b u, b ≠ P → s1.heap.get? b = some u → h3.get? b = some u := fun b u hb e => hx b u hb (Heap.get?_push_of_some _ e)
    refine wpAny_builtinsFor (m := X.mg) (by rw [I1.ok.glob]; exact ((I1.mod.glob.keeps I1.bk).push o).extBut hx TB.gP) e1 e2 (keep3 _ _ e4 (I1.bk _ _ e5)) e6 e7 e8 ?_
    have hylP : yl ≠ P := fun z => by
      obtain ⟨_, e, hc1, _, hd1⟩ := _root_.id hIL
      rw [z, hPs] at e
      cases e
      cases hd1
    have hIL3 : h3.IsList yl its.toArray := by
      obtain ⟨ob, e, r⟩ := _root_.id hIL
      exact ⟨ob, keep3 _ _ hylP e, r⟩
    have hItr3 : h3.IsListIter s1.heap.objs.size yl 0 := hitr.at fun u e => hx _ u (Nat.ne_of_gt hPlt) e
    refine ⟨s1.heap.objs.size, [s1.heap.objs.size, yl], [s1.heap.objs.size], its.toArray.size, (fun i v => its.toArray[i]? = some v), (fun i h => h.IsListIter s1.heap.objs.size yl i ∧ h.IsList yl its.toArray), (fun _ => true),
      (fun i y => ∃ b : Bool, bs[i]? = some b ∧ y = .bool b), rfl, (fun A' hA => Walks.list hA _ _ (Nat.ne_of_lt hylt) _), ⟨hItr3, hIL3⟩, ?_, lim2.extBut hx hcP, ?_, ?_, ?_⟩
    · intro b hb
      rcases List.mem_cons.mp hb with z | z
      · rw [z]
        show s1.heap.objs.size < h3.objs.size
        omega
      · rcases List.mem_cons.mp z with z | z
        · rw [z]
          have e9 : s1.heap.objs.size ≤ h3.objs.size := by omega
          exact Nat.lt_of_lt_of_le hylt e9
        · cases z
    · intro z
      rcases List.mem_cons.mp z with z | z
      · exact Nat.ne_of_lt hcl z
      · cases z
    · intro href hhref
      have up : ∀ (s₂ : Shared), (∀ b ∈ List.range h3.objs.size, b ∉ [s1.heap.objs.size] → ∀ o, href.get? b = some o → s₂.heap.get? b = some o) → ∀ b o, (noP s1.heap P).get? b = some o → s₂.heap.get? b = some o := fun s₂ hk b o e => by
        obtain ⟨e1, e2⟩ := of_noP e
        have e3 := keep3 b o e2 e1
        exact hk b (List.mem_range.mpr (Heap.lt_size e3)) (by simpa using Nat.ne_of_lt (Heap.lt_size e1)) o (hhref b o e3)
      refine ⟨fun A' E' i v s₂ m₂ hA hd hu hPv hn hm hk => ?_, fun A' E' i v s₂ m₂ hA hd hu hPv hp hn hm hk => ?_⟩
      · simp only [List.forIn_nil]
        exact wpAny_pure ⟨rfl, GxR.keeps_refl _⟩
      · obtain ⟨b, hb, rb⟩ := hat i v hPv
        have hup := up s₂ hk
        have B : QB X.K X.mg s₂.heap := QB.of I1.mod fun b o e => by
          obtain ⟨g1, g2⟩ := I1.bs b o e
          exact hup b o (noP_get (fun z => by rw [z, hP] at g2; cases g2) g1)
        refine wpAny_mono (hel _ A' E' v b s₂ m₂ rfl ⟨S.kind, I1.ok.glob, rfl⟩ hA (by have := hr.dp; omega) B hn hm (mono _ _ _ _ hup rb)) (fun y s3 r => ?_) fun _ _ e => e
        obtain ⟨rfl, kp⟩ := r
        exact ⟨⟨b, hb, rfl⟩, kp⟩
    · intro g h5 tk5 gs hgb hag hsz5 hk5 W5 hgat
      simp only [GxR.passing_true, List.length_range] at W5
      have hn5 : its.toArray.size = bs.length := by rw [List.size_toArray, hlen]
      rw [hn5] at W5 hgat
      refine hQ bs H1 g _ q1 ⟨_, _, _, _, _, W5.in4_1, hgat, ?_, fun s' hm => ?_⟩
      · intro j y sj Qj Ej hy hQj
        obtain ⟨i, hij, b, hb, rfl⟩ := hy
        obtain ⟨hj, ej⟩ := List.getElem?_eq_some_iff.mp hij
        rw [List.getElem_range] at ej
        subst ej
        refine wpAny_truthy_bool ?_
        have e9 : bs.getD j true = b := by rw [List.getD_eq_getElem?_getD, hb]; rfl
        have hQ2 : Qj (bs.getD j true) sj := hQj
        rw [e9] at hQ2
        exact hQ2
      · have nwr : ∀ b u, s1.heap.get? b = some u → b ∉ h3.objs.size :: [s1.heap.objs.size] := fun b u e hb => by
          have hl := Heap.lt_size e
          rcases List.mem_cons.mp hb with z | z
          · rw [z] at hl
            have h9 : (h3.objs.size : Nat) < s1.heap.objs.size := hl
            omega
          · rcases List.mem_cons.mp z with z | z
            · rw [z] at hl
              exact Nat.lt_irrefl _ hl
            · cases z
        have J := inv_grow (h' := s'.heap) (g' := s'.gens) (d' := s'.drawn) (t' := s'.toks) I1 hP (fun b u hb e => hm.heap b u (nwr b u e) (hk5 b u (keep3 b u hb e)))
          (hm.heap P _ (nwr P _ hPs) (hk5 P _ hP3)) ht3 (AllBare.movedS (I1.bare.push hgb) hm)
        rw [GxR.sh_eta s1 s' hm.os] at J
        exact J
  refine ⟨lim2, ?_⟩
  cases hf : codeAmong gpos ps.toList with
  | none =>
    refine wpAny_genexprCodeX hcode (cd.code hP2 ht) (cd.tab hP2) hf fun c' h' tk hx hge hlt hco' _ htab' _ => ?_
    obtain ⟨o1, vs, f1, tf, fl, tg, inF, tx, tt, op, _, _, _, _, _, _, _, _, _, htr, _⟩ := hco'
    exact cont _ h' tk _ hx (Nat.le_trans hge (Nat.le_of_lt hlt)) htab'.2 htr
  | some cv =>
    refine wpAny_genexprCode_hit hcode (cd.code hP2 ht) hf ?_
    exact cont cv (s1.heap.push o) s1.toks ps (Heap.ExtBut.refl _ _) (Nat.le_refl _) hP2 ht
theorem all_getD : ∀ bs : List Bool, (List.range bs.length).all (fun j => bs.getD j true) = bs.all id := fun bs => by
  rw [Bool.eq_iff_iff, List.all_eq_true, List.all_eq_true]
  constructor
  · intro h b hb
    obtain ⟨j, hj, e⟩ := List.getElem_of_mem hb
    have q := h j (List.mem_range.mpr hj)
    rw [List.getD_eq_getElem?_getD, List.getElem?_eq_getElem hj] at q
    rw [← e]
    exact q
  · intro h j hj
    have hj' := List.mem_range.mp hj
    rw [List.getD_eq_getElem?_getD, List.getElem?_eq_getElem hj']
    exact h _ (List.getElem_mem hj')
/-- all(f(x) for x in xs) -/
def tAllG (K : PySem.W.Frag) (P : Addr) (relV : Hp → V → Bool → Prop) (te : TE) : TE := fun σ H Q => te σ H fun v H1 => ∃ (yl : Addr) (xs : List V) (bs : List Bool), v = .ref yl ∧ SqL K H1 yl xs ∧ H1 P = some (tabO P) ∧ Paired (relV H1) xs bs ∧ Q (.bl (bs.all id)) H1
theorem pe_allG {c P : Addr} {elt iter : Expr} {x : Str} {px p pos gpos : Pos} {scope : Scope} {D : Nat} {rel : Heap → Value → Bool → Prop} {relV : Hp → V → Bool → Prop} {te : TE} {k : Nat}
    (hr : Room k X.A) (hg : Gl X "all") (hm : X.mg "all" = none) (hD : D ≤ 3 * k + 4) (TB : GxR.TabB X.base X.mg c P) (hcode : X.env.code = .ref c) (S : GxR.GenS X.env scope x) (hi : PE X iter te) (hel : EltQ X.prog X.w X.K X.mg scope x elt D rel)
    (mono : ∀ (h h' : Heap) v b, (∀ b o, h.get? b = some o → h'.get? b = some o) → rel h v b → rel h' v b)
    (conv : ∀ (pins : List (Addr × Obj)) (σ : L2.St) (s1 : Shared) (H1 : Hp) (y : V) (u : Value) (b : Bool), Inv X pins σ H1 s1 → H1 P = some (tabO P) → RelV y u → relV H1 y b → rel (noP s1.heap P) u b)
    (hs : ∀ v, genFold iter X.env v = pure v)
    (he : starEach [.GeneratorExp elt [⟨.Name x px, iter, [], 0⟩] scope gpos] X.env = (false, eval (.GeneratorExp elt [⟨.Name x px, iter, [], 0⟩] scope gpos) X.env) :: starEach [] X.env := by rfl) :
    PE X (.Call (.Name "all" p) [.GeneratorExp elt [⟨.Name x px, iter, [], 0⟩] scope gpos] [] pos) (tAllG X.K P relV te) := by
  refine ⟨fun pins s σ H Q I h => ?_⟩
  refine wpAny_Call_Name_kw (ld_blt I hg hm boot_all' ?_)
  refine PyProof.Rows.callWith_builtin1 ?_ he (by rfl)
  rw [he]
  show wpAny _ _ (spliced ((false, eval (.GeneratorExp elt [⟨.Name x px, iter, [], 0⟩] scope gpos) X.env) :: backTo pos (starEach [] X.env))) _ _ s
  refine Calls.spliced_cons (gen_lstV (R := fun bs H1 => Q (.bl (bs.all id)) H1) hr hD TB hcode S hi hel mono (conv pins σ) hs I h fun bs H1 g s5 hR hG => ?_)
  obtain ⟨fp, wr, G, F, St, W, hst, htr, hI⟩ := hG
  refine Calls.spliced_nil ?_
  refine call_all_walkS (W.self 0 _ _ _ hst ⟨g, fp, wr, G, _, F, St, _, rfl, W, hst, htr, fun s' hmv => ?_⟩)
  refine ⟨.bl _, H1, hI s' hmv, rfl, ?_⟩
  rw [all_getD bs]
  exact hR
end
end GG

set_option Elab.async false
set_option linter.all false
set_option maxRecDepth 100000
set_option maxHeartbeats 4000000
namespace GG
open PySem PySem.Spec PyProof.Rows L2
/-! ### the end, with tables that may grow -/
theorem law_callG {P : Program} {w : World} {K : PySem.W.Frag} {mg mb : Str → Option Value} {CX : CXT} {k : Nat} {fa a : Addr} {cs : List (Addr × Addr)} {fd : FuncData} {x : Str} {sp : Sp} {s₁ : Shared} {vs : List Value} {ns : List Int}
    (KX : K.In s₁.heap) (hns : s₁.heap.Ns mainGlobals mg) (hb : s₁.heap.Ns builtinsNs mb) (hbb : ∀ x : Str, x ≠ "__name__" → mb x = bootBuiltins x) (hlim : s₁.heap.NoLimit) (hg : s₁.gens = #[])
    (hT : ∀ p ∈ cs, s₁.heap.get? p.2 = some { cls := .none, data := .fields #[] }) (nT : ∀ p ∈ cs, K.lookup p.2 = none) (C : ∀ p ∈ cs, PySem.W.CodeHd s₁.heap p.1 p.2)
    (hbm : ∃ (bm : Addr) (ob : Obj), mg "__builtins__" = some (.ref bm) ∧ bm ≠ builtinsNs ∧ s₁.heap.get? bm = some ob ∧ ob.cls = .type "module" ∧ ob.dict = some builtinsNs ∧ ob.data = .plain)
    (ha : s₁.heap.get? a = some { cls := .type "list", data := .seq vs.toArray }) (hi : IntsAre vs ns) (hl : ns.length ≤ sizeLine) (hr : Room k callerA)
    (F : ∀ base : Heap, K.In base → base.Ns mainGlobals mg → (∀ p ∈ cs, GxR.TabB base mg p.1 p.2) → FnOk P w K mg base CX k fa fd [x] sp) (hbind : ∀ (s : Shared) (u : Value), BindsTo s fd ⟨[u], []⟩ [(x, u)])
    (hsp : ∀ H : Hp, (∀ p ∈ cs, H p.2 = some (tabO p.2)) → SqL K H a (ns.map V.int) → sp [.ref a] H (fun v H' => v = .bl true ∧ ∀ p ∈ cs, H' p.2 = some (tabO p.2)) fun _ _ _ => False)
    (hCX : ∀ H e s', CX [] H s₁ (fun _ _ _ => False) e s' → False) :
    codeAny (model P w) callerA (.call (.ref fa) ⟨[.ref a], []⟩) (fun r s' => r = .ok (.ret (.bool true)) ∧ OldK s₁.heap s'.heap ∧ s'.os = s₁.os ∧ AllBare s'.gens) s₁ := by
  have rv := vals_ints hi
  have lenV := hi.length
  have isT : ∀ b : Addr, b ∈ cs.map (·.2) → s₁.heap.get? b = some { cls := .none, data := .fields #[] } := fun b hb => by
    obtain ⟨p, hp, e⟩ := List.mem_map.mp hb
    rw [← e]
    exact hT p hp
  have aT : a ∉ cs.map (·.2) := fun z => by
    have q := isT a z
    rw [ha] at q
    have z' : Data.seq vs.toArray _ = Data.fields #[] := congrArg Obj.data (Option.some.inj q)
    cases z'
  have memT : ∀ p ∈ cs, p.2 ∈ cs.map (·.2) := fun p hp => List.mem_map.mpr ⟨p, hp, rfl⟩
  have tabOk : ∀ (H : Hp) (b : Addr), b ∈ cs.map (·.2) → ObjOk P w H s₁.heap b (tabO b) := fun H b hb => ⟨⟨#[], isT b hb, trivial⟩, ⟨_, isT b hb⟩, fun h1 h2 ⟨ps, e, t⟩ q => ⟨ps, q _ e, t⟩⟩
  have core : ∀ H : Hp, (∀ p ∈ cs, H p.2 = some (tabO p.2)) → (∀ b, H b = none ∨ b ∈ cs.map (·.2) ∨ ∃ o xs, H b = some (.frz o (.lst xs))) → SqL K H a (ns.map V.int) → HOk P w H s₁.heap → (∀ b, H b ≠ none → b = a ∨ b ∈ cs.map (·.2)) → (H a ≠ none → K.lookup a = none) →
      codeAny (model P w) callerA (.call (.ref fa) ⟨[.ref a], []⟩) (fun r s' => r = .ok (.ret (.bool true)) ∧ OldK s₁.heap s'.heap ∧ s'.os = s₁.os ∧ AllBare s'.gens) s₁ := by
    intro H hH hO hS hok hA hK
    have base_of : ∀ {b : Addr} {o : Obj}, s₁.heap.get? b = some o → H b = none → (hidT s₁.heap H).get? b = some o := fun e n => hidT_get e n
    have noD : ∀ {b : Addr} {o : Obj}, s₁.heap.get? b = some o → (∀ vs n, o.data ≠ .seq vs n) → o.data ≠ .fields #[] → H b = none := fun {b o} e h1 h2 => by
      cases q : H b with
      | none => rfl
      | some u =>
        rcases hA b (by rw [q]; simp) with e' | e'
        · rw [e', ha] at e
          cases e
          exact (h1 _ _ rfl).elim
        · rw [isT b e'] at e
          cases e
          exact (h2 rfl).elim
    have noA : ∀ {b : Addr} {o : Obj} {es : Array DictEntry} {ep : Nat}, s₁.heap.get? b = some o → o.data = .dict es ep → H b = none := fun {b o es ep} e d => by
      refine noD e (fun vs n z => ?_) fun z => ?_
      · rw [d] at z
        cases z
      · rw [d] at z
        cases z
    have nsK : ∀ {b : Addr} {m : Str → Option Value}, s₁.heap.Ns b m → (hidT s₁.heap H).Ns b m := fun {b m} ⟨o, es, ep, e, d, r⟩ => ⟨o, es, ep, base_of e (noA e d), d, r⟩
    have hKb : K.In (hidT s₁.heap H) := fun b o e => base_of (KX b o e) (by
      cases q : H b with
      | none => rfl
      | some u =>
        rcases hA b (by rw [q]; simp) with e' | e'
        · rw [e'] at e q
          rw [hK (by rw [q]; simp)] at e
          cases e
        · obtain ⟨p, hp, ep⟩ := List.mem_map.mp e'
          rw [← ep, nT p hp] at e
          cases e)
    have hM : L2.Mod K mg (hidT s₁.heap H) := ⟨hKb, nsK hns, ⟨mb, nsK hb, hbb⟩, let ⟨mc, h1, h2⟩ := hlim; ⟨mc, nsK h1, h2⟩⟩
    have TB : ∀ p ∈ cs, GxR.TabB (hidT s₁.heap H) mg p.1 p.2 := fun p hp => by
      have hTp := hT p hp
      refine ⟨?_, ?_, fun z => ?_⟩
      · obtain ⟨o, us, file, tf, flags, tg, inF, text, tt, e1, r1, r2, r3, r4, r5, r6, r7, r8, hne⟩ := C p hp
        refine ⟨o, us, file, tf, flags, tg, inF, text, tt, base_of e1 (noD e1 (fun vs n z => ?_) fun z => ?_), r1, r2, r3, r4, r5, r6, r7, r8, hne⟩
        · rw [r2] at z
          cases z
        · rw [r2] at z
          cases z
          simp at r3
      · obtain ⟨bm, ob, b1, b2, b3, b4, b5, b6⟩ := hbm
        have nG : bm ≠ mainGlobals := fun q => by
          obtain ⟨o, es, ep, e, hd, _⟩ := hns
          rw [q, e] at b3
          cases b3
          rw [hd] at b6
          cases b6
        have nP : bm ≠ p.2 := fun q => by
          rw [q, hTp] at b3
          cases b3
          cases b6
        refine ⟨bm, ob, b1, b2, nG, nP, base_of b3 (noD b3 (fun vs n z => ?_) fun z => ?_), b4, b5, b6⟩
        · rw [b6] at z
          cases z
        · rw [b6] at z
          cases z
      · obtain ⟨o, es, ep, e, hd, _⟩ := hns
        rw [z, hTp] at e
        cases e
        cases hd
    have e0 : Env0 P w K mg (hidT s₁.heap H) callerA [] s₁ H := ⟨rfl, hM, fun b o e => of_hidT e, Nat.le_of_eq (hidT_size _ _), trivial, fun b hb => absurd (show b ∈ ([] : List Addr) from hb) (by simp), hok, .of_eq hg⟩
    refine codeAny_mono ((F _ hKb (nsK hns) TB).run callerA [] s₁ H ⟨[.ref a], []⟩ [.ref a] [.ref a] _ _ hr e0 (hbind s₁ (.ref a)) (.cons rfl .nil) (hsp H hH hS)) fun r s' h => ?_
    cases r with
    | error e => exact (hCX H e s' h).elim
    | ok fl =>
      cases fl with
      | next => exact False.elim h
      | brk => exact False.elim h
      | cont => exact False.elim h
      | ret u =>
        obtain ⟨v, H', os, bare, un, hok', r', q⟩ := h
        obtain ⟨q', qT⟩ := q
        subst q'
        obtain rfl : u = Value.bool true := r'
        have key : ∀ b o, b ∉ cs.map (·.2) → s₁.heap.get? b = some o → s'.heap.get? b = some o := fun b o nb e => by
          cases q : H b with
          | none => exact un.keep b o e q (by intro z; exact absurd (show b ∈ ([] : List Addr) from z) (by simp)) (by simp)
          | some u =>
            rcases hO b with z | z | ⟨ob, xs, z⟩
            · rw [q] at z; cases z
            · exact absurd z nb
            · have z2 := un.frzs b ob _ z
              obtain ⟨e1, _⟩ := hok b _ z
              obtain ⟨e2, _⟩ := hok' b _ z2
              rw [e] at e1; cases e1
              exact e2
        have grown : ∀ p ∈ cs, ∃ more : Array Value, s'.heap.get? p.2 = some { cls := .none, data := .fields more } := fun p hp => by
          obtain ⟨ps, e, _⟩ := (show ObjOk P w H' s'.heap p.2 (tabO p.2) from hok' p.2 _ (qT p hp)).1
          exact ⟨ps, e⟩
        refine ⟨rfl, ⟨fun b o e => ?_, fun b o e => ?_⟩, os, bare⟩
        · by_cases hb : b ∈ cs.map (·.2)
          · obtain ⟨p, hp, ep⟩ := List.mem_map.mp hb
            obtain ⟨more, hm⟩ := grown p hp
            rw [← ep] at e ⊢
            rw [hT p hp] at e
            cases e
            exact .inr (.inl ⟨((C p hp).tab (hT p hp)).isCodeTable, rfl, #[], more, rfl, by rw [Array.empty_append]; exact hm⟩)
          · exact .inl (key b o hb e)
        · by_cases hb : b ∈ cs.map (·.2)
          · obtain ⟨p, hp, ep⟩ := List.mem_map.mp hb
            obtain ⟨more, hm⟩ := grown p hp
            rw [← ep]
            exact ⟨_, hm⟩
          · exact ⟨o, key b o hb e⟩
  cases hk : K.lookup a with
  | some o =>
    have e := KX a o hk
    rw [ha] at e
    cases e
    refine core (fun b => if b ∈ cs.map (·.2) then some (tabO b) else none) (fun p hp => if_pos (memT p hp)) (fun b => ?_) (.inr ⟨_, vs.toArray, _, hk, rfl, rfl, rfl, by rw [List.size_toArray, lenV]; exact hl, by simpa using rv⟩) (fun b u z => ?_) (fun b z => ?_) fun z => absurd (show (if a ∈ cs.map (·.2) then some (tabO a) else none) = none from if_neg aT) z
    · by_cases hb : b ∈ cs.map (·.2)
      · exact .inr (.inl hb)
      · exact .inl (if_neg hb)
    · by_cases hb : b ∈ cs.map (·.2)
      · have z' := (if_pos hb).symm.trans z
        cases z'
        exact tabOk _ b hb
      · have z' := (if_neg hb).symm.trans z
        cases z'
    · by_cases hb : b ∈ cs.map (·.2)
      · exact .inr hb
      · exact absurd (if_neg hb) z
  | none =>
    refine core (fun b => if b = a then some (.frz { cls := .type "list", data := .seq vs.toArray } (.lst (ns.map V.int))) else if b ∈ cs.map (·.2) then some (tabO b) else none) (fun p hp => (if_neg (show ¬ p.2 = a from fun z => aT (by rw [← z]; exact memT p hp))).trans (if_pos (memT p hp))) (fun b => ?_)
      (.inl (.inr ⟨{ cls := .type "list", data := .seq vs.toArray }, if_pos rfl⟩)) (fun b u z => ?_) (fun b z => ?_) fun _ => hk
    · by_cases hb : b = a
      · exact .inr (.inr ⟨_, _, if_pos hb⟩)
      · by_cases hb2 : b ∈ cs.map (·.2)
        · exact .inr (.inl hb2)
        · exact .inl ((if_neg hb).trans (if_neg hb2))
    · by_cases hb : b = a
      · have z' := (if_pos hb).symm.trans z
        cases z'
        rw [hb]
        exact ⟨ha, by rw [List.length_map]; exact hl, vs, _, rv, ha⟩
      · have z1 := (if_neg hb).symm.trans z
        by_cases hb2 : b ∈ cs.map (·.2)
        · have z' := (if_pos hb2).symm.trans z1
          cases z'
          exact tabOk _ b hb2
        · have z' := (if_neg hb2).symm.trans z1
          cases z'
    · by_cases hb : b = a
      · exact .inl hb
      · by_cases hb2 : b ∈ cs.map (·.2)
        · exact .inr hb2
        · exact absurd ((if_neg hb).trans (if_neg hb2)) z
/-- where the code object and the table of the def called x stand -/
def TabOf (K : PySem.W.Frag) (mg : Str → Option Value) (h : Heap) (x : Str) (c P : Addr) : Prop :=
  (∀ (f : Addr) (o : Obj) (fd : FuncData), mg x = some (.ref f) → K.lookup f = some o → o.data = .func fd → fd.code = .ref c) ∧ PySem.W.CodeHd h c P ∧ h.get? P = some { cls := .none, data := .fields #[] } ∧ K.lookup P = none
theorem walk_ofG {l : PySem.W.OpenLaw} {n k : Nat} {q : Program} {loose : List Str} {XP : (Str → Option Value) → Heap → Prop} {YP : World → Heap → Prop} {d : DefRec} {K : Params → PySem.W.Frag} {CX : World → CXT} {sp : World → List Addr → Sp} {x : Str} {xs : List Str}
    (hn : l.most = some n) (hn2 : n ≤ sizeLine) (hdf : d.params.defaults = []) (hr : Room k callerA) (hrec : (xs.all fun y => (recsOf q).any fun e => e.name == y) = true)
    (hY : ∀ (w : World) (h : Heap), YP w h → (K w.params).In h) (hnt : ∀ w : World, PySem.W.noTabs (K w.params) = true)
    (F : ∀ (w : World) (mg : Str → Option Value) (fa : Addr) (h : Heap) (cs : List (Addr × Addr)), (K w.params).In h → h.Ns mainGlobals mg → mg d.name = some (.ref fa) → Paired (fun y p => TabOf (K w.params) mg h y p.1 p.2) xs cs →
      ∃ fd : FuncData, (∀ (s : Shared) (u : Value), BindsTo s fd ⟨[u], []⟩ [(x, u)]) ∧
        ∀ base : Heap, (K w.params).In base → base.Ns mainGlobals mg → (∀ p ∈ cs, GxR.TabB base mg p.1 p.2) → FnOk l.prog w (K w.params) mg base (CX w) k fa fd [x] (sp w (cs.map (·.2))))
    (hsp : ∀ (w : World) (H : Hp) (a : Addr) (ns : List Int) (ps : List Addr), ns.length ≤ n → (∀ z ∈ ns, Builtin.Int.intBits z ≤ 1048576) → (∀ p ∈ ps, H p = some (tabO p)) → SqL (K w.params) H a (ns.map V.int) → sp w ps [.ref a] H (fun v H' => v = .bl true ∧ ∀ p ∈ ps, H' p = some (tabO p)) fun _ _ _ => False)
    (hCX : ∀ (w : World) (H : Hp) (s : Shared) (e : Value) (s' : Shared), CX w [] H s (fun _ _ _ => False) e s' → False) :
    PySem.W.WalkO q loose XP YP l.row.toRowW d [] (fun f vs => PySem.call f vs) := by
  refine Att.attach_callB hn hdf fun w s₀ s₁ mg mb fa o pm cd doc a vs ns G Y ho hd hcd hmg hobj hints hlen hbits hg => ?_
  have KX := hY w _ Y
  have tabs : ∀ ys : List Str, (∀ y ∈ ys, ((recsOf q).any fun e => e.name == y) = true) → ∃ cs : List (Addr × Addr), Paired (fun y p => TabOf (K w.params) mg s₁.heap y p.1 p.2) ys cs := by
    intro ys
    induction ys with
    | nil => exact fun _ => ⟨[], .nil⟩
    | cons y ys ih =>
      intro hy
      obtain ⟨cs, hc⟩ := ih fun z hz => hy z (List.mem_cons_of_mem _ hz)
      obtain ⟨dL, hm, hn1⟩ := List.any_eq_true.mp (hy y List.mem_cons_self)
      have hn2 : dL.name = y := beq_iff_eq.mp hn1
      obtain ⟨a', o', fd', c', P', h1, h2, h3, h4, h5, h6⟩ := G.T.tab dL hm
      rw [hn2] at h1
      refine ⟨(c', P') :: cs, .cons ⟨fun f o fd e1 e2 e3 => ?_, PySem.W.CodeHd.of h5 h6, h6.2, ?_⟩ hc⟩
      · rw [h1] at e1
        cases e1
        have g1 := KX _ _ e2
        rw [h2] at g1
        cases g1
        rw [h3] at e3
        cases e3
        exact h4
      · cases e : (K w.params).lookup P' with
        | none => rfl
        | some o =>
          have g1 := KX _ _ e
          rw [h6.2] at g1
          cases g1
          have h2 := List.all_eq_true.mp (hnt w) _ (PySem.W.mem_of_lookupK e)
          exact absurd (show false = true from h2) Bool.false_ne_true
  obtain ⟨cs, hcs⟩ := tabs xs (List.all_eq_true.mp hrec)
  have all : ∀ p ∈ cs, PySem.W.CodeHd s₁.heap p.1 p.2 ∧ s₁.heap.get? p.2 = some { cls := .none, data := .fields #[] } ∧ (K w.params).lookup p.2 = none := by
    clear hsp F
    clear hrec
    induction hcs with
    | nil => intro p hp; cases hp
    | cons r t ih =>
      intro p hp
      rcases List.mem_cons.mp hp with e | hp
      · rw [e]; exact r.2
      · exact ih p hp
  obtain ⟨fd, hb, hF⟩ := F w mg fa _ cs KX G.T.g hmg hcs
  exact law_callG (cs := cs) KX G.T.g G.T.b G.T.builtins G.T.nolimit hg (fun p hp => (all p hp).2.1) (fun p hp => (all p hp).2.2) (fun p hp => (all p hp).1) G.T.bmain hobj hints (Nat.le_trans hlen hn2) hr hF hb
    (fun H hH hS => by
      have := hsp w H a ns (cs.map (·.2)) hlen hbits (fun p hp => by
        obtain ⟨q, hq, e⟩ := List.mem_map.mp hp
        rw [← e]
        exact hH q hq) hS
      have e : (fun (v : V) (H' : Hp) => v = .bl true ∧ ∀ p ∈ cs.map (·.2), H' p = some (tabO p)) = (fun v H' => v = .bl true ∧ ∀ p ∈ cs, H' p.2 = some (tabO p.2)) := by
        funext v H'
        refine propext ⟨fun h => ⟨h.1, fun p hp => h.2 p.2 (List.mem_map.mpr ⟨p, hp, rfl⟩)⟩, fun h => ⟨h.1, fun p hp => ?_⟩⟩
        obtain ⟨q, hq, e⟩ := List.mem_map.mp hp
        rw [← e]
        exact h.2 q hq
      rw [e] at this
      exact this) fun H e s' => hCX w H s₁ e s'
end GG
namespace GG
open PySem PySem.Spec PyProof.Rows L2 Evl
/-- a def whose code object's table may grow -/
structure TabAt (mg : Str → Option Value) (base : Heap) (fd : FuncData) where
  c : Addr
  P : Addr
  tb : GxR.TabB base mg c P
  code : fd.code = .ref c
theorem okC {P : Program} {w : World} {K : PySem.W.Frag} {mg : Str → Option Value} {base : Heap} {x qual : Str} {st : Stmt} {f : Addr} {fd : FuncData} {N ps : List Str} {k : Nat} {sp : Sp} (F : Fun K x qual st f fd) (S : FnScope N ps (defScope st)) (len : ∀ vs H Q E, sp vs H Q E → vs.length = ps.length)
    (hbody : ∀ (cdv : Value) (A : Around) (outer : List Env) (s : Shared) (H : Hp) (vs : List V) (Q : VK) (E : XK), fd.code = cdv → Room k (A.deeper (envOfC qual (defScope st) s.heap.objs.size f cdv)) → sp vs H Q E →
      ∃ t, PSs (cxOf CX0 P w K mg base N qual (defScope st) f cdv A outer s H E).nox (defBody st) t ∧ t { nx := fun _ H' => Q .non H', rt := Q } (start N vs) H) : FnOk P w K mg base CX0 (k + 1) f fd ps sp := by
  obtain ⟨oc, od, kV, doc, pm, an, cdv, ct, osl, rfl, lk, hcd⟩ := F.ex
  refine fn_of lk hcd S len fun A outer s H vs Q E hr hsp => ?_
  obtain ⟨t, h, q⟩ := hbody cdv A outer s H vs Q E rfl hr hsp
  exact ⟨t, h.nox, q⟩
theorem ev_allG {K : PySem.W.Frag} {P yl : Addr} {relV : Hp → V → Bool → Prop} {σ : L2.St} {H : Hp} {te : TE} {xs : List V} {bs : List Bool} (ha : Ev te σ H (.ref yl)) (hS : SqL K H yl xs) (hP : H P = some (tabO P)) (hp : ∀ H1, Ex H H1 → Paired (relV H1) xs bs) :
    Ev (tAllG K P relV te) σ H (.bl (bs.all id)) := fun H1 e Q q => ha H1 e _ fun H2 e2 => ⟨yl, xs, bs, rfl, ex_l (e.trans e2) hS, (e.trans e2) P _ hP, hp H2 (e.trans e2), q H2 e2⟩
end GG

set_option Elab.async false
set_option linter.all false
set_option maxRecDepth 100000
set_option maxHeartbeats 4000000
set_option exponentiation.threshold 300
namespace Mt
open PySem PySem.Spec PyProof.Rows L2 Evl KM KR
def topS (i : Nat) : Stmt := PySem.Challenge.pw_manytimes_k04_whole_rows.main.body.getD i (.Pass ⟨0, 0, 0, 0⟩)
abbrev s_is_whole : Stmt := topS 5
theorem sc_is_whole : FnScope ["value"] ["value"] (defScope s_is_whole) := ⟨rfl, rfl, rfl, by decide +kernel, rfl, by decide +kernel, by decide +kernel⟩
-- is_whole: 0 value
abbrev s_is_above_zero : Stmt := topS 6
theorem sc_is_above_zero : FnScope ["value"] ["value"] (defScope s_is_above_zero) := ⟨rfl, rfl, rfl, by decide +kernel, rfl, by decide +kernel, by decide +kernel⟩
-- is_above_zero: 0 value
abbrev s_is_pair : Stmt := topS 7
theorem sc_is_pair : FnScope ["value", "first", "second"] ["value"] (defScope s_is_pair) := ⟨rfl, rfl, rfl, by decide +kernel, rfl, by decide +kernel, by decide +kernel⟩
-- is_pair: 0 value 1 first 2 second
abbrev s_lesser_and_greater : Stmt := topS 8
theorem sc_lesser_and_greater : FnScope ["pair", "first", "second"] ["pair"] (defScope s_lesser_and_greater) := ⟨rfl, rfl, rfl, by decide +kernel, rfl, by decide +kernel, by decide +kernel⟩
-- lesser_and_greater: 0 pair 1 first 2 second
abbrev s_quotients : Stmt := topS 12
theorem sc_quotients : FnScope ["pair", "lesser", "greater", "row", "times", "left"] ["pair"] (defScope s_quotients) := ⟨rfl, rfl, rfl, by decide +kernel, rfl, by decide +kernel, by decide +kernel⟩
-- quotients: 0 pair 1 lesser 2 greater 3 row 4 times 5 left
abbrev s_is_row : Stmt := topS 11
theorem sc_is_row : FnScope ["value"] ["value"] (defScope s_is_row) := ⟨rfl, rfl, rfl, by decide +kernel, rfl, by decide +kernel, by decide +kernel⟩
-- is_row: 0 value
abbrev s_pair_of : Stmt := topS 13
theorem sc_pair_of : FnScope ["row", "common", "lesser", "greater", "times"] ["row", "common"] (defScope s_pair_of) := ⟨rfl, rfl, rfl, by decide +kernel, rfl, by decide +kernel, by decide +kernel⟩
-- pair_of: 0 row 1 common 2 lesser 3 greater 4 times
abbrev s_shortest : Stmt := topS 14
theorem sc_shortest : FnScope ["pair", "row", "_"] ["pair"] (defScope s_shortest) := ⟨rfl, rfl, rfl, by decide +kernel, rfl, by decide +kernel, by decide +kernel⟩
-- shortest: 0 pair 1 row 2 _
abbrev s_longest : Stmt := topS 15
theorem sc_longest : FnScope ["pair", "row", "_"] ["pair"] (defScope s_longest) := ⟨rfl, rfl, rfl, by decide +kernel, rfl, by decide +kernel, by decide +kernel⟩
-- longest: 0 pair 1 row 2 _
abbrev s_l_number : Stmt := topS 17
theorem sc_l_number : FnScope ["_law_cell", "_law_at", "_law_whole_here", "_law_mixed", "_law_more"] ["_law_cell", "_law_at", "_law_whole_here"] (defScope s_l_number) := ⟨rfl, rfl, rfl, by decide +kernel, rfl, by decide +kernel, by decide +kernel⟩
-- l_number: 0 _law_cell 1 _law_at 2 _law_whole_here 3 _law_mixed 4 _law_more
abbrev s_l_pair : Stmt := topS 18
theorem sc_l_pair : FnScope ["_law_script", "_law_at", "_law_cells", "_law_whole_here", "_law_number_here", "_law_wide", "_law_one", "_law_other", "_law_kind", "_law_turn"] ["_law_script", "_law_at"] (defScope s_l_pair) := ⟨rfl, rfl, rfl, by decide +kernel, rfl, by decide +kernel, by decide +kernel⟩
-- l_pair: 0 _law_script 1 _law_at 2 _law_cells 3 _law_whole_here 4 _law_number_here 5 _law_wide 6 _law_one 7 _law_other 8 _law_kind 9 _law_turn
abbrev s_l_whole : Stmt := topS 22
theorem sc_l_whole : FnScope ["_law_number_here"] ["_law_number_here"] (defScope s_l_whole) := ⟨rfl, rfl, rfl, by decide +kernel, rfl, by decide +kernel, by decide +kernel⟩
-- l_whole: 0 _law_number_here
abbrev s_l_is_pair : Stmt := topS 23
theorem sc_l_is_pair : FnScope ["_law_found", "_law_one"] ["_law_found"] (defScope s_l_is_pair) := ⟨rfl, rfl, rfl, by decide +kernel, rfl, by decide +kernel, by decide +kernel⟩
-- l_is_pair: 0 _law_found 1 _law_one
abbrev s_l_row : Stmt := topS 25
theorem sc_l_row : FnScope ["_law_pair_here", "_law_high", "_law_low", "_law_found"] ["_law_pair_here"] (defScope s_l_row) := ⟨rfl, rfl, rfl, by decide +kernel, rfl, by decide +kernel, by decide +kernel⟩
-- l_row: 0 _law_pair_here 1 _law_high 2 _law_low 3 _law_found
abbrev s_l_pair_right : Stmt := topS 26
theorem sc_l_pair_right : FnScope ["_law_pair_here", "_law_row_here", "_law_common", "_law_found", "_law_handed", "_law_back", "_law_few", "_law_many", "_law_one"] ["_law_pair_here"] (defScope s_l_pair_right) := ⟨rfl, rfl, rfl, by decide +kernel, rfl, by decide +kernel, by decide +kernel⟩
-- l_pair_right: 0 _law_pair_here 1 _law_row_here 2 _law_common 3 _law_found 4 _law_handed 5 _law_back 6 _law_few 7 _law_many 8 _law_one
abbrev s_l_row_right : Stmt := topS 27
theorem sc_l_row_right : FnScope ["_law_row_here", "_law_common", "_law_high", "_law_low", "_law_one", "_law_handed", "_law_found"] ["_law_row_here", "_law_common"] (defScope s_l_row_right) := ⟨rfl, rfl, rfl, by decide +kernel, rfl, by decide +kernel, by decide +kernel⟩
-- l_row_right: 0 _law_row_here 1 _law_common 2 _law_high 3 _law_low 4 _law_one 5 _law_handed 6 _law_found
abbrev s_law : Stmt := topS 28
theorem sc_law : FnScope ["_law_script", "_law_whole_here", "_law_cells", "_law_at", "_law_wide", "_law_row_here", "_law_common", "_law_some", "_law_cell"] ["_law_script"] (defScope s_law) := ⟨rfl, rfl, rfl, by decide +kernel, rfl, by decide +kernel, by decide +kernel⟩
-- law: 0 _law_script 1 _law_whole_here 2 _law_cells 3 _law_at 4 _law_wide 5 _law_row_here 6 _law_common 7 _law_some 8 _law_cell
structure Txt (K : PySem.W.Frag) (mg : Str → Option Value) (base : Heap) where
  is_whole : DefAt K mg "is_whole" s_is_whole ["value"]
  is_above_zero : DefAt K mg "is_above_zero" s_is_above_zero ["value"]
  is_pair : DefAt K mg "is_pair" s_is_pair ["value"]
  lesser_and_greater : DefAt K mg "lesser_and_greater" s_lesser_and_greater ["pair"]
  quotients : DefAt K mg "quotients" s_quotients ["pair"]
  is_row : DefAt K mg "is_row" s_is_row ["value"]
  pair_of : DefAt K mg "pair_of" s_pair_of ["row", "common"]
  shortest : DefAt K mg "shortest" s_shortest ["pair"]
  longest : DefAt K mg "longest" s_longest ["pair"]
  l_number : DefAt K mg "_law_number" s_l_number ["_law_cell", "_law_at", "_law_whole_here"]
  l_pair : DefAt K mg "_law_pair" s_l_pair ["_law_script", "_law_at"]
  l_whole : DefAt K mg "_law_whole" s_l_whole ["_law_number_here"]
  l_is_pair : DefAt K mg "_law_is_pair" s_l_is_pair ["_law_found"]
  l_row : DefAt K mg "_law_row" s_l_row ["_law_pair_here"]
  l_pair_right : DefAt K mg "_law_pair_right" s_l_pair_right ["_law_pair_here"]
  l_row_right : DefAt K mg "_law_row_right" s_l_row_right ["_law_row_here", "_law_common"]
  n_all : mg "all" = none
  n_bool : mg "bool" = none
  n_divmod : mg "divmod" = none
  n_enumerate : mg "enumerate" = none
  n_int : mg "int" = none
  n_isinstance : mg "isinstance" = none
  n_len : mg "len" = none
  n_list : mg "list" = none
  n_max : mg "max" = none
  n_min : mg "min" = none
  n_range : mg "range" = none
  n_reversed : mg "reversed" = none
  n_sum : mg "sum" = none
  n_tuple : mg "tuple" = none
  t_LONGEST_ROW : Tok
  c_LONGEST_ROW : mg "LONGEST_ROW" = some (.int 1000 t_LONGEST_ROW)
  z_is_row : GG.TabAt mg base is_row.fd
/-! ### the promises -/
def sp_is_whole : Sp := fun vs H Q _ => ∃ i : Int, vs = [.int i] ∧ RetV (.bl true) H Q
def sp_is_above_zero : Sp := fun vs H Q _ => ∃ i : Int, vs = [.int i] ∧ RetV (.bl (decide (0 < i))) H Q
def sp_is_pair (K : PySem.W.Frag) : Sp := fun vs H Q _ => ∃ (p : Addr) (a b : Int), vs = [.ref p] ∧ SqT K H p [.int a, .int b] ∧ RetV (.bl (decide (0 < a) && decide (0 < b))) H Q
def sp_lesser_and_greater (K : PySem.W.Frag) : Sp := fun vs H Q _ => ∃ (p : Addr) (a b : Int), vs = [.ref p] ∧ SqT K H p [.int a, .int b] ∧ 0 < a ∧ 0 < b ∧ RetU [.int (mnF a b), .int (mxF a b)] H Q
section
variable {P : Program} {w : World} {K : PySem.W.Frag} {mg : Str → Option Value} {base : Heap}
theorem ok_is_whole (T : Txt K mg base) : FnOk P w K mg base CX0 1 T.is_whole.f T.is_whole.fd ["value"] sp_is_whole := by
  refine T.is_whole.F.ok sc_is_whole (fun vs H Q E h => ?_) (fun cdv A outer s H vs Q E hr h => ?_)
  · obtain ⟨i, rfl, _⟩ := h; rfl
  · obtain ⟨i, rfl, q⟩ := h
    refine ⟨_, (pss_one (ps_ret (pe_and (pe_callB call_isi (by rfl) T.n_isinstance (by decide +kernel) (pa_cons (pv 0) (pa_cons (pe_bltn (v := .ty "int") (by rfl) T.n_int (by decide +kernel) rfl) pa_nil))) (pe_one (pe_not (pe_callB call_isi (by rfl) T.n_isinstance (by decide +kernel) (pa_cons (pv 0) (pa_cons (pe_bltn (v := .ty "bool") (by rfl) T.n_bool (by decide +kernel) rfl) pa_nil)))))))), ?_⟩
    exact s_ret (ev_andV (ev_cb (ea_cons (ev_var rfl) (ea_cons ev_c ea_nil)) (rc_isi_int (b := true) (by decide +kernel))) fun _ => ev_notV (ev_cb (ea_cons (ev_var rfl) (ea_cons ev_c ea_nil)) (rc_isi_int (b := false) (by decide +kernel)))) q
theorem ok_is_above_zero (T : Txt K mg base) : FnOk P w K mg base CX0 2 T.is_above_zero.f T.is_above_zero.fd ["value"] sp_is_above_zero := by
  refine T.is_above_zero.F.ok sc_is_above_zero (fun vs H Q E h => ?_) (fun cdv A outer s H vs Q E hr h => ?_)
  · obtain ⟨i, rfl, _⟩ := h; rfl
  · obtain ⟨i, rfl, q⟩ := h
    refine ⟨_, (pss_one (ps_ret (pe_and (pe_call (ok_is_whole T) (hr.mono (by omega)) (by rfl) T.is_whole.g T.is_whole.F.kp T.is_whole.b .nil pass0 (pa_cons (pv 0) pa_nil)) (pe_one (pe_cmpR op_gt (pv 0) pe_int (nomark _)))))), ?_⟩
    exact s_ret (ev_andV (a := true) (ev_call (ea_cons (ev_var rfl) ea_nil) fun H1 e Q q E => ⟨i, rfl, q⟩) fun _ => ev_op (ev_var rfl) ev_c rv_I0) q
theorem spv_above {i : Int} {H : Hp} : SpV sp_is_above_zero [.int i] H (.bl (decide (0 < i))) := fun H1 e Q q E => ⟨i, rfl, q⟩
theorem ok_is_pair (T : Txt K mg base) : FnOk P w K mg base CX0 3 T.is_pair.f T.is_pair.fd ["value"] (sp_is_pair K) := by
  refine T.is_pair.F.ok sc_is_pair (fun vs H Q E h => ?_) (fun cdv A outer s H vs Q E hr h => ?_)
  · obtain ⟨p, a, b, rfl, _⟩ := h; rfl
  · obtain ⟨p, a, b, rfl, hp, q⟩ := h
    refine ⟨_, (pss_cons (ps_if (PW.pt (pw_or (pt_not (pt_val (pe_callB call_isi (by rfl) T.n_isinstance (by decide +kernel) (pa_cons (pv 0) (pa_cons (pe_bltn (v := .ty "tuple") (by rfl) T.n_tuple (by decide +kernel) rfl) pa_nil))))) (pw_or1 (pt_cmpR op_ne (pe_callB call_len_seq (by rfl) T.n_len (by decide +kernel) (pa_cons (pv 0) pa_nil)) pe_int (nomark _))))) (pss_one (ps_ret pe_bl)) pss_nil)
      (pss_cons (ps_asg (pv 0) (pg_tup rfl (pgs_cons (pg_name (i := 1) sc_is_pair.nd rfl (by first | exact .inl rfl | exact .inr rfl)) (pgs_cons (pg_name (i := 2) sc_is_pair.nd rfl (by first | exact .inl rfl | exact .inr rfl)) pgs_nil))))
      (pss_one (ps_ret (pe_and (pe_call (ok_is_above_zero T) (hr.mono (by omega)) (by rfl) T.is_above_zero.g T.is_above_zero.F.kp T.is_above_zero.b .nil pass0 (pa_cons (pv 1) pa_nil)) (pe_one (pe_call (ok_is_above_zero T) (hr.mono (by omega)) (by rfl) T.is_above_zero.g T.is_above_zero.F.kp T.is_above_zero.b .nil pass0 (pa_cons (pv 2) pa_nil)))))))), ?_⟩
    refine q_when (b := false) (et_or_ff (et_not (a := true) (et_B (ev_cb (ea_cons (ev_var rfl) (ea_cons ev_c ea_nil)) (rc_isi_tup hp (by decide +kernel))))) (et_test (ev_op (ev_cb (ea_cons (ev_var rfl) ea_nil) (rc_lenT hp)) ev_c (rv_ne rfl)))) (fun z => nomatch z) fun _ H1 e1 => ?_
    refine q_unT (ev_var rfl) (ex_t e1 hp) fun H2 e2 => ?_
    exact s_ret (ev_andV (ev_call (ea_cons (ev_var rfl) ea_nil) spv_above) fun _ => ev_call (ea_cons (ev_var rfl) ea_nil) spv_above) fun H3 e3 => q H3 ((e1.trans e2).trans e3)
theorem spv_pair {p : Addr} {a b : Int} {H : Hp} (hp : SqT K H p [.int a, .int b]) : SpV (sp_is_pair K) [.ref p] H (.bl (decide (0 < a) && decide (0 < b))) := fun H1 e Q q E => ⟨p, a, b, rfl, ex_t e hp, q⟩
theorem ok_lesser_and_greater (T : Txt K mg base) : FnOk P w K mg base CX0 4 T.lesser_and_greater.f T.lesser_and_greater.fd ["pair"] (sp_lesser_and_greater K) := by
  refine T.lesser_and_greater.F.ok sc_lesser_and_greater (fun vs H Q E h => ?_) (fun cdv A outer s H vs Q E hr h => ?_)
  · obtain ⟨p, a, b, rfl, _⟩ := h; rfl
  · obtain ⟨p, a, b, rfl, hp, ha, hb, q⟩ := h
    refine ⟨_, (pss_cons (ps_if (pt_not (pt_val (pe_call (ok_is_pair T) (hr.mono (by omega)) (by rfl) T.is_pair.g T.is_pair.F.kp T.is_pair.b .nil pass0 (pa_cons (pv 0) pa_nil)))) (pss_one ps_never) pss_nil)
      (pss_cons (ps_asg (pv 0) (pg_tup rfl (pgs_cons (pg_name (i := 1) sc_lesser_and_greater.nd rfl (by first | exact .inl rfl | exact .inr rfl)) (pgs_cons (pg_name (i := 2) sc_lesser_and_greater.nd rfl (by first | exact .inl rfl | exact .inr rfl)) pgs_nil))))
      (pss_cons (ps_if (pt_cmpR op_le (pv 1) (pv 2) (nomark _)) (pss_one (ps_ret (pe_tup (pa_cons (pv 1) (pa_cons (pv 2) pa_nil))))) pss_nil)
      (pss_one (ps_ret (pe_tup (pa_cons (pv 2) (pa_cons (pv 1) pa_nil)))))))), ?_⟩
    refine q_when (b := false) (et_is (et_not (et_B (ev_call (ea_cons (ev_var rfl) ea_nil) (spv_pair hp)))) (by simp [ha, hb])) (fun z => nomatch z) fun _ H1 e1 => ?_
    refine q_unT (ev_var rfl) (ex_t e1 hp) fun H2 e2 => ?_
    refine q_when (et_test (ev_op (ev_var rfl) (ev_var rfl) rv_I0)) (fun z H3 e3 => ?_) (fun z H3 e3 => ?_)
    · have z1 : a ≤ b := of_decide_eq_true z
      unfold mnF mxF at q
      rw [if_pos z1, if_pos z1] at q
      exact s_retU (eu_tup (ea_cons (ev_var rfl) (ea_cons (ev_var rfl) ea_nil)) (by show 2 ≤ 100000; decide)) fun p H4 hp' e4 h4 => RetU.go q ((e1.trans e2).trans e3) hp' e4 h4
    · have z1 : ¬ a ≤ b := of_decide_eq_false z
      unfold mnF mxF at q
      rw [if_neg z1, if_neg z1] at q
      exact s_retU (eu_tup (ea_cons (ev_var rfl) (ea_cons (ev_var rfl) ea_nil)) (by show 2 ≤ 100000; decide)) fun p H4 hp' e4 h4 => RetU.go q ((e1.trans e2).trans e3) hp' e4 h4
theorem spu_lg {p : Addr} {a b : Int} {H : Hp} (hp : SqT K H p [.int a, .int b]) (ha : 0 < a) (hb : 0 < b) : SpU (sp_lesser_and_greater K) [.ref p] H [.int (mnF a b), .int (mxF a b)] := fun H1 e Q q E => ⟨p, a, b, rfl, ex_t e hp, ha, hb, q⟩
end
/-! ### a number by a cell -/
def mixF (c k w : Int) : Int := ((c + 977 * k) * 48271 + w) % 2147483647
def numF (c k w : Int) : Int := if (10 : Int) ^ (18 : Int).toNat ≤ c then c / (1 + k % 7) else
  mixF c k w * (c + 31 * k + 7) * (mixF c k w + c + 5) * (mixF c k w * mixF c k w + 11) / (1009 + k)
def sp_l_number : Sp := fun vs H Q _ => ∃ c k w : Int, vs = [.int c, .int k, .int w] ∧ W 1048576 c ∧ 0 ≤ k ∧ k ≤ 100 ∧ RetV (.int (numF c k w)) H Q
section
variable {P : Program} {w : World} {K : PySem.W.Frag} {mg : Str → Option Value} {base : Heap}
theorem ok_l_number (T : Txt K mg base) : FnOk P w K mg base CX0 1 T.l_number.f T.l_number.fd ["_law_cell", "_law_at", "_law_whole_here"] sp_l_number := by
  refine T.l_number.F.ok sc_l_number (fun vs H Q E h => ?_) (fun cdv A outer s H vs Q E hr h => ?_)
  · obtain ⟨c, k, w, rfl, _⟩ := h; rfl
  · obtain ⟨c, k, wh, rfl, hc, k0, k1, q⟩ := h
    refine ⟨_, (pss_cons (ps_if (pt_cmpR op_ge (pv 0) (pe_op op_pow pe_int pe_int) (nomark _)) (pss_one (ps_ret (pe_op op_fdivW (pv 0) (pe_op op_add pe_int (pe_op op_mod (pv 1) pe_int))))) pss_nil)
      (pss_cons (ps_set (i := 3) sc_l_number.nd rfl (by first | exact .inl rfl | exact .inr rfl) (pe_op op_mod (pe_op op_add (pe_op op_mulX (pe_op op_add (pv 0) (pe_op op_mulX pe_int (pv 1))) pe_int) (pv 2)) pe_int))
      (pss_cons (ps_set (i := 4) sc_l_number.nd rfl (by first | exact .inl rfl | exact .inr rfl) (pe_op op_mulX (pv 3) (pe_op op_add (pe_op op_add (pv 0) (pe_op op_mulX pe_int (pv 1))) pe_int)))
      (pss_one (ps_ret (pe_op op_fdivW (pe_op op_mulX (pe_op op_mulX (pv 4) (pe_op op_add (pe_op op_add (pv 3) (pv 0)) pe_int)) (pe_op op_add (pe_op op_mulX (pv 3) (pv 3)) pe_int)) (pe_op op_add pe_int (pv 1)))))))), ?_⟩
    have a1 : W 32 (977 * k) := W.small (by omega) (by omega)
    have a2 : W 1048577 (c + 977 * k) := hc.add (a1.mono (by decide))
    have m0 := Int.emod_nonneg ((c + 977 * k) * 48271 + wh) (show (2147483647 : Int) ≠ 0 by decide)
    have m1 := Int.emod_lt_of_pos ((c + 977 * k) * 48271 + wh) (show (0 : Int) < 2147483647 by decide)
    have m2 : W 32 (mixF c k wh) := W.small m0 (by unfold mixF; omega)
    have a3 : W 1048577 (c + 31 * k) := hc.add ((W.small (x := 31 * k) (by omega) (by omega)).mono (by decide))
    have a4 : W 1048578 (c + 31 * k + 7) := a3.add ((W.small (x := 7) (by decide) (by decide)).mono (by decide))
    have a5 : W (32 + 1048578) (mixF c k wh * (c + 31 * k + 7)) := m2.mul a4
    have a6 : W 1048577 (mixF c k wh + c) := (m2.mono (by decide)).add hc
    have a7 : W 1048578 (mixF c k wh + c + 5) := a6.add ((W.small (x := 5) (by decide) (by decide)).mono (by decide))
    have a8 : W (32 + 1048578 + 1048578) (mixF c k wh * (c + 31 * k + 7) * (mixF c k wh + c + 5)) := a5.mul a7
    have a9 : W 65 (mixF c k wh * mixF c k wh + 11) := (m2.mul m2).add ((W.small (x := 11) (by decide) (by decide)).mono (by decide))
    refine q_when (et_test (ev_op (ev_var rfl) (ev_op ev_c ev_c (rv_I (cp_small (by decide) (by decide) (by decide) (by decide)))) rv_I0)) (fun z H1 e1 => ?_) (fun z H1 e1 => ?_)
    · have e : numF c k wh = c / (1 + k % 7) := if_pos (of_decide_eq_true z)
      rw [e] at q
      exact s_ret (ev_op (ev_var rfl) (ev_op ev_c (ev_op (ev_var rfl) ev_c (rv_I (by decide))) rv_I0) (rv_I (cd_small (by omega) (by omega)))) fun H2 e2 => q H2 (e1.trans e2)
    · have e : numF c k wh = mixF c k wh * (c + 31 * k + 7) * (mixF c k wh + c + 5) * (mixF c k wh * mixF c k wh + 11) / (1009 + k) := if_neg (of_decide_eq_false z)
      rw [e] at q
      refine q_asg (v := .int (mixF c k wh)) (ev_op (ev_op (ev_op (ev_op (ev_var rfl) (ev_op ev_c (ev_var rfl) (rv_I ((W.small (x := 977) (by decide) (by decide)).cm (W.small k0 (by omega)) (by decide)))) rv_I0) ev_c (rv_I (a2.cm (W.small (x := 48271) (by decide) (by decide)) (by decide)))) (ev_var rfl) rv_I0) ev_c (rv_I (by decide))) fun H2 e2 => ?_
      refine q_asg (v := .int (mixF c k wh * (c + 31 * k + 7))) (ev_op (ev_var rfl) (ev_op (ev_op (ev_var rfl) (ev_op ev_c (ev_var rfl) (rv_I ((W.small (x := 31) (by decide) (by decide)).cm (W.small k0 (by omega)) (by decide)))) rv_I0) ev_c rv_I0) (rv_I (m2.cm a4 (by decide)))) fun H3 e3 => ?_
      exact s_ret (ev_op (ev_op (ev_op (ev_var rfl) (ev_op (ev_op (ev_var rfl) (ev_var rfl) rv_I0) ev_c rv_I0) (rv_I (a5.cm a7 (by decide)))) (ev_op (ev_op (ev_var rfl) (ev_var rfl) (rv_I (m2.cm m2 (by decide)))) ev_c rv_I0) (rv_I (a8.cm a9 (by decide)))) (ev_op ev_c (ev_var rfl) rv_I0) (rv_I (cd_small (by omega) (by omega)))) fun H4 e4 => q H4 (((e1.trans e2).trans e3).trans e4)
theorem spv_number {c k wh : Int} {H : Hp} (hc : W 1048576 c) (k0 : 0 ≤ k) (k1 : k ≤ 100) : SpV sp_l_number [.int c, .int k, .int wh] H (.int (numF c k wh)) := fun H1 e Q q E => ⟨c, k, wh, rfl, hc, k0, k1, q⟩
end
/-! ### a pair by a cell -/
def sp_l_pair (K : PySem.W.Frag) : Sp := fun vs H Q _ => ∃ (a : Addr) (ns : List Int) (k : Int), vs = [.ref a, .int k] ∧ SqL K H a (ns.map V.int) ∧ ns.length ≤ 63 ∧ (∀ n ∈ ns, W 1048576 n) ∧ 0 ≤ k ∧ k ≤ 100 ∧
  ∀ x y : Int, Med x → Med y → RetU [.int x, .int y] H Q
def wideL : List Int := [9, 60, (10 : Int) ^ (6 : Int).toNat, (10 : Int) ^ (30 : Int).toNat]
theorem wide_ok : ∀ j < 4, 9 ≤ wideL.getD j 0 ∧ wideL.getD j 0 ≤ 1000000000000000000000000000000 := by decide
/-- the frame of the pair's def, one and other at x and y, the worths of the bounds -/
def PairSt (a p : Addr) (k wh n wd kd : Int) (B : Int) (H0 : Hp) : L2.St → Hp → Prop := fun σ H' => ∃ (x y : Int) (l : Option V),
  σ = [some (.ref a), some (.int k), some (.ref p), some (.int wh), some (.int n), some (.int wd), some (.int x), some (.int y), some (.int kd), l] ∧ Ex H0 H' ∧ 0 < x ∧ x ≤ 10000000000000000000000000000000 ∧ 0 < y ∧ y ≤ B
def PairEnd (a p : Addr) (k wh n wd kd : Int) (H0 : Hp) : L2.St → Hp → Prop := fun σ H' => ∃ (x y : Int) (l : Option V),
  σ = [some (.ref a), some (.int k), some (.ref p), some (.int wh), some (.int n), some (.int wd), some (.int x), some (.int y), some (.int kd), l] ∧ Ex H0 H' ∧ Med x ∧ Med y
section
variable {P : Program} {w : World} {K : PySem.W.Frag} {mg : Str → Option Value} {base : Heap}
theorem ok_l_pair (T : Txt K mg base) : FnOk P w K mg base CX0 2 T.l_pair.f T.l_pair.fd ["_law_script", "_law_at"] (sp_l_pair K) := by
  refine T.l_pair.F.ok sc_l_pair (fun vs H Q E h => ?_) (fun cdv A outer s H vs Q E hr h => ?_)
  · obtain ⟨a, ns, k, rfl, _⟩ := h; rfl
  · obtain ⟨a, ns, k, rfl, hS, hl, hW, k0, k1, q⟩ := h
    refine ⟨_, (pss_cons (ps_set (i := 2) sc_l_pair.nd rfl (by first | exact .inl rfl | exact .inr rfl) (pe_ifExp (pt_cmpR (op_neD hr.units) (pv 0) (pe_lst pa_nil) (nomark _)) (pe_slice sl_list (pv 0) po_none (po_some pe_int)) (pe_lst (pa_cons pe_int pa_nil))))
      (pss_cons (ps_set (i := 3) sc_l_pair.nd rfl (by first | exact .inl rfl | exact .inr rfl) (pe_callB (cr_sum rfl) (by rfl) T.n_sum (by decide +kernel) (pa_cons (pv 2) pa_nil)))
      (pss_cons (ps_set (i := 4) sc_l_pair.nd rfl (by first | exact .inl rfl | exact .inr rfl) (pe_call (ok_l_number T) (hr.mono (by omega)) (by rfl) T.l_number.g T.l_number.F.kp T.l_number.b .nil pass0 (pa_cons (pe_ix ix_list (pv 2) (pe_op op_mod (pv 1) (pe_callB call_len_seq (by rfl) T.n_len (by decide +kernel) (pa_cons (pv 2) pa_nil))) (fun _ _ => rfl)) (pa_cons (pv 1) (pa_cons (pv 3) pa_nil)))))
      (pss_cons (ps_set (i := 5) sc_l_pair.nd rfl (by first | exact .inl rfl | exact .inr rfl) (pe_ix ix_tup (pe_tup (pa_cons pe_int (pa_cons pe_int (pa_cons (pe_op op_pow pe_int pe_int) (pa_cons (pe_op op_pow pe_int pe_int) pa_nil))))) (pe_op op_mod (pe_op op_add (pv 3) (pv 1)) pe_int) (fun _ _ => rfl)))
      (pss_cons (ps_par (i := 6) (j := 7) rfl sc_l_pair.nd rfl rfl (by decide) rfl rfl (pa_cons (pe_op op_add pe_int (pe_op op_mod (pe_op op_fdivW (pv 4) pe_int) (pv 5))) (pa_cons (pe_op op_add pe_int (pe_op op_mod (pe_op op_fdivW (pv 4) pe_int) (pe_op op_add (pv 5) pe_int))) pa_nil)) rfl)
      (pss_cons (ps_set (i := 8) sc_l_pair.nd rfl (by first | exact .inl rfl | exact .inr rfl) (pe_op op_mod (pe_op op_add (pe_op op_fdivW (pv 4) pe_int) (pv 1)) pe_int))
      (Evl.pss_cut (ps_if (pt_cmpR op_eq (pv 8) pe_int (nomark _)) (pss_one (ps_set (i := 7) sc_l_pair.nd rfl (by first | exact .inl rfl | exact .inr rfl) (pe_op op_mulX (pv 6) (pe_op op_add pe_int (pe_op op_mod (pe_op op_fdivW (pv 4) pe_int) pe_int))))) pss_nil)
      (Evl.pss_cut (ps_if (pt_cmpR op_eq (pv 8) pe_int (nomark _)) (pss_one (ps_set (i := 7) sc_l_pair.nd rfl (by first | exact .inl rfl | exact .inr rfl) (pe_op op_add (pv 6) (pe_op op_mod (pv 4) pe_int)))) pss_nil)
      (Evl.pss_cut (ps_if (pt_cmpR op_eq (pv 8) pe_int (nomark _)) (pss_one (ps_set (i := 7) sc_l_pair.nd rfl (by first | exact .inl rfl | exact .inr rfl) (pe_op op_add (pe_op op_mulX (pv 6) (pe_op op_add (pe_op op_mod (pe_op op_fdivW (pv 4) pe_int) (pe_op op_pow pe_int pe_int)) pe_int)) (pe_op op_mod (pv 7) (pv 6))))) pss_nil)
      (Evl.pss_cut (ps_if (pt_cmpR op_eq (pv 8) pe_int (nomark _)) (pss_one (ps_for PassesOwn.never rfl (pi_range1 (by rfl) T.n_range (pa_cons (pe_op op_mod (pe_op op_fdivW (pv 4) pe_int) pe_int) pa_nil)) (pg_name (i := 9) sc_l_pair.nd rfl (by first | exact .inl rfl | exact .inr rfl)) (pss_one (ps_par (i := 6) (j := 7) rfl sc_l_pair.nd rfl rfl (by decide) rfl rfl (pa_cons (pv 7) (pa_cons (pe_op op_add (pv 6) (pv 7)) pa_nil)) rfl)))) pss_nil)
      (pss_one (ps_ret (pe_ifExp (pt_cmpR op_eq (pe_op op_mod (pe_op op_fdivW (pv 4) pe_int) pe_int) pe_int (nomark _)) (pe_tup (pa_cons (pv 6) (pa_cons (pv 7) pa_nil))) (pe_tup (pa_cons (pv 7) (pa_cons (pv 6) pa_nil)))))))))))))))), ?_⟩
    -- the cells, their sum, the number
    refine q_asgL (el_cells (d := 3) (ev_var rfl) (ev_var rfl) hS hl) fun p H1 _ e1 h1 => ?_
    have hP : SqL K H1 p ((cellsF 3 ns).map V.int) := sq_of h1
    have hc := cells_len (d := 3) hl
    have hcW := cells_W ((W.small (x := 3) (by decide) (by decide)).mono (by decide)) hW
    generalize cellsF 3 ns = cs at *
    refine q_asg (ev_cb (ea_cons (ev_var rfl) ea_nil) (rc_sum hP)) fun H2 e2 => ?_
    have hP2 := ex_l e2 hP
    have hlen : ((cs.map V.int).length : Int) = cs.length := by rw [List.length_map]
    have hlp : (0 : Int) < ((cs.map V.int).length : Int) := by omega
    have i0 := Int.emod_nonneg k (show ((cs.map V.int).length : Int) ≠ 0 by omega)
    have i1 := Int.emod_lt_of_pos k hlp
    obtain ⟨c, hcm, hat⟩ := at_cells (cs := cs) i0 (by omega)
    refine q_asg (ev_call (ea_cons (ev_op (ev_var rfl) (ev_op (ev_var rfl) (ev_cb (ea_cons (ev_var rfl) ea_nil) (rc_lenL hP2)) (rv_I hlp)) (rv_ixL hP2 hat)) (ea_cons (ev_var rfl) (ea_cons (ev_var rfl) ea_nil))) (spv_number (hcW c hcm) k0 k1)) fun H3 e3 => ?_
    generalize numF c k cs.sum = n at *
    generalize cs.sum = wh at *
    -- the width
    have j0 := Int.emod_nonneg (wh + k) (show (4 : Int) ≠ 0 by decide)
    have j1 := Int.emod_lt_of_pos (wh + k) (show (0 : Int) < 4 by decide)
    have hw := wide_ok ((wh + k) % 4).toNat (by omega)
    have hwat : atI (wideL.map V.int) ((wh + k) % 4) = some (.int (wideL.getD ((wh + k) % 4).toNat 0)) := by
      refine at_of (j := ((wh + k) % 4).toNat) (by omega) ?_
      have hj : ((wh + k) % 4).toNat < wideL.length := by show _ < 4; omega
      have e : wideL[((wh + k) % 4).toNat]? = some (wideL.getD ((wh + k) % 4).toNat 0) := by
        rw [List.getD_eq_getElem?_getD, List.getElem?_eq_getElem hj]
        rfl
      rw [List.getElem?_map, e]
      rfl
    refine q_asg (v := .int (wideL.getD ((wh + k) % 4).toNat 0)) (ev_opU1 (xs := wideL.map V.int) (eu_tup (ea_cons ev_c (ea_cons ev_c (ea_cons (ev_op ev_c ev_c (rv_I (cp_small (by decide) (by decide) (by decide) (by decide)))) (ea_cons (ev_op ev_c ev_c (rv_I (cp_small (by decide) (by decide) (by decide) (by decide)))) ea_nil)))) (by show 4 ≤ 100000; decide))
      (ev_op (ev_op (ev_var rfl) (ev_var rfl) rv_I0) ev_c (rv_I (by decide))) fun p H1 hp _ => rv_ixT (st_of hp) hwat) fun H4 e4 => ?_
    generalize wideL.getD ((wh + k) % 4).toNat 0 = wd at *
    have o0 := Int.emod_nonneg (n / 7) (show wd ≠ 0 by omega)
    have o1 := Int.emod_lt_of_pos (n / 7) (show 0 < wd by omega)
    have p0 := Int.emod_nonneg (n / 5) (show wd + 3 ≠ 0 by omega)
    have p1 := Int.emod_lt_of_pos (n / 5) (show 0 < wd + 3 by omega)
    -- one, other, the kind
    refine q_par (ea_cons (ev_op ev_c (ev_op (ev_op (ev_var rfl) ev_c (rv_I (cd_small (by decide) (by decide)))) (ev_var rfl) (rv_I (by omega))) rv_I0) (ea_cons (ev_op ev_c (ev_op (ev_op (ev_var rfl) ev_c (rv_I (cd_small (by decide) (by decide)))) (ev_op (ev_var rfl) ev_c rv_I0) (rv_I (by omega))) rv_I0) ea_nil)) fun H5 e5 => ?_
    refine q_asg (ev_op (ev_op (ev_op (ev_var rfl) ev_c (rv_I (cd_small (by decide) (by decide)))) (ev_var rfl) rv_I0) ev_c (rv_I (by decide))) fun H6 e6 => ?_
    have eA : Ex H H6 := ((((e1.trans e2).trans e3).trans e4).trans e5).trans e6
    have x0 : 0 < 1 + n / 7 % wd := by omega
    have x1 : 1 + n / 7 % wd ≤ 10000000000000000000000000000000 := by omega
    have y0 : 0 < 1 + n / 5 % (wd + 3) := by omega
    have y1 : 1 + n / 5 % (wd + 3) ≤ 10000000000000000000000000000000 := by omega
    generalize (n / 3 + k) % 8 = kd at *
    generalize 1 + n / 7 % wd = x at *
    generalize 1 + n / 5 % (wd + 3) = y at *
    show Evl.tCut _ _ _ [some (.ref a), some (.int k), some (.ref p), some (.int wh), some (.int n), some (.int wd), some (.int x), some (.int y), some (.int kd), none] H6
    -- the kinds
    refine q_cut (M := PairSt a p k wh n wd kd 100000000000000000000000000000000 H) ?_ fun σ1 G1 s1 => ?_
    · have ex := eA
      have m0 := Int.emod_nonneg (n / 11) (show (9 : Int) ≠ 0 by decide)
      have m1 := Int.emod_lt_of_pos (n / 11) (show (0 : Int) < 9 by decide)
      refine s_when (et_test (ev_op (ev_var rfl) ev_c (rv_eq rfl))) (fun _ H7 e7 => ?_) fun _ H7 e7 => ⟨x, y, none, rfl, ex.trans e7, x0, x1, y0, by omega⟩
      refine s_asg (ev_op (ev_var rfl) (ev_op ev_c (ev_op (ev_op (ev_var rfl) ev_c (rv_I (cd_small (by decide) (by decide)))) ev_c (rv_I (by decide))) rv_I0) (rv_I ((W.s128 (by omega) (by omega)).cm (W.small (by omega) (by omega)) (by decide)))) fun H8 e8 => ?_
      refine ⟨x, x * (1 + n / 11 % 9), none, rfl, (ex.trans e7).trans e8, x0, x1, Int.mul_pos x0 (by omega), ?_⟩
      have := Int.mul_le_mul_of_nonneg_left (show 1 + n / 11 % 9 ≤ 9 by omega) (Int.le_of_lt x0)
      omega
    refine q_cut (M := PairSt a p k wh n wd kd 1000000000000000000000000000000000 H) ?_ fun σ2 G2 s2 => ?_
    · obtain ⟨x, y, l, rfl, ex, x0, x1, y0, y1⟩ := s1
      have m0 := Int.emod_nonneg n (show (2 : Int) ≠ 0 by decide)
      have m1 := Int.emod_lt_of_pos n (show (0 : Int) < 2 by decide)
      refine s_when (et_test (ev_op (ev_var rfl) ev_c (rv_eq rfl))) (fun _ H7 e7 => ?_) fun _ H7 e7 => ⟨x, y, l, rfl, ex.trans e7, x0, x1, y0, by omega⟩
      refine s_asg (ev_op (ev_var rfl) (ev_op (ev_var rfl) ev_c (rv_I (by decide))) rv_I0) fun H8 e8 => ?_
      exact ⟨x, x + n % 2, l, rfl, (ex.trans e7).trans e8, x0, x1, by omega, by omega⟩
    refine q_cut (M := PairSt a p k wh n wd kd 100000000000000000000000000000000000000 H) ?_ fun σ3 G3 s3 => ?_
    · obtain ⟨x, y, l, rfl, ex, x0, x1, y0, y1⟩ := s2
      have e10 : (10 : Int) ^ (6 : Int).toNat = 1000000 := by decide
      have m0 := Int.emod_nonneg (n / 13) (show (1000000 : Int) ≠ 0 by decide)
      have m1 := Int.emod_lt_of_pos (n / 13) (show (0 : Int) < 1000000 by decide)
      have r0 := Int.emod_nonneg y (show x ≠ 0 by omega)
      have r1 := Int.emod_lt_of_pos y x0
      refine s_when (et_test (ev_op (ev_var rfl) ev_c (rv_eq rfl))) (fun _ H7 e7 => ?_) fun _ H7 e7 => ⟨x, y, l, rfl, ex.trans e7, x0, x1, y0, by omega⟩
      refine s_asg (v := .int (x * (n / 13 % 1000000 + 1) + y % x)) (ev_op (ev_op (ev_var rfl) (ev_op (ev_op (ev_op (ev_var rfl) ev_c (rv_I (cd_small (by decide) (by decide)))) (ev_is (w := .int 1000000) (ev_op ev_c ev_c (rv_I (cp_small (by decide) (by decide) (by decide) (by decide)))) (congrArg V.int e10)) (rv_I (by decide))) ev_c rv_I0) (rv_I ((W.s128 (by omega) (by omega)).cm (W.small (by omega) (by omega)) (by decide)))) (ev_op (ev_var rfl) (ev_var rfl) (rv_I x0)) rv_I0) fun H8 e8 => ?_
      refine ⟨x, _, l, rfl, (ex.trans e7).trans e8, x0, x1, ?_, ?_⟩
      · have := Int.mul_pos x0 (show 0 < n / 13 % 1000000 + 1 by omega)
        omega
      · have := Int.mul_le_mul_of_nonneg_left (show n / 13 % 1000000 + 1 ≤ 1000000 by omega) (Int.le_of_lt x0)
        omega
    refine q_cut (M := PairEnd a p k wh n wd kd H) ?_ fun σ4 G4 s4 => ?_
    · obtain ⟨x, y, l, rfl, ex, x0, x1, y0, y1⟩ := s3
      have m0 := Int.emod_nonneg (n / 9) (show (40 : Int) ≠ 0 by decide)
      have m1 := Int.emod_lt_of_pos (n / 9) (show (0 : Int) < 40 by decide)
      refine s_when (et_test (ev_op (ev_var rfl) ev_c (rv_eq rfl))) (fun _ H7 e7 => ?_) fun _ H7 e7 => ⟨x, y, l, rfl, ex.trans e7, Med.s200 x0 (by omega), Med.s200 y0 (by omega)⟩
      refine s_forR1 (ea_cons (ev_op (ev_op (ev_var rfl) ev_c (rv_I (cd_small (by decide) (by decide)))) ev_c (rv_I (by decide))) ea_nil) (by omega)
        (fun i σ' H' => ∃ (x y : Int) (l : Option V), σ' = [some (.ref a), some (.int k), some (.ref p), some (.int wh), some (.int n), some (.int wd), some (.int x), some (.int y), some (.int kd), l] ∧ Ex H H' ∧ 0 < x ∧ 0 < y ∧ x + y ≤ 1000000000000000000000000000000000000000 * ((2 ^ i : Nat) : Int))
        (fun H8 e8 => ⟨x, y, l, rfl, (ex.trans e7).trans e8, x0, y0, by simp; omega⟩) (fun i σ' H' hi hp => ?_) (fun σ' H' hp => ?_)
      · obtain ⟨x, y, l, rfl, ex', x0, y0, hs⟩ := hp
        refine s_par (ea_cons (ev_var rfl) (ea_cons (ev_op (ev_var rfl) (ev_var rfl) rv_I0) ea_nil)) fun H9 e9 => ?_
        refine ⟨y, x + y, _, rfl, ex'.trans e9, y0, by omega, ?_⟩
        rw [Nat.pow_succ]
        omega
      · obtain ⟨x, y, l, rfl, ex', x0, y0, hs⟩ := hp
        have hpw : (2 : Nat) ^ (n / 9 % 40).toNat ≤ 2 ^ 40 := Nat.pow_le_pow_right (by decide) (by omega)
        have e40 : (2 : Nat) ^ 40 = 1099511627776 := by decide
        exact ⟨x, y, l, rfl, ex', Med.s200 x0 (by omega), Med.s200 y0 (by omega)⟩
    obtain ⟨x, y, l, rfl, ex, bx, by'⟩ := s4
    refine s_retIf (et_test (ev_op (ev_op (ev_op (ev_var rfl) ev_c (rv_I (cd_small (by decide) (by decide)))) ev_c (rv_I (by decide))) ev_c (rv_eq rfl))) (fun _ H7 e7 => ?_) (fun _ H7 e7 => ?_)
    · exact s_retU (eu_tup (ea_cons (ev_var rfl) (ea_cons (ev_var rfl) ea_nil)) (by show 2 ≤ 100000; decide)) fun p H8 hp e8 h8 => RetU.go (q x y bx by') (ex.trans e7) hp e8 h8
    · exact s_retU (eu_tup (ea_cons (ev_var rfl) (ea_cons (ev_var rfl) ea_nil)) (by show 2 ≤ 100000; decide)) fun p H8 hp e8 h8 => RetU.go (q y x by' bx) (ex.trans e7) hp e8 h8
end
def sp_l_whole : Sp := fun vs H Q _ => ∃ i : Int, vs = [.int i] ∧ RetV (.bl true) H Q
section
variable {P : Program} {w : World} {K : PySem.W.Frag} {mg : Str → Option Value} {base : Heap}
theorem ok_l_whole (T : Txt K mg base) : FnOk P w K mg base CX0 1 T.l_whole.f T.l_whole.fd ["_law_number_here"] sp_l_whole := by
  refine T.l_whole.F.ok sc_l_whole (fun vs H Q E h => ?_) (fun cdv A outer s H vs Q E hr h => ?_)
  · obtain ⟨i, rfl, _⟩ := h; rfl
  · obtain ⟨i, rfl, q⟩ := h
    refine ⟨_, (pss_one (ps_ret (pe_and (pe_callB call_isi (by rfl) T.n_isinstance (by decide +kernel) (pa_cons (pv 0) (pa_cons (pe_bltn (v := .ty "int") (by rfl) T.n_int (by decide +kernel) rfl) pa_nil))) (pe_one (pe_not (pe_callB call_isi (by rfl) T.n_isinstance (by decide +kernel) (pa_cons (pv 0) (pa_cons (pe_bltn (v := .ty "bool") (by rfl) T.n_bool (by decide +kernel) rfl) pa_nil)))))))), ?_⟩
    exact s_ret (ev_andV (ev_cb (ea_cons (ev_var rfl) (ea_cons ev_c ea_nil)) (rc_isi_int (b := true) (by decide +kernel))) fun _ => ev_notV (ev_cb (ea_cons (ev_var rfl) (ea_cons ev_c ea_nil)) (rc_isi_int (b := false) (by decide +kernel)))) q
theorem spv_whole {i : Int} {H : Hp} : SpV sp_l_whole [.int i] H (.bl true) := fun H1 e Q q E => ⟨i, rfl, q⟩
end
def sp_l_is_pair (K : PySem.W.Frag) : Sp := fun vs H Q _ => ∃ (p : Addr) (a b : Int), vs = [.ref p] ∧ SqT K H p [.int a, .int b] ∧ RetV (.bl true) H Q
section
variable {P : Program} {w : World} {K : PySem.W.Frag} {mg : Str → Option Value} {base : Heap}
theorem ok_l_is_pair (T : Txt K mg base) : FnOk P w K mg base CX0 2 T.l_is_pair.f T.l_is_pair.fd ["_law_found"] (sp_l_is_pair K) := by
  refine T.l_is_pair.F.ok sc_l_is_pair (fun vs H Q E h => ?_) (fun cdv A outer s H vs Q E hr h => ?_)
  · obtain ⟨p, a, b, rfl, _⟩ := h; rfl
  · obtain ⟨p, a, b, rfl, hp, q⟩ := h
    refine ⟨_, (pss_one (ps_ret (pe_and (pe_callB call_isi (by rfl) T.n_isinstance (by decide +kernel) (pa_cons (pv 0) (pa_cons (pe_bltn (v := .ty "tuple") (by rfl) T.n_tuple (by decide +kernel) rfl) pa_nil))) (pe_and (pe_cmpR op_eq (pe_callB call_len_seq (by rfl) T.n_len (by decide +kernel) (pa_cons (pv 0) pa_nil)) pe_int (nomark _)) (pe_one (pe_callB (cr_all rfl) (by rfl) T.n_all (by decide +kernel) (pa_cons (pe_lc (own := [("_law_one", 1)]) (g := gName 1) (tt := tYes) rfl sc_l_is_pair.nd (pi_tup (pv 0)) (blkOk_by (own := [("_law_one", 1)]) (N := ["_law_found", "_law_one"]) (sc := defScope s_l_is_pair) (by decide +kernel)) (fun _ _ _ _ _ => pg_name (i := 1) sc_l_is_pair.nd rfl (Or.inl rfl)) (fun _ _ _ _ _ => pts_nil) (fun _ _ _ _ _ => (pe_call (ok_l_whole T) (hr.mono (by omega)) (by rfl) T.l_whole.g T.l_whole.F.kp T.l_whole.b .nil pass0 (pa_cons (pv 1) pa_nil)))) pa_nil))))))), ?_⟩
    refine s_ret (v := .bl true) (ev_andV (a := true) (b := true) (ev_cb (ea_cons (ev_var rfl) (ea_cons ev_c ea_nil)) (rc_isi_tup hp (by decide +kernel))) fun _ => ev_andV (a := true) (b := true) (ev_op (ev_cb (ea_cons (ev_var rfl) ea_nil) (rc_lenT hp)) ev_c (rv_eq rfl)) fun _ => ?_) q
    refine ev_allL (bs := [true, true]) (el_compT (fun _ => .bl true) (ev_var rfl) hp (by show 2 ≤ 40000; decide) (fun x => rfl) fun i x H1 e1 hi => ?_)
    have hx : ∃ n : Int, x = .int n := by
      match i, hi with
      | 0, hi => exact ⟨a, (Option.some.inj hi).symm⟩
      | 1, hi => exact ⟨b, (Option.some.inj hi).symm⟩
    obtain ⟨n, rfl⟩ := hx
    exact ev_call (ea_cons (ev_var rfl) ea_nil) spv_whole
theorem spv_is_pair {p : Addr} {a b : Int} {H : Hp} (hp : SqT K H p [.int a, .int b]) : SpV (sp_l_is_pair K) [.ref p] H (.bl true) := fun H1 e Q q E => ⟨p, a, b, rfl, ex_t e hp, q⟩
end
/-! ### the defs that a generator expression calls -/
section
variable {P : Program} {w : World} {K : PySem.W.Frag} {mg : Str → Option Value} {base : Heap}
theorem qf_is_whole (T : Txt K mg base) : GG.QFn P w K mg 1 T.is_whole.f (GG.RWhole K) :=
  GG.qfn_of (D := 0) T.is_whole.F sc_is_whole T.is_whole.b (by rfl) fun env A s s1 m v b hs e hab hh hD B hn hm k0 hR =>
    GG.body_whole e B (by rw [hs]; rfl) hn hm (by decide) (by show env.scope.names.lookup _ = _; rw [hs]; rfl) T.n_isinstance (by show env.scope.names.lookup _ = _; rw [hs]; rfl) T.n_int (by show env.scope.names.lookup _ = _; rw [hs]; rfl) T.n_bool k0 hR
theorem qf_is_above_zero (T : Txt K mg base) : GG.QFn P w K mg 2 T.is_above_zero.f (GG.RAbove K) :=
  GG.qfn_of (D := 1) T.is_above_zero.F sc_is_above_zero T.is_above_zero.b (by rfl) fun env A s s1 m v b hs e hab hh hD B hn hm k0 hR =>
    GG.body_above (qf_is_whole T) hh hD T.is_whole.F.kp e B (by rw [hs]; rfl) hn hm (by decide) (by show env.scope.names.lookup _ = _; rw [hs]; rfl) T.is_whole.g (by decide) k0 hR
theorem qf_is_pair (T : Txt K mg base) : GG.QFn P w K mg 3 T.is_pair.f (GG.RPair K) :=
  GG.qfn_of (D := 2) T.is_pair.F sc_is_pair T.is_pair.b (by rfl) fun env A s s1 m v b hs e hab hh hD B hn hm k0 hR =>
    GG.body_pair (qf_is_above_zero T) hh hD T.is_above_zero.F.kp e B (by rw [hs]; rfl) (by rw [hs]; rfl) (by rw [hs]; rfl) (by decide) hn hm (by decide) (by decide) (by decide) (by show env.scope.names.lookup _ = _; rw [hs]; rfl) T.is_above_zero.g (by decide)
      (by show env.scope.names.lookup _ = _; rw [hs]; rfl) T.n_isinstance (by show env.scope.names.lookup _ = _; rw [hs]; rfl) T.n_tuple (by show env.scope.names.lookup _ = _; rw [hs]; rfl) T.n_len k0 hab hR
end
/-! ### rows: the program's defs -/
def sp_quotients (K : PySem.W.Frag) : Sp := fun vs H Q _ => ∃ (p : Addr) (a b : Int), vs = [.ref p] ∧ SqT K H p [.int a, .int b] ∧ Big a ∧ Big b ∧ RetQ (rowP (mxF a b) (mnF a b)) (comP (mxF a b) (mnF a b)) H Q
def sp_is_row (K : PySem.W.Frag) (P : Addr) : Sp := fun vs H Q _ => ∃ (a : Addr) (rw : List Int), vs = [.ref a] ∧ SqL K H a (rw.map V.int) ∧ GoodRow rw ∧ rw.length ≤ 1000 ∧ H P = some (GG.tabO P) ∧ RetV (.bl true) H Q
def sp_pair_of (K : PySem.W.Frag) (P : Addr) : Sp := fun vs H Q _ => ∃ (a : Addr) (rw : List Int) (c : Int), vs = [.ref a, .int c] ∧ SqL K H a (rw.map V.int) ∧ GoodRow rw ∧ rw.length ≤ 1000 ∧ 0 < c ∧ Big (back rw c).1 ∧ (∀ q ∈ rw, Big q) ∧ H P = some (GG.tabO P) ∧ RetU [.int (back rw c).1, .int (back rw c).2] H Q
def sp_shortest (K : PySem.W.Frag) : Sp := fun vs H Q _ => ∃ (p : Addr) (a b : Int), vs = [.ref p] ∧ SqT K H p [.int a, .int b] ∧ Big a ∧ Big b ∧ RetV (.int (fewF a b)) H Q
def sp_longest (K : PySem.W.Frag) : Sp := fun vs H Q _ => ∃ (p : Addr) (a b : Int), vs = [.ref p] ∧ SqT K H p [.int a, .int b] ∧ Big a ∧ Big b ∧ RetV (.int (longF a b)) H Q
section
variable {P : Program} {w : World} {K : PySem.W.Frag} {mg : Str → Option Value} {base : Heap}
theorem spq_quot {p : Addr} {a b : Int} {H : Hp} (hp : SqT K H p [.int a, .int b]) (ha : Big a) (hb : Big b) : SpQ (sp_quotients K) [.ref p] H (rowP (mxF a b) (mnF a b)) (comP (mxF a b) (mnF a b)) := fun H1 e Q q E => ⟨p, a, b, rfl, ex_t e hp, ha, hb, q⟩
theorem spv_short {p : Addr} {a b : Int} {H : Hp} (hp : SqT K H p [.int a, .int b]) (ha : Big a) (hb : Big b) : SpV (sp_shortest K) [.ref p] H (.int (fewF a b)) := fun H1 e Q q E => ⟨p, a, b, rfl, ex_t e hp, ha, hb, q⟩
theorem spv_long {p : Addr} {a b : Int} {H : Hp} (hp : SqT K H p [.int a, .int b]) (ha : Big a) (hb : Big b) : SpV (sp_longest K) [.ref p] H (.int (longF a b)) := fun H1 e Q q E => ⟨p, a, b, rfl, ex_t e hp, ha, hb, q⟩
theorem spu_pair_of {a : Addr} {rw : List Int} {c : Int} {H : Hp} (h : SqL K H a (rw.map V.int)) (hg : GoodRow rw) (hl : rw.length ≤ 1000) (hc : 0 < c) {P : Addr} (hb : Big (back rw c).1) (hq : ∀ q ∈ rw, Big q) (hP : H P = some (GG.tabO P)) : SpU (sp_pair_of K P) [.ref a, .int c] H [.int (back rw c).1, .int (back rw c).2] :=
  fun H1 e Q q E => ⟨a, rw, c, rfl, ex_l e h, hg, hl, hc, hb, hq, e _ _ hP, q⟩
theorem ok_quotients (T : Txt K mg base) : FnOk P w K mg base CX0 5 T.quotients.f T.quotients.fd ["pair"] (sp_quotients K) := by
  refine T.quotients.F.ok sc_quotients (fun vs H Q E h => ?_) (fun cdv A outer s H vs Q E hr h => ?_)
  · obtain ⟨p, a, b, rfl, _⟩ := h; rfl
  · obtain ⟨p, a, b, rfl, hp, ha, hb, q⟩ := h
    refine ⟨_, (pss_cons (ps_asg (pe_call (ok_lesser_and_greater T) (hr.mono (by omega)) (by rfl) T.lesser_and_greater.g T.lesser_and_greater.F.kp T.lesser_and_greater.b .nil pass0 (pa_cons (pv 0) pa_nil)) (pg_tup rfl (pgs_cons (pg_name (i := 1) sc_quotients.nd rfl (by first | exact .inl rfl | exact .inr rfl)) (pgs_cons (pg_name (i := 2) sc_quotients.nd rfl (by first | exact .inl rfl | exact .inr rfl)) pgs_nil))))
      (pss_cons (ps_set (i := 3) sc_quotients.nd rfl (by first | exact .inl rfl | exact .inr rfl) (pe_lst pa_nil))
      (pss_cons (ps_while PassesOwn.never (pt_cmpR op_gt (pv 1) pe_int (nomark _)) (pss_cons (ps_asg (pe_callB call_divmodW (by rfl) T.n_divmod (by decide +kernel) (pa_cons (pv 2) (pa_cons (pv 1) pa_nil))) (pg_tup rfl (pgs_cons (pg_name (i := 4) sc_quotients.nd rfl (by first | exact .inl rfl | exact .inr rfl)) (pgs_cons (pg_name (i := 5) sc_quotients.nd rfl (by first | exact .inl rfl | exact .inr rfl)) pgs_nil))))
      (pss_cons (ps_expr (pe_bm PySem.F.plainAttrs_list PySem.F.slot_list_append PySem.F.type_list_append mt_append (pv 3) (pa_cons (pv 4) pa_nil)))
      (pss_one (ps_par (i := 1) (j := 2) rfl sc_quotients.nd rfl rfl (by decide) rfl rfl (pa_cons (pv 5) (pa_cons (pv 1) pa_nil)) rfl)))))
      (pss_one (ps_ret (pe_tup (pa_cons (pv 3) (pa_cons (pv 2) pa_nil)))))))), ?_⟩
    have hL := big_mn ha hb
    have hH := big_mx ha hb
    have hlen := big_row_len ha hb
    refine q_unU (eu_call (ea_cons (ev_var rfl) ea_nil) (spu_lg hp ha.pos hb.pos)) fun H1 e1 => ?_
    refine q_asgL (el_lst ea_nil (by show 0 ≤ 100000; decide)) fun r H2 hr0 e2 h2 => ?_
    have hrN : H r = none := fresh_back e1 hr0
    refine q_while (fun m σ' H' => ∃ (acc : List Int) (g l : Int), ∃ z1 z2, σ' = [some (.ref p), some (.int l), some (.int g), some (.ref r), z1, z2] ∧ Ex H H' ∧ H' r = some (.lst (acc.map V.int)) ∧
      acc ++ rowP g l = rowP (mxF a b) (mnF a b) ∧ comP g l = comP (mxF a b) (mnF a b) ∧ 0 < g ∧ 0 ≤ l ∧ l ≤ mnF a b ∧ m = l.toNat) (mnF a b).toNat
      ⟨[], mxF a b, mnF a b, none, none, rfl, e1.trans e2, h2, rfl, rfl, hH.pos, Int.le_of_lt hL.pos, Int.le_refl _, rfl⟩ fun m σ' H' hW => ?_
    obtain ⟨acc, g, l, z1, z2, rfl, ex, hR, er, ec, hg, hl0, hl1, rfl⟩ := hW
    refine ⟨decide (0 < l), et_test (ev_op (ev_var rfl) ev_c rv_I0), fun hc H3 e3 => ?_, fun hc H3 e3 => ?_⟩
    · have hl : 0 < l := of_decide_eq_true hc
      have bl : Big l := hL.le hl hl1
      have r0 := Int.emod_nonneg g (show l ≠ 0 by omega)
      have r1 := Int.emod_lt_of_pos g hl
      rw [rowP_pos hl] at er
      rw [comP_pos hl] at ec
      have hal : acc.length ≤ 16000 := by
        have := congrArg List.length er
        rw [List.length_append] at this
        omega
      refine ⟨fun σ2 H2' => σ2 = [some (.ref p), some (.int (g % l)), some (.int l), some (.ref r), some (.int (g / l)), some (.int (g % l))] ∧ Ex H H2' ∧ H2' r = some (.lst ((acc ++ [g / l]).map V.int)), fun σ2 H2' hn => ?_, ?_⟩
      · exact ⟨(g % l).toNat, by omega, acc ++ [g / l], l, g % l, _, _, hn.1, hn.2.1, hn.2.2, by rw [List.append_assoc]; exact er, ec, hl, r0, by omega, rfl⟩
      · refine q_unU (eu_divmod (ev_var rfl) (ev_var rfl) bl.divp) fun H3' e3' => ?_
        refine q_app (e3' r _ (e3 r _ hR)) (ev_var rfl) (ev_var rfl) (by rw [List.length_map]; omega) fun H4 e4 => ?_
        refine s_par (ea_cons (ev_var rfl) (ea_cons (ev_var rfl) ea_nil)) fun H5 e5 => ⟨rfl, (Ex.mut (((ex.trans e3).trans e3').trans e4) hrN).trans e5, e5 r _ ?_⟩
        rw [List.map_append]
        exact upd_same
    · have hl : l = 0 := by
        have := of_decide_eq_false hc
        omega
      subst hl
      rw [rowP_zero, List.append_nil] at er
      have ec' : g = comP (mxF a b) (mnF a b) := ec
      subst er ec'
      have e03 := ex.trans e3
      exact s_retU (eu_tup (ea_cons (ev_var rfl) (ea_cons (ev_var rfl) ea_nil)) (by show 2 ≤ 100000; decide)) fun t H4 ht e4 h4 => q t r H4 (fresh_back e03 ht) hrN (e03.trans e4) (e4 r _ (e3 r _ hR)) h4
theorem row_one {a b : Int} (ha : 0 < a) (hb : 0 < b) : rowP (mxF a b) (mnF a b) = [1] ↔ mnF a b = mxF a b := by
  have h1 := mn_pos ha hb
  have h2 := mn_mx a b
  constructor
  · intro h
    rw [rowP_pos h1] at h
    injection h with h3 h4
    have r0 := Int.emod_nonneg (mxF a b) (show mnF a b ≠ 0 by omega)
    have e := dm (mxF a b) (mnF a b)
    by_cases d : mxF a b % mnF a b = 0
    · rw [h3, d] at e
      omega
    · rw [rowP_pos (by omega)] at h4
      cases h4
  · intro h
    rw [← h, rowP_pos h1, Int.ediv_self (by omega), Int.emod_self, rowP_zero]
theorem few_row {a b : Int} (ha : 0 < a) (hb : 0 < b) : fewF a b = ((rowP (mxF a b) (mnF a b)).length : Int) - (if rowP (mxF a b) (mnF a b) = [1] then 1 else 0) := by
  unfold fewF fewLH
  by_cases c : mnF a b = mxF a b
  · rw [if_pos c, if_pos ((row_one ha hb).mpr c), (row_one ha hb).mpr c]
    rfl
  · rw [if_neg c, if_neg (fun z => c ((row_one ha hb).mp z))]
    omega
theorem ok_shortest (T : Txt K mg base) : FnOk P w K mg base CX0 6 T.shortest.f T.shortest.fd ["pair"] (sp_shortest K) := by
  refine T.shortest.F.ok sc_shortest (fun vs H Q E h => ?_) (fun cdv A outer s H vs Q E hr h => ?_)
  · obtain ⟨p, a, b, rfl, _⟩ := h; rfl
  · obtain ⟨p, a, b, rfl, hp, ha, hb, q⟩ := h
    refine ⟨_, (pss_cons (ps_asg (pe_call (ok_quotients T) (hr.mono (by omega)) (by rfl) T.quotients.g T.quotients.F.kp T.quotients.b .nil pass0 (pa_cons (pv 0) pa_nil)) (pg_tup rfl (pgs_cons (pg_name (i := 1) sc_shortest.nd rfl (by first | exact .inl rfl | exact .inr rfl)) (pgs_cons (pg_name (i := 2) sc_shortest.nd rfl (by first | exact .inl rfl | exact .inr rfl)) pgs_nil))))
      (pss_cons (ps_if (pt_cmpR (op_eqD hr.units) (pv 1) (pe_lst (pa_cons pe_int pa_nil)) (nomark _)) (pss_one (ps_ret pe_int)) pss_nil)
      (pss_one (ps_ret (pe_callB call_len_seq (by rfl) T.n_len (by decide +kernel) (pa_cons (pv 1) pa_nil)))))), ?_⟩
    have hf := few_row ha.pos hb.pos
    refine q_unQ (eq_call (ea_cons (ev_var rfl) ea_nil) (spq_quot hp ha hb)) fun r H1 _ e1 h1 => ?_
    have hR : SqL K H1 r ((rowP (mxF a b) (mnF a b)).map V.int) := sq_of h1
    refine q_when (et_test (ev_opL (ev_var rfl) (el_lst (ea_cons ev_c ea_nil) (by show 1 ≤ 100000; decide)) fun l H2 hl e2 => rv_eqInts (b := [1]) (ex_l e2 hR) (sq_of hl))) (fun z H2 e2 => ?_) (fun z H2 e2 => ?_)
    · have z' : rowP (mxF a b) (mnF a b) = [1] := of_decide_eq_true z
      have e : fewF a b = 0 := by rw [hf, if_pos z', z']; rfl
      rw [e] at q
      exact s_ret ev_c fun H3 e3 => q H3 ((e1.trans e2).trans e3)
    · have z' : ¬ rowP (mxF a b) (mnF a b) = [1] := of_decide_eq_false z
      have e : fewF a b = ((rowP (mxF a b) (mnF a b)).length : Int) := by rw [hf, if_neg z']; omega
      rw [e] at q
      refine s_ret (ev_is (ev_cb (ea_cons (ev_var rfl) ea_nil) (rc_lenL (ex_l e2 hR))) ?_) fun H3 e3 => q H3 ((e1.trans e2).trans e3)
      rw [List.length_map]
theorem ok_longest (T : Txt K mg base) : FnOk P w K mg base CX0 6 T.longest.f T.longest.fd ["pair"] (sp_longest K) := by
  refine T.longest.F.ok sc_longest (fun vs H Q E h => ?_) (fun cdv A outer s H vs Q E hr h => ?_)
  · obtain ⟨p, a, b, rfl, _⟩ := h; rfl
  · obtain ⟨p, a, b, rfl, hp, ha, hb, q⟩ := h
    refine ⟨_, (pss_cons (ps_asg (pe_call (ok_quotients T) (hr.mono (by omega)) (by rfl) T.quotients.g T.quotients.F.kp T.quotients.b .nil pass0 (pa_cons (pv 0) pa_nil)) (pg_tup rfl (pgs_cons (pg_name (i := 1) sc_longest.nd rfl (by first | exact .inl rfl | exact .inr rfl)) (pgs_cons (pg_name (i := 2) sc_longest.nd rfl (by first | exact .inl rfl | exact .inr rfl)) pgs_nil))))
      (pss_one (ps_ret (pe_op op_sub (pe_callB (cr_sum rfl) (by rfl) T.n_sum (by decide +kernel) (pa_cons (pv 1) pa_nil)) pe_int)))), ?_⟩
    refine q_unQ (eq_call (ea_cons (ev_var rfl) ea_nil) (spq_quot hp ha hb)) fun r H1 _ e1 h1 => ?_
    exact s_ret (ev_op (ev_cb (ea_cons (ev_var rfl) ea_nil) (rc_sum (sq_of h1))) ev_c rv_I0) fun H2 e2 => q H2 (e1.trans e2)
end
section
variable {P : Program} {w : World} {K : PySem.W.Frag} {mg : Str → Option Value} {base : Heap}
theorem ab_ints {K : PySem.W.Frag} {H : Hp} : ∀ rw : List Int, (∀ q ∈ rw, 1 ≤ q) → Paired (GG.AbV K H) (rw.map V.int) (List.replicate rw.length true)
  | [], _ => .nil
  | q :: r, h => .cons ⟨"int", true, false, .base (.int q), by decide +kernel, by decide +kernel, fun _ => ⟨q, rfl, (decide_eq_true (by have := h q List.mem_cons_self; omega)).symm⟩, fun z => by cases z⟩ (ab_ints r fun x hx => h x (List.mem_cons_of_mem _ hx))
theorem ok_is_row (T : Txt K mg base) : FnOk P w K mg base CX0 3 T.is_row.f T.is_row.fd ["value"] (sp_is_row K T.z_is_row.P) := by
  refine GG.okC T.is_row.F sc_is_row (fun vs H Q E h => ?_) (fun cdv A outer s H vs Q E hc0 hr h => ?_)
  · obtain ⟨a, rw, rfl, _⟩ := h; rfl
  · obtain ⟨a, rw, rfl, hS, hg, hl, hP, q⟩ := h
    have hcd : cdv = .ref T.z_is_row.c := hc0.symm.trans T.z_is_row.code
    refine ⟨_, (pss_cons (ps_if (PW.pt (pw_or (pt_not (pt_val (pe_callB call_isi (by rfl) T.n_isinstance (by decide +kernel) (pa_cons (pv 0) (pa_cons (pe_bltn (v := .ty "list") (by rfl) T.n_list (by decide +kernel) rfl) pa_nil))))) (pw_or1 (pt_not (pt_chain op_le op_le pe_int (pe_callB call_len_seq (by rfl) T.n_len (by decide +kernel) (pa_cons (pv 0) pa_nil)) (pe_glob (v := .int 1000) (by rfl) T.c_LONGEST_ROW ⟨_, rfl⟩)))))) (pss_one (ps_ret pe_bl)) pss_nil)
      (pss_cons (ps_if (pt_not (pt_val (GG.pe_allG (D := 2) (rel := GG.RAbove K) (relV := GG.AbV K) hr (by rfl) T.n_all (by omega) T.z_is_row.tb hcd ⟨rfl, rfl, by decide +kernel, rfl, rfl, fun y hy e => absurd e ((by decide +kernel : ∀ y ∈ _, (y : Str × NameKind).2 ≠ .free) y hy)⟩ (pv 0) (GG.elt_call (qf_is_above_zero T) T.is_above_zero.F.kp (by rfl) (by decide) (by rfl) T.is_above_zero.g (by decide)) (fun _ _ _ _ k r => GG.RAbove.mono k r) (fun _ _ _ _ _ _ _ I hP rx hv => GG.ab_of I hP rx hv) (fun _ => rfl)))) (pss_one (ps_ret pe_bl)) pss_nil)
      (pss_one (ps_ret (pe_or (pe_cmpR op_eq (pe_callB call_len_seq (by rfl) T.n_len (by decide +kernel) (pa_cons (pv 0) pa_nil)) pe_int (nomark _)) (pe_one (pe_cmpR op_gt (pe_ix ix_list (pv 0) (pe_un un_neg pe_int) (fun _ _ => rfl)) pe_int (nomark _)))))))), ?_⟩
    have hpos := good_len hg
    have hlen : ((rw.map V.int).length : Int) = rw.length := by rw [List.length_map]
    have elen : ∀ {σ : L2.St} {H1 : Hp}, σ[0]? = some (some (.ref a)) → Ex H H1 → Ev (tCB (fun xs H Q => ∃ p ys, xs = [V.ref p] ∧ (SqL K H p ys ∨ SqT K H p ys) ∧ Q (.int ys.length) H) (tCons (tVar 0) tNil)) σ H1 (.int rw.length) :=
      fun h e => ev_is (ev_cb (ea_cons (ev_var h) ea_nil) (rc_lenL (ex_l e hS))) (by rw [hlen])
    refine q_when (b := false) (et_or_ff (et_not (a := true) (et_B (ev_cb (ea_cons (ev_var rfl) (ea_cons ev_c ea_nil)) (rc_isi_seqL hS (by decide +kernel))))) (et_not (a := true) (et_test (ev_chainI (a := true) (b := true) ev_c (elen rfl (Ex.refl H)) ev_c (decide_eq_true (by omega)) (decide_eq_true (by omega)))))) (fun z => nomatch z) fun _ H1 e1 => ?_
    refine q_when (b := false) (et_not (a := true) (et_B (ev_is (GG.ev_allG (ev_var rfl) (ex_l e1 hS) (e1 _ _ hP) (fun H2 e2 => ab_ints rw (good_pos hg))) (by simp)))) (fun z => nomatch z) fun _ H2 e2 => ?_
    have ex := e1.trans e2
    refine s_ret (v := .bl true) (ev_is (ev_orV (a := decide (V.int (rw.length : Int) = V.int 1)) (b := true) (ev_op (elen rfl ex) ev_c (rv_eq rfl)) fun z => ?_) (by simp)) fun H2 e2 => q H2 (ex.trans e2)
    have hne : ¬ rw.length = 1 := fun c => by
      have := of_decide_eq_false z
      exact this (by rw [c]; rfl)
    obtain ⟨n, hn, h2⟩ := good_last hg hne
    have hat : atI (rw.map V.int) (-1) = some (.int n) := by
      unfold atI ixN
      rw [if_neg (by decide), if_pos (by rw [List.length_map]; omega)]
      show (rw.map V.int)[_]? = _
      rw [List.length_map, List.getElem?_map, show (-1 + (rw.length : Int)).toNat = rw.length - 1 by omega, hn]
      rfl
    exact ev_is (ev_op (ev_op (ev_var rfl) (ev_un ev_c ru_neg) (rv_ixL (ex_l ex hS) hat)) ev_c rv_I0) (by rw [decide_eq_true (show 1 < n by omega)])
theorem spv_is_row {P : Addr} {a : Addr} {rw : List Int} {H : Hp} (h : SqL K H a (rw.map V.int)) (hg : GoodRow rw) (hl : rw.length ≤ 1000) (hP : H P = some (GG.tabO P)) : SpV (sp_is_row K P) [.ref a] H (.bl true) := fun H1 e Q q E => ⟨a, rw, rfl, ex_l e h, hg, hl, e _ _ hP, q⟩
theorem ok_pair_of (T : Txt K mg base) : FnOk P w K mg base CX0 4 T.pair_of.f T.pair_of.fd ["row", "common"] (sp_pair_of K T.z_is_row.P) := by
  refine T.pair_of.F.ok sc_pair_of (fun vs H Q E h => ?_) (fun cdv A outer s H vs Q E hr h => ?_)
  · obtain ⟨a, rw, c, rfl, _⟩ := h; rfl
  · obtain ⟨a, rw, c, rfl, hS, hg, hl, hc, hb, hq, hP, q⟩ := h
    refine ⟨_, (pss_cons (ps_if (pt_not (pt_val (pe_call (ok_is_row T) (hr.mono (by omega)) (by rfl) T.is_row.g T.is_row.F.kp T.is_row.b .nil pass0 (pa_cons (pv 0) pa_nil)))) (pss_one ps_never) pss_nil)
      (pss_cons (ps_if (pt_not (pt_val (pe_call (ok_is_above_zero T) (hr.mono (by omega)) (by rfl) T.is_above_zero.g T.is_above_zero.F.kp T.is_above_zero.b .nil pass0 (pa_cons (pv 1) pa_nil)))) (pss_one ps_never) pss_nil)
      (pss_cons (ps_par (i := 2) (j := 3) rfl sc_pair_of.nd rfl rfl (by decide) rfl rfl (pa_cons pe_int (pa_cons (pv 1) pa_nil)) rfl)
      (pss_cons (ps_for PassesOwn.never rfl (pi_reversed (by rfl) T.n_reversed (pa_cons (pv 0) pa_nil)) (pg_name (i := 4) sc_pair_of.nd rfl (by first | exact .inl rfl | exact .inr rfl)) (pss_one (ps_par (i := 2) (j := 3) rfl sc_pair_of.nd rfl rfl (by decide) rfl rfl (pa_cons (pv 3) (pa_cons (pe_op op_add (pe_op op_mulX (pv 4) (pv 3)) (pv 2)) pa_nil)) rfl)))
      (pss_one (ps_ret (pe_tup (pa_cons (pv 3) (pa_cons (pv 2) pa_nil))))))))), ?_⟩
    refine q_when (b := false) (et_not (a := true) (et_B (ev_call (ea_cons (ev_var rfl) ea_nil) (spv_is_row hS hg hl hP)))) (fun z => nomatch z) fun _ H0 e0 => ?_
    refine q_when (b := false) (et_is (et_not (et_B (ev_call (ea_cons (ev_var rfl) ea_nil) spv_above))) (by simp; omega)) (fun z => nomatch z) fun _ H1 e1 => ?_
    refine q_par (ea_cons ev_c (ea_cons (ev_var rfl) ea_nil)) fun H2 e2 => ?_
    have e12 := (e0.trans e1).trans e2
    refine q_forRev (ea_cons (ev_var rfl) ea_nil) (ex_l e12 hS) (fun i σ' H' => ∃ y, σ' = [some (.ref a), some (.int c), some (.int (back (rw.drop (rw.length - i)) c).2), some (.int (back (rw.drop (rw.length - i)) c).1), y] ∧ Ex H H')
      (fun H3 e3 => ⟨none, by rw [Nat.sub_zero, List.drop_length]; rfl, e12.trans e3⟩) (fun i σ' H' _ ⟨_, _, e⟩ => ex_l e hS) (fun i x σ' H' hi hx hP => ?_) (fun σ' H' hP => ?_)
    · obtain ⟨y, rfl, ex⟩ := hP
      rw [List.length_map] at hi hx
      have hj : rw.length - 1 - i < rw.length := by omega
      rw [List.getElem?_map, List.getElem?_eq_getElem hj] at hx
      have ex' : x = .int rw[rw.length - 1 - i] := (Option.some.inj hx).symm
      subst ex'
      have ed : rw.drop (rw.length - (i + 1)) = rw[rw.length - 1 - i] :: rw.drop (rw.length - i) := by
        rw [show rw.length - (i + 1) = rw.length - 1 - i by omega, List.drop_eq_getElem_cons hj, show rw.length - 1 - i + 1 = rw.length - i by omega]
      have hqj := hq _ (List.getElem_mem hj)
      have hbig := back_big hc hg hb (rw.length - i)
      have hcm : CMulX rw[rw.length - 1 - i] (back (rw.drop (rw.length - i)) c).1 := Big.mul hqj.lt hbig.lt
      refine s_par (ea_cons (ev_var rfl) (ea_cons (ev_op (ev_op (ev_var rfl) (ev_var rfl) (rv_I hcm)) (ev_var rfl) rv_I0) ea_nil)) fun H3 e3 => ⟨some (.int rw[rw.length - 1 - i]), ?_, ex.trans e3⟩
      rw [ed, Int.mul_comm]
      rfl
    · obtain ⟨y, rfl, ex⟩ := hP
      rw [List.length_map, Nat.sub_self, List.drop_zero]
      exact s_retU (eu_tup (ea_cons (ev_var rfl) (ea_cons (ev_var rfl) ea_nil)) (by show 2 ≤ 100000; decide)) fun t H4 ht e4 h4 => RetU.go q ex ht e4 h4
end
end Mt

set_option Elab.async false
set_option linter.all false
set_option maxRecDepth 100000
set_option maxHeartbeats 4000000
set_option exponentiation.threshold 300
namespace Mt
open PySem PySem.Spec PyProof.Rows L2 Evl KM KR
/-! ### the law's own row, its pairs, its rows -/
def sp_l_row (K : PySem.W.Frag) : Sp := fun vs H Q _ => ∃ (p : Addr) (a b : Int), vs = [.ref p] ∧ SqT K H p [.int a, .int b] ∧ Big a ∧ Big b ∧ RetQ (rowP (mxF a b) (mnF a b)) (comP (mxF a b) (mnF a b)) H Q
def sp_l_pair_right (K : PySem.W.Frag) (P : Addr) : Sp := fun vs H Q _ => ∃ (p : Addr) (a b : Int), vs = [.ref p] ∧ SqT K H p [.int a, .int b] ∧ Med a ∧ Med b ∧ H P = some (GG.tabO P) ∧ RetV (.bl true) H Q
def sp_l_row_right (K : PySem.W.Frag) (P : Addr) : Sp := fun vs H Q _ => ∃ (a : Addr) (rw : List Int) (c : Int), vs = [.ref a, .int c] ∧ SqL K H a (rw.map V.int) ∧ GoodRow rw ∧ rw.length ≤ 1000 ∧ 0 < c ∧ Big (back rw c).1 ∧ (∀ q ∈ rw, Big q) ∧ H P = some (GG.tabO P) ∧ RetV (.bl true) H Q
section
variable {P : Program} {w : World} {K : PySem.W.Frag} {mg : Str → Option Value} {base : Heap}
theorem spq_l_row {p : Addr} {a b : Int} {H : Hp} (hp : SqT K H p [.int a, .int b]) (ha : Big a) (hb : Big b) : SpQ (sp_l_row K) [.ref p] H (rowP (mxF a b) (mnF a b)) (comP (mxF a b) (mnF a b)) := fun H1 e Q q E => ⟨p, a, b, rfl, ex_t e hp, ha, hb, q⟩
theorem ev_mx {σ : L2.St} {H : Hp} {te : TE} {p : Addr} {a b : Int} (h : Ev te σ H (.ref p)) (hp : SqT K H p [.int a, .int b]) : Ev (tCB (rMaxT K) (tCons te tNil)) σ H (.int (mxF a b)) := by
  have e := rc_maxT (K := K) hp
  rw [mx_eq] at e
  exact ev_cb (ea_cons h ea_nil) e
theorem ev_mn {σ : L2.St} {H : Hp} {te : TE} {p : Addr} {a b : Int} (h : Ev te σ H (.ref p)) (hp : SqT K H p [.int a, .int b]) : Ev (tCB (rMinT K) (tCons te tNil)) σ H (.int (mnF a b)) := by
  have e := rc_minT (K := K) hp
  rw [mn_eq] at e
  exact ev_cb (ea_cons h ea_nil) e
theorem ok_l_row (T : Txt K mg base) : FnOk P w K mg base CX0 1 T.l_row.f T.l_row.fd ["_law_pair_here"] (sp_l_row K) := by
  refine T.l_row.F.ok sc_l_row (fun vs H Q E h => ?_) (fun cdv A outer s H vs Q E hr h => ?_)
  · obtain ⟨p, a, b, rfl, _⟩ := h; rfl
  · obtain ⟨p, a, b, rfl, hp, ha, hb, q⟩ := h
    refine ⟨_, (pss_cons (ps_par (i := 1) (j := 2) rfl sc_l_row.nd rfl rfl (by decide) rfl rfl (pa_cons (pe_callB (cr_maxT rfl hr.units) (by rfl) T.n_max (by decide +kernel) (pa_cons (pv 0) pa_nil)) (pa_cons (pe_callB (cr_minT rfl hr.units) (by rfl) T.n_min (by decide +kernel) (pa_cons (pv 0) pa_nil)) pa_nil)) rfl)
      (pss_cons (ps_set (i := 3) sc_l_row.nd rfl (by first | exact .inl rfl | exact .inr rfl) (pe_lst pa_nil))
      (pss_cons (ps_while PassesOwn.never (pt_cmpR op_gt (pv 2) pe_int (nomark _)) (pss_cons (ps_expr (pe_bm PySem.F.plainAttrs_list PySem.F.slot_list_append PySem.F.type_list_append mt_append (pv 3) (pa_cons (pe_op op_fdivW (pv 1) (pv 2)) pa_nil)))
      (pss_one (ps_par (i := 1) (j := 2) rfl sc_l_row.nd rfl rfl (by decide) rfl rfl (pa_cons (pv 2) (pa_cons (pe_op op_mod (pv 1) (pv 2)) pa_nil)) rfl))))
      (pss_one (ps_ret (pe_tup (pa_cons (pv 3) (pa_cons (pv 1) pa_nil)))))))), ?_⟩
    have hL := big_mn ha hb
    have hH := big_mx ha hb
    have hlen := big_row_len ha hb
    refine q_par (ea_cons (ev_mx (ev_var rfl) hp) (ea_cons (ev_mn (ev_var rfl) hp) ea_nil)) fun H1 e1 => ?_
    refine q_asgL (el_lst ea_nil (by show 0 ≤ 100000; decide)) fun r H2 hr0 e2 h2 => ?_
    have hrN : H r = none := fresh_back e1 hr0
    refine q_while (fun m σ' H' => ∃ (acc : List Int) (g l : Int), σ' = [some (.ref p), some (.int g), some (.int l), some (.ref r)] ∧ Ex H H' ∧ H' r = some (.lst (acc.map V.int)) ∧
      acc ++ rowP g l = rowP (mxF a b) (mnF a b) ∧ comP g l = comP (mxF a b) (mnF a b) ∧ 0 < g ∧ 0 ≤ l ∧ l ≤ mnF a b ∧ m = l.toNat) (mnF a b).toNat
      ⟨[], mxF a b, mnF a b, rfl, e1.trans e2, h2, rfl, rfl, hH.pos, Int.le_of_lt hL.pos, Int.le_refl _, rfl⟩ fun m σ' H' hW => ?_
    obtain ⟨acc, g, l, rfl, ex, hR, er, ec, hg, hl0, hl1, rfl⟩ := hW
    refine ⟨decide (0 < l), et_test (ev_op (ev_var rfl) ev_c rv_I0), fun hc H3 e3 => ?_, fun hc H3 e3 => ?_⟩
    · have hl : 0 < l := of_decide_eq_true hc
      have bl : Big l := hL.le hl hl1
      have r0 := Int.emod_nonneg g (show l ≠ 0 by omega)
      have r1 := Int.emod_lt_of_pos g hl
      rw [rowP_pos hl] at er
      rw [comP_pos hl] at ec
      have hal : acc.length ≤ 16000 := by
        have := congrArg List.length er
        rw [List.length_append] at this
        omega
      refine ⟨fun σ2 H2' => σ2 = [some (.ref p), some (.int l), some (.int (g % l)), some (.ref r)] ∧ Ex H H2' ∧ H2' r = some (.lst ((acc ++ [g / l]).map V.int)), fun σ2 H2' hn => ?_, ?_⟩
      · exact ⟨(g % l).toNat, by omega, acc ++ [g / l], l, g % l, hn.1, hn.2.1, hn.2.2, by rw [List.append_assoc]; exact er, ec, hl, r0, by omega, rfl⟩
      · refine q_app (e3 r _ hR) (ev_var rfl) (ev_op (ev_var rfl) (ev_var rfl) (rv_I bl.div)) (by rw [List.length_map]; omega) fun H4 e4 => ?_
        refine s_par (ea_cons (ev_var rfl) (ea_cons (ev_op (ev_var rfl) (ev_var rfl) (rv_I hl)) ea_nil)) fun H5 e5 => ⟨rfl, (Ex.mut ((ex.trans e3).trans e4) hrN).trans e5, e5 r _ ?_⟩
        rw [List.map_append]
        exact upd_same
    · have hl : l = 0 := by
        have := of_decide_eq_false hc
        omega
      subst hl
      rw [rowP_zero, List.append_nil] at er
      have ec' : g = comP (mxF a b) (mnF a b) := ec
      subst er ec'
      have e03 := ex.trans e3
      exact s_retU (eu_tup (ea_cons (ev_var rfl) (ea_cons (ev_var rfl) ea_nil)) (by show 2 ≤ 100000; decide)) fun t H4 ht e4 h4 => q t r H4 (fresh_back e03 ht) hrN (e03.trans e4) (e4 r _ (e3 r _ hR)) h4
theorem med_len {a b : Int} (ha : Med a) (hb : Med b) : (rowP (mxF a b) (mnF a b)).length ≤ 400 := by
  have h1 := mn_pos ha.big.pos hb.big.pos
  have h2 := (big_mx ha.big hb.big).pos
  refine row_len 200 _ _ h2 (Int.le_of_lt h1) ?_
  have h3 : W 200 (mnF a b) := by unfold mnF; split; exact ha.w; exact hb.w
  have e : (mnF a b).toNat = (mnF a b).natAbs := by omega
  rw [e]
  exact h3
theorem ok_l_pair_right (T : Txt K mg base) : FnOk P w K mg base CX0 7 T.l_pair_right.f T.l_pair_right.fd ["_law_pair_here"] (sp_l_pair_right K T.z_is_row.P) := by
  refine T.l_pair_right.F.ok sc_l_pair_right (fun vs H Q E h => ?_) (fun cdv A outer s H vs Q E hr h => ?_)
  · obtain ⟨p, a, b, rfl, _⟩ := h; rfl
  · obtain ⟨p, a, b, rfl, hp, ma, mb, hP, q⟩ := h
    refine ⟨_, (pss_cons (ps_asg (pe_call (ok_l_row T) (hr.mono (by omega)) (by rfl) T.l_row.g T.l_row.F.kp T.l_row.b .nil pass0 (pa_cons (pv 0) pa_nil)) (pg_tup rfl (pgs_cons (pg_name (i := 1) sc_l_pair_right.nd rfl (by first | exact .inl rfl | exact .inr rfl)) (pgs_cons (pg_name (i := 2) sc_l_pair_right.nd rfl (by first | exact .inl rfl | exact .inr rfl)) pgs_nil))))
      (pss_cons (ps_set (i := 3) sc_l_pair_right.nd rfl (by first | exact .inl rfl | exact .inr rfl) (pe_call (ok_quotients T) (hr.mono (by omega)) (by rfl) T.quotients.g T.quotients.F.kp T.quotients.b .nil pass0 (pa_cons (pv 0) pa_nil)))
      (pss_cons (ps_if (PW.pt (pw_or (pt_not (pt_val (pe_callB call_isi (by rfl) T.n_isinstance (by decide +kernel) (pa_cons (pv 3) (pa_cons (pe_bltn (v := .ty "tuple") (by rfl) T.n_tuple (by decide +kernel) rfl) pa_nil))))) (pw_or (pt_cmpR op_ne (pe_callB call_len_seq (by rfl) T.n_len (by decide +kernel) (pa_cons (pv 3) pa_nil)) pe_int (nomark _)) (pw_or (pt_not (pt_val (pe_callB call_isi (by rfl) T.n_isinstance (by decide +kernel) (pa_cons (pe_ix ix_tup (pv 3) pe_int (fun _ _ => rfl)) (pa_cons (pe_bltn (v := .ty "list") (by rfl) T.n_list (by decide +kernel) rfl) pa_nil))))) (pw_or1 (pt_cmpR (op_neD hr.units) (pv 3) (pe_tup (pa_cons (pv 1) (pa_cons (pv 2) pa_nil))) (nomark _))))))) (pss_one (ps_ret pe_bl)) pss_nil)
      (pss_cons (ps_if (pt_not (pt_val (pe_callB (cr_all rfl) (by rfl) T.n_all (by decide +kernel) (pa_cons (pe_lc (own := [("_law_one", 8)]) (g := gName 8) (tt := tYes) rfl sc_l_pair_right.nd (pi_list (pe_op op_cat (pe_ix ix_tup (pv 3) pe_int (fun _ _ => rfl)) (pe_lst (pa_cons (pe_ix ix_tup (pv 3) pe_int (fun _ _ => rfl)) pa_nil)))) (blkOk_by (own := [("_law_one", 8)]) (N := ["_law_pair_here", "_law_row_here", "_law_common", "_law_found", "_law_handed", "_law_back", "_law_few", "_law_many", "_law_one"]) (sc := defScope s_l_pair_right) (by decide +kernel)) (fun _ _ _ _ _ => pg_name (i := 8) sc_l_pair_right.nd rfl (Or.inl rfl)) (fun _ _ _ _ _ => pts_nil) (fun _ _ _ _ _ => (pe_call (ok_l_whole T) (hr.mono (by omega)) (by rfl) T.l_whole.g T.l_whole.F.kp T.l_whole.b .nil pass0 (pa_cons (pv 8) pa_nil)))) pa_nil)))) (pss_one (ps_ret pe_bl)) pss_nil)
      (pss_cons (ps_set (i := 4) sc_l_pair_right.nd rfl (by first | exact .inl rfl | exact .inr rfl) (pe_callTy call_list_of (by rfl) T.n_list (by decide +kernel) (pa_cons (pv 1) pa_nil)))
      (pss_cons (ps_set (i := 5) sc_l_pair_right.nd rfl (by first | exact .inl rfl | exact .inr rfl) (pe_call (ok_pair_of T) (hr.mono (by omega)) (by rfl) T.pair_of.g T.pair_of.F.kp T.pair_of.b .nil pass0 (pa_cons (pv 4) (pa_cons (pv 2) pa_nil))))
      (pss_cons (ps_if (PW.pt (pw_or (pt_not (pt_val (pe_call (ok_l_is_pair T) (hr.mono (by omega)) (by rfl) T.l_is_pair.g T.l_is_pair.F.kp T.l_is_pair.b .nil pass0 (pa_cons (pv 5) pa_nil)))) (pw_or (pt_cmpR (op_neD hr.units) (pv 5) (pe_tup (pa_cons (pe_callB (cr_maxT rfl hr.units) (by rfl) T.n_max (by decide +kernel) (pa_cons (pv 0) pa_nil)) (pa_cons (pe_callB (cr_minT rfl hr.units) (by rfl) T.n_min (by decide +kernel) (pa_cons (pv 0) pa_nil)) pa_nil))) (nomark _)) (pw_or1 (pt_cmpR (op_neD hr.units) (pv 4) (pv 1) (nomark _)))))) (pss_one (ps_ret pe_bl)) pss_nil)
      (pss_cons (ps_par (i := 6) (j := 7) rfl sc_l_pair_right.nd rfl rfl (by decide) rfl rfl (pa_cons (pe_call (ok_shortest T) (hr.mono (by omega)) (by rfl) T.shortest.g T.shortest.F.kp T.shortest.b .nil pass0 (pa_cons (pv 0) pa_nil)) (pa_cons (pe_call (ok_longest T) (hr.mono (by omega)) (by rfl) T.longest.g T.longest.F.kp T.longest.b .nil pass0 (pa_cons (pv 0) pa_nil)) pa_nil)) rfl)
      (pss_cons (ps_if (PW.pt (pw_or (pt_not (pt_val (pe_call (ok_l_whole T) (hr.mono (by omega)) (by rfl) T.l_whole.g T.l_whole.F.kp T.l_whole.b .nil pass0 (pa_cons (pv 6) pa_nil)))) (pw_or (pt_not (pt_val (pe_call (ok_l_whole T) (hr.mono (by omega)) (by rfl) T.l_whole.g T.l_whole.F.kp T.l_whole.b .nil pass0 (pa_cons (pv 7) pa_nil)))) (pw_or (pt_cmpR op_ne (pv 6) (pe_op op_sub (pe_callB call_len_seq (by rfl) T.n_len (by decide +kernel) (pa_cons (pv 1) pa_nil)) (pe_callTy call_int1 (by rfl) T.n_int (by decide +kernel) (pa_cons (pe_cmpR (op_eqD hr.units) (pv 1) (pe_lst (pa_cons pe_int pa_nil)) (nomark _)) pa_nil))) (nomark _)) (pw_or1 (pt_cmpR op_ne (pv 7) (pe_op op_sub (pe_callB (cr_sum rfl) (by rfl) T.n_sum (by decide +kernel) (pa_cons (pv 1) pa_nil)) pe_int) (nomark _))))))) (pss_one (ps_ret pe_bl)) pss_nil)
      (pss_cons (ps_expr (pe_bm PySem.F.plainAttrs_list PySem.F.slot_list_append PySem.F.type_list_append mt_append (pe_ix ix_tup (pv 3) pe_int (fun _ _ => rfl)) (pa_cons pe_int pa_nil)))
      (pss_one (ps_ret (pe_and (pe_cmpR (op_eqD hr.units) (pe_call (ok_quotients T) (hr.mono (by omega)) (by rfl) T.quotients.g T.quotients.F.kp T.quotients.b .nil pass0 (pa_cons (pe_tup (pa_cons (pe_ix ix_tup (pv 0) pe_int (fun _ _ => rfl)) (pa_cons (pe_ix ix_tup (pv 0) pe_int (fun _ _ => rfl)) pa_nil))) pa_nil)) (pe_tup (pa_cons (pv 1) (pa_cons (pv 2) pa_nil))) (nomark _)) (pe_one (pe_cmpR (op_eqD hr.units) (pe_call (ok_quotients T) (hr.mono (by omega)) (by rfl) T.quotients.g T.quotients.F.kp T.quotients.b .nil pass0 (pa_cons (pv 0) pa_nil)) (pe_tup (pa_cons (pv 1) (pa_cons (pv 2) pa_nil))) (nomark _)))))))))))))))), ?_⟩
    have ha := ma.big
    have hb := mb.big
    have hL := big_mn ha hb
    have hH := big_mx ha hb
    have hlh := mn_mx a b
    have hlen := med_len ma mb
    have hgood := row_good hL.pos hlh
    have hqs : ∀ q ∈ rowP (mxF a b) (mnF a b), Big q := fun q hq => let ⟨q1, q2⟩ := row_le hH.pos (Int.le_of_lt hL.pos) hlh q hq; hH.le (by omega) q2
    have hback := back_row hH.pos (Int.le_of_lt hL.pos)
    have hcom := comP_posit hH.pos (Int.le_of_lt hL.pos)
    have hfew := few_row ha.pos hb.pos
    have hlong : longF a b = (rowP (mxF a b) (mnF a b)).sum - 1 := rfl
    have hsq := fun {H1 : Hp} {x : Addr} (h : SqT K H1 x [.int a, .int b]) => spq_quot (K := K) h ha hb
    have hsq2 := fun {H1 : Hp} {x : Addr} (h : SqT K H1 x [.int b, .int a]) => spq_quot (K := K) h hb ha
    have hsr := spq_l_row (K := K) hp ha hb
    have hss := fun {H1 : Hp} (h : SqT K H1 p [.int a, .int b]) => spv_short (K := K) h ha hb
    have hsl := fun {H1 : Hp} (h : SqT K H1 p [.int a, .int b]) => spv_long (K := K) h ha hb
    rw [mx_comm, mn_comm] at hsq2
    rw [hlong] at hsl
    rw [hfew] at hss
    generalize hR : rowP (mxF a b) (mnF a b) = R at *
    generalize hC : comP (mxF a b) (mnF a b) = C at *
    have hspo := fun {H1 : Hp} {x : Addr} (h : SqL K H1 x (R.map V.int)) (hP1 : H1 T.z_is_row.P = some (GG.tabO T.z_is_row.P)) => spu_pair_of (K := K) h hgood (by omega) hcom (by rw [hback]; exact hH) hqs hP1
    rw [hback] at hspo
    refine q_unQ (eq_call (ea_cons (ev_var rfl) ea_nil) hsr) fun r0 H1 hr0 e1 h1 => ?_
    refine q_asgQ (eq_call (ea_cons (ev_var rfl) ea_nil) (hsq (ex_t e1 hp))) fun f r1 H2 hf hr1 e2 h2r h2f => ?_
    have h1' := e2 r0 _ h1
    refine q_when (b := false) (et_or_ff (et_not (a := true) (et_B (ev_cb (ea_cons (ev_var rfl) (ea_cons ev_c ea_nil)) (rc_isi_tup (st_of h2f) (by decide +kernel))))) (et_or_ff
      (et_test (ev_op (ev_cb (ea_cons (ev_var rfl) ea_nil) (rc_lenT (st_of h2f))) ev_c (rv_ne rfl))) (et_or_ff
      (et_not (a := true) (et_B (ev_cb (ea_cons (ev_op (ev_var rfl) ev_c (rv_ixT (st_of h2f) rfl)) (ea_cons ev_c ea_nil)) (rc_isi_list h2r (by decide +kernel)))))
      (et_is (et_test (ev_neR (er_var (ev_var rfl) (sq_of h2r) (st_of h2f)) (er_tup (ev_var rfl) (ev_var rfl) (sq_of h1')))) (by simp))))) (fun z => nomatch z) fun _ H3 e3 => ?_
    have g3f := e3 f _ h2f
    have g3r := e3 r1 _ h2r
    have e13 := e2.trans e3
    refine q_when (b := false) (et_not (a := true) (et_B (ev_is (ev_allL (bs := List.replicate (R.length + 1) true) ?_) (by rw [all_true])))) (fun z => nomatch z) fun _ H4 e4 => ?_
    · have hl' : (R.map V.int ++ [V.int C]).length = R.length + 1 := by simp
      rw [← given_true, ← hl']
      refine el_compNL (fun _ => .bl true) (el_catV (ev_op (ev_var rfl) ev_c (rv_ixT (st_of g3f) rfl)) g3r (el_lst (ea_cons (ev_op (ev_var rfl) ev_c (rv_ixT (st_of g3f) rfl)) ea_nil) (by show 1 ≤ 100000; decide)) (by show (R.map V.int).length + 1 ≤ 100000; rw [List.length_map]; omega)) (by rw [hl']; omega) (fun x => rfl) fun i x H5 e5 hi => ?_
      have hx : ∃ n : Int, x = .int n := by
        rcases List.mem_append.mp (List.mem_of_getElem? hi) with m | m
        · obtain ⟨n, _, e⟩ := List.mem_map.mp m
          exact ⟨n, e.symm⟩
        · exact ⟨C, List.mem_singleton.mp m⟩
      obtain ⟨n, rfl⟩ := hx
      exact ev_call (ea_cons (ev_var rfl) ea_nil) spv_whole
    have e14 := e13.trans e4
    refine q_asgL (el_list (K := K) (ev_var rfl) (sq_of (e14 r0 _ h1))) fun hd H5 _ e5 h5 => ?_
    have e15 := e14.trans e5
    refine q_asgU (eu_call (ea_cons (ev_var rfl) (ea_cons (ev_var rfl) ea_nil)) (hspo (sq_of h5) ((e1.trans e15) _ _ hP))) fun bk H6 _ e6 h6 => ?_
    have e16 := e15.trans e6
    have hp6 := ex_t (e1.trans e16) hp
    refine q_when (b := false) (et_or_ff (et_not (a := true) (et_B (ev_call (ea_cons (ev_var rfl) ea_nil) (spv_is_pair (st_of h6))))) (et_or_ff
      (et_test (ev_opV (ev_var rfl) (eu_tup (ea_cons (ev_mx (ev_var rfl) hp6) (ea_cons (ev_mn (ev_var rfl) hp6) ea_nil)) (by show 2 ≤ 100000; decide)) fun t H7 h7 e7 => rv_nePair (ex_t e7 (st_of h6)) (st_of h7)))
      (et_is (et_test (ev_op (ev_var rfl) (ev_var rfl) (rv_neInts (sq_of (e6 hd _ h5)) (sq_of (e16 r0 _ h1))))) (by simp)))) (fun z => nomatch z) fun _ H7 e7 => ?_
    have e17 := e16.trans e7
    have hp7 := ex_t (e1.trans e17) hp
    refine q_par (ea_cons (ev_call (ea_cons (ev_var rfl) ea_nil) (hss hp7)) (ea_cons (ev_call (ea_cons (ev_var rfl) ea_nil) (hsl hp7)) ea_nil)) fun H8 e8 => ?_
    have e18 := e17.trans e8
    have r08 : SqL K H8 r0 (R.map V.int) := sq_of (e18 r0 _ h1)
    refine q_when (b := false) (et_or_ff (et_not (a := true) (et_B (ev_call (ea_cons (ev_var rfl) ea_nil) spv_whole))) (et_or_ff (et_not (a := true) (et_B (ev_call (ea_cons (ev_var rfl) ea_nil) spv_whole))) (et_or_ff
      (et_is (et_test (ev_op (ev_var rfl) (ev_op (ev_cb (ea_cons (ev_var rfl) ea_nil) (rc_lenL r08)) (ev_cb (ea_cons (ev_opL (ev_var rfl) (el_lst (ea_cons ev_c ea_nil) (by show 1 ≤ 100000; decide)) fun l H9 hl e9 => rv_eqInts (b := [1]) (ex_l e9 r08) (sq_of hl)) ea_nil) rc_int_bl) rv_I0) (rv_ne rfl))) ?_)
      (et_is (et_test (ev_op (ev_var rfl) (ev_op (ev_cb (ea_cons (ev_var rfl) ea_nil) (rc_sum r08)) ev_c rv_I0) (rv_ne rfl))) (by simp))))) (fun z => nomatch z) fun _ H9 e9 => ?_
    · rw [List.length_map]
      by_cases c : R = [1]
      · simp [c]
      · simp [c]
    have e19 := e18.trans e9
    have g9f : H9 f = some (.tup [.ref r1, .int C]) := (((((e4.trans e5).trans e6).trans e7).trans e8).trans e9) f _ g3f
    have g9r : H9 r1 = some (.lst (R.map V.int)) := (((((e4.trans e5).trans e6).trans e7).trans e8).trans e9) r1 _ g3r
    refine q_app g9r (ev_op (ev_var rfl) ev_c (rv_ixT (st_of g9f) rfl)) ev_c (by rw [List.length_map]; omega) fun H10 e10 => ?_
    have eU : Ex H1 (upd H10 r1 (.lst (R.map V.int ++ [.int 1]))) := Ex.mut (e19.trans e10) hr1
    have hpU := ex_t (e1.trans eU) hp
    have r0U := sq_of (K := K) (eU r0 _ h1)
    refine s_ret (v := .bl true) (ev_andV (a := true) (b := true) (ev_is (ev_eqR (eq_callU (eu_tup (ea_cons (ev_op (ev_var rfl) ev_c (rv_ixT hpU rfl)) (ea_cons (ev_op (ev_var rfl) ev_c (rv_ixT hpU rfl)) ea_nil)) (by show 2 ≤ 100000; decide)) fun t H11 ht _ => hsq2 (st_of ht)).toR (er_tup (ev_var rfl) (ev_var rfl) r0U)) (by simp))
      fun _ => ev_is (ev_eqR (eq_call (ea_cons (ev_var rfl) ea_nil) (hsq hpU)).toR (er_tup (ev_var rfl) (ev_var rfl) r0U)) (by simp)) fun H12 e12 => q H12 ((e1.trans eU).trans e12)
theorem spv_pair_right {p : Addr} {a b : Int} {H : Hp} {P : Addr} (hp : SqT K H p [.int a, .int b]) (ha : Med a) (hb : Med b) (hP : H P = some (GG.tabO P)) : SpV (sp_l_pair_right K P) [.ref p] H (.bl true) := fun H1 e Q q E => ⟨p, a, b, rfl, ex_t e hp, ha, hb, e _ _ hP, q⟩
theorem ok_l_row_right (T : Txt K mg base) : FnOk P w K mg base CX0 7 T.l_row_right.f T.l_row_right.fd ["_law_row_here", "_law_common"] (sp_l_row_right K T.z_is_row.P) := by
  refine T.l_row_right.F.ok sc_l_row_right (fun vs H Q E h => ?_) (fun cdv A outer s H vs Q E hr h => ?_)
  · obtain ⟨a, rw, c, rfl, _⟩ := h; rfl
  · obtain ⟨a, rw, c, rfl, hS, hg, hl, hc, hb, hq, hP, q⟩ := h
    refine ⟨_, (pss_cons (ps_par (i := 2) (j := 3) rfl sc_l_row_right.nd rfl rfl (by decide) rfl rfl (pa_cons (pv 1) (pa_cons pe_int pa_nil)) rfl)
      (pss_cons (ps_for PassesOwn.never rfl (pi_list (pe_revL (pv 0))) (pg_name (i := 4) sc_l_row_right.nd rfl (by first | exact .inl rfl | exact .inr rfl)) (pss_one (ps_par (i := 2) (j := 3) rfl sc_l_row_right.nd rfl rfl (by decide) rfl rfl (pa_cons (pe_op op_add (pe_op op_mulX (pv 2) (pv 4)) (pv 3)) (pa_cons (pv 2) pa_nil)) rfl)))
      (pss_cons (ps_set (i := 5) sc_l_row_right.nd rfl (by first | exact .inl rfl | exact .inr rfl) (pe_callTy call_list_of (by rfl) T.n_list (by decide +kernel) (pa_cons (pv 0) pa_nil)))
      (pss_cons (ps_set (i := 6) sc_l_row_right.nd rfl (by first | exact .inl rfl | exact .inr rfl) (pe_call (ok_pair_of T) (hr.mono (by omega)) (by rfl) T.pair_of.g T.pair_of.F.kp T.pair_of.b .nil pass0 (pa_cons (pv 5) (pa_cons (pv 1) pa_nil))))
      (pss_cons (ps_if (PW.pt (pw_or (pt_not (pt_val (pe_call (ok_l_is_pair T) (hr.mono (by omega)) (by rfl) T.l_is_pair.g T.l_is_pair.F.kp T.l_is_pair.b .nil pass0 (pa_cons (pv 6) pa_nil)))) (pw_or (pt_cmpR (op_neD hr.units) (pv 6) (pe_tup (pa_cons (pv 2) (pa_cons (pv 3) pa_nil))) (nomark _)) (pw_or1 (pt_cmpR (op_neD hr.units) (pv 5) (pv 0) (nomark _)))))) (pss_one (ps_ret pe_bl)) pss_nil)
      (pss_one (ps_ret (pe_cmpR (op_eqD hr.units) (pe_call (ok_quotients T) (hr.mono (by omega)) (by rfl) T.quotients.g T.quotients.F.kp T.quotients.b .nil pass0 (pa_cons (pv 6) pa_nil)) (pe_tup (pa_cons (pv 0) (pa_cons (pv 1) pa_nil))) (nomark _))))))))), ?_⟩
    obtain ⟨b1, b2, _⟩ := back_pos hc hg
    obtain ⟨k1, k2⟩ := row_back hc hg
    obtain ⟨m1, m2⟩ := mx_of b2
    have bB : Big (back rw c).2 := hb.le b1 b2
    refine q_par (ea_cons (ev_var rfl) (ea_cons ev_c ea_nil)) fun H1 e1 => ?_
    refine q_forNLn (el_rev (ev_var rfl) (ex_l e1 hS)) (fun l i σ' H' => ∃ y, σ' = [some (.ref a), some (.int c), some (.int (back (rw.drop (rw.length - i)) c).1), some (.int (back (rw.drop (rw.length - i)) c).2), y, none, none] ∧ Ex H H' ∧ H' l = some (.lst (rw.map V.int).reverse))
      (fun l H2 _ e2 h2 => ⟨none, by rw [Nat.sub_zero, List.drop_length]; rfl, e1.trans e2, h2⟩) (fun l i σ' H' _ ⟨_, _, _, h⟩ => sq_of h) (fun l i x σ' H' hi hP => ?_) (fun l σ' H' hP => ?_)
    · obtain ⟨y, rfl, ex, hL⟩ := hP
      have hil := (List.getElem?_eq_some_iff.mp hi).1
      rw [List.length_reverse, List.length_map] at hil
      have hj : rw.length - 1 - i < rw.length := by omega
      rw [List.getElem?_reverse (by rw [List.length_map]; exact hil), List.length_map, List.getElem?_map, List.getElem?_eq_getElem hj] at hi
      have ex' : x = .int rw[rw.length - 1 - i] := (Option.some.inj hi).symm
      subst ex'
      have ed : rw.drop (rw.length - (i + 1)) = rw[rw.length - 1 - i] :: rw.drop (rw.length - i) := by
        rw [show rw.length - (i + 1) = rw.length - 1 - i by omega, List.drop_eq_getElem_cons hj, show rw.length - 1 - i + 1 = rw.length - i by omega]
      have hqj := hq _ (List.getElem_mem hj)
      have hbig := back_big hc hg hb (rw.length - i)
      have hcm : CMulX (back (rw.drop (rw.length - i)) c).1 rw[rw.length - 1 - i] := Big.mul hbig.lt hqj.lt
      refine s_par (ea_cons (ev_op (ev_op (ev_var rfl) (ev_var rfl) (rv_I hcm)) (ev_var rfl) rv_I0) (ea_cons (ev_var rfl) ea_nil)) fun H3 e3 => ⟨some (.int rw[rw.length - 1 - i]), ?_, ex.trans e3, e3 l _ hL⟩
      rw [ed]
      rfl
    · obtain ⟨y, rfl, ex, hL⟩ := hP
      rw [List.length_reverse, List.length_map, Nat.sub_self, List.drop_zero]
      refine q_asgL (el_list (K := K) (ev_var rfl) (ex_l ex hS)) fun hd H2 _ e2 h2 => ?_
      refine q_asgU (eu_call (ea_cons (ev_var rfl) (ea_cons (ev_var rfl) ea_nil)) (spu_pair_of (sq_of h2) hg hl hc hb hq ((ex.trans e2) _ _ hP))) fun f H3 _ e3 h3 => ?_
      have ex3 := (ex.trans e2).trans e3
      refine q_when (b := false) (et_or_ff (et_not (a := true) (et_B (ev_call (ea_cons (ev_var rfl) ea_nil) (spv_is_pair (st_of h3))))) (et_or_ff
        (et_test (ev_opV (ev_var rfl) (eu_tup (ea_cons (ev_var rfl) (ea_cons (ev_var rfl) ea_nil)) (by show 2 ≤ 100000; decide)) fun t H7 h7 e7 => rv_nePair (ex_t e7 (st_of h3)) (st_of h7)))
        (et_is (et_test (ev_op (ev_var rfl) (ev_var rfl) (rv_neInts (sq_of (e3 hd _ h2)) (ex_l ex3 hS)))) (by simp)))) (fun z => nomatch z) fun _ H4 e4 => ?_
      have hsq := spq_quot (K := K) (st_of (e4 f _ h3)) hb bB
      rw [m1, m2, k1, k2] at hsq
      exact s_ret (ev_is (ev_eqR (eq_call (ea_cons (ev_var rfl) ea_nil) hsq).toR (er_tup (ev_var rfl) (ev_var rfl) (ex_l (ex3.trans e4) hS))) (by simp)) fun H5 e5 => q H5 ((ex3.trans e4).trans e5)
theorem spv_row_right {a : Addr} {rw : List Int} {c : Int} {H : Hp} (h : SqL K H a (rw.map V.int)) (hg : GoodRow rw) (hl : rw.length ≤ 1000) (hc : 0 < c) {P : Addr} (hb : Big (back rw c).1) (hq : ∀ q ∈ rw, Big q) (hP : H P = some (GG.tabO P)) : SpV (sp_l_row_right K P) [.ref a, .int c] H (.bl true) :=
  fun H1 e Q q E => ⟨a, rw, c, rfl, ex_l e h, hg, hl, hc, hb, hq, e _ _ hP, q⟩
end
end Mt

set_option Elab.async false
set_option linter.all false
set_option maxRecDepth 100000
set_option maxHeartbeats 4000000
set_option exponentiation.threshold 300
namespace Mt
open PySem PySem.Spec PyProof.Rows L2 Evl KM KR
/-! ### the law -/
def sp_law (K : PySem.W.Frag) (tp : List Addr) : Sp := fun vs H Q _ => ∃ (a : Addr) (ns : List Int), vs = [.ref a] ∧ SqL K H a (ns.map V.int) ∧ ns.length ≤ 63 ∧ (∀ n ∈ ns, W 1048576 n) ∧ (∀ p ∈ tp, H p = some (GG.tabO p)) ∧ ∀ H', (∀ p ∈ tp, H' p = some (GG.tabO p)) → Q (.bl true) H'
def widthL : List Int := [1, 3, 50, (10 : Int) ^ (20 : Int).toNat]
theorem width_ok : ∀ j < 4, 1 ≤ widthL.getD j 0 ∧ widthL.getD j 0 ≤ 100000000000000000000 := by decide
/-- a row of the law, and that it is one to ask with -/
structure RowOk (rw : List Int) (c : Int) : Prop where
  good : GoodRow rw
  len : rw.length ≤ 1000
  big : Big (back rw c).1
  all : ∀ q ∈ rw, Big q
theorem big_of_W {k : Nat} {x : Int} (h0 : 0 < x) (h : W k x) (hk : k ≤ 8000) : Big x := ⟨h0, h.mono hk⟩
theorem row_ok {r : List Int} {q c : Int} {k : Nat} (hc : 0 < c) (hw : W 102 c) (hr : ∀ x ∈ r, 1 ≤ x ∧ x + 1 ≤ ((2 ^ k : Nat) : Int)) (hq : 2 ≤ q ∧ q + 1 ≤ ((2 ^ k : Nat) : Int)) (hl : r.length < 1000) (hk : 102 + k * (r.length + 1) ≤ 8000) (k1 : k ≤ 100) : RowOk (r ++ [q]) c := by
  have hall : ∀ x ∈ r ++ [q], 1 ≤ x ∧ x + 1 ≤ ((2 ^ k : Nat) : Int) := by
    intro x hx
    rcases List.mem_append.mp hx with h | h
    · exact hr x h
    · rw [List.mem_singleton.mp h]
      exact ⟨by omega, hq.2⟩
  have hlen : (r ++ [q]).length = r.length + 1 := by simp
  obtain ⟨b1, _, _, b4⟩ := back_W hc hw hall
  rw [hlen] at b4
  refine ⟨good_of2 (good_snoc hq.1 fun x hx => (hr x hx).1), by rw [hlen]; omega, big_of_W b1 b4 hk, fun x hx => ?_⟩
  obtain ⟨h1, h2⟩ := hall x hx
  refine big_of_W (k := 100) (by omega) ?_ (by decide)
  have hp : 2 ^ k ≤ 2 ^ 100 := Nat.pow_le_pow_right (by decide) k1
  unfold W
  omega
theorem one_ok {c : Int} (hc : 0 < c) (hw : W 102 c) {q : Int} (h1 : 1 ≤ q) (h2 : q + 1 ≤ ((2 ^ 67 : Nat) : Int)) : RowOk [q] c := by
  have hall : ∀ x ∈ [q], 1 ≤ x ∧ x + 1 ≤ ((2 ^ 67 : Nat) : Int) := fun x hx => by
    rw [List.mem_singleton.mp hx]
    exact ⟨h1, h2⟩
  obtain ⟨b1, _, _, b4⟩ := back_W hc hw hall
  refine ⟨h1, by show 1 ≤ 1000; decide, big_of_W b1 b4 (by show 102 + 67 * 1 ≤ 8000; decide), fun x hx => ?_⟩
  rw [List.mem_singleton.mp hx]
  refine big_of_W (k := 67) (by omega) ?_ (by decide)
  unfold W
  omega
theorem rep_flat (k : Nat) (x : V) : (List.replicate k [x]).flatten = List.replicate k x := by
  induction k with
  | zero => rfl
  | succ k ih => rw [List.replicate_succ, List.flatten_cons, ih, List.replicate_succ]; rfl
theorem cut5 (xs : List V) : cutV xs none (some 5) = xs.take 5 := by
  unfold cutV
  rw [HT.sIx_none, show ((5 : Int)) = ((5 : Nat) : Int) from rfl, HT.sIx_nat, List.drop_zero, Nat.sub_zero]
  by_cases c : 5 ≤ xs.length
  · rw [Nat.min_eq_left c]
  · rw [Nat.min_eq_right (by omega), List.take_of_length_le (Nat.le_refl _), List.take_of_length_le (by omega)]
section
variable {P : Program} {w : World} {K : PySem.W.Frag} {mg : Str → Option Value} {base : Heap}
theorem rv_eqPair {p q : Addr} {a b : Int} {H : Hp} (hp : SqT K H p [.int a, .int b]) (hq : SqT K H q [.int a, .int b]) : RV (rEqD K) (.ref p) (.ref q) H (.bl true) := by
  have e := rv_eqD (dp_pair hp) (dp_pair hq) (sh_pair a b) (sh_pair a b)
  rw [eqv_pair] at e
  simpa using e
/-- the first of two arguments a new list, a tuple handed back -/
theorem eu_callL2 {sp : Sp} {xs zs : List V} {E : XK} {σ : L2.St} {H : Hp} {ta tb : TE} {y : V} (h : EvL ta σ H xs) (hb : Ev tb σ H y) (hs : ∀ p H1, H1 p = some (.lst xs) → Ex H H1 → SpU sp [.ref p, y] H1 zs) : EvU (tCall sp [] E (tCons ta (tCons tb tNil))) σ H zs := fun H1 e Q q =>
  h H1 e _ fun p H2 _ e2 hp => hb H2 (e.trans e2) _ fun H3 e3 => hs p H3 (e3 p _ hp) ((e.trans e2).trans e3) H3 (Ex.refl H3) Q (fun p' H4 hp' e4 h4 => q p' H4 (fresh_back (e2.trans e3) hp') ((e2.trans e3).trans e4) h4) E
theorem ok_law {f : Addr} {fd : FuncData} (F : Fun K "law" "law" s_law f fd) (T : Txt K mg base) : FnOk P w K mg base CX0 8 f fd ["_law_script"] (sp_law K [T.z_is_row.P]) := by
  refine F.ok sc_law (fun vs H Q E h => ?_) (fun cdv A outer s H vs Q E hr h => ?_)
  · obtain ⟨a, ns, rfl, _⟩ := h; rfl
  · obtain ⟨a, ns, rfl, hS, hl, hW, hTP, q⟩ := h
    have hT0 : H T.z_is_row.P = some (GG.tabO T.z_is_row.P) := hTP _ (by simp)
    refine ⟨_, (pss_cons (ps_set (i := 1) sc_law.nd rfl (by first | exact .inl rfl | exact .inr rfl) (pe_callB (cr_sum rfl) (by rfl) T.n_sum (by decide +kernel) (pa_cons (pe_slice sl_list (pv 0) po_none (po_some pe_int)) pa_nil)))
      (pss_cons (ps_set (i := 2) sc_law.nd rfl (by first | exact .inl rfl | exact .inr rfl) (pe_ifExp (pt_cmpR (op_neD hr.units) (pv 0) (pe_lst pa_nil) (nomark _)) (pe_slice sl_list (pv 0) po_none (po_some pe_int)) (pe_lst (pa_cons pe_int pa_nil))))
      (pss_cons (ps_for PassesOwn.never rfl (pi_range1 (by rfl) T.n_range (pa_cons (pe_callB (call_min2 rfl) (by rfl) T.n_min (by decide +kernel) (pa_cons pe_int (pa_cons (pe_callB call_len_seq (by rfl) T.n_len (by decide +kernel) (pa_cons (pv 2) pa_nil)) pa_nil))) pa_nil)) (pg_name (i := 3) sc_law.nd rfl (by first | exact .inl rfl | exact .inr rfl)) (pss_one (ps_if (pt_not (pt_val (pe_call (ok_l_pair_right T) (hr.mono (by omega)) (by rfl) T.l_pair_right.g T.l_pair_right.F.kp T.l_pair_right.b .nil pass0 (pa_cons (pe_call (ok_l_pair T) (hr.mono (by omega)) (by rfl) T.l_pair.g T.l_pair.F.kp T.l_pair.b .nil pass0 (pa_cons (pv 0) (pa_cons (pv 3) pa_nil))) pa_nil)))) (pss_one (ps_ret pe_bl)) pss_nil)))
      (pss_cons (ps_set (i := 4) sc_law.nd rfl (by first | exact .inl rfl | exact .inr rfl) (pe_ix ix_tup (pe_tup (pa_cons pe_int (pa_cons pe_int (pa_cons pe_int (pa_cons (pe_op op_pow pe_int pe_int) pa_nil))))) (pe_op op_mod (pv 1) pe_int) (fun _ _ => rfl)))
      (pss_cons (ps_setLc (i := 5) (own := [("_law_at", 3), ("_law_cell", 8)]) (g := gTup K 2 (gCons (gName 3) (gCons (gName 8) gNil))) (tt := tYes) rfl sc_law.nd rfl rfl (sw_true rfl rfl rfl (by decide +kernel)) (pi_enum (by rfl) T.n_enumerate (pa_cons (pv 2) pa_nil)) (blkOk_by (own := [("_law_at", 3), ("_law_cell", 8)]) (N := ["_law_script", "_law_whole_here", "_law_cells", "_law_at", "_law_wide", "_law_row_here", "_law_common", "_law_some", "_law_cell"]) (sc := defScope s_law) (by decide +kernel)) (fun _ _ _ _ _ => (pg_tup rfl (pgs_cons (pg_name (i := 3) sc_law.nd rfl (Or.inl rfl)) (pgs_cons (pg_name (i := 8) sc_law.nd rfl (Or.inl rfl)) pgs_nil)))) (fun _ _ _ _ _ => pts_nil) (fun _ _ _ _ _ => (pe_op op_add pe_int (pe_op op_mod (pe_op op_fdivW (pe_call (ok_l_number T) (hr.mono (by omega)) (by rfl) T.l_number.g T.l_number.F.kp T.l_number.b .nil pass0 (pa_cons (pv 8) (pa_cons (pv 3) (pa_cons (pv 1) pa_nil)))) pe_int) (pv 4)))))
      (pss_cons (ps_asg (pe_op op_add (pe_ix ix_list (pv 5) (pe_un un_neg pe_int) (fun _ _ => rfl)) pe_int) (pg_sub (pv 5) (pe_un un_neg pe_int) set_list))
      (pss_cons (ps_set (i := 6) sc_law.nd rfl (by first | exact .inl rfl | exact .inr rfl) (pe_ix ix_tup (pe_tup (pa_cons pe_int (pa_cons (pe_op op_add pe_int (pe_op op_mod (pv 1) pe_int)) (pa_cons (pe_op op_add (pe_op op_pow pe_int pe_int) (pe_op op_mod (pv 1) (pe_op op_pow pe_int pe_int))) pa_nil)))) (pe_op op_mod (pe_op op_fdivW (pv 1) pe_int) pe_int) (fun _ _ => rfl)))
      (pss_cons (ps_for PassesOwn.never rfl (pi_list (pe_lst (pa_cons (pv 5) (pa_cons (pe_op op_cat (pe_slice sl_list (pe_revL (pv 5)) po_none (po_some pe_int)) (pe_lst (pa_cons pe_int pa_nil))) (pa_cons (pe_lst (pa_cons (pe_ix ix_list (pv 5) pe_int (fun _ _ => rfl)) pa_nil)) (pa_cons (pe_lst (pa_cons pe_int pa_nil)) (pa_cons (pe_op op_cat (pe_op op_rep (pe_lst (pa_cons pe_int pa_nil)) (pe_op op_mod (pe_op op_fdivW (pv 1) pe_int) pe_int)) (pe_lst (pa_cons pe_int pa_nil))) pa_nil))))))) (pg_name (i := 7) sc_law.nd rfl (by first | exact .inl rfl | exact .inr rfl)) (pss_one (ps_if (pt_not (pt_val (pe_call (ok_l_row_right T) (hr.mono (by omega)) (by rfl) T.l_row_right.g T.l_row_right.F.kp T.l_row_right.b .nil pass0 (pa_cons (pv 7) (pa_cons (pv 6) pa_nil))))) (pss_one (ps_ret pe_bl)) pss_nil)))
      (pss_one (ps_ret (pe_and (pe_cmpR (op_eqD hr.units) (pe_call (ok_quotients T) (hr.mono (by omega)) (by rfl) T.quotients.g T.quotients.F.kp T.quotients.b .nil pass0 (pa_cons (pe_tup (pa_cons pe_int (pa_cons pe_int pa_nil))) pa_nil)) (pe_tup (pa_cons (pe_lst (pa_cons pe_int (pa_cons pe_int (pa_cons pe_int pa_nil)))) (pa_cons pe_int pa_nil))) (nomark _)) (pe_and (pe_cmpR (op_eqD hr.units) (pe_call (ok_pair_of T) (hr.mono (by omega)) (by rfl) T.pair_of.g T.pair_of.F.kp T.pair_of.b .nil pass0 (pa_cons (pe_lst (pa_cons pe_int pa_nil)) (pa_cons pe_int pa_nil))) (pe_tup (pa_cons pe_int (pa_cons pe_int pa_nil))) (nomark _)) (pe_one (pe_cmpR (op_eqD hr.units) (pe_call (ok_quotients T) (hr.mono (by omega)) (by rfl) T.quotients.g T.quotients.F.kp T.quotients.b .nil pass0 (pa_cons (pe_tup (pa_cons pe_int (pa_cons pe_int pa_nil))) pa_nil)) (pe_tup (pa_cons (pe_lst (pa_cons pe_int pa_nil)) (pa_cons pe_int pa_nil))) (nomark _))))))))))))))), ?_⟩
    have sl := el_sl (K := K) (σ := L2.start ["_law_script", "_law_whole_here", "_law_cells", "_law_at", "_law_wide", "_law_row_here", "_law_common", "_law_some", "_law_cell"] [.ref a]) (te := tVar 0) (tl := tNoPart) (th := tPart (tC (.int 63))) (ev_var rfl) eo_none (eo_some (i := 63) ev_c) hS
    rw [cut63 (by rw [List.length_map]; exact hl)] at sl
    refine q_asg (ev_sumL sl) fun H1 e1 => ?_
    refine q_asgL (el_cells (d := 7) (ev_var rfl) (ev_var rfl) (ex_l e1 hS) hl) fun c H2 _ e2 hc => ?_
    have e12 := e1.trans e2
    have hC : SqL K H2 c ((cellsF 7 ns).map V.int) := sq_of hc
    have hcl := cells_len (d := 7) hl
    have hcW := cells_W ((W.small (x := 7) (by decide) (by decide)).mono (by decide)) hW
    generalize cellsF 7 ns = cs at *
    generalize ns.sum = wh at *
    have hlen : ((cs.map V.int).length : Int) = cs.length := by rw [List.length_map]
    -- each cell's pair
    refine q_forR1 (n := cs.length) (ea_cons (ev_is (ev_cb (ea_cons ev_c (ea_cons (ev_cb (ea_cons (ev_var rfl) ea_nil) (rc_lenL hC)) ea_nil)) rc_min2) (by rw [hlen]; split <;> congr 1; omega)) ea_nil) (by omega)
      (fun i σ' H' => ∃ x3, σ' = [some (.ref a), some (.int wh), some (.ref c), x3, none, none, none, none, none] ∧ Ex H2 H') (fun H3 e3 => ⟨none, rfl, e3⟩) (fun i σ' H' hi hP => ?_) (fun σ' H' hP => ?_)
    · obtain ⟨x3, rfl, ex⟩ := hP
      have hSx := ex_l (e12.trans ex) hS
      refine s_when (b := false) (et_not (a := true) (et_B ?_)) (fun z => nomatch z) fun _ H3 e3 => ⟨_, rfl, ex.trans e3⟩
      refine ev_callS1 (P := fun v H' => ∃ (p : Addr) (x y : Int), v = .ref p ∧ Med x ∧ Med y ∧ H' p = some (.tup [.int x, .int y])) (es_call (ea_cons (ev_var rfl) (ea_cons (ev_var rfl) ea_nil)) fun H3 e3 Q' q' E' => ?_) fun v H1' eh hv => ?_
      · exact ⟨a, ns, (i : Int), rfl, ex_l e3 hSx, hl, hW, by omega, by omega, fun x y bx by' p H5 hp e5 h5 => q' _ H5 e5 ⟨p, x, y, rfl, bx, by', h5⟩⟩
      · obtain ⟨p, x, y, rfl, bx, by', hp⟩ := hv
        exact spv_pair_right (st_of hp) bx by' (eh _ _ ((e12.trans ex) _ _ hT0))
    obtain ⟨x3, rfl, ex⟩ := hP
    have hC' := ex_l ex hC
    -- the width
    have j0 := Int.emod_nonneg wh (show (4 : Int) ≠ 0 by decide)
    have j1 := Int.emod_lt_of_pos wh (show (0 : Int) < 4 by decide)
    have hw := width_ok (wh % 4).toNat (by omega)
    have hwat : atI (widthL.map V.int) (wh % 4) = some (.int (widthL.getD (wh % 4).toNat 0)) := by
      refine at_of (j := (wh % 4).toNat) (by omega) ?_
      have hj : (wh % 4).toNat < widthL.length := by show _ < 4; omega
      have e : widthL[(wh % 4).toNat]? = some (widthL.getD (wh % 4).toNat 0) := by
        rw [List.getD_eq_getElem?_getD, List.getElem?_eq_getElem hj]
        rfl
      rw [List.getElem?_map, e]
      rfl
    refine q_asg (v := .int (widthL.getD (wh % 4).toNat 0)) (ev_opU1 (xs := widthL.map V.int) (eu_tup (ea_cons ev_c (ea_cons ev_c (ea_cons ev_c (ea_cons (ev_op ev_c ev_c (rv_I (cp_small (by decide) (by decide) (by decide) (by decide)))) ea_nil)))) (by show 4 ≤ 100000; decide))
      (ev_op (ev_var rfl) ev_c (rv_I (by decide))) fun p H1 hp _ => rv_ixT (st_of hp) hwat) fun H3 e3 => ?_
    generalize widthL.getD (wh % 4).toNat 0 = wd at *
    -- the row
    have hrow : ∃ g : Nat → Int, ∀ i, i < cs.length → (1 ≤ g i ∧ g i ≤ 100000000000000000000) ∧ ∀ n, cs[i]? = some n → g i = 1 + numF n (i : Int) wh / 3 % wd := by
      refine ⟨fun i => 1 + numF (cs.getD i 0) (i : Int) wh / 3 % wd, fun i hi => ⟨?_, fun n hn => ?_⟩⟩
      · have r0 := Int.emod_nonneg (numF (cs.getD i 0) (i : Int) wh / 3) (show wd ≠ 0 by omega)
        have r1 := Int.emod_lt_of_pos (numF (cs.getD i 0) (i : Int) wh / 3) (show 0 < wd by omega)
        show 1 ≤ 1 + numF (cs.getD i 0) (i : Int) wh / 3 % wd ∧ 1 + numF (cs.getD i 0) (i : Int) wh / 3 % wd ≤ _
        omega
      · show 1 + numF (cs.getD i 0) (i : Int) wh / 3 % wd = _
        rw [List.getD_eq_getElem?_getD, hn]
        rfl
    obtain ⟨g, hg⟩ := hrow
    refine q_asgL (el_compE (K := K) (fun i => .int (g i)) (ea_cons (ev_var rfl) ea_nil) (ex_l e3 hC') (by rw [List.length_map]; omega) (fun x y => rfl) fun i x H4 e4 hi => ?_) fun r H4 hr4 e4 h4 => ?_
    · rw [List.getElem?_map] at hi
      cases hn : cs[i]? with
      | none => rw [hn] at hi; cases hi
      | some n =>
        rw [hn] at hi
        have ex' : x = .int n := (Option.some.inj hi).symm
        subst ex'
        have hil := (List.getElem?_eq_some_iff.mp hn).1
        rw [(hg i hil).2 n hn]
        exact ev_op ev_c (ev_op (ev_op (ev_call (ea_cons (ev_var rfl) (ea_cons (ev_var rfl) (ea_cons (ev_var rfl) ea_nil))) (spv_number (hcW n (List.mem_of_getElem? hn)) (by omega) (by omega))) ev_c (rv_I (cd_small (by decide) (by decide)))) (ev_var rfl) (rv_I (by omega))) rv_I0
    have hr0 : given (cs.map V.int).length (fun _ => true) (fun i => V.int (g i)) = ((List.range cs.length).map g).map V.int := by
      unfold given
      rw [List.filter_eq_self.mpr (fun _ _ => rfl), List.length_map, List.map_map]
      rfl
    rw [hr0] at h4
    have hgl : ((List.range cs.length).map g).length = cs.length := by simp
    have hga : ∀ x ∈ (List.range cs.length).map g, 1 ≤ x ∧ x ≤ 100000000000000000000 := by
      intro x hx
      obtain ⟨i, hi, rfl⟩ := List.mem_map.mp hx
      exact (hg i (List.mem_range.mp hi)).1
    generalize (List.range cs.length).map g = R0 at *
    have hR0 : R0 ≠ [] := fun z => by rw [z] at hgl; simp at hgl; omega
    obtain ⟨rs, rl, hRS⟩ : ∃ rs rl, R0 = rs ++ [rl] := ⟨R0.dropLast, R0.getLast hR0, (List.dropLast_concat_getLast hR0).symm⟩
    have hrl : 1 ≤ rl ∧ rl ≤ 100000000000000000000 := hga rl (by rw [hRS]; simp)
    have hrs : ∀ x ∈ rs, 1 ≤ x ∧ x ≤ 100000000000000000000 := fun x hx => hga x (by rw [hRS]; exact List.mem_append_left _ hx)
    have hrsl : rs.length + 1 = cs.length := by rw [← hgl, hRS]; simp
    -- its last number one more
    have hlast : atI (R0.map V.int) (-1) = some (.int rl) := by
      rw [hRS, List.map_append]
      exact atI_last _ _
    have hset : (R0.map V.int).set ((R0.map V.int).length - 1) (.int (rl + 1)) = (rs ++ [rl + 1]).map V.int := by
      rw [List.length_map, ← List.map_set, set_last hR0, hRS, List.dropLast_concat]
    refine q_setLast h4 (ev_op (ev_op (ev_var rfl) (ev_un ev_c ru_neg) (rv_ixL (sq_of h4) hlast)) ev_c rv_I0) (ev_var rfl) (ev_un ev_c ru_neg) (fun z => hR0 (List.map_eq_nil_iff.mp z)) fun H5 e5 => ?_
    rw [hset]
    have eS : Ex H3 (upd H5 r (.lst ((rs ++ [rl + 1]).map V.int))) := Ex.mut (e4.trans e5) hr4
    have hRr : SqL K (upd H5 r (.lst ((rs ++ [rl + 1]).map V.int))) r ((rs ++ [rl + 1]).map V.int) := sq_of upd_same
    generalize upd H5 r (.lst ((rs ++ [rl + 1]).map V.int)) = H6 at *
    -- the common number
    have m0 := Int.emod_nonneg (wh / 4) (show (3 : Int) ≠ 0 by decide)
    have m1 := Int.emod_lt_of_pos (wh / 4) (show (0 : Int) < 3 by decide)
    have n0 := Int.emod_nonneg wh (show (9 : Int) ≠ 0 by decide)
    have n1 := Int.emod_lt_of_pos wh (show (0 : Int) < 9 by decide)
    have e30 : (10 : Int) ^ (30 : Int).toNat = 1000000000000000000000000000000 := by decide
    have e9 : (10 : Int) ^ (9 : Int).toNat = 1000000000 := by decide
    have o0 := Int.emod_nonneg wh (show (1000000000 : Int) ≠ 0 by decide)
    have o1 := Int.emod_lt_of_pos wh (show (0 : Int) < 1000000000 by decide)
    have hcom : ∃ cm : Int, atI ([1, 1 + wh % 9, 1000000000000000000000000000000 + wh % 1000000000].map V.int) (wh / 4 % 3) = some (.int cm) ∧ 0 < cm ∧ cm ≤ 2000000000000000000000000000000 := by
      have hk : wh / 4 % 3 = 0 ∨ wh / 4 % 3 = 1 ∨ wh / 4 % 3 = 2 := by omega
      rcases hk with k | k | k
      · exact ⟨1, by rw [k]; rfl, by omega, by omega⟩
      · exact ⟨1 + wh % 9, by rw [k]; rfl, by omega, by omega⟩
      · exact ⟨_, by rw [k]; rfl, by omega, by omega⟩
    obtain ⟨cm, hcat, cm0, cm1⟩ := hcom
    have hcw : W 102 cm := by
      unfold W
      have : (2 : Nat) ^ 102 = 5070602400912917605986812821504 := by decide
      omega
    refine q_asg (v := .int cm) (ev_opU1 (eu_tup (vs := [1, 1 + wh % 9, 1000000000000000000000000000000 + wh % 1000000000].map V.int) (ea_cons ev_c (ea_cons (ev_op ev_c (ev_op (ev_var rfl) ev_c (rv_I (by decide))) rv_I0) (ea_cons (ev_op (ev_is (w := .int 1000000000000000000000000000000) (ev_op ev_c ev_c (rv_I (cp_small (by decide) (by decide) (by decide) (by decide)))) (congrArg V.int e30)) (ev_op (ev_var rfl) (ev_is (w := .int 1000000000) (ev_op ev_c ev_c (rv_I (cp_small (by decide) (by decide) (by decide) (by decide)))) (congrArg V.int e9)) (rv_I (by decide))) rv_I0) ea_nil))) (by show 3 ≤ 100000; decide))
      (ev_op (ev_op (ev_var rfl) ev_c (rv_I (cd_small (by decide) (by decide)))) ev_c (rv_I (by decide))) fun p H1 hp _ => rv_ixT (st_of hp) hcat) fun H7 e7 => ?_
    have hRr7 := ex_l e7 hRr
    have hT7 : H7 T.z_is_row.P = some (GG.tabO T.z_is_row.P) := e7 _ _ (eS _ _ (e3 _ _ (ex _ _ (e12 _ _ hT0))))
    -- the rows
    have k0 := Int.emod_nonneg (wh / 12) (show (900 : Int) ≠ 0 by decide)
    have k1 := Int.emod_lt_of_pos (wh / 12) (show (0 : Int) < 900 by decide)
    have p67 : (2 : Nat) ^ 67 = 147573952589676412928 := by decide
    have hfirst : ∃ q0, (rs ++ [rl + 1])[0]? = some q0 ∧ 1 ≤ q0 ∧ q0 ≤ 100000000000000000001 := by
      cases rs with
      | nil => exact ⟨rl + 1, rfl, by omega, by omega⟩
      | cons x r => exact ⟨x, rfl, (hrs x List.mem_cons_self).1, by have := (hrs x List.mem_cons_self).2; omega⟩
    obtain ⟨q0, hq0, q1, q2⟩ := hfirst
    have hat0 : atI ((rs ++ [rl + 1]).map V.int) 0 = some (.int q0) := by
      refine at_of (j := 0) rfl ?_
      rw [List.getElem?_map, hq0]
      rfl
    have hrev5 : cutV ((rs ++ [rl + 1]).map V.int).reverse none (some 5) = ((rs ++ [rl + 1]).reverse.take 5).map V.int := by
      rw [cut5, ← List.map_reverse, List.map_take]
    have hrow5 : ∀ x ∈ (rs ++ [rl + 1]).reverse.take 5, 1 ≤ x ∧ x + 1 ≤ ((2 ^ 67 : Nat) : Int) := fun x hx => by
      have h1 := List.mem_reverse.mp (List.mem_of_mem_take hx)
      rcases List.mem_append.mp h1 with h | h
      · have := hrs x h
        omega
      · rw [List.mem_singleton.mp h]
        omega
    have hrows : ∀ rw ∈ [rs ++ [rl + 1], (rs ++ [rl + 1]).reverse.take 5 ++ [2], [q0], [1], List.replicate (wh / 12 % 900).toNat 1 ++ [2]], RowOk rw cm := by
      intro rw hrw
      rcases List.mem_cons.mp hrw with h | hrw
      · rw [h]
        refine row_ok (k := 67) cm0 hcw (fun x hx => ?_) ⟨by omega, by omega⟩ (by omega) (by omega) (by decide)
        have := hrs x hx
        omega
      rcases List.mem_cons.mp hrw with h | hrw
      · rw [h]
        have h5 : ((rs ++ [rl + 1]).reverse.take 5).length ≤ 5 := by rw [List.length_take]; omega
        exact row_ok (k := 67) cm0 hcw hrow5 ⟨by omega, by omega⟩ (by omega) (by omega) (by decide)
      rcases List.mem_cons.mp hrw with h | hrw
      · rw [h]
        exact one_ok cm0 hcw q1 (by omega)
      rcases List.mem_cons.mp hrw with h | hrw
      · rw [h]
        exact one_ok cm0 hcw (by omega) (by omega)
      · rw [List.mem_singleton.mp hrw]
        refine row_ok (k := 2) cm0 hcw (fun x hx => ?_) ⟨by omega, by omega⟩ (by rw [List.length_replicate]; omega) (by rw [List.length_replicate]; omega) (by decide)
        rw [(List.mem_replicate.mp hx).2]
        omega
    have hrep : (List.replicate (wh / 12 % 900).toNat [V.int 1]).flatten ++ [V.int 2] = (List.replicate (wh / 12 % 900).toNat (1 : Int) ++ [2]).map V.int := by
      rw [rep_flat, List.map_append, List.map_replicate]
      rfl
    refine q_forI (rows := [rs ++ [rl + 1], (rs ++ [rl + 1]).reverse.take 5 ++ [2], [q0], [1], List.replicate (wh / 12 % 900).toNat 1 ++ [2]])
      (eai_cons (ei_v (ev_var rfl) hRr7) (eai_cons (ei_l ?l1) (eai_cons (ei_l (el_lst (ea_cons (ev_op (ev_var rfl) ev_c (rv_ixL hRr7 hat0)) ea_nil) (by show 1 ≤ 100000; decide))) (eai_cons (ei_l (el_lst (ea_cons ev_c ea_nil) (by show 1 ≤ 100000; decide))) (eai_cons (ei_l ?l2) eai_nil))))) (by show 5 ≤ 100000; decide)
      (fun σ' H' => ∃ x7, σ' = [some (.ref a), some (.int wh), some (.ref c), x3, some (.int wd), some (.ref r), some (.int cm), x7, none] ∧ Ex H7 H') (fun H8 e8 => ⟨none, rfl, e8⟩) (fun rw b H8 σ' H' hm hb e8 e8' hP => ?_) (fun σ' H' hP => ?_)
    case l1 =>
      have h1 := el_cat (el_slL (K := K) (el_rev (K := K) (ta := tVar 5) (ev_var (σ := [some (.ref a), some (.int wh), some (.ref c), x3, some (.int wd), some (.ref r), some (.int cm), none, none]) rfl) hRr7) eo_none (eo_some (i := 5) ev_c)) (el_lst (vs := [.int 2]) (ea_cons ev_c ea_nil) (by show 1 ≤ 100000; decide)) (by rw [hrev5, List.length_map, List.length_take]; show _ + 1 ≤ _; omega)
      rw [hrev5, show [V.int 2] = [2].map V.int from rfl, ← List.map_append] at h1
      exact h1
    case l2 =>
      rw [← hrep]
      exact el_cat (el_rep (el_lst (ea_cons ev_c ea_nil) (by show 1 ≤ 100000; decide)) (ev_op (ev_op (ev_var rfl) ev_c (rv_I (cd_small (by decide) (by decide)))) ev_c (rv_I (by decide))) k0 (by omega) (by show 1 * _ ≤ _; omega)) (el_lst (vs := [.int 2]) (ea_cons ev_c ea_nil) (by show 1 ≤ 100000; decide)) (by rw [rep_flat, List.length_replicate]; show _ + 1 ≤ _; omega)
    · obtain ⟨x7, rfl, ex7⟩ := hP
      have ok := hrows rw hm
      exact s_when (b := false) (et_not (a := true) (et_B (ev_call (ea_cons (ev_var rfl) (ea_cons (ev_var rfl) ea_nil)) (spv_row_right (ex_l e8' hb) ok.good ok.len cm0 ok.big ok.all (ex7 _ _ hT7))))) (fun z => nomatch z) fun _ H9 e9 => ⟨e8'.trans e9, _, rfl, ex7.trans e9⟩
    -- by hand
    obtain ⟨x7, rfl, ex7⟩ := hP
    have B7 : Big 7 := Big.small (by decide) (by decide)
    have B30 : Big 30 := Big.small (by decide) (by decide)
    have B6 : Big 6 := Big.small (by decide) (by decide)
    have s730 := fun {H1 : Hp} {x : Addr} (h : SqT K H1 x [.int 7, .int 30]) => spq_quot (K := K) h B7 B30
    have s66 := fun {H1 : Hp} {x : Addr} (h : SqT K H1 x [.int 6, .int 6]) => spq_quot (K := K) h B6 B6
    have r730 : rowP (mxF 7 30) (mnF 7 30) = [4, 3, 2] ∧ comP (mxF 7 30) (mnF 7 30) = 1 := by decide +kernel
    have r66 : rowP (mxF 6 6) (mnF 6 6) = [1] ∧ comP (mxF 6 6) (mnF 6 6) = 6 := by decide +kernel
    rw [r730.1, r730.2] at s730
    rw [r66.1, r66.2] at s66
    have hpo := fun {H1 : Hp} {x : Addr} (h : SqL K H1 x (([1] : List Int).map V.int)) (hQ : H1 T.z_is_row.P = some (GG.tabO T.z_is_row.P)) => spu_pair_of (K := K) (c := 6) h (show (1 : Int) ≤ 1 by decide) (by decide) (by decide) (show Big (back [1] 6).1 from B6) (fun q hq => by rw [List.mem_singleton.mp hq]; exact Big.small (by decide) (by decide)) hQ
    refine s_ret (v := .bl true) (ev_andV (a := true) (b := true) (ev_is (ev_eqR (eq_callU (eu_tup (ea_cons ev_c (ea_cons ev_c ea_nil)) (by show 2 ≤ 100000; decide)) fun t H11 ht _ => s730 (st_of ht)).toR (er_tupL (rw := [4, 3, 2]) (el_lst (ea_cons ev_c (ea_cons ev_c (ea_cons ev_c ea_nil))) (by show 3 ≤ 100000; decide)) ev_c)) (by simp)) fun _ =>
      ev_andV (a := true) (b := true) (ev_opUU (ys := [.int 6, .int 6]) (eu_callL2 (el_lst (ea_cons ev_c ea_nil) (by show 1 ≤ 100000; decide)) ev_c fun p H11 hp eh => hpo (sq_of hp) (eh _ _ (ex7 _ _ hT7))) (eu_tup (ea_cons ev_c (ea_cons ev_c ea_nil)) (by show 2 ≤ 100000; decide)) fun p p' H11 hp hp' _ => rv_eqPair (st_of hp) (st_of hp')) fun _ =>
      ev_is (ev_eqR (eq_callU (eu_tup (ea_cons ev_c (ea_cons ev_c ea_nil)) (by show 2 ≤ 100000; decide)) fun t H11 ht _ => s66 (st_of ht)).toR (er_tupL (rw := [1]) (el_lst (ea_cons ev_c ea_nil) (by show 1 ≤ 100000; decide)) ev_c)) (by simp)) fun H12 e12' => q H12 fun p hp => by rw [List.mem_singleton.mp hp]; exact e12' _ _ (ex7 _ _ hT7)
end
end Mt

set_option Elab.async false
set_option linter.all false
set_option maxRecDepth 100000
set_option maxHeartbeats 4000000
namespace Mt
open PySem PySem.Spec PyProof.Rows L2
theorem all_mk {l : PySem.W.OpenLaw} {w : World} {K : PySem.W.Frag} {h : Heap} {mg : Str → Option Value} {fa f0 f1 f2 f3 f4 f5 f6 f7 f8 f9 f10 f11 f12 f13 f14 f15 f16 : Addr} (X : K.In h) (G : h.Ns mainGlobals mg) (hfa : mg "law" = some (.ref fa))
    {od0 an0 od1 an1 od2 an2 od3 an3 od4 an4 od5 an5 od6 an6 od7 an7 od8 an8 od9 an9 od10 an10 od11 an11 od12 an12 od13 an13 od14 an14 od15 an15 od16 an16 : Option Addr} {sl0 sl1 sl2 sl3 sl4 sl5 sl6 sl7 sl8 sl9 sl10 sl11 sl12 sl13 sl14 sl15 sl16 : Array (Option Value)} {oc0 kV0 dc0 pm0 cd0 ct0 oc1 kV1 dc1 pm1 cd1 ct1 oc2 kV2 dc2 pm2 cd2 ct2 oc3 kV3 dc3 pm3 cd3 ct3 oc4 kV4 dc4 pm4 cd4 ct4 oc5 kV5 dc5 pm5 cd5 ct5 oc6 kV6 dc6 pm6 cd6 ct6 oc7 kV7 dc7 pm7 cd7 ct7 oc8 kV8 dc8 pm8 cd8 ct8 oc9 kV9 dc9 pm9 cd9 ct9 oc10 kV10 dc10 pm10 cd10 ct10 oc11 kV11 dc11 pm11 cd11 ct11 oc12 kV12 dc12 pm12 cd12 ct12 oc13 kV13 dc13 pm13 cd13 ct13 oc14 kV14 dc14 pm14 cd14 ct14 oc15 kV15 dc15 pm15 cd15 ct15 oc16 kV16 dc16 pm16 cd16 ct16 : Value} {tk_LONGEST_ROW : Tok} {cs : List (Addr × Addr)} (hcs : Paired (fun y p => GG.TabOf K mg h y p.1 p.2) [(PySem.Str.ofString "is_row")] cs)
    (a0 : PySem.W.nsIn K mainGlobals "is_whole" = some (some (.ref f0)))
    (l0 : K.lookup f0 = some ⟨oc0, od0, .func (PySem.W.fnOf "is_whole" "is_whole" (defArgs s_is_whole) (defBody s_is_whole) (defScope s_is_whole) .none kV0 dc0 pm0 an0 cd0 ct0), sl0⟩)
    (c0 : PySem.W.codeIn K cd0 "is_whole" = true)
    (k0 : PySem.W.keepIn K (.ref f0) = true)
    (a1 : PySem.W.nsIn K mainGlobals "is_above_zero" = some (some (.ref f1)))
    (l1 : K.lookup f1 = some ⟨oc1, od1, .func (PySem.W.fnOf "is_above_zero" "is_above_zero" (defArgs s_is_above_zero) (defBody s_is_above_zero) (defScope s_is_above_zero) .none kV1 dc1 pm1 an1 cd1 ct1), sl1⟩)
    (c1 : PySem.W.codeIn K cd1 "is_above_zero" = true)
    (k1 : PySem.W.keepIn K (.ref f1) = true)
    (a2 : PySem.W.nsIn K mainGlobals "is_pair" = some (some (.ref f2)))
    (l2 : K.lookup f2 = some ⟨oc2, od2, .func (PySem.W.fnOf "is_pair" "is_pair" (defArgs s_is_pair) (defBody s_is_pair) (defScope s_is_pair) .none kV2 dc2 pm2 an2 cd2 ct2), sl2⟩)
    (c2 : PySem.W.codeIn K cd2 "is_pair" = true)
    (k2 : PySem.W.keepIn K (.ref f2) = true)
    (a3 : PySem.W.nsIn K mainGlobals "lesser_and_greater" = some (some (.ref f3)))
    (l3 : K.lookup f3 = some ⟨oc3, od3, .func (PySem.W.fnOf "lesser_and_greater" "lesser_and_greater" (defArgs s_lesser_and_greater) (defBody s_lesser_and_greater) (defScope s_lesser_and_greater) .none kV3 dc3 pm3 an3 cd3 ct3), sl3⟩)
    (c3 : PySem.W.codeIn K cd3 "lesser_and_greater" = true)
    (k3 : PySem.W.keepIn K (.ref f3) = true)
    (a4 : PySem.W.nsIn K mainGlobals "quotients" = some (some (.ref f4)))
    (l4 : K.lookup f4 = some ⟨oc4, od4, .func (PySem.W.fnOf "quotients" "quotients" (defArgs s_quotients) (defBody s_quotients) (defScope s_quotients) .none kV4 dc4 pm4 an4 cd4 ct4), sl4⟩)
    (c4 : PySem.W.codeIn K cd4 "quotients" = true)
    (k4 : PySem.W.keepIn K (.ref f4) = true)
    (a5 : PySem.W.nsIn K mainGlobals "is_row" = some (some (.ref f5)))
    (l5 : K.lookup f5 = some ⟨oc5, od5, .func (PySem.W.fnOf "is_row" "is_row" (defArgs s_is_row) (defBody s_is_row) (defScope s_is_row) .none kV5 dc5 pm5 an5 cd5 ct5), sl5⟩)
    (c5 : PySem.W.codeIn K cd5 "is_row" = true)
    (k5 : PySem.W.keepIn K (.ref f5) = true)
    (a6 : PySem.W.nsIn K mainGlobals "pair_of" = some (some (.ref f6)))
    (l6 : K.lookup f6 = some ⟨oc6, od6, .func (PySem.W.fnOf "pair_of" "pair_of" (defArgs s_pair_of) (defBody s_pair_of) (defScope s_pair_of) .none kV6 dc6 pm6 an6 cd6 ct6), sl6⟩)
    (c6 : PySem.W.codeIn K cd6 "pair_of" = true)
    (k6 : PySem.W.keepIn K (.ref f6) = true)
    (a7 : PySem.W.nsIn K mainGlobals "shortest" = some (some (.ref f7)))
    (l7 : K.lookup f7 = some ⟨oc7, od7, .func (PySem.W.fnOf "shortest" "shortest" (defArgs s_shortest) (defBody s_shortest) (defScope s_shortest) .none kV7 dc7 pm7 an7 cd7 ct7), sl7⟩)
    (c7 : PySem.W.codeIn K cd7 "shortest" = true)
    (k7 : PySem.W.keepIn K (.ref f7) = true)
    (a8 : PySem.W.nsIn K mainGlobals "longest" = some (some (.ref f8)))
    (l8 : K.lookup f8 = some ⟨oc8, od8, .func (PySem.W.fnOf "longest" "longest" (defArgs s_longest) (defBody s_longest) (defScope s_longest) .none kV8 dc8 pm8 an8 cd8 ct8), sl8⟩)
    (c8 : PySem.W.codeIn K cd8 "longest" = true)
    (k8 : PySem.W.keepIn K (.ref f8) = true)
    (a9 : PySem.W.nsIn K mainGlobals "_law_number" = some (some (.ref f9)))
    (l9 : K.lookup f9 = some ⟨oc9, od9, .func (PySem.W.fnOf "_law_number" "_law_number" (defArgs s_l_number) (defBody s_l_number) (defScope s_l_number) .none kV9 dc9 pm9 an9 cd9 ct9), sl9⟩)
    (c9 : PySem.W.codeIn K cd9 "_law_number" = true)
    (k9 : PySem.W.keepIn K (.ref f9) = true)
    (a10 : PySem.W.nsIn K mainGlobals "_law_pair" = some (some (.ref f10)))
    (l10 : K.lookup f10 = some ⟨oc10, od10, .func (PySem.W.fnOf "_law_pair" "_law_pair" (defArgs s_l_pair) (defBody s_l_pair) (defScope s_l_pair) .none kV10 dc10 pm10 an10 cd10 ct10), sl10⟩)
    (c10 : PySem.W.codeIn K cd10 "_law_pair" = true)
    (k10 : PySem.W.keepIn K (.ref f10) = true)
    (a11 : PySem.W.nsIn K mainGlobals "_law_whole" = some (some (.ref f11)))
    (l11 : K.lookup f11 = some ⟨oc11, od11, .func (PySem.W.fnOf "_law_whole" "_law_whole" (defArgs s_l_whole) (defBody s_l_whole) (defScope s_l_whole) .none kV11 dc11 pm11 an11 cd11 ct11), sl11⟩)
    (c11 : PySem.W.codeIn K cd11 "_law_whole" = true)
    (k11 : PySem.W.keepIn K (.ref f11) = true)
    (a12 : PySem.W.nsIn K mainGlobals "_law_is_pair" = some (some (.ref f12)))
    (l12 : K.lookup f12 = some ⟨oc12, od12, .func (PySem.W.fnOf "_law_is_pair" "_law_is_pair" (defArgs s_l_is_pair) (defBody s_l_is_pair) (defScope s_l_is_pair) .none kV12 dc12 pm12 an12 cd12 ct12), sl12⟩)
    (c12 : PySem.W.codeIn K cd12 "_law_is_pair" = true)
    (k12 : PySem.W.keepIn K (.ref f12) = true)
    (a13 : PySem.W.nsIn K mainGlobals "_law_row" = some (some (.ref f13)))
    (l13 : K.lookup f13 = some ⟨oc13, od13, .func (PySem.W.fnOf "_law_row" "_law_row" (defArgs s_l_row) (defBody s_l_row) (defScope s_l_row) .none kV13 dc13 pm13 an13 cd13 ct13), sl13⟩)
    (c13 : PySem.W.codeIn K cd13 "_law_row" = true)
    (k13 : PySem.W.keepIn K (.ref f13) = true)
    (a14 : PySem.W.nsIn K mainGlobals "_law_pair_right" = some (some (.ref f14)))
    (l14 : K.lookup f14 = some ⟨oc14, od14, .func (PySem.W.fnOf "_law_pair_right" "_law_pair_right" (defArgs s_l_pair_right) (defBody s_l_pair_right) (defScope s_l_pair_right) .none kV14 dc14 pm14 an14 cd14 ct14), sl14⟩)
    (c14 : PySem.W.codeIn K cd14 "_law_pair_right" = true)
    (k14 : PySem.W.keepIn K (.ref f14) = true)
    (a15 : PySem.W.nsIn K mainGlobals "_law_row_right" = some (some (.ref f15)))
    (l15 : K.lookup f15 = some ⟨oc15, od15, .func (PySem.W.fnOf "_law_row_right" "_law_row_right" (defArgs s_l_row_right) (defBody s_l_row_right) (defScope s_l_row_right) .none kV15 dc15 pm15 an15 cd15 ct15), sl15⟩)
    (c15 : PySem.W.codeIn K cd15 "_law_row_right" = true)
    (k15 : PySem.W.keepIn K (.ref f15) = true)
    (a16 : PySem.W.nsIn K mainGlobals "law" = some (some (.ref f16)))
    (l16 : K.lookup f16 = some ⟨oc16, od16, .func (PySem.W.fnOf "law" "law" (defArgs s_law) (defBody s_law) (defScope s_law) .none kV16 dc16 pm16 an16 cd16 ct16), sl16⟩)
    (c16 : PySem.W.codeIn K cd16 "law" = true)
    (k16 : PySem.W.keepIn K (.ref f16) = true)
    (z_all : PySem.W.nsIn K mainGlobals "all" = some none)
    (z_bool : PySem.W.nsIn K mainGlobals "bool" = some none)
    (z_divmod : PySem.W.nsIn K mainGlobals "divmod" = some none)
    (z_enumerate : PySem.W.nsIn K mainGlobals "enumerate" = some none)
    (z_int : PySem.W.nsIn K mainGlobals "int" = some none)
    (z_isinstance : PySem.W.nsIn K mainGlobals "isinstance" = some none)
    (z_len : PySem.W.nsIn K mainGlobals "len" = some none)
    (z_list : PySem.W.nsIn K mainGlobals "list" = some none)
    (z_max : PySem.W.nsIn K mainGlobals "max" = some none)
    (z_min : PySem.W.nsIn K mainGlobals "min" = some none)
    (z_range : PySem.W.nsIn K mainGlobals "range" = some none)
    (z_reversed : PySem.W.nsIn K mainGlobals "reversed" = some none)
    (z_sum : PySem.W.nsIn K mainGlobals "sum" = some none)
    (z_tuple : PySem.W.nsIn K mainGlobals "tuple" = some none)
    (z_LONGEST_ROW : PySem.W.nsIn K mainGlobals "LONGEST_ROW" = some (some (.int 1000 tk_LONGEST_ROW))) :
    ∃ fd : FuncData, (∀ (s : Shared) (v : Value), BindsTo s fd ⟨[v], []⟩ [("_law_script", v)]) ∧ ∀ base : Heap, K.In base → base.Ns mainGlobals mg → (∀ p ∈ cs, GxR.TabB base mg p.1 p.2) → FnOk l.prog w K mg base CX0 8 fa fd ["_law_script"] (sp_law K (cs.map (·.2))) := by
  have e := hfa.symm.trans (PySem.W.mg_of X G a16)
  cases e
  have F0 := fun_mk (st := s_is_whole) l0 c0 k0
  have b0 := F0.binds (ps := ["value"]) fun _ _ _ _ _ _ us hl => match us, hl with | [_], _ => rfl
  have F1 := fun_mk (st := s_is_above_zero) l1 c1 k1
  have b1 := F1.binds (ps := ["value"]) fun _ _ _ _ _ _ us hl => match us, hl with | [_], _ => rfl
  have F2 := fun_mk (st := s_is_pair) l2 c2 k2
  have b2 := F2.binds (ps := ["value"]) fun _ _ _ _ _ _ us hl => match us, hl with | [_], _ => rfl
  have F3 := fun_mk (st := s_lesser_and_greater) l3 c3 k3
  have b3 := F3.binds (ps := ["pair"]) fun _ _ _ _ _ _ us hl => match us, hl with | [_], _ => rfl
  have F4 := fun_mk (st := s_quotients) l4 c4 k4
  have b4 := F4.binds (ps := ["pair"]) fun _ _ _ _ _ _ us hl => match us, hl with | [_], _ => rfl
  have F5 := fun_mk (st := s_is_row) l5 c5 k5
  have b5 := F5.binds (ps := ["value"]) fun _ _ _ _ _ _ us hl => match us, hl with | [_], _ => rfl
  have F6 := fun_mk (st := s_pair_of) l6 c6 k6
  have b6 := F6.binds (ps := ["row", "common"]) fun _ _ _ _ _ _ us hl => match us, hl with | [_, _], _ => rfl
  have F7 := fun_mk (st := s_shortest) l7 c7 k7
  have b7 := F7.binds (ps := ["pair"]) fun _ _ _ _ _ _ us hl => match us, hl with | [_], _ => rfl
  have F8 := fun_mk (st := s_longest) l8 c8 k8
  have b8 := F8.binds (ps := ["pair"]) fun _ _ _ _ _ _ us hl => match us, hl with | [_], _ => rfl
  have F9 := fun_mk (st := s_l_number) l9 c9 k9
  have b9 := F9.binds (ps := ["_law_cell", "_law_at", "_law_whole_here"]) fun _ _ _ _ _ _ us hl => match us, hl with | [_, _, _], _ => rfl
  have F10 := fun_mk (st := s_l_pair) l10 c10 k10
  have b10 := F10.binds (ps := ["_law_script", "_law_at"]) fun _ _ _ _ _ _ us hl => match us, hl with | [_, _], _ => rfl
  have F11 := fun_mk (st := s_l_whole) l11 c11 k11
  have b11 := F11.binds (ps := ["_law_number_here"]) fun _ _ _ _ _ _ us hl => match us, hl with | [_], _ => rfl
  have F12 := fun_mk (st := s_l_is_pair) l12 c12 k12
  have b12 := F12.binds (ps := ["_law_found"]) fun _ _ _ _ _ _ us hl => match us, hl with | [_], _ => rfl
  have F13 := fun_mk (st := s_l_row) l13 c13 k13
  have b13 := F13.binds (ps := ["_law_pair_here"]) fun _ _ _ _ _ _ us hl => match us, hl with | [_], _ => rfl
  have F14 := fun_mk (st := s_l_pair_right) l14 c14 k14
  have b14 := F14.binds (ps := ["_law_pair_here"]) fun _ _ _ _ _ _ us hl => match us, hl with | [_], _ => rfl
  have F15 := fun_mk (st := s_l_row_right) l15 c15 k15
  have b15 := F15.binds (ps := ["_law_row_here", "_law_common"]) fun _ _ _ _ _ _ us hl => match us, hl with | [_, _], _ => rfl
  have F16 := fun_mk (st := s_law) l16 c16 k16
  have b16 := F16.binds (ps := ["_law_script"]) fun _ _ _ _ _ _ us hl => match us, hl with | [_], _ => rfl
  match cs, hcs with
  | [q0], .cons r0 .nil => exact ⟨PySem.W.fnOf "law" "law" (defArgs s_law) (defBody s_law) (defScope s_law) .none kV16 dc16 pm16 an16 cd16 ct16, fun s v => .of_eq rfl, fun base _ _ tb => ok_law F16 ⟨⟨_, _, F0, b0, PySem.W.mg_of X G a0⟩, ⟨_, _, F1, b1, PySem.W.mg_of X G a1⟩, ⟨_, _, F2, b2, PySem.W.mg_of X G a2⟩, ⟨_, _, F3, b3, PySem.W.mg_of X G a3⟩, ⟨_, _, F4, b4, PySem.W.mg_of X G a4⟩, ⟨_, _, F5, b5, PySem.W.mg_of X G a5⟩, ⟨_, _, F6, b6, PySem.W.mg_of X G a6⟩, ⟨_, _, F7, b7, PySem.W.mg_of X G a7⟩, ⟨_, _, F8, b8, PySem.W.mg_of X G a8⟩, ⟨_, _, F9, b9, PySem.W.mg_of X G a9⟩, ⟨_, _, F10, b10, PySem.W.mg_of X G a10⟩, ⟨_, _, F11, b11, PySem.W.mg_of X G a11⟩, ⟨_, _, F12, b12, PySem.W.mg_of X G a12⟩, ⟨_, _, F13, b13, PySem.W.mg_of X G a13⟩, ⟨_, _, F14, b14, PySem.W.mg_of X G a14⟩, ⟨_, _, F15, b15, PySem.W.mg_of X G a15⟩, PySem.W.mg_none_of X G z_all, PySem.W.mg_none_of X G z_bool, PySem.W.mg_none_of X G z_divmod, PySem.W.mg_none_of X G z_enumerate, PySem.W.mg_none_of X G z_int, PySem.W.mg_none_of X G z_isinstance, PySem.W.mg_none_of X G z_len, PySem.W.mg_none_of X G z_list, PySem.W.mg_none_of X G z_max, PySem.W.mg_none_of X G z_min, PySem.W.mg_none_of X G z_range, PySem.W.mg_none_of X G z_reversed, PySem.W.mg_none_of X G z_sum, PySem.W.mg_none_of X G z_tuple, tk_LONGEST_ROW, PySem.W.mg_of X G z_LONGEST_ROW, ⟨q0.1, q0.2, tb q0 (by simp), r0.1 _ _ _ (PySem.W.mg_of X G a5) l5 rfl⟩⟩⟩
end Mt
open PySem PySem.W PyProof.Rows
set_option maxRecDepth 100000 in
set_option maxHeartbeats 0 in
theorem PySem.Challenge.cw_manytimes_k04_whole_rows_holds : PySem.Challenge.rw_manytimes_k04_whole_rows.Holds := by
  w_on; o_law; k_head; (case hw => w_witness2)
  k_fill
  refine GG.walk_ofG (l := PySem.Challenge.rw_manytimes_k04_whole_rows) (n := 63) (k := 8) (x := "_law_script") (CX := fun _ => L2.CX0) (sp := fun w tp => Mt.sp_law _ tp) (xs := [(PySem.Str.ofString "is_row")]) rfl (by decide) rfl ⟨rfl, by decide, by decide⟩ (by decide +kernel) (fun w h Y => PySem.W.kIn_of Y) (fun w => by kernel_rfl) ?F (fun _ _ a ns tp hl hb hP hS => ⟨a, ns, rfl, hS, hl, (fun n hn => Mt.W.of_bits (hb n hn)), hP, fun H' h => ⟨rfl, h⟩⟩) (fun _ _ _ _ _ h => h)
  case F =>
    intro w mg fa h cs KX G hmg hcs
    refine' Mt.all_mk KX G hmg hcs ?a0 ?l0 ?c0 ?k0 ?a1 ?l1 ?c1 ?k1 ?a2 ?l2 ?c2 ?k2 ?a3 ?l3 ?c3 ?k3 ?a4 ?l4 ?c4 ?k4 ?a5 ?l5 ?c5 ?k5 ?a6 ?l6 ?c6 ?k6 ?a7 ?l7 ?c7 ?k7 ?a8 ?l8 ?c8 ?k8 ?a9 ?l9 ?c9 ?k9 ?a10 ?l10 ?c10 ?k10 ?a11 ?l11 ?c11 ?k11 ?a12 ?l12 ?c12 ?k12 ?a13 ?l13 ?c13 ?k13 ?a14 ?l14 ?c14 ?k14 ?a15 ?l15 ?c15 ?k15 ?a16 ?l16 ?c16 ?k16 ?z_all ?z_bool ?z_divmod ?z_enumerate ?z_int ?z_isinstance ?z_len ?z_list ?z_max ?z_min ?z_range ?z_reversed ?z_sum ?z_tuple ?z_LONGEST_ROW
    (case a0 => k_is); (case l0 => k_is); (case c0 => k_is); (case k0 => k_is); (case a1 => k_is); (case l1 => k_is); (case c1 => k_is); (case k1 => k_is); (case a2 => k_is); (case l2 => k_is); (case c2 => k_is); (case k2 => k_is); (case a3 => k_is); (case l3 => k_is); (case c3 => k_is); (case k3 => k_is); (case a4 => k_is); (case l4 => k_is); (case c4 => k_is); (case k4 => k_is); (case a5 => k_is); (case l5 => k_is); (case c5 => k_is); (case k5 => k_is); (case a6 => k_is); (case l6 => k_is); (case c6 => k_is); (case k6 => k_is); (case a7 => k_is); (case l7 => k_is); (case c7 => k_is); (case k7 => k_is); (case a8 => k_is); (case l8 => k_is); (case c8 => k_is); (case k8 => k_is); (case a9 => k_is); (case l9 => k_is); (case c9 => k_is); (case k9 => k_is); (case a10 => k_is); (case l10 => k_is); (case c10 => k_is); (case k10 => k_is); (case a11 => k_is); (case l11 => k_is); (case c11 => k_is); (case k11 => k_is); (case a12 => k_is); (case l12 => k_is); (case c12 => k_is); (case k12 => k_is); (case a13 => k_is); (case l13 => k_is); (case c13 => k_is); (case k13 => k_is); (case a14 => k_is); (case l14 => k_is); (case c14 => k_is); (case k14 => k_is); (case a15 => k_is); (case l15 => k_is); (case c15 => k_is); (case k15 => k_is); (case a16 => k_is); (case l16 => k_is); (case c16 => k_is); (case k16 => k_is); (case z_all => k_is); (case z_bool => k_is); (case z_divmod => k_is); (case z_enumerate => k_is); (case z_int => k_is); (case z_isinstance => k_is); (case z_len => k_is); (case z_list => k_is); (case z_max => k_is); (case z_min => k_is); (case z_range => k_is); (case z_reversed => k_is); (case z_sum => k_is); (case z_tuple => k_is); (case z_LONGEST_ROW => k_is)
