/- Digits, numbers and ints. -/
import Derived.Test.YtebejllehbpahaaGreatDoorPc
import Derived.Test.YtebejllehbpahaaGreatDoorPf
import Derived.Test.YtebejllehbpahaaGreatDoorPm
import Derived.Lib.AtoiAll
import Derived.Lib.AtoiAllCases
import Derived.Test.YtebejllehbpahaaGreatDoorPt
import Derived.Lib.AtoiAllMem
/- The quotient and the remainder of a list of limbs and a small number, the quotient in new memory. -/
namespace Go.Proofs.YtebejllehbpahaaGreatDoor
open Go.RowKit Go.Proofs.ArM

/-- a new quotient and a small remainder -/
def OutDsn (w : World) (m d : Nat) (e : Ending) (w' : World) : Prop :=
  ∃ a c qs, e = .returned (.tuple #[.slice a qs.length c, .int .i64 ((m % d : Nat) : Int)]) ∧ Sl w'.heap.size w' a c qs ∧ Hid (qs = Ldigs (m / d)) ∧ Below w.heap.size w w' ∧ Hid (∀ p, a = some p → w.heap.size ≤ p.block)

set_option maxHeartbeats 6400000 in
set_option maxRecDepth 100000 in
theorem pdsn_any (a : Option Addr) (c : Nat) (xs : List Int) (m d : Nat) (w : World) (h : Sl w.heap.size w a c xs) (hx : xs = Ldigs m) (hd0 : 0 < d) (hd1 : d ≤ 9999) (hlx : xs.length ≤ 10000) :
    Calls Tryz.prog 44 #[.slice a xs.length c, .int .i64 (d : Int)] w (OutDsn w m d) := by
  obtain ⟨i0, hi, hz0, hz1, hz2⟩ := info_parts Tryz.info3
  have hdx : LDig xs := by rw [hx]; exact ldig_digs _
  have HM := Lib.hid (show Lval xs = (m : Int) from by rw [hx, Lval_digs])
  obtain ⟨S, hS⟩ : ∃ S, S = xs.length := ⟨_, rfl⟩
  have hS1 : S ≤ 10000 := by omega
  rw [← hS]
  have HS := Lib.hid hS
  obtain ⟨b, o, hab, hbw, HCX⟩ := base_of h
  rw [← hS] at hab hbw
  have HAB := Lib.hid hab
  have HBW := Lib.hid hbw
  have HCAP := Lib.hid h.cap
  have hdi : (d : Int) ≠ 0 := by omega
  clear hx h hab hbw hS hlx
  go_enter Tryz.func44, Tryz.ntmps44
  go_wp2_with (at_make; refine wpList_make_full _ rfl _ _ 48 rfl w.heap.size 3 i0 (.int .i64 0) 1 Tryz.underlying48 hi hz0 hz1 _ _ _ _ S rfl rfl rfl rfl (by rw [hz2]; omega) (by unfold maxLen; omega) (Nat.le_refl _) ?_; intro w1 hown1 hgrow1)
  have hos0 : (madeCells (Value.int .i64 0).cells (S * 1)).toList = (List.replicate S (0 : Int)).map (Value.int .i64) := by
    rw [Nat.mul_one, show (Value.int .i64 0).cells = #[Value.int .i64 0] from rfl, toList_madeCells_one]; simp
  rw [hos0] at hown1
  clear hos0
  have hbl1 : Below w.heap.size w w1 := (Below.refl _ _).grown hgrow1 (Nat.le_refl _) (fun j hj => by cases hj)
  clear hgrow1
  go_loopw [7, 8] (fun r i wr => ∃ (k : Nat) (R : Int) (qs : List Int), i = .int .i64 ((k : Int) - 1) ∧ k ≤ S ∧ r = .int .i64 R ∧ 0 ≤ R ∧ R < d ∧
      wr.ownsRow w.heap.size 3 1 (.slice (some ⟨w.heap.size, 0, none⟩) S S) S (qs.map (Value.int .i64)) ∧ Hid (qs.length = S) ∧ LDig qs ∧ Hid (∀ j, j < k → qs.getD j 0 = 0) ∧ Hid (Lval qs * d + Lp10 k * R = Lp10 k * Lval (xs.drop k)) ∧ Below w.heap.size w wr)
    (fun _ i _ => (intOf i + 1).toNat)
  case atStart =>
    exact ⟨S, 0, List.replicate S 0, rfl, Nat.le_refl _, rfl, Int.le_refl _, by omega, hown1, Lib.hid (by simp), Ldig_replicate S, Lib.hid (fun j _ => getD_replicate0 S j),
      Lib.hid (by rw [Lval_replicate, HS.out, List.drop_length]; simp [Lval]), hbl1⟩
  case round =>
    obtain ⟨k, R, qs, rfl, hk, rfl, hR0, hR1, hown, hql, hdq, hqz, hmath, hbl⟩ := hrel
    clear hown1 hbl1
    rcases Nat.eq_zero_or_pos k with rfl | hk0
    · have HQV := Lib.hid (Ldiv_end (A := m) (B := d) (Q := Lval qs) (R := R) (by have h := hmath.out; simp only [Lp10, Int.one_mul, List.drop_zero] at h; rw [h, HM.out]) hR0 hR1)
      have hSq := sl_of_row hown
      have T0 := ptrim_any (some ⟨w.heap.size, 0, none⟩) S qs wr hSq hdq (by rw [hql.out]; omega)
      rw [hql.out] at T0
      have T := Lib.hid T0
      have HSQ := Lib.hid hSq
      clear T0 hSq hown
      go_wp2_with fail
      refine T.out.mono ?_
      rintro e w3 ⟨k2, rfl, hk2, ht2, rfl⟩
      have HLK := Lib.hid (show (qs.take k2).length = k2 from by rw [List.length_take, Nat.min_eq_left hk2])
      go_wp2
      go_ret2
      exact ⟨_, _, qs.take k2, by rw [HLK.out, ← HQV.out.2]; rfl, HSQ.out.take hk2, Lib.hid (by rw [ht2.out, HQV.out.1, Int.toNat_natCast]), hbl, Lib.hid (new_at (Nat.le_refl _))⟩
    · obtain ⟨j, rfl⟩ : ∃ j, k = j + 1 := ⟨k - 1, by omega⟩
      have hj : ((j + 1 : Nat) : Int) - 1 = (j : Int) := by omega
      rw [hj]
      clear hj
      have hjS : j < S := by omega
      obtain rfl := HAB.out (by omega)
      have hb := HBW.out (by omega)
      have hcap := HCAP.out
      rw [← HS.out] at hcap
      unfold maxLen at hcap
      obtain ⟨dx, hdx'⟩ : ∃ dx, dx = xs.getD j 0 := ⟨_, rfl⟩
      have hdx0 : 0 ≤ dx ∧ dx ≤ 9999 := by rw [hdx']; exact hdx.getD j
      have cx : wr.cell? ⟨b, o + j, none⟩ = some (.int .i64 dx) := by rw [hdx']; exact (hbl.cell (p := ⟨b, o + j, none⟩) hb).trans (HCX.out j (by rw [← HS.out]; omega))
      obtain ⟨q1, q2, q3, q4, q5, q6, q7⟩ := small_quot (d := (d : Int)) hR0 hR1 (by omega) hdx0.1 hdx0.2
      have HRB := Lib.hid (Ldiv_step (xs := xs) (qs := qs) (i := j) (B := d) (R := R) (R2 := (R * 10000 + dx) % d) (c := (R * 10000 + dx) / d) (by rw [← HS.out]; omega) (by have := hql.out; omega) (hqz.out j (by omega)) hmath.out (by rw [← hdx']; exact q7))
      clear hdx' q7
      have cz : wr.cell? ⟨w.heap.size, j, none⟩ = some (.int .i64 0) := by
        have h1 := own_cell hown j (by have := hql.out; omega)
        rwa [hqz.out j (by omega)] at h1
      have fz := hown.frozenAt j
      obtain ⟨T, hT⟩ : ∃ T, R * 10000 + dx = T := ⟨_, rfl⟩
      rw [hT] at q1 q2 q3 q4 q5 q6 HRB
      have hown5 := own_store hown j (T / d)
      have hbl5 := hbl.setCell (p := ⟨w.heap.size, j, none⟩) (Nat.le_refl _) (.int .i64 (T / d))
      have HQ := Lib.hid (show LDig (qs.set j (T / d)) from hdq.set j ⟨q3, q4⟩)
      clear hown hbl
      go_wp2
      go_roundw
      case rel => exact ⟨j, T % d, qs.set j (T / d), by go_num, by omega, rfl, q5, q6, hown5, Lib.hid (by rw [List.length_set]; exact hql.out), HQ.out, Lib.hid (fun i hi => by rw [LgetD_set_ne (by omega)]; exact hqz.out i (by omega)), HRB, hbl5⟩
      case measure => simp [intOf]
end Go.Proofs.YtebejllehbpahaaGreatDoor

/- Digits to a base, and ints of texts: plain mathematics. -/
namespace Go.Proofs.YtebejllehbpahaaGreatDoor
open Go.RowKit Go.Proofs.ArM

/-- the number with some digits to a base, behind a beginning -/
def fb (b : Nat) : Nat → List Int → Nat
  | x, [] => x
  | x, d :: r => fb b (x * b + d.toNat) r

theorem fb_ge {b : Nat} (hb : 1 ≤ b) : ∀ (l : List Int) (x : Nat), x ≤ fb b x l
  | [], _ => Nat.le_refl _
  | d :: r, x => by
    have h1 : x * 1 ≤ x * b := Nat.mul_le_mul_left _ hb
    have h2 := fb_ge hb r (x * b + d.toNat)
    rw [fb]; omega

theorem fb_snoc (b : Nat) : ∀ (l : List Int) (x : Nat) (d : Int), fb b x (l ++ [d]) = fb b x l * b + d.toNat
  | [], _, _ => rfl
  | a :: l, x, d => by rw [List.cons_append, fb, fb_snoc b l, fb]

theorem base_all {b : Nat} (hb : 2 ≤ b) (n : Nat) : fb b 0 (baseDigs b n) = n ∧ (∀ d ∈ baseDigs b n, 0 ≤ d ∧ d < (b : Int)) ∧ ∀ k, n < 2 ^ k → (baseDigs b n).length ≤ k := by
  induction n using Nat.strongRecOn with
  | _ n ih =>
    rcases Nat.eq_zero_or_pos n with rfl | hn
    · rw [baseDigs_zero]; exact ⟨rfl, by simp, by simp⟩
    · have hlt : n / b < n := Nat.div_lt_self hn (by omega)
      obtain ⟨h1, h2, h3⟩ := ih (n / b) hlt
      have hm := Nat.mod_lt n (show b > 0 by omega)
      rw [baseDigs_pos (by omega) hb]
      refine ⟨?_, ?_, ?_⟩
      · rw [fb_snoc, h1, Int.toNat_natCast, Nat.mul_comm]; exact Nat.div_add_mod n b
      · intro d hd
        rcases List.mem_append.1 hd with h | h
        · exact h2 d h
        · simp only [List.mem_singleton] at h; subst h; omega
      · intro k hk
        rcases Nat.eq_zero_or_pos k with rfl | hk0
        · simp at hk; omega
        · obtain ⟨j, rfl⟩ : ∃ j, k = j + 1 := ⟨k - 1, by omega⟩
          have : n / b ≤ n / 2 := Nat.div_le_div_left hb (by omega)
          have h4 := h3 j (by rw [Nat.pow_succ] at hk; omega)
          simp; omega

/-- is a list no list of digits to a base? -/
def badDig (n : Int) (l : List Int) : Bool := l.any fun d => decide (d < 0) || decide (n ≤ d)

def numR (l : List Int) (n : Int) : List UInt8 × Int :=
  if n < 2 ∨ 1000 < n then ([], 4) else if 2000 < l.length then ([], 5) else if badDig n l then ([], 4) else resB (fb n.toNat 0 l : Nat)

theorem bad_at {n : Int} {l : List Int} {k : Nat} (hk : k < l.length) (h : l.getD k 0 < 0 ∨ n ≤ l.getD k 0) : badDig n l = true := by
  rw [badDig, List.any_eq_true]
  refine ⟨l.getD k 0, ?_, by simpa using h⟩
  simp [List.getD, hk]

theorem bad_none {n : Int} {l : List Int} (h : ∀ j, j < l.length → 0 ≤ l.getD j 0 ∧ l.getD j 0 < n) : badDig n l = false := by
  rw [badDig, List.any_eq_false]
  intro d hd
  obtain ⟨j, hj, e⟩ := List.getElem_of_mem hd
  have := h j hj
  rw [show l.getD j 0 = d from by simp [List.getD, hj, e]] at this
  simp; omega

theorem fb_drop {b k : Nat} {l : List Int} (x : Nat) (hk : k < l.length) : fb b x (l.drop k) = fb b (x * b + (l.getD k 0).toNat) (l.drop (k + 1)) := by
  rw [List.drop_eq_getElem_cons hk, fb]
  simp [List.getD, hk]

def intR (a : List UInt8) : Int × Int := if validB a then (if -9223372036854775808 ≤ numOf a ∧ numOf a ≤ 9223372036854775807 then (numOf a, 0) else (0, 7)) else (0, 2)

theorem parse_digs : ∀ (l : List UInt8) (acc : Nat), (∀ b ∈ l, digB b = true) → acc < 18446744073709551616 →
    Lib.parseUint10 acc l = if acc * 10 ^ l.length + (val (digsOf l)).toNat < 18446744073709551616 then .ok (acc * 10 ^ l.length + (val (digsOf l)).toNat) else .range
  | [], acc, _, ha => by
    rw [Lib.parseUint10]
    simp [digsOf, val, ha]
  | c :: r, acc, h, ha => by
    have hc := h c (by simp)
    have hr : ∀ b ∈ r, digB b = true := fun b hb => h b (by simp [hb])
    have hcc : 48 ≤ c.toNat ∧ c.toNat ≤ 57 := by simpa [digB] using hc
    have hv : (val (digsOf (c :: r))).toNat = (c.toNat - 48) * 10 ^ r.length + (val (digsOf r)).toNat := by
      have e : digsOf (c :: r) = digsOf r ++ [dv c] := by simp [digsOf]
      have hn := val_nonneg (dig_digsOf hr)
      have e2 : dv c = ((c.toNat - 48 : Nat) : Int) := by unfold dv; omega
      rw [e, val_append, digsOf_length, p10_nat, e2]
      have e3 : val [((c.toNat - 48 : Nat) : Int)] = ((c.toNat - 48 : Nat) : Int) := by simp [val]
      rw [e3, ← Int.natCast_mul, Nat.mul_comm]
      omega
    rw [Lib.parseUint10, if_pos hcc, hv, List.length_cons, Nat.pow_succ]
    obtain ⟨P, hP⟩ : ∃ P, P = 10 ^ r.length := ⟨_, rfl⟩
    have hP1 : 1 ≤ P := by rw [hP]; exact Nat.pow_pos (by omega)
    obtain ⟨V, hV⟩ : ∃ V, V = (val (digsOf r)).toNat := ⟨_, rfl⟩
    obtain ⟨d, hd⟩ : ∃ d, d = c.toNat - 48 := ⟨_, rfl⟩
    rw [← hd, ← hP, ← hV]
    have e : acc * (P * 10) + (d * P + V) = (acc * 10 + d) * P + V := by grind
    have hge : (acc * 10 + d) * 1 ≤ (acc * 10 + d) * P := Nat.mul_le_mul_left _ hP1
    rw [e]
    by_cases h1 : 1844674407370955162 ≤ acc
    · rw [if_pos h1, if_neg (by omega)]
    · rw [if_neg h1]
      by_cases h2 : 18446744073709551616 ≤ acc * 10 + d
      · rw [if_pos h2, if_neg (by omega)]
      · rw [if_neg h2, parse_digs r _ hr (by omega), ← hP, ← hV]

theorem mag_digs {l : List UInt8} (h : ∀ b ∈ l, digB b = true) (hne : l ≠ []) :
    Lib.parseMag l = if (val (digsOf l)).toNat < 18446744073709551616 then .ok (val (digsOf l)).toNat else .range := by
  have := parse_digs l 0 h (by omega)
  rw [Nat.zero_mul, Nat.zero_add] at this
  rw [Lib.parseMag, if_neg hne, this]

/-- what the library makes of a number's text -/
theorem atoi_valid {l : List UInt8} (h : validB l = true) :
    Lib.atoiAll l = if -9223372036854775808 ≤ numOf l ∧ numOf l ≤ 9223372036854775807 then .ok (numOf l) else .range := by
  cases l with
  | nil => simp [validB, coreB] at h
  | cons c r =>
    by_cases h45 : c.toNat = 45
    · have hv : coreB r = true := by
        simp only [validB, List.headD_cons, h45, if_true, List.tail_cons, Bool.and_eq_true] at h
        exact h.2
      obtain ⟨h1, _, _, hd⟩ := coreB_parts hv
      have hne : r ≠ [] := by intro e; rw [e] at h1; simp at h1
      have hn := val_nonneg (dig_digsOf hd)
      have e : numOf (c :: r) = -val (digsOf r) := by simp [numOf, h45]
      have em := mag_digs hd hne
      obtain ⟨V, hV⟩ : ∃ V : Nat, val (digsOf r) = (V : Int) := ⟨(val (digsOf r)).toNat, by omega⟩
      rw [hV, Int.toNat_natCast] at em
      rw [e, hV]
      simp only [Lib.atoiAll, h45, or_true, if_true]
      rw [em]
      by_cases hb : V < 18446744073709551616
      · rw [if_pos hb]
        by_cases h3 : 9223372036854775808 < V
        · rw [if_neg (by omega)]; simp [h3]
        · rw [if_pos (by omega)]; simp [h3]
      · rw [if_neg hb, if_neg (by omega)]
    · have hv : coreB (c :: r) = true := by
        simpa only [validB, List.headD_cons, h45, if_false] using h
      obtain ⟨_, _, _, hd⟩ := coreB_parts hv
      have hn := val_nonneg (dig_digsOf hd)
      have e : numOf (c :: r) = val (digsOf (c :: r)) := by simp [numOf, h45]
      have em := mag_digs hd (by simp)
      have hc := hd c (by simp)
      have hcc : 48 ≤ c.toNat ∧ c.toNat ≤ 57 := by simpa [digB] using hc
      have h43 : c.toNat ≠ 43 := by omega
      obtain ⟨V, hV⟩ : ∃ V : Nat, val (digsOf (c :: r)) = (V : Int) := ⟨(val (digsOf (c :: r))).toNat, by omega⟩
      rw [hV, Int.toNat_natCast] at em
      rw [e, hV]
      simp only [Lib.atoiAll, h45, h43, or_self, if_false]
      rw [em]
      by_cases hb : V < 18446744073709551616
      · rw [if_pos hb]
        by_cases h3 : 9223372036854775808 ≤ V
        · rw [if_neg (by omega)]; simp [h3]
        · rw [if_pos (by omega)]; simp [h3]
      · rw [if_neg hb, if_neg (by omega)]
end Go.Proofs.YtebejllehbpahaaGreatDoor

/- The program's digits, numbers and ints. -/
namespace Go.Proofs.YtebejllehbpahaaGreatDoor
open Go.RowKit Go.Proofs.ArM

/-- the library's error of a range is laid -/
def ErrV (w : World) : Prop := ∃ tp p, w.var? Tryz.prog "strconv.ErrRange" = some #[.iface tp p]

theorem ErrV.later {w w' : World} (h : ErrV w) (hb : Below w.heap.size w w') : ErrV w' := by
  obtain ⟨tp, p, h⟩ := h
  refine ⟨tp, p, ?_⟩
  cases hg : Tryz.prog.globalNamed "strconv.ErrRange" with
  | none => simp [World.var?, hg] at h
  | some g =>
    have hlt : g < w.heap.size := by
      apply Nat.lt_of_not_le
      intro hle
      simp [World.var?, hg, Array.getElem?_eq_none hle] at h
    exact var?_below hb hg hlt h

set_option maxHeartbeats 3200000 in
set_option maxRecDepth 100000 in
theorem aText_any (n : Int) (w : World) (h0 : -9223372036854775808 ≤ n) (h1 : n ≤ 9223372036854775807) (ht : Tabs w) :
    Calls Tryz.prog 24 #[.int .i64 n] w (OutV w (.string ⟨(numT n).toArray⟩)) := by
  have I := itoa_b n w h0 h1 ht
  rw [itoa_numT] at I
  have HI := Lib.hid I
  clear I ht
  go_enter Tryz.func24, Tryz.ntmps24
  go_wp2_with fail
  refine HI.out.mono ?_
  rintro e w2 ⟨rfl, hb2⟩
  go_wp2
  go_ret
  exact ⟨rfl, hb2⟩

theorem atoi_ok_b (s : ByteArray) (n : Int) (w : World) (hs : s.size ≤ 1000000) (h : Lib.atoiAll s.data.toList = .ok n) :
    Calls Tryz.prog 55 #[.string s] w (fun e w' => e = .returned (.tuple #[.int .i64 n, .nilIface]) ∧ Below w.heap.size w w') :=
  (Tryz.strconv_Atoi_ok s (by omega) n h w).mono fun _ _ ⟨h1, h2⟩ => ⟨h1, by
    rcases h2 with h2 | ⟨t, h2⟩
    · rw [h2]; exact Below.refl _ _
    · rw [h2]; exact Lib.bytesWorld_below w _ t⟩

theorem atoi_range_b (s : ByteArray) (w : World) (hs : s.size ≤ 1000000) (h : Lib.atoiAll s.data.toList = .range) (hE : ErrV w) :
    Calls Tryz.prog 55 #[.string s] w (fun e w' => ∃ (m : Int) (t : TypeId) (N : Nat), e = .returned (.tuple #[.int .i64 m, .iface t (.pointer (some ⟨N, 0, none⟩))]) ∧ Below w.heap.size w w') := by
  obtain ⟨tp, p, hv⟩ := hE
  exact (Tryz.strconv_Atoi_range_var s (by omega) h tp p w hv).mono fun _ _ ⟨N, h1, _, _, h2⟩ => ⟨_, _, N, h1, h2⟩

set_option maxHeartbeats 3200000 in
set_option maxRecDepth 100000 in
theorem aInt_any (s : ByteArray) (w : World) (hs : s.size ≤ 1000000) (hE : ErrV w) :
    Calls Tryz.prog 22 #[.string s] w (OutN w (intR s.data.toList)) := by
  have HE := Lib.hid hE
  clear hE
  have V0 := fun w => pvalid_any s w hs
  cases hv : validB s.data.toList
  · rw [hv] at V0
    have V := Lib.hid V0
    have hr := Lib.hid (show intR s.data.toList = (0, 2) from by rw [intR, hv]; rfl)
    clear V0 hv
    go_enter Tryz.func22, Tryz.ntmps22
    go_wp2_with fail
    refine (V.out w).mono ?_
    rintro e w2 ⟨rfl, hb2⟩
    go_wp2
    go_ret2
    exact outN_of (by rw [hr.out]) (by rw [hr.out]) hb2
  · rw [hv] at V0
    have V := Lib.hid V0
    have ha := atoi_valid hv
    by_cases hin : -9223372036854775808 ≤ numOf s.data.toList ∧ numOf s.data.toList ≤ 9223372036854775807
    · have hr := Lib.hid (show intR s.data.toList = (numOf s.data.toList, 0) from by rw [intR, hv, if_pos rfl, if_pos hin])
      rw [if_pos hin] at ha
      have A := Lib.hid (fun w => atoi_ok_b s (numOf s.data.toList) w hs ha)
      clear V0 hv ha hin
      go_enter Tryz.func22, Tryz.ntmps22
      go_wp2_with fail
      refine (V.out w).mono ?_
      rintro e w2 ⟨rfl, hb2⟩
      go_wp2_with fail
      refine (A.out w2).mono ?_
      rintro e w3 ⟨rfl, hb3⟩
      go_wp2
      go_ret2
      exact outN_of (by rw [hr.out]) (by rw [hr.out]) (hb2.trans (hb3.mono hb2.size))
    · have hr := Lib.hid (show intR s.data.toList = (0, 7) from by rw [intR, hv, if_pos rfl, if_neg hin])
      rw [if_neg hin] at ha
      have A := Lib.hid (fun w hE => atoi_range_b s w hs ha hE)
      clear V0 hv ha hin
      go_enter Tryz.func22, Tryz.ntmps22
      go_wp2_with fail
      refine (V.out w).mono ?_
      rintro e w2 ⟨rfl, hb2⟩
      go_wp2_with fail
      refine (A.out w2 (HE.out.later hb2)).mono ?_
      rintro e w3 ⟨m, t, N, rfl, hb3⟩
      go_wp2
      go_ret2
      exact outN_of (by rw [hr.out]) (by rw [hr.out]) (hb2.trans (hb3.mono hb2.size))

theorem pow_1016 (k : Nat) : 10 ^ k ≤ 2 ^ (4 * k) := by rw [Nat.pow_mul]; exact Nat.pow_le_pow_left (by decide) k

theorem pow_bound {a : Nat} (h : (digs a).length ≤ 500) : a < 2 ^ (4 * 500) := by
  have h3 : (a : Int) < p10 500 := Int.lt_of_lt_of_le (digs_lt a) (p10_mono h)
  rw [p10_nat] at h3
  exact Nat.lt_of_lt_of_le (Int.ofNat_lt.1 h3) (pow_1016 500)

/-- what a list holds outside the block that grew -/
theorem Sl.grown {w w' : World} {row : Option Nat} {a : Option Addr} {c : Nat} {xs : List Int} (h : Sl w.heap.size w a c xs) (hg : w.grownBy w' row) (hne : ∀ p, a = Option.some p → Option.some p.block ≠ row) (hs : w.heap.size ≤ w'.heap.size) : Sl w'.heap.size w' a c xs := by
  rcases h with h | ⟨g, o, rfl, hI⟩
  · exact .inl h
  · exact .mk ⟨g, o, c, rfl, hI.cell.2.2.1, hI.cell.2.2.2.1, Nat.lt_of_lt_of_le hI.cell.1 hs, fun j hj => hg.cell (hI.cell.2.2.2.2 j hj) (show Option.some g ≠ row from hne ⟨g, o, none⟩ rfl)⟩

/-- a step takes at least half -/
theorem half_step {l X b N : Nat} (hb : 2 ≤ b) (h : 2 ^ l * X ≤ N) : 2 ^ (l + 1) * (X / b) ≤ N := by
  have h1 : X / b ≤ X / 2 := Nat.div_le_div_left hb (by omega)
  have h2 : 2 * (X / 2) ≤ X := by omega
  calc 2 ^ (l + 1) * (X / b) ≤ 2 ^ (l + 1) * (X / 2) := Nat.mul_le_mul_left _ h1
    _ = 2 ^ l * (2 * (X / 2)) := by rw [Nat.pow_succ, Nat.mul_assoc]
    _ ≤ 2 ^ l * X := Nat.mul_le_mul_left _ h2
    _ ≤ N := h

theorem len_2000 {l X N : Nat} (hX : 0 < X) (h : 2 ^ l * X ≤ N) (hN : N < 2 ^ (4 * 500)) : l < 4 * 500 := by
  have h1 : 2 ^ l * 1 ≤ 2 ^ l * X := Nat.mul_le_mul_left _ hX
  rw [Nat.mul_one] at h1
  exact (Nat.pow_lt_pow_iff_right (by omega)).1 (Nat.lt_of_le_of_lt (Nat.le_trans h1 h) hN)

set_option maxHeartbeats 6400000 in
set_option maxRecDepth 100000 in
theorem aDigits_any (s : ByteArray) (n : Int) (w : World) (hs : s.size ≤ 1000000) :
    Calls Tryz.prog 17 #[.string s, .int .i64 n] w (OutDg w (digR s.data.toList n)) := by
  obtain ⟨i0, hi, hz0, hz1, hz2⟩ := info_parts Tryz.info3
  have hbA : Below w.heap.size w (w.alloc (.cells #[.string s] 9)) := (Below.refl _ _).alloc (Nat.le_refl _) _
  cases hv : validB s.data.toList
  · have R := Lib.hid (rd1_no s hs hv w 9)
    have hr := Lib.hid (show digR s.data.toList n = ([], 2) from by rw [digR, hv]; rfl)
    clear hv
    go_enter Tryz.func17, Tryz.ntmps17
    go_wp2_with fail
    refine R.out.mono ?_
    rintro e w2 ⟨rfl, hb2⟩
    go_wp2
    go_ret2
    exact .inr ⟨2, rfl, hr, hbA.trans (hb2.mono hbA.size)⟩
  · obtain ⟨s1, hs1⟩ : ∃ s1, s1 = decide (numOf s.data.toList < 0) := ⟨_, rfl⟩
    have R := Lib.hid (rd1_ok s s1 hs hv hs1 w 9)
    have HL := Lib.hid (num_len hv)
    have V := Lib.hid hv
    clear hv hs1
    obtain ⟨m, hm⟩ : ∃ m, m = numOf s.data.toList := ⟨_, rfl⟩
    rw [← hm] at R HL
    have HM := Lib.hid hm
    clear hm
    by_cases hbad : n < 2 ∨ 1000 < n
    · have hr := Lib.hid (show digR s.data.toList n = ([], 4) from by rw [digR, V.out, if_pos rfl, if_pos hbad])
      rcases hbad with h1 | h1
      · go_enter Tryz.func17, Tryz.ntmps17
        go_wp2_with fail
        refine R.out.mono ?_
        rintro e w2 ⟨g, cap, a, c, ds, rfl, k0, k1, hS1, hd1, hb2, hg, hgl, hc1, hc2⟩
        have hbl := hbA.trans (hb2.mono hbA.size)
        clear hS1 hb2 hg hc2 hc1
        go_wp2
        go_ret2
        exact .inr ⟨4, rfl, hr, hbl⟩
      · have h2 : ¬ n < 2 := by omega
        go_enter Tryz.func17, Tryz.ntmps17
        go_wp2_with fail
        refine R.out.mono ?_
        rintro e w2 ⟨g, cap, a, c, ds, rfl, k0, k1, hS1, hd1, hb2, hg, hgl, hc1, hc2⟩
        have hbl := hbA.trans (hb2.mono hbA.size)
        clear hS1 hb2 hg hc2 hc1
        go_wp2
        go_ret2
        exact .inr ⟨4, rfl, hr, hbl⟩
    · obtain ⟨b, rfl⟩ : ∃ b : Nat, n = (b : Int) := ⟨n.toNat, by omega⟩
      have hb1 : 2 ≤ (b : Int) := by omega
      have hb9 : (b : Int) ≤ 1000 := by omega
      have hr := Lib.hid (show digR s.data.toList b = (if m = 0 then ([0], 0) else (baseDigs b m.natAbs, 0)) from by rw [digR, V.out, if_pos rfl, if_neg hbad, ← HM.out, Int.toNat_natCast])
      have HPB := Lib.hid (pow_bound HL.out)
      have HM0 := Lib.hid (show m = 0 ↔ m.natAbs = 0 from by omega)
      clear hbad
      obtain ⟨N, hN⟩ : ∃ N, N = m.natAbs := ⟨_, rfl⟩
      rw [← hN] at hr HPB HM0
      have HN := Lib.hid hN
      clear hN
      go_enter Tryz.func17, Tryz.ntmps17
      go_wp2_with fail
      refine R.out.mono ?_
      rintro e w2 ⟨g, cap, a, c, ds, rfl, k0, k1, hS1, hd1, hb2, hg, hgl, hc1, hc2⟩
      have hbl := hbA.trans (hb2.mono hbA.size)
      unfold maxLen at hc2
      have HS1 := Lib.hid hS1
      rw [← HN.out] at hd1
      clear hS1 hb2 hg
      go_wp2_with fail
      go_loopg [8, 9] N (fun X v x wr => ∃ (ax av : Option Addr) (cx cv : Nat) (xs zs : List Int), x = .slice ax xs.length cx ∧ v = .slice av zs.length cv ∧ Hid (Sl wr.heap.size wr ax cx xs) ∧ Hid (xs = Ldigs X) ∧ X ≤ N ∧ wr.ownsRow w.heap.size 3 1 (.slice av zs.length cv) zs.length (zs.map (Value.int .i64)) ∧ Hid (baseDigs b N = baseDigs b X ++ zs.reverse) ∧ Hid (2 ^ zs.length * X ≤ N) ∧ zs.length ≤ 2000 ∧ Below w.heap.size w wr)
      case atStart => exact ⟨a, none, c, 0, ds, [], rfl, rfl, HS1, hd1, Nat.le_refl _, ⟨rfl, .inl ⟨rfl, rfl⟩⟩, Lib.hid (by simp), Lib.hid (by simp), by simp, hbl⟩
      case round =>
        obtain ⟨ax, av, cx, cv, xs, zs, rfl, rfl, hSx, hxs, hXN, hown, hdg, hhalf, hzl, hbl3⟩ := hrel
        by_cases h0 : gk = 0
        · subst h0
          have Z := Lib.hid (isz_val ax xs.length cx true (decide_eq_true (by rw [hxs.out]; exact Ldigs_len0.2 rfl)))
          have HDZ := Lib.hid (show baseDigs b N = zs.reverse from by rw [hdg.out, baseDigs_zero, List.nil_append])
          go_wp2_with fail
          refine (Z.out _).mono ?_
          rintro e w3 ⟨rfl, rfl⟩
          have HOWN := Lib.hid hown
          by_cases hzz : zs = []
          · subst hzz
            have hN0 : N = 0 := by
              have h1 := (base_all (b := b) (by omega) N).1
              rw [HDZ.out] at h1
              exact h1.symm
            have HRR := Lib.hid (show digR s.data.toList b = ([0], 0) from by rw [hr.out, if_pos (HM0.out.2 hN0)])
            have hbn : Below w.heap.size w (wr.alloc (.cells #[.int .i64 0] 3)) := hbl3.alloc hbl3.size _
            have hin : Ints (wr.alloc (.cells #[.int .i64 0] 3)).heap.size (wr.alloc (.cells #[.int .i64 0] 3)) (.slice (some ⟨wr.heap.size, 0, none⟩) ([0] : List Int).length 1) [0] :=
              ints_of_row (base := wr.heap.size) (World.ownsRow_lit wr #[.int .i64 0] 1 (Nat.le_refl _) (by decide) rfl)
            have HIN := Lib.hid hin
            clear hown hN0 hin
            go_wp2
            go_ret2
            exact .inl ⟨_, _, _, [0], rfl, HIN.out, HRR, hbn⟩
          · obtain ⟨gv, cv', hev, hgv⟩ := own_shape hown (by cases zs with | nil => exact absurd rfl hzz | cons _ _ => simp)
            cases hev
            have HRR := Lib.hid (show digR s.data.toList b = (zs.reverse, 0) from by
              rw [hr.out, if_neg (fun h => hzz (by have := HDZ.out; rw [HM0.out.1 h, baseDigs_zero] at this; simpa using this.symm)), HDZ.out])
            have hS := sl_of_row hown
            have hlz : 0 < zs.length := List.length_pos_iff.2 hzz
            have RV := Lib.hid (prev_any (some ⟨gv, 0, none⟩) cv zs wr hS (by omega))
            clear hown hzz hS
            go_wp2_with fail
            refine RV.out.mono ?_
            rintro e w4 ⟨a4, c4, rfl, hS4, hb4, _, _⟩
            obtain ⟨b4, o4, rfl, hI4⟩ := hS4.some (by rw [List.length_reverse]; exact hlz)
            go_wp2
            go_ret2
            exact .inl ⟨b4, o4, c4, zs.reverse, by rw [List.length_reverse]; rfl, hI4, HRR, hbl3.trans (hb4.mono hbl3.size)⟩
        · have Z := Lib.hid (isz_val ax xs.length cx false (decide_eq_false (by rw [hxs.out]; have := Ldigs_ne (n := gk) (by omega); omega)))
          have HL2 := Lib.hid (len_2000 (show 0 < gk by omega) hhalf.out HPB.out)
          have hxl : xs.length ≤ 125 := by
            rw [hxs.out]
            exact Nat.le_trans (Ldigs_mono hXN) (by have := len_125 HL.out; rwa [HN.out])
          have DS := Lib.hid (pdsn_any ax cx xs gk b wr hSx.out hxs.out (by omega) (by omega) (by omega))
          have HST := Lib.hid (half_step (b := b) (by omega) hhalf.out)
          have HBD := Lib.hid (baseDigs_pos (b := b) (n := gk) h0 (by omega))
          have H0 := Lib.hid h0
          clear h0
          go_wp2_with fail
          refine (Z.out _).mono ?_
          rintro e w3 ⟨rfl, rfl⟩
          go_wp2_with fail
          refine DS.out.mono ?_
          rintro e w4 ⟨a4, c4, qs, rfl, hS4, hqs, hb4, hn4⟩
          have HVB := Lib.hid (fun j hj => (hown.lt j hj).2)
          have hown4 := own_below hown hb4 (fun j hj => (hown.lt j hj).2)
          have hbl4 := hbl3.trans (hb4.mono hbl3.size)
          have HS4 := Lib.hid hS4
          clear hown hbl3 hb4 hS4
          go_wp2_with (at_builtin; refine wpList_append_own _ rfl (.tmp 40) (.tmp 42) 32 rfl w.heap.size 3 i0 (.int .i64 0) 1 8 Tryz.underlying32 hi hz0 hz1 hz2 rfl (by decide) _ _ _ rfl (hown4.alloc _) ⟨w4.heap.size, 0, none⟩ 1 1 [.int .i64 _] rfl rfl (cell_one_new _ _ _) (by intro u hu; simp at hu; subst hu; rfl) (by have := HL2.out; unfold maxLen; omega) (by omega) (by have := hbl4.size; simp; omega) ?_; intro v' w5 hown' hgrow hnil; clear hnil; obtain ⟨g2, cap2, rfl, hg2⟩ := own_shape hown' (by omega))
          have hal : Below w4.heap.size w4 (w4.alloc (.cells #[.int .i64 ((gk % b : Nat) : Int)] 3)) := (Below.refl _ _).alloc (Nat.le_refl _) _
          have hS5 := (HS4.out.later hal).grown hgrow (fun p hp he => by
            have h1 := HVB.out p.block he.symm
            have h2 := hn4.out p hp
            omega) hgrow.size
          have hB := (hbl4.alloc (Nat.le_trans hbl4.size (Nat.le_refl _)) _).grown hgrow (by have := hbl4.size; simp; omega) (fun j hj => (hown4.lt j hj).1)
          go_wp2
          go_roundg (gk / b)
          case measure => exact Nat.div_lt_self (by have := H0.out; omega) (by omega)
          case rel => exact ⟨a4, some ⟨g2, 0, none⟩, c4, cap2, qs, zs ++ [((gk % b : Nat) : Int)], rfl, by rw [List.length_append]; rfl, Lib.hid hS5, hqs, Nat.le_trans (Nat.div_le_self _ _) hXN, by simpa using hown', Lib.hid (by rw [hdg.out, HBD.out]; simp), Lib.hid (by rw [List.length_append]; exact HST.out), by have := HL2.out; simp; omega, hB⟩
end Go.Proofs.YtebejllehbpahaaGreatDoor

/- The program's number of digits to a base. -/
namespace Go.Proofs.YtebejllehbpahaaGreatDoor
open Go.RowKit Go.Proofs.ArM

/-- the ints of an argument: where there are none, nothing is said of the place. -/
def SlE (n : Nat) (w : World) (a : Option Addr) (c : Nat) (xs : List Int) : Prop := (xs.length ≤ c ∧ c ≤ maxLen) ∧ (xs = [] ∨ Sl n w a c xs)
theorem SlE.cap {n : Nat} {w : World} {a : Option Addr} {c : Nat} {xs : List Int} (h : SlE n w a c xs) : xs.length ≤ c ∧ c ≤ maxLen := h.1
theorem SlE.later {w w' : World} {a : Option Addr} {c : Nat} {xs : List Int} (h : SlE w.heap.size w a c xs) (hb : Below w.heap.size w w') : SlE w'.heap.size w' a c xs := ⟨h.1, h.2.elim .inl (fun h => .inr (h.later hb))⟩
theorem Sl.e {n : Nat} {w : World} {a : Option Addr} {c : Nat} {xs : List Int} (h : Sl n w a c xs) : SlE n w a c xs := ⟨h.cap, .inr h⟩
theorem base_ofE {n : Nat} {w : World} {a : Option Addr} {c : Nat} {xs : List Int} (h : SlE n w a c xs) : ∃ b o, (0 < xs.length → a = some ⟨b, o, none⟩) ∧ (0 < xs.length → b < n) ∧ Hid (∀ j, j < xs.length → w.cell? ⟨b, o + j, none⟩ = some (.int .i64 (xs.getD j 0))) := by
  rcases h.2 with rfl | h
  · exact ⟨0, 0, by simp, by simp, Lib.hid (by simp)⟩
  · exact base_of h

set_option maxHeartbeats 6400000 in
set_option maxRecDepth 100000 in
theorem aNumber_any (a : Option Addr) (c : Nat) (l : List Int) (n : Int) (w : World) (h : SlE w.heap.size w a c l) (hT : Tabs w) :
    Calls Tryz.prog 20 #[.slice a l.length c, .int .i64 n] w (OutT w (numR l n)) := by
  have HT := Lib.hid hT
  have HC := Lib.hid h.cap
  obtain ⟨b, o, hab, hbw, HCX⟩ := base_ofE h
  have HAB := Lib.hid hab
  have HBW := Lib.hid hbw
  have hcl := HC.out
  unfold maxLen at hcl
  clear h hT hab hbw
  by_cases hbad : n < 2 ∨ 1000 < n
  · have hr := Lib.hid (show numR l n = ([], 4) from by rw [numR, if_pos hbad])
    rcases hbad with h1 | h1
    · go_enter Tryz.func20, Tryz.ntmps20
      go_wp2
      go_ret2
      exact outT_of (by rw [hr.out]) (by rw [hr.out]) (Below.refl _ _)
    · have h2 : ¬ n < 2 := by omega
      go_enter Tryz.func20, Tryz.ntmps20
      go_wp2
      go_ret2
      exact outT_of (by rw [hr.out]) (by rw [hr.out]) (Below.refl _ _)
  · have h2 : ¬ n < 2 := by omega
    have h3 : ¬ 1000 < n := by omega
    by_cases hlen : 2000 < l.length
    · have hr := Lib.hid (show numR l n = ([], 5) from by rw [numR, if_neg hbad, if_pos hlen])
      have hlen2 : (2000 : Int) < (l.length : Int) := by omega
      clear hbad
      go_enter Tryz.func20, Tryz.ntmps20
      go_wp2
      go_ret2
      exact outT_of (by rw [hr.out]) (by rw [hr.out]) (Below.refl _ _)
    · have hr := Lib.hid (show numR l n = (if badDig n l then ([], 4) else resB (fb n.toNat 0 l : Nat)) from by rw [numR, if_neg hbad, if_neg hlen])
      have hlen2 : ¬ (2000 : Int) < (l.length : Int) := by omega
      clear hbad
      go_enter Tryz.func20, Tryz.ntmps20
      go_wp2_with fail
      go_loopw [22] (fun i wr => ∃ k : Nat, i = .int .i64 (k : Int) ∧ k ≤ l.length ∧ Hid (∀ j, j < k → 0 ≤ l.getD j 0 ∧ l.getD j 0 < n) ∧ w = wr) (fun i _ => l.length - (intOf i).toNat)
      case atStart => exact ⟨0, rfl, Nat.zero_le _, Lib.hid (fun j hj => by omega), by first | rfl | trivial⟩
      case round =>
        obtain ⟨k, rfl, hk, hok, rfl⟩ := hrel
        by_cases hkl : k < l.length
        · obtain rfl := HAB.out (by omega)
          have hb := HBW.out (by omega)
          obtain ⟨d, hd⟩ : ∃ d, d = l.getD k 0 := ⟨_, rfl⟩
          have cx : w.cell? ⟨b, o + k, none⟩ = some (.int .i64 d) := by rw [hd]; exact HCX.out k hkl
          have HD := Lib.hid hd
          clear hd
          by_cases hd0 : d < 0
          · have HR := Lib.hid (show numR l n = ([], 4) from by rw [hr.out, if_pos (bad_at hkl (.inl (by rw [← HD.out]; exact hd0)))])
            go_wp2
            go_ret2
            exact outT_of (by rw [HR.out]) (by rw [HR.out]) (Below.refl _ _)
          · by_cases hd1 : n ≤ d
            · have HR := Lib.hid (show numR l n = ([], 4) from by rw [hr.out, if_pos (bad_at hkl (.inr (by rw [← HD.out]; exact hd1)))])
              go_wp2
              go_ret2
              exact outT_of (by rw [HR.out]) (by rw [HR.out]) (Below.refl _ _)
            · go_wp2
              go_roundw
              case rel => exact ⟨k + 1, by go_num, by omega, Lib.hid (fun j hj => by
                rcases Nat.lt_or_ge j k with h | h
                · exact hok.out j h
                · obtain rfl : j = k := by omega
                  rw [← HD.out]; omega), by first | rfl | trivial⟩
              case measure => simp [intOf]; omega
        · obtain rfl : k = l.length := by omega
          obtain ⟨B, rfl⟩ : ∃ B : Nat, n = (B : Int) := ⟨n.toNat, by omega⟩
          have HR := Lib.hid (show numR l B = resB (fb B 0 l : Nat) from by rw [hr.out, if_neg (by rw [bad_none hok.out]; simp), Int.toNat_natCast])
          clear hr
          go_wp2_with fail
          go_loopw [8, 36] (fun x i wr => ∃ (k X : Nat) (ax : Option Addr) (cx : Nat) (xs : List Int), i = .int .i64 (k : Int) ∧ k ≤ l.length ∧ x = .slice ax xs.length cx ∧ Hid (Sl wr.heap.size wr ax cx xs) ∧ Hid (xs = Ldigs X) ∧ xs.length ≤ 125 ∧ Hid (fb B X (l.drop k) = fb B 0 l) ∧ Below w.heap.size w wr) (fun _ i _ => l.length - (intOf i).toNat)
          case atStart => exact ⟨0, 0, none, 0, [], rfl, Nat.zero_le _, rfl, Lib.hid Sl.nil, Lib.hid Ldigs_zero.symm, by simp, Lib.hid (by simp), Below.refl _ _⟩
          case round =>
            obtain ⟨k, X, ax, cx, xs, rfl, hk, rfl, hSx, hxs, hxl, hfb, hbl⟩ := hrel
            by_cases hkl : k < l.length
            · obtain rfl := HAB.out (by omega)
              have hb := HBW.out (by omega)
              obtain ⟨d, hd⟩ : ∃ d, d = l.getD k 0 := ⟨_, rfl⟩
              have hdd := hok.out k hkl
              rw [← hd] at hdd
              have cx' : wr.cell? ⟨b, o + k, none⟩ = some (.int .i64 d) := by rw [hd]; exact (hbl.cell (p := ⟨b, o + k, none⟩) hb).trans (HCX.out k hkl)
              have HF := Lib.hid (show fb B (X * B + d.toNat) (l.drop (k + 1)) = fb B 0 l from by rw [← hfb.out, fb_drop X hkl, hd])
              have PS0 := psmall_any ax cx xs X (B : Int) d wr hSx.out hxs.out (by omega) (by omega) hdd.1 (by omega) (by omega)
              rw [show ((X : Int) * (B : Int) + d).toNat = X * B + d.toNat from by rw [← Int.natCast_mul]; omega] at PS0
              have PS := Lib.hid PS0
              clear hd PS0
              go_wp2_with fail
              refine PS.out.mono ?_
              rintro e w2 ⟨a2, c2, ys, rfl, hS2, hys, hb2, _⟩
              have hbl2 := hbl.trans (hb2.mono hbl.size)
              have HS2 := Lib.hid hS2
              clear hS2 hbl hb2
              by_cases hlg : 125 < ys.length
              · have T := Lib.hid (tl_val a2 ys.length c2 true (decide_eq_true hlg))
                have HRR := Lib.hid (show numR l B = ([], 7) from by
                  have h1 := fb_ge (b := B) (by omega) (l.drop (k + 1)) (X * B + d.toNat)
                  rw [HF.out] at h1
                  have h2 := Ldigs_mono h1
                  rw [← hys.out] at h2
                  rw [HR.out, resB, if_pos (by rw [Int.natAbs_natCast]; exact (large_iff _).1 (by omega))])
                clear hlg
                go_wp2_with fail
                refine (T.out _).mono ?_
                rintro e w4 ⟨rfl, rfl⟩
                go_wp2
                go_ret2
                exact outT_of (by rw [HRR.out]) (by rw [HRR.out]) hbl2
              · have T := Lib.hid (tl_val a2 ys.length c2 false (decide_eq_false hlg))
                have hyl : ys.length ≤ 125 := by omega
                clear hlg
                go_wp2_with fail
                refine (T.out _).mono ?_
                rintro e w4 ⟨rfl, rfl⟩
                go_wp2
                go_roundw
                case rel => exact ⟨k + 1, X * B + d.toNat, a2, c2, ys, by go_num, by omega, rfl, HS2, hys, hyl, HF, hbl2⟩
                case measure => simp [intOf]; omega
            · obtain rfl : k = l.length := by omega
              have HX := Lib.hid (show X = fb B 0 l from by have := hfb.out; rwa [List.drop_length, fb] at this)
              have G := Lib.hid (psign_b false false ax cx xs X wr hxs.out (by simp))
              go_wp2_with fail
              refine G.out.mono ?_
              rintro e w4 ⟨rfl, hb4⟩
              have hbl4 := hbl.trans (hb4.mono hbl.size)
              have TX0 := ptext_any ax cx xs (X : Int) w4 (hSx.out.later hb4) (by rw [hxs.out]; rfl) (HT.out.later hbl4)
              rw [show decide ((X : Int) < 0) = false from decide_eq_false (by omega)] at TX0
              have TX := Lib.hid TX0
              clear TX0
              go_wp2_with fail
              refine TX.out.mono ?_
              rintro e w5 ⟨rfl, hb5⟩
              go_wp2
              go_ret2
              exact outT_of (by rw [HR.out, HX.out]) (by rw [HR.out, HX.out]) (hbl4.trans (hb5.mono hbl4.size))
end Go.Proofs.YtebejllehbpahaaGreatDoor
