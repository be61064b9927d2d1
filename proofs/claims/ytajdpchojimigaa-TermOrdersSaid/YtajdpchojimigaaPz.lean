/- The program's size of an expression: the walk over all terms. -/
import Derived.Test.YtajdpchojimigaaPs
namespace Go.Proofs.Ytajdpchojimigaa
open Go.RowKit Go.Shelf TmM

theorem depT_nonneg (l : List (Nat × Int × ByteArray × Fo)) : 0 ≤ depT l := by
  cases l with
  | nil => simp [depT]
  | cons x r => induction r generalizing x with
    | nil => have := (ownD_le x.2.1).1; simp only [depT]; omega
    | cons y r ih => have := ih y; simp only [depT] at this ⊢; omega
theorem depT_bound (L : Nat) (f : Fo) : depT (evs L f) ≤ L + f.count := by
  rw [depT_evs]; have := Fo.depth_le_count f; split <;> omega

set_option maxHeartbeats 6400000 in
set_option maxRecDepth 100000 in
theorem visitc_n (n0 n1 nb db : Nat) (h0 : n0 ≤ nb) (h1 : nb < n1) (h2 : n0 ≤ db) (h3 : db < n1) (hne : nb ≠ db) (M : Nat) :
    ∀ (f : Fo) (a : Option Addr) (cap L : Nat) (m d : Int) (W : World), f.count ≤ M → L + f.count ≤ 1000000 → 0 ≤ m → m + f.count ≤ 10000000 → 0 ≤ d → d ≤ 10000000 → Sl n0 W a cap f → n1 ≤ W.heap.size → Boxed W nb 3 (.int .i64 m) → Boxed W db 3 (.int .i64 d) →
      Calls Try.prog 58 #[.slice a f.len cap, .int .i64 L, .func (.func 56) #[] #[.pointer (some ⟨nb, 0, none⟩), .pointer (some ⟨db, 0, none⟩)]] W (CountOut n0 n1 nb db (m + f.count) (max d (depT (evs L f))) W) := by
  induction M with
  | zero =>
    intro f a cap L m d W hc hL hm0 hm1 hd0 hd1 hs hn hnb hdb
    obtain rfl : f = .nil := by cases f with
      | nil => rfl
      | cons k t c r => simp [Fo.count] at hc
    have HQ := Lib.hid (show m + ((Fo.nil.count : Nat) : Int) = m ∧ max d (depT (evs L .nil)) = d from ⟨by simp [Fo.count], by simp only [evs, depT]; omega⟩)
    have HB := Lib.hid hnb
    have HD := Lib.hid hdb
    clear hs hnb hdb
    go_enter Try.func58, Try.ntmps58
    go_wp2_with fail
    go_loop [11] (fun i => i = .int .i64 0) (fun _ => 0)
    case atStart => rfl
    case round =>
      obtain rfl := hrel
      go_wp2
      go_ret
      exact ⟨rfl, by rw [HQ.out.1]; exact HB.out, by rw [HQ.out.2]; exact HD.out, KpC.refl _ _ _, Below.refl _ _⟩
  | succ M ih =>
    intro f a cap L m d W hc hL hm0 hm1 hd0 hd1 hs hn hnb hdb
    obtain ⟨b, o, hab, hbw, HCX⟩ := base_of hs
    have hcap := hs.cap
    unfold maxLen at hcap
    have HAB := Lib.hid hab
    have HBW := Lib.hid hbw
    have HIH := Lib.hid ih
    have HC := Lib.hid hc
    have HNB := Lib.hid hnb
    have HDB := Lib.hid hdb
    obtain ⟨R1, hR1⟩ : ∃ R1, R1 = m + f.count := ⟨_, rfl⟩
    obtain ⟨R2, hR2⟩ : ∃ R2, R2 = max d (depT (evs L f)) := ⟨_, rfl⟩
    rw [← hR1, ← hR2]
    have HR1 := Lib.hid hR1
    have HR2 := Lib.hid hR2
    clear ih hs hab hbw hc hnb hdb hR1 hR2
    go_enter Try.func58, Try.ntmps58
    go_wp2_with fail
    go_loopw [11] (fun i wr => ∃ k : Nat, i = .int .i64 k ∧ k ≤ f.len ∧ Hid (Boxed wr nb 3 (.int .i64 (m + (f.take k).count))) ∧ Hid (Boxed wr db 3 (.int .i64 (max d (depT (evs L (f.take k)))))) ∧ KpC n0 n1 W wr ∧ Below n0 W wr) (fun i _ => f.len - (intOf i).toNat)
    case atStart => exact ⟨0, rfl, Nat.zero_le _, Lib.hid (by rw [Fo.take_zero]; simpa [Fo.count] using HNB.out), Lib.hid (by rw [Fo.take_zero]; simp only [evs, depT]; rw [show max d 0 = d by omega]; exact HDB.out), KpC.refl _ _ _, Below.refl _ _⟩
    case round =>
      obtain ⟨k, rfl, hk, hnb, hdb, hkp, hbl⟩ := hrel
      by_cases hkl : k < f.len
      · obtain rfl := HAB.out (by omega)
        have hb := HBW.out (by omega)
        obtain ⟨kd, t, c, hd⟩ := Fo.drop_at hkl
        obtain ⟨x0, x1, ac, capc, x2, hsc⟩ := HCX.out k kd t c _ hd
        have hck := Fo.count_kid hd
        have c0 : wr.cell? ⟨b, o + k * 3, none⟩ = some (.int .i64 kd) := hkp.cell (.inl hb) x0
        have c1 : wr.cell? ⟨b, o + k * 3 + 1, none⟩ = some (.string t) := hkp.cell (.inl hb) x1
        have c2 : wr.cell? ⟨b, o + k * 3 + 2, none⟩ = some (.slice ac c.len capc) := hkp.cell (.inl hb) x2
        have hwr : n1 ≤ wr.heap.size := Nat.le_trans hn hkp.1
        have hkp1 : KpC n0 n1 wr (wr.alloc (.cells #[.int .i64 kd, .string t, .slice ac c.len capc] 35)) := KpC.alloc _ _
        have hbl1 : Below n0 wr (wr.alloc (.cells #[.int .i64 kd, .string t, .slice ac c.len capc] 35)) := (Below.refl _ _).alloc (by omega) _
        have htc : (f.take k).count + (c.count + (f.drop (k + 1)).count + 1) = f.count := by
          have e := congrArg Fo.count (Fo.take_app_drop k f)
          rw [Fo.count_app, hd] at e; exact e
        have htd := depT_bound L (f.take k)
        have hown := ownD_le kd
        have hnn := depT_nonneg (evs L (f.take k))
        have A := Lib.hid (count1_any n0 n1 nb db L kd t ac c.len capc (m + (f.take k).count) (max d (depT (evs L (f.take k)))) (wr.alloc (.cells #[.int .i64 kd, .string t, .slice ac c.len capc] 35)) h0 h1 h2 h3 hne (by omega) (by omega) (by omega) (hnb.out.alloc _) (hdb.out.alloc _))
        have hbx : (wr.alloc (.cells #[.int .i64 kd, .string t, .slice ac c.len capc] 35)).cell? ⟨wr.heap.size, 2, none⟩ = some (.slice ac c.len capc) := by rw [World.cell?_alloc_at _ _ _ _ rfl]; rfl
        have HBX := Lib.hid hbx
        have HSC := Lib.hid hsc
        have HCT := Lib.hid htc
        have HCK := Lib.hid hck
        have HT1 := Lib.hid (show (f.take (k + 1)).count = (f.take k).count + c.count + 1 from by rw [Fo.take_succ hd, Fo.count_app]; simp [Fo.count]; omega)
        have HT2 := Lib.hid (show depT (evs L (f.take (k + 1))) = max (depT (evs L (f.take k))) (max ((L : Int) + ownD kd) (depT (evs (L + 1) c))) from by
          rw [Fo.take_succ hd, evs_app, depT_app]
          simp only [evs, List.append_nil]
          rw [show (L, kd, t, c) :: evs (L + 1) c = [(L, kd, t, c)] ++ evs (L + 1) c from rfl, depT_app]
          have := depT_nonneg (evs (L + 1) c)
          simp only [depT]; omega)
        have HHB := Lib.hid (show ∀ (m2 d2 : Int) (W2 : World), 0 ≤ m2 → m2 + c.count ≤ 10000000 → 0 ≤ d2 → d2 ≤ 10000000 → KpC n0 n1 W W2 → Boxed W2 nb 3 (.int .i64 m2) → Boxed W2 db 3 (.int .i64 d2) → Calls Try.prog 58 #[.slice ac c.len capc, .int .i64 ((L : Int) + 1), .func (.func 56) #[] #[.pointer (some ⟨nb, 0, none⟩), .pointer (some ⟨db, 0, none⟩)]] W2 (CountOut n0 n1 nb db (m2 + c.count) (max d2 (depT (evs (L + 1) c))) W2) from
          fun m2 d2 W2 e1 e2 e3 e4 hkW e5 e6 => HIH.out c ac capc (L + 1) m2 d2 W2 (by have := HC.out; have := HCK.out; omega) (by have := HCT.out; omega) e1 e2 e3 e4 (HSC.out.kp hkW (Nat.le_refl _)) (by have := hkW.1; omega) e5 e6)
        have hm2 : m + ((f.take k).count : Int) + 1 + c.count ≤ 10000000 := by have := HCT.out; omega
        have hd2 : max (max d (depT (evs L (f.take k)))) ((L : Int) + ownD kd) ≤ 10000000 := by omega
        have hd3 : 0 ≤ max (max d (depT (evs L (f.take k)))) ((L : Int) + ownD kd) := by omega
        obtain ⟨tm, htm⟩ : ∃ tm : Int, tm = m + ((f.take k).count : Int) + 1 := ⟨_, rfl⟩
        obtain ⟨td, htd2⟩ : ∃ td : Int, td = max (max d (depT (evs L (f.take k)))) ((L : Int) + ownD kd) := ⟨_, rfl⟩
        rw [← htm] at A hm2
        rw [← htd2] at A hd2 hd3
        have hm3 : 0 ≤ tm := by omega
        have HTM := Lib.hid htm
        have HTD := Lib.hid htd2
        clear hd x0 x1 x2 hbx hck hsc htc htd hown hnn htm htd2
        go_wp2_with (go_at_call 56; refine A.out.mono ?_; rintro e W2 ⟨rfl, hn2, hd2', hk2, hb2⟩; have c2' : W2.cell? ⟨wr.heap.size, 2, none⟩ = some (.slice ac c.len capc) := hk2.cell (.inr hwr) HBX.out)
        refine (HHB.out tm td W2 hm3 hm2 hd3 hd2 ((hkp.trans hkp1).trans hk2) hn2 hd2').mono ?_
        rintro e W3 ⟨rfl, hn3, hd3', hk3, hb3⟩
        have HN3 := Lib.hid (show Boxed W3 nb 3 (.int .i64 (m + (f.take (k + 1)).count)) from by
          rw [HT1.out, show m + (((f.take k).count + c.count + 1 : Nat) : Int) = tm + c.count by rw [HTM.out]; omega]; exact hn3)
        have HD3 := Lib.hid (show Boxed W3 db 3 (.int .i64 (max d (depT (evs L (f.take (k + 1)))))) from by
          rw [HT2.out, show max d (max (depT (evs L (f.take k))) (max ((L : Int) + ownD kd) (depT (evs (L + 1) c)))) = max td (depT (evs (L + 1) c)) by rw [HTD.out]; omega]; exact hd3')
        clear hn3 hd3' hn2 hd2'
        go_wp2_with fail
        go_roundw
        case rel => exact ⟨k + 1, by go_num, by omega, HN3, HD3, ((hkp.trans hkp1).trans hk2).trans hk3, ((hbl.trans hbl1).trans hb2).trans hb3⟩
        case measure => simp [intOf]; omega
      · obtain rfl : k = f.len := by omega
        have HX1 := Lib.hid (show Boxed wr nb 3 (.int .i64 R1) from by rw [HR1.out]; have := hnb.out; rwa [Fo.take_len] at this)
        have HX2 := Lib.hid (show Boxed wr db 3 (.int .i64 R2) from by rw [HR2.out]; have := hdb.out; rwa [Fo.take_len] at this)
        go_wp2
        go_ret
        exact ⟨rfl, HX1.out, HX2.out, hkp, hbl⟩

set_option maxHeartbeats 3200000 in
set_option maxRecDepth 100000 in
theorem psize_any (f : Fo) (a : Option Addr) (cap : Nat) (w : World) (hc : f.count ≤ 1000000) (hs : Sl w.heap.size w a cap f) :
    Calls Try.prog 12 #[.slice a f.len cap] w fun e w' => e = .returned (.tuple #[.int .i64 f.count, .int .i64 f.depth]) ∧ Below w.heap.size w w' := by
  have b0 := (Boxed.new w 3 (.int .i64 0)).alloc (.cells #[.int .i64 0] 3)
  have b1 := Boxed.new (w.alloc (.cells #[.int .i64 0] 3)) 3 (.int .i64 0)
  have hsz : ((w.alloc (.cells #[.int .i64 0] 3)).alloc (.cells #[.int .i64 0] 3)).heap.size = w.heap.size + 2 := by simp
  have hB0 : Below w.heap.size w ((w.alloc (.cells #[.int .i64 0] 3)).alloc (.cells #[.int .i64 0] 3)) := ((Below.refl _ w).alloc (Nat.le_refl _) _).alloc (by simp) _
  rw [World.size_alloc] at b1
  have V := Lib.hid (visitc_n w.heap.size (w.heap.size + 2) w.heap.size (w.heap.size + 1) (by omega) (by omega) (by omega) (by omega) (by omega) f.count f a cap 0 0 0 _ (Nat.le_refl _) (by omega) (by omega) (by omega) (by omega) (by omega) (hs.below hB0 (Nat.le_refl _)) (by omega) b0 b1)
  obtain ⟨m, hm⟩ : ∃ m : Int, m = 0 + (f.count : Int) := ⟨_, rfl⟩
  obtain ⟨d, hd⟩ : ∃ d : Int, d = max 0 (depT (evs 0 f)) := ⟨_, rfl⟩
  rw [← hm, ← hd] at V
  have HQ := Lib.hid (show m = (f.count : Int) ∧ d = (f.depth : Int) from ⟨by omega, by
    rw [hd, depT_evs]
    split
    · rename_i h
      cases f with
      | nil => rfl
      | cons _ _ _ _ => simp at h
    · omega⟩)
  have HB0 := Lib.hid hB0
  clear hm hd hsz hB0 b0 b1 hs
  go_enter Try.func12, Try.ntmps12
  go_wp2_with fail
  refine V.out.mono ?_
  rintro e w2 ⟨rfl, hnb, hdb, hk, hb⟩
  have d1 := hnb.cell
  have f1 := hnb.frozen
  have d2 := hdb.cell
  have f2 := hdb.frozen
  have HN := Lib.hid hnb
  have HD := Lib.hid hdb
  have HBL := Lib.hid (HB0.out.trans hb)
  clear hnb hdb hk hb
  obtain ⟨rfl, rfl⟩ := HQ.out
  go_wp2_with fail
  go_region
  all_goals
    go_wp2
    have e1 := ((HN.out.set (.int .i64 (f.count : Int))).other (B' := w.heap.size + 1) (by omega) (.int .i64 (f.depth : Int))).cell
    have e2 := ((HD.out.other (B' := w.heap.size) (by omega) (.int .i64 (f.count : Int))).set (.int .i64 (f.depth : Int))).cell
    exact bodyPost_ret (v := .tuple #[.int .i64 f.count, .int .i64 f.depth]) (by simp [results, Try.f12, go_sem, e1, e2]) rfl ⟨rfl, ((HBL.out.setCell (p := ⟨w.heap.size, 0, none⟩) (Nat.le_refl _) _).setCell (p := ⟨w.heap.size + 1, 0, none⟩) (by simp) _).drew⟩
end Go.Proofs.Ytajdpchojimigaa
