/- RopeJoins: the law as a whole. -/
import Derived.Test.YtamcobncfbjdmaaRX
namespace Go.Proofs.Ytamcobncfbjdmaa
open Go.RowKit Go.Shelf Go.BigFrame
attribute [local go_sem] Oper.semAt_some

set_option maxRecDepth 100000 in
set_option maxHeartbeats 6400000 in
theorem joinsLong_any (p pm pk : Option Addr) (c cm ck n m k : Nat) (ia jf jt : Int) (w : World) (h : 300 < n ∨ 300 < m ∨ 300 < k) :
    Calls Try.prog 7 #[.slice p n c, .slice pm m cm, .slice pk k ck, .int .u16 ia, .int .u16 jf, .int .u16 jt] w (fun r w' => r = .returned (.bool true) ∧ Hid (Below w.heap.size w w')) := by
  have AW := Lib.hid (awake_any w)
  by_cases h1 : 300 < n
  · have hni : (300 : Int) < (n : Int) := by omega
    clear h
    go_enter Try.func7, Try.ntmps7
    go_wp2_with (first
      | (go_at_call 11; refine AW.out.mono ?_; rintro r w1 ⟨rfl, HB1⟩)
      | fail)
    go_ret
    exact ⟨rfl, HB1⟩
  · have hni : ¬ (300 : Int) < (n : Int) := by omega
    by_cases h2 : 300 < m
    · have hmi : (300 : Int) < (m : Int) := by omega
      clear h
      go_enter Try.func7, Try.ntmps7
      go_wp2_with (first
        | (go_at_call 11; refine AW.out.mono ?_; rintro r w1 ⟨rfl, HB1⟩)
        | fail)
      go_ret
      exact ⟨rfl, HB1⟩
    · have hmi : ¬ (300 : Int) < (m : Int) := by omega
      have hki : (300 : Int) < (k : Int) := by omega
      clear h
      go_enter Try.func7, Try.ntmps7
      go_wp2_with (first
        | (go_at_call 11; refine AW.out.mono ?_; rintro r w1 ⟨rfl, HB1⟩)
        | fail)
      go_ret
      exact ⟨rfl, HB1⟩

theorem lawJoins_any (p pm pk : Option Addr) (c cm ck : Nat) (l1 l2 l3 : List Int) (ia jf jt : Int) (w : World) (hq : SqL w p l1) (hqm : SqL w pm l2) (hqk : SqL w pk l3) (hz : p = none → c = 0) (hzm : pm = none → cm = 0) (hzk : pk = none → ck = 0) (hc : l1.length ≤ c) (hcm : l2.length ≤ cm) (hck : l3.length ≤ ck) (hia : 0 ≤ ia ∧ ia ≤ 65535) (hjf : 0 ≤ jf ∧ jf ≤ 65535) (hjt : 0 ≤ jt ∧ jt ≤ 65535) :
    Calls Try.prog 7 #[.slice p l1.length c, .slice pm l2.length cm, .slice pk l3.length ck, .int .u16 ia, .int .u16 jf, .int .u16 jt] w (fun r w' => r = .returned (.bool true) ∧ Below w.heap.size w w') := by
  by_cases h : 300 < l1.length ∨ 300 < l2.length ∨ 300 < l3.length
  · exact (joinsLong_any p pm pk c cm ck l1.length l2.length l3.length ia jf jt w h).mono fun r w' h => ⟨h.1, h.2.out⟩
  · exact (joinsA_any p pm pk c cm ck l1.length l2.length l3.length l1 l2 l3 ia jf jt w rfl rfl rfl hq hqm hqk hc hcm hck (by omega) (by omega) (by omega) hz hzm hzk hia hjf hjt).mono fun r w' h => ⟨h.1, h.2.out⟩
end Go.Proofs.Ytamcobncfbjdmaa
