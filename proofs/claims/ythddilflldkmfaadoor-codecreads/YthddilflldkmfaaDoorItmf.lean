import Derived.Test.YthddilflldkmfaaDoorItme
namespace Go.Proofs.YthddilflldkmfaaDoor
open Go.RowKit Go.Lib
set_option maxHeartbeats 2000000 in
theorem again2 (x : Raw) (b gr off cap c : Nat) (v : Value) (R X : List UInt8) (E F : Nat) (w : World) (h : x.Fit) (hk : pk x.k 3 = 2) (hr : RAt b gr off cap R E w) (hw : WAt c v X F w) (hR : R.length ≤ 9223372036854775807) (hX : X.length + R.length + 65538 ≤ 70368744177664)
    (hb : b ≠ c) (hbv : v.ownBlock ≠ some b) (hg : gr ≠ c) (hgv : v.ownBlock ≠ some gr) :
    Calls Tryd.prog 38 #[x.val, .pointer (some ⟨b, 0, none⟩), .pointer (some ⟨c, 0, none⟩)] w fun e w' => e = .returned (.tuple #[]) ∧ Both b gr c v (rGo R E (rRawE x.t.length R) x.t.length).1 (rGo R E (rRawE x.t.length R) x.t.length).2 (wPut X F 0 (if fine E (rRawE x.t.length R) then R.take x.t.length else [])).1 (wPut X F 0 (if fine E (rRawE x.t.length R) then R.take x.t.length else [])).2 w w' := by
  have HP := hide (fun W => pick_any x.k 3 W h.k.1 h.k.2 (by omega) (by omega))
  rw [hk] at HP
  have hbox := Box.new w x
  have hal : Below w.heap.size w (w.alloc (.cells #[.int .i64 x.k, .int .i64 x.s, .int .i64 x.n, .int .i64 x.m, .string ⟨x.t.toArray⟩] 57)) := (Below.refl _ _).alloc (Nat.le_refl _) _
  have HR := hide (rraw_any b gr off cap R E x.t.length _ (hr.below hal) hR)
  rw [Int.toNat_natCast] at HR
  have hV : (if fine E (rRawE x.t.length R) then R.take x.t.length else []).length ≤ R.length := by
    split
    · rw [List.length_take]; omega
    · simp
  have HW := hide (fun W (hW : RTo b gr (rGo R E (rRawE x.t.length R) x.t.length).1 (rGo R E (rRawE x.t.length R) x.t.length).2 w W) => wraw_any c v X F (if fine E (rRawE x.t.length R) then R.take x.t.length else []) W (hw.keep hW.2 (by rintro rfl; exact hb rfl) (fun k hk q => hbv (by rw [hk, q]))) (by omega))
  clear hV
  generalize hXT : wPut X F 0 (if fine E (rRawE x.t.length R) then R.take x.t.length else []) = XT at *
  generalize (if fine E (rRawE x.t.length R) then R.take x.t.length else []) = V at *
  generalize rGo R E (rRawE x.t.length R) x.t.length = ST at *
  clear hXT
  have HD := hide (And.intro hb (And.intro hbv (And.intro hg hgv)))
  unfold Raw.val
  clear hr hw h hk hb hbv hg hgv
  go_enter Tryd.func38, Tryd.ntmps38
  go_wp2_with fail
  refine (unhide HP _).mono ?_
  rintro e w1 ⟨rfl, rfl⟩
  have HAl := hide hal
  generalize w.alloc (.cells #[.int .i64 x.k, .int .i64 x.s, .int .i64 x.n, .int .i64 x.m, .string ⟨x.t.toArray⟩] 57) = w1 at *
  clear hal
  obtain ⟨b0, b1, b2, b3, b4, b5⟩ := hbox
  go_wp2_with fail
  refine (unhide HR).mono ?_
  rintro e w2 ⟨rfl, hto⟩
  have h2 := RTo.step (Only.of_below (unhide HAl)) hto
  have H2 := hide h2
  clear hto h2
  go_wp2_with fail
  refine (unhide HW w2 (unhide H2)).mono ?_
  rintro e w3 ⟨rfl, v', d, o2, f⟩
  have H3 := hide (And.intro d (And.intro o2 f))
  clear d o2 f
  go_wp2
  go_end0
  refine ⟨rfl, ?_⟩
  obtain ⟨d, o2, f⟩ := unhide H3
  obtain ⟨hb, hbv, hg, hgv⟩ := unhide HD
  obtain ⟨⟨off, cap, a⟩, o⟩ := unhide H2
  refine ⟨v', ⟨off, cap, a.keep o2 (by rintro (q | q); exact hb q; exact hbv q) (by rintro (q | q); exact hg q; exact hgv q)⟩, d, Only.trans ⟨o.os, o.tape, o.output, o.size, fun k hk hp => o.block k hk (fun e => hp (.inl e))⟩ o2 (fun _ _ q => .inr q), fun q hq => ?_⟩
  rcases f q hq with r | r
  · exact .inl r
  · exact .inr (Nat.le_trans o.size r)
end Go.Proofs.YthddilflldkmfaaDoor
