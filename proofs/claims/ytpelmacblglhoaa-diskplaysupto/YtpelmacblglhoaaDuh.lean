import Derived.Test.YtpelmacblglhoaaDug
import Derived.Test.YtpelmacblglhoaaZzas
import Derived.Test.YtpelmacblglhoaaZzbb
namespace Go.Proofs.Ytpelmacblglhoaa
set_option maxHeartbeats 1000000
/-- The program's disk and the document's are the same disk. -/
structure Rel (d : Ds) (r : Rd) : Prop where
  l : r.l = d.last
  il : r.is.length = d.last.length
  pl : r.p.length = d.last.length
  f : ∀ m, m < d.last.length → fnd d.ws m = if r.is.getD m false then some (r.p.getD m []) else none
  dead : r.dead = d.dead
  done : r.done = d.acts
  left : r.left = if d.dead then 0 else d.fuse
theorem Rel.new (l : List Bs) : Rel (Ds.new l) (Rd.new l) := by
  refine ⟨rfl, by simp [Rd.new, Ds.new], by simp [Rd.new, Ds.new], fun m hm => ?_, rfl, rfl, rfl⟩
  have hm' : m < l.length := hm
  have : (Rd.new l).is.getD m false = false := by simp [Rd.new, hm']
  rw [this]
  rfl
theorem Rel.pend {d : Ds} {r : Rd} (h : Rel d r) (ho : Ok d) : r.pend = d.ws := by
  refine srt_ext (pndR_srt _ _) ho.srt (fun m => ?_)
  rw [show r.pend = pndR r r.l.length from rfl, pndR_fnd, h.l]
  by_cases hm : m < d.last.length
  · rw [h.f m hm]
    by_cases hb : r.is.getD m false = true
    · rw [if_pos ⟨hm, hb⟩, if_pos hb]
    · rw [if_neg (fun q => hb q.2), if_neg hb]
  · rw [if_neg (fun q => hm q.1)]
    cases q : fnd d.ws m with
    | none => rfl
    | some s => exact absurd (ho.lt _ (fnd_mem q)).1 hm
theorem Rel.reach {d : Ds} {r : Rd} (h : Rel d r) (b : Int) : reachr r b = reachv d b := by
  unfold reachr reachv
  rw [h.dead, h.l]
theorem Rel.read {d : Ds} {r : Rd} (h : Rel d r) (b : Int) : readR r b = readS d b := by
  unfold readR readS reachv
  rw [h.dead, h.l]
  cases d.dead with
  | true => simp
  | false =>
    simp only [Bool.false_eq_true, if_false]
    by_cases h1 : b < 0
    · simp [h1]
    · by_cases h2 : (d.last.length : Int) ≤ b
      · simp [h1, h2]
      · rw [if_neg h1, if_neg h2, if_neg h1, if_neg h2, if_pos rfl]
        unfold cur
        rw [h.f b.toNat (by omega)]
        cases r.is.getD b.toNat false <;> simp
theorem Rel.armv {d : Ds} {r : Rd} (h : Rel d r) (n : Int) : armr r n = armv d n := by
  unfold armr Go.Proofs.Ytpelmacblglhoaa.armv
  rw [h.dead]
theorem Rel.arm {d : Ds} {r : Rd} (h : Rel d r) (n : Int) : Rel (d.arm n) (r.arm n) := by
  unfold Ds.arm Rd.arm
  rw [h.dead]
  by_cases h1 : n < 0
  · rw [if_pos h1, if_pos h1]; exact h
  · rw [if_neg h1, if_neg h1]
    cases hd : d.dead with
    | true => simp only [if_true]; exact h
    | false =>
      simp only [Bool.false_eq_true, if_false]
      exact ⟨h.l, h.il, h.pl, h.f, by rw [← hd], h.done, by simp⟩
theorem Ok.arm {d : Ds} (h : Ok d) {n : Int} (hn : n ≤ 9223372036854775807) : Ok (d.arm n) := by
  unfold Ds.arm
  split
  · exact h
  · split
    · exact h
    · exact ⟨h.srt, h.lt, h.sz, h.len, ⟨by simp only; omega, hn⟩⟩
theorem Rel.act {d : Ds} {r : Rd} (h : Rel d r) (hd : d.dead = false) : Rel d.act r.act := by
  have hl : r.left = d.fuse := by have := h.left; rwa [hd] at this
  unfold Ds.act Rd.act
  rw [hl]
  by_cases h1 : d.fuse = 1
  · rw [if_pos h1, if_pos h1]
    exact ⟨h.l, h.il, h.pl, h.f, rfl, h.done, rfl⟩
  · rw [if_neg h1, if_neg h1]
    exact ⟨h.l, h.il, h.pl, h.f, h.dead, by show r.done + 1 = d.acts + 1; rw [h.done], by simp [hd]⟩
theorem Rel.actv {d : Ds} {r : Rd} (h : Rel d r) (hd : d.dead = false) : (r.left = 1) ↔ actv d ≠ 0 := by
  have hl : r.left = d.fuse := by have := h.left; rwa [hd] at this
  unfold Go.Proofs.Ytpelmacblglhoaa.actv
  rw [hl]
  by_cases h1 : d.fuse = 1 <;> simp [h1]
theorem Rel.writev {d : Ds} {r : Rd} (h : Rel d r) (b : Int) (s : Bs) : writer r b s = writev d b s := by
  unfold writer Go.Proofs.Ytpelmacblglhoaa.writev reachv
  rw [h.dead, h.l]
  by_cases h0 : s.length ≠ 512
  · rw [if_pos h0, if_pos h0]
  · rw [if_neg h0, if_neg h0]
    cases hd : d.dead with
    | true => simp
    | false =>
      simp only [Bool.false_eq_true, if_false]
      by_cases h1 : b < 0
      · simp [h1]
      · by_cases h2 : (d.last.length : Int) ≤ b
        · simp [h1, h2]
        · have hl : r.left = d.fuse := by have := h.left; rwa [hd] at this
          simp [h1, h2, Go.Proofs.Ytpelmacblglhoaa.actv, hl]
theorem Rel.put {d : Ds} {r : Rd} (h : Rel d r) {b : Nat} (hb : b < d.last.length) (s : Bs) : Rel (d.put b s) { r with is := r.is.set b true, p := r.p.set b s } := by
  refine ⟨h.l, by simp [h.il, Ds.put], by simp [h.pl, Ds.put], fun m hm => ?_, h.dead, h.done, h.left⟩
  show fnd (putW d.ws b s) m = _
  simp only
  rw [putW_fnd, set_getD, set_getD, h.il, h.pl]
  by_cases e : m = b
  · subst e
    simp [hb]
  · simp only [e, false_and, if_false]
    exact h.f m hm
theorem Rel.write {d : Ds} {r : Rd} (h : Rel d r) (b : Int) (s : Bs) : Rel (d.write b s) (r.write b s) := by
  unfold Rd.write Ds.write reachv
  rw [h.dead, h.l]
  by_cases h0 : s.length ≠ 512
  · rw [if_pos h0, if_pos h0]; exact h
  · rw [if_neg h0, if_neg h0]
    cases hd : d.dead with
    | true => simp only [if_true]; rw [if_pos (by decide)]; exact h
    | false =>
      simp only [Bool.false_eq_true, if_false]
      by_cases h1 : b < 0
      · rw [if_pos h1, if_pos h1, if_pos (by decide)]; exact h
      · rw [if_neg h1, if_neg h1]
        by_cases h2 : (d.last.length : Int) ≤ b
        · rw [if_pos h2, if_pos h2, if_pos (by decide)]; exact h
        · rw [if_neg h2, if_neg h2, if_neg (by decide)]
          by_cases h3 : r.left = 1
          · rw [if_pos h3, if_pos ((h.actv hd).1 h3)]
            exact h.act hd
          · rw [if_neg h3, if_neg (fun q => h3 ((h.actv hd).2 q))]
            exact (h.act hd).put (by rw [act_last]; omega) s
theorem Rel.syncv {d : Ds} {r : Rd} (h : Rel d r) : syncr r = syncv d := by
  unfold syncr Go.Proofs.Ytpelmacblglhoaa.syncv
  rw [h.dead]
  cases hd : d.dead with
  | true => rfl
  | false =>
    have hl : r.left = d.fuse := by have := h.left; rwa [hd] at this
    simp [Go.Proofs.Ytpelmacblglhoaa.actv, hl]
theorem Rel.sync {d : Ds} {r : Rd} (h : Rel d r) (ho : Ok d) : Rel d.sync r.sync := by
  unfold Rd.sync Ds.sync
  rw [h.dead]
  cases hd : d.dead with
  | true => simp only [if_true]; exact h
  | false =>
    simp only [Bool.false_eq_true, if_false]
    have ha := h.act hd
    by_cases h3 : r.left = 1
    · rw [if_pos h3, if_pos ((h.actv hd).1 h3)]
      exact ha
    · rw [if_neg h3, if_neg (fun q => h3 ((h.actv hd).2 q))]
      obtain ⟨ql, qi, qp⟩ := act_rows r
      have hlen : (snc d.last d.ws d.ws.length).length = d.last.length := snc_len _ _ _
      refine ⟨?_, ?_, ?_, fun m hm => ?_, ha.dead, ha.done, ha.left⟩
      · show syL r.act r.l.length = snc d.last d.ws d.ws.length
        apply list_ext [] (by rw [syL_len, ql, h.l, hlen])
        intro m hm
        rw [syL_len, ql, h.l] at hm
        rw [snc_at d.last d.ws ho.srt d.ws.length m (Nat.le_refl _) (fun x hx => (ho.lt x hx).1), List.take_of_length_le (Nat.le_refl _), h.f m hm]
        simp only [syL]
        rw [range_getD, ql, qi, qp, h.l, if_pos hm]
        cases r.is.getD m false <;> simp [hm]
      · show (syI r.act r.l.length).length = _
        rw [syI_len, qi, h.il]; exact hlen.symm
      · show r.act.p.length = _
        rw [qp, h.pl]; exact hlen.symm
      · show fnd [] m = _
        have hm' : m < d.last.length := by rw [← hlen]; exact hm
        have : (syI r.act r.l.length).getD m false = false := by
          simp only [syI]
          rw [range_getD]
          split
          · rw [if_pos (by rw [h.l]; exact hm')]
          · rfl
        show _ = if (syI r.act r.l.length).getD m false then _ else _
        rw [this]
        rfl
theorem Rel.crashv {d : Ds} {r : Rd} (h : Rel d r) (ho : Ok d) (l : List Kp) : crashr r l = crashv d l := by
  unfold crashr Go.Proofs.Ytpelmacblglhoaa.crashv
  rw [h.pend ho]
theorem Rel.crash {d : Ds} {r : Rd} (h : Rel d r) (ho : Ok d) (l : List Kp) : Rel (d.crash l) (r.crash l) := by
  unfold Rd.crash Ds.crash
  rw [h.pend ho]
  cases hs : stps (List.replicate d.ws.length none) l with
  | none => exact h
  | some st =>
    have hlen : (crs d.last d.ws st d.ws.length).length = d.last.length := crs_len _ _ _ _
    refine ⟨by show crs r.l _ _ _ = _; rw [h.l], ?_, ?_, fun m hm => ?_, rfl, h.done, rfl⟩
    · show (syI r r.l.length).length = _
      rw [syI_len, h.il]; exact hlen.symm
    · show r.p.length = _
      rw [h.pl]; exact hlen.symm
    · have hm' : m < d.last.length := by rw [← hlen]; exact hm
      have : (syI r r.l.length).getD m false = false := by
        simp only [syI]
        rw [range_getD]
        split
        · rw [if_pos (by rw [h.l]; exact hm')]
        · rfl
      show fnd [] m = if (syI r r.l.length).getD m false then _ else _
      rw [this]
      rfl
theorem Ok.sync {d : Ds} (h : Ok d) : Ok d.sync := by
  unfold Ds.sync
  split
  · exact h
  · split
    · exact h.act
    · have ha := h.act
      have hlen : (snc d.last d.ws d.ws.length).length = d.last.length := snc_len _ _ _
      exact ⟨fun i j h1 h2 => by simp at h2, fun x hx => by simp at hx, snc_sz h.sz h.lt _ (Nat.le_refl _), by rw [hlen]; exact h.len, ha.fuse⟩
theorem Ok.crash {d : Ds} (h : Ok d) (l : List Kp) : Ok (d.crash l) := by
  unfold Ds.crash
  split
  · exact h
  · rename_i st _
    have hlen : (crs d.last d.ws st d.ws.length).length = d.last.length := crs_len _ _ _ _
    exact ⟨fun i j h1 h2 => by simp at h2, fun x hx => by simp at hx, crs_sz st h.sz h.lt _ (Nat.le_refl _), by rw [hlen]; exact h.len, by show (0 : Int) ≤ 0; omega, by show (0 : Int) ≤ _; omega⟩
/-- The sets of a crash are below 256. -/
theorem stps_small (n : Nat) (l : List Kp) (st : St) (h : stps (List.replicate n none) l = some st) (i : Nat) : (st.getD i none).getD 0 < 256 := by
  have key : ∀ (l : List Kp) (a b : St), (∀ i, (a.getD i none).getD 0 < 256) → stps a l = some b → ∀ i, (b.getD i none).getD 0 < 256 := by
    intro l
    induction l with
    | nil => intro a b ha h i; simp [stps] at h; rw [← h]; exact ha i
    | cons x l ih =>
      intro a b ha h
      simp only [stps] at h
      cases hx : stp a x with
      | none => rw [hx] at h; cases h
      | some s =>
        rw [hx] at h
        obtain ⟨j, m, _, h1, _, h2, h3⟩ := stp_some (st := a) (x := x) (by rw [hx]; simp)
        rw [hx] at h3
        cases h3
        refine ih _ _ (fun i => ?_) h
        rw [set_getD]
        split
        · exact h2
        · exact ha i
  refine key l _ st (fun i => ?_) h i
  by_cases hi : i < n <;> simp [hi]
/-- What an op does to the number of acts. -/
theorem acts_write (d : Ds) (b : Int) (s : Bs) : d.acts ≤ (d.write b s).acts ∧ (d.write b s).acts ≤ d.acts + 1 := by
  have h : d.acts ≤ d.act.acts ∧ d.act.acts ≤ d.acts + 1 := by unfold Ds.act; split <;> (simp only; omega)
  unfold Ds.write
  split
  · omega
  · split
    · omega
    · split
      · exact h
      · exact h
theorem acts_sync (d : Ds) : d.acts ≤ d.sync.acts ∧ d.sync.acts ≤ d.acts + 1 := by
  have h : d.acts ≤ d.act.acts ∧ d.act.acts ≤ d.acts + 1 := by unfold Ds.act; split <;> (simp only; omega)
  unfold Ds.sync
  split
  · omega
  · split
    · exact h
    · exact h
theorem acts_arm (d : Ds) (n : Int) : (d.arm n).acts = d.acts := by
  unfold Ds.arm
  split
  · rfl
  · split <;> rfl
theorem acts_crash (d : Ds) (l : List Kp) : (d.crash l).acts = d.acts := by
  unfold Ds.crash
  split <;> rfl
end Go.Proofs.Ytpelmacblglhoaa
