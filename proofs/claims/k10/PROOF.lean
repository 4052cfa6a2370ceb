import PyProof.Rows.All
import Wide.All
import OpenK.AllK
import Wide.FinOn
import HandS.ForMost
import HandS.IsInst
import HandS.Gcd
import KE.KMathGC
import HandS.Deep
import HandS.TupLe
import HandS.SetBool
import HandS.Strs
import HandS.ExcOwn
import HandS.WordsExc
import HandS.Conv
import HandS.SortInts
import HandS.Text
import KE.OsSort
import KE.SortData
import HandS.Star
import HandS.FStr
import PySem.Challenge.RW_skypasses_k10_skies_are_written
set_option Elab.async false
set_option linter.all false
set_option maxRecDepth 100000
/-! Data: values without the heap, names that own a list, judgements over data -/
namespace Dl
open PySem PySem.Spec PyProof.Rows L2

/-! ### heaps, and what stands for data -/
def Fz (M : List Addr) (H : Hp) : Hp := fun a => if a ∈ M then none else H a
theorem fz_in {M : List Addr} {H : Hp} {a : Addr} (h : a ∈ M) : Fz M H a = none := by
  unfold Fz
  rw [if_pos h]
theorem fz_out {M : List Addr} {H : Hp} {a : Addr} (h : a ∉ M) : Fz M H a = H a := by
  unfold Fz
  rw [if_neg h]
theorem fz_some {M : List Addr} {H : Hp} {a : Addr} {o : HO} (h : Fz M H a = some o) : a ∉ M ∧ H a = some o := by
  by_cases e : a ∈ M
  · rw [fz_in e] at h
    cases h
  · rw [fz_out e] at h
    exact ⟨e, h⟩
theorem fz_same {M : List Addr} {H H' : Hp} (e : Same H H') : Same (Fz M H) (Fz M H') := fun b o h => by
  obtain ⟨h1, h2⟩ := fz_some h
  rw [fz_out h1]
  exact e b o h2
theorem fz_full {M : List Addr} {H : Hp} : Same (Fz M H) H := fun _ _ h => (fz_some h).2
theorem fz_sub {M M' : List Addr} {H : Hp} (s : ∀ b ∈ M', b ∈ M) : Same (Fz M H) (Fz M' H) := fun b o h => by
  obtain ⟨h1, h2⟩ := fz_some h
  rw [fz_out fun z => h1 (s b z)]
  exact h2
theorem fz_new {M : List Addr} {H : Hp} {p : Addr} {o : HO} (h : H p = none) : Same (Fz M H) (Fz (p :: M) (upd H p o)) := fun b u e => by
  obtain ⟨h1, h2⟩ := fz_some e
  have ne : b ≠ p := ne_of_none h2 h
  rw [fz_out (fun z => (List.mem_cons.mp z).elim ne h1), upd_ne ne]
  exact h2
theorem fz_upd {M : List Addr} {H : Hp} {p : Addr} {o : HO} (h : p ∈ M) : Fz M (upd H p o) = Fz M H := by
  funext b
  by_cases e : b ∈ M
  · rw [fz_in e, fz_in e]
  · rw [fz_out e, fz_out e, upd_ne fun z => e (by rw [z]; exact h)]
theorem same_new {H : Hp} {p : Addr} {o : HO} (h : H p = none) : Same H (upd H p o) := fun b x e => by
  rw [upd_ne (ne_of_none e h)]
  exact e
theorem same_mut {H H' : Hp} {p : Addr} {o : HO} (e : Same H H') (h : H p = none) : Same H (upd H' p o) := fun a u ha => by
  rw [upd_ne (ne_of_none ha h)]
  exact e a u ha

theorem sqT_mono {K : PySem.W.Frag} {H H' : Hp} {a : Addr} {xs : List V} (e : Same H H') (h : SqT K H a xs) : SqT K H' a xs := by
  rcases h with (h | ⟨o, h⟩) | h
  · exact .inl (.inl (e _ _ h))
  · exact .inl (.inr ⟨o, e _ _ h⟩)
  · exact .inr h

def isNone : PyData → Bool
  | .none => true
  | _ => false
mutual
inductive Rp (K : PySem.W.Frag) (H : Hp) : V → PyData → Prop
  | non : Rp K H .non .none
  | bl (b : Bool) : Rp K H (.bl b) (.bool b)
  | int (i : Int) : Rp K H (.int i) (.int i)
  | str (x : Str) : Rp K H (.str x) (.str x)
  | lst {a : Addr} {xs : List V} {ds : List PyData} : H a = some (.lst xs) → RpL K H xs ds → Rp K H (.ref a) (.list ds)
  | tup {a : Addr} {xs : List V} {ds : List PyData} : SqT K H a xs → RpL K H xs ds → Rp K H (.ref a) (.tuple ds)
inductive RpL (K : PySem.W.Frag) (H : Hp) : List V → List PyData → Prop
  | nil : RpL K H [] []
  | cons {v : V} {vs : List V} {d : PyData} {ds : List PyData} : Rp K H v d → RpL K H vs ds → RpL K H (v :: vs) (d :: ds)
end

section
variable {K : PySem.W.Frag} {H H' : Hp}
mutual
theorem Rp.mono (e : Same H H') : ∀ {v : V} {d : PyData}, Rp K H v d → Rp K H' v d
  | _, _, .non => .non
  | _, _, .bl b => .bl b
  | _, _, .int i => .int i
  | _, _, .str x => .str x
  | _, _, .lst h l => .lst (e _ _ h) (RpL.mono e l)
  | _, _, .tup h l => .tup (sqT_mono e h) (RpL.mono e l)
theorem RpL.mono (e : Same H H') : ∀ {vs : List V} {ds : List PyData}, RpL K H vs ds → RpL K H' vs ds
  | _, _, .nil => .nil
  | _, _, .cons h l => .cons (Rp.mono e h) (RpL.mono e l)
end
mutual
theorem Rp.dp : ∀ {v : V} {d : PyData}, Rp K H v d → Dp K H v d
  | _, _, .non => .non
  | _, _, .bl b => .bl b
  | _, _, .int i => .int i
  | _, _, .str x => .str x
  | _, _, .lst h l => .lst (SqL.of h) (RpL.dp l)
  | _, _, .tup h l => .tup h (RpL.dp l)
theorem RpL.dp : ∀ {vs : List V} {ds : List PyData}, RpL K H vs ds → DpAll K H vs ds
  | _, _, .nil => .nil
  | _, _, .cons h l => .cons (Rp.dp h) (RpL.dp l)
end
theorem RpL.length : ∀ {vs : List V} {ds : List PyData}, RpL K H vs ds → vs.length = ds.length
  | _, _, .nil => rfl
  | _, _, .cons _ l => congrArg (· + 1) (RpL.length l)
theorem RpL.get : ∀ {vs : List V} {ds : List PyData} {i : Nat} {d : PyData}, RpL K H vs ds → ds[i]? = some d → ∃ v, vs[i]? = some v ∧ Rp K H v d
  | _, _, _, _, .nil, e => by simp at e
  | _, _, 0, _, .cons r _, e => by
    have e' := Option.some.inj e
    subst e'
    exact ⟨_, rfl, r⟩
  | _, _, i + 1, _, .cons _ t, e => RpL.get (i := i) t e
theorem RpL.get' : ∀ {vs : List V} {ds : List PyData} {i : Nat} {v : V}, RpL K H vs ds → vs[i]? = some v → ∃ d, ds[i]? = some d ∧ Rp K H v d
  | _, _, _, _, .nil, e => by simp at e
  | _, _, 0, _, .cons r _, e => by
    have e' := Option.some.inj e
    subst e'
    exact ⟨_, rfl, r⟩
  | _, _, i + 1, _, .cons _ t, e => RpL.get' (i := i) t e
theorem RpL.set {d : PyData} {v : V} (r : Rp K H v d) : ∀ {vs : List V} {ds : List PyData} (i : Nat), RpL K H vs ds → RpL K H (vs.set i v) (ds.set i d)
  | _, _, _, .nil => .nil
  | _, _, 0, .cons _ t => .cons r t
  | _, _, i + 1, .cons q t => .cons q (RpL.set r i t)
theorem RpL.append : ∀ {vs ws : List V} {ds es : List PyData}, RpL K H vs ds → RpL K H ws es → RpL K H (vs ++ ws) (ds ++ es)
  | _, _, _, _, .nil, s => s
  | _, _, _, _, .cons r t, s => .cons r (RpL.append t s)
theorem RpL.take : ∀ {vs : List V} {ds : List PyData} (n : Nat), RpL K H vs ds → RpL K H (vs.take n) (ds.take n)
  | _, _, 0, _ => by
    rw [List.take_zero, List.take_zero]
    exact .nil
  | _, _, _ + 1, .nil => .nil
  | _, _, n + 1, .cons r t => .cons r (RpL.take n t)
theorem RpL.drop : ∀ {vs : List V} {ds : List PyData} (n : Nat), RpL K H vs ds → RpL K H (vs.drop n) (ds.drop n)
  | _, _, 0, r => r
  | _, _, _ + 1, .nil => .nil
  | _, _, n + 1, .cons _ t => RpL.drop n t
theorem RpL.int_of : ∀ {vs : List V} {ns : List Int}, RpL K H vs (ns.map PyData.int) → vs = ns.map V.int
  | _, [], .nil => rfl
  | _, n :: ns, .cons (.int _) t => by rw [List.map_cons, RpL.int_of t]
theorem RpL.bool_of : ∀ {vs : List V} {bs : List Bool}, RpL K H vs (bs.map PyData.bool) → vs = bs.map V.bl
  | _, [], .nil => rfl
  | _, n :: ns, .cons (.bl _) t => by rw [List.map_cons, RpL.bool_of t]
theorem RpL.of_int : ∀ (ns : List Int), RpL K H (ns.map V.int) (ns.map PyData.int)
  | [] => .nil
  | n :: ns => .cons (.int n) (RpL.of_int ns)
theorem Rp.int_v {v : V} {i : Int} (h : Rp K H v (.int i)) : v = .int i := by cases h; rfl
theorem Rp.bl_v {v : V} {i : Bool} (h : Rp K H v (.bool i)) : v = .bl i := by cases h; rfl
theorem Rp.str_v {v : V} {i : Str} (h : Rp K H v (.str i)) : v = .str i := by cases h; rfl
theorem Rp.non_iff {v : V} {d : PyData} (h : Rp K H v d) : decide (v = .non) = isNone d := by
  cases h <;> rfl
end

/-! ### what an expression gives: data that stays, or a new list -/
inductive Rs where
  | fz (d : PyData)
  | fr (ds : List PyData)
def Rs.data : Rs → PyData
  | .fz d => d
  | .fr ds => .list ds
def RvOk (K : PySem.W.Frag) (M : List Addr) (H H' : Hp) (v : V) : Rs → Prop
  | .fz d => Rp K (Fz M H') v d
  | .fr ds => ∃ p vs, v = .ref p ∧ H p = none ∧ p ∉ M ∧ H' p = some (.lst vs) ∧ RpL K (Fz (p :: M) H') vs ds
/-- what may be read: it stays, or it is a list whose items stay -/
def RdOk (K : PySem.W.Frag) (M : List Addr) (H' : Hp) (v : V) (d : PyData) : Prop :=
  Rp K (Fz M H') v d ∨ ∃ ds p vs, d = .list ds ∧ v = .ref p ∧ H' p = some (.lst vs) ∧ RpL K (Fz M H') vs ds
/-- every step from one to the other -/
def Rs.le (r' r : Rs) : Prop := r' = r ∨ ∃ ds, r' = .fr ds ∧ r = .fz (.list ds)
section
variable {K : PySem.W.Frag} {M : List Addr} {H H0 H' H'' : Hp} {v : V} {r : Rs} {d : PyData}
theorem RvOk.data (h : RvOk K M H H' v r) : Rp K (Fz M H') v r.data := by
  cases r with
  | fz d => exact h
  | fr ds =>
    obtain ⟨p, vs, rfl, _, hp, e, l⟩ := h
    exact .lst (by rw [fz_out hp]; exact e) (l.mono (fz_sub fun b hb => List.mem_cons_of_mem _ hb))
theorem RvOk.le {r' : Rs} (h : RvOk K M H H' v r') (e : r'.le r) : RvOk K M H H' v r := by
  rcases e with rfl | ⟨ds, rfl, rfl⟩
  · exact h
  · exact h.data
theorem RvOk.back (e : Same H0 H) (h : RvOk K M H H' v r) : RvOk K M H0 H' v r := by
  cases r with
  | fz d => exact h
  | fr ds =>
    obtain ⟨p, vs, h1, h2, h3⟩ := h
    exact ⟨p, vs, h1, e.free h2, h3⟩
theorem RvOk.sub {B : List Addr} (s : ∀ b ∈ B, b ∈ M) (h : RvOk K M H H' v r) : RvOk K B H H' v r := by
  cases r with
  | fz d => exact Rp.mono (fz_sub s) h
  | fr ds =>
    obtain ⟨p, vs, h1, h2, h3, h4, h5⟩ := h
    exact ⟨p, vs, h1, h2, fun z => h3 (s p z), h4, h5.mono (fz_sub fun b hb => (List.mem_cons.mp hb).elim (fun e => e ▸ List.mem_cons_self) fun z => List.mem_cons_of_mem _ (s b z))⟩
theorem RdOk.mono (e : Same H H') (h : RdOk K M H v d) : RdOk K M H' v d := by
  rcases h with h | ⟨ds, p, vs, h1, h2, h3, h4⟩
  · exact .inl (h.mono (fz_same e))
  · exact .inr ⟨ds, p, vs, h1, h2, e _ _ h3, h4.mono (fz_same e)⟩
theorem RdOk.rp (h : RdOk K M H v d) : Rp K H v d := by
  rcases h with h | ⟨ds, p, vs, rfl, rfl, h3, h4⟩
  · exact h.mono fz_full
  · exact .lst h3 (h4.mono fz_full)
theorem RdOk.lst {ds : List PyData} (h : RdOk K M H v (.list ds)) : ∃ p vs, v = .ref p ∧ H p = some (.lst vs) ∧ RpL K (Fz M H) vs ds := by
  rcases h with h | ⟨ds, p, vs, e, rfl, h3, h4⟩
  · cases h with
    | lst h l => exact ⟨_, _, rfl, (fz_some h).2, l⟩
  · cases e
    exact ⟨p, vs, rfl, h3, h4⟩
theorem RdOk.tup {ds : List PyData} (h : RdOk K M H v (.tuple ds)) : ∃ p vs, v = .ref p ∧ SqT K H p vs ∧ RpL K (Fz M H) vs ds := by
  rcases h with h | ⟨ds, p, vs, e, rfl, h3, h4⟩
  · cases h with
    | tup h l => exact ⟨_, _, rfl, sqT_mono fz_full h, l⟩
  · cases e
end

/-! ### names -/
inductive Sl where
  | no
  | fz (d : PyData)
  | ow (ds : List PyData)
  | sc (ns : List Int)
  | pl (p : Addr) (φ : List Int → Prop)
/-- a list of numbers that stands at p: its first one says where to read on -/
def PoolOk (ns : List Int) : Prop := 2 ≤ ns.length ∧ ns.length ≤ 100000
/-- a list that this def may change -/
def Sl.own : Sl → Bool
  | .ow _ => true
  | .pl _ _ => true
  | _ => false
def SlOk (K : PySem.W.Frag) (M : List Addr) (H : Hp) (o : Option V) : Sl → Prop
  | .no => True
  | .fz d => ∃ v, o = some v ∧ Rp K (Fz M H) v d
  | .ow ds => ∃ l vs, o = some (.ref l) ∧ l ∈ M ∧ H l = some (.lst vs) ∧ RpL K (Fz M H) vs ds
  | .sc ns => ∃ a, o = some (.ref a) ∧ SqL K (Fz M H) a (ns.map V.int)
  | .pl p φ => o = some (.ref p) ∧ p ∈ M ∧ ∃ ns, φ ns ∧ H p = some (.lst (ns.map V.int))
structure EnvOk (K : PySem.W.Frag) (M : List Addr) (env : List Sl) (σ : L2.St) (H : Hp) : Prop where
  len : env.length = σ.length
  sl : ∀ (i : Nat) (s : Sl), env[i]? = some s → SlOk K M H ((σ[i]?).getD none) s
  inj : ∀ (i j : Nat) (s t : Sl) (l : Addr), env[i]? = some s → env[j]? = some t → s.own = true → t.own = true → σ[i]? = some (some (.ref l)) → σ[j]? = some (some (.ref l)) → i = j
  dom : ∀ b ∈ M, ∃ o, H b = some o
theorem sqL_mono {K : PySem.W.Frag} {H H' : Hp} {a : Addr} {xs : List V} (e : Same H H') (h : SqL K H a xs) : SqL K H' a xs := by
  rcases h with (h | ⟨o, h⟩) | h
  · exact .inl (.inl (e _ _ h))
  · exact .inl (.inr ⟨o, e _ _ h⟩)
  · exact .inr h
section
variable {K : PySem.W.Frag} {M : List Addr} {H H0 H' H'' : Hp} {v : V} {r : Rs} {d : PyData} {env : List Sl} {σ : L2.St}
theorem SlOk.mono {o : Option V} {s : Sl} (e : Same H H') (h : SlOk K M H o s) : SlOk K M H' o s := by
  cases s with
  | no => trivial
  | fz d =>
    obtain ⟨v, h1, h2⟩ := h
    exact ⟨v, h1, h2.mono (fz_same e)⟩
  | ow ds =>
    obtain ⟨l, vs, h1, h2, h3, h4⟩ := h
    exact ⟨l, vs, h1, h2, e _ _ h3, h4.mono (fz_same e)⟩
  | sc ns =>
    obtain ⟨a, h1, h2⟩ := h
    exact ⟨a, h1, sqL_mono (fz_same e) h2⟩
  | pl p φ =>
    obtain ⟨h1, h2, ns, h3, h4⟩ := h
    exact ⟨h1, h2, ns, h3, e _ _ h4⟩
theorem EnvOk.mono (e : Same H H') (h : EnvOk K M env σ H) : EnvOk K M env σ H' :=
  ⟨h.len, fun i s hs => (h.sl i s hs).mono e, h.inj, fun b hb => let ⟨o, ho⟩ := h.dom b hb; ⟨o, e _ _ ho⟩⟩
theorem EnvOk.notin (h : EnvOk K M env σ H) {p : Addr} (hp : H p = none) : p ∉ M := fun z => by
  obtain ⟨o, e⟩ := h.dom p z
  rw [hp] at e
  cases e
theorem EnvOk.slot (h : EnvOk K M env σ H) {i : Nat} {d : PyData} (e : env[i]? = some (.fz d)) : ∃ v, σ[i]? = some (some v) ∧ Rp K (Fz M H) v d := by
  obtain ⟨v, h1, h2⟩ := h.sl i _ e
  refine ⟨v, ?_, h2⟩
  cases q : σ[i]? with
  | none =>
    rw [q] at h1
    cases h1
  | some o =>
    rw [q] at h1
    rw [show o = some v from h1]
theorem EnvOk.own (h : EnvOk K M env σ H) {i : Nat} {ds : List PyData} (e : env[i]? = some (.ow ds)) : ∃ l vs, σ[i]? = some (some (.ref l)) ∧ l ∈ M ∧ H l = some (.lst vs) ∧ RpL K (Fz M H) vs ds := by
  obtain ⟨l, vs, h1, h2⟩ := h.sl i _ e
  refine ⟨l, vs, ?_, h2⟩
  cases q : σ[i]? with
  | none =>
    rw [q] at h1
    cases h1
  | some o =>
    rw [q] at h1
    rw [show o = some (.ref l) from h1]
theorem EnvOk.scr (h : EnvOk K M env σ H) {i : Nat} {ns : List Int} (e : env[i]? = some (.sc ns)) : ∃ a, σ[i]? = some (some (.ref a)) ∧ SqL K H a (ns.map V.int) := by
  obtain ⟨l, h1, h2⟩ := h.sl i _ e
  refine ⟨l, ?_, sqL_mono fz_full h2⟩
  cases q : σ[i]? with
  | none =>
    rw [q] at h1
    cases h1
  | some o =>
    rw [q] at h1
    rw [show o = some (.ref l) from h1]
theorem EnvOk.adr (h : EnvOk K M env σ H) {i : Nat} {p : Addr} {φ : List Int → Prop} (e : env[i]? = some (.pl p φ)) : σ[i]? = some (some (.ref p)) ∧ p ∈ M ∧ ∃ ns, φ ns ∧ H p = some (.lst (ns.map V.int)) := by
  obtain ⟨h1, h2⟩ := h.sl i _ e
  refine ⟨?_, h2⟩
  cases q : σ[i]? with
  | none =>
    rw [q] at h1
    cases h1
  | some o =>
    rw [q] at h1
    rw [show o = some (.ref p) from h1]
theorem EnvOk.ownd (h : EnvOk K M env σ H) {i : Nat} {s : Sl} (e : env[i]? = some s) (hs : s.own = true) : ∃ l, σ[i]? = some (some (.ref l)) ∧ l ∈ M := by
  cases s with
  | ow ds =>
    obtain ⟨l, vs, h1, h2, _⟩ := h.own e
    exact ⟨l, h1, h2⟩
  | pl p φ =>
    obtain ⟨h1, h2, _⟩ := h.adr e
    exact ⟨p, h1, h2⟩
  | no => cases hs
  | fz d => cases hs
  | sc ns => cases hs
/-- a wider list of what may be written -/
theorem EnvOk.more {p : Addr} {o : HO} (h : EnvOk K M env σ H) (hp : H p = none) : EnvOk K (p :: M) env σ (upd H p o) := by
  refine ⟨h.len, fun i s hs => ?_, h.inj, fun b hb => ?_⟩
  · have q := h.sl i s hs
    cases s with
    | no => trivial
    | fz d =>
      obtain ⟨v, h1, h2⟩ := q
      exact ⟨v, h1, h2.mono (fz_new hp)⟩
    | ow ds =>
      obtain ⟨l, vs, h1, h2, h3, h4⟩ := q
      exact ⟨l, vs, h1, List.mem_cons_of_mem _ h2, same_new hp _ _ h3, h4.mono (fz_new hp)⟩
    | sc ns =>
      obtain ⟨a, h1, h2⟩ := q
      exact ⟨a, h1, sqL_mono (fz_new hp) h2⟩
    | pl a φ =>
      obtain ⟨h1, h2, ns, h3, h4⟩ := q
      exact ⟨h1, List.mem_cons_of_mem _ h2, ns, h3, same_new hp _ _ h4⟩
  · rcases List.mem_cons.mp hb with rfl | hb
    · exact ⟨o, upd_same⟩
    · obtain ⟨u, e⟩ := h.dom b hb
      exact ⟨u, same_new hp _ _ e⟩
/-- a name stored -/
theorem EnvOk.set_no {i : Nat} {o : Option V} {s : Sl} (h : EnvOk K M env σ H) (hs : s.own = false) (q : SlOk K M H o s) : EnvOk K M (env.set i s) (σ.set i o) H := by
  refine ⟨by rw [List.length_set, List.length_set]; exact h.len, fun j t ht => ?_, fun j k s1 s2 l h1 h2 o1 o2 h3 h4 => ?_, h.dom⟩
  · by_cases e : i = j
    · subst e
      have hi : i < env.length := by
        have z := (List.getElem?_eq_some_iff.mp ht).1
        rwa [List.length_set] at z
      rw [List.getElem?_set_self hi] at ht
      cases ht
      rw [List.getElem?_set_self (by rw [← h.len]; exact hi)]
      exact q
    · rw [List.getElem?_set_ne e] at ht
      rw [List.getElem?_set_ne e]
      exact h.sl j t ht
  · have ej : i ≠ j := fun e => by
      subst e
      have hi : i < env.length := by
        have z := (List.getElem?_eq_some_iff.mp h1).1
        rwa [List.length_set] at z
      rw [List.getElem?_set_self hi] at h1
      cases h1
      rw [hs] at o1
      cases o1
    have ek : i ≠ k := fun e => by
      subst e
      have hi : i < env.length := by
        have z := (List.getElem?_eq_some_iff.mp h2).1
        rwa [List.length_set] at z
      rw [List.getElem?_set_self hi] at h2
      cases h2
      rw [hs] at o2
      cases o2
    rw [List.getElem?_set_ne ej] at h1 h3
    rw [List.getElem?_set_ne ek] at h2 h4
    exact h.inj j k s1 s2 l h1 h2 o1 o2 h3 h4
/-- a new list given to a name: from now on it is the name's own -/
theorem EnvOk.set_ow {i : Nat} {p : Addr} {vs : List V} {ds : List PyData} (h : EnvOk K M env σ H) (hp : H p = none) (e : Same H H') (ep : H' p = some (.lst vs)) (l : RpL K (Fz (p :: M) H') vs ds) : EnvOk K (p :: M) (env.set i (.ow ds)) (σ.set i (some (.ref p))) H' := by
  have hM : p ∉ M := h.notin hp
  have up : Same (Fz M H) (Fz (p :: M) H') := fun b u e' => by
    obtain ⟨h1, h2⟩ := fz_some e'
    rw [fz_out (fun z => (List.mem_cons.mp z).elim (ne_of_none h2 hp) h1)]
    exact e _ _ h2
  refine ⟨by rw [List.length_set, List.length_set]; exact h.len, fun j t ht => ?_, fun j k s1 s2 l' h1 h2 o1 o2 h3 h4 => ?_, fun b hb => ?_⟩
  · by_cases ej : i = j
    · subst ej
      have hi : i < env.length := by
        have z := (List.getElem?_eq_some_iff.mp ht).1
        rwa [List.length_set] at z
      rw [List.getElem?_set_self hi] at ht
      cases ht
      rw [List.getElem?_set_self (by rw [← h.len]; exact hi)]
      exact ⟨p, vs, rfl, List.mem_cons_self, ep, l⟩
    · rw [List.getElem?_set_ne ej] at ht
      rw [List.getElem?_set_ne ej]
      have q := h.sl j t ht
      cases t with
      | no => trivial
      | fz d =>
        obtain ⟨v, h1, h2⟩ := q
        exact ⟨v, h1, h2.mono up⟩
      | ow ds =>
        obtain ⟨l, vs, h1, h2, h3, h4⟩ := q
        exact ⟨l, vs, h1, List.mem_cons_of_mem _ h2, e _ _ h3, h4.mono up⟩
      | sc ns =>
        obtain ⟨a, h1, h2⟩ := q
        exact ⟨a, h1, sqL_mono up h2⟩
      | pl a φ =>
        obtain ⟨h1, h2, ns, h3, h4⟩ := q
        exact ⟨h1, List.mem_cons_of_mem _ h2, ns, h3, e _ _ h4⟩
  · have fresh : ∀ {j : Nat} {s : Sl}, i ≠ j → env[j]? = some s → s.own = true → σ[j]? ≠ some (some (.ref p)) := fun {j s} ne he os hσ => by
      obtain ⟨l2, z1, z2⟩ := h.ownd he os
      rw [z1] at hσ
      cases hσ
      exact hM z2
    have same : ∀ {j : Nat}, i = j → (env.set i (.ow ds))[j]? = some s1 ∨ (env.set i (.ow ds))[j]? = some s2 → (σ.set i (some (.ref p)))[j]? = some (some (.ref p)) := fun {j} ne he => by
      subst ne
      have hi : i < env.length := by
        rcases he with z | z
        · have z := (List.getElem?_eq_some_iff.mp z).1
          rwa [List.length_set] at z
        · have z := (List.getElem?_eq_some_iff.mp z).1
          rwa [List.length_set] at z
      rw [List.getElem?_set_self (by rw [← h.len]; exact hi)]
    by_cases ej : i = j
    · by_cases ek : i = k
      · exact ej.symm.trans ek
      · have h3' := same ej (.inl h1)
        rw [h3'] at h3
        cases h3
        rw [List.getElem?_set_ne ek] at h2 h4
        exact absurd h4 (fresh ek h2 o2)
    · by_cases ek : i = k
      · have h4' := same ek (.inr h2)
        rw [h4'] at h4
        cases h4
        rw [List.getElem?_set_ne ej] at h1 h3
        exact absurd h3 (fresh ej h1 o1)
      · rw [List.getElem?_set_ne ej] at h1 h3
        rw [List.getElem?_set_ne ek] at h2 h4
        exact h.inj j k s1 s2 l' h1 h2 o1 o2 h3 h4
  · rcases List.mem_cons.mp hb with rfl | hb
    · exact ⟨_, ep⟩
    · obtain ⟨u, eu⟩ := h.dom b hb
      exact ⟨u, e _ _ eu⟩
/-- the name's own list changes -/
theorem EnvOk.mutate {i : Nat} {p : Addr} {vs : List V} {ds ds' : List PyData} (h : EnvOk K M env σ H) (he : env[i]? = some (.ow ds)) (hσ : σ[i]? = some (some (.ref p))) (hp : p ∈ M) (l : RpL K (Fz M H) vs ds') :
    EnvOk K M (env.set i (.ow ds')) σ (upd H p (.lst vs)) := by
  have hi : i < env.length := (List.getElem?_eq_some_iff.mp he).1
  refine ⟨by rw [List.length_set]; exact h.len, fun j t ht => ?_, fun j k s1 s2 l' h1 h2 o1 o2 h3 h4 => ?_, fun b hb => ?_⟩
  · by_cases ej : i = j
    · subst ej
      rw [List.getElem?_set_self hi] at ht
      cases ht
      rw [hσ]
      exact ⟨p, vs, rfl, hp, upd_same, by rw [fz_upd hp]; exact l⟩
    · rw [List.getElem?_set_ne ej] at ht
      have q := h.sl j t ht
      cases t with
      | no => trivial
      | fz d =>
        obtain ⟨v, h1, h2⟩ := q
        exact ⟨v, h1, by rw [fz_upd hp]; exact h2⟩
      | ow es =>
        obtain ⟨l2, vs2, z1, z2, z3, z4⟩ := h.own ht
        rw [z1]
        refine ⟨l2, vs2, rfl, z2, ?_, by rw [fz_upd hp]; exact z4⟩
        rw [upd_ne]
        · exact z3
        · rintro rfl
          exact ej (h.inj i j _ _ _ he ht rfl rfl hσ z1)
      | sc ns =>
        obtain ⟨a, h1, h2⟩ := q
        exact ⟨a, h1, by rw [fz_upd hp]; exact h2⟩
      | pl a φ =>
        obtain ⟨z1, z2, ns, z3, z4⟩ := h.adr ht
        rw [z1]
        refine ⟨rfl, z2, ns, z3, ?_⟩
        rw [upd_ne]
        · exact z4
        · rintro rfl
          exact ej (h.inj i j _ _ _ he ht rfl rfl hσ z1)
  · have old : ∀ {j : Nat} {s : Sl}, (env.set i (.ow ds'))[j]? = some s → s.own = true → ∃ s', env[j]? = some s' ∧ s'.own = true := fun {j s} z os => by
      by_cases ej : i = j
      · subst ej
        exact ⟨_, he, rfl⟩
      · rw [List.getElem?_set_ne ej] at z
        exact ⟨s, z, os⟩
    obtain ⟨e1, z1, u1⟩ := old h1 o1
    obtain ⟨e2, z2, u2⟩ := old h2 o2
    exact h.inj j k e1 e2 l' z1 z2 u1 u2 h3 h4
  · by_cases e : b = p
    · subst e
      exact ⟨_, upd_same⟩
    · obtain ⟨u, eu⟩ := h.dom b hb
      exact ⟨u, by rw [upd_ne e]; exact eu⟩
/-- the name's own list stays from now on -/
theorem EnvOk.freeze {i : Nat} {p : Addr} {ds : List PyData} (h : EnvOk K M env σ H) (he : env[i]? = some (.ow ds)) (hσ : σ[i]? = some (some (.ref p))) :
    EnvOk K (M.filter fun b => decide (b ≠ p)) (env.set i (.fz (.list ds))) σ H := by
  have hi : i < env.length := (List.getElem?_eq_some_iff.mp he).1
  have sub : Same (Fz M H) (Fz (M.filter fun b => decide (b ≠ p)) H) := fz_sub fun b hb => (List.mem_filter.mp hb).1
  refine ⟨by rw [List.length_set]; exact h.len, fun j t ht => ?_, fun j k s1 s2 l' h1 h2 o1 o2 h3 h4 => ?_, fun b hb => h.dom b (List.mem_filter.mp hb).1⟩
  · by_cases ej : i = j
    · subst ej
      rw [List.getElem?_set_self hi] at ht
      cases ht
      obtain ⟨l2, vs2, z1, z2, z3, z4⟩ := h.own he
      rw [hσ] at z1
      cases z1
      rw [hσ]
      refine ⟨.ref p, rfl, .lst ?_ (z4.mono sub)⟩
      rw [fz_out fun z => by
        have z2 := (List.mem_filter.mp z).2
        simp at z2]
      exact z3
    · rw [List.getElem?_set_ne ej] at ht
      have q := h.sl j t ht
      cases t with
      | no => trivial
      | fz d =>
        obtain ⟨v, h1, h2⟩ := q
        exact ⟨v, h1, h2.mono sub⟩
      | ow es =>
        obtain ⟨l2, vs2, z1, z2, z3, z4⟩ := h.own ht
        rw [z1]
        refine ⟨l2, vs2, rfl, List.mem_filter.mpr ⟨z2, decide_eq_true ?_⟩, z3, z4.mono sub⟩
        rintro rfl
        exact ej (h.inj i j _ _ _ he ht rfl rfl hσ z1)
      | sc ns =>
        obtain ⟨a, h1, h2⟩ := q
        exact ⟨a, h1, sqL_mono sub h2⟩
      | pl a φ =>
        obtain ⟨z1, z2, ns, z3, z4⟩ := h.adr ht
        rw [z1]
        refine ⟨rfl, List.mem_filter.mpr ⟨z2, decide_eq_true ?_⟩, ns, z3, z4⟩
        rintro rfl
        exact ej (h.inj i j _ _ _ he ht rfl rfl hσ z1)
  · have old : ∀ {j : Nat} {s : Sl}, (env.set i (.fz (.list ds)))[j]? = some s → s.own = true → env[j]? = some s := fun {j s} z os => by
      by_cases ej : i = j
      · subst ej
        rw [List.getElem?_set_self hi] at z
        cases z
        cases os
      · rwa [List.getElem?_set_ne ej] at z
    exact h.inj j k _ _ l' (old h1 o1) (old h2 o2) o1 o2 h3 h4
end
end Dl

namespace Dl
open PySem PySem.Spec PyProof.Rows L2

/-! ### the judgements, over what the machine does -/
def wE (X : Cx) (e : Expr) : TE := fun σ H Q => ∀ pins s, Inv X pins σ H s → wpAny (model X.prog X.w) X.A (eval e X.env) (EP X pins σ Q) X.xe s
def wT (X : Cx) (e : Expr) : TT := fun σ H Q => ∀ pins s, Inv X pins σ H s → wpAny (model X.prog X.w) X.A (isTrue e X.env (eval e X.env)) (TP X pins σ Q) X.xe s
def wW (X : Cx) (e : Expr) : TT := fun σ H Q => ∀ whole pins s, Inv X pins σ H s → wpAny (model X.prog X.w) X.A (isTrue e X.env whole) (TP X pins σ Q) X.xe s
def wA (X : Cx) (es : List Expr) : TA := fun σ H Q => ∀ pos pins s, Inv X pins σ H s → wpAny (model X.prog X.w) X.A (spliced (backTo pos (starEach es X.env))) (AP X pins σ Q) X.xe s
def wS (X : Cx) (st : Stmt) : TS := fun D σ H => ∀ pins s, Inv X pins σ H s → wpAny (model X.prog X.w) X.A (exec st X.env) (SP X pins D) X.xe s
def wSs (X : Cx) (st : List Stmt) : TS := fun D σ H => ∀ pins s, Inv X pins σ H s → wpAny (model X.prog X.w) X.A (execs st X.env) (SP X pins D) X.xe s
section
variable {X : Cx} {e : Expr} {es : List Expr} {st : Stmt} {sts : List Stmt} {σ : L2.St} {H : Hp}
theorem pe_w : PE X e (wE X e) := ⟨fun pins s _ _ _ I h => h pins s I⟩
theorem pt_w : PT X e (wT X e) := ⟨fun pins s _ _ _ I h => h pins s I⟩
theorem pw_w : PW X e (wW X e) := ⟨fun wh pins s _ _ _ I h => h wh pins s I⟩
theorem pa_w : PA X es (wA X es) := ⟨fun pos pins s _ _ _ I h => h pos pins s I⟩
theorem ps_w : PS X st (wS X st) := ⟨fun pins s _ _ _ I h => h pins s I⟩
theorem pss_w : PSs X sts (wSs X sts) := ⟨fun pins s _ _ _ I h => h pins s I⟩
theorem wE.of {t : TE} {Q : VK} (p : PE X e t) (h : t σ H Q) : wE X e σ H Q := fun pins s I => p.run pins s σ H Q I h
theorem wT.of {t : TT} {Q : Bool → Hp → Prop} (p : PT X e t) (h : t σ H Q) : wT X e σ H Q := fun pins s I => p.run pins s σ H Q I h
theorem wW.of {t : TT} {Q : Bool → Hp → Prop} (p : PW X e t) (h : t σ H Q) : wW X e σ H Q := fun wh pins s I => p.run wh pins s σ H Q I h
theorem wA.of {t : TA} {Q : List V → Hp → Prop} (p : PA X es t) (h : t σ H Q) : wA X es σ H Q := fun pos pins s I => p.run pos pins s σ H Q I h
theorem wS.of {t : TS} {D : Ends} (p : PS X st t) (h : t D σ H) : wS X st D σ H := fun pins s I => p.run pins s σ H D I h
theorem wSs.of {t : TS} {D : Ends} (p : PSs X sts t) (h : t D σ H) : wSs X sts D σ H := fun pins s I => p.run pins s σ H D I h
theorem wE.mono {Q Q' : VK} (h : wE X e σ H Q) (k : ∀ v H', Q v H' → Q' v H') : wE X e σ H Q' := fun pins s I =>
  thn (h pins s I) fun _ _ ⟨v, H', I', r, q⟩ => ⟨v, H', I', r, k v H' q⟩
end

/-! ### over data -/
def dE (X : Cx) (e : Expr) (env : List Sl) (r : Rs) : Prop := ∀ M σ H, EnvOk X.K M env σ H → ∀ Q : VK, (∀ v H', Same H H' → RvOk X.K M H H' v r → Q v H') → wE X e σ H Q
def dR (X : Cx) (e : Expr) (env : List Sl) (d : PyData) : Prop := ∀ M σ H, EnvOk X.K M env σ H → ∀ Q : VK, (∀ v H', Same H H' → RdOk X.K M H' v d → Q v H') → wE X e σ H Q
def dT (X : Cx) (e : Expr) (env : List Sl) (b : Bool) : Prop := ∀ M σ H, EnvOk X.K M env σ H → ∀ Q : Bool → Hp → Prop, (∀ H', Same H H' → Q b H') → wT X e σ H Q
def dW (X : Cx) (e : Expr) (env : List Sl) (b : Bool) : Prop := ∀ M σ H, EnvOk X.K M env σ H → ∀ Q : Bool → Hp → Prop, (∀ H', Same H H' → Q b H') → wW X e σ H Q
def dA (X : Cx) (es : List Expr) (env : List Sl) (ds : List PyData) : Prop := ∀ M σ H, EnvOk X.K M env σ H → ∀ Q : List V → Hp → Prop, (∀ vs H', Same H H' → RpL X.K (Fz M H') vs ds → Q vs H') → wA X es σ H Q
/-- arguments that are read alone -/
def dAr (X : Cx) (es : List Expr) (env : List Sl) (ds : List PyData) : Prop := ∀ M σ H, EnvOk X.K M env σ H → ∀ Q : List V → Hp → Prop, (∀ vs H', Same H H' → vs.length = ds.length → (∀ (i : Nat) v d, vs[i]? = some v → ds[i]? = some d → RdOk X.K M H' v d) → Q vs H') → wA X es σ H Q
/-- a comparison -/
def dC (X : Cx) (op : CmpOp) (a b : Expr) (env : List Sl) (k : Bool) : Prop := ∃ r : R2, OpR X (compareOp op) r ∧ behindInMarks op b = false ∧
  ∀ M σ H, EnvOk X.K M env σ H → ∀ Q : VK, (∀ H', Same H H' → Q (.bl k) H') → wE X a σ H fun x H1 => wE X b σ H1 fun y H2 => r x y H2 Q

section
variable {X : Cx} {e a b c : Expr} {es : List Expr} {env : List Sl} {r : Rs} {d : PyData} {ds : List PyData} {pos : Pos} {i j : Int} {k k' : Bool}
theorem dE.is {r' : Rs} (h : dE X e env r) (q : r = r') : dE X e env r' := q ▸ h
theorem dR.is {d' : PyData} (h : dR X e env d) (q : d = d') : dR X e env d' := q ▸ h
theorem dT.is (h : dT X e env k) (q : k = k') : dT X e env k' := q ▸ h
theorem dR_of (h : dE X e env r) : dR X e env r.data := fun M σ H ok Q q => h M σ H ok Q fun v H' e' rv => q v H' e' (.inl rv.data)
theorem dR_fz (h : dE X e env (.fz d)) : dR X e env d := dR_of h
theorem dR_fr (h : dE X e env (.fr ds)) : dR X e env (.list ds) := dR_of h
theorem dE_fz (h : dE X e env (.fr ds)) : dE X e env (.fz (.list ds)) := fun M σ H ok Q q => h M σ H ok Q fun v H' e' rv => q v H' e' rv.data
theorem dE_name {n : Nat} {x : Str} (he : env[n]? = some (.fz d)) (hN : X.N[n]? = some x) (hv : Vis X.env.scope x) (hd : (x == ("__debug__" : Str)) = false := by decide)
    (hcd : (x == ("__classdict__" : Str)) = false := by decide) : dE X (.Name x pos) env (.fz d) := fun M σ H ok Q q => by
  obtain ⟨v, h1, h2⟩ := ok.slot he
  exact wE.of (pe_var hN hv hd hcd) ⟨v, h1, q v H (Same.refl H) h2⟩
theorem dR_own {n : Nat} {x : Str} (he : env[n]? = some (.ow ds)) (hN : X.N[n]? = some x) (hv : Vis X.env.scope x) (hd : (x == ("__debug__" : Str)) = false := by decide)
    (hcd : (x == ("__classdict__" : Str)) = false := by decide) : dR X (.Name x pos) env (.list ds) := fun M σ H ok Q q => by
  obtain ⟨l, vs, h1, h2, h3, h4⟩ := ok.own he
  exact wE.of (pe_var hN hv hd hcd) ⟨_, h1, q _ H (Same.refl H) (.inr ⟨ds, l, vs, rfl, rfl, h3, h4⟩)⟩
theorem dE_v {v : V} {t : TE} (p : PE X e t) (ht : ∀ σ H Q, Q v H → t σ H Q) (hr : ∀ H, Rp X.K H v d) : dE X e env (.fz d) := fun M σ H ok Q q => wE.of p (ht σ H Q (q v H (Same.refl H) (hr _)))
theorem dE_int {m : Int} {z : Nat} : dE X (.Constant (.int m) z pos) env (.fz (.int m)) := dE_v pe_int (fun _ _ _ q => q) fun _ => .int m
theorem dE_bool {m : Bool} {z : Nat} : dE X (.Constant (.bool m) z pos) env (.fz (.bool m)) := dE_v pe_bl (fun _ _ _ q => q) fun _ => .bl m
theorem dE_none {z : Nat} : dE X (.Constant .none z pos) env (.fz .none) := dE_v pe_non (fun _ _ _ q => q) fun _ => .non
theorem dE_str {m : Str} {z : Nat} : dE X (.Constant (.str m) z pos) env (.fz (.str m)) := dE_v pe_str (fun _ _ _ q => q) fun _ => .str m
/-- a constant of the module -/
theorem dE_gint {x : Str} {m : Int} (hg : Gl X x) (hm : ∃ t, X.mg x = some (.int m t)) (hd : (x == ("__debug__" : Str)) = false := by decide) : dE X (.Name x pos) env (.fz (.int m)) := by
  obtain ⟨t, ht⟩ := hm
  exact dE_v (pe_glob (v := .int m) hg ht ⟨t, rfl⟩ hd) (fun _ _ _ q => q) fun _ => .int m

/-! ### arithmetic -/
theorem dE_int2 {op : Operator} {f : R2} {z : Int} (ho : OpR X (binaryOp op) f) (ha : dE X a env (.fz (.int i))) (hb : dE X b env (.fz (.int j))) (hf : ∀ H Q, Q (.int z) H → f (.int i) (.int j) H Q) : dE X (.BinOp a op b pos) env (.fz (.int z)) := fun M σ H ok Q q => by
  refine wE.of (pe_op ho pe_w pe_w) (ha M σ H ok _ fun v H1 e1 r1 => hb M σ H1 (ok.mono e1) _ fun u H2 e2 r2 => ?_)
  rw [Rp.int_v r1, Rp.int_v r2]
  exact hf H2 _ (q _ H2 (e1.trans e2) (.int z))
theorem dE_add (ha : dE X a env (.fz (.int i))) (hb : dE X b env (.fz (.int j))) : dE X (.BinOp a .Add b pos) env (.fz (.int (i + j))) := dE_int2 op_add ha hb fun _ _ q => ⟨i, j, rfl, rfl, q⟩
theorem dE_sub (ha : dE X a env (.fz (.int i))) (hb : dE X b env (.fz (.int j))) : dE X (.BinOp a .Sub b pos) env (.fz (.int (i - j))) := dE_int2 op_sub ha hb fun _ _ q => ⟨i, j, rfl, rfl, q⟩
theorem dE_mul (ha : dE X a env (.fz (.int i))) (hb : dE X b env (.fz (.int j))) (h : CMul i j) : dE X (.BinOp a .Mult b pos) env (.fz (.int (i * j))) := dE_int2 op_mul ha hb fun _ _ q => ⟨i, j, rfl, rfl, h, q⟩
theorem dE_fdiv (ha : dE X a env (.fz (.int i))) (hb : dE X b env (.fz (.int j))) (h : CDiv i j) : dE X (.BinOp a .FloorDiv b pos) env (.fz (.int (i / j))) := dE_int2 op_fdiv ha hb fun _ _ q => ⟨i, j, rfl, rfl, h, q⟩
theorem dE_mod (ha : dE X a env (.fz (.int i))) (hb : dE X b env (.fz (.int j))) (h : 0 < j) : dE X (.BinOp a .Mod b pos) env (.fz (.int (i % j))) := dE_int2 op_mod ha hb fun _ _ q => ⟨i, j, rfl, rfl, h, q⟩
theorem dE_pow (ha : dE X a env (.fz (.int i))) (hb : dE X b env (.fz (.int j))) (h : CPow i j) : dE X (.BinOp a .Pow b pos) env (.fz (.int (i ^ j.toNat))) := dE_int2 op_pow ha hb fun _ _ q => ⟨i, j, rfl, rfl, h, q⟩
theorem dE_neg (ha : dE X a env (.fz (.int i))) : dE X (.UnaryOp .USub a pos) env (.fz (.int (-i))) := fun M σ H ok Q q => by
  refine wE.of (pe_un un_neg pe_w) (ha M σ H ok _ fun v H1 e1 r1 => ?_)
  rw [Rp.int_v r1]
  exact ⟨i, rfl, q _ H1 e1 (.int _)⟩
/-- two lists, one behind the other: a new one -/
theorem dE_cat {ds es : List PyData} (ha : dR X a env (.list ds)) (hb : dR X b env (.list es)) (h : ds.length + es.length ≤ 100000) : dE X (.BinOp a .Add b pos) env (.fr (ds ++ es)) := fun M σ H ok Q q => by
  refine wE.of (pe_op op_cat pe_w pe_w) (ha M σ H ok _ fun v H1 e1 r1 => hb M σ H1 (ok.mono e1) _ fun u H2 e2 r2 => ?_)
  obtain ⟨p1, v1, rfl, h1, l1⟩ := (r1.mono e2).lst
  obtain ⟨p2, v2, rfl, h2, l2⟩ := r2.lst
  refine ⟨p1, p2, v1, v2, rfl, rfl, h1, h2, ?_, fun p hp => ?_⟩
  · rw [l1.length, l2.length]
    exact Nat.le_trans h (by decide)
  · refine q _ _ (e1.trans (e2.trans (same_new hp))) ⟨p, _, rfl, (e1.trans e2).free hp, ((ok.mono e1).mono e2).notin hp, upd_same, ?_⟩
    exact (l1.append l2).mono (fz_new hp)
/-- a list so many times -/
theorem dE_rep {ds : List PyData} (ha : dR X a env (.list ds)) (hb : dE X b env (.fz (.int j))) (h0 : 0 ≤ j) (h : ds.length * j.toNat ≤ 100000) (h2 : j ≤ 100000) : dE X (.BinOp a .Mult b pos) env (.fr (List.replicate j.toNat ds).flatten) := fun M σ H ok Q q => by
  refine wE.of (pe_op op_rep pe_w pe_w) (ha M σ H ok _ fun v H1 e1 r1 => hb M σ H1 (ok.mono e1) _ fun u H2 e2 r2 => ?_)
  obtain ⟨p1, v1, rfl, h1, l1⟩ := (r1.mono e2).lst
  rw [Rp.int_v r2]
  refine ⟨p1, j, v1, rfl, rfl, h1, by omega, by omega, ?_, fun p hp => ?_⟩
  · rw [l1.length]
    exact Nat.le_trans h (by decide)
  · refine q _ _ (e1.trans (e2.trans (same_new hp))) ⟨p, _, rfl, (e1.trans e2).free hp, ((ok.mono e1).mono e2).notin hp, upd_same, ?_⟩
    refine RpL.mono (fz_new hp) ?_
    generalize j.toNat = n
    induction n with
    | zero => exact .nil
    | succ n ih => exact l1.append ih

/-! ### comparisons -/
theorem dE_cmp {op : CmpOp} (h : dC X op a b env k) : dE X (.Compare a [op] [b] pos) env (.fz (.bool k)) := fun M σ H ok Q q => by
  obtain ⟨f, ho, hm, hf⟩ := h
  exact wE.of (pe_cmpR ho pe_w pe_w hm) (hf M σ H ok _ fun H' e => q _ H' e (.bl k))
theorem dT_cmp {op : CmpOp} (h : dC X op a b env k) : dT X (.Compare a [op] [b] pos) env k := fun M σ H ok Q q => by
  obtain ⟨f, ho, hm, hf⟩ := h
  exact wT.of (pt_cmpR ho pe_w pe_w hm) (hf M σ H ok _ fun H' e => ⟨k, rfl, q H' e⟩)
theorem dC_i {op : CmpOp} {g : Int → Int → Bool} (ho : OpR X (compareOp op) (rI0 fun i j => .bl (g i j))) (hm : behindInMarks op b = false) (ha : dE X a env (.fz (.int i))) (hb : dE X b env (.fz (.int j))) : dC X op a b env (g i j) :=
  ⟨_, ho, hm, fun M σ H ok Q q => ha M σ H ok _ fun v H1 e1 r1 => hb M σ H1 (ok.mono e1) _ fun u H2 e2 r2 => by
    rw [Rp.int_v r1, Rp.int_v r2]
    exact ⟨i, j, rfl, rfl, q H2 (e1.trans e2)⟩⟩
theorem dC_lt (ha : dE X a env (.fz (.int i))) (hb : dE X b env (.fz (.int j))) : dC X .Lt a b env (decide (i < j)) := dC_i (g := fun i j => decide (i < j)) op_lt (nomark _) ha hb
theorem dC_le (ha : dE X a env (.fz (.int i))) (hb : dE X b env (.fz (.int j))) : dC X .LtE a b env (decide (i ≤ j)) := dC_i (g := fun i j => decide (i ≤ j)) op_le (nomark _) ha hb
theorem dC_gt (ha : dE X a env (.fz (.int i))) (hb : dE X b env (.fz (.int j))) : dC X .Gt a b env (decide (j < i)) := dC_i (g := fun i j => decide (j < i)) op_gt (nomark _) ha hb
theorem dC_ge (ha : dE X a env (.fz (.int i))) (hb : dE X b env (.fz (.int j))) : dC X .GtE a b env (decide (j ≤ i)) := dC_i (g := fun i j => decide (j ≤ i)) op_ge (nomark _) ha hb
theorem dC_eqi (ha : dE X a env (.fz (.int i))) (hb : dE X b env (.fz (.int j))) : dC X .Eq a b env (decide (i = j)) :=
  ⟨_, op_eq, nomark _, fun M σ H ok Q q => ha M σ H ok _ fun v H1 e1 r1 => hb M σ H1 (ok.mono e1) _ fun u H2 e2 r2 => by
    rw [Rp.int_v r1, Rp.int_v r2]
    refine ⟨rfl, ?_⟩
    rw [show decide (V.int i = V.int j) = decide (i = j) from decide_eq_decide.mpr ⟨fun h => V.int.inj h, fun h => by rw [h]⟩]
    exact q H2 (e1.trans e2)⟩
theorem dC_nei (ha : dE X a env (.fz (.int i))) (hb : dE X b env (.fz (.int j))) : dC X .NotEq a b env (!decide (i = j)) :=
  ⟨_, op_ne, nomark _, fun M σ H ok Q q => ha M σ H ok _ fun v H1 e1 r1 => hb M σ H1 (ok.mono e1) _ fun u H2 e2 r2 => by
    rw [Rp.int_v r1, Rp.int_v r2]
    refine ⟨rfl, ?_⟩
    rw [show decide (V.int i = V.int j) = decide (i = j) from decide_eq_decide.mpr ⟨fun h => V.int.inj h, fun h => by rw [h]⟩]
    exact q H2 (e1.trans e2)⟩
theorem dC_eqb (ha : dE X a env (.fz (.bool k))) (hb : dE X b env (.fz (.bool k'))) : dC X .Eq a b env (k == k') :=
  ⟨_, op_eq, nomark _, fun M σ H ok Q q => ha M σ H ok _ fun v H1 e1 r1 => hb M σ H1 (ok.mono e1) _ fun u H2 e2 r2 => by
    rw [Rp.bl_v r1, Rp.bl_v r2]
    refine ⟨rfl, ?_⟩
    rw [show decide (V.bl k = V.bl k') = (k == k') by cases k <;> cases k' <;> rfl]
    exact q H2 (e1.trans e2)⟩
theorem dC_neb (ha : dE X a env (.fz (.bool k))) (hb : dE X b env (.fz (.bool k'))) : dC X .NotEq a b env (!(k == k')) :=
  ⟨_, op_ne, nomark _, fun M σ H ok Q q => ha M σ H ok _ fun v H1 e1 r1 => hb M σ H1 (ok.mono e1) _ fun u H2 e2 r2 => by
    rw [Rp.bl_v r1, Rp.bl_v r2]
    refine ⟨rfl, ?_⟩
    rw [show decide (V.bl k = V.bl k') = (k == k') by cases k <;> cases k' <;> rfl]
    exact q H2 (e1.trans e2)⟩
theorem dC_eqs {x y : Str} (ha : dE X a env (.fz (.str x))) (hb : dE X b env (.fz (.str y))) : dC X .Eq a b env (decide (x = y)) :=
  ⟨_, op_eq, nomark _, fun M σ H ok Q q => ha M σ H ok _ fun v H1 e1 r1 => hb M σ H1 (ok.mono e1) _ fun u H2 e2 r2 => by
    rw [Rp.str_v r1, Rp.str_v r2]
    refine ⟨rfl, ?_⟩
    rw [show decide (V.str x = V.str y) = decide (x = y) from decide_eq_decide.mpr ⟨fun h => V.str.inj h, fun h => by rw [h]⟩]
    exact q H2 (e1.trans e2)⟩
theorem dC_nes {x y : Str} (ha : dE X a env (.fz (.str x))) (hb : dE X b env (.fz (.str y))) : dC X .NotEq a b env (!decide (x = y)) :=
  ⟨_, op_ne, nomark _, fun M σ H ok Q q => ha M σ H ok _ fun v H1 e1 r1 => hb M σ H1 (ok.mono e1) _ fun u H2 e2 r2 => by
    rw [Rp.str_v r1, Rp.str_v r2]
    refine ⟨rfl, ?_⟩
    rw [show decide (V.str x = V.str y) = decide (x = y) from decide_eq_decide.mpr ⟨fun h => V.str.inj h, fun h => by rw [h]⟩]
    exact q H2 (e1.trans e2)⟩
/-- == of data of any depth -/
theorem dC_eq {d1 d2 : PyData} (hu : X.A.units + 64 < cLine) (ha : dR X a env d1) (hb : dR X b env d2) (s1 : SeqAt.shaped d1 = true) (s2 : SeqAt.shaped d2 = true) : dC X .Eq a b env (PyData.eqv d1 d2) :=
  ⟨_, op_eqD hu, nomark _, fun M σ H ok Q q => ha M σ H ok _ fun v H1 e1 r1 => hb M σ H1 (ok.mono e1) _ fun u H2 e2 r2 => ⟨d1, d2, (r1.mono e2).rp.dp, r2.rp.dp, s1, s2, q H2 (e1.trans e2)⟩⟩
theorem dC_ne {d1 d2 : PyData} (hu : X.A.units + 64 < cLine) (ha : dR X a env d1) (hb : dR X b env d2) (s1 : SeqAt.shaped d1 = true) (s2 : SeqAt.shaped d2 = true) : dC X .NotEq a b env (!PyData.eqv d1 d2) :=
  ⟨_, op_neD hu, nomark _, fun M σ H ok Q q => ha M σ H ok _ fun v H1 e1 r1 => hb M σ H1 (ok.mono e1) _ fun u H2 e2 r2 => ⟨d1, d2, (r1.mono e2).rp.dp, r2.rp.dp, s1, s2, q H2 (e1.trans e2)⟩⟩
theorem dC_is (ha : dR X a env d) (hb : dE X b env (.fz .none)) : dC X .Is a b env (isNone d) :=
  ⟨_, op_isN, nomark _, fun M σ H ok Q q => ha M σ H ok _ fun v H1 e1 r1 => hb M σ H1 (ok.mono e1) _ fun u H2 e2 r2 => by
    cases r2
    refine ⟨rfl, ?_⟩
    rw [r1.rp.non_iff]
    exact q H2 (e1.trans e2)⟩
theorem dC_isnot (ha : dR X a env d) (hb : dE X b env (.fz .none)) : dC X .IsNot a b env (!isNone d) :=
  ⟨_, op_notN, nomark _, fun M σ H ok Q q => ha M σ H ok _ fun v H1 e1 r1 => hb M σ H1 (ok.mono e1) _ fun u H2 e2 r2 => by
    cases r2
    refine ⟨rfl, ?_⟩
    rw [r1.rp.non_iff]
    exact q H2 (e1.trans e2)⟩
/-- an int among ints -/
theorem inV_int {i : Int} {ns : List Int} : inV (.int i) (ns.map V.int) = decide (i ∈ ns) := by
  unfold inV
  rw [List.any_map]
  induction ns with
  | nil => rfl
  | cons n ns ih =>
    rw [List.any_cons, ih]
    show (n == i || _) = _
    rw [Bool.eq_iff_iff]
    simp only [Bool.or_eq_true, beq_iff_eq, decide_eq_true_eq, List.mem_cons]
    exact ⟨fun h => h.imp Eq.symm id, fun h => h.imp Eq.symm id⟩
theorem flat_ints (ns : List Int) : (ns.map V.int).all flatV = true := by
  rw [List.all_map, List.all_eq_true]
  intro _ _
  rfl
theorem dC_ini {ns : List Int} (ha : dE X a env (.fz (.int i))) (hb : dR X b env (.list (ns.map PyData.int))) (hm : behindInMarks .In b = false) : dC X .In a b env (decide (i ∈ ns)) :=
  ⟨_, op_in_seq, hm, fun M σ H ok Q q => ha M σ H ok _ fun v H1 e1 r1 => hb M σ H1 (ok.mono e1) _ fun u H2 e2 r2 => by
    obtain ⟨p, vs, rfl, h1, h2⟩ := r2.lst
    rw [Rp.int_v r1]
    have ev := h2.int_of
    subst ev
    refine ⟨p, _, rfl, .inl (SqL.of h1), rfl, flat_ints _, ?_⟩
    rw [if_neg Bool.false_ne_true, inV_int]
    exact q H2 (e1.trans e2)⟩
theorem dC_niti {ns : List Int} (ha : dE X a env (.fz (.int i))) (hb : dR X b env (.list (ns.map PyData.int))) (hm : behindInMarks .NotIn b = false) : dC X .NotIn a b env (!decide (i ∈ ns)) :=
  ⟨_, op_notIn_seq, hm, fun M σ H ok Q q => ha M σ H ok _ fun v H1 e1 r1 => hb M σ H1 (ok.mono e1) _ fun u H2 e2 r2 => by
    obtain ⟨p, vs, rfl, h1, h2⟩ := r2.lst
    rw [Rp.int_v r1]
    have ev := h2.int_of
    subst ev
    refine ⟨p, _, rfl, .inl (SqL.of h1), rfl, flat_ints _, ?_⟩
    rw [if_pos rfl, inV_int]
    exact q H2 (e1.trans e2)⟩

/-! ### tests -/
theorem dT_val (h : dE X e env (.fz (.bool k))) (he : ∀ whole, isTrue e X.env whole = (do let v ← whole; standAt e.pos; holding [v] (truthy v))) : dT X e env k := fun M σ H ok Q q =>
  wT.of (pt_val pe_w he) (h M σ H ok _ fun v H1 e1 r1 => ⟨k, Rp.bl_v r1, q H1 e1⟩)
theorem dT_tru (h : dR X e env (.list ds)) (he : ∀ whole, isTrue e X.env whole = (do let v ← whole; standAt e.pos; holding [v] (truthy v))) : dT X e env (!ds.isEmpty) := fun M σ H ok Q q =>
  wT.of (pt_truth pe_w he) (h M σ H ok _ fun v H1 e1 r1 => by
    obtain ⟨p, vs, rfl, h1, h2⟩ := r1.lst
    refine ⟨_, .inl ⟨vs, SqL.of h1, rfl⟩, ?_⟩
    rw [show vs.isEmpty = ds.isEmpty by cases h2 <;> rfl]
    exact q H1 e1)
theorem dT_not (h : dT X a env k) : dT X (.UnaryOp .Not a pos) env (!k) := fun M σ H ok Q q => wT.of (pt_not pt_w) (h M σ H ok _ fun H1 e1 => q H1 e1)
theorem dE_not (h : dE X a env (.fz (.bool k))) : dE X (.UnaryOp .Not a pos) env (.fz (.bool (!k))) := fun M σ H ok Q q => wE.of (pe_not pe_w) (h M σ H ok _ fun v H1 e1 r1 => ⟨k, Rp.bl_v r1, q _ H1 e1 (.bl _)⟩)
theorem dT_of_dW (h : dW X e env k) : dT X e env k := fun M σ H ok Q q pins s I => h M σ H ok Q q _ pins s I
theorem dW_and1 (h : dT X a env k) : dW X (.BoolOp .And [a] pos) env k := fun M σ H ok Q q => wW.of (pw_and1 pt_w) (h M σ H ok _ fun H1 e1 => q H1 e1)
theorem dW_or1 (h : dT X a env k) : dW X (.BoolOp .Or [a] pos) env k := fun M σ H ok Q q => wW.of (pw_or1 pt_w) (h M σ H ok _ fun H1 e1 => q H1 e1)
theorem dW_and (h : dT X a env k) (h2 : k = true → dW X (.BoolOp .And (b :: es) pos) env k') : dW X (.BoolOp .And (a :: b :: es) pos) env (k && k') := fun M σ H ok Q q =>
  wW.of (pw_and pt_w pw_w) (h M σ H ok _ fun H1 e1 => by
    cases k with
    | true => exact iteT (h2 rfl M σ H1 (ok.mono e1) _ fun H2 e2 => q H2 (e1.trans e2))
    | false => exact iteF (q H1 e1))
theorem dW_or (h : dT X a env k) (h2 : k = false → dW X (.BoolOp .Or (b :: es) pos) env k') : dW X (.BoolOp .Or (a :: b :: es) pos) env (k || k') := fun M σ H ok Q q =>
  wW.of (pw_or pt_w pw_w) (h M σ H ok _ fun H1 e1 => by
    cases k with
    | true => exact iteT (q H1 e1)
    | false => exact iteF (h2 rfl M σ H1 (ok.mono e1) _ fun H2 e2 => q H2 (e1.trans e2)))
theorem dE_bone {op : BoolOp} (h : dE X a env r) : dE X (.BoolOp op [a] pos) env r := fun M σ H ok Q q => wE.of (pe_one pe_w) (h M σ H ok Q q)
theorem dE_and (h : dE X a env (.fz (.bool k))) (h2 : k = true → dE X (.BoolOp .And (b :: es) pos) env (.fz (.bool k'))) : dE X (.BoolOp .And (a :: b :: es) pos) env (.fz (.bool (k && k'))) := fun M σ H ok Q q =>
  wE.of (pe_and pe_w pe_w) (h M σ H ok _ fun v H1 e1 r1 => ⟨k, Rp.bl_v r1, by
    cases k with
    | true => exact iteT (h2 rfl M σ H1 (ok.mono e1) _ fun u H2 e2 r2 => q u H2 (e1.trans e2) (r2.back e1))
    | false => exact iteF (q _ H1 e1 (.bl _))⟩)
theorem dE_or (h : dE X a env (.fz (.bool k))) (h2 : k = false → dE X (.BoolOp .Or (b :: es) pos) env (.fz (.bool k'))) : dE X (.BoolOp .Or (a :: b :: es) pos) env (.fz (.bool (k || k'))) := fun M σ H ok Q q =>
  wE.of (pe_or pe_w pe_w) (h M σ H ok _ fun v H1 e1 r1 => ⟨k, Rp.bl_v r1, by
    cases k with
    | true => exact iteT (q _ H1 e1 (.bl _))
    | false => exact iteF (h2 rfl M σ H1 (ok.mono e1) _ fun u H2 e2 r2 => q u H2 (e1.trans e2) (r2.back e1))⟩)
theorem dE_if {d1 d2 : PyData} (h : dT X c env k) (h1 : k = true → dE X a env (.fz d1)) (h2 : k = false → dE X b env (.fz d2)) : dE X (.IfExp c a b pos) env (.fz (if k = true then d1 else d2)) := fun M σ H ok Q q =>
  wE.of (pe_ifExp pt_w pe_w pe_w) (h M σ H ok _ fun H1 e1 => by
    cases k with
    | true => exact iteT (h1 rfl M σ H1 (ok.mono e1) _ fun u H2 e2 r2 => q u H2 (e1.trans e2) (r2.back e1))
    | false => exact iteF (h2 rfl M σ H1 (ok.mono e1) _ fun u H2 e2 r2 => q u H2 (e1.trans e2) (r2.back e1)))
theorem dE_ifi (h : dT X c env k) (h1 : k = true → dE X a env (.fz (.int i))) (h2 : k = false → dE X b env (.fz (.int j))) : dE X (.IfExp c a b pos) env (.fz (.int (if k = true then i else j))) :=
  (dE_if h h1 h2).is (by cases k <;> rfl)
/-- a <= b < c of ints -/
def goChain (op : CmpOp) (i j : Int) : Bool := match op with
  | .Lt => decide (i < j)
  | .LtE => decide (i ≤ j)
  | .Gt => decide (j < i)
  | .GtE => decide (j ≤ i)
  | _ => false
theorem op_chain {op : CmpOp} (h : (match op with | .Lt => true | .LtE => true | .Gt => true | .GtE => true | _ => false) = true) : OpR X (compareOp op) (rI0 fun i j => .bl (goChain op i j)) := by
  cases op <;> first | exact op_lt | exact op_le | exact op_gt | exact op_ge | (exact absurd h (by decide))
theorem dT_chain {op op' : CmpOp} {l : Int} (ha : dE X a env (.fz (.int i))) (hb : dE X b env (.fz (.int j))) (hc : dE X c env (.fz (.int l))) (h1 : (match op with | .Lt => true | .LtE => true | .Gt => true | .GtE => true | _ => false) = true) (h2 : (match op' with | .Lt => true | .LtE => true | .Gt => true | .GtE => true | _ => false) = true)
    (hm : lastMarks [op, op'] [b, c] = false) : dT X (.Compare a [op, op'] [b, c] pos) env (goChain op i j && goChain op' j l) := fun M σ H ok Q q => by
  refine wT.of (pt_chain (op_chain h1) (op_chain h2) pe_w pe_w pe_w hm) (ha M σ H ok _ fun v H1 e1 r1 => hb M σ H1 (ok.mono e1) _ fun u H2 e2 r2 => ?_)
  rw [Rp.int_v r1, Rp.int_v r2]
  refine ⟨i, j, rfl, rfl, _, rfl, ?_⟩
  generalize goChain op i j = k1 at q ⊢
  cases k1 with
  | false => exact iteF ⟨false, rfl, q H2 (e1.trans e2)⟩
  | true =>
    refine iteT (hc M σ H2 ((ok.mono e1).mono e2) _ fun w H3 e3 r3 => ?_)
    rw [Rp.int_v r3]
    exact ⟨j, l, rfl, rfl, _, rfl, q H3 ((e1.trans e2).trans e3)⟩
theorem dE_chain {op op' : CmpOp} {l : Int} (ha : dE X a env (.fz (.int i))) (hb : dE X b env (.fz (.int j))) (hc : dE X c env (.fz (.int l))) (h1 : (match op with | .Lt => true | .LtE => true | .Gt => true | .GtE => true | _ => false) = true) (h2 : (match op' with | .Lt => true | .LtE => true | .Gt => true | .GtE => true | _ => false) = true)
    (hm : lastMarks [op, op'] [b, c] = false) : dE X (.Compare a [op, op'] [b, c] pos) env (.fz (.bool (goChain op i j && goChain op' j l))) := fun M σ H ok Q q => by
  refine wE.of (pe_chain (op_chain h1) (op_chain h2) pe_w pe_w pe_w hm) (ha M σ H ok _ fun v H1 e1 r1 => hb M σ H1 (ok.mono e1) _ fun u H2 e2 r2 => ?_)
  rw [Rp.int_v r1, Rp.int_v r2]
  refine ⟨i, j, rfl, rfl, _, rfl, ?_⟩
  generalize goChain op i j = k1 at q ⊢
  cases k1 with
  | false => exact iteF (q _ H2 (e1.trans e2) (.bl _))
  | true =>
    refine iteT (hc M σ H2 ((ok.mono e1).mono e2) _ fun w H3 e3 r3 => ?_)
    rw [Rp.int_v r3]
    exact ⟨j, l, rfl, rfl, q _ H3 ((e1.trans e2).trans e3) (.bl _)⟩
end
end Dl

namespace Dl
open PySem PySem.Spec PyProof.Rows L2

section
variable {K : PySem.W.Frag} {M : List Addr} {H H0 H' : Hp} {env : List Sl} {σ : L2.St}
/-- a list that was made since may be written -/
theorem EnvOk.wide {p : Addr} {o : HO} (h : EnvOk K M env σ H) (hp : H p = none) (e : Same H H') (ep : H' p = some o) : EnvOk K (p :: M) env σ H' := by
  have up : Same (Fz M H) (Fz (p :: M) H') := fun b u e' => by
    obtain ⟨h1, h2⟩ := fz_some e'
    rw [fz_out (fun z => (List.mem_cons.mp z).elim (ne_of_none h2 hp) h1)]
    exact e _ _ h2
  refine ⟨h.len, fun i s hs => ?_, h.inj, fun b hb => ?_⟩
  · have q := h.sl i s hs
    cases s with
    | no => trivial
    | fz d =>
      obtain ⟨v, h1, h2⟩ := q
      exact ⟨v, h1, h2.mono up⟩
    | ow ds =>
      obtain ⟨l, vs, h1, h2, h3, h4⟩ := q
      exact ⟨l, vs, h1, List.mem_cons_of_mem _ h2, e _ _ h3, h4.mono up⟩
    | sc ns =>
      obtain ⟨a, h1, h2⟩ := q
      exact ⟨a, h1, sqL_mono up h2⟩
    | pl a φ =>
      obtain ⟨h1, h2, ns, h3, h4⟩ := q
      exact ⟨h1, List.mem_cons_of_mem _ h2, ns, h3, e _ _ h4⟩
  · rcases List.mem_cons.mp hb with rfl | hb
    · exact ⟨o, ep⟩
    · obtain ⟨u, eu⟩ := h.dom b hb
      exact ⟨u, e _ _ eu⟩
def wipeD (env : List Sl) : List Nat → List Sl
  | [] => env
  | v :: vs => (wipeD env vs).set v .no
theorem EnvOk.wiped (h : EnvOk K M env σ H) : ∀ vs : List Nat, EnvOk K M (wipeD env vs) (wipe σ vs) H
  | [] => h
  | v :: vs => (EnvOk.wiped h vs).set_no rfl trivial
end

/-! ### arguments, displays -/
section
variable {X : Cx} {e a b c : Expr} {es : List Expr} {env : List Sl} {r : Rs} {d : PyData} {ds : List PyData} {pos p : Pos} {i j : Int} {k k' : Bool}
theorem dA_nil : dA X [] env [] := fun M σ H ok Q q => wA.of pa_nil (q [] H (Same.refl H) .nil)
theorem dA_cons (h : dE X e env r) (hr : dA X es env ds) (hs : starEach (e :: es) X.env = (false, eval e X.env) :: starEach es X.env := by rfl) : dA X (e :: es) env (r.data :: ds) := fun M σ H ok Q q =>
  wA.of (pa_cons pe_w pa_w hs) (h M σ H ok _ fun v H1 e1 r1 => hr M σ H1 (ok.mono e1) _ fun vs H2 e2 r2 => q _ H2 (e1.trans e2) (.cons (r1.data.mono (fz_same e2)) r2))
theorem dAr_of (h : dA X es env ds) : dAr X es env ds := fun M σ H ok Q q => h M σ H ok Q fun vs H' e' l => q vs H' e' l.length fun i v d hv hd => by
  obtain ⟨d', h1, h2⟩ := l.get' hv
  rw [hd] at h1
  cases h1
  exact .inl h2
theorem dAr_nil : dAr X [] env [] := dAr_of dA_nil
theorem dAr_cons (h : dR X e env d) (hr : dAr X es env ds) (hs : starEach (e :: es) X.env = (false, eval e X.env) :: starEach es X.env := by rfl) : dAr X (e :: es) env (d :: ds) := fun M σ H ok Q q =>
  wA.of (pa_cons pe_w pa_w hs) (h M σ H ok _ fun v H1 e1 r1 => hr M σ H1 (ok.mono e1) _ fun vs H2 e2 hl r2 => q _ H2 (e1.trans e2) (congrArg (· + 1) hl) fun i w d' hw hd => by
    cases i with
    | zero =>
      cases hw
      cases hd
      exact r1.mono e2
    | succ i => exact r2 i w d' hw hd)
theorem dAr1 {P : V → Prop} {vs : List V} {Y : Nat → V → PyData → Prop} (hl : vs.length = [d].length) (r : ∀ (i : Nat) v e, vs[i]? = some v → [d][i]? = some e → Y i v e) : ∃ v, vs = [v] ∧ Y 0 v d := by
  match vs, hl with
  | [v], _ => exact ⟨v, rfl, r 0 v d rfl rfl⟩
theorem dAr2 {d2 : PyData} {vs : List V} {Y : Nat → V → PyData → Prop} (hl : vs.length = [d, d2].length) (r : ∀ (i : Nat) v e, vs[i]? = some v → [d, d2][i]? = some e → Y i v e) : ∃ v w, vs = [v, w] ∧ Y 0 v d ∧ Y 1 w d2 := by
  match vs, hl with
  | [v, w], _ => exact ⟨v, w, rfl, r 0 v d rfl rfl, r 1 w d2 rfl rfl⟩
theorem dE_tup {x1 : Nat} (h : dA X es env ds) (hl : ds.length ≤ 100000) : dE X (.Tuple es x1 pos) env (.fz (.tuple ds)) := fun M σ H ok Q q =>
  wE.of (pe_tup pa_w) (h M σ H ok _ fun vs H1 e1 l => ⟨Nat.le_trans (Nat.le_of_eq l.length) (Nat.le_trans hl (by decide)), fun t ht => q _ _ (e1.trans (same_new ht))
    (.tup (.inl (.inl (by rw [fz_out ((ok.mono e1).notin ht)]; exact upd_same))) (l.mono (fz_same (same_new ht))))⟩)
theorem dE_lst (h : dA X es env ds) (hl : ds.length ≤ 100000) : dE X (.List es pos) env (.fr ds) := fun M σ H ok Q q =>
  wE.of (pe_lst pa_w) (h M σ H ok _ fun vs H1 e1 l => ⟨Nat.le_trans (Nat.le_of_eq l.length) (Nat.le_trans hl (by decide)), fun t ht => q _ _ (e1.trans (same_new ht))
    ⟨t, vs, rfl, e1.free ht, (ok.mono e1).notin ht, upd_same, l.mono (fz_new ht)⟩⟩)

/-! ### items, slices -/
theorem atI_rel {K : PySem.W.Frag} {H : Hp} {vs : List V} {ds : List PyData} (l : RpL K H vs ds) (h : atI ds i = some d) : ∃ v, atI vs i = some v ∧ Rp K H v d := by
  unfold atI at h ⊢
  rw [l.length]
  cases q : ixN ds.length i with
  | none =>
    rw [q] at h
    cases h
  | some n =>
    rw [q] at h
    exact l.get h
theorem dE_ixL (ha : dR X a env (.list ds)) (hb : dE X b env (.fz (.int i))) (h : atI ds i = some d) (hs : PlainIx b) : dE X (.Subscript a b pos) env (.fz d) := fun M σ H ok Q q => by
  refine wE.of (pe_ix ix_list pe_w pe_w hs) (ha M σ H ok _ fun v H1 e1 r1 => hb M σ H1 (ok.mono e1) _ fun u H2 e2 r2 => ?_)
  obtain ⟨t, vs, rfl, h1, l⟩ := (r1.mono e2).lst
  rw [Rp.int_v r2]
  obtain ⟨w, h2, h3⟩ := atI_rel l h
  exact ⟨t, vs, i, w, rfl, rfl, SqL.of h1, h2, q w H2 (e1.trans e2) h3⟩
theorem dE_ixT (ha : dR X a env (.tuple ds)) (hb : dE X b env (.fz (.int i))) (h : atI ds i = some d) (hs : PlainIx b) : dE X (.Subscript a b pos) env (.fz d) := fun M σ H ok Q q => by
  refine wE.of (pe_ix ix_tup pe_w pe_w hs) (ha M σ H ok _ fun v H1 e1 r1 => hb M σ H1 (ok.mono e1) _ fun u H2 e2 r2 => ?_)
  obtain ⟨t, vs, rfl, h1, l⟩ := (r1.mono e2).tup
  rw [Rp.int_v r2]
  obtain ⟨w, h2, h3⟩ := atI_rel l h
  exact ⟨t, vs, i, w, rfl, rfl, h1, h2, q w H2 (e1.trans e2) h3⟩
theorem atI_map {α : Type} [Inhabited α] {xs : List α} {f : α → PyData} (h0 : 0 ≤ i) (h1 : i < xs.length) : atI (xs.map f) i = some (f (xs.getD i.toNat default)) := by
  have h2 : i.toNat < xs.length := by omega
  have e : i = ((i.toNat : Nat) : Int) := by omega
  have g : (xs.map f)[i.toNat]? = some (f (xs.getD i.toNat default)) := by
    rw [List.getElem?_map, List.getElem?_eq_getElem h2, List.getD_eq_getElem?_getD, List.getElem?_eq_getElem h2]
    rfl
  rw [e]
  exact atI_nat g
theorem dE_ixM {α : Type} [Inhabited α] {xs : List α} {f : α → PyData} (ha : dR X a env (.list (xs.map f))) (hb : dE X b env (.fz (.int i))) (h0 : 0 ≤ i) (h1 : i < xs.length) (hs : PlainIx b) : dE X (.Subscript a b pos) env (.fz (f (xs.getD i.toNat default))) :=
  dE_ixL ha hb (atI_map h0 h1) hs
theorem dE_ixTM {α : Type} [Inhabited α] {xs : List α} {f : α → PyData} (ha : dR X a env (.tuple (xs.map f))) (hb : dE X b env (.fz (.int i))) (h0 : 0 ≤ i) (h1 : i < xs.length) (hs : PlainIx b) : dE X (.Subscript a b pos) env (.fz (f (xs.getD i.toNat default))) :=
  dE_ixT ha hb (atI_map h0 h1) hs
def cutD {α : Type} (xs : List α) (lo hi : Option Int) : List α := (xs.drop (HT.sIx xs.length 0 lo)).take (HT.sIx xs.length xs.length hi - HT.sIx xs.length 0 lo)
def dO (X : Cx) (e : Option Expr) (env : List Sl) (o : Option Int) : Prop := (e = none ∧ o = none) ∨ ∃ a i, e = some a ∧ o = some i ∧ dE X a env (.fz (.int i))
theorem dO_none : dO X none env none := .inl ⟨rfl, rfl⟩
theorem dO_some (h : dE X a env (.fz (.int i))) : dO X (some a) env (some i) := .inr ⟨a, i, rfl, rfl, h⟩
def wO (X : Cx) (e : Option Expr) : TO := match e with
  | none => tNoPart
  | some a => tPart (wE X a)
theorem po_w : ∀ {e : Option Expr}, PO X e (wO X e)
  | none => po_none
  | some _ => po_some pe_w
theorem dO.run {e : Option Expr} {o : Option Int} (h : dO X e env o) {M : List Addr} {σ : L2.St} {H : Hp} (ok : EnvOk X.K M env σ H) {Q : Option Int → Hp → Prop} (q : ∀ H', Same H H' → Q o H') : wO X e σ H Q := by
  rcases h with ⟨rfl, rfl⟩ | ⟨a, i, rfl, rfl, h⟩
  · exact q H (Same.refl H)
  · exact h M σ H ok _ fun v H1 e1 r1 => ⟨i, Rp.int_v r1, q H1 e1⟩
theorem cut_rel {K : PySem.W.Frag} {H : Hp} {vs : List V} {ds : List PyData} (l : RpL K H vs ds) (lo hi : Option Int) : RpL K H (cutV vs lo hi) (cutD ds lo hi) := by
  unfold cutV cutD
  rw [l.length]
  exact (l.drop _).take _
theorem dE_slice {lo hi : Option Expr} {o u : Option Int} {p2 : Pos} (ha : dR X a env (.list ds)) (hl : dO X lo env o) (hh : dO X hi env u) : dE X (.Subscript a (.Slice lo hi none p2) pos) env (.fr (cutD ds o u)) := fun M σ H ok Q q => by
  refine wE.of (pe_slice sl_list pe_w po_w po_w) (ha M σ H ok _ fun v H1 e1 r1 => hl.run (ok.mono e1) fun H2 e2 => hh.run ((ok.mono e1).mono e2) fun H3 e3 => ?_)
  obtain ⟨t, vs, rfl, h1, l⟩ := ((r1.mono e2).mono e3).lst
  refine ⟨t, vs, rfl, SqL.of h1, fun n hn => q _ _ (((e1.trans e2).trans e3).trans (same_new hn)) ⟨n, _, rfl, ((e1.trans e2).trans e3).free hn, (((ok.mono e1).mono e2).mono e3).notin hn, upd_same, ?_⟩⟩
  exact (cut_rel l o u).mono (fz_new hn)
theorem cutD_map {α β : Type} (f : α → β) (xs : List α) (lo hi : Option Int) : cutD (xs.map f) lo hi = (cutD xs lo hi).map f := by
  unfold cutD
  rw [List.length_map, List.map_take, List.map_drop]

/-! ### built-in functions -/
theorem dE_len (hm : X.mg "len" = none) (ha : dR X a env (.list ds)) (hg : Gl X "len" := by rfl) (he : starEach [a] X.env = (false, eval a X.env) :: starEach [] X.env := by rfl) : dE X (.Call (.Name "len" p) [a] [] pos) env (.fz (.int ds.length)) := fun M σ H ok Q q =>
  wE.of (pe_callB call_len_seq hg hm PySem.boot_len (pa_cons pe_w pa_nil he) (he := he)) (ha M σ H ok _ fun v H1 e1 r1 => by
    obtain ⟨t, vs, rfl, h1, l⟩ := r1.lst
    refine ⟨t, vs, rfl, .inl (SqL.of h1), ?_⟩
    rw [l.length]
    exact q _ H1 e1 (.int _))
theorem dE_lenT (hm : X.mg "len" = none) (ha : dR X a env (.tuple ds)) (hg : Gl X "len" := by rfl) (he : starEach [a] X.env = (false, eval a X.env) :: starEach [] X.env := by rfl) : dE X (.Call (.Name "len" p) [a] [] pos) env (.fz (.int ds.length)) := fun M σ H ok Q q =>
  wE.of (pe_callB call_len_seq hg hm PySem.boot_len (pa_cons pe_w pa_nil he) (he := he)) (ha M σ H ok _ fun v H1 e1 r1 => by
    obtain ⟨t, vs, rfl, h1, l⟩ := r1.tup
    refine ⟨t, vs, rfl, .inr h1, ?_⟩
    rw [l.length]
    exact q _ H1 e1 (.int _))
theorem dE_toint (hm : X.mg "int" = none) (ha : dE X a env (.fz (.int i))) (hg : Gl X "int" := by rfl) (he : starEach [a] X.env = (false, eval a X.env) :: starEach [] X.env := by rfl) : dE X (.Call (.Name "int" p) [a] [] pos) env (.fz (.int i)) := fun M σ H ok Q q =>
  wE.of (pe_callTy call_int1 hg hm PyProof.Rows.boot_int (pa_cons pe_w pa_nil he) (he := he)) (ha M σ H ok _ fun v H1 e1 r1 => by
    rw [Rp.int_v r1]
    exact .inl ⟨i, rfl, q _ H1 e1 (.int _)⟩)
theorem dE_tointb (hm : X.mg "int" = none) (ha : dE X a env (.fz (.bool k))) (hg : Gl X "int" := by rfl) (he : starEach [a] X.env = (false, eval a X.env) :: starEach [] X.env := by rfl) : dE X (.Call (.Name "int" p) [a] [] pos) env (.fz (.int (if k = true then 1 else 0))) := fun M σ H ok Q q =>
  wE.of (pe_callTy call_int1 hg hm PyProof.Rows.boot_int (pa_cons pe_w pa_nil he) (he := he)) (ha M σ H ok _ fun v H1 e1 r1 => by
    rw [Rp.bl_v r1]
    exact .inr ⟨k, rfl, q _ H1 e1 (.int _)⟩)
theorem dE_abs (hm : X.mg "abs" = none) (ha : dE X a env (.fz (.int i))) (hg : Gl X "abs" := by rfl) (he : starEach [a] X.env = (false, eval a X.env) :: starEach [] X.env := by rfl) : dE X (.Call (.Name "abs" p) [a] [] pos) env (.fz (.int (if i < 0 then -i else i))) := fun M σ H ok Q q =>
  wE.of (pe_callB call_abs hg hm (by decide +kernel) (pa_cons pe_w pa_nil he) (he := he)) (ha M σ H ok _ fun v H1 e1 r1 => by
    rw [Rp.int_v r1]
    exact ⟨i, rfl, q _ H1 e1 (.int _)⟩)
theorem dE_min (hm : X.mg "min" = none) (hc : X.calm = true) (ha : dE X a env (.fz (.int i))) (hb : dE X b env (.fz (.int j))) (hg : Gl X "min" := by rfl) (he : starEach [a, b] X.env = (false, eval a X.env) :: starEach [b] X.env := by rfl) (he2 : starEach [b] X.env = (false, eval b X.env) :: starEach [] X.env := by rfl) (hpl : (backTo pos (starEach [b] X.env)).any (·.1) = false := by rfl) :
    dE X (.Call (.Name "min" p) [a, b] [] pos) env (.fz (.int (if j < i then j else i))) := fun M σ H ok Q q =>
  wE.of (pe_callB (call_min2 hc) hg hm (by decide +kernel) (pa_cons pe_w (pa_cons pe_w pa_nil he2) he) (he := he) (hpl := hpl)) (ha M σ H ok _ fun v H1 e1 r1 => hb M σ H1 (ok.mono e1) _ fun u H2 e2 r2 => by
    rw [Rp.int_v r1, Rp.int_v r2]
    exact ⟨i, j, rfl, q _ H2 (e1.trans e2) (.int _)⟩)
theorem dE_max (hm : X.mg "max" = none) (hc : X.calm = true) (ha : dE X a env (.fz (.int i))) (hb : dE X b env (.fz (.int j))) (hg : Gl X "max" := by rfl) (he : starEach [a, b] X.env = (false, eval a X.env) :: starEach [b] X.env := by rfl) (he2 : starEach [b] X.env = (false, eval b X.env) :: starEach [] X.env := by rfl) (hpl : (backTo pos (starEach [b] X.env)).any (·.1) = false := by rfl) :
    dE X (.Call (.Name "max" p) [a, b] [] pos) env (.fz (.int (if j > i then j else i))) := fun M σ H ok Q q =>
  wE.of (pe_callB (call_max2 hc) hg hm (by decide +kernel) (pa_cons pe_w (pa_cons pe_w pa_nil he2) he) (he := he) (hpl := hpl)) (ha M σ H ok _ fun v H1 e1 r1 => hb M σ H1 (ok.mono e1) _ fun u H2 e2 r2 => by
    rw [Rp.int_v r1, Rp.int_v r2]
    exact ⟨i, j, rfl, q _ H2 (e1.trans e2) (.int _)⟩)
theorem dE_sum {ns : List Int} (hm : X.mg "sum" = none) (hc : X.calm = true) (ha : dR X a env (.list (ns.map PyData.int))) (hg : Gl X "sum" := by rfl) (he : starEach [a] X.env = (false, eval a X.env) :: starEach [] X.env := by rfl) : dE X (.Call (.Name "sum" p) [a] [] pos) env (.fz (.int ns.sum)) := fun M σ H ok Q q =>
  wE.of (pe_callB (cr_sum hc) hg hm (by decide +kernel) (pa_cons pe_w pa_nil he) (he := he)) (ha M σ H ok _ fun v H1 e1 r1 => by
    obtain ⟨t, vs, rfl, h1, l⟩ := r1.lst
    have ev := l.int_of
    subst ev
    exact ⟨t, ns, rfl, SqL.of h1, q _ H1 e1 (.int _)⟩)
theorem dE_any {bs : List Bool} (hm : X.mg "any" = none) (hc : X.calm = true) (ha : dR X a env (.list (bs.map PyData.bool))) (hg : Gl X "any" := by rfl) (he : starEach [a] X.env = (false, eval a X.env) :: starEach [] X.env := by rfl) : dE X (.Call (.Name "any" p) [a] [] pos) env (.fz (.bool (bs.any id))) := fun M σ H ok Q q =>
  wE.of (pe_callB (cr_any hc) hg hm (by decide +kernel) (pa_cons pe_w pa_nil he) (he := he)) (ha M σ H ok _ fun v H1 e1 r1 => by
    obtain ⟨t, vs, rfl, h1, l⟩ := r1.lst
    have ev := l.bool_of
    subst ev
    exact ⟨t, bs, rfl, SqL.of h1, q _ H1 e1 (.bl _)⟩)
theorem dE_all {bs : List Bool} (hm : X.mg "all" = none) (hc : X.calm = true) (ha : dR X a env (.list (bs.map PyData.bool))) (hg : Gl X "all" := by rfl) (he : starEach [a] X.env = (false, eval a X.env) :: starEach [] X.env := by rfl) : dE X (.Call (.Name "all" p) [a] [] pos) env (.fz (.bool (bs.all id))) := fun M σ H ok Q q =>
  wE.of (pe_callB (cr_all hc) hg hm (by decide +kernel) (pa_cons pe_w pa_nil he) (he := he)) (ha M σ H ok _ fun v H1 e1 r1 => by
    obtain ⟨t, vs, rfl, h1, l⟩ := r1.lst
    have ev := l.bool_of
    subst ev
    exact ⟨t, bs, rfl, SqL.of h1, q _ H1 e1 (.bl _)⟩)
/-- list(xs): a new one -/
theorem dE_list (hm : X.mg "list" = none) (ha : dR X a env (.list ds)) (hg : Gl X "list" := by rfl) (he : starEach [a] X.env = (false, eval a X.env) :: starEach [] X.env := by rfl) : dE X (.Call (.Name "list" p) [a] [] pos) env (.fr ds) := fun M σ H ok Q q =>
  wE.of (pe_callTy call_list_of hg hm PyProof.Rows.boot_list (pa_cons pe_w pa_nil he) (he := he)) (ha M σ H ok _ fun v H1 e1 r1 => by
    obtain ⟨t, vs, rfl, h1, l⟩ := r1.lst
    exact ⟨t, vs, rfl, .inl (SqL.of h1), fun n hn => q _ _ (e1.trans (same_new hn)) ⟨n, _, rfl, e1.free hn, (ok.mono e1).notin hn, upd_same, l.mono (fz_new hn)⟩⟩)
/-! isinstance of a built-in type -/
def tyD : PyData → String
  | .none => "NoneType"
  | .bool _ => "bool"
  | .int _ => "int"
  | .str _ => "str"
  | .list _ => "list"
  | .tuple _ => "tuple"
  | .dict _ => "dict"
theorem Rp.ty {K : PySem.W.Frag} {H : Hp} {v : V} (h : Rp K H v d) : TyX K H v (.type (tyD d)) := by
  cases h with
  | non => exact .base .non
  | bl x => exact .base (.bl x)
  | int x => exact .base (.int x)
  | str x => exact .base (.str x)
  | lst h _ => exact .base (.lst h)
  | tup h _ =>
    rcases h with (h | ⟨o, h⟩) | ⟨o, its, n, h1, h2, _⟩
    · exact .base (.tup h)
    · exact .fTuple h
    · exact .kTuple h1 h2
theorem dE_isi {T : Str} {tn : String} (hm : X.mg "isinstance" = none) (ha : dR X a env d) (hmT : X.mg T = none) (hT : bootBuiltins T = some (.type tn)) (hk : kitB (tyD d) tn = some k) (hnT : T ≠ "__name__" := by decide) (hdT : (T == ("__debug__" : Str)) = false := by decide) (hgT : Gl X T := by rfl)
    (hg : Gl X "isinstance" := by rfl) {pT : Pos} (he : starEach [a, .Name T pT] X.env = (false, eval a X.env) :: starEach [.Name T pT] X.env := by rfl) : dE X (.Call (.Name "isinstance" p) [a, .Name T pT] [] pos) env (.fz (.bool k)) := fun M σ H ok Q q =>
  wE.of (pe_callB call_isi hg hm (by decide +kernel) (pa_cons pe_w (pa_cons (pe_bltn (v := .ty tn) hgT hmT hT rfl hnT hdT) pa_nil) he) (he := he)) (ha M σ H ok _ fun v H1 e1 r1 =>
    ⟨v, .ty tn, _, _, k, rfl, .ty tn, r1.rp.ty, kit_ty hk, q _ H1 e1 (.bl _)⟩)
/-! .. by the type's name, for any data -/
def isIntD : PyData → Bool
  | .int _ => true
  | .bool _ => true
  | _ => false
def isBoolD : PyData → Bool
  | .bool _ => true
  | _ => false
def isListD : PyData → Bool
  | .list _ => true
  | _ => false
def isStrD : PyData → Bool
  | .str _ => true
  | _ => false
def isTupD : PyData → Bool
  | .tuple _ => true
  | _ => false
theorem kit_int : ∀ d : PyData, kitB (tyD d) "int" = some (isIntD d)
  | .none => (by decide +kernel : kitB "NoneType" "int" = some false)
  | .bool _ => (by decide +kernel : kitB "bool" "int" = some true)
  | .int _ => (by decide +kernel : kitB "int" "int" = some true)
  | .str _ => (by decide +kernel : kitB "str" "int" = some false)
  | .list _ => (by decide +kernel : kitB "list" "int" = some false)
  | .tuple _ => (by decide +kernel : kitB "tuple" "int" = some false)
  | .dict _ => (by decide +kernel : kitB "dict" "int" = some false)
theorem kit_bool : ∀ d : PyData, kitB (tyD d) "bool" = some (isBoolD d)
  | .none => (by decide +kernel : kitB "NoneType" "bool" = some false)
  | .bool _ => (by decide +kernel : kitB "bool" "bool" = some true)
  | .int _ => (by decide +kernel : kitB "int" "bool" = some false)
  | .str _ => (by decide +kernel : kitB "str" "bool" = some false)
  | .list _ => (by decide +kernel : kitB "list" "bool" = some false)
  | .tuple _ => (by decide +kernel : kitB "tuple" "bool" = some false)
  | .dict _ => (by decide +kernel : kitB "dict" "bool" = some false)
theorem kit_list : ∀ d : PyData, kitB (tyD d) "list" = some (isListD d)
  | .none => (by decide +kernel : kitB "NoneType" "list" = some false)
  | .bool _ => (by decide +kernel : kitB "bool" "list" = some false)
  | .int _ => (by decide +kernel : kitB "int" "list" = some false)
  | .str _ => (by decide +kernel : kitB "str" "list" = some false)
  | .list _ => (by decide +kernel : kitB "list" "list" = some true)
  | .tuple _ => (by decide +kernel : kitB "tuple" "list" = some false)
  | .dict _ => (by decide +kernel : kitB "dict" "list" = some false)
theorem kit_str : ∀ d : PyData, kitB (tyD d) "str" = some (isStrD d)
  | .none => (by decide +kernel : kitB "NoneType" "str" = some false)
  | .bool _ => (by decide +kernel : kitB "bool" "str" = some false)
  | .int _ => (by decide +kernel : kitB "int" "str" = some false)
  | .str _ => (by decide +kernel : kitB "str" "str" = some true)
  | .list _ => (by decide +kernel : kitB "list" "str" = some false)
  | .tuple _ => (by decide +kernel : kitB "tuple" "str" = some false)
  | .dict _ => (by decide +kernel : kitB "dict" "str" = some false)
theorem kit_tup : ∀ d : PyData, kitB (tyD d) "tuple" = some (isTupD d)
  | .none => (by decide +kernel : kitB "NoneType" "tuple" = some false)
  | .bool _ => (by decide +kernel : kitB "bool" "tuple" = some false)
  | .int _ => (by decide +kernel : kitB "int" "tuple" = some false)
  | .str _ => (by decide +kernel : kitB "str" "tuple" = some false)
  | .list _ => (by decide +kernel : kitB "list" "tuple" = some false)
  | .tuple _ => (by decide +kernel : kitB "tuple" "tuple" = some true)
  | .dict _ => (by decide +kernel : kitB "dict" "tuple" = some false)
theorem dE_isInt (hm : X.mg "isinstance" = none) (hmT : X.mg "int" = none) (ha : dR X a env d) (hgT : Gl X "int" := by rfl) (hg : Gl X "isinstance" := by rfl) {pT : Pos} (he : starEach [a, .Name "int" pT] X.env = (false, eval a X.env) :: starEach [.Name "int" pT] X.env := by rfl) : dE X (.Call (.Name "isinstance" p) [a, .Name "int" pT] [] pos) env (.fz (.bool (isIntD d))) :=
  dE_isi hm ha hmT (by decide +kernel) (kit_int d) (by decide) (by decide) hgT hg he
theorem dE_isBool (hm : X.mg "isinstance" = none) (hmT : X.mg "bool" = none) (ha : dR X a env d) (hgT : Gl X "bool" := by rfl) (hg : Gl X "isinstance" := by rfl) {pT : Pos} (he : starEach [a, .Name "bool" pT] X.env = (false, eval a X.env) :: starEach [.Name "bool" pT] X.env := by rfl) : dE X (.Call (.Name "isinstance" p) [a, .Name "bool" pT] [] pos) env (.fz (.bool (isBoolD d))) :=
  dE_isi hm ha hmT (by decide +kernel) (kit_bool d) (by decide) (by decide) hgT hg he
theorem dE_isList (hm : X.mg "isinstance" = none) (hmT : X.mg "list" = none) (ha : dR X a env d) (hgT : Gl X "list" := by rfl) (hg : Gl X "isinstance" := by rfl) {pT : Pos} (he : starEach [a, .Name "list" pT] X.env = (false, eval a X.env) :: starEach [.Name "list" pT] X.env := by rfl) : dE X (.Call (.Name "isinstance" p) [a, .Name "list" pT] [] pos) env (.fz (.bool (isListD d))) :=
  dE_isi hm ha hmT (by decide +kernel) (kit_list d) (by decide) (by decide) hgT hg he
theorem dE_isStr (hm : X.mg "isinstance" = none) (hmT : X.mg "str" = none) (ha : dR X a env d) (hgT : Gl X "str" := by rfl) (hg : Gl X "isinstance" := by rfl) {pT : Pos} (he : starEach [a, .Name "str" pT] X.env = (false, eval a X.env) :: starEach [.Name "str" pT] X.env := by rfl) : dE X (.Call (.Name "isinstance" p) [a, .Name "str" pT] [] pos) env (.fz (.bool (isStrD d))) :=
  dE_isi hm ha hmT (by decide +kernel) (kit_str d) (by decide) (by decide) hgT hg he
theorem dE_isTup (hm : X.mg "isinstance" = none) (hmT : X.mg "tuple" = none) (ha : dR X a env d) (hgT : Gl X "tuple" := by rfl) (hg : Gl X "isinstance" := by rfl) {pT : Pos} (he : starEach [a, .Name "tuple" pT] X.env = (false, eval a X.env) :: starEach [.Name "tuple" pT] X.env := by rfl) : dE X (.Call (.Name "isinstance" p) [a, .Name "tuple" pT] [] pos) env (.fz (.bool (isTupD d))) :=
  dE_isi hm ha hmT (by decide +kernel) (kit_tup d) (by decide) (by decide) hgT hg he
/-! all, any of what a comprehension makes -/
theorem bools_of {α : Type} (xs : List α) (q : α → Bool) : (xs.map fun x => (Rs.fz (.bool (q x))).data) = (xs.map q).map PyData.bool := by
  rw [List.map_map]
  rfl
theorem dE_allL {α : Type} {xs : List α} {q : α → Bool} (hm : X.mg "all" = none) (hc : X.calm = true) (ha : dE X a env (.fr (xs.map fun x => (Rs.fz (.bool (q x))).data))) (hg : Gl X "all" := by rfl) (he : starEach [a] X.env = (false, eval a X.env) :: starEach [] X.env := by rfl) : dE X (.Call (.Name "all" p) [a] [] pos) env (.fz (.bool (xs.all q))) := by
  have z := dE_all (p := p) (pos := pos) hm hc ((dR_fr ha).is (congrArg PyData.list (bools_of xs q))) hg he
  rwa [List.all_map] at z
theorem dE_anyL {α : Type} {xs : List α} {q : α → Bool} (hm : X.mg "any" = none) (hc : X.calm = true) (ha : dE X a env (.fr (xs.map fun x => (Rs.fz (.bool (q x))).data))) (hg : Gl X "any" := by rfl) (he : starEach [a] X.env = (false, eval a X.env) :: starEach [] X.env := by rfl) : dE X (.Call (.Name "any" p) [a] [] pos) env (.fz (.bool (xs.any q))) := by
  have z := dE_any (p := p) (pos := pos) hm hc ((dR_fr ha).is (congrArg PyData.list (bools_of xs q))) hg he
  rwa [List.any_map] at z
end
end Dl

namespace Dl
open PySem PySem.Spec PyProof.Rows L2

/-! ### a def's promise over data -/
def spF (K : PySem.W.Frag) (n : Nat) (R : List PyData → Rs → Prop) : Sp := fun vs H Q _ => ∃ M ds r, ds.length = n ∧ (∀ b ∈ M, ∃ o, H b = some o) ∧ RpL K (Fz M H) vs ds ∧ R ds r ∧ ∀ v H', Same H H' → RvOk K M H H' v r → Q v H'
structure Callee (P : Program) (w : World) (K : PySem.W.Frag) (mg : Str → Option Value) (base : Heap) (k : Nat) (x : Str) (ps : List Str) (R : List PyData → Rs → Prop) : Prop where
  ok : ∃ f fd, FnOk P w K mg base CX0 k f fd ps (spF K ps.length R) ∧ mg x = some (.ref f) ∧ PySem.W.keepIn K (.ref f) = true ∧ Binds K fd ps []
theorem Callee.mono {P : Program} {w : World} {K : PySem.W.Frag} {mg : Str → Option Value} {base : Heap} {k k' : Nat} {x : Str} {ps : List Str} {R : List PyData → Rs → Prop} (h : Callee P w K mg base k x ps R) (hk : k ≤ k') : Callee P w K mg base k' x ps R := by
  obtain ⟨f, fd, F, r⟩ := h.ok
  exact ⟨f, fd, F.mono hk, r⟩
section
variable {X : Cx} {e a b c : Expr} {es : List Expr} {env : List Sl} {r : Rs} {d : PyData} {ds : List PyData} {pos p : Pos} {i j : Int} {k k' : Bool} {x : Str} {ps : List Str} {R : List PyData → Rs → Prop} {n : Nat}
theorem dE_call (F : Callee X.prog X.w X.K X.mg X.base n x ps R) (hr : Room n X.A) (ha : dA X (e :: es) env ds) (h : R ds r) (hl : ds.length = ps.length) (hg : Gl X x := by rfl) (hdb : (x == ("__debug__" : Str)) = false := by decide)
    (he : starEach (e :: es) X.env = (false, eval e X.env) :: starEach es X.env := by rfl) (hpl : (backTo pos (starEach es X.env)).any (·.1) = false := by rfl) : dE X (.Call (.Name x p) (e :: es) [] pos) env r := fun M σ H ok Q q => by
  obtain ⟨f, fd, G, hm, hk, hb⟩ := F.ok
  refine wE.of (pe_call G hr hg hm hk hb .nil pass0 pa_w hdb he hpl) (ha M σ H ok _ fun vs H1 e1 l => ?_)
  rw [List.append_nil]
  exact ⟨M, ds, r, hl, (ok.mono e1).dom, l, h, fun v H' e' rv => q v H' (e1.trans e') (rv.back e1)⟩
/-- .. arguments that are read alone, an answer without a heap -/
def flatD : PyData → Bool
  | .none => true
  | .bool _ => true
  | .int _ => true
  | .str _ => true
  | _ => false
theorem Rp.flat {K : PySem.W.Frag} {H H' : Hp} {v : V} (h : Rp K H v d) (f : flatD d = true) : Rp K H' v d := by
  cases h with
  | non => exact .non
  | bl b => exact .bl b
  | int i => exact .int i
  | str s => exact .str s
  | lst _ _ => cases f
  | tup _ _ => cases f
theorem RpL.of_get {K : PySem.W.Frag} {H : Hp} : ∀ {vs : List V} {ds : List PyData}, vs.length = ds.length → (∀ (i : Nat) v d, vs[i]? = some v → ds[i]? = some d → Rp K H v d) → RpL K H vs ds
  | [], [], _, _ => .nil
  | v :: vs, d :: ds, hl, h => .cons (h 0 v d rfl rfl) (RpL.of_get (Nat.succ.inj hl) fun i w e hw he => h (i + 1) w e hw he)
theorem fz_nil {H : Hp} : Fz [] H = H := by
  funext b
  rw [fz_out (List.not_mem_nil)]
theorem dE_callR (F : Callee X.prog X.w X.K X.mg X.base n x ps R) (hr : Room n X.A) (ha : dAr X (e :: es) env ds) (h : R ds (.fz d)) (hf : flatD d = true) (hl : ds.length = ps.length) (hg : Gl X x := by rfl) (hdb : (x == ("__debug__" : Str)) = false := by decide)
    (he : starEach (e :: es) X.env = (false, eval e X.env) :: starEach es X.env := by rfl) (hpl : (backTo pos (starEach es X.env)).any (·.1) = false := by rfl) : dE X (.Call (.Name x p) (e :: es) [] pos) env (.fz d) := fun M σ H ok Q q => by
  obtain ⟨f, fd, G, hm, hk, hb⟩ := F.ok
  refine wE.of (pe_call G hr hg hm hk hb .nil pass0 pa_w hdb he hpl) (ha M σ H ok _ fun vs H1 e1 hl2 l => ?_)
  rw [List.append_nil]
  refine ⟨[], ds, .fz d, hl, (fun _ z => nomatch z), ?_, h, fun v H' e' rv => q v H' (e1.trans e') (Rp.flat rv hf)⟩
  rw [fz_nil]
  exact RpL.of_get hl2 fun i v e hv he => (l i v e hv he).rp
/-- f(a, .., k = v, ..): a positional ones, b by keyword behind them, in the parameters' order -/
def gk {α : Type} (a b : Nat) (us ws : List α) : List α := if us.length = a ∧ ws.length = b then us ++ ws else []
structure CalleeK (P : Program) (w : World) (K : PySem.W.Frag) (mg : Str → Option Value) (base : Heap) (k : Nat) (x : Str) (ps ks : List Str) (na nb : Nat) (R : List PyData → Rs → Prop) : Prop where
  ok : ∃ f fd, FnOk P w K mg base CX0 k f fd ps (spF K ps.length R) ∧ mg x = some (.ref f) ∧ PySem.W.keepIn K (.ref f) = true ∧ KBinds K fd ps ks (gk na nb) (gk na nb)
theorem CalleeK.mono {P : Program} {w : World} {K : PySem.W.Frag} {mg : Str → Option Value} {base : Heap} {k k' : Nat} {x : Str} {ps ks : List Str} {na nb : Nat} {R : List PyData → Rs → Prop} (h : CalleeK P w K mg base k x ps ks na nb R) (hk : k ≤ k') : CalleeK P w K mg base k' x ps ks na nb R := by
  obtain ⟨f, fd, F, r⟩ := h.ok
  exact ⟨f, fd, F.mono hk, r⟩
def wK (X : Cx) (kws : List Keyword) : TA := fun σ H Q => ∀ pos pins s, Inv X pins σ H s → wpAny (model X.prog X.w) X.A (evalAll ((backToKw pos (keywordEach kws X.env)).map (·.2))) (AP X pins σ Q) X.xe s
theorem pk_w {kws : List Keyword} : PK X kws (wK X kws) := ⟨fun pos pins s _ _ _ I h => h pos pins s I⟩
def dK (X : Cx) (kws : List Keyword) (env : List Sl) (ds : List PyData) : Prop := ∀ M σ H, EnvOk X.K M env σ H → ∀ Q : List V → Hp → Prop, (∀ vs H', Same H H' → RpL X.K (Fz M H') vs ds → Q vs H') → wK X kws σ H Q
theorem wK.of {kws : List Keyword} {t : TA} {σ : L2.St} {H : Hp} {Q : List V → Hp → Prop} (p : PK X kws t) (h : t σ H Q) : wK X kws σ H Q := fun pos pins s I => p.run pos pins s σ H Q I h
theorem dK_nil : dK X [] env [] := fun M σ H ok Q q => wK.of pk_nil (q [] H (Same.refl H) .nil)
theorem dK_cons {nm : Option Str} {kpos : Pos} {kws : List Keyword} (h : dE X e env r) (hr : dK X kws env ds) : dK X (⟨nm, e, kpos⟩ :: kws) env (r.data :: ds) := fun M σ H ok Q q =>
  wK.of (pk_cons pe_w pk_w) (h M σ H ok _ fun v H1 e1 r1 => hr M σ H1 (ok.mono e1) _ fun vs H2 e2 r2 => q _ H2 (e1.trans e2) (.cons (r1.data.mono (fz_same e2)) r2))
theorem dE_callK {ks : List Str} {kws : List Keyword} {es2 : List PyData} {na nb : Nat} (F : CalleeK X.prog X.w X.K X.mg X.base n x ps ks na nb R) (hr : Room n X.A) (ha : dA X (e :: es) env ds) (hk : dK X kws env es2) (h : R (ds ++ es2) r) (hl : (ds ++ es2).length = ps.length) (hna : ds.length = na) (hnb : es2.length = nb)
    (hall : (backToKw pos (keywordEach kws X.env)).all (·.1.isSome) = true := by rfl) (hks : (backToKw pos (keywordEach kws X.env)).filterMap (·.1) = ks := by rfl) (hg : Gl X x := by rfl) (hdb : (x == ("__debug__" : Str)) = false := by decide)
    (he : starEach (e :: es) X.env = (false, eval e X.env) :: starEach es X.env := by rfl) (hpl : ((backTo pos (starEach (e :: es) X.env)).any (·.1) || (backToKw pos (keywordEach kws X.env)).any (·.1.isNone)) = false := by rfl) :
    dE X (.Call (.Name x p) (e :: es) kws pos) env r := fun M σ H ok Q q => by
  obtain ⟨f, fd, G, hm, hki, hb⟩ := F.ok
  refine wE.of (pe_callK G hr hg hm hki hb pass0 pa_w pk_w hall hks hdb he hpl) (ha M σ H ok _ fun vs H1 e1 l => hk M σ H1 (ok.mono e1) _ fun zs H2 e2 l2 => ?_)
  have eg : gk na nb vs zs = vs ++ zs := by
    unfold gk
    rw [if_pos ⟨l.length.trans hna, l2.length.trans hnb⟩]
  rw [eg]
  exact ⟨M, ds ++ es2, r, hl, ((ok.mono e1).mono e2).dom, (l.mono (fz_same e2)).append l2, h, fun v H' e' rv => q v H' ((e1.trans e2).trans e') (rv.back (e1.trans e2))⟩
end

/-! ### targets -/
def wG (X : Cx) (tg : Expr) : TG := fun v σ H Q => ∀ pins s u, Inv X pins σ H s → RelV v u → wpAny (model X.prog X.w) X.A (assign tg X.env u) (fun _ s' => ∃ σ' H', Inv X pins σ' H' s' ∧ Q σ' H') X.xe s
def wGs (X : Cx) (ts : List Expr) : TGs := fun vs σ H Q => ∀ pins s us, Inv X pins σ H s → Vals vs us → wpAny (model X.prog X.w) X.A (assignInOrder ((assignEach ts X.env).map (·.2)) us) (fun _ s' => ∃ σ' H', Inv X pins σ' H' s' ∧ Q σ' H') X.xe s
theorem pg_w {X : Cx} {tg : Expr} : PG X tg (wG X tg) := ⟨fun pins s _ _ _ u _ I r h => h pins s u I r⟩
theorem pgs_w {X : Cx} {ts : List Expr} : PGs X ts (wGs X ts) := ⟨fun pins s _ _ _ us _ I r h => h pins s us I r⟩
/-- what a target leaves: the names at «is» hold other data -/
structure Put (K : PySem.W.Frag) (M : List Addr) (H : Hp) (env env' : List Sl) (σ σ' : L2.St) (is : List Nat) : Prop where
  ok : EnvOk K M env' σ' H
  own : ∀ (j : Nat) s, env'[j]? = some s → s.own = true → env[j]? = some s ∧ σ'[j]? = σ[j]?
  wip : ∀ vs, (∀ i ∈ is, i ∈ vs) → wipe σ' vs = wipe σ vs
def dG (X : Cx) (tg : Expr) (env : List Sl) (d : PyData) (is : List Nat) (env' : List Sl) : Prop := ∀ M σ H v, EnvOk X.K M env σ H → Rp X.K (Fz M H) v d → ∀ Q : L2.St → Hp → Prop, (∀ σ', Put X.K M H env env' σ σ' is → Q σ' H) → wG X tg v σ H Q
def dGs (X : Cx) (ts : List Expr) (env : List Sl) (ds : List PyData) (is : List Nat) (env' : List Sl) : Prop := ∀ M σ H vs, EnvOk X.K M env σ H → RpL X.K (Fz M H) vs ds → ∀ Q : L2.St → Hp → Prop, (∀ σ', Put X.K M H env env' σ σ' is → Q σ' H) → wGs X ts vs σ H Q
theorem wipe_get {σ : L2.St} : ∀ (vs : List Nat) (i : Nat), (wipe σ vs)[i]? = if i ∈ vs then (if i < σ.length then some none else none) else σ[i]?
  | [], i => by
    rw [if_neg (List.not_mem_nil)]
    rfl
  | v :: vs, i => by
    show ((wipe σ vs).set v none)[i]? = _
    by_cases e : v = i
    · subst e
      rw [if_pos List.mem_cons_self]
      by_cases hv : v < σ.length
      · rw [List.getElem?_set_self (by rw [wipe_length]; exact hv), if_pos hv]
      · rw [if_neg hv, List.getElem?_eq_none (by rw [List.length_set, wipe_length]; omega)]
    · rw [List.getElem?_set_ne e, wipe_get vs i]
      have : (i ∈ v :: vs) ↔ i ∈ vs := by
        rw [List.mem_cons]
        exact ⟨fun z => z.elim (fun q => absurd q.symm e) id, .inr⟩
      by_cases h : i ∈ vs
      · rw [if_pos h, if_pos (this.mpr h)]
      · rw [if_neg h, if_neg (fun z => h (this.mp z))]
theorem Put.refl {K : PySem.W.Frag} {M : List Addr} {H : Hp} {env : List Sl} {σ : L2.St} (h : EnvOk K M env σ H) : Put K M H env env σ σ [] := ⟨h, fun _ _ z _ => ⟨z, rfl⟩, fun _ _ => rfl⟩
theorem Put.trans {K : PySem.W.Frag} {M : List Addr} {H : Hp} {env env1 env2 : List Sl} {σ σ1 σ2 : L2.St} {is js : List Nat} (a : Put K M H env env1 σ σ1 is) (b : Put K M H env1 env2 σ1 σ2 js) : Put K M H env env2 σ σ2 (is ++ js) :=
  ⟨b.ok, fun j s z os => by
    obtain ⟨h1, h2⟩ := b.own j s z os
    obtain ⟨h3, h4⟩ := a.own j s h1 os
    exact ⟨h3, h2.trans h4⟩, fun vs h => (b.wip vs fun i hi => h i (List.mem_append_right _ hi)).trans (a.wip vs fun i hi => h i (List.mem_append_left _ hi))⟩
theorem put_set {K : PySem.W.Frag} {M : List Addr} {H : Hp} {env : List Sl} {σ : L2.St} {v : V} {d : PyData} {i : Nat} (h : EnvOk K M env σ H) (r : Rp K (Fz M H) v d) : Put K M H env (env.set i (.fz d)) σ (σ.set i (some v)) [i] := by
  refine ⟨h.set_no rfl ⟨v, rfl, r⟩, fun j s z os => ?_, fun vs hv => ?_⟩
  · have ne : i ≠ j := fun e => by
      subst e
      have hi : i < env.length := by
        have q := (List.getElem?_eq_some_iff.mp z).1
        rwa [List.length_set] at q
      rw [List.getElem?_set_self hi] at z
      cases z
      cases os
    rw [List.getElem?_set_ne ne] at z
    exact ⟨z, List.getElem?_set_ne ne⟩
  · have hi : i ∈ vs := hv i (by simp)
    refine List.ext_getElem? fun j => ?_
    rw [wipe_get, wipe_get]
    by_cases hj : j ∈ vs
    · rw [if_pos hj, if_pos hj, List.length_set]
    · rw [if_neg hj, if_neg hj, List.getElem?_set_ne fun e => hj (by rw [← e]; exact hi)]
section
variable {X : Cx} {tg : Expr} {ts : List Expr} {env env' env1 env2 : List Sl} {d : PyData} {ds : List PyData} {pos : Pos} {is js : List Nat}
theorem dG_name {i : Nat} {x : Str} (hN : X.N.Nodup) (hi : X.N[i]? = some x) (hx : Loc X.env.scope x) (hf : X.fn x = true ∨ X.env.scope.names.lookup x = some .local) : dG X (.Name x pos) env d [i] (env.set i (.fz d)) := fun M σ H v ok r Q q pins s u I ru =>
  (pg_name hN hi hx hf).run pins s σ H v u Q I ru (q _ (put_set ok r))
theorem dGs_nil : dGs X [] env [] [] env := fun M σ H vs ok l Q q pins s us I ru => by
  cases l
  exact pgs_nil.run pins s σ H [] us Q I ru ⟨rfl, q _ (Put.refl ok)⟩
theorem dGs_cons (h : dG X tg env d is env1) (hr : dGs X ts env1 ds js env2) (hs : (assignEach (tg :: ts) X.env).map (·.2) = assign tg X.env :: (assignEach ts X.env).map (·.2) := by rfl) : dGs X (tg :: ts) env (d :: ds) (is ++ js) env2 := fun M σ H vs ok l Q q pins s us I ru => by
  cases l with
  | cons r l =>
    refine (pgs_cons pg_w pgs_w hs).run pins s σ H _ us Q I ru ⟨_, _, rfl, h M σ H _ ok r _ fun σ1 p1 => hr M σ1 H _ p1.ok l Q fun σ2 p2 => q σ2 (p1.trans p2)⟩
theorem dG_tup {k : Nat} (hc : X.calm = true) (h : dGs X ts env ds is env') (hn : (assignEach ts X.env).length = ds.length := by rfl) (hst : (assignEach ts X.env).findIdx? (·.1) = none := by rfl) : dG X (.Tuple ts k pos) env (.tuple ds) is env' := fun M σ H v ok r Q q pins s u I ru => by
  cases r with
  | tup ht l => exact (pg_tup hc pgs_w hn hst).run pins s σ H _ u Q I ru ⟨_, _, rfl, sqT_mono fz_full ht, l.length, h M σ H _ ok l Q q⟩
end

/-! ### what is walked -/
def wI (X : Cx) (tg iter : Expr) : TI := fun σ H R => ∀ pins s, Inv X pins σ H s → wpAny (model X.prog X.w) X.A (eval iter X.env) (fun v s1 => wpAny (model X.prog X.w) X.A (pyIter v) (PIE X pins σ tg R) X.xe s1) X.xe s
theorem pi_w {X : Cx} {tg iter : Expr} : PI X tg iter (wI X tg iter) := ⟨fun pins s _ _ _ I h => h pins s I⟩
theorem wI.of {X : Cx} {tg iter : Expr} {t : TI} {σ : L2.St} {H : Hp} {R : It → Hp → Prop} (p : PI X tg iter t) (h : t σ H R) : wI X tg iter σ H R := fun pins s I => p.run pins s σ H R I h
/-- the iterator gives ds one by one, as long as what stands in Hb stands -/
structure ItOk (K : PySem.W.Frag) (M : List Addr) (J : It) (Hb : Hp) (ds : List PyData) : Prop where
  go : ∀ H i, Same Hb H → i < ds.length → J.go i H
  yld : ∀ M' H i d x H', (∀ b ∈ M', ∃ o, H b = some o) → Same Hb H → Same (Fz M Hb) (Fz M' H) → ds[i]? = some d → J.yld i H x H' → Same H H' ∧ Rp K (Fz M' H') x d
  stop : ∀ H i, Same Hb H → ds.length ≤ i → J.stop i H
/-- .. for a comprehension (the heap only grows); for a loop (what may be written is written) -/
def dI (X : Cx) (tg iter : Expr) (env : List Sl) (ds : List PyData) : Prop := ∀ M σ H, EnvOk X.K M env σ H → ∀ R : It → Hp → Prop, (∀ J H', Same H H' → ItOk X.K M J H' ds → R J H') → wI X tg iter σ H R
def dIf (X : Cx) (tg iter : Expr) (env : List Sl) (ds : List PyData) : Prop := ∀ M σ H, EnvOk X.K M env σ H → ∀ R : It → Hp → Prop, (∀ J H', Same H H' → ItOk X.K M J (Fz M H') ds → R J H') → wI X tg iter σ H R
section
variable {X : Cx} {tg e a b c : Expr} {es : List Expr} {env : List Sl} {r : Rs} {d : PyData} {ds : List PyData} {pos p : Pos} {i j : Int} {k k' : Bool}
theorem itok_lst {K : PySem.W.Frag} {M : List Addr} {Hb : Hp} {t : Addr} {vs : List V} {ds : List PyData} (h : Hb t = some (.lst vs)) (l : RpL K (Fz M Hb) vs ds) : ItOk K M (Itl K t) Hb ds where
  go := fun H i e hi => by
    have hi2 : i < vs.length := by rw [l.length]; exact hi
    exact ⟨vs, vs[i], SqL.of (e _ _ h), List.getElem?_eq_getElem hi2⟩
  yld := fun M' H i d x H' dm e e' hd hy => by
    obtain ⟨rfl, f⟩ := hy
    obtain ⟨v, h1, h2⟩ := l.get hd
    have h3 := f vs (SqL.of (e _ _ h))
    rw [h1] at h3
    cases h3
    exact ⟨Same.refl _, h2.mono e'⟩
  stop := fun H i e hi => ⟨vs, SqL.of (e _ _ h), by rw [l.length]; exact hi⟩
theorem itok_tup {K : PySem.W.Frag} {M : List Addr} {Hb : Hp} {t : Addr} {vs : List V} {ds : List PyData} (h : SqT K Hb t vs) (l : RpL K (Fz M Hb) vs ds) : ItOk K M (Itt K t) Hb ds where
  go := fun H i e hi => by
    have hi2 : i < vs.length := by rw [l.length]; exact hi
    exact ⟨vs, vs[i], sqT_mono e h, List.getElem?_eq_getElem hi2⟩
  yld := fun M' H i d x H' dm e e' hd hy => by
    obtain ⟨rfl, f⟩ := hy
    obtain ⟨v, h1, h2⟩ := l.get hd
    have h3 := f vs (sqT_mono e h)
    rw [h1] at h3
    cases h3
    exact ⟨Same.refl _, h2.mono e'⟩
  stop := fun H i e hi => ⟨vs, sqT_mono e h, by rw [l.length]; exact hi⟩
def rangeD (lo : Int) (n : Nat) : List PyData := (List.range n).map fun i => .int (lo + (i : Nat))
theorem itok_rng {K : PySem.W.Frag} {M : List Addr} {Hb : Hp} {lo : Int} {n : Nat} : ItOk K M (Itr lo n) Hb (rangeD lo n) where
  go := fun H i e hi => by
    unfold rangeD at hi
    rw [List.length_map, List.length_range] at hi
    exact hi
  yld := fun M' H i d x H' dm e e' hd hy => by
    obtain ⟨rfl, rfl⟩ := hy
    unfold rangeD at hd
    rw [List.getElem?_map] at hd
    have hi : i < n := by
      cases q : (List.range n)[i]? with
      | none =>
        rw [q] at hd
        cases hd
      | some z =>
        have z2 := (List.getElem?_eq_some_iff.mp q).1
        rwa [List.length_range] at z2
    rw [List.getElem?_range hi] at hd
    cases hd
    exact ⟨Same.refl _, .int _⟩
  stop := fun H i e hi => by
    unfold rangeD at hi
    rw [List.length_map, List.length_range] at hi
    exact hi
/-- enumerate -/
def enumD (i : Nat) : List PyData → List PyData
  | [] => []
  | d :: ds => .tuple [.int (i : Int), d] :: enumD (i + 1) ds
theorem enumD_len : ∀ (ds : List PyData) (i : Nat), (enumD i ds).length = ds.length
  | [], _ => rfl
  | _ :: ds, i => congrArg (· + 1) (enumD_len ds (i + 1))
theorem enumD_get : ∀ (ds : List PyData) (i m : Nat) (e : PyData), (enumD i ds)[m]? = some e → ∃ d, ds[m]? = some d ∧ e = .tuple [.int ((i + m : Nat) : Int), d]
  | [], _, _, _, h => by cases h
  | d :: ds, i, 0, e, h => ⟨d, rfl, (Option.some.inj h).symm⟩
  | d :: ds, i, m + 1, e, h => by
    obtain ⟨d', h1, h2⟩ := enumD_get ds (i + 1) m e h
    exact ⟨d', h1, by rw [h2, show i + 1 + m = i + (m + 1) by omega]⟩
theorem itok_enum {K : PySem.W.Frag} {M : List Addr} {Hb : Hp} {t : Addr} {vs : List V} {ds : List PyData} (h : Hb t = some (.lst vs)) (l : RpL K (Fz M Hb) vs ds) : ItOk K M (Ite K t) Hb (enumD 0 ds) where
  go := fun H i e hi => by
    have hi2 : i < vs.length := by rw [l.length, ← enumD_len ds 0]; exact hi
    exact ⟨vs, vs[i], SqL.of (e _ _ h), List.getElem?_eq_getElem hi2⟩
  yld := fun M' H i d x H' dm e e' hd hy => by
    obtain ⟨T, y, rfl, hT, rfl, f⟩ := hy
    obtain ⟨d', hd', rfl⟩ := enumD_get ds 0 i d hd
    obtain ⟨v, h1, h2⟩ := l.get hd'
    have h3 := f vs (SqL.of (e _ _ h))
    rw [h1] at h3
    cases h3
    have nT : T ∉ M' := fun z => by
      obtain ⟨o, ho⟩ := dm T z
      rw [hT] at ho
      cases ho
    refine ⟨same_new hT, ?_⟩
    rw [Nat.zero_add]
    exact .tup (.inl (.inl (by rw [fz_out nT]; exact upd_same))) (.cons (.int _) (.cons (h2.mono (e'.trans (fz_same (same_new hT)))) .nil))
  stop := fun H i e hi => ⟨vs, SqL.of (e _ _ h), by rw [l.length, ← enumD_len ds 0]; exact hi⟩
theorem fz_fz {M : List Addr} {H : Hp} : Fz M (Fz M H) = Fz M H := by
  funext b
  by_cases h : b ∈ M
  · rw [fz_in h, fz_in h]
  · rw [fz_out h]
theorem dI_list (h : dR X a env (.list ds)) : dI X tg a env ds := fun M σ H ok R q => wI.of (pi_list pe_w) (h M σ H ok _ fun v H1 e1 r1 => by
  obtain ⟨t, vs, rfl, h1, l⟩ := r1.lst
  exact ⟨t, rfl, ⟨vs, SqL.of h1⟩, q _ H1 e1 (itok_lst h1 l)⟩)
theorem dI_tup (h : dR X a env (.tuple ds)) : dI X tg a env ds := fun M σ H ok R q => wI.of (pi_tup pe_w) (h M σ H ok _ fun v H1 e1 r1 => by
  obtain ⟨t, vs, rfl, h1, l⟩ := r1.tup
  exact ⟨t, rfl, ⟨vs, h1⟩, q _ H1 e1 (itok_tup h1 l)⟩)
theorem dIf_list (h : dE X a env r) (hd : r.data = .list ds) : dIf X tg a env ds := fun M σ H ok R q => wI.of (pi_list pe_w) (h M σ H ok _ fun v H1 e1 r1 => by
  have z := r1.data
  rw [hd] at z
  cases z with
  | lst h1 l => exact ⟨_, rfl, ⟨_, SqL.of (fz_some h1).2⟩, q _ H1 e1 (itok_lst h1 (by rw [fz_fz]; exact l))⟩)
theorem dIf_enum {elts : List Expr} {kk : Nat} {tpos : Pos} (hm : X.mg "enumerate" = none) (h : dE X a env (.fz (.list ds))) (hg : Gl X "enumerate" := by rfl) (hs : starEach [a] X.env = [(false, eval a X.env)] := by rfl) : dIf X (.Tuple elts kk tpos) (.Call (.Name "enumerate" p) [a] [] pos) env (enumD 0 ds) := fun M σ H ok R q =>
  wI.of (pi_enum hg hm (pa_cons pe_w pa_nil hs) hs) (h M σ H ok _ fun v H1 e1 r1 => by
    cases r1 with
    | lst h1 l => exact ⟨_, _, rfl, SqL.of (fz_some h1).2, q _ H1 e1 (itok_enum h1 (by rw [fz_fz]; exact l))⟩)
theorem dIf_tup (h : dE X a env (.fz (.tuple ds))) : dIf X tg a env ds := fun M σ H ok R q => wI.of (pi_tup pe_w) (h M σ H ok _ fun v H1 e1 r1 => by
  cases r1 with
  | tup h1 l => exact ⟨_, rfl, ⟨_, sqT_mono fz_full h1⟩, q _ H1 e1 (itok_tup h1 (by rw [fz_fz]; exact l))⟩)
theorem dIf_of (h : dIf X tg a env ds) : dI X tg a env ds := fun M σ H ok R q => h M σ H ok R fun J H' e it => q J H' e
  ⟨fun H2 i e2 => it.go H2 i (fz_full.trans e2), fun M' H2 i d x H3 dm e2 e3 => it.yld M' H2 i d x H3 dm (fz_full.trans e2) (by rw [fz_fz]; exact e3), fun H2 i e2 => it.stop H2 i (fz_full.trans e2)⟩
/-- the script -/
theorem dI_scr {n : Nat} {x : Str} {ns : List Int} (he : env[n]? = some (.sc ns)) (hN : X.N[n]? = some x) (hv : Vis X.env.scope x) (hd : (x == ("__debug__" : Str)) = false := by decide)
    (hcd : (x == ("__classdict__" : Str)) = false := by decide) : dI X tg (.Name x pos) env (ns.map PyData.int) := fun M σ H ok R q => by
  obtain ⟨t, h1, h2⟩ := ok.scr he
  refine wI.of (pi_list (pe_var hN hv hd hcd)) ⟨_, h1, t, rfl, ⟨_, h2⟩, q _ H (Same.refl H) ⟨fun H2 i e hi => ?_, fun M' H2 i d x H' dm e e' hd hy => ?_, fun H2 i e hi => ?_⟩⟩
  · have hi2 : i < (ns.map V.int).length := by
      rw [List.length_map] at hi ⊢
      exact hi
    exact ⟨_, _, sqL_mono e h2, List.getElem?_eq_getElem hi2⟩
  · obtain ⟨rfl, f⟩ := hy
    have h3 := f _ (sqL_mono e h2)
    rw [List.getElem?_map] at h3 hd
    cases q : ns[i]? with
    | none =>
      rw [q] at hd
      cases hd
    | some m =>
      rw [q] at hd h3
      cases hd
      cases h3
      exact ⟨Same.refl _, .int m⟩
  · refine ⟨_, sqL_mono e h2, ?_⟩
    rw [List.length_map] at hi ⊢
    exact hi
theorem dIf_range1 (hm : X.mg "range" = none) (h : dE X a env (.fz (.int j))) (h1 : -1000000 ≤ j) (h2 : j ≤ 1000000) (hg : Gl X "range" := by rfl) (hs : starEach [a] X.env = (false, eval a X.env) :: starEach [] X.env := by rfl) : dIf X tg (.Call (.Name "range" p) [a] [] pos) env (rangeD 0 j.toNat) := fun M σ H ok R q =>
  wI.of (pi_range1 hg hm (pa_cons pe_w pa_nil hs) hs) (h M σ H ok _ fun v H1 e1 r1 => by
    rw [Rp.int_v r1]
    exact ⟨j, rfl, by omega, by omega, q _ H1 e1 itok_rng⟩)
theorem dIf_range2 (hm : X.mg "range" = none) (h : dE X a env (.fz (.int i))) (h' : dE X b env (.fz (.int j))) (h1 : -1000000 ≤ i) (h2 : i ≤ 1000000) (h3 : -1000000 ≤ j) (h4 : j ≤ 1000000) (hg : Gl X "range" := by rfl) (hs : starEach [a, b] X.env = (false, eval a X.env) :: starEach [b] X.env := by rfl) (hs2 : starEach [b] X.env = (false, eval b X.env) :: starEach [] X.env := by rfl) :
    dIf X tg (.Call (.Name "range" p) [a, b] [] pos) env (rangeD i (j - i).toNat) := fun M σ H ok R q =>
  wI.of (pi_range2 hg hm (pa_cons pe_w (pa_cons pe_w pa_nil hs2) hs) (by rw [hs, hs2] <;> rfl) hs2) (h M σ H ok _ fun v H1 e1 r1 => h' M σ H1 (ok.mono e1) _ fun u H2 e2 r2 => by
    rw [Rp.int_v r1, Rp.int_v r2]
    exact ⟨i, j, rfl, ⟨by omega, by omega, by omega, by omega⟩, q _ H2 (e1.trans e2) itok_rng⟩)
end
end Dl

namespace Dl
open PySem PySem.Spec PyProof.Rows L2

/-! ### comprehensions -/
def wTs (X : Cx) (ifs : List Expr) : TT := fun σ H Q => ∀ pins s, Inv X pins σ H s →
  wpAny (model X.prog X.w) X.A (forIn ifs true fun c r => if r = true then do let ok ← isTrue c X.env (eval c X.env); pure (ForInStep.yield ok) else pure (ForInStep.yield r)) (TP X pins σ Q) X.xe s
theorem pts_w {X : Cx} {ifs : List Expr} : PTs X ifs (wTs X ifs) := ⟨fun pins s _ _ _ I h => h pins s I⟩
def dTs (X : Cx) (ifs : List Expr) (env : List Sl) (b : Bool) : Prop := ∀ M σ H, EnvOk X.K M env σ H → ∀ Q : Bool → Hp → Prop, (∀ H', Same H H' → Q b H') → wTs X ifs σ H Q
theorem dTs_nil {X : Cx} {env : List Sl} : dTs X [] env true := fun M σ H ok Q q pins s I => pts_nil.run pins s σ H Q I (q H (Same.refl H))
theorem dTs_one {X : Cx} {env : List Sl} {c : Expr} {b : Bool} (h : dT X c env b) : dTs X [c] env b := fun M σ H ok Q q pins s I => (pts_one pt_w).run pins s σ H Q I (h M σ H ok Q q)
/-- one turn of a comprehension's block -/
def dTurn (X : Cx) (scope : Scope) (own : List (Str × Nat)) (tg : Expr) (ifs : List Expr) (elt : Expr) (env : List Sl) (d : PyData) (b : Bool) (r : Rs) : Prop := ∃ is env2, (∀ i ∈ is, i ∈ own.map (·.2)) ∧
  ∀ (s : Shared) (H : Hp) (C : Addr) (cl : List (Str × Addr)) (fp : List Addr), dG (X.blk s H scope (compEnvC scope cl C X.env) fp) tg (wipeD env (own.map (·.2))) d is env2 ∧
    dTs (X.blk s H scope (compEnvC scope cl C X.env) fp) ifs env2 b ∧ (b = true → dE (X.blk s H scope (compEnvC scope cl C X.env) fp) elt env2 r)
section
variable {X : Cx} {tg elt iter : Expr} {ifs : List Expr} {scope : Scope} {own : List (Str × Nat)} {env : List Sl} {pos : Pos}
def bG (X : Cx) (scope : Scope) (tg : Expr) : TG := fun v σ H Q => ∀ (s : Shared) (H0 : Hp) (C : Addr) (cl : List (Str × Addr)) (fp : List Addr), wG (X.blk s H0 scope (compEnvC scope cl C X.env) fp) tg v σ H Q
def bT (X : Cx) (scope : Scope) (ifs : List Expr) : TT := fun σ H Q => ∀ (s : Shared) (H0 : Hp) (C : Addr) (cl : List (Str × Addr)) (fp : List Addr), wTs (X.blk s H0 scope (compEnvC scope cl C X.env) fp) ifs σ H Q
def bE (X : Cx) (scope : Scope) (elt : Expr) : TE := fun σ H Q => ∀ (s : Shared) (H0 : Hp) (C : Addr) (cl : List (Str × Addr)) (fp : List Addr), wE (X.blk s H0 scope (compEnvC scope cl C X.env) fp) elt σ H Q
theorem bg_ok : ∀ (s : Shared) (H : Hp) (C : Addr) (cl : List (Str × Addr)) (fp : List Addr), PG (X.blk s H scope (compEnvC scope cl C X.env) fp) tg (bG X scope tg) := fun s H C cl fp => ⟨fun pins s1 σ H1 v u Q I r h => h s H C cl fp pins s1 u I r⟩
theorem bt_ok : ∀ (s : Shared) (H : Hp) (C : Addr) (cl : List (Str × Addr)) (fp : List Addr), PTs (X.blk s H scope (compEnvC scope cl C X.env) fp) ifs (bT X scope ifs) := fun s H C cl fp => ⟨fun pins s1 σ H1 Q I h => h s H C cl fp pins s1 I⟩
theorem be_ok : ∀ (s : Shared) (H : Hp) (C : Addr) (cl : List (Str × Addr)) (fp : List Addr), PE (X.blk s H scope (compEnvC scope cl C X.env) fp) elt (bE X scope elt) := fun s H C cl fp => ⟨fun pins s1 σ H1 Q I h => h s H C cl fp pins s1 I⟩
theorem lc_read {α : Type} {xs : List α} {g : α → PyData} {pt : α → Bool} {h : α → Rs} (hi : dI X tg iter env (xs.map g)) (hlen : xs.length ≤ 100000) (turn : ∀ x ∈ xs, dTurn X scope own tg ifs elt env (g x) (pt x) (h x)) {M : List Addr} {σ : L2.St} {H : Hp} (ok : EnvOk X.K M env σ H)
    {Q : VK} (q : ∀ v H', Same H H' → RvOk X.K M H H' v (.fr ((xs.filter pt).map fun x => (h x).data)) → Q v H') : tLc (wI X tg iter) (bG X scope tg) (bT X scope ifs) (bE X scope elt) (own.map (·.2)) σ H Q := by
  refine hi M σ H ok _ fun J H1 e1 it D hD => ?_
  have ok1 : EnvOk X.K M env σ H1 := ok.mono e1
  have hDM : D ∉ M := ok1.notin hD
  refine ⟨fun i m H2 => m = xs.length - i ∧ i ≤ xs.length ∧ Same H1 H2 ∧ ∃ acc, H2 D = some (.lst acc) ∧ RpL X.K (Fz (D :: M) H2) acc (((xs.take i).filter pt).map fun x => (h x).data), ⟨xs.length, rfl, Nat.zero_le _, same_new hD, [], upd_same, .nil⟩, ?_⟩
  rintro i m H2 ⟨rfl, hle, e2, acc, hacc, lacc⟩
  by_cases hi : i < xs.length
  · refine .inr ⟨it.go H2 i e2 (by rw [List.length_map]; exact hi), fun H3 => i + 1 ≤ xs.length ∧ Same H1 H3 ∧ ∃ acc, H3 D = some (.lst acc) ∧ RpL X.K (Fz (D :: M) H3) acc (((xs.take (i + 1)).filter pt).map fun x => (h x).data), fun H3 ⟨a1, a2, a3⟩ => ⟨xs.length - (i + 1), by omega, rfl, a1, a2, a3⟩, fun x H3 hy => ?_⟩
    have hx : (xs.map g)[i]? = some (g xs[i]) := by
      rw [List.getElem?_map, List.getElem?_eq_getElem hi]
      rfl
    have up : Same (Fz M H1) (Fz (D :: M) H2) := fun b u e' => by
      obtain ⟨h1, h2⟩ := fz_some e'
      rw [fz_out (fun z => (List.mem_cons.mp z).elim (ne_of_none h2 hD) h1)]
      exact e2 _ _ h2
    have dm2 : ∀ b ∈ D :: M, ∃ o, H2 b = some o := fun b hb => by
      rcases List.mem_cons.mp hb with z | z
      · exact ⟨_, by rw [z]; exact hacc⟩
      · obtain ⟨o, ho⟩ := ok1.dom b z
        exact ⟨o, e2 _ _ ho⟩
    obtain ⟨e3, rx⟩ := it.yld (D :: M) H2 i _ x H3 dm2 e2 up hx hy
    obtain ⟨is, env2, his, blk⟩ := turn xs[i] (List.getElem_mem hi)
    have ok3 : EnvOk X.K (D :: M) env σ H3 := ok1.wide hD (e2.trans e3) (e3 _ _ hacc)
    have okw := ok3.wiped (own.map (·.2))
    intro s H0 C cl fp
    refine (blk s H0 C cl fp).1 (D :: M) _ H3 x okw rx _ fun σ2 p2 => ⟨?_, ?_⟩
    · rw [p2.wip _ his]
      have ww : ∀ (vs : List Nat) (σ : L2.St), wipe (wipe σ vs) vs = wipe σ vs := fun vs σ => by
        refine List.ext_getElem? fun j => ?_
        rw [wipe_get, wipe_length, wipe_get]
        by_cases hj : j ∈ vs
        · rw [if_pos hj, if_pos hj]
        · rw [if_neg hj, if_neg hj]
      exact ww _ _
    · intro s' H0' C' cl' fp'
      refine (blk s' H0' C' cl' fp').2.1 (D :: M) σ2 H3 p2.ok _ fun H4 e4 => ?_
      have tk : xs.take (i + 1) = xs.take i ++ [xs[i]] := by
        rw [List.take_add_one, List.getElem?_eq_getElem hi]
        rfl
      cases hb : pt xs[i] with
      | false =>
        rw [if_neg Bool.false_ne_true]
        refine ⟨hi, (e2.trans e3).trans e4, acc, (e3.trans e4) _ _ hacc, ?_⟩
        rw [tk, List.filter_append, List.filter_cons, hb, if_neg Bool.false_ne_true, List.filter_nil, List.append_nil]
        exact lacc.mono (fz_same (e3.trans e4))
      | true =>
        rw [if_pos rfl]
        intro s'' H0'' C'' cl'' fp''
        refine (blk s'' H0'' C'' cl'' fp'').2.2 hb (D :: M) σ2 H4 (p2.ok.mono e4) _ fun y H5 e5 ry => ?_
        have hD5 : H5 D = some (.lst acc) := (e5 _ _ ((e3.trans e4) _ _ hacc))
        refine ⟨acc, hD5, ?_, hi, same_mut (((e2.trans e3).trans e4).trans e5) hD, acc ++ [y], upd_same, ?_⟩
        · rw [lacc.length, List.length_map]
          refine Nat.lt_of_le_of_lt (Nat.le_trans (List.length_filter_le _ _) (Nat.le_trans (List.length_take_le _ _) (Nat.le_of_lt hi))) ?_
          exact Nat.lt_of_le_of_lt hlen (by decide)
        · rw [fz_upd List.mem_cons_self, tk, List.filter_append, List.filter_cons, hb, if_pos rfl, List.filter_nil, List.map_append]
          exact (lacc.mono (fz_same ((e3.trans e4).trans e5))).append (.cons ry.data .nil)
  · have ei : i = xs.length := by omega
    subst ei
    refine .inl ⟨it.stop H2 _ e2 (by rw [List.length_map]; exact Nat.le_refl _), q _ H2 (e1.trans e2) ⟨D, acc, rfl, e1.free hD, hDM, hacc, ?_⟩⟩
    rw [List.take_length] at lacc
    exact lacc
theorem dE_lc {α : Type} {xs : List α} {g : α → PyData} {pt : α → Bool} {h : α → Rs} (hc : X.calm = true) (hN : X.N.Nodup) (ok : BlkOk X.N X.env.scope scope own) (hs : ∀ x, foldedSetIterable iter X.env x = pure x)
    (hi : dI X tg iter env (xs.map g)) (hlen : xs.length ≤ 100000) (turn : ∀ x ∈ xs, dTurn X scope own tg ifs elt env (g x) (pt x) (h x)) : dE X (.ListComp elt [⟨tg, iter, ifs, 0⟩] scope pos) env (.fr ((xs.filter pt).map fun x => (h x).data)) := fun M σ H okE Q q =>
  wE.of (pe_lc hc hN pi_w ok bg_ok bt_ok be_ok hs) (lc_read hi hlen turn okE q)
/-- without a test -/
theorem dE_lc0 {α : Type} {xs : List α} {g : α → PyData} {h : α → Rs} (own : List (Str × Nat)) (hc : X.calm = true) (hN : X.N.Nodup) (ok : BlkOk X.N X.env.scope scope own) (hs : ∀ x, foldedSetIterable iter X.env x = pure x)
    (hi : dI X tg iter env (xs.map g)) (hlen : xs.length ≤ 100000) (turn : ∀ x ∈ xs, dTurn X scope own tg [] elt env (g x) true (h x)) : dE X (.ListComp elt [⟨tg, iter, [], 0⟩] scope pos) env (.fr (xs.map fun x => (h x).data)) := by
  have z := dE_lc (pt := fun _ => true) (pos := pos) hc hN ok hs hi hlen turn
  rwa [List.filter_eq_self.mpr (fun _ _ => rfl)] at z
end

/-! ### statements -/
structure DEnds where
  nx : List Sl → Prop
  rt : Rs → List Sl → Prop
  bk : List Sl → Prop := fun _ => False
  ct : List Sl → Prop := fun _ => False
/-- a def's running: what its callers may write is B, H0 its heap at the start, HF what stays from there on -/
structure Base (H0 : Hp) (B : List Addr) (HF : Hp) (M : List Addr) (env : List Sl) (σ : L2.St) (H : Hp) : Prop where
  ext : Same H0 H
  sub : ∀ b ∈ B, b ∈ M
  own : ∀ (i : Nat) s l, env[i]? = some s → s.own = true → σ[i]? = some (some (.ref l)) → H0 l = none
  dom : ∀ b ∈ B, ∃ o, H0 b = some o
  frz : Same HF (Fz M H)
def At (K : PySem.W.Frag) (H0 : Hp) (B : List Addr) (HF : Hp) (N : List Sl → Prop) (σ : L2.St) (H : Hp) : Prop := ∃ env M, EnvOk K M env σ H ∧ Base H0 B HF M env σ H ∧ N env
def lift (K : PySem.W.Frag) (H0 : Hp) (B : List Addr) (HF : Hp) (D : DEnds) : Ends where
  nx := At K H0 B HF D.nx
  rt := fun v H => ∃ r env M σ, EnvOk K M env σ H ∧ Base H0 B HF M env σ H ∧ RvOk K M H0 H v r ∧ D.rt r env
  bk := At K H0 B HF D.bk
  ct := At K H0 B HF D.ct
def dZ (H0 : Hp) (X : Cx) (st : Stmt) (D : DEnds) (env : List Sl) : Prop := ∀ B HF M σ H, EnvOk X.K M env σ H → Base H0 B HF M env σ H → wS X st (lift X.K H0 B HF D) σ H
def dZs (H0 : Hp) (X : Cx) (st : List Stmt) (D : DEnds) (env : List Sl) : Prop := ∀ B HF M σ H, EnvOk X.K M env σ H → Base H0 B HF M env σ H → wSs X st (lift X.K H0 B HF D) σ H
abbrev dS (X : Cx) (st : Stmt) (D : DEnds) (env : List Sl) : Prop := dZ X.H_0 X st D env
abbrev dSs (X : Cx) (st : List Stmt) (D : DEnds) (env : List Sl) : Prop := dZs X.H_0 X st D env
section
variable {H0 H H' HF : Hp} {B M : List Addr} {env : List Sl} {σ : L2.St} {K : PySem.W.Frag}
theorem Base.mono (b : Base H0 B HF M env σ H) (e : Same H H') : Base H0 B HF M env σ H' := ⟨b.ext.trans e, b.sub, b.own, b.dom, b.frz.trans (fz_same e)⟩
theorem Base.put {env' : List Sl} {σ' : L2.St} {is : List Nat} (b : Base H0 B HF M env σ H) (p : Put K M H env env' σ σ' is) : Base H0 B HF M env' σ' H := ⟨b.ext, b.sub, fun i s l h1 os h2 => by
  obtain ⟨h3, h4⟩ := p.own i s h1 os
  rw [h4] at h2
  exact b.own i s l h3 os h2, b.dom, b.frz⟩
theorem Base.ow {i : Nat} {p : Addr} {vs : List V} {ds : List PyData} (b : Base H0 B HF M env σ H) (ok : EnvOk K M env σ H) (hp : H p = none) (e : Same H H') (ep : H' p = some (.lst vs)) : Base H0 B HF (p :: M) (env.set i (.ow ds)) (σ.set i (some (.ref p))) H' := by
  refine ⟨b.ext.trans e, fun c hc => List.mem_cons_of_mem _ (b.sub c hc), fun j es l h1 os h2 => ?_, b.dom, b.frz.trans fun c u e' => ?_⟩
  · by_cases ej : i = j
    · subst ej
      have hi : i < env.length := by
        have q := (List.getElem?_eq_some_iff.mp h1).1
        rwa [List.length_set] at q
      rw [List.getElem?_set_self (by rw [← ok.len]; exact hi)] at h2
      cases h2
      exact b.ext.free hp
    · rw [List.getElem?_set_ne ej] at h1 h2
      exact b.own j es l h1 os h2
  · obtain ⟨h1, h2⟩ := fz_some e'
    rw [fz_out (fun z => (List.mem_cons.mp z).elim (ne_of_none h2 hp) h1)]
    exact e _ _ h2
theorem Base.mutate {i : Nat} {p : Addr} {vs : List V} {ds ds' : List PyData} (b : Base H0 B HF M env σ H) (he : env[i]? = some (.ow ds)) (hσ : σ[i]? = some (some (.ref p))) (hp : p ∈ M) : Base H0 B HF M (env.set i (.ow ds')) σ (upd H p (.lst vs)) := by
  refine ⟨same_mut b.ext (b.own i _ p he rfl hσ), b.sub, fun j es l h1 os h2 => ?_, b.dom, by rw [fz_upd hp]; exact b.frz⟩
  by_cases ej : i = j
  · subst ej
    exact b.own i _ l he rfl h2
  · rw [List.getElem?_set_ne ej] at h1
    exact b.own j es l h1 os h2
theorem Base.freeze {i : Nat} {p : Addr} {ds : List PyData} (b : Base H0 B HF M env σ H) (he : env[i]? = some (.ow ds)) (hσ : σ[i]? = some (some (.ref p))) : Base H0 B HF (M.filter fun b => decide (b ≠ p)) (env.set i (.fz (.list ds))) σ H := by
  refine ⟨b.ext, fun c hc => List.mem_filter.mpr ⟨b.sub c hc, decide_eq_true fun z => ?_⟩, fun j es l h1 os h2 => ?_, b.dom, b.frz.trans (fz_sub fun c hc => (List.mem_filter.mp hc).1)⟩
  · obtain ⟨o, ho⟩ := b.dom c hc
    have q := b.own i _ p he rfl hσ
    rw [← z, ho] at q
    cases q
  · have ne : i ≠ j := fun ej => by
      subst ej
      have hi : i < env.length := by
        have q := (List.getElem?_eq_some_iff.mp h1).1
        rwa [List.length_set] at q
      rw [List.getElem?_set_self hi] at h1
      cases h1
      cases os
    rw [List.getElem?_set_ne ne] at h1
    exact b.own j es l h1 os h2
theorem At.low {HF' : Hp} {N : List Sl → Prop} (e : Same HF HF') (h : At K H0 B HF' N σ H) : At K H0 B HF N σ H := by
  obtain ⟨env, M, h1, h2, h3⟩ := h
  exact ⟨env, M, h1, ⟨h2.ext, h2.sub, h2.own, h2.dom, e.trans h2.frz⟩, h3⟩
end
section
variable {H0 : Hp} {X : Cx} {e a b c : Expr} {es : List Expr} {st : Stmt} {sts : List Stmt} {env : List Sl} {r : Rs} {d : PyData} {ds : List PyData} {pos p py : Pos} {i j : Int} {k k' : Bool} {D : DEnds} {n : Nat} {x : Str}
theorem dSs_nil (h : D.nx env) : dZs H0 X [] D env := fun B HF M σ H ok ba => wSs.of pss_nil ⟨env, M, ok, ba, h⟩
theorem dSs_cons (h : dZ H0 X st { D with nx := dZs H0 X sts D } env) : dZs H0 X (st :: sts) D env := fun B HF M σ H ok ba => by
  refine wSs.of (pss_cons ps_w pss_w) ?_
  intro pins s I
  refine thn (h B HF M σ H ok ba pins s I) fun f s1 q => ?_
  cases f with
  | next =>
    obtain ⟨σ', H', I', env', M', ok', ba', q⟩ := q
    exact ⟨σ', H', I', q B HF M' σ' H' ok' ba'⟩
  | ret v => exact q
  | brk => exact q
  | cont => exact q
theorem dS_mono {D' : DEnds} (h : dZ H0 X st D env) (h1 : ∀ v, D.nx v → D'.nx v) (h2 : ∀ v env, D.rt v env → D'.rt v env) (h3 : ∀ v, D.bk v → D'.bk v) (h4 : ∀ v, D.ct v → D'.ct v) : dZ H0 X st D' env := fun B HF M σ H ok ba pins s I => by
  refine thn (h B HF M σ H ok ba pins s I) fun f s1 q => ?_
  cases f with
  | next =>
    obtain ⟨σ', H', I', env', M', ok', ba', q⟩ := q
    exact ⟨σ', H', I', env', M', ok', ba', h1 _ q⟩
  | ret v =>
    obtain ⟨v', σ', H', I', rv, r, env', M', σ2, a0, a1, a2, a3⟩ := q
    exact ⟨v', σ', H', I', rv, r, env', M', σ2, a0, a1, a2, h2 _ _ a3⟩
  | brk =>
    obtain ⟨σ', H', I', env', M', ok', ba', q⟩ := q
    exact ⟨σ', H', I', env', M', ok', ba', h3 _ q⟩
  | cont =>
    obtain ⟨σ', H', I', env', M', ok', ba', q⟩ := q
    exact ⟨σ', H', I', env', M', ok', ba', h4 _ q⟩
/-- a name's own list stays from now on -/
theorem dSs_freeze {m : Nat} (he : env[m]? = some (.ow ds)) (h : dZs H0 X sts D (env.set m (.fz (.list ds)))) : dZs H0 X sts D env := fun B HF M σ H ok ba => by
  obtain ⟨l, vs, hσ, _⟩ := ok.own he
  exact h B HF _ σ H (ok.freeze he hσ) (ba.freeze he hσ)
theorem dS_freeze {m : Nat} (he : env[m]? = some (.ow ds)) (h : dZ H0 X st D (env.set m (.fz (.list ds)))) : dZ H0 X st D env := fun B HF M σ H ok ba => by
  obtain ⟨l, vs, hσ, _⟩ := ok.own he
  exact h B HF _ σ H (ok.freeze he hσ) (ba.freeze he hσ)
theorem dS_pass (h : D.nx env) : dZ H0 X (.Pass pos) D env := fun B HF M σ H ok ba => wS.of ps_pass ⟨env, M, ok, ba, h⟩
theorem dS_break (h : D.bk env) : dZ H0 X (.Break pos) D env := fun B HF M σ H ok ba => wS.of ps_break ⟨env, M, ok, ba, h⟩
theorem dS_continue (h : D.ct env) : dZ H0 X (.Continue pos) D env := fun B HF M σ H ok ba => wS.of ps_continue ⟨env, M, ok, ba, h⟩
/-- name = e, data that stays -/
theorem dS_set (he : dE X e env r) (h : D.nx (env.set n (.fz r.data))) (hN : X.N.Nodup) (hi : X.N[n]? = some x) (hx : Loc X.env.scope x) (hs : swapsWith e (some (.Name x py)) pos.line X.env = pure false)
    (hf : X.fn x = true ∨ X.env.scope.names.lookup x = some .local) : dZ H0 X (.Assign [.Name x py] e pos) D env := fun B HF M σ H ok ba =>
  wS.of (ps_set hN hi hx pe_w hs hf) (he M σ H ok _ fun v H1 e1 r1 => by
    have p := put_set (i := n) (ok.mono e1) r1.data
    exact ⟨_, M, p.ok, (ba.mono e1).put p, h⟩)
/-- name = a new list that the name owns -/
theorem dS_seto (he : dE X e env (.fr ds)) (h : D.nx (env.set n (.ow ds))) (hN : X.N.Nodup) (hi : X.N[n]? = some x) (hx : Loc X.env.scope x) (hs : swapsWith e (some (.Name x py)) pos.line X.env = pure false)
    (hf : X.fn x = true ∨ X.env.scope.names.lookup x = some .local) : dZ H0 X (.Assign [.Name x py] e pos) D env := fun B HF M σ H ok ba =>
  wS.of (ps_set hN hi hx pe_w hs hf) (he M σ H ok _ fun v H1 e1 ⟨t, vs, ev, ht, hM, hl, l⟩ => by
    subst ev
    exact ⟨_, t :: M, ok.set_ow ht e1 hl l, ba.ow ok ht e1 hl, h⟩)
/-- name = [..] on one line, the name a local -/
theorem lc_set {tg elt iter : Expr} {ifs : List Expr} {scope : Scope} {own : List (Str × Nat)} {α : Type} {xs : List α} {g : α → PyData} {pt : α → Bool} {h : α → Rs} (hc : X.calm = true) (hN : X.N.Nodup) (hy : X.N[n]? = some x) (hyl : X.env.scope.names.lookup x = some .local)
    (hsw : swapsWith (.ListComp elt [⟨tg, iter, ifs, 0⟩] scope p) (some (.Name x py)) pos.line X.env = pure true) (ok : BlkOk X.N X.env.scope scope own) (hs : ∀ x, foldedSetIterable iter X.env x = pure x)
    (hi : dI X tg iter env (xs.map g)) (hlen : xs.length ≤ 100000) (turn : ∀ x ∈ xs, dTurn X scope own tg ifs elt env (g x) (pt x) (h x)) (k : D.nx (env.set n (.fz (.list ((xs.filter pt).map fun x => (h x).data)))) ∨ D.nx (env.set n (.ow ((xs.filter pt).map fun x => (h x).data)))) :
    dZ H0 X (.Assign [.Name x py] (.ListComp elt [⟨tg, iter, ifs, 0⟩] scope p) pos) D env := fun B HF M σ H okE ba => by
  refine wS.of (ps_setLc hc hN hy hyl hsw pi_w ok bg_ok bt_ok be_ok hs) ?_
  refine lc_read hi hlen turn okE (Q := fun x H1 => gName n x σ H1 (lift X.K H0 B HF D).nx) fun v H1 e1 r1 => ?_
  rcases k with k | k
  · have p := put_set (i := n) (okE.mono e1) r1.data
    exact ⟨_, M, p.ok, (ba.mono e1).put p, k⟩
  · obtain ⟨t, vs, ev, ht, hM, hl, l⟩ := r1
    subst ev
    exact ⟨_, t :: M, okE.set_ow ht e1 hl l, ba.ow okE ht e1 hl, k⟩
/-- a target of any form -/
theorem dS_tgt {tg : Expr} {is : List Nat} {env' : List Sl} (he : dE X e env r) (hg : dG X tg env r.data is env') (h : D.nx env') (hs : swapsWithSole [tg] e pos.line X.env = pure false) (hw : swappedStores [tg] e X.env = pure none)
    (h1 : (assignEach [tg] X.env).map (·.2) = [assign tg X.env]) : dZ H0 X (.Assign [tg] e pos) D env := fun B HF M σ H ok ba =>
  wS.of (ps_asg pe_w pg_w hs hw h1) (he M σ H ok _ fun v H1 e1 r1 => hg M σ H1 v (ok.mono e1) r1.data _ fun σ' p => ⟨_, M, p.ok, (ba.mono e1).put p, h⟩)
/-- xs[i] = e, xs a name's own list -/
theorem dS_ix {j : Nat} {ps : Pos} (hx : env[n]? = some (.ow ds)) (he : dE X e env r) (hb : dE X b env (.fz (.int i))) (hj : ixN ds.length i = some j) (h : D.nx (env.set n (.ow (ds.set j r.data)))) (hN : X.N[n]? = some x) (hv : Vis X.env.scope x)
    (hs : swapsWithSole [.Subscript (.Name x py) b ps] e pos.line X.env = pure false) (hw : swappedStores [.Subscript (.Name x py) b ps] e X.env = pure none)
    (h1 : (assignEach [.Subscript (.Name x py) b ps] X.env).map (·.2) = [assign (.Subscript (.Name x py) b ps) X.env])
    (ha : ∀ v, assign (.Subscript (.Name x py) b ps) X.env v = (do
      let ov ← holding [v] (eval (.Name x py) X.env)
      let iv ← holding [v, ov] (eval b X.env)
      standAt ps
      holding [v, ov, iv] (setItem ov iv v)
      release [v, ov, iv] [])) (hd : (x == ("__debug__" : Str)) = false := by decide)
    (hcd : (x == ("__classdict__" : Str)) = false := by decide) : dZ H0 X (.Assign [.Subscript (.Name x py) b ps] e pos) D env := fun B HF M σ H ok ba =>
  wS.of (ps_asg pe_w (pg_sub (pe_var hN hv hd hcd) pe_w set_list ha) hs hw h1) (he M σ H ok _ fun v H1 e1 r1 => by
    obtain ⟨l, vs, hσ, hl, _⟩ := ok.own hx
    refine ⟨_, hσ, hb M σ H1 (ok.mono e1) _ fun u H2 e2 r2 => ?_⟩
    have ok2 := (ok.mono e1).mono e2
    obtain ⟨l', vs2, hσ2, hl2, hH2, lr2⟩ := ok2.own hx
    rw [hσ] at hσ2
    cases hσ2
    rw [Rp.int_v r2]
    refine ⟨l, vs2, _, j, rfl, rfl, hH2, ?_, ?_⟩
    · rw [lr2.length]
      exact hj
    · exact ⟨_, M, ok2.mutate hx hσ hl2 (lr2.set (r1.data.mono (fz_same e2)) j), ((ba.mono e1).mono e2).mutate hx hσ hl2, h⟩)
/-- xs.append(e), xs a name's own list -/
theorem dS_append {ap cp : Pos} (hx : env[n]? = some (.ow ds)) (he : dE X e env r) (hlen : ds.length < 100000) (h : D.nx (env.set n (.ow (ds ++ [r.data])))) (hN : X.N[n]? = some x) (hv : Vis X.env.scope x)
    (hbase : attributeBase (.Name x py) "append" X.env (eval (.Name x py) X.env) = eval (.Name x py) X.env := by rfl)
    (hfew : ((backTo cp (starEach [e] X.env)).all (fun x => !x.1) && (backToKw cp (keywordEach [] X.env)).all (fun x => x.1.isSome) && decide ([e].length + ([] : List Keyword).length + (if ([] : List Keyword).isEmpty then 0 else 1) < 30)) = true := by rfl)
    (hline : (ap.endLine == cp.line) = true := by rfl) (hs : starEach [e] X.env = (false, eval e X.env) :: starEach [] X.env := by rfl) (hsw : swapsWith (.Call (.Attribute (.Name x py) "append" ap) [e] [] cp) none pos.line X.env = pure false := by rfl)
    (hd : (x == ("__debug__" : Str)) = false := by decide) (hcd : (x == ("__classdict__" : Str)) = false := by decide) : dZ H0 X (.Expr (.Call (.Attribute (.Name x py) "append" ap) [e] [] cp) pos) D env := fun B HF M σ H ok ba =>
  wS.of (ps_expr (pe_bm PySem.F.plainAttrs_list PySem.F.slot_list_append PySem.F.type_list_append mt_append (pe_var hN hv hd hcd) (pa_cons pe_w pa_nil hs) hbase hfew hline hs) hsw) (by
    obtain ⟨l, vs, hσ, hl, hH, lr⟩ := ok.own hx
    refine ⟨_, hσ, .inl ⟨rfl, vs, SqL.of hH⟩, he M σ H ok _ fun v H1 e1 r1 => ?_⟩
    have ok1 := ok.mono e1
    obtain ⟨l', vs1, hσ1, hl1, hH1, lr1⟩ := ok1.own hx
    rw [hσ] at hσ1
    cases hσ1
    refine ⟨l, vs1, v, rfl, rfl, hH1, ?_, ?_⟩
    · rw [lr1.length]
      exact Nat.lt_of_lt_of_le hlen (by decide)
    · exact ⟨_, M, ok1.mutate hx hσ hl1 (lr1.append (.cons r1.data .nil)), (ba.mono e1).mutate hx hσ hl1, h⟩)
theorem dS_ret (he : dE X e env r) (h : D.rt r env) : dZ H0 X (.Return (some e) pos) D env := fun B HF M σ H ok ba =>
  wS.of (ps_ret pe_w) (he M σ H ok _ fun v H1 e1 r1 => ⟨r, env, M, σ, ok.mono e1, ba.mono e1, r1.back ba.ext, h⟩)
theorem dS_retN (h : D.rt (.fz .none) env) : dZ H0 X (.Return none pos) D env := fun B HF M σ H ok ba => wS.of ps_retN ⟨.fz .none, env, M, σ, ok, ba, .non, h⟩
/-- return xs, xs a name's own list -/
theorem dS_reto (hx : env[n]? = some (.ow ds)) (h : D.rt (.fr ds) (env.set n (.fz (.list ds)))) (hN : X.N[n]? = some x) (hv : Vis X.env.scope x) (hd : (x == ("__debug__" : Str)) = false := by decide)
    (hcd : (x == ("__classdict__" : Str)) = false := by decide) : dZ H0 X (.Return (some (.Name x py)) pos) D env := fun B HF M σ H ok ba =>
  wS.of (ps_ret (pe_var hN hv hd hcd)) (by
    obtain ⟨l, vs, hσ, hl, hH, lr⟩ := ok.own hx
    have h0 : H0 l = none := ba.own n _ l hx rfl hσ
    have hB : l ∉ M.filter fun b => decide (b ≠ l) := fun z => by
      have z2 := (List.mem_filter.mp z).2
      simp at z2
    refine ⟨_, hσ, .fr ds, _, _, σ, ok.freeze hx hσ, ba.freeze hx hσ, ⟨l, vs, rfl, h0, hB, hH, lr.mono (fz_sub fun b hb => ?_)⟩, h⟩
    exact (List.mem_cons.mp hb).elim (fun z => by rw [z]; exact hl) fun z => (List.mem_filter.mp z).1)
theorem dS_if {as bs : List Stmt} (hc : dT X c env k) (h1 : k = true → dZs H0 X as D env) (h2 : k = false → dZs H0 X bs D env) : dZ H0 X (.If c as bs pos) D env := fun B HF M σ H ok ba =>
  wS.of (ps_if pt_w pss_w pss_w) (hc M σ H ok _ fun H1 e1 => by
    cases k with
    | true => exact iteT (h1 rfl B HF M σ H1 (ok.mono e1) (ba.mono e1))
    | false => exact iteF (h2 rfl B HF M σ H1 (ok.mono e1) (ba.mono e1)))
theorem dS_expr (he : dE X e env r) (h : D.nx env) (hs : swapsWith e none pos.line X.env = pure false := by rfl) : dZ H0 X (.Expr e pos) D env := fun B HF M σ H ok ba =>
  wS.of (ps_expr pe_w hs) (he M σ H ok _ fun v H1 e1 r1 => ⟨env, M, ok.mono e1, ba.mono e1, h⟩)
theorem dS_aug {m : Nat} (hx : env[m]? = some (.fz (.int i))) (he : dE X e env (.fz (.int j))) (h : D.nx (env.set m (.fz (.int (i + j))))) (hN : X.N.Nodup) (hi : X.N[m]? = some x) (hl : Loc X.env.scope x)
    (hf : X.fn x = true ∨ X.env.scope.names.lookup x = some .local) : dZ H0 X (.AugAssign (.Name x py) .Add e pos) D env := fun B HF M σ H ok ba =>
  wS.of (ps_aug hN hi hl pe_w ip_add hf) (by
    obtain ⟨v, hσ, rv⟩ := ok.slot hx
    refine ⟨v, hσ, he M σ H ok _ fun u H1 e1 r1 => ?_⟩
    rw [Rp.int_v rv, Rp.int_v r1]
    have p := put_set (i := m) (ok.mono e1) (Rp.int (K := X.K) (H := Fz M H1) (i + j))
    exact ⟨i, j, rfl, rfl, _, M, p.ok, (ba.mono e1).put p, h⟩)
/-- for: what holds of the names ahead of each turn -/
theorem dS_for {tg iter : Expr} {body : List Stmt} (I : Nat → List Sl → Prop) (hp : PassesOwn (model X.prog X.w) X.A X.env X.xe) (hc : X.calm = true) (hs : ∀ x, foldedSetIterable iter X.env x = pure x) (hi : dIf X tg iter env ds) (h0 : I 0 env)
    (turn : ∀ m d env1, ds[m]? = some d → I m env1 → ∃ is env2, dG X tg env1 d is env2 ∧ dZs H0 X body { nx := I (m + 1), ct := I (m + 1), bk := D.nx, rt := D.rt } env2) (hd : ∀ env1, I ds.length env1 → D.nx env1) : dZ H0 X (.For tg iter body [] pos) D env := fun B HF M σ H ok ba => by
  refine wS.of (ps_for hp hc pi_w pg_w pss_w hs) (hi M σ H ok _ fun J H1 e1 it => ?_)
  have ba1 := ba.mono e1
  have self : Base H0 B (Fz M H1) M env σ H1 := ⟨ba1.ext, ba1.sub, ba1.own, ba1.dom, Same.refl _⟩
  refine ⟨fun m z σ' H' => z = ds.length - m ∧ m ≤ ds.length ∧ At X.K H0 B (Fz M H1) (I m) σ' H', ⟨ds.length, rfl, Nat.zero_le _, env, M, ok.mono e1, self, h0⟩, ?_⟩
  rintro m z σ2 H2 ⟨rfl, hm, env2, M2, ok2, ba2, i2⟩
  have e2 : Same (Fz M H1) H2 := ba2.frz.trans fz_full
  by_cases hlt : m < ds.length
  · refine .inr ⟨it.go H2 m e2 hlt, At X.K H0 B (Fz M H1) (I (m + 1)), fun σ' H' h' => ⟨ds.length - (m + 1), by omega, rfl, hlt, h'⟩, fun v H3 hy => ?_⟩
    obtain ⟨e3, rv⟩ := it.yld M2 H2 m _ v H3 ok2.dom e2 (by rw [fz_fz]; exact ba2.frz) (List.getElem?_eq_getElem hlt) hy
    obtain ⟨is, env3, hg, hb⟩ := turn m _ env2 (List.getElem?_eq_getElem hlt) i2
    refine hg M2 σ2 H3 v (ok2.mono e3) rv _ fun σ3 p3 => ?_
    intro pins s Iv
    refine thn (hb B (Fz M H1) M2 σ3 H3 p3.ok ((ba2.mono e3).put p3) pins s Iv) fun f s1 q => ?_
    cases f with
    | next => exact q
    | cont => exact q
    | ret w =>
      obtain ⟨v', σ', H', I', rv, r, env', M', σ2, a0, a1, a2, a3⟩ := q
      exact ⟨v', σ', H', I', rv, r, env', M', σ2, a0, ⟨a1.ext, a1.sub, a1.own, a1.dom, ba1.frz.trans a1.frz⟩, a2, a3⟩
    | brk =>
      obtain ⟨σ', H', I', q⟩ := q
      exact ⟨σ', H', I', q.low ba1.frz⟩
  · have em : m = ds.length := by omega
    subst em
    refine .inl ⟨it.stop H2 _ e2 (Nat.le_refl _), ?_⟩
    exact At.low ba1.frz ⟨env2, M2, ok2, ba2, hd env2 i2⟩
/-- while: what holds of the names ahead of each turn, and a measure -/
theorem dS_while {body : List Stmt} (I : Nat → List Sl → Prop) (hp : PassesOwn (model X.prog X.w) X.A X.env X.xe) {m0 : Nat} (h0 : I m0 env)
    (turn : ∀ m env1, I m env1 → ∃ k, dT X c env1 k ∧ (k = true → dZs H0 X body { nx := fun v => ∃ m', m' < m ∧ I m' v, ct := fun v => ∃ m', m' < m ∧ I m' v, bk := D.nx, rt := D.rt } env1) ∧ (k = false → D.nx env1)) : dZ H0 X (.While c body [] pos) D env := fun B HF M σ H ok ba => by
  refine wS.of (ps_while hp pt_w pss_w) ⟨fun m σ' H' => At X.K H0 B HF (I m) σ' H', ⟨m0, env, M, ok, ba, h0⟩, ?_⟩
  rintro m σ2 H2 ⟨env2, M2, ok2, ba2, i2⟩
  obtain ⟨k, hk, h1, h2⟩ := turn m env2 i2
  refine hk M2 σ2 H2 ok2 _ fun H3 e3 => ?_
  cases k with
  | true =>
    refine iteT ⟨At X.K H0 B HF fun v => ∃ m', m' < m ∧ I m' v, fun σ' H' ⟨env', M', ok', ba', m', hm, i'⟩ => ⟨m', hm, env', M', ok', ba', i'⟩, ?_⟩
    exact h1 rfl B HF M2 σ2 H3 (ok2.mono e3) (ba2.mono e3)
  | false => exact iteF ⟨env2, M2, ok2.mono e3, ba2.mono e3, h2 rfl⟩
end

/-! ### a def -/
def args (N : List Str) (ds : List PyData) : List Sl := ds.map Sl.fz ++ List.replicate (N.length - ds.length) .no
theorem env_start {K : PySem.W.Frag} {M : List Addr} {H : Hp} {N : List Str} {vs : List V} {ds : List PyData} (hd : ∀ b ∈ M, ∃ o, H b = some o) (l : RpL K (Fz M H) vs ds) : EnvOk K M (args N ds) (start N vs) H := by
  refine ⟨?_, fun i s hs => ?_, fun i j s1 s2 a h1 _ os => ?_, hd⟩
  · unfold args L2.start
    rw [List.length_append, List.length_append, List.length_map, List.length_map, List.length_replicate, List.length_replicate, l.length]
  · unfold args at hs
    by_cases hi : i < ds.length
    · rw [List.getElem?_append_left (by rw [List.length_map]; exact hi), List.getElem?_map, List.getElem?_eq_getElem hi] at hs
      cases hs
      obtain ⟨v, h1, h2⟩ := l.get (List.getElem?_eq_getElem hi)
      refine ⟨v, ?_, h2⟩
      unfold L2.start
      rw [List.getElem?_append_left (by rw [List.length_map, l.length]; exact hi), List.getElem?_map, h1]
      rfl
    · rw [List.getElem?_append_right (by rw [List.length_map]; omega)] at hs
      have z := List.mem_of_getElem? hs
      rw [List.mem_replicate] at z
      rw [z.2]
      trivial
  · unfold args at h1
    have z := List.mem_of_getElem? h1
    rcases List.mem_append.mp z with z | z
    · obtain ⟨d, _, e⟩ := List.mem_map.mp z
      rw [← e] at os
      cases os
    · rw [List.mem_replicate] at z
      rw [z.2] at os
      cases os
section
variable {P : Program} {w : World} {K : PySem.W.Frag} {mg : Str → Option Value} {base : Heap}
abbrev cxD (P : Program) (w : World) (K : PySem.W.Frag) (mg : Str → Option Value) (base : Heap) (N : List Str) (qual : Str) (scope : Scope) (f : Addr) (cd : Value) (A : Around) (outer : List Env) (s : Shared) (H : Hp) (E : XK) : Cx := (cxOf CX0 P w K mg base N qual scope f cd A outer s H E).nox
/-- THE RULE for a def -/
theorem fn_ok {x qual : Str} {st : Stmt} {f : Addr} {fd : FuncData} {N ps : List Str} {k : Nat} {R : List PyData → Rs → Prop} (F : Fun K x qual st f fd) (S : FnScope N ps (defScope st))
    (body : ∀ (cdv : Value) (A : Around) (outer : List Env) (s : Shared) (H : Hp) (E : XK), Room k (A.deeper (envOfC qual (defScope st) s.heap.objs.size f cdv)) → ∀ ds r, ds.length = ps.length → R ds r →
      dSs (cxD P w K mg base N qual (defScope st) f cdv A outer s H E) (defBody st) { nx := fun _ => r = .fz .none, rt := fun r' _ => r'.le r } (args N ds)) : FnOk P w K mg base CX0 (k + 1) f fd ps (spF K ps.length R) := by
  refine F.ok S (fun vs H Q E h => ?_) (fun cdv A outer s H vs Q E hr h => ?_)
  · obtain ⟨M, ds, r, h1, _, h3, _⟩ := h
    rw [h3.length, h1]
  · obtain ⟨M, ds, r, h1, h2, h3, h4, q⟩ := h
    refine ⟨_, pss_w, ?_⟩
    intro pins s1 I
    have ok := env_start (N := N) h2 h3
    have noow : ∀ (i : Nat) (s : Sl), (args N ds)[i]? = some s → s.own = true → False := fun i s e1 os => by
      have z := List.mem_of_getElem? e1
      unfold args at z
      rcases List.mem_append.mp z with z | z
      · obtain ⟨d, _, e⟩ := List.mem_map.mp z
        rw [← e] at os
        cases os
      · rw [List.mem_replicate] at z
        rw [z.2] at os
        cases os
    have ba : Base H M (Fz M H) M (args N ds) (L2.start N vs) H := ⟨Same.refl _, fun _ z => z, fun i s l e1 os _ => (noow i s e1 os).elim, h2, Same.refl _⟩
    refine thn (body cdv A outer s H E hr ds r h1 h4 M (Fz M H) M (L2.start N vs) H ok ba pins s1 I) fun fl s2 z => ?_
    cases fl with
    | next =>
      obtain ⟨σ', H', I', env', M', ok', ba', z⟩ := z
      refine ⟨σ', H', I', q .non H' ba'.ext ?_⟩
      rw [z]
      exact .non
    | ret u =>
      obtain ⟨v', σ', H', I', rv, r', env', M', σ2, a0, a1, a2, a3⟩ := z
      exact ⟨v', σ', H', I', rv, q v' H' a1.ext ((a2.sub a1.sub).le a3)⟩
    | brk =>
      obtain ⟨σ', H', I', z⟩ := z
      obtain ⟨_, _, _, _, z⟩ := z
      exact z.elim
    | cont =>
      obtain ⟨σ', H', I', z⟩ := z
      obtain ⟨_, _, _, _, z⟩ := z
      exact z.elim
end
end Dl

namespace Dl
open PySem PySem.Spec PyProof.Rows L2

section
variable {X : Cx} {e a b c : Expr} {es : List Expr} {env : List Sl} {r : Rs} {d : PyData} {ds : List PyData} {pos p : Pos} {i j : Int} {k k' : Bool} {x : Str}
/-- the name in the n-th place -/
theorem nm (n : Nat) (he : env[n]? = some (.fz d) := by rfl) (hN : X.N[n]? = some x := by rfl) (hv : Vis X.env.scope x := by first | exact Or.inl rfl | exact Or.inr (Or.inl rfl) | exact Or.inr (Or.inr rfl)) (hd : (x == ("__debug__" : Str)) = false := by decide)
    (hcd : (x == ("__classdict__" : Str)) = false := by decide) : dE X (.Name x pos) env (.fz d) := dE_name he hN hv hd hcd
theorem ow (n : Nat) (he : env[n]? = some (.ow ds) := by rfl) (hN : X.N[n]? = some x := by rfl) (hv : Vis X.env.scope x := by first | exact Or.inl rfl | exact Or.inr (Or.inl rfl) | exact Or.inr (Or.inr rfl)) (hd : (x == ("__debug__" : Str)) = false := by decide)
    (hcd : (x == ("__classdict__" : Str)) = false := by decide) : dR X (.Name x pos) env (.list ds) := dR_own he hN hv hd hcd
/-- [x, y][1 if t else 0] -/
theorem dE_pick {m l : Int} (ha : dR X a env (.list [.int m, .int l])) (hb : dE X b env (.fz (.int (if k = true then 1 else 0)))) (hs : PlainIx b) : dE X (.Subscript a b pos) env (.fz (.int (if k = true then l else m))) := by
  cases k with
  | true => exact dE_ixL ha hb rfl hs
  | false => exact dE_ixL ha hb rfl hs
end

/-! ### a def where it stands -/
structure DefAt (K : PySem.W.Frag) (mg : Str → Option Value) (x : Str) (st : Stmt) : Prop where
  ok : ∃ f fd, Fun K x x st f fd ∧ mg x = some (.ref f)
theorem defAt_mk {K : PySem.W.Frag} {mg : Str → Option Value} {h : Heap} {x : Str} {st : Stmt} {f : Addr} {od an : Option Addr} {sl : Array (Option Value)} {oc kV dc pm cd ct : Value} (X : K.In h) (G : h.Ns mainGlobals mg)
    (a : PySem.W.nsIn K mainGlobals x = some (some (.ref f))) (l : K.lookup f = some ⟨oc, od, .func (PySem.W.fnOf x x (defArgs st) (defBody st) (defScope st) .none kV dc pm an cd ct), sl⟩) (c : PySem.W.codeIn K cd x = true) (k : PySem.W.keepIn K (.ref f) = true) : DefAt K mg x st :=
  ⟨f, _, fun_mk l c k, PySem.W.mg_of X G a⟩
abbrev BindOk (x : Str) (st : Stmt) (ps : List Str) : Prop := ∀ (kV doc pm : Value) (an : Option Addr) (cdv ct : Value) (us : List Value), us.length = ps.length → bindArgs (PySem.W.fnOf x x (defArgs st) (defBody st) (defScope st) .none kV doc pm an cdv ct) ⟨us, []⟩ = pure (ps.zip us)
section
variable {P : Program} {w : World} {K : PySem.W.Frag} {mg : Str → Option Value} {base : Heap}
theorem callee {x : Str} {st : Stmt} {N ps : List Str} {k : Nat} {R : List PyData → Rs → Prop} (D : DefAt K mg x st) (S : FnScope N ps (defScope st)) (hb : BindOk x st ps)
    (body : ∀ (f : Addr) (cdv : Value) (A : Around) (outer : List Env) (s : Shared) (H : Hp) (E : XK), Room k (A.deeper (envOfC x (defScope st) s.heap.objs.size f cdv)) → ∀ ds r, ds.length = ps.length → R ds r →
      dSs (cxD P w K mg base N x (defScope st) f cdv A outer s H E) (defBody st) { nx := fun _ => r = .fz .none, rt := fun r' _ => r'.le r } (args N ds)) : Callee P w K mg base (k + 1) x ps R := by
  obtain ⟨f, fd, F, hm⟩ := D.ok
  exact ⟨f, fd, fn_ok F S (body f), hm, F.kp, F.binds hb⟩
abbrev BindKOk (x : Str) (st : Stmt) (ps ks : List Str) (na nb : Nat) : Prop := ∀ (kV doc pm : Value) (an : Option Addr) (cdv ct : Value) (us ws : List Value), us.length = na → ws.length = nb → bindArgs (PySem.W.fnOf x x (defArgs st) (defBody st) (defScope st) .none kV doc pm an cdv ct) ⟨us, ks.zip ws⟩ = pure (ps.zip (us ++ ws))
theorem calleeK {x : Str} {st : Stmt} {N ps ks : List Str} {k na nb : Nat} {R : List PyData → Rs → Prop} (D : DefAt K mg x st) (S : FnScope N ps (defScope st)) (hb : BindKOk x st ps ks na nb) (hp : 0 < ps.length)
    (body : ∀ (f : Addr) (cdv : Value) (A : Around) (outer : List Env) (s : Shared) (H : Hp) (E : XK), Room k (A.deeper (envOfC x (defScope st) s.heap.objs.size f cdv)) → ∀ ds r, ds.length = ps.length → R ds r →
      dSs (cxD P w K mg base N x (defScope st) f cdv A outer s H E) (defBody st) { nx := fun _ => r = .fz .none, rt := fun r' _ => r'.le r } (args N ds)) : CalleeK P w K mg base (k + 1) x ps ks na nb R := by
  obtain ⟨f, fd, F, hm⟩ := D.ok
  refine ⟨f, fd, fn_ok F S (body f), hm, F.kp, ⟨fun s us ws _ hl => ?_, fun {vs us zs ws} r rz => ?_⟩⟩
  · have hc : us.length = na ∧ ws.length = nb := by
      by_cases hc : us.length = na ∧ ws.length = nb
      · exact hc
      · unfold gk at hl
        rw [if_neg hc] at hl
        rw [← hl] at hp
        exact absurd hp (Nat.lt_irrefl _)
    have eg : gk na nb us ws = us ++ ws := by
      unfold gk
      rw [if_pos hc]
    rw [eg]
    obtain ⟨oc, od, kV, doc, pm, an, cdv, ct, osl, rfl, lk, hcd⟩ := F.ex
    exact .of_eq (hb kV doc pm an cdv ct us ws hc.1 hc.2)
  · unfold gk
    rw [r.length, rz.length]
    split
    · exact r.append rz
    · exact .nil
/-! the script handed to a def -/
def spS (K : PySem.W.Frag) (n : Nat) (R : List Int → List PyData → Rs → Prop) : Sp := fun vs H Q _ => ∃ M t ns ws ds r, vs = .ref t :: ws ∧ ds.length = n ∧ (∀ b ∈ M, ∃ o, H b = some o) ∧ SqL K (Fz M H) t (ns.map V.int) ∧ RpL K (Fz M H) ws ds ∧ R ns ds r ∧ ∀ v H', Same H H' → RvOk K M H H' v r → Q v H'
structure CalleeS (P : Program) (w : World) (K : PySem.W.Frag) (mg : Str → Option Value) (base : Heap) (k : Nat) (x : Str) (ps : List Str) (n : Nat) (R : List Int → List PyData → Rs → Prop) : Prop where
  ok : ∃ f fd, FnOk P w K mg base CX0 k f fd ps (spS K n R) ∧ mg x = some (.ref f) ∧ PySem.W.keepIn K (.ref f) = true ∧ Binds K fd ps []
theorem CalleeS.mono {k k' : Nat} {x : Str} {ps : List Str} {n : Nat} {R : List Int → List PyData → Rs → Prop} (h : CalleeS P w K mg base k x ps n R) (hk : k ≤ k') : CalleeS P w K mg base k' x ps n R := by
  obtain ⟨f, fd, F, r⟩ := h.ok
  exact ⟨f, fd, F.mono hk, r⟩
def argsS (N : List Str) (ns : List Int) (ds : List PyData) : List Sl := .sc ns :: (ds.map Sl.fz ++ List.replicate (N.length - (ds.length + 1)) .no)
theorem env_startS {M : List Addr} {H : Hp} {N : List Str} {t : Addr} {ns : List Int} {vs : List V} {ds : List PyData} (hd : ∀ b ∈ M, ∃ o, H b = some o) (ht : SqL K (Fz M H) t (ns.map V.int)) (l : RpL K (Fz M H) vs ds) : EnvOk K M (argsS N ns ds) (L2.start N (.ref t :: vs)) H := by
  have z := env_start (N := N.drop 1) hd l
  refine ⟨?_, fun i s hs => ?_, fun i j s1 s2 a h1 _ os => ?_, hd⟩
  · unfold argsS L2.start
    rw [List.length_cons, List.length_append, List.length_append, List.length_map, List.length_map, List.length_replicate, List.length_replicate, List.length_cons, l.length]
    omega
  · cases i with
    | zero =>
      cases hs
      exact ⟨t, rfl, ht⟩
    | succ i =>
      have e1 : (argsS N ns ds)[i + 1]? = (args (N.drop 1) ds)[i]? := by
        unfold argsS args
        rw [List.length_drop, Nat.sub_sub, Nat.add_comm 1 ds.length]
        rfl
      have e2 : (L2.start N (.ref t :: vs))[i + 1]? = (L2.start (N.drop 1) vs)[i]? := by
        unfold L2.start
        rw [List.length_drop, Nat.sub_sub, List.length_cons, Nat.add_comm 1 vs.length]
        rfl
      rw [e1] at hs
      rw [e2]
      exact z.sl i s hs
  · unfold argsS at h1
    have z := List.mem_of_getElem? h1
    rcases List.mem_cons.mp z with z | z
    · rw [z] at os
      cases os
    · rcases List.mem_append.mp z with z | z
      · obtain ⟨d, _, e⟩ := List.mem_map.mp z
        rw [← e] at os
        cases os
      · rw [List.mem_replicate] at z
        rw [z.2] at os
        cases os
theorem noow {N : List Str} {ns : List Int} {ds : List PyData} (i : Nat) (s : Sl) : (argsS N ns ds)[i]? = some s → s.own = true → False := fun h1 os => by
  unfold argsS at h1
  have z := List.mem_of_getElem? h1
  rcases List.mem_cons.mp z with z | z
  · rw [z] at os
    cases os
  · rcases List.mem_append.mp z with z | z
    · obtain ⟨d, _, e⟩ := List.mem_map.mp z
      rw [← e] at os
      cases os
    · rw [List.mem_replicate] at z
      rw [z.2] at os
      cases os
theorem fn_okS {x qual : Str} {st : Stmt} {f : Addr} {fd : FuncData} {N ps : List Str} {k n : Nat} {R : List Int → List PyData → Rs → Prop} (F : Fun K x qual st f fd) (S : FnScope N ps (defScope st)) (hn : ps.length = n + 1)
    (body : ∀ (cdv : Value) (A : Around) (outer : List Env) (s : Shared) (H : Hp) (E : XK), Room k (A.deeper (envOfC qual (defScope st) s.heap.objs.size f cdv)) → ∀ ns ds r, ds.length = n → R ns ds r →
      dSs (cxD P w K mg base N qual (defScope st) f cdv A outer s H E) (defBody st) { nx := fun _ => r = .fz .none, rt := fun r' _ => r'.le r } (argsS N ns ds)) : FnOk P w K mg base CX0 (k + 1) f fd ps (spS K n R) := by
  refine F.ok S (fun vs H Q E h => ?_) (fun cdv A outer s H vs Q E hr h => ?_)
  · obtain ⟨M, t, ns, ws, ds, r, rfl, h1, _, _, h3, _⟩ := h
    rw [List.length_cons, h3.length, h1, hn]
  · obtain ⟨M, t, ns, ws, ds, r, rfl, h1, h2, h0, h3, h4, q⟩ := h
    refine ⟨_, pss_w, ?_⟩
    intro pins s1 I
    have ok := env_startS (N := N) h2 h0 h3
    have ba : Base H M (Fz M H) M (argsS N ns ds) (L2.start N (.ref t :: ws)) H := ⟨Same.refl _, fun _ z => z, fun i s l e1 os _ => (noow i s e1 os).elim, h2, Same.refl _⟩
    refine thn (body cdv A outer s H E hr ns ds r h1 h4 M (Fz M H) M _ H ok ba pins s1 I) fun fl s2 z => ?_
    cases fl with
    | next =>
      obtain ⟨σ', H', I', env', M', ok', ba', z⟩ := z
      refine ⟨σ', H', I', q .non H' ba'.ext ?_⟩
      rw [z]
      exact .non
    | ret u =>
      obtain ⟨v', σ', H', I', rv, r', env', M', σ2, a0, a1, a2, a3⟩ := z
      exact ⟨v', σ', H', I', rv, q v' H' a1.ext ((a2.sub a1.sub).le a3)⟩
    | brk =>
      obtain ⟨σ', H', I', z⟩ := z
      obtain ⟨_, _, _, _, z⟩ := z
      exact z.elim
    | cont =>
      obtain ⟨σ', H', I', z⟩ := z
      obtain ⟨_, _, _, _, z⟩ := z
      exact z.elim
theorem calleeS {x : Str} {st : Stmt} {N ps : List Str} {k n : Nat} {R : List Int → List PyData → Rs → Prop} (D : DefAt K mg x st) (S : FnScope N ps (defScope st)) (hn : ps.length = n + 1) (hb : BindOk x st ps)
    (body : ∀ (f : Addr) (cdv : Value) (A : Around) (outer : List Env) (s : Shared) (H : Hp) (E : XK), Room k (A.deeper (envOfC x (defScope st) s.heap.objs.size f cdv)) → ∀ ns ds r, ds.length = n → R ns ds r →
      dSs (cxD P w K mg base N x (defScope st) f cdv A outer s H E) (defBody st) { nx := fun _ => r = .fz .none, rt := fun r' _ => r'.le r } (argsS N ns ds)) : CalleeS P w K mg base (k + 1) x ps n R := by
  obtain ⟨f, fd, F, hm⟩ := D.ok
  exact ⟨f, fd, fn_okS F S hn (body f), hm, F.kp, F.binds hb⟩
end
section
variable {X : Cx} {e : Expr} {es : List Expr} {env : List Sl} {r : Rs} {d : PyData} {ds : List PyData} {pos p py : Pos} {x y : Str} {ps : List Str} {R : List Int → List PyData → Rs → Prop} {n k : Nat} {ns : List Int}
theorem dE_callS (i : Nat) (F : CalleeS X.prog X.w X.K X.mg X.base k x ps n R) (hr : Room k X.A) (he0 : env[i]? = some (.sc ns)) (ha : dA X es env ds) (h : R ns ds r) (hl : ds.length = n) (hN : X.N[i]? = some y) (hv : Vis X.env.scope y) (hg : Gl X x := by rfl) (hdb : (x == ("__debug__" : Str)) = false := by decide)
    (hdy : (y == ("__debug__" : Str)) = false := by decide) (hcd : (y == ("__classdict__" : Str)) = false := by decide)
    (he : starEach (.Name y py :: es) X.env = (false, eval (.Name y py) X.env) :: starEach es X.env := by rfl) (hpl : (backTo pos (starEach es X.env)).any (·.1) = false := by rfl) : dE X (.Call (.Name x p) (.Name y py :: es) [] pos) env r := fun M σ H ok Q q => by
  obtain ⟨f, fd, G, hm, hk, hb⟩ := F.ok
  obtain ⟨t, h1, h2⟩ := ok.sl i _ he0
  have h1' : σ[i]? = some (some (.ref t)) := by
    cases q : σ[i]? with
    | none =>
      rw [q] at h1
      cases h1
    | some o =>
      rw [q] at h1
      rw [show o = some (.ref t) from h1]
  refine wE.of (pe_call G hr hg hm hk hb .nil pass0 (pa_cons (pe_var hN hv hdy hcd) pa_w he) hdb he hpl) ⟨_, h1', ha M σ H ok _ fun vs H1 e1 l => ?_⟩
  show spS X.K n R (V.ref t :: vs ++ []) H1 Q E0
  rw [List.append_nil]
  exact ⟨M, t, ns, vs, ds, r, rfl, hl, (ok.mono e1).dom, sqL_mono (fz_same e1) h2, l, h, fun v H' e' rv => q v H' (e1.trans e') (rv.back e1)⟩
end
/-! ### the law -/
def spLaw (K : PySem.W.Frag) : Sp := fun vs H Q _ => ∃ (t : Addr) (ns : List Int), vs = [.ref t] ∧ SqL K H t (ns.map V.int) ∧ ns.length ≤ 63 ∧ ∀ H', Q (.bl true) H'
theorem law_ok {P : Program} {w : World} {K : PySem.W.Frag} {mg : Str → Option Value} {base : Heap} {x : Str} {k : Nat} {R : List Int → List PyData → Rs → Prop} (h : ∀ ns : List Int, ns.length ≤ 63 → R ns [] (.fz (.bool true))) {f : Addr} {fd : FuncData} (F : FnOk P w K mg base CX0 k f fd [x] (spS K 0 R)) :
    FnOk P w K mg base CX0 k f fd [x] (spLaw K) := by
  refine F.imp fun vs H Q E ⟨t, ns, e, hS, hl, q⟩ => ?_
  refine ⟨[], t, ns, [], [], .fz (.bool true), e, rfl, (fun _ z => nomatch z), by rw [fz_nil]; exact hS, .nil, h ns hl, fun v H' _ rv => ?_⟩
  cases rv
  exact q H'
end Dl

namespace Dl
open PySem PySem.Spec PyProof.Rows L2
section
variable {H0 : Hp} {X : Cx} {e a b c elt tg iter : Expr} {es : List Expr} {st : Stmt} {sts : List Stmt} {env : List Sl} {r : Rs} {d : PyData} {ds : List PyData} {pos p py : Pos} {i j : Int} {k k' : Bool} {D : DEnds} {x : Str} {scope : Scope} {ifs : List Expr}
theorem s_end (h : D.nx env) : dZs H0 X [] D env := dSs_nil h
theorem s_set (n : Nat) (he : dE X e env r) (h : dZs H0 X sts D (env.set n (.fz r.data))) (hN : X.N.Nodup) (hi : X.N[n]? = some x := by rfl) (hx : Loc X.env.scope x := by first | exact Or.inl rfl | exact Or.inr rfl)
    (hs : swapsWith e (some (.Name x py)) pos.line X.env = pure false := by rfl) (hf : X.fn x = true ∨ X.env.scope.names.lookup x = some .local := by first | exact Or.inl rfl | exact Or.inr rfl) : dZs H0 X (.Assign [.Name x py] e pos :: sts) D env := dSs_cons (dS_set he h hN hi hx hs hf)
theorem s_seto (n : Nat) (he : dE X e env (.fr ds)) (h : dZs H0 X sts D (env.set n (.ow ds))) (hN : X.N.Nodup) (hi : X.N[n]? = some x := by rfl) (hx : Loc X.env.scope x := by first | exact Or.inl rfl | exact Or.inr rfl)
    (hs : swapsWith e (some (.Name x py)) pos.line X.env = pure false := by rfl) (hf : X.fn x = true ∨ X.env.scope.names.lookup x = some .local := by first | exact Or.inl rfl | exact Or.inr rfl) : dZs H0 X (.Assign [.Name x py] e pos :: sts) D env := dSs_cons (dS_seto he h hN hi hx hs hf)
/-- name = [..] on one line: it stays, or the name owns it -/
theorem s_lc {α : Type} {xs : List α} {g : α → PyData} {pt : α → Bool} {h : α → Rs} (n : Nat) (own : List (Str × Nat)) (hi : dI X tg iter env (xs.map g)) (hlen : xs.length ≤ 100000) (turn : ∀ x ∈ xs, dTurn X scope own tg ifs elt env (g x) (pt x) (h x)) (k : dZs H0 X sts D (env.set n (.fz (.list ((xs.filter pt).map fun x => (h x).data)))))
    (hN : X.N.Nodup) (hc : X.calm = true := by rfl) (hy : X.N[n]? = some x := by rfl) (hyl : X.env.scope.names.lookup x = some .local := by rfl)
    (hsw : swapsWith (.ListComp elt [⟨tg, iter, ifs, 0⟩] scope p) (some (.Name x py)) pos.line X.env = pure true := by exact sw_true rfl rfl rfl (by decide +kernel)) (ok : BlkOk X.N X.env.scope scope own := by exact blkOk_by (by decide +kernel)) (hs : ∀ x, foldedSetIterable iter X.env x = pure x := by intro _; rfl) :
    dZs H0 X (.Assign [.Name x py] (.ListComp elt [⟨tg, iter, ifs, 0⟩] scope p) pos :: sts) D env := dSs_cons (lc_set hc hN hy hyl hsw ok hs hi hlen turn (.inl k))
theorem s_lco {α : Type} {xs : List α} {g : α → PyData} {pt : α → Bool} {h : α → Rs} (n : Nat) (own : List (Str × Nat)) (hi : dI X tg iter env (xs.map g)) (hlen : xs.length ≤ 100000) (turn : ∀ x ∈ xs, dTurn X scope own tg ifs elt env (g x) (pt x) (h x)) (k : dZs H0 X sts D (env.set n (.ow ((xs.filter pt).map fun x => (h x).data))))
    (hN : X.N.Nodup) (hc : X.calm = true := by rfl) (hy : X.N[n]? = some x := by rfl) (hyl : X.env.scope.names.lookup x = some .local := by rfl)
    (hsw : swapsWith (.ListComp elt [⟨tg, iter, ifs, 0⟩] scope p) (some (.Name x py)) pos.line X.env = pure true := by exact sw_true rfl rfl rfl (by decide +kernel)) (ok : BlkOk X.N X.env.scope scope own := by exact blkOk_by (by decide +kernel)) (hs : ∀ x, foldedSetIterable iter X.env x = pure x := by intro _; rfl) :
    dZs H0 X (.Assign [.Name x py] (.ListComp elt [⟨tg, iter, ifs, 0⟩] scope p) pos :: sts) D env := dSs_cons (lc_set hc hN hy hyl hsw ok hs hi hlen turn (.inr k))
/-- [..] as a value -/
theorem lc {α : Type} {xs : List α} {g : α → PyData} {pt : α → Bool} {h : α → Rs} (own : List (Str × Nat)) (hi : dI X tg iter env (xs.map g)) (hlen : xs.length ≤ 100000) (turn : ∀ x ∈ xs, dTurn X scope own tg ifs elt env (g x) (pt x) (h x)) (hN : X.N.Nodup)
    (hc : X.calm = true := by rfl) (ok : BlkOk X.N X.env.scope scope own := by exact blkOk_by (by decide +kernel)) (hs : ∀ x, foldedSetIterable iter X.env x = pure x := by intro _; rfl) : dE X (.ListComp elt [⟨tg, iter, ifs, 0⟩] scope pos) env (.fr ((xs.filter pt).map fun x => (h x).data)) := dE_lc hc hN ok hs hi hlen turn
theorem lc0 {α : Type} {xs : List α} {g : α → PyData} {h : α → Rs} (own : List (Str × Nat)) (hi : dI X tg iter env (xs.map g)) (hlen : xs.length ≤ 100000) (turn : ∀ x ∈ xs, dTurn X scope own tg [] elt env (g x) true (h x)) (hN : X.N.Nodup)
    (hc : X.calm = true := by rfl) (ok : BlkOk X.N X.env.scope scope own := by exact blkOk_by (by decide +kernel)) (hs : ∀ x, foldedSetIterable iter X.env x = pure x := by intro _; rfl) : dE X (.ListComp elt [⟨tg, iter, [], 0⟩] scope pos) env (.fr (xs.map fun x => (h x).data)) := dE_lc0 own hc hN ok hs hi hlen turn
theorem s_tgt {is : List Nat} {env' : List Sl} (he : dE X e env r) (hg : dG X tg env r.data is env') (h : dZs H0 X sts D env') (hs : swapsWithSole [tg] e pos.line X.env = pure false := by rfl) (hw : swappedStores [tg] e X.env = pure none := by rfl)
    (h1 : (assignEach [tg] X.env).map (·.2) = [assign tg X.env] := by rfl) : dZs H0 X (.Assign [tg] e pos :: sts) D env := dSs_cons (dS_tgt he hg h hs hw h1)
/-- a target's name -/
theorem gn (n : Nat) (hN : X.N.Nodup) (hi : X.N[n]? = some x := by rfl) (hx : Loc X.env.scope x := by first | exact Or.inl rfl | exact Or.inr rfl) (hf : X.fn x = true ∨ X.env.scope.names.lookup x = some .local := by first | exact Or.inl rfl | exact Or.inr rfl) : dG X (.Name x pos) env d [n] (env.set n (.fz d)) := dG_name hN hi hx hf
theorem ix_nat {n j : Nat} (h : j < n) : ixN n (j : Int) = some j := by
  unfold ixN
  rw [if_pos (by omega), if_pos (by omega)]
  rfl
theorem ix_last {n : Nat} (h : 0 < n) : ixN n (-1) = some (n - 1) := by
  unfold ixN
  rw [if_neg (by omega), if_pos (by omega)]
  congr 1
  omega
theorem s_ix (n : Nat) {j : Nat} {ps : Pos} (hx : env[n]? = some (.ow ds)) (he : dE X e env r) (hb : dE X b env (.fz (.int i))) (hj : ixN ds.length i = some j) (h : dZs H0 X sts D (env.set n (.ow (ds.set j r.data)))) (hN : X.N[n]? = some x := by rfl) (hv : Vis X.env.scope x := by first | exact Or.inl rfl | exact Or.inr (Or.inl rfl))
    (hs : swapsWithSole [.Subscript (.Name x py) b ps] e pos.line X.env = pure false := by rfl) (hw : swappedStores [.Subscript (.Name x py) b ps] e X.env = pure none := by rfl)
    (h1 : (assignEach [.Subscript (.Name x py) b ps] X.env).map (·.2) = [assign (.Subscript (.Name x py) b ps) X.env] := by rfl)
    (ha : ∀ v, assign (.Subscript (.Name x py) b ps) X.env v = (do
      let ov ← holding [v] (eval (.Name x py) X.env)
      let iv ← holding [v, ov] (eval b X.env)
      standAt ps
      holding [v, ov, iv] (setItem ov iv v)
      release [v, ov, iv] []) := by intro _; rfl) (hd : (x == ("__debug__" : Str)) = false := by decide)
    (hcd : (x == ("__classdict__" : Str)) = false := by decide) : dZs H0 X (.Assign [.Subscript (.Name x py) b ps] e pos :: sts) D env := dSs_cons (dS_ix hx he hb hj h hN hv hs hw h1 ha hd hcd)
theorem s_app (n : Nat) {ap cp : Pos} (hx : env[n]? = some (.ow ds)) (he : dE X e env r) (hlen : ds.length < 100000) (h : dZs H0 X sts D (env.set n (.ow (ds ++ [r.data])))) (hN : X.N[n]? = some x := by rfl) (hv : Vis X.env.scope x := by first | exact Or.inl rfl | exact Or.inr (Or.inl rfl))
    (hbase : attributeBase (.Name x py) "append" X.env (eval (.Name x py) X.env) = eval (.Name x py) X.env := by rfl)
    (hfew : ((backTo cp (starEach [e] X.env)).all (fun x => !x.1) && (backToKw cp (keywordEach [] X.env)).all (fun x => x.1.isSome) && decide ([e].length + ([] : List Keyword).length + (if ([] : List Keyword).isEmpty then 0 else 1) < 30)) = true := by rfl)
    (hline : (ap.endLine == cp.line) = true := by rfl) (hs : starEach [e] X.env = (false, eval e X.env) :: starEach [] X.env := by rfl) (hsw : swapsWith (.Call (.Attribute (.Name x py) "append" ap) [e] [] cp) none pos.line X.env = pure false := by rfl)
    (hd : (x == ("__debug__" : Str)) = false := by decide) (hcd : (x == ("__classdict__" : Str)) = false := by decide) : dZs H0 X (.Expr (.Call (.Attribute (.Name x py) "append" ap) [e] [] cp) pos :: sts) D env := dSs_cons (dS_append hx he hlen h hN hv hbase hfew hline hs hsw hd hcd)
theorem s_ret (he : dE X e env r) (h : D.rt r env) : dZs H0 X (.Return (some e) pos :: sts) D env := dSs_cons (dS_ret he h)
theorem s_retN (h : D.rt (.fz .none) env) : dZs H0 X (.Return none pos :: sts) D env := dSs_cons (dS_retN h)
theorem s_reto (n : Nat) (h : D.rt (.fr ds) (env.set n (.fz (.list ds)))) (hx : env[n]? = some (.ow ds) := by rfl) (hN : X.N[n]? = some x := by rfl) (hv : Vis X.env.scope x := by first | exact Or.inl rfl | exact Or.inr (Or.inl rfl)) (hd : (x == ("__debug__" : Str)) = false := by decide)
    (hcd : (x == ("__classdict__" : Str)) = false := by decide) : dZs H0 X (.Return (some (.Name x py)) pos :: sts) D env := dSs_cons (dS_reto hx h hN hv hd hcd)
theorem s_if {as bs : List Stmt} (hc : dT X c env k) (h1 : k = true → dZs H0 X as { D with nx := dZs H0 X sts D } env) (h2 : k = false → dZs H0 X bs { D with nx := dZs H0 X sts D } env) : dZs H0 X (.If c as bs pos :: sts) D env := dSs_cons (dS_if hc h1 h2)
theorem s_expr (he : dE X e env r) (h : dZs H0 X sts D env) (hs : swapsWith e none pos.line X.env = pure false := by rfl) : dZs H0 X (.Expr e pos :: sts) D env := dSs_cons (dS_expr he h hs)
theorem s_aug (m : Nat) (he : dE X e env (.fz (.int j))) (h : dZs H0 X sts D (env.set m (.fz (.int (i + j))))) (hN : X.N.Nodup) (hx : env[m]? = some (.fz (.int i)) := by rfl) (hi : X.N[m]? = some x := by rfl) (hl : Loc X.env.scope x := by first | exact Or.inl rfl | exact Or.inr rfl)
    (hf : X.fn x = true ∨ X.env.scope.names.lookup x = some .local := by first | exact Or.inl rfl | exact Or.inr rfl) : dZs H0 X (.AugAssign (.Name x py) .Add e pos :: sts) D env := dSs_cons (dS_aug hx he h hN hi hl hf)
theorem s_brk (h : D.bk env) : dZs H0 X (.Break pos :: sts) D env := dSs_cons (dS_break h)
theorem s_cnt (h : D.ct env) : dZs H0 X (.Continue pos :: sts) D env := dSs_cons (dS_continue h)
theorem s_pass (h : dZs H0 X sts D env) : dZs H0 X (.Pass pos :: sts) D env := dSs_cons (dS_pass h)
theorem s_for {body : List Stmt} (I : Nat → List Sl → Prop) (hi : dIf X tg iter env ds) (h0 : I 0 env)
    (turn : ∀ m d env1, ds[m]? = some d → I m env1 → ∃ is env2, dG X tg env1 d is env2 ∧ dZs H0 X body { nx := I (m + 1), ct := I (m + 1), bk := dZs H0 X sts D, rt := D.rt } env2) (hd : ∀ env1, I ds.length env1 → dZs H0 X sts D env1)
    (hp : PassesOwn (model X.prog X.w) X.A X.env X.xe := by exact PassesOwn.never) (hc : X.calm = true := by rfl) (hs : ∀ x, foldedSetIterable iter X.env x = pure x := by intro _; rfl) : dZs H0 X (.For tg iter body [] pos :: sts) D env := dSs_cons (dS_for I hp hc hs hi h0 turn hd)
theorem s_while {body : List Stmt} {m0 : Nat} (I : Nat → List Sl → Prop) (h0 : I m0 env)
    (turn : ∀ m env1, I m env1 → ∃ k, dT X c env1 k ∧ (k = true → dZs H0 X body { nx := fun v => ∃ m', m' < m ∧ I m' v, ct := fun v => ∃ m', m' < m ∧ I m' v, bk := dZs H0 X sts D, rt := D.rt } env1) ∧ (k = false → dZs H0 X sts D env1))
    (hp : PassesOwn (model X.prog X.w) X.A X.env X.xe := by exact PassesOwn.never) : dZs H0 X (.While c body [] pos :: sts) D env := dSs_cons (dS_while I hp h0 turn)
theorem s_frz (n : Nat) (h : dZs H0 X sts D (env.set n (.fz (.list ds)))) (he : env[n]? = some (.ow ds) := by rfl) : dZs H0 X sts D env := dSs_freeze he h
/-- range as what a for walks, its numbers one by one -/
theorem rangeD_get {lo : Int} {n m : Nat} {d : PyData} (h : (rangeD lo n)[m]? = some d) : m < n ∧ d = .int (lo + (m : Nat)) := by
  unfold rangeD at h
  rw [List.getElem?_map] at h
  by_cases hm : m < n
  · rw [List.getElem?_range hm] at h
    cases h
    exact ⟨hm, rfl⟩
  · rw [List.getElem?_eq_none (by rw [List.length_range]; omega)] at h
    cases h
theorem rangeD_len {lo : Int} {n : Nat} : (rangeD lo n).length = n := by
  unfold rangeD
  rw [List.length_map, List.length_range]
theorem map_get {α : Type} {xs : List α} {f : α → PyData} {m : Nat} {d : PyData} (h : (xs.map f)[m]? = some d) : ∃ hm : m < xs.length, d = f xs[m] := by
  rw [List.getElem?_map] at h
  by_cases hm : m < xs.length
  · rw [List.getElem?_eq_getElem hm] at h
    cases h
    exact ⟨hm, rfl⟩
  · rw [List.getElem?_eq_none (by omega)] at h
    cases h
end
end Dl

namespace Dl
open PySem PySem.Spec PyProof.Rows L2
/-! ### shapes -/
def Sh (n : Nat) (d : PyData) : Prop := d.canLay0 = true ∧ d.depth ≤ n
theorem Sh.shaped {n : Nat} {d : PyData} (h : Sh n d) (hn : n ≤ 64 := by decide) : SeqAt.shaped d = true := by
  unfold SeqAt.shaped
  rw [h.1, decide_eq_true (Nat.le_trans h.2 hn)]
  rfl
theorem sh_int {n : Nat} {i : Int} : Sh n (.int i) := ⟨rfl, Nat.zero_le _⟩
theorem sh_bool {n : Nat} {i : Bool} : Sh n (.bool i) := ⟨rfl, Nat.zero_le _⟩
theorem sh_none {n : Nat} : Sh n .none := ⟨rfl, Nat.zero_le _⟩
theorem sh_all {n : Nat} : ∀ {ds : List PyData}, (∀ d ∈ ds, Sh n d) → PyData.canLayAll0 ds = true ∧ PyData.depthAll ds ≤ n
  | [], _ => ⟨rfl, Nat.zero_le _⟩
  | d :: ds, h => by
    have h1 := h d List.mem_cons_self
    have h2 := sh_all fun e he => h e (List.mem_cons_of_mem _ he)
    refine ⟨?_, Nat.max_le.mpr ⟨h1.2, h2.2⟩⟩
    show (d.canLay0 && PyData.canLayAll0 ds) = true
    rw [h1.1, h2.1]
    rfl
theorem sh_list {n : Nat} {ds : List PyData} (h : ∀ d ∈ ds, Sh n d) : Sh (n + 1) (.list ds) := ⟨(sh_all h).1, Nat.succ_le_succ (sh_all h).2⟩
theorem sh_tuple {n : Nat} {ds : List PyData} (h : ∀ d ∈ ds, Sh n d) : Sh (n + 1) (.tuple ds) := ⟨(sh_all h).1, Nat.succ_le_succ (sh_all h).2⟩
theorem sh_map {α : Type} {n : Nat} {xs : List α} {f : α → PyData} (h : ∀ x ∈ xs, Sh n (f x)) : Sh (n + 1) (.list (xs.map f)) := sh_list fun d hd => by
  obtain ⟨x, hx, e⟩ := List.mem_map.mp hd
  rw [← e]
  exact h x hx
theorem eqv_same {n : Nat} {d : PyData} (h : Sh n d) : PyData.eqv d d = true := SeqAt.eqv_refl d h.1
/-! equal data, compared -/
section
variable {X : Cx} {a b : Expr} {env : List Sl} {d d2 : PyData} {n : Nat}
theorem dC_same (hu : X.A.units + 64 < cLine) (ha : dR X a env d) (hb : dR X b env d2) (e : d = d2) (s : Sh n d) (hn : n ≤ 64 := by decide) : dC X .Eq a b env true := by
  subst e
  have z := dC_eq hu ha hb (s.shaped hn) (s.shaped hn)
  rwa [eqv_same s] at z
theorem dC_same' (hu : X.A.units + 64 < cLine) (ha : dR X a env d) (hb : dR X b env d2) (e : d = d2) (s : Sh n d) (hn : n ≤ 64 := by decide) : dC X .NotEq a b env false := by
  subst e
  have z := dC_ne hu ha hb (s.shaped hn) (s.shaped hn)
  rwa [eqv_same s] at z
end
theorem all_map_true {α : Type} {xs : List α} {f : α → Bool} (h : ∀ x ∈ xs, f x = true) : (xs.map f).all id = true := by
  rw [List.all_eq_true]
  intro b hb
  obtain ⟨x, hx, e⟩ := List.mem_map.mp hb
  rw [← e]
  exact h x hx
theorem filter_yes {α : Type} (xs : List α) : xs.filter (fun _ => true) = xs := List.filter_eq_self.mpr fun _ _ => rfl

/-! ### drawn numbers -/
def dValue (x : Int) (k at' : Nat) : Int := if 10 ^ 18 ≤ x then x % 1000 else ((((x * 48271 + (k : Int) * 69621 + 11) % 2147483647) * 16807 + (at' : Int)) % 2147483629) / 7 % 1000
def dStep (st : List Int × List Int) (k : Nat) : List Int × List Int :=
  if st.1.length = 0 then (st.1, st.2 ++ [0])
  else (if 10 ^ 18 ≤ st.1.getD (k % st.1.length) 0 then st.1.set (k % st.1.length) (st.1.getD (k % st.1.length) 0 / 1000) else st.1, st.2 ++ [dValue (st.1.getD (k % st.1.length) 0) k (k % st.1.length)])
def dRun (ns : List Int) : Nat → List Int × List Int
  | 0 => (ns, [])
  | k + 1 => dStep (dRun ns k) k
def drawsM (ns : List Int) (k : Nat) : List Int := (dRun ns k).2
theorem dRun_len (ns : List Int) : ∀ k, (dRun ns k).1.length = ns.length ∧ (dRun ns k).2.length = k
  | 0 => ⟨rfl, rfl⟩
  | k + 1 => by
    obtain ⟨h1, h2⟩ := dRun_len ns k
    show (dStep (dRun ns k) k).1.length = _ ∧ (dStep (dRun ns k) k).2.length = _
    unfold dStep
    split
    · exact ⟨h1, by rw [List.length_append, h2]; rfl⟩
    · refine ⟨?_, by rw [List.length_append, h2]; rfl⟩
      show (if _ then _ else _ : List Int).length = _
      split
      · rw [List.length_set]
        exact h1
      · exact h1
theorem drawsM_len (ns : List Int) (k : Nat) : (drawsM ns k).length = k := (dRun_len ns k).2
theorem dValue_in (x : Int) (k a : Nat) : 0 ≤ dValue x k a ∧ dValue x k a < 1000 := by
  unfold dValue
  split <;> omega
theorem drawsM_in (ns : List Int) : ∀ k, ∀ v ∈ drawsM ns k, 0 ≤ v ∧ v < 1000
  | 0, v, h => nomatch h
  | k + 1, v, h => by
    have ih := drawsM_in ns k
    have h' : v ∈ (dStep (dRun ns k) k).2 := h
    unfold dStep at h'
    split at h'
    · rcases List.mem_append.mp h' with z | z
      · exact ih v z
      · rw [List.mem_singleton.mp z]
        omega
    · rcases List.mem_append.mp h' with z | z
      · exact ih v z
      · rw [List.mem_singleton.mp z]
        exact dValue_in _ _ _
/-- the i-th drawn number -/
theorem draw_in {L : List Int} (h : ∀ v ∈ L, 0 ≤ v ∧ v < 1000) (i : Nat) : 0 ≤ L.getD i default ∧ L.getD i default < 1000 := by
  rw [List.getD_eq_getElem?_getD]
  cases q : L[i]? with
  | none => exact ⟨by decide, by decide⟩
  | some v => exact h v (List.mem_of_getElem? q)
end Dl

namespace Dl
open PySem PySem.Spec PyProof.Rows L2
/-- the law's own head, from its body's walk -/
theorem law_end {Pr : Program} {w : World} {K : PySem.W.Frag} {mg : Str → Option Value} {fa : Addr} {st : Stmt} {N : List Str} {k : Nat} {R : List Int → List PyData → Rs → Prop} (hfa : mg "law" = some (.ref fa)) (T : DefAt K mg "law" st) (S : FnScope N ["script"] (defScope st)) (hb : BindOk "law" st ["script"])
    (hR : ∀ ns : List Int, ns.length ≤ 63 → R ns [] (.fz (.bool true)))
    (body : ∀ (base : Heap) (f : Addr) (cdv : Value) (A : Around) (outer : List Env) (s : Shared) (H : Hp) (E : XK), Room k (A.deeper (envOfC "law" (defScope st) s.heap.objs.size f cdv)) → ∀ ns ds r, ds.length = 0 → R ns ds r →
      dSs (cxD Pr w K mg base N "law" (defScope st) f cdv A outer s H E) (defBody st) { nx := fun _ => r = .fz .none, rt := fun r' _ => r'.le r } (argsS N ns ds)) :
    ∃ fd : FuncData, (∀ (s : Shared) (v : Value), BindsTo s fd ⟨[v], []⟩ [("script", v)]) ∧ ∀ base : Heap, K.In base → base.Ns mainGlobals mg → FnOk Pr w K mg base CX0 (k + 1) fa fd ["script"] (spLaw K) := by
  obtain ⟨f, fd, F, hm⟩ := T.ok
  rw [hfa] at hm
  cases hm
  refine ⟨fd, fun s v => ?_, fun base _ _ => law_ok hR (fn_okS F S rfl (body base fa))⟩
  obtain ⟨oc, od, kV, doc, pm, an, cdv, ct, osl, rfl, lk, hcd⟩ := F.ex
  exact .of_eq (hb kV doc pm an cdv ct [v] rfl)
end Dl

namespace Dl
open PySem PySem.Spec PyProof.Rows L2
/-! ### repr of data -/
def rRepr (K : PySem.W.Frag) : List V → Hp → VK → Prop := fun vs H Q => ∃ t d, vs = [.ref t] ∧ Dp K H (.ref t) d ∧ d.showable = true ∧ d.hasDict = false ∧ d.depth ≤ 60 ∧ d.shown.length ≤ sizeLine ∧ Q (.str d.shown) H
theorem cr_repr {X : Cx} (hg : X.A.guards = some []) (hu : X.A.units + 64 < cLine) : CallR X (.builtin "repr") (rRepr X.K) := by
  intro pins s σ H vs us Q I r h
  obtain ⟨t, d, rfl, dp, h1, h2, h3, h4, q⟩ := h
  have eu := r.ref1
  subst eu
  obtain ⟨as, rd⟩ := Dp.reads I d (.ref t) (.ref t) dp rfl
  exact repr_of_reads' rd h1 (PyData.noDict_hsm h2) hg (by omega) (fun _ _ e => e) (fun h' u tk hk => ⟨.str d.shown, H, I.kept hk, ⟨u, rfl⟩, q⟩) h4
/-- data that can be written out, in at most n signs -/
structure Wr (n : Nat) (d : PyData) : Prop where
  ok : d.showable = true
  nod : d.hasDict = false
  len : d.shown.length ≤ n
theorem wr_int {i : Int} (h : i.natAbs < 10 ^ 20) : Wr 22 (.int i) := by
  have z : i.natAbs.log2 < 1920 := by
    by_cases h0 : i.natAbs = 0
    · rw [h0]
      decide
    · exact (Nat.log2_lt h0).mpr (Nat.lt_of_lt_of_le h (by decide))
  refine ⟨decide_eq_true z, rfl, ?_⟩
  show (Str.ofString (toString i)).length ≤ 22
  have z2 := int_text_length_le10 (a := i) (k := 20) (by decide) h
  rw [PySem.ofString_length]
  omega
theorem wr_none : Wr 22 .none := ⟨rfl, rfl, by decide +kernel⟩
theorem wr_bool {b : Bool} : Wr 22 (.bool b) := ⟨rfl, rfl, by cases b <;> decide +kernel⟩
theorem wr_all {n : Nat} : ∀ {ds : List PyData}, (∀ d ∈ ds, Wr n d) → PyData.showableAll ds = true ∧ PyData.hasDictAll ds = false ∧ piled (PyData.shownAll ds) ≤ ds.length * (n + 2)
  | [], _ => ⟨rfl, rfl, Nat.zero_le _⟩
  | d :: ds, h => by
    have h1 := h d List.mem_cons_self
    obtain ⟨a1, a2, a3⟩ := wr_all fun e he => h e (List.mem_cons_of_mem _ he)
    refine ⟨?_, ?_, ?_⟩
    · show (d.showable && PyData.showableAll ds) = true
      rw [h1.ok, a1]
      rfl
    · show (d.hasDict || PyData.hasDictAll ds) = false
      rw [h1.nod, a2]
      rfl
    · show piled (d.shown :: PyData.shownAll ds) ≤ _
      rw [piled_cons, List.length_cons, Nat.succ_mul]
      have := h1.len
      omega
theorem listText_le : ∀ ts : List Str, (PySem.listText ts).length ≤ piled ts + 4
  | [] => by decide +kernel
  | t :: r => by
    have h := textFrom_length_pos r 1 (("[" : Str) ++ (if (0 : Nat) > 0 then ", " else "" : String) ++ t) (Nat.succ_pos 0)
    have e1 : (PySem.listText (t :: r)).length = (textFrom 1 (("[" : Str) ++ (if (0 : Nat) > 0 then ", " else "" : String) ++ t) r).length + 1 := by
      show (textFrom 1 (("[" : Str) ++ (if (0 : Nat) > 0 then ", " else "" : String) ++ t) r ++ ("]" : Str)).length = _
      rw [strLen_append]
      rfl
    have e2 : (("[" : Str) ++ (if (0 : Nat) > 0 then ", " else "" : String) ++ t).length = 1 + t.length := by
      rw [strLen_append, strLen_append]
      rfl
    rw [e1, h, e2, piled_cons]
    omega
theorem tupText_le (ts : List Str) : (tupleText ts).length ≤ piled ts + 4 := by
  unfold tupleText
  rw [strLen_append, strLen_append]
  have e1 : ("(" : Str).length = 1 := rfl
  have e2 : (Str.ofString (if (ts.length == 1) = true then ",)" else ")")).length ≤ 2 := by
    split <;> decide +kernel
  cases ts with
  | nil =>
    have e3 : (Str.join ", " ([] : List Str)).length = 0 := rfl
    rw [e1, e3]
    show 1 + 0 + (Str.ofString (if (([] : List Str).length == 1) = true then ",)" else ")")).length ≤ _
    omega
  | cons t r =>
    have z := join_length_add (t :: r) (by simp)
    show _ + _ + (Str.ofString (if ((t :: r).length == 1) = true then ",)" else ")")).length ≤ _
    omega
theorem wr_list {n k : Nat} {ds : List PyData} (h : ∀ d ∈ ds, Wr n d) (hk : ds.length ≤ k) : Wr (k * (n + 2) + 4) (.list ds) := by
  obtain ⟨a1, a2, a3⟩ := wr_all h
  refine ⟨a1, a2, ?_⟩
  have z := listText_le (PyData.shownAll ds)
  have z2 := Nat.mul_le_mul_right (n + 2) hk
  show (PySem.listText (PyData.shownAll ds)).length ≤ _
  omega
theorem wr_tup {n k : Nat} {ds : List PyData} (h : ∀ d ∈ ds, Wr n d) (hk : ds.length ≤ k) : Wr (k * (n + 2) + 4) (.tuple ds) := by
  obtain ⟨a1, a2, a3⟩ := wr_all h
  refine ⟨a1, a2, ?_⟩
  have z := tupText_le (PyData.shownAll ds)
  have z2 := Nat.mul_le_mul_right (n + 2) hk
  show (tupleText (PyData.shownAll ds)).length ≤ _
  omega
theorem Wr.mono {n m : Nat} {d : PyData} (h : Wr n d) (hm : n ≤ m) : Wr m d := ⟨h.ok, h.nod, Nat.le_trans h.len hm⟩
theorem wr_map {α : Type} {n k : Nat} {xs : List α} {f : α → PyData} (h : ∀ x ∈ xs, Wr n (f x)) (hk : xs.length ≤ k) : Wr (k * (n + 2) + 4) (.list (xs.map f)) := wr_list (fun d hd => by
  obtain ⟨x, hx, e⟩ := List.mem_map.mp hd
  rw [← e]
  exact h x hx) (by rw [List.length_map]; exact hk)
section
variable {X : Cx} {a : Expr} {env : List Sl} {ds : List PyData} {pos p : Pos}
theorem dE_reprL {n : Nat} (hm : X.mg "repr" = none) (hgd : X.A.guards = some []) (hu : X.A.units + 64 < cLine) (ha : dR X a env (.list ds)) (w : Wr n (.list ds)) (hn : n ≤ 10000000) (hd : PyData.depth (.list ds) ≤ 60) (hg : Gl X "repr" := by rfl) (he : starEach [a] X.env = (false, eval a X.env) :: starEach [] X.env := by rfl) :
    dE X (.Call (.Name "repr" p) [a] [] pos) env (.fz (.str (PyData.shown (.list ds)))) := fun M σ H ok Q q =>
  wE.of (pe_callB (cr_repr hgd hu) hg hm (by decide +kernel) (pa_cons pe_w pa_nil he) (he := he)) (ha M σ H ok _ fun v H1 e1 r1 => by
    have z := r1.rp
    cases z with
    | lst h1 l => exact ⟨_, _, rfl, (Rp.lst h1 l).dp, w.ok, w.nod, hd, Nat.le_trans w.len (Nat.le_trans hn (by decide)), q _ H1 e1 (.str _)⟩)
theorem dE_reprT {n : Nat} (hm : X.mg "repr" = none) (hgd : X.A.guards = some []) (hu : X.A.units + 64 < cLine) (ha : dR X a env (.tuple ds)) (w : Wr n (.tuple ds)) (hn : n ≤ 10000000) (hd : PyData.depth (.tuple ds) ≤ 60) (hg : Gl X "repr" := by rfl) (he : starEach [a] X.env = (false, eval a X.env) :: starEach [] X.env := by rfl) :
    dE X (.Call (.Name "repr" p) [a] [] pos) env (.fz (.str (PyData.shown (.tuple ds)))) := fun M σ H ok Q q =>
  wE.of (pe_callB (cr_repr hgd hu) hg hm (by decide +kernel) (pa_cons pe_w pa_nil he) (he := he)) (ha M σ H ok _ fun v H1 e1 r1 => by
    have z := r1.rp
    cases z with
    | tup h1 l => exact ⟨_, _, rfl, (Rp.tup h1 l).dp, w.ok, w.nod, hd, Nat.le_trans w.len (Nat.le_trans hn (by decide)), q _ H1 e1 (.str _)⟩)
end

/-! ### the end, where the law's own body may use that no object is being written out -/
/-- a def entered at one place -/
theorem run_at {P : Program} {w : World} {K : PySem.W.Frag} {mg : Str → Option Value} {base : Heap} {x : Str} {st : Stmt} {N ps : List Str} {k : Nat} {f : Addr} {fd : FuncData} {A : Around} {s : Shared} {H : Hp} {args : Args} {us : List Value} {vs : List V} {Q : VK} {E : XK} {outer : List Env}
    (F : Fun K x x st f fd) (S : FnScope N ps (defScope st)) (hr : Room (k + 1) A) (e0 : Env0 P w K mg base A outer s H) (hb : BindsTo s fd args (ps.zip us)) (rv : Vals vs us) (hl : vs.length = ps.length)
    (body : ∀ cdv s1, Room k (A.deeper (envOfC x (defScope st) s.heap.objs.size f cdv)) → Inv (cxOf CX0 P w K mg base N x (defScope st) f cdv A outer s H E) [] (L2.start N vs) H s1 →
      wpAny (model P w) (A.deeper (envOfC x (defScope st) s.heap.objs.size f cdv)) (execs (defBody st) (cxOf CX0 P w K mg base N x (defScope st) f cdv A outer s H E).env) (SP (cxOf CX0 P w K mg base N x (defScope st) f cdv A outer s H E) [] { nx := fun _ H' => Q .non H', rt := Q }) (fun _ _ => False) s1) :
    codeAny (model P w) A (.call (.ref f) args) (CR CX0 outer P w H s Q E) s := by
  obtain ⟨oc, od, kV, doc, pm, an, cdv, ct, osl, rfl, lk, hcd⟩ := F.ex
  have KX : K.In s.heap := e0.mod.kin.keeps fun b o z => (e0.bs b o z).1
  have kinds : ∀ y ∈ ps.zip us, (defScope st).names.lookup y.1 = some .local ∨ ((defScope st).names.lookup y.1 = some .cell ∧ ((cellsFrom (s.heap.objs.size + 1) (defScope st).names []).lookup y.1).isSome = true) := by
    rintro ⟨m, u⟩ hy
    cases S.par m (List.of_mem_zip hy).1 with
    | inl z => exact .inl z
    | inr z => exact .inr ⟨z, PySem.W.cellsFrom_some _ _ _ (.inl z)⟩
  apply codeAny_call_function hr.depth (KX _ _ lk) rfl S.co S.gen rfl (PySem.W.codeRec_of KX hcd) (hb _ _ _ _ _)
  apply wpAny_newFunctionEnv_cells S.kind kinds
  intro env he s1 xx
  subst he
  refine ⟨(e0.mod.nolimit.keeps fun b o z => (e0.bs b o z).1).keeps xx.toInCall.keep, codeAny_func ?_⟩
  have I := inv_start (CX := CX0) (E := E) S hr.hd e0 hl rv xx
  refine wpAny_mono (body cdv s1 (hr.deeper _) I) (fun fl s2 z => ?_) (fun _ _ z => False.elim z)
  cases fl with
  | next =>
    obtain ⟨σ', H', J, q⟩ := z
    exact ⟨.non, H', J.os, J.bare, J.base, J.hok, rfl, q⟩
  | ret u =>
    obtain ⟨v, σ', H', J, r', q⟩ := z
    exact ⟨v, H', J.os, J.bare, J.base, J.hok, r', q⟩
  | brk =>
    obtain ⟨_, _, _, q⟩ := z
    exact q.elim
  | cont =>
    obtain ⟨_, _, _, q⟩ := z
    exact q.elim
end Dl

namespace Dl
open PySem PySem.Spec PyProof.Rows L2
/-- the heap at the law's call: the script alone is known, where it is no object of the module -/
def scrH (K : PySem.W.Frag) (t : Addr) (o : Obj) (ns : List Int) : Hp := fun b => if b = t ∧ K.lookup t = none then some (.frz o (.lst (ns.map V.int))) else none
theorem end_core {P : Program} {w : World} {K : PySem.W.Frag} {mg mb : Str → Option Value} {fa t : Addr} {s1 : Shared} {vs : List Value} {ns : List Int}
    (KX : K.In s1.heap) (g1 : s1.heap.Ns mainGlobals mg) (g2 : s1.heap.Ns builtinsNs mb) (g3 : ∀ x : Str, x ≠ "__name__" → mb x = bootBuiltins x) (g4 : s1.heap.NoLimit) (g5 : s1.gens = #[])
    (ht : s1.heap.get? t = some { cls := .type "list", data := .seq vs.toArray }) (hi : IntsAre vs ns) (hl : ns.length ≤ sizeLine)
    (F : ∀ (base : Heap) (H : Hp), Env0 P w K mg base callerA [] s1 H → SqL K H t (ns.map V.int) → codeAny (model P w) callerA (.call (.ref fa) ⟨[.ref t], []⟩) (CR CX0 [] P w H s1 (fun v _ => v = .bl true) E0) s1) :
    codeAny (model P w) callerA (.call (.ref fa) ⟨[.ref t], []⟩) (fun r s' => r = .ok (.ret (.bool true)) ∧ PySem.OldK s1.heap s'.heap ∧ s'.os = s1.os ∧ AllBare s'.gens) s1 := by
  have rv := L2.vals_ints hi
  have hlen := hi.length
  generalize ho : ({ cls := .type "list", data := .seq vs.toArray } : Obj) = o at ht
  have htO : scrH K t o ns t = if K.lookup t = none then some (.frz o (.lst (ns.map V.int))) else none := by
    unfold scrH
    by_cases z : K.lookup t = none
    · rw [if_pos ⟨rfl, z⟩, if_pos z]
    · rw [if_neg fun q => z q.2, if_neg z]
  have hne : ∀ b, b ≠ t → scrH K t o ns b = none := fun b z => by
    unfold scrH
    exact if_neg fun q => z q.1
  have hsome : ∀ b u, scrH K t o ns b = some u → b = t ∧ K.lookup t = none ∧ u = .frz o (.lst (ns.map V.int)) := fun b u z => by
    by_cases e : b = t
    · subst e
      rw [htO] at z
      by_cases q : K.lookup b = none
      · rw [if_pos q] at z
        exact ⟨rfl, q, (Option.some.inj z).symm⟩
      · rw [if_neg q] at z
        cases z
    · rw [hne b e] at z
      cases z
  have hok : HOk P w (scrH K t o ns) s1.heap := fun b u z => by
    obtain ⟨rfl, _, rfl⟩ := hsome b u z
    have hl2 : (ns.map V.int).length ≤ sizeLine := by
      rw [List.length_map]
      exact hl
    exact ⟨ht, hl2, vs, _, rv, ht.trans (congrArg some ho.symm)⟩
  have nodict : ∀ {b : Addr} {p : Obj} {es : Array DictEntry} {n : Nat}, s1.heap.get? b = some p → p.data = .dict es n → scrH K t o ns b = none := fun {b p es n} e d => by
    by_cases z : b = t
    · subst z
      rw [ht] at e
      cases e
      rw [← ho] at d
      cases d
    · exact hne b z
  have keepNs : ∀ {b : Addr} {m : Str → Option Value}, s1.heap.Ns b m → (hidT s1.heap (scrH K t o ns)).Ns b m := fun {b m} ⟨p, es, n, e, d, r⟩ => ⟨p, es, n, hidT_get e (nodict e d), d, r⟩
  have keepK : K.In (hidT s1.heap (scrH K t o ns)) := fun b p e => hidT_get (KX b p e) (by
    by_cases z : b = t
    · subst z
      rw [htO, e]
      rfl
    · exact hne b z)
  obtain ⟨mc, c1, c2⟩ := g4
  have e0 : Env0 P w K mg (hidT s1.heap (scrH K t o ns)) callerA [] s1 (scrH K t o ns) :=
    ⟨rfl, ⟨keepK, keepNs g1, ⟨mb, keepNs g2, g3⟩, ⟨mc, keepNs c1, c2⟩⟩, fun b p e => of_hidT e, Nat.le_of_eq (hidT_size _ _), trivial, (fun b z => nomatch z), hok, .of_eq g5⟩
  have hS : SqL K (scrH K t o ns) t (ns.map V.int) := by
    by_cases z : K.lookup t = none
    · exact .inl (.inr ⟨o, by rw [htO, if_pos z]⟩)
    · obtain ⟨p, hp⟩ := Option.ne_none_iff_exists'.mp z
      have e := KX t p hp
      rw [ht] at e
      have e2 := Option.some.inj e
      subst e2
      subst ho
      refine .inr ⟨_, vs.toArray, _, hp, rfl, rfl, rfl, ?_, ?_⟩
      · rw [List.size_toArray, hlen]
        exact hl
      · simpa using rv
  refine codeAny_mono (F _ _ e0 hS) fun r s2 h => ?_
  cases r with
  | error e => exact False.elim h
  | ok fl =>
    cases fl with
    | next => exact False.elim h
    | brk => exact False.elim h
    | cont => exact False.elim h
    | ret u =>
      obtain ⟨v, H', os, bare, un, hok', r', q⟩ := h
      have q' : v = .bl true := q
      subst q'
      have eu : u = Value.bool true := r'
      subst eu
      refine ⟨rfl, PySem.OldK.of_keep fun b p e => ?_, os, bare⟩
      cases z : scrH K t o ns b with
      | none => exact un.keep b p e z (fun y => nomatch y) (fun y => nomatch y)
      | some u =>
        obtain ⟨rfl, _, rfl⟩ := hsome b u z
        have z2 := (hok' _ _ (un.frzs _ _ _ z)).1
        rw [ht] at e
        cases e
        exact z2
/-- the law's own head, from its body's walk -/
theorem law_endG {l : PySem.W.OpenLaw} {k : Nat} {q : Program} {loose : List Str} {XP : (Str → Option Value) → Heap → Prop} {YP : World → Heap → Prop} {d : DefRec} {K : Params → PySem.W.Frag} {N : List Str} {R : List Int → List PyData → Rs → Prop} {st : Stmt}
    (hn : l.most = some 63) (hdf : d.params.defaults = []) (hr : Room (k + 1) callerA) (hnm : d.name = "law")
    (hY : ∀ (w : World) (h : Heap), YP w h → (K w.params).In h) (S : FnScope N ["script"] (defScope st)) (hb : BindOk "law" st ["script"]) (hR : ∀ ns : List Int, ns.length ≤ 63 → R ns [] (.fz (.bool true)))
    (F : ∀ (w : World) (mg : Str → Option Value) (fa : Addr) (h : Heap), (K w.params).In h → h.Ns mainGlobals mg → mg d.name = some (.ref fa) →
      DefAt (K w.params) mg "law" st ∧ ∀ (base : Heap) (f : Addr) (cdv : Value) (A : Around) (outer : List Env) (s : Shared) (H : Hp) (E : XK), A.guards = some [] → Room k (A.deeper (envOfC "law" (defScope st) s.heap.objs.size f cdv)) → ∀ ns ds r, ds.length = 0 → R ns ds r →
        dSs (cxD l.prog w (K w.params) mg base N "law" (defScope st) f cdv A outer s H E) (defBody st) { nx := fun _ => r = .fz .none, rt := fun r' _ => r'.le r } (argsS N ns ds)) :
    PySem.W.WalkO q loose XP YP l.row.toRowW d [] (fun f vs => PySem.call f vs) := by
  refine Att.attach_call hn hdf fun w s0 s1 mg mb fa o pm cd doc t vs ns G Y ho hd hcd hmg hobj hints hlen hg => ?_
  have KX := hY w _ Y
  obtain ⟨D, body⟩ := F w mg fa _ KX G.T.g hmg
  obtain ⟨f, fd, Fn, hm⟩ := D.ok
  rw [hnm, hm] at hmg
  cases hmg
  refine end_core KX G.T.g G.T.b G.T.builtins G.T.nolimit hg hobj hints (Nat.le_trans hlen (by decide)) fun base H e0 hS => ?_
  obtain ⟨oc, od, kV, dc, pm2, an, cdv0, ct, osl, efd, lk, hcd2⟩ := id Fn.ex
  refine run_at (us := [.ref t]) (vs := [.ref t]) Fn S hr e0 ?_ (.cons rfl .nil) rfl fun cdv s2 hrm I => ?_
  · rw [efd]
    exact .of_eq (hb kV dc pm2 an cdv0 ct [.ref t] rfl)
  · have ok := env_startS (N := N) (M := []) (H := H) (vs := []) (ds := []) (fun _ z => nomatch z) (by rw [fz_nil]; exact hS) .nil
    have ba : Base H [] (Fz [] H) [] (argsS N ns []) (L2.start N [.ref t]) H := ⟨Same.refl _, fun _ z => z, fun i s l e1 os _ => (noow i s e1 os).elim, (fun _ z => nomatch z), Same.refl _⟩
    have z := body base fa cdv callerA [] s1 H E0 rfl hrm ns [] _ rfl (hR ns hlen) [] (Fz [] H) [] _ H ok ba [] s2 (I.wish _)
    refine wpAny_mono z (fun fl s3 q => ?_) (fun _ _ q => q)
    cases fl with
    | next =>
      obtain ⟨σ', H', I', env', M', ok', ba', q⟩ := q
      cases q
    | ret u =>
      obtain ⟨v', σ', H', I', rv, r', env', M', σ2, a0, a1, a2, a3⟩ := q
      have z3 := a2.le a3
      cases z3
      exact ⟨_, σ', H', I'.unwish, rv, rfl⟩
    | brk =>
      obtain ⟨σ', H', I', _, _, _, _, q⟩ := q
      exact q.elim
    | cont =>
      obtain ⟨σ', H', I', _, _, _, _, q⟩ := q
      exact q.elim
end Dl

namespace Dl
open PySem PySem.Spec PyProof.Rows L2
/-! ### math.gcd, math.lcm -/
def rLcm : List V → Hp → VK → Prop := fun vs H Q => ∃ a b : Int, vs = [.int a, .int b] ∧ a.natAbs < 2 ^ 64 ∧ b.natAbs < 2 ^ 64 ∧ Q (.int ((Nat.lcm a.natAbs b.natAbs : Nat) : Int)) H
theorem cr_lcm {X : Cx} : CallR X (.builtin "math.lcm") rLcm := by
  intro pins s σ H vs us Q I r h
  obtain ⟨a, b, rfl, ha, hb, q⟩ := h
  obtain ⟨t, u, rfl⟩ := Vals.int2 r
  exact PySem.W.mc_lcm ha hb fun _ => ⟨.int _, H, I.tok _, ⟨_, rfl⟩, q⟩
section
variable {X : Cx} {a b : Expr} {env : List Sl} {pos p : Pos} {i j : Int}
theorem dE_gcd (hm : X.mg "gcd" = some (.builtin "math.gcd")) (ha : dE X a env (.fz (.int i))) (hb : dE X b env (.fz (.int j))) (hg : Gl X "gcd" := by rfl) (he : starEach [a, b] X.env = (false, eval a X.env) :: starEach [b] X.env := by rfl) (he2 : starEach [b] X.env = (false, eval b X.env) :: starEach [] X.env := by rfl) (hpl : (backTo pos (starEach [b] X.env)).any (·.1) = false := by rfl) :
    dE X (.Call (.Name "gcd" p) [a, b] [] pos) env (.fz (.int ((Nat.gcd i.natAbs j.natAbs : Nat) : Int))) := fun M σ H ok Q q =>
  wE.of (pe_callBfun cr_gcd hg hm (pa_cons pe_w (pa_cons pe_w pa_nil he2) he) (he := he) (hpl := hpl)) (ha M σ H ok _ fun v H1 e1 r1 => hb M σ H1 (ok.mono e1) _ fun u H2 e2 r2 => by
    rw [Rp.int_v r1, Rp.int_v r2]
    exact ⟨i, j, rfl, q _ H2 (e1.trans e2) (.int _)⟩)
theorem dE_lcm (hm : X.mg "lcm" = some (.builtin "math.lcm")) (ha : dE X a env (.fz (.int i))) (hb : dE X b env (.fz (.int j))) (h1 : i.natAbs < 2 ^ 64) (h2 : j.natAbs < 2 ^ 64) (hg : Gl X "lcm" := by rfl) (he : starEach [a, b] X.env = (false, eval a X.env) :: starEach [b] X.env := by rfl) (he2 : starEach [b] X.env = (false, eval b X.env) :: starEach [] X.env := by rfl) (hpl : (backTo pos (starEach [b] X.env)).any (·.1) = false := by rfl) :
    dE X (.Call (.Name "lcm" p) [a, b] [] pos) env (.fz (.int ((Nat.lcm i.natAbs j.natAbs : Nat) : Int))) := fun M σ H ok Q q =>
  wE.of (pe_callBfun cr_lcm hg hm (pa_cons pe_w (pa_cons pe_w pa_nil he2) he) (he := he) (hpl := hpl)) (ha M σ H ok _ fun v H1 e1 r1 => hb M σ H1 (ok.mono e1) _ fun u H2 e2 r2 => by
    rw [Rp.int_v r1, Rp.int_v r2]
    exact ⟨i, j, rfl, h1, h2, q _ H2 (e1.trans e2) (.int _)⟩)
end
end Dl

namespace Dl
open PySem PySem.Spec PyProof.Rows L2
section
variable {X : Cx} {a b : Expr} {env : List Sl} {d d' : PyData} {ds : List PyData} {x y : Int} {z : Str} {k k' : Bool}
theorem dC_inD (hu : X.A.units + 65 < cLine) (ha : dR X a env d) (hb : dR X b env (.list ds)) (s1 : SeqAt.shaped d = true) (s2 : SeqAt.shaped (.list ds) = true) (hm : behindInMarks .In b = false) : dC X .In a b env (ds.any fun z => PyData.eqv z d) :=
  ⟨_, op_inD hu, hm, fun M σ H ok Q q => ha M σ H ok _ fun v H1 e1 r1 => hb M σ H1 (ok.mono e1) _ fun u H2 e2 r2 => ⟨d, ds, (r1.mono e2).rp.dp, r2.rp.dp, s1, s2, q H2 (e1.trans e2)⟩⟩
theorem dC_ninD (hu : X.A.units + 65 < cLine) (ha : dR X a env d) (hb : dR X b env (.list ds)) (s1 : SeqAt.shaped d = true) (s2 : SeqAt.shaped (.list ds) = true) (hm : behindInMarks .NotIn b = false) : dC X .NotIn a b env (!ds.any fun z => PyData.eqv z d) :=
  ⟨_, op_notInD hu, hm, fun M σ H ok Q q => ha M σ H ok _ fun v H1 e1 r1 => hb M σ H1 (ok.mono e1) _ fun u H2 e2 r2 => ⟨d, ds, (r1.mono e2).rp.dp, r2.rp.dp, s1, s2, q H2 (e1.trans e2)⟩⟩
theorem dC_isB (ha : dE X a env (.fz (.bool k))) (hb : dE X b env (.fz (.bool k'))) : dC X .Is a b env (decide (k = k')) :=
  ⟨_, op_is_bl, nomark _, fun M σ H ok Q q => ha M σ H ok _ fun v H1 e1 r1 => hb M σ H1 (ok.mono e1) _ fun u H2 e2 r2 => by
    rw [Rp.bl_v r1, Rp.bl_v r2]
    exact ⟨k, k', rfl, rfl, q H2 (e1.trans e2)⟩⟩
theorem dC_isnotB (ha : dE X a env (.fz (.bool k))) (hb : dE X b env (.fz (.bool k'))) : dC X .IsNot a b env (!decide (k = k')) :=
  ⟨_, op_isnot_bl, nomark _, fun M σ H ok Q q => ha M σ H ok _ fun v H1 e1 r1 => hb M σ H1 (ok.mono e1) _ fun u H2 e2 r2 => by
    rw [Rp.bl_v r1, Rp.bl_v r2]
    exact ⟨k, k', rfl, rfl, q H2 (e1.trans e2)⟩⟩
theorem dC_sstr (ha : dE X a env (.fz (.str z))) (hb : dE X b env (.fz (.str z))) : dC X .NotEq a b env false := by
  have w := dC_nes ha hb
  rwa [decide_eq_true rfl] at w
theorem dC_sstrE (ha : dE X a env (.fz (.str z))) (hb : dE X b env (.fz (.str z))) : dC X .Eq a b env true := by
  have w := dC_eqs ha hb
  rwa [decide_eq_true rfl] at w
theorem dC_sint (ha : dE X a env (.fz (.int x))) (hb : dE X b env (.fz (.int y))) (e : x = y) : dC X .NotEq a b env false := by
  have w := dC_nei ha hb
  rwa [decide_eq_true e] at w
theorem dC_sintE (ha : dE X a env (.fz (.int x))) (hb : dE X b env (.fz (.int y))) (e : x = y) : dC X .Eq a b env true := by
  have w := dC_eqi ha hb
  rwa [decide_eq_true e] at w
end
end Dl

namespace Dl
open PySem PySem.Spec PyProof.Rows L2
/-! ### {elt for target in iter}, elt an int (no tests) -/
def setIn (S : Int → Bool) (k : Int) : Int → Bool := fun j => S j || decide (j = k)
def setUp (S : Int → Bool) (k : Int) (n : Nat) : Nat := if S k = true then n else n + 1
def tSi (w : World) (wi : TI) (g : TG) (te : TE) (vs : List Nat) : TE := fun σ H Q => wi σ H fun J H1 => ∀ D, H1 D = none →
  ∃ W : Nat → Nat → Hp → Prop, (∃ m, W 0 m (upd H1 D (SetO w D (fun _ => false) 0))) ∧
    ∀ i m H2, W i m H2 → (J.stop i H2 ∧ Q (.ref D) H2) ∨
      (J.go i H2 ∧ ∀ x H3, J.yld i H2 x H3 → g x (wipe σ vs) H3 fun σ2 H4 => wipe σ2 vs = wipe σ vs ∧
        te σ2 H4 fun y H5 => ∃ k S n, y = .int k ∧ H5 D = some (SetO w D S n) ∧ n + 1 < scanBound ∧ ∃ m', m' < m ∧ W (i + 1) m' (upd H5 D (SetO w D (setIn S k) (setUp S k n))))
theorem pe_si {X : Cx} {elt tg iter : Expr} {scope : Scope} {own : List (Str × Nat)} {pos : Pos} {wi : TI} {g : TG} {te : TE} (hc : X.calm = true) (hN : X.N.Nodup) (hi : PI X tg iter wi) (ok : BlkOk X.N X.env.scope scope own)
    (hg : ∀ s H C cl fp, PG (X.blk s H scope (compEnvC scope cl C X.env) fp) tg g) (he : ∀ s H C cl fp, PE (X.blk s H scope (compEnvC scope cl C X.env) fp) elt te) (hs : ∀ x, foldedSetIterable iter X.env x = pure x) :
    PE X (.SetComp elt [⟨tg, iter, [], 0⟩] scope pos) (tSi X.w wi g te (own.map (·.2))) := by
  constructor
  intro pins s σ H Q I h
  have fr : ∀ y ∈ scope.names, y.2 = .free → ∃ c, X.env.cells.lookup y.1 = some c := fun y hy e => (ok.free y hy e).elim (fun k => I.ok.has _ (.inl k)) fun k => I.ok.has _ (.inr k)
  rw [PpSet.eval_SetComp]
  refine wpAny_comprehension_free (use := none) rfl hs (closure_ok fr) ok.kind (fun y hy e => by rw [ok.uniq y hy, e]) (thn (hi.run pins s σ H _ I h) fun _ _ a => thn a fun _ s2 b => ?_)
  obtain ⟨it, fp, tn, J, H2, rfl, I2, T, t2, f2, q⟩ := b
  refine PpSet.newSet_ok (newEnv_comp ?_)
  obtain ⟨W, ⟨m0, w0⟩, turn⟩ := q s2.heap.objs.size (I2.hok.fresh (Nat.le_refl _))
  obtain ⟨s3, e3⟩ : ∃ s3 : Shared, s3 = { s2 with heap := s2.heap.push { cls := .type "set", dict := none, data := .set #[] 0 (.fresh 0 0 (!X.w.params.followText "set-order")) } } := ⟨_, rfl⟩
  obtain ⟨H3, eH⟩ : ∃ H3 : Hp, H3 = upd H2 s2.heap.objs.size (SetO X.w s2.heap.objs.size (fun _ => false) 0) := ⟨_, rfl⟩
  have old : ∀ b o, s2.heap.get? b = some o → s3.heap.get? b = some o := fun b o e => by
    rw [e3]
    exact Heap.get?_push_of_some _ e
  have I3 : Inv X pins σ H3 s3 := by
    rw [e3, eH]
    exact I2.laid (t' := s2.toks) (fun b o e => Heap.get?_push_of_some _ e) (Nat.le_refl _) (setO_new (setR_fresh X.w))
  have siz : s3.heap.objs.size = s2.heap.objs.size + 1 := by
    rw [e3]
    exact Heap.size_push ..
  have f3 : ∀ b ∈ fp, FpOk X pins H3 b ∧ b < s3.heap.objs.size := fun b hb => by
    obtain ⟨o, ho, _⟩ := T.obj _ _ t2 b hb
    have lt := Heap.lt_size ho
    refine ⟨⟨?_, (f2 b hb).2⟩, Nat.lt_of_lt_of_le lt (by rw [siz]; exact Nat.le_succ _)⟩
    rw [eH, upd_ne (Nat.ne_of_lt lt)]
    exact (f2 b hb).1
  have I4 := block_start I3 ok hN f3
  rw [← eH] at w0
  rw [← e3]
  generalize hcl : cellsFrom (s3.heap.objs.size + 1) scope.names (cloFrom X.env.cells scope.names []) = cl at I4 ⊢
  have pg := hg s3 H3 s3.heap.objs.size cl fp
  have pe := he s3 H3 s3.heap.objs.size cl fp
  show codeAny _ _ (.compStart (.SetComp elt [⟨tg, iter, [], 0⟩] scope pos) 0 (.ref it) (.ref s2.heap.objs.size) (compEnvC scope cl s3.heap.objs.size X.env)) (compPost (model X.prog X.w) X.A X.xe none (EP X pins σ Q) (.ref s2.heap.objs.size) s3.heap.objs.size) { s3 with heap := pushCells (s3.heap.push { cls := .type "dict", data := .dict #[] }) scope.names }
  have loc : (compEnvC scope cl s3.heap.objs.size X.env).locals = s3.heap.objs.size := rfl
  generalize compEnvC scope cl s3.heap.objs.size X.env = ce at I4 pg pe loc ⊢
  obtain ⟨s4, e4⟩ : ∃ s4 : Shared, s4 = { s3 with heap := pushCells (s3.heap.push { cls := .type "dict", data := .dict #[] }) scope.names } := ⟨_, rfl⟩
  rw [← e4] at I4 ⊢
  have t4 : tn 0 s4.heap := T.keep _ _ _ t2 fun b _ o e => by
    rw [e4]
    exact pushCells_keeps _ _ _ _ (Heap.get?_push_of_some _ (old b o e))
  have here : ∀ {τ : L2.St} {H' : Hp} {s' : Shared}, Inv (X.blk s3 H3 scope ce fp) [] τ H' s' → (∀ b ∈ fp, H' b = none) → ∀ b ∈ fp, FpOk (X.blk s3 H3 scope ce fp) [] H' b := fun {τ H' s'} i no b hb =>
    ⟨no b hb, (i.ok.exf b hb).1, i.ok.exfs b hb, .inl hb, fun x c e => (i.ok.exf b hb).2 x c e, fun p hp => (by cases hp)⟩
  have run : codeAny (model X.prog X.w) X.A (.compLoop (.SetComp elt [⟨tg, iter, [], 0⟩] scope pos) 0 (.ref it) (.ref s2.heap.objs.size) ce) (compPost (model X.prog X.w) X.A X.xe none (EP X pins σ Q) (.ref s2.heap.objs.size) s3.heap.objs.size) s4 := by
    refine PpSet.compLoopS_any (fun n s' => ∃ i H', Inv (X.blk s3 H3 scope ce fp) [] (wipe σ (own.map (·.2))) H' s' ∧ tn i s'.heap ∧ (∀ b ∈ fp, H' b = none) ∧ W i n H') ?_ m0 ⟨0, H3, I4, t4, fun b hb => (f3 b hb).1.1, w0⟩
    intro n s5 hI
    obtain ⟨i, H5, I5, t5, n5, w5⟩ := hI
    rcases turn i n H5 w5 with ⟨st, fin⟩ | ⟨go, step⟩
    · refine thnF (T.done (X.blk s3 H3 scope ce fp) rfl rfl rfl hc i [] s5 _ H5 (fun _ _ => False) I5 (here I5 n5) t5 st) fun r s6 z => ?_
      obtain ⟨rfl, I6⟩ := z
      obtain ⟨m, hm, _⟩ := I6.loc
      have hm : s6.heap.Ns ce.locals m := hm
      have no : H5 ce.locals = none := I6.free
      rw [loc] at hm no
      have I7 : Inv X pins σ H5 s6 := I3.call' (ch := fp) I6.os I6.base I6.hok I6.bare fun b hb => by
        obtain ⟨_, c1, c2, c3, c4, c5⟩ := (f3 b hb).1
        exact ⟨c3, c1, c4, c5⟩
      obtain ⟨p0, p1, _, p3, p4, p5⟩ := I3.fpOk (Nat.le_refl _) no
      exact ⟨m, hm, fun h'' sb => ⟨.ref _, H5, I7.turned (t' := s6.toks) (fun b o hb e => (sb.2 b hb).trans e) p0 p1 p3 p4 p5, rfl, fin⟩⟩
    · refine thnF (T.item (X.blk s3 H3 scope ce fp) rfl rfl rfl hc i [] s5 _ H5 (fun _ _ => False) I5 (here I5 n5) t5 go) fun r s6 z => ?_
      obtain ⟨u, rfl, z⟩ := z
      refine thnF z fun _ s7 z => ?_
      obtain ⟨x, H7, I7, r7, y7, t7, n7⟩ := z
      have I8 := I7.pinned (here I7 n7) (T.obj _ _ t7)
      refine thnF (pg.run _ s7 _ H7 x u _ I8 r7 (step x H7 y7)) fun _ s8 z => ?_
      obtain ⟨σ8, H8, I9, hw, q8⟩ := z
      refine thnF ((pts_nil (X := X.blk s3 H3 scope ce fp)).run _ s8 σ8 H8 (fun b H' => b = true ∧ te σ8 H' _) I9 ⟨rfl, q8⟩) fun b s9 z => ?_
      obtain ⟨H9, I9, rfl, q9⟩ := z
      rw [if_pos rfl]
      refine thnF (pe.run _ s9 σ8 H9 _ I9 q9) fun u s10 z => ?_
      obtain ⟨y, H10, I10, r10, k, S, c, rfl, hD, room, m', lm, w'⟩ := z
      refine thnF (mt_sadd (X := X.blk s3 H3 scope ce fp) _ s10 σ8 H10 (.ref s2.heap.objs.size) [.int k] (.ref s2.heap.objs.size) [u] (fun _ H' => W (i + 1) m' H') I10 rfl (.cons r10 .nil) ⟨_, k, S, c, rfl, rfl, hD, room, w'⟩) fun _ s11 z => ?_
      obtain ⟨_, H11, I11, _, w11⟩ := z
      have keep : ∀ b ∈ fp, ∀ o, s7.heap.get? b = some o → s11.heap.get? b = some o ∧ H11 b = none := fun b hb o e => by
        have z := I11.pin (b, o) (List.mem_append_right _ (List.mem_append_right _ (mem_pinsAt hb e)))
        exact ⟨z.1, z.2.1⟩
      refine ⟨m', lm, i + 1, H11, (I11.unpinned (pins := [])).weak (by rw [← hw, wipe_length]) (fun j v e => by
        rw [← hw] at e
        exact (wipe_some e).1), T.keep _ _ _ t7 fun b hb o e => (keep b hb o e).1, fun b hb => ?_, w11⟩
      obtain ⟨o, ho, _⟩ := T.obj _ _ t7 b hb
      exact (keep b hb o ho).2
  exact PpSet.codeAny_compStart_set run (T.self X.A 0 _ _ _ t4 run)
/-! ### sorted({..}) -/
theorem asc_unique : ∀ {a b : List Int}, a.Pairwise (· < ·) → b.Pairwise (· < ·) → (∀ k, k ∈ a ↔ k ∈ b) → a = b
  | [], [], _, _, _ => rfl
  | [], y :: b, _, _, h => absurd ((h y).mpr (.head _)) (fun z => (nomatch z))
  | x :: a, [], _, _, h => absurd ((h x).mp (.head _)) (fun z => (nomatch z))
  | x :: a, y :: b, ha, hb, h => by
    rw [List.pairwise_cons] at ha hb
    have e : x = y := by
      rcases List.mem_cons.mp ((h x).mp (.head _)) with z | z
      · exact z
      · rcases List.mem_cons.mp ((h y).mpr (.head _)) with w | w
        · exact w.symm
        · have := hb.1 x z
          have := ha.1 y w
          omega
    subst e
    congr 1
    refine asc_unique ha.2 hb.2 fun k => ?_
    constructor
    · intro z
      rcases List.mem_cons.mp ((h k).mp (.tail _ z)) with w | w
      · have := ha.1 k z
        omega
      · exact w
    · intro z
      rcases List.mem_cons.mp ((h k).mpr (.tail _ z)) with w | w
      · have := hb.1 k z
        omega
      · exact w
theorem wipe_twice (vs : List Nat) (σ : L2.St) : wipe (wipe σ vs) vs = wipe σ vs := by
  refine List.ext_getElem? fun j => ?_
  rw [wipe_get, wipe_length, wipe_get]
  by_cases hj : j ∈ vs
  · rw [if_pos hj, if_pos hj]
  · rw [if_neg hj, if_neg hj]
section
variable {X : Cx} {tg elt iter : Expr} {scope : Scope} {own : List (Str × Nat)} {env : List Sl} {pos p pos2 : Pos}
theorem dE_sortedSc {α : Type} {xs : List α} {g : α → PyData} {q : α → Int} {ns : List Int} (own : List (Str × Nat)) (hc : X.calm = true) (hN : X.N.Nodup) (hm : X.mg "sorted" = none) (h1 : ns.Pairwise (· < ·)) (h2 : ∀ k, k ∈ ns ↔ ∃ x ∈ xs, q x = k)
    (hi : dI X tg iter env (xs.map g)) (hlen : xs.length < 64) (turn : ∀ x ∈ xs, dTurn X scope own tg [] elt env (g x) true (.fz (.int (q x))))
    (ok : BlkOk X.N X.env.scope scope own) (hs : ∀ x, foldedSetIterable iter X.env x = pure x := by intro _; rfl) (hg : Gl X "sorted" := by rfl)
    (he : starEach [.SetComp elt [⟨tg, iter, [], 0⟩] scope pos] X.env = (false, eval (.SetComp elt [⟨tg, iter, [], 0⟩] scope pos) X.env) :: starEach [] X.env := by rfl) :
    dE X (.Call (.Name "sorted" p) [.SetComp elt [⟨tg, iter, [], 0⟩] scope pos] [] pos2) env (.fr (ns.map PyData.int)) := fun M σ H okE Q qq => by
  refine wE.of (pe_callB (cr_sortedSet hc) hg hm PyProof.Rows.boot_sorted (pa_cons (pe_si hc hN pi_w ok bg_ok be_ok hs) pa_nil he) (he := he)) ?_
  refine hi M σ H okE _ fun J H1 e1 it D hD => ?_
  have ok1 : EnvOk X.K M env σ H1 := okE.mono e1
  refine ⟨fun i m H2 => m = xs.length - i ∧ i ≤ xs.length ∧ Same H1 H2 ∧ ∃ S n, H2 D = some (SetO X.w D S n) ∧ n ≤ i ∧ ∀ k, S k = true ↔ ∃ x ∈ xs.take i, q x = k, ⟨xs.length, rfl, Nat.zero_le _, same_new hD, _, 0, upd_same, Nat.le_refl _, fun k => ⟨fun z => (nomatch z), fun z => ?_⟩⟩, ?_⟩
  · obtain ⟨x, hx, _⟩ := z
    rw [List.take_zero] at hx
    cases hx
  rintro i m H2 ⟨rfl, hle, e2, S, n, hS, hn, mem⟩
  by_cases hlt : i < xs.length
  · refine .inr ⟨it.go H2 i e2 (by rw [List.length_map]; exact hlt), fun x H3 hy => ?_⟩
    have hx : (xs.map g)[i]? = some (g xs[i]) := by
      rw [List.getElem?_map, List.getElem?_eq_getElem hlt]
      rfl
    have dm : ∀ b ∈ M, ∃ o, H2 b = some o := fun b hb => by
      obtain ⟨o, ho⟩ := ok1.dom b hb
      exact ⟨o, e2 _ _ ho⟩
    obtain ⟨e3, rx⟩ := it.yld M H2 i _ x H3 dm e2 (fz_same e2) hx hy
    obtain ⟨is, env2, his, blk⟩ := turn xs[i] (List.getElem_mem hlt)
    have okw := (ok1.mono (e2.trans e3)).wiped (own.map (·.2))
    intro s H0 C cl fp
    refine (blk s H0 C cl fp).1 M _ H3 x okw rx _ fun σ2 p2 => ⟨?_, ?_⟩
    · rw [p2.wip _ his]
      exact wipe_twice _ _
    · intro s' H0' C' cl' fp'
      refine (blk s' H0' C' cl' fp').2.2 rfl M σ2 H3 p2.ok _ fun v H4 e4 r4 => ?_
      have ev : v = .int (q xs[i]) := Rp.int_v r4
      subst ev
      have hS4 := (e3.trans e4) _ _ hS
      refine ⟨q xs[i], S, n, rfl, hS4, Nat.lt_of_le_of_lt (show n + 1 ≤ 64 by omega) (by decide), xs.length - (i + 1), by omega, rfl, hlt, fun b o hb => ?_, _, _, upd_same, ?_, fun k => ?_⟩
      · rw [upd_ne (ne_of_none hb hD)]
        exact ((e2.trans e3).trans e4) _ _ hb
      · unfold setUp
        split <;> omega
      · unfold setIn
        rw [Bool.or_eq_true, decide_eq_true_eq, mem, List.take_add_one, List.getElem?_eq_getElem hlt]
        constructor
        · rintro (⟨x, hx, e⟩ | e)
          · exact ⟨x, List.mem_append_left _ hx, e⟩
          · exact ⟨xs[i], List.mem_append_right _ (.head _), e.symm⟩
        · rintro ⟨x, hx, e⟩
          rcases List.mem_append.mp hx with z | z
          · exact .inl ⟨x, z, e⟩
          · have z : x = xs[i] := List.mem_singleton.mp z
            rw [z] at e
            exact .inr e.symm
  · have ei : i = xs.length := by omega
    subst ei
    rw [List.take_length] at mem
    refine .inl ⟨it.stop H2 _ e2 (by rw [List.length_map]; exact Nat.le_refl _), D, S, n, rfl, hS, by omega, fun ks pp hk hkm _ hp => ?_⟩
    have e : ks = ns := asc_unique hk h1 fun k => by rw [hkm, mem, h2]
    subst e
    have en := e1.trans e2
    refine qq _ _ (en.trans (same_new hp)) ⟨pp, _, rfl, en.free hp, (ok1.mono e2).notin hp, upd_same, ?_⟩
    exact RpL.of_int _
end
end Dl

namespace Dl
open PySem PySem.Spec PyProof.Rows L2
/-! ### own classes of errors, made without arguments; defs that may raise them -/
structure ExK (K : PySem.W.Frag) (mg : Str → Option Value) (x : Str) (C : Addr) : Prop where
  g : mg x = some (.ref C)
  k : PySem.W.keepIn K (.ref C) = true
  q : PySem.W.excIn K C [.type "ValueError", .type "Exception", .type "BaseException", .type "object"] "ValueError.__new__" = true
  b : PySem.W.subIn K (.ref C) (.type "BaseException") = some true
  t : PySem.W.typeIn K (.ref C) = some (.type "type")
theorem pmk_own0 {X : Cx} {x : Str} {C : Addr} {p pos : Pos} (c : ExK X.K X.mg x C) (hg : Gl X x) (hdb : (x == ("__debug__" : Str)) = false) : PMk X (.Call (.Name x p) [] [] pos) (fun _ H Q => Q (.ref C) none H) := by
  intro pins s σ H Q I h
  refine wpAny_Call_Name_kw (ld_glob I hg c.g ?_ hdb)
  refine PySem.W.callWith_K0 I.kIn c.k ?_
  show wpAny _ _ (call (.ref C) []) _ _ _
  obtain ⟨bm, N, nm, qn, bs, hdct, sn, sub, ab, col, dd, k0, k1, k2, k3, k5, mN, hC, hN, hni, T⟩ := exc_obj I.kIn c.q
  refine wpAny_call_exc_subT PySem.F.excBase_ValueError T hC hN hni (fun h' e hm => ?_) (Nat.zero_le _)
  exact mk_of I hm (raises_own c.b c.t) h (I.hok.gone hm.new)
theorem s_raise {X : Cx} {W : WX} {x : Str} {C : Addr} {p pos pos2 : Pos} {sts : List Stmt} {D : DEnds} {env : List Sl} (tk : Takes X W) (c : ExK X.K X.mg x C) (hW : ∀ σ H', Same X.H_0 H' → W (.ref C) none σ H') (hc : X.calm = true := by rfl) (hg : Gl X x := by rfl)
    (hdb : (x == ("__debug__" : Str)) = false := by decide) : dSs X (.Raise (some (.Call (.Name x p) [] [] pos2)) none pos :: sts) D env :=
  dSs_cons fun B HF M σ H ok ba => wS.of (ps_raise hc tk (pmk_own0 c hg hdb)) (hW σ H ba.ext)
/-- a def's promise: an answer, or an error of a class -/
def spX (K : PySem.W.Frag) (n : Nat) (R : List PyData → Rs ⊕ Addr → Prop) : Sp := fun vs H Q E => ∃ M ds o, ds.length = n ∧ (∀ b ∈ M, ∃ o, H b = some o) ∧ RpL K (Fz M H) vs ds ∧ R ds o ∧
  (∀ r, o = .inl r → ∀ v H', Same H H' → RvOk K M H H' v r → Q v H') ∧ ∀ C, o = .inr C → ∀ H', Same H H' → E (.ref C) none H'
structure CalleeX (P : Program) (w : World) (K : PySem.W.Frag) (mg : Str → Option Value) (base : Heap) (k : Nat) (x : Str) (ps : List Str) (R : List PyData → Rs ⊕ Addr → Prop) : Prop where
  ok : ∃ f fd, FnOk P w K mg base (L2.CX P w) k f fd ps (spX K ps.length R) ∧ mg x = some (.ref f) ∧ PySem.W.keepIn K (.ref f) = true ∧ Binds K fd ps []
theorem CalleeX.mono {P : Program} {w : World} {K : PySem.W.Frag} {mg : Str → Option Value} {base : Heap} {k k' : Nat} {x : Str} {ps : List Str} {R : List PyData → Rs ⊕ Addr → Prop} (h : CalleeX P w K mg base k x ps R) (hk : k ≤ k') : CalleeX P w K mg base k' x ps R := by
  obtain ⟨f, fd, F, r⟩ := h.ok
  exact ⟨f, fd, F.mono hk, r⟩
section
variable {X : Cx} {W : WX} {e a b c : Expr} {es : List Expr} {env : List Sl} {r : Rs} {d : PyData} {ds : List PyData} {pos p : Pos} {x : Str} {ps : List Str} {R : List PyData → Rs ⊕ Addr → Prop} {n : Nat} {C : Addr}
/-- the call answers -/
theorem dE_callX (tk : Takes X W) (F : CalleeX X.prog X.w X.K X.mg X.base n x ps R) (hr : Room n X.A) (ha : dA X (e :: es) env ds) (h : R ds (.inl r)) (hl : ds.length = ps.length) (hg : Gl X x := by rfl) (hdb : (x == ("__debug__" : Str)) = false := by decide)
    (he : starEach (e :: es) X.env = (false, eval e X.env) :: starEach es X.env := by rfl) (hpl : (backTo pos (starEach es X.env)).any (·.1) = false := by rfl) : dE X (.Call (.Name x p) (e :: es) [] pos) env r := fun M σ H ok Q q => by
  obtain ⟨f, fd, G, hm, hk, hb⟩ := F.ok
  refine wE.of (pe_callS G hr hg hm hk hb (fun σ => passAt tk σ) pa_w hdb he hpl) (ha M σ H ok _ fun vs H1 e1 l => ?_)
  refine ⟨M, ds, .inl r, hl, (ok.mono e1).dom, l, h, fun r' e' v H' e2 rv => ?_, fun C e' => nomatch e'⟩
  cases e'
  exact q v H' (e1.trans e2) (rv.back e1)
/-- an expression that raises -/
def dX (X : Cx) (W : WX) (e : Expr) (env : List Sl) (C : Addr) : Prop := ∀ M σ H, EnvOk X.K M env σ H → (∀ H', Same H H' → W (.ref C) none σ H') → ∀ Q : VK, wE X e σ H Q
theorem dX_call (tk : Takes X W) (F : CalleeX X.prog X.w X.K X.mg X.base n x ps R) (hr : Room n X.A) (ha : dA X (e :: es) env ds) (h : R ds (.inr C)) (hl : ds.length = ps.length) (hg : Gl X x := by rfl) (hdb : (x == ("__debug__" : Str)) = false := by decide)
    (he : starEach (e :: es) X.env = (false, eval e X.env) :: starEach es X.env := by rfl) (hpl : (backTo pos (starEach es X.env)).any (·.1) = false := by rfl) : dX X W (.Call (.Name x p) (e :: es) [] pos) env C := fun M σ H ok hW Q => by
  obtain ⟨f, fd, G, hm, hk, hb⟩ := F.ok
  refine wE.of (pe_callS G hr hg hm hk hb (fun σ => passAt tk σ) pa_w hdb he hpl) (ha M σ H ok _ fun vs H1 e1 l => ?_)
  refine ⟨M, ds, .inr C, hl, (ok.mono e1).dom, l, h, fun r' e' => (nomatch e'), fun C' e' H' e2 => ?_⟩
  cases e'
  exact hW H' (e1.trans e2)
theorem s_exprX {sts : List Stmt} {D : DEnds} (he : dX X W e env C) (hW : ∀ σ H', Same X.H_0 H' → W (.ref C) none σ H') (hs : swapsWith e none pos.line X.env = pure false := by rfl) : dSs X (.Expr e pos :: sts) D env :=
  dSs_cons fun B HF M σ H ok ba => wS.of (ps_expr pe_w hs) (he M σ H ok (fun H' e' => hW σ H' (ba.ext.trans e')) _)
end
section
variable {P : Program} {w : World} {K : PySem.W.Frag} {mg : Str → Option Value} {base : Heap}
abbrev cxX (P : Program) (w : World) (K : PySem.W.Frag) (mg : Str → Option Value) (base : Heap) (N : List Str) (qual : Str) (scope : Scope) (f : Addr) (cd : Value) (A : Around) (outer : List Env) (s : Shared) (H : Hp) (E : XK) : Cx := cxOf (L2.CX P w) P w K mg base N qual scope f cd A outer s H E
abbrev WfX (E : XK) : WX := fun cls d _ H => E cls d H
theorem takesX {N : List Str} {qual : Str} {scope : Scope} {f : Addr} {cd : Value} {A : Around} {outer : List Env} {s : Shared} {H : Hp} {E : XK} : Takes (cxX P w K mg base N qual scope f cd A outer s H E) (WfX E) := takes_of rfl rfl rfl rfl
theorem fn_okX {x qual : Str} {st : Stmt} {f : Addr} {fd : FuncData} {N ps : List Str} {k : Nat} {R : List PyData → Rs ⊕ Addr → Prop} (F : Fun K x qual st f fd) (S : FnScope N ps (defScope st))
    (body : ∀ (cdv : Value) (A : Around) (outer : List Env) (s : Shared) (H : Hp) (E : XK), Room k (A.deeper (envOfC qual (defScope st) s.heap.objs.size f cdv)) → ∀ ds o, ds.length = ps.length → R ds o → (∀ C, o = .inr C → ∀ H', Same H H' → E (.ref C) none H') →
      dSs (cxX P w K mg base N qual (defScope st) f cdv A outer s H E) (defBody st) { nx := fun _ => o = .inl (.fz .none), rt := fun r' _ => ∃ r, o = .inl r ∧ r'.le r } (args N ds)) : FnOk P w K mg base (L2.CX P w) (k + 1) f fd ps (spX K ps.length R) := by
  refine F.okX S (fun vs H Q E h => ?_) (fun cdv A outer s H vs Q E hr h => ?_)
  · obtain ⟨M, ds, o, h1, _, h3, _⟩ := h
    rw [h3.length, h1]
  · obtain ⟨M, ds, o, h1, h2, h3, h4, q, qx⟩ := h
    refine ⟨_, pss_w, ?_⟩
    intro pins s1 I
    have ok := env_start (N := N) h2 h3
    have noow : ∀ (i : Nat) (s : Sl), (args N ds)[i]? = some s → s.own = true → False := fun i s e1 os => by
      have z := List.mem_of_getElem? e1
      unfold args at z
      rcases List.mem_append.mp z with z | z
      · obtain ⟨d, _, e⟩ := List.mem_map.mp z
        rw [← e] at os
        cases os
      · rw [List.mem_replicate] at z
        rw [z.2] at os
        cases os
    have ba : Base H M (Fz M H) M (args N ds) (L2.start N vs) H := ⟨Same.refl _, fun _ z => z, fun i s l e1 os _ => (noow i s e1 os).elim, h2, Same.refl _⟩
    refine thn (body cdv A outer s H E hr ds o h1 h4 qx M (Fz M H) M (L2.start N vs) H ok ba pins s1 I) fun fl s2 z => ?_
    cases fl with
    | next =>
      obtain ⟨σ', H', I', env', M', ok', ba', z⟩ := z
      exact ⟨σ', H', I', q _ z .non H' ba'.ext .non⟩
    | ret u =>
      obtain ⟨v', σ', H', I', rv, r', env', M', σ2, a0, a1, a2, r, er, a3⟩ := z
      exact ⟨v', σ', H', I', rv, q _ er v' H' a1.ext ((a2.sub a1.sub).le a3)⟩
    | brk =>
      obtain ⟨σ', H', I', z⟩ := z
      obtain ⟨_, _, _, _, z⟩ := z
      exact z.elim
    | cont =>
      obtain ⟨σ', H', I', z⟩ := z
      obtain ⟨_, _, _, _, z⟩ := z
      exact z.elim
end
end Dl
namespace Dl
open PySem PySem.Spec PyProof.Rows L2
section
variable {P : Program} {w : World} {K : PySem.W.Frag} {mg : Str → Option Value} {base : Heap}
theorem calleeX {x : Str} {st : Stmt} {N ps : List Str} {k : Nat} {R : List PyData → Rs ⊕ Addr → Prop} (D : DefAt K mg x st) (S : FnScope N ps (defScope st)) (hb : BindOk x st ps)
    (body : ∀ (f : Addr) (cdv : Value) (A : Around) (outer : List Env) (s : Shared) (H : Hp) (E : XK), Room k (A.deeper (envOfC x (defScope st) s.heap.objs.size f cdv)) → ∀ ds o, ds.length = ps.length → R ds o → (∀ C, o = .inr C → ∀ H', Same H H' → E (.ref C) none H') →
      dSs (cxX P w K mg base N x (defScope st) f cdv A outer s H E) (defBody st) { nx := fun _ => o = .inl (.fz .none), rt := fun r' _ => ∃ r, o = .inl r ∧ r'.le r } (args N ds)) : CalleeX P w K mg base (k + 1) x ps R := by
  obtain ⟨f, fd, F, hm⟩ := D.ok
  exact ⟨f, fd, fn_okX F S (body f), hm, F.kp, F.binds hb⟩
end
end Dl

namespace Dl
open PySem PySem.Spec PyProof.Rows L2
/-! ### tuple(xs), max(xs), min(xs), sorted(xs), str(n), sep.join(xs), a + b of texts -/
theorem RpL.str_of {K : PySem.W.Frag} {H : Hp} : ∀ {vs : List V} {ns : List Str}, RpL K H vs (ns.map PyData.str) → vs = ns.map V.str
  | _, [], .nil => rfl
  | _, n :: ns, .cons (.str _) t => by rw [List.map_cons, RpL.str_of t]
section
variable {X : Cx} {a b : Expr} {env : List Sl} {d : PyData} {ds : List PyData} {ns ms : List Int} {m i : Int} {pos p ap : Pos}
theorem dE_tupleL (hm : X.mg "tuple" = none) (ha : dR X a env (.list ds)) (hg : Gl X "tuple" := by rfl) (he : starEach [a] X.env = (false, eval a X.env) :: starEach [] X.env := by rfl) : dE X (.Call (.Name "tuple" p) [a] [] pos) env (.fz (.tuple ds)) := fun M σ H ok Q q =>
  wE.of (pe_tupleOf hg hm pe_w he) (ha M σ H ok _ fun v H1 e1 r1 => by
    obtain ⟨t, vs, rfl, h1, l⟩ := r1.lst
    exact .inl ⟨t, vs, rfl, SqL.of h1, fun n hn => q _ _ (e1.trans (same_new hn)) (.tup (.inl (.inl (by rw [fz_out ((ok.mono e1).notin hn)]; exact upd_same))) (l.mono (fz_same (same_new hn))))⟩)
theorem dE_maxL (hm : X.mg "max" = none) (hc : X.calm = true) (ha : dR X a env (.list (ns.map PyData.int))) (h1 : m ∈ ns) (h2 : ∀ y ∈ ns, y ≤ m) (hg : Gl X "max" := by rfl) (he : starEach [a] X.env = (false, eval a X.env) :: starEach [] X.env := by rfl) : dE X (.Call (.Name "max" p) [a] [] pos) env (.fz (.int m)) := fun M σ H ok Q q =>
  wE.of (pe_callB (cr_max hc) hg hm (by decide +kernel) (pa_cons pe_w pa_nil he) (he := he)) (ha M σ H ok _ fun v H1 e1 r1 => by
    obtain ⟨t, vs, rfl, hl, l⟩ := r1.lst
    have ev := l.int_of
    subst ev
    refine ⟨t, ns, rfl, SqL.of hl, List.length_pos_of_mem h1, fun m' g1 g2 => ?_⟩
    have e : m' = m := Int.le_antisymm (h2 _ g1) (g2 _ h1)
    subst e
    exact q _ H1 e1 (.int _))
theorem dE_minL (hm : X.mg "min" = none) (hc : X.calm = true) (ha : dR X a env (.list (ns.map PyData.int))) (h1 : m ∈ ns) (h2 : ∀ y ∈ ns, m ≤ y) (hg : Gl X "min" := by rfl) (he : starEach [a] X.env = (false, eval a X.env) :: starEach [] X.env := by rfl) : dE X (.Call (.Name "min" p) [a] [] pos) env (.fz (.int m)) := fun M σ H ok Q q =>
  wE.of (pe_callB (cr_min hc) hg hm (by decide +kernel) (pa_cons pe_w pa_nil he) (he := he)) (ha M σ H ok _ fun v H1 e1 r1 => by
    obtain ⟨t, vs, rfl, hl, l⟩ := r1.lst
    have ev := l.int_of
    subst ev
    refine ⟨t, ns, rfl, SqL.of hl, List.length_pos_of_mem h1, fun m' g1 g2 => ?_⟩
    have e : m' = m := Int.le_antisymm (g2 _ h1) (h2 _ g1)
    subst e
    exact q _ H1 e1 (.int _))
/-- sorted(xs): ms is the list in order -/
theorem dE_sortedI (hm : X.mg "sorted" = none) (ha : dR X a env (.list (ns.map PyData.int))) (h1 : ms.Perm ns) (h2 : ms.Pairwise (· ≤ ·)) (hg : Gl X "sorted" := by rfl) (he : starEach [a] X.env = (false, eval a X.env) :: starEach [] X.env := by rfl) : dE X (.Call (.Name "sorted" p) [a] [] pos) env (.fr (ms.map PyData.int)) := fun M σ H ok Q q =>
  wE.of (pe_callB cr_sortedI hg hm PyProof.Rows.boot_sorted (pa_cons pe_w pa_nil he) (he := he)) (ha M σ H ok _ fun v H1 e1 r1 => by
    obtain ⟨t, vs, rfl, hl, l⟩ := r1.lst
    have ev := l.int_of
    subst ev
    refine ⟨t, ns, rfl, SqL.of hl, fun ks n g1 g2 hn => ?_⟩
    have e : ks = ms := PySem.W.os_sorted_one (g1.trans h1.symm) g2 h2
    subst e
    exact q _ _ (e1.trans (same_new hn)) ⟨n, _, rfl, e1.free hn, (ok.mono e1).notin hn, upd_same, RpL.of_int _⟩)
theorem dE_str_ (hm : X.mg "str" = none) (ha : dE X a env (.fz (.int i))) (h : i.natAbs.log2 < 1920) (hg : Gl X "str" := by rfl) (he : starEach [a] X.env = (false, eval a X.env) :: starEach [] X.env := by rfl) : dE X (.Call (.Name "str" p) [a] [] pos) env (.fz (.str (toString i))) := fun M σ H ok Q q =>
  wE.of (pe_callTy call_str_int hg hm (by decide +kernel) (pa_cons pe_w pa_nil he) (he := he)) (ha M σ H ok _ fun v H1 e1 r1 => by
    rw [Rp.int_v r1]
    exact ⟨i, rfl, h, q _ H1 e1 (.str _)⟩)
theorem dE_join {z : Str} {ys : List Str} (ha : dE X a env (.fz (.str z))) (hb : dR X b env (.list (ys.map PyData.str))) (hl : (ys.map (·.length)).sum + ys.length * z.length ≤ 16777216) (hs : starEach [b] X.env = [(false, eval b X.env)] := by rfl)
    (hbase : attributeBase a "join" X.env (eval a X.env) = eval a X.env := by rfl) (hline : (ap.endLine == pos.line) = true := by rfl) : dE X (.Call (.Attribute a "join" ap) [b] [] pos) env (.fz (.str (Txt.join z ys))) := fun M σ H ok Q q =>
  wE.of (pe_join pe_w pe_w hs hbase hline) (ha M σ H ok _ fun v H1 e1 r1 => by
    rw [Rp.str_v r1]
    refine ⟨⟨z, rfl⟩, hb M σ H1 (ok.mono e1) _ fun u H2 e2 r2 => ?_⟩
    obtain ⟨t, vs, rfl, h1, l⟩ := r2.lst
    have ev := l.str_of
    subst ev
    exact ⟨z, t, ys, rfl, rfl, .inl (SqL.of h1), hl, q _ H2 (e1.trans e2) (.str _)⟩)
theorem dE_addS {y z : Str} (ha : dE X a env (.fz (.str y))) (hb : dE X b env (.fz (.str z))) (h : y.length + z.length ≤ 16777216) : dE X (.BinOp a .Add b pos) env (.fz (.str (y ++ z))) := fun M σ H ok Q q => by
  refine wE.of (pe_op op_add_str pe_w pe_w) (ha M σ H ok _ fun v H1 e1 r1 => hb M σ H1 (ok.mono e1) _ fun u H2 e2 r2 => ?_)
  rw [Rp.str_v r1, Rp.str_v r2]
  exact ⟨y, z, rfl, rfl, by rw [sizeLine_eq]; exact h, q _ H2 (e1.trans e2) (.str _)⟩
end
end Dl

namespace Dl
open PySem PySem.Spec PyProof.Rows L2
/-! ### sorted(xs), xs data of any depth that Python can set in order -/
abbrev byD : V × PyData → PyData := fun b => b.2
def rSortedD (K : PySem.W.Frag) : List V → Hp → VK → Prop := fun vs H Q => ∃ (a : Addr) (xs : List V) (ds : List PyData), vs = [V.ref a] ∧ SqL K H a xs ∧ DpAll K H xs ds ∧ PySem.W.AllAlike ds ∧ PySem.W.Sortable ds ∧ (∀ d ∈ ds, d.depth ≤ 60) ∧
  ∀ p : Addr, H p = none → Q (.ref p) (upd H p (.lst (((xs.zip ds).mergeSort (PySem.W.dataLe false byD)).map (·.1))))
theorem zip_snd : ∀ {xs : List V} {ds : List PyData}, xs.length = ds.length → (xs.zip ds).map byD = ds
  | [], [], _ => rfl
  | _ :: _, [], h => nomatch h
  | [], _ :: _, h => nomatch h
  | x :: xs, d :: ds, h => by
    rw [List.zip_cons_cons, List.map_cons, zip_snd (Nat.succ.inj h)]
theorem dpAll_len {K : PySem.W.Frag} {H : Hp} : ∀ {xs : List V} {ds : List PyData}, DpAll K H xs ds → xs.length = ds.length
  | _, _, .nil => rfl
  | _, _, .cons _ t => congrArg (· + 1) (dpAll_len t)
section
variable {X : Cx}
theorem each_both {pins : List (Addr × Obj)} {σ : L2.St} {H : Hp} {s : Shared} (I : Inv X pins σ H s) : ∀ {xs : List V} {ds : List PyData} {us : List Value}, DpAll X.K H xs ds → Vals xs us →
    PySem.W.EachIs (fun v (b : V × PyData) => RelV b.1 v) us (xs.zip ds) ∧ PySem.W.EachIs (fun v (b : V × PyData) => ∃ as, Reads s.heap v (byD b) as) us (xs.zip ds)
  | _, _, _, .nil, .nil => ⟨.nil, .nil⟩
  | _, _, _, .cons h t, .cons r rs => by
    obtain ⟨e1, e2⟩ := each_both I t rs
    exact ⟨.cons r e1, .cons (Dp.reads I _ _ _ h r) e2⟩
theorem each_vals : ∀ {us : List Value} {zs : List (V × PyData)}, PySem.W.EachIs (fun v (b : V × PyData) => RelV b.1 v) us zs → Vals (zs.map (·.1)) us
  | _, _, .nil => .nil
  | _, _, .cons h t => .cons h (each_vals t)
theorem cr_sortedD (hu : X.A.units + 66 < cLine) : CallR X (.builtin "sorted") (rSortedD X.K) := by
  intro pins s σ H vs us Q I r h
  obtain ⟨a, xs, ds, rfl, hs, hd, al, so, dp, q⟩ := h
  obtain ⟨its, rv, hl, hz⟩ := I.list hs
  rw [Vals.ref1 r]
  have len := dpAll_len hd
  obtain ⟨e1, e2⟩ := each_both I hd rv
  have zl : (xs.zip ds).length = xs.length := by
    rw [List.length_zip, ← len, Nat.min_self]
  refine PySem.W.sorted_data hl.isList e1 e2 (by rw [zip_snd len]; exact al) (by rw [zip_snd len]; exact so) (by rw [zl]; exact hz) (fun b hb => ?_) fun out hlen he => ?_
  · have z := dp _ (List.of_mem_zip hb).2
    show X.A.units + 2 + b.2.depth < cLine
    omega
  · obtain ⟨ep, he'⟩ := PyProof.Rows.sortedAll_at s.heap its out.toArray
    have hz2 : (((xs.zip ds).mergeSort (PySem.W.dataLe false byD)).map (·.1)).length ≤ sizeLine := by
      rw [List.length_map, List.length_mergeSort, zl]
      exact hz
    exact ⟨.ref _, upd H (s.heap.objs.size + 1) (.lst (((xs.zip ds).mergeSort (PySem.W.dataLe false byD)).map (·.1))), I.laid (t' := s.toks) (fun _ _ => PyProof.Rows.sortedAll_old) (Nat.le_succ _) ⟨hz2, out, ep, each_vals he, he'⟩, rfl, q _ (I.hok.fresh (Nat.le_succ _))⟩
end
theorem rpL_mem {K : PySem.W.Frag} {H : Hp} : ∀ {xs : List V} {ds : List PyData}, RpL K H xs ds → ∀ b ∈ xs.zip ds, Rp K H b.1 b.2
  | _, _, .nil, b, h => nomatch h
  | _, _, .cons r t, b, h => by
    rcases List.mem_cons.mp h with e | h
    · rw [e]
      exact r
    · exact rpL_mem t b h
theorem rpL_pairs {K : PySem.W.Frag} {H : Hp} : ∀ {zs : List (V × PyData)}, (∀ b ∈ zs, Rp K H b.1 b.2) → RpL K H (zs.map (·.1)) (zs.map byD)
  | [], _ => .nil
  | z :: zs, h => .cons (h z (.head _)) (rpL_pairs fun b q => h b (.tail _ q))
section
variable {X : Cx} {a : Expr} {env : List Sl} {ds : List PyData} {pos p : Pos}
theorem dE_sortedD (hm : X.mg "sorted" = none) (hu : X.A.units + 66 < cLine) (ha : dR X a env (.list ds)) (al : PySem.W.AllAlike ds) (so : PySem.W.Sortable ds) (dp : ∀ d ∈ ds, d.depth ≤ 60) (hg : Gl X "sorted" := by rfl) (he : starEach [a] X.env = (false, eval a X.env) :: starEach [] X.env := by rfl) :
    dE X (.Call (.Name "sorted" p) [a] [] pos) env (.fr (ds.mergeSort (PySem.W.dataLe false fun d => d))) := fun M σ H ok Q q =>
  wE.of (pe_callB (cr_sortedD hu) hg hm PyProof.Rows.boot_sorted (pa_cons pe_w pa_nil he) (he := he)) (ha M σ H ok _ fun v H1 e1 r1 => by
    obtain ⟨t, vs, rfl, hl, l⟩ := r1.lst
    refine ⟨t, vs, ds, rfl, SqL.of hl, (l.mono fz_full).dp, al, so, dp, fun n hn => ?_⟩
    have len := l.length
    have ez : ((vs.zip ds).mergeSort (PySem.W.dataLe false byD)).map byD = ds.mergeSort (PySem.W.dataLe false fun d => d) := by
      have z := List.map_mergeSort (f := byD) (l := vs.zip ds) (r := PySem.W.dataLe false byD) (s := PySem.W.dataLe false fun d => d) (fun _ _ _ _ => rfl)
      rw [z, zip_snd len]
    refine q _ _ (e1.trans (same_new hn)) ⟨n, _, rfl, e1.free hn, (ok.mono e1).notin hn, upd_same, ?_⟩
    rw [← ez]
    refine rpL_pairs fun b hb => ?_
    have z := rpL_mem l b (List.mem_mergeSort.mp hb)
    exact z.mono (fz_new hn))
end
end Dl

namespace Dl
open PySem PySem.Spec PyProof.Rows L2
/-! ### t + u of tuples, l.extend(xs) -/
theorem RdOk.tupF {K : PySem.W.Frag} {M : List Addr} {H : Hp} {v : V} {ds : List PyData} (h : RdOk K M H v (.tuple ds)) : ∃ p vs, v = .ref p ∧ SqT K (Fz M H) p vs ∧ RpL K (Fz M H) vs ds := by
  rcases h with h | ⟨ds, p, vs, e, rfl, h3, h4⟩
  · cases h with
    | tup h l => exact ⟨_, _, rfl, h, l⟩
  · cases e
section
variable {X : Cx} {a b e : Expr} {env : List Sl} {ds es : List PyData} {pos p py : Pos} {D : DEnds} {x : Str} {sts : List Stmt}
theorem dE_catT {d : PyData} (ha : dR X a env (.tuple (d :: ds))) (hb : dR X b env (.tuple es)) (h : ds.length + es.length ≤ 100000) : dE X (.BinOp a .Add b pos) env (.fz (.tuple (d :: ds ++ es))) := fun M σ H ok Q q => by
  refine wE.of (pe_op op_catT pe_w pe_w) (ha M σ H ok _ fun v H1 e1 r1 => hb M σ H1 (ok.mono e1) _ fun u H2 e2 r2 => ?_)
  obtain ⟨t1, vs, rfl, h1, l1⟩ := RdOk.tupF r1
  obtain ⟨t2, us, rfl, h2, l2⟩ := r2.tup
  have l1' := l1.mono (fz_same e2)
  have n1 := l1.length
  have n2 := l2.length
  refine ⟨t1, t2, vs, us, rfl, rfl, sqT_mono e2 (sqT_mono fz_full h1), h2, fun z => ?_, ?_, fun z => ?_, fun z n hn => ?_⟩
  · rw [z] at n1
    cases n1
  · rw [n1, n2, sizeLine_eq]
    show ds.length + 1 + es.length ≤ _
    omega
  · rw [z] at n2
    have ez : es = [] := List.eq_nil_of_length_eq_zero n2.symm
    subst ez
    rw [List.append_nil] at q
    exact q _ H2 (e1.trans e2) (.tup (sqT_mono (fz_same e2) h1) l1')
  · exact q _ _ ((e1.trans e2).trans (same_new hn)) (.tup (.inl (.inl (by rw [fz_out (((ok.mono e1).mono e2).notin hn)]; exact upd_same))) ((l1'.append l2).mono (fz_same (same_new hn))))
theorem s_ext {H0 : Hp} (n : Nat) {ap cp : Pos} (hx : env[n]? = some (.ow ds)) (he : dR X e env (.list es)) (hlen : ds.length + es.length ≤ 100000) (h : dZs H0 X sts D (env.set n (.ow (ds ++ es)))) (hN : X.N[n]? = some x := by rfl) (hv : Vis X.env.scope x := by first | exact Or.inl rfl | exact Or.inr (Or.inl rfl))
    (hbase : attributeBase (.Name x py) "extend" X.env (eval (.Name x py) X.env) = eval (.Name x py) X.env := by rfl)
    (hfew : ((backTo cp (starEach [e] X.env)).all (fun x => !x.1) && (backToKw cp (keywordEach [] X.env)).all (fun x => x.1.isSome) && decide ([e].length + ([] : List Keyword).length + (if ([] : List Keyword).isEmpty then 0 else 1) < 30)) = true := by rfl)
    (hline : (ap.endLine == cp.line) = true := by rfl) (hs : starEach [e] X.env = (false, eval e X.env) :: starEach [] X.env := by rfl) (hsw : swapsWith (.Call (.Attribute (.Name x py) "extend" ap) [e] [] cp) none pos.line X.env = pure false := by rfl)
    (hd : (x == ("__debug__" : Str)) = false := by decide) (hcd : (x == ("__classdict__" : Str)) = false := by decide) : dZs H0 X (.Expr (.Call (.Attribute (.Name x py) "extend" ap) [e] [] cp) pos :: sts) D env := dSs_cons fun B HF M σ H ok ba =>
  wS.of (ps_expr (pe_bm PySem.F.plainAttrs_list PySem.F.slot_list_extend PySem.F.type_list_extend mt_extend (pe_var hN hv hd hcd) (pa_cons pe_w pa_nil hs) hbase hfew hline hs) hsw) (by
    obtain ⟨l, vs, hσ, hl, hH, lr⟩ := ok.own hx
    refine ⟨_, hσ, .inl ⟨rfl, vs, SqL.of hH⟩, he M σ H ok _ fun v H1 e1 r1 => ?_⟩
    have ok1 := ok.mono e1
    obtain ⟨l', vs1, hσ1, hl1, hH1, lr1⟩ := ok1.own hx
    rw [hσ] at hσ1
    cases hσ1
    obtain ⟨t, us, rfl, h2, l2⟩ := r1.lst
    refine ⟨l, t, vs1, us, rfl, rfl, hH1, h2, ?_, ?_⟩
    · rw [lr1.length, l2.length, sizeLine_eq]
      omega
    · exact ⟨_, M, ok1.mutate hx hσ hl1 (lr1.append l2), (ba.mono e1).mutate hx hσ hl1, h⟩)
end
end Dl

namespace Dl
open PySem PySem.Spec PyProof.Rows L2

/-! ### a pool: a list of numbers in which defs read on, one for all of them; what they read may be any -/
def Mv (env : List Sl) (H H' : Hp) : Prop := ∀ (b : Addr) (o : HO), (∀ (i : Nat) (φ : List Int → Prop), env[i]? ≠ some (Sl.pl b φ)) → H b = some o → H' b = some o
def hideA (p : Addr) (H : Hp) : Hp := fun a => if a = p then none else H a
theorem hide_at {p : Addr} {H : Hp} : hideA p H p = none := if_pos rfl
theorem hide_ne {p b : Addr} {H : Hp} (h : b ≠ p) : hideA p H b = H b := if_neg h
section
variable {K : PySem.W.Frag} {M B : List Addr} {H H0 H' H'' HF : Hp} {env env2 : List Sl} {σ σ2 : L2.St} {i : Nat} {p : Addr} {φ ψ : List Int → Prop} {ns : List Int}
theorem Mv.of (e : Same H H') : Mv env H H' := fun b o _ h => e b o h
theorem Mv.trans (a : Mv env H H') (b : Mv env H' H'') : Mv env H H'' := fun c o n h => b c o n (a c o n h)
theorem Mv.frz (m : Mv env H H') (ok : EnvOk K M env σ H) : Same (Fz M H) (Fz M H') := fun b o h => by
  obtain ⟨h1, h2⟩ := fz_some h
  rw [fz_out h1]
  exact m b o (fun i φ e => h1 (ok.adr e).2.1) h2
theorem Base.moved (b : Base H0 B HF M env σ H) (ok : EnvOk K M env σ H) (m : Mv env H H') : Base H0 B HF M env σ H' :=
  ⟨fun c o h => m c o (fun i φ e => by
    have z := b.own i _ c e rfl (ok.adr e).1
    rw [z] at h
    cases h) (b.ext c o h), b.sub, b.own, b.dom, b.frz.trans (m.frz ok)⟩
theorem mv_hide (he : env[i]? = some (.pl p φ)) (e : Same (hideA p H) H') : Mv env H H' := fun b o n h => e b o (by
  have hb : b ≠ p := fun z => n i φ (by rw [z]; exact he)
  rw [hide_ne hb]
  exact h)
/-- what stays where the pool's numbers are others -/
theorem EnvOk.moved (ok : EnvOk K M env σ H) (he : env[i]? = some (.pl p φ)) (e : Same (hideA p H) H') (hφ : φ ns) (hp : H' p = some (.lst (ns.map V.int))) : EnvOk K M env σ H' := by
  have up : Same (Fz M H) (Fz M H') := (mv_hide he e).frz ok
  refine ⟨ok.len, fun j s hs => ?_, ok.inj, fun b hb => ?_⟩
  · have q := ok.sl j s hs
    cases s with
    | no => trivial
    | fz d =>
      obtain ⟨v, h1, h2⟩ := q
      exact ⟨v, h1, h2.mono up⟩
    | ow ds =>
      obtain ⟨l, vs, z1, z2, z3, z4⟩ := ok.own hs
      rw [z1]
      refine ⟨l, vs, rfl, z2, e _ _ ?_, z4.mono up⟩
      rw [hide_ne]
      · exact z3
      · rintro rfl
        have ej := ok.inj i j _ _ _ he hs rfl rfl (ok.adr he).1 z1
        subst ej
        rw [he] at hs
        cases hs
    | sc ns =>
      obtain ⟨a, h1, h2⟩ := q
      exact ⟨a, h1, sqL_mono up h2⟩
    | pl a ψ =>
      obtain ⟨z1, z2, ns2, z3, z4⟩ := ok.adr hs
      rw [z1]
      by_cases ea : a = p
      · subst ea
        have ej := ok.inj i j _ _ _ he hs rfl rfl (ok.adr he).1 z1
        subst ej
        rw [he] at hs
        cases hs
        exact ⟨rfl, z2, ns, hφ, hp⟩
      · refine ⟨rfl, z2, ns2, z3, e _ _ ?_⟩
        rw [hide_ne ea]
        exact z4
  · by_cases eb : b = p
    · subst eb
      exact ⟨_, hp⟩
    · obtain ⟨u, eu⟩ := ok.dom b hb
      exact ⟨u, e _ _ (by rw [hide_ne eb]; exact eu)⟩
/-- the pool told otherwise -/
theorem EnvOk.tell (ok : EnvOk K M env σ H) (he : env[i]? = some (.pl p φ)) (hψ : ∀ ns, φ ns → H p = some (.lst (ns.map V.int)) → ∃ ns', ψ ns' ∧ H' p = some (.lst (ns'.map V.int))) (e : Same (hideA p H) H') : EnvOk K M (env.set i (.pl p ψ)) σ H' := by
  have hi : i < env.length := (List.getElem?_eq_some_iff.mp he).1
  obtain ⟨a1, a2, ns0, a3, a4⟩ := ok.adr he
  obtain ⟨ns', b1, b2⟩ := hψ ns0 a3 a4
  have up : Same (Fz M H) (Fz M H') := (mv_hide he e).frz ok
  have old : ∀ {j : Nat} {s : Sl}, (env.set i (.pl p ψ))[j]? = some s → s.own = true → ∃ s', env[j]? = some s' ∧ s'.own = true := fun {j s} z os => by
    by_cases ej : i = j
    · subst ej
      exact ⟨_, he, rfl⟩
    · rw [List.getElem?_set_ne ej] at z
      exact ⟨s, z, os⟩
  refine ⟨by rw [List.length_set]; exact ok.len, fun j s hs => ?_, fun j k s1 s2 l h1 h2 o1 o2 h3 h4 => ?_, fun b hb => ?_⟩
  · by_cases ej : i = j
    · subst ej
      rw [List.getElem?_set_self hi] at hs
      cases hs
      rw [a1]
      exact ⟨rfl, a2, ns', b1, b2⟩
    · rw [List.getElem?_set_ne ej] at hs
      have q := ok.sl j s hs
      cases s with
      | no => trivial
      | fz d =>
        obtain ⟨v, h1, h2⟩ := q
        exact ⟨v, h1, h2.mono up⟩
      | ow ds =>
        obtain ⟨l, vs, z1, z2, z3, z4⟩ := ok.own hs
        rw [z1]
        refine ⟨l, vs, rfl, z2, e _ _ ?_, z4.mono up⟩
        rw [hide_ne]
        · exact z3
        · rintro rfl
          exact ej (ok.inj i j _ _ _ he hs rfl rfl a1 z1)
      | sc ns =>
        obtain ⟨a, h1, h2⟩ := q
        exact ⟨a, h1, sqL_mono up h2⟩
      | pl a χ =>
        obtain ⟨z1, z2, ns2, z3, z4⟩ := ok.adr hs
        rw [z1]
        refine ⟨rfl, z2, ns2, z3, e _ _ ?_⟩
        rw [hide_ne]
        · exact z4
        · rintro rfl
          exact ej (ok.inj i j _ _ _ he hs rfl rfl a1 z1)
  · obtain ⟨e1, z1, u1⟩ := old h1 o1
    obtain ⟨e2, z2, u2⟩ := old h2 o2
    exact ok.inj j k e1 e2 l z1 z2 u1 u2 h3 h4
  · by_cases eb : b = p
    · subst eb
      exact ⟨_, b2⟩
    · obtain ⟨u, eu⟩ := ok.dom b hb
      exact ⟨u, e _ _ (by rw [hide_ne eb]; exact eu)⟩
theorem Base.tell (b : Base H0 B HF M env σ H) (ok : EnvOk K M env σ H) (he : env[i]? = some (.pl p φ)) (e : Same (hideA p H) H') : Base H0 B HF M (env.set i (.pl p ψ)) σ H' := by
  have c := b.moved ok (mv_hide he e)
  refine ⟨c.ext, c.sub, fun j s l h1 os h2 => ?_, c.dom, c.frz⟩
  by_cases ej : i = j
  · subst ej
    exact c.own i _ l he rfl h2
  · rw [List.getElem?_set_ne ej] at h1
    exact c.own j s l h1 os h2
/-- a list of numbers that a name owns, from now on a pool -/
theorem EnvOk.pool (ok : EnvOk K M env σ H) (he : env[i]? = some (.ow (ns.map PyData.int))) (hσ : σ[i]? = some (some (.ref p))) (hψ : ψ ns) : EnvOk K M (env.set i (.pl p ψ)) σ H := by
  have hi : i < env.length := (List.getElem?_eq_some_iff.mp he).1
  obtain ⟨l0, vs0, a1, a2, a3, a4⟩ := ok.own he
  rw [hσ] at a1
  cases a1
  have ev := a4.int_of
  subst ev
  have old : ∀ {j : Nat} {s : Sl}, (env.set i (.pl p ψ))[j]? = some s → s.own = true → ∃ s', env[j]? = some s' ∧ s'.own = true := fun {j s} z os => by
    by_cases ej : i = j
    · subst ej
      exact ⟨_, he, rfl⟩
    · rw [List.getElem?_set_ne ej] at z
      exact ⟨s, z, os⟩
  refine ⟨by rw [List.length_set]; exact ok.len, fun j s hs => ?_, fun j k s1 s2 l h1 h2 o1 o2 h3 h4 => ?_, ok.dom⟩
  · by_cases ej : i = j
    · subst ej
      rw [List.getElem?_set_self hi] at hs
      cases hs
      rw [hσ]
      exact ⟨rfl, a2, ns, hψ, a3⟩
    · rw [List.getElem?_set_ne ej] at hs
      exact ok.sl j s hs
  · obtain ⟨e1, z1, u1⟩ := old h1 o1
    obtain ⟨e2, z2, u2⟩ := old h2 o2
    exact ok.inj j k e1 e2 l z1 z2 u1 u2 h3 h4
theorem Base.pool (b : Base H0 B HF M env σ H) (he : env[i]? = some (.ow (ns.map PyData.int))) : Base H0 B HF M (env.set i (.pl p ψ)) σ H := by
  refine ⟨b.ext, b.sub, fun j s l h1 os h2 => ?_, b.dom, b.frz⟩
  by_cases ej : i = j
  · subst ej
    exact b.own i _ l he rfl h2
  · rw [List.getElem?_set_ne ej] at h1
    exact b.own j s l h1 os h2
/-- what was moved seen from outside -/
theorem EnvOk.backP (ok : EnvOk K M env σ H) (ok2 : EnvOk K M env2 σ2 H') (m : Mv env2 H H') (own : ∀ (j : Nat) (s : Sl), env2[j]? = some s → s.own = true → env[j]? = some s ∧ σ2[j]? = σ[j]?) : Mv env H H' ∧ EnvOk K M env σ H' := by
  have m1 : Mv env H H' := fun b o n h => m b o (fun i φ e => n i φ (own i _ e rfl).1) h
  have up : Same (Fz M H) (Fz M H') := m1.frz ok
  refine ⟨m1, ok.len, fun j s hs => ?_, ok.inj, ok2.dom⟩
  have q := ok.sl j s hs
  cases s with
  | no => trivial
  | fz d =>
    obtain ⟨v, h1, h2⟩ := q
    exact ⟨v, h1, h2.mono up⟩
  | ow ds =>
    obtain ⟨l, vs, z1, z2, z3, z4⟩ := ok.own hs
    rw [z1]
    refine ⟨l, vs, rfl, z2, m1 _ _ (fun i φ e => ?_) z3, z4.mono up⟩
    have ej := ok.inj i j _ _ _ e hs rfl rfl (ok.adr e).1 z1
    subst ej
    rw [e] at hs
    cases hs
  | sc ns =>
    obtain ⟨a, h1, h2⟩ := q
    exact ⟨a, h1, sqL_mono up h2⟩
  | pl a ψ =>
    obtain ⟨z1, z2, ns2, z3, z4⟩ := ok.adr hs
    rw [z1]
    by_cases c : ∃ (i : Nat) (φ : List Int → Prop), env2[i]? = some (Sl.pl a φ)
    · obtain ⟨i, φ, e⟩ := c
      obtain ⟨e1, e2⟩ := own i _ e rfl
      obtain ⟨y1, y2, ns3, y3, y4⟩ := ok2.adr e
      have ej := ok.inj i j _ _ _ e1 hs rfl rfl (ok.adr e1).1 z1
      subst ej
      rw [e1] at hs
      cases hs
      exact ⟨rfl, z2, ns3, y3, y4⟩
    · exact ⟨rfl, z2, ns2, z3, m _ _ (fun i φ e => c ⟨i, φ, e⟩) z4⟩
end

/-! ### expressions that read on in the pool -/
def dP (X : Cx) (e : Expr) (env : List Sl) (Φ : PyData → Prop) : Prop := ∀ M σ H, EnvOk X.K M env σ H → ∀ Q : VK, (∀ v d H', Mv env H H' → EnvOk X.K M env σ H' → Rp X.K (Fz M H') v d → Φ d → Q v H') → wE X e σ H Q
def dPA (X : Cx) (es : List Expr) (env : List Sl) (Ψ : List PyData → Prop) : Prop := ∀ M σ H, EnvOk X.K M env σ H → ∀ Q : List V → Hp → Prop, (∀ vs ds H', Mv env H H' → EnvOk X.K M env σ H' → RpL X.K (Fz M H') vs ds → Ψ ds → Q vs H') → wA X es σ H Q
def dPT (X : Cx) (e : Expr) (env : List Sl) (β : Bool → Prop) : Prop := ∀ M σ H, EnvOk X.K M env σ H → ∀ Q : Bool → Hp → Prop, (∀ b H', Mv env H H' → EnvOk X.K M env σ H' → β b → Q b H') → wT X e σ H Q
def isI (φ : Int → Prop) : PyData → Prop := fun d => ∃ x, d = .int x ∧ φ x
def isB : PyData → Prop := fun d => ∃ k : Bool, d = .bool k
section
variable {X : Cx} {e a b c : Expr} {es : List Expr} {env : List Sl} {r : Rs} {d : PyData} {ds : List PyData} {pos p2 : Pos} {i j : Int} {k k' : Bool} {Φ Φ' χ : PyData → Prop} {Ψ : List PyData → Prop} {φ ψ : Int → Prop}
theorem dP_of (h : dE X e env r) : dP X e env (fun d => d = r.data) := fun M σ H ok Q q => h M σ H ok _ fun v H' e rv => q v _ H' (.of e) (ok.mono e) rv.data rfl
theorem dP_i (h : dE X e env (.fz (.int i))) : dP X e env (isI (· = i)) := fun M σ H ok Q q => h M σ H ok _ fun v H' e rv => q v _ H' (.of e) (ok.mono e) rv ⟨i, rfl, rfl⟩
theorem dP_imp (h : dP X e env Φ) (k : ∀ d, Φ d → Φ' d) : dP X e env Φ' := fun M σ H ok Q q => h M σ H ok _ fun v d H' m o r hd => q v d H' m o r (k d hd)
theorem dP_int2 {op : Operator} {f : R2} {χ : Int → Prop} (ho : OpR X (binaryOp op) f) (ha : dP X a env (isI φ)) (hb : dP X b env (isI ψ)) (hf : ∀ x y, φ x → ψ y → ∃ z, χ z ∧ ∀ H Q, Q (.int z) H → f (.int x) (.int y) H Q) : dP X (.BinOp a op b pos) env (isI χ) := fun M σ H ok Q q => by
  refine wE.of (pe_op ho pe_w pe_w) (ha M σ H ok _ fun v d H1 m1 ok1 r1 hx => hb M σ H1 ok1 _ fun u d2 H2 m2 ok2 r2 hy => ?_)
  obtain ⟨x, rfl, hx⟩ := hx
  obtain ⟨y, rfl, hy⟩ := hy
  rw [Rp.int_v r1, Rp.int_v r2]
  obtain ⟨z, hz, k⟩ := hf x y hx hy
  exact k H2 _ (q _ _ H2 (m1.trans m2) ok2 (.int z) ⟨z, rfl, hz⟩)
theorem dP_add (ha : dP X a env (isI φ)) (hb : dP X b env (isI ψ)) : dP X (.BinOp a .Add b pos) env (isI fun z => ∃ x y, φ x ∧ ψ y ∧ z = x + y) := dP_int2 op_add ha hb fun x y hx hy => ⟨_, ⟨x, y, hx, hy, rfl⟩, fun _ _ q => ⟨x, y, rfl, rfl, q⟩⟩
theorem dP_sub (ha : dP X a env (isI φ)) (hb : dP X b env (isI ψ)) : dP X (.BinOp a .Sub b pos) env (isI fun z => ∃ x y, φ x ∧ ψ y ∧ z = x - y) := dP_int2 op_sub ha hb fun x y hx hy => ⟨_, ⟨x, y, hx, hy, rfl⟩, fun _ _ q => ⟨x, y, rfl, rfl, q⟩⟩
theorem dP_mul (ha : dP X a env (isI φ)) (hb : dP X b env (isI ψ)) (h : ∀ x y, φ x → ψ y → CMul x y) : dP X (.BinOp a .Mult b pos) env (isI fun z => ∃ x y, φ x ∧ ψ y ∧ z = x * y) := dP_int2 op_mul ha hb fun x y hx hy => ⟨_, ⟨x, y, hx, hy, rfl⟩, fun _ _ q => ⟨x, y, rfl, rfl, h x y hx hy, q⟩⟩
theorem dP_mod (ha : dP X a env (isI φ)) (hb : dP X b env (isI ψ)) (h : ∀ y, ψ y → 0 < y) : dP X (.BinOp a .Mod b pos) env (isI fun z => ∃ x y, φ x ∧ ψ y ∧ z = x % y) := dP_int2 op_mod ha hb fun x y hx hy => ⟨_, ⟨x, y, hx, hy, rfl⟩, fun _ _ q => ⟨x, y, rfl, rfl, h y hy, q⟩⟩
theorem dP_eqi (ha : dP X a env (isI φ)) (hb : dP X b env (isI ψ)) : dP X (.Compare a [.Eq] [b] pos) env isB := fun M σ H ok Q q => by
  refine wE.of (pe_cmpR op_eq pe_w pe_w (nomark _)) (ha M σ H ok _ fun v d H1 m1 ok1 r1 hx => hb M σ H1 ok1 _ fun u d2 H2 m2 ok2 r2 hy => ?_)
  obtain ⟨x, rfl, hx⟩ := hx
  obtain ⟨y, rfl, hy⟩ := hy
  rw [Rp.int_v r1, Rp.int_v r2]
  refine ⟨rfl, ?_⟩
  exact q _ _ H2 (m1.trans m2) ok2 (.bl _) ⟨_, rfl⟩
theorem dPT_eqi (ha : dP X a env (isI φ)) (hb : dP X b env (isI ψ)) : dPT X (.Compare a [.Eq] [b] pos) env (fun _ => True) := fun M σ H ok Q q => by
  refine wT.of (pt_cmpR op_eq pe_w pe_w (nomark _)) (ha M σ H ok _ fun v d H1 m1 ok1 r1 hx => hb M σ H1 ok1 _ fun u d2 H2 m2 ok2 r2 hy => ?_)
  obtain ⟨x, rfl, hx⟩ := hx
  obtain ⟨y, rfl, hy⟩ := hy
  rw [Rp.int_v r1, Rp.int_v r2]
  exact ⟨rfl, _, rfl, q _ H2 (m1.trans m2) ok2 trivial⟩
theorem dP_tointb (hm : X.mg "int" = none) (ha : dP X a env isB) (hg : Gl X "int" := by rfl) (he : starEach [a] X.env = (false, eval a X.env) :: starEach [] X.env := by rfl) : dP X (.Call (.Name "int" p2) [a] [] pos) env (isI fun x => x = 0 ∨ x = 1) := fun M σ H ok Q q =>
  wE.of (pe_callTy call_int1 hg hm PyProof.Rows.boot_int (pa_cons pe_w pa_nil he) (he := he)) (ha M σ H ok _ fun v d H1 m1 ok1 r1 hb => by
    obtain ⟨k, rfl⟩ := hb
    rw [Rp.bl_v r1]
    exact .inr ⟨k, rfl, q _ _ H1 m1 ok1 (.int _) ⟨_, rfl, by cases k <;> first | exact .inl rfl | exact .inr rfl⟩⟩)
theorem dP_toint (hm : X.mg "int" = none) (ha : dP X a env (isI φ)) (hg : Gl X "int" := by rfl) (he : starEach [a] X.env = (false, eval a X.env) :: starEach [] X.env := by rfl) : dP X (.Call (.Name "int" p2) [a] [] pos) env (isI φ) := fun M σ H ok Q q =>
  wE.of (pe_callTy call_int1 hg hm PyProof.Rows.boot_int (pa_cons pe_w pa_nil he) (he := he)) (ha M σ H ok _ fun v d H1 m1 ok1 r1 hb => by
    obtain ⟨k, rfl, hk⟩ := hb
    rw [Rp.int_v r1]
    exact .inl ⟨k, rfl, q _ _ H1 m1 ok1 (.int _) ⟨_, rfl, hk⟩⟩)
theorem dPA_of (h : dA X es env ds) : dPA X es env (· = ds) := fun M σ H ok Q q => h M σ H ok _ fun vs H' e l => q vs ds H' (.of e) (ok.mono e) l rfl
theorem dPA_nil : dPA X [] env (· = []) := dPA_of dA_nil
theorem dPA_cons (h : dP X e env Φ) (hr : dPA X es env Ψ) (hs : starEach (e :: es) X.env = (false, eval e X.env) :: starEach es X.env := by rfl) : dPA X (e :: es) env (fun ds => ∃ d es', Φ d ∧ Ψ es' ∧ ds = d :: es') := fun M σ H ok Q q =>
  wA.of (pa_cons pe_w pa_w hs) (h M σ H ok _ fun v d H1 m1 ok1 r1 h1 => hr M σ H1 ok1 _ fun vs es' H2 m2 ok2 r2 h2 => q _ _ H2 (m1.trans m2) ok2 (.cons (r1.mono (m2.frz ok1)) r2) ⟨d, es', h1, h2, rfl⟩)
theorem dP_tup {x1 : Nat} (h : dPA X es env Ψ) (hl : ∀ ds, Ψ ds → ds.length ≤ 100000) : dP X (.Tuple es x1 pos) env (fun d => ∃ ds, Ψ ds ∧ d = .tuple ds) := fun M σ H ok Q q =>
  wE.of (pe_tup pa_w) (h M σ H ok _ fun vs ds H1 m1 ok1 l hd => ⟨Nat.le_trans (Nat.le_of_eq l.length) (Nat.le_trans (hl ds hd) (by decide)), fun t ht => q _ _ _ (m1.trans (.of (same_new ht))) (ok1.mono (same_new ht))
    (.tup (.inl (.inl (by rw [fz_out (ok1.notin ht)]; exact upd_same))) (l.mono (fz_same (same_new ht)))) ⟨ds, hd, rfl⟩⟩)
theorem dP_lst (h : dPA X es env Ψ) (hl : ∀ ds, Ψ ds → ds.length ≤ 100000) : dP X (.List es pos) env (fun d => ∃ ds, Ψ ds ∧ d = .list ds) := fun M σ H ok Q q =>
  wE.of (pe_lst pa_w) (h M σ H ok _ fun vs ds H1 m1 ok1 l hd => ⟨Nat.le_trans (Nat.le_of_eq l.length) (Nat.le_trans (hl ds hd) (by decide)), fun t ht => q _ _ _ (m1.trans (.of (same_new ht))) (ok1.mono (same_new ht))
    (.lst (by rw [fz_out (ok1.notin ht)]; exact upd_same) (l.mono (fz_same (same_new ht)))) ⟨ds, hd, rfl⟩⟩)
theorem dP_ixL (ha : dP X a env Φ) (hb : dP X b env (isI φ)) (h : ∀ d x, Φ d → φ x → ∃ ds e, d = .list ds ∧ atI ds x = some e ∧ χ e) (hs : PlainIx b) : dP X (.Subscript a b pos) env χ := fun M σ H ok Q q => by
  refine wE.of (pe_ix ix_list pe_w pe_w hs) (ha M σ H ok _ fun v d H1 m1 ok1 r1 hd => hb M σ H1 ok1 _ fun u d2 H2 m2 ok2 r2 hx => ?_)
  obtain ⟨x, rfl, hx⟩ := hx
  obtain ⟨ds, e, rfl, h1, h2⟩ := h d x hd hx
  rw [Rp.int_v r2]
  have r3 := r1.mono (m2.frz ok1)
  cases r3 with
  | lst h3 l =>
    obtain ⟨w, h4, h5⟩ := atI_rel l h1
    exact ⟨_, _, x, w, rfl, rfl, SqL.of (fz_some h3).2, h4, q w e H2 (m1.trans m2) ok2 h5 h2⟩
end

/-! ### a def that reads on in the pool handed to it as the first argument -/
def spP (K : PySem.W.Frag) (n : Nat) (R : List PyData → (PyData → Prop) → Prop) : Sp := fun vs H Q _ => ∃ M p ns ws es Φ, vs = .ref p :: ws ∧ es.length = n ∧ p ∈ M ∧ (∀ b ∈ M, ∃ o, H b = some o) ∧ PoolOk ns ∧ H p = some (.lst (ns.map V.int)) ∧ RpL K (Fz M H) ws es ∧ R es Φ ∧
  ∀ v d H' ns', Same (hideA p H) H' → PoolOk ns' → H' p = some (.lst (ns'.map V.int)) → Rp K (Fz M H') v d → Φ d → Q v H'
structure CalleeP (P : Program) (w : World) (K : PySem.W.Frag) (mg : Str → Option Value) (base : Heap) (k : Nat) (x : Str) (ps : List Str) (n : Nat) (R : List PyData → (PyData → Prop) → Prop) : Prop where
  ok : ∃ f fd, FnOk P w K mg base CX0 k f fd ps (spP K n R) ∧ mg x = some (.ref f) ∧ PySem.W.keepIn K (.ref f) = true ∧ Binds K fd ps []
theorem CalleeP.mono {P : Program} {w : World} {K : PySem.W.Frag} {mg : Str → Option Value} {base : Heap} {k k' : Nat} {x : Str} {ps : List Str} {n : Nat} {R : List PyData → (PyData → Prop) → Prop} (h : CalleeP P w K mg base k x ps n R) (hk : k ≤ k') : CalleeP P w K mg base k' x ps n R := by
  obtain ⟨f, fd, F, r⟩ := h.ok
  exact ⟨f, fd, F.mono hk, r⟩
def argsP (N : List Str) (p : Addr) (es : List PyData) : List Sl := Sl.pl p PoolOk :: (es.map Sl.fz ++ List.replicate (N.length - (es.length + 1)) .no)
theorem ownP {N : List Str} {p : Addr} {es : List PyData} (i : Nat) (s : Sl) : (argsP N p es)[i]? = some s → s.own = true → i = 0 := fun h1 os => by
  cases i with
  | zero => rfl
  | succ i =>
    have z := List.mem_of_getElem? (show (es.map Sl.fz ++ List.replicate (N.length - (es.length + 1)) Sl.no)[i]? = some s from h1)
    rcases List.mem_append.mp z with z | z
    · obtain ⟨d, _, e⟩ := List.mem_map.mp z
      rw [← e] at os
      cases os
    · rw [List.mem_replicate] at z
      rw [z.2] at os
      cases os
theorem env_startP {K : PySem.W.Frag} {M : List Addr} {H : Hp} {N : List Str} {p : Addr} {ns : List Int} {vs : List V} {ds : List PyData} (hd : ∀ b ∈ M, ∃ o, H b = some o) (hpM : p ∈ M) (hns : PoolOk ns) (hp : H p = some (.lst (ns.map V.int))) (l : RpL K (Fz M H) vs ds) : EnvOk K M (argsP N p ds) (L2.start N (.ref p :: vs)) H := by
  have z := env_start (N := N.drop 1) hd l
  refine ⟨?_, fun i s hs => ?_, fun i j s1 s2 a h1 h2 o1 o2 _ _ => (ownP i s1 h1 o1).trans (ownP j s2 h2 o2).symm, hd⟩
  · unfold argsP L2.start
    rw [List.length_cons, List.length_append, List.length_append, List.length_map, List.length_map, List.length_replicate, List.length_replicate, List.length_cons, l.length]
    omega
  · cases i with
    | zero =>
      cases hs
      exact ⟨rfl, hpM, ns, hns, hp⟩
    | succ i =>
      have e1 : (argsP N p ds)[i + 1]? = (args (N.drop 1) ds)[i]? := by
        unfold argsP args
        rw [List.length_drop, Nat.sub_sub, Nat.add_comm 1 ds.length]
        rfl
      have e2 : (L2.start N (.ref p :: vs))[i + 1]? = (L2.start (N.drop 1) vs)[i]? := by
        unfold L2.start
        rw [List.length_drop, Nat.sub_sub, List.length_cons, Nat.add_comm 1 vs.length]
        rfl
      rw [e1] at hs
      rw [e2]
      exact z.sl i s hs
def Still (p : Addr) (env : List Sl) : Prop := ∃ φ : List Int → Prop, env[0]? = some (Sl.pl p φ) ∧ ∀ ns, φ ns → PoolOk ns
section
variable {P : Program} {w : World} {K : PySem.W.Frag} {mg : Str → Option Value} {base : Heap}
theorem fn_okP {x qual : Str} {st : Stmt} {f : Addr} {fd : FuncData} {N ps : List Str} {k n : Nat} {R : List PyData → (PyData → Prop) → Prop} (F : Fun K x qual st f fd) (S : FnScope N ps (defScope st)) (hn : ps.length = n + 1)
    (body : ∀ (cdv : Value) (A : Around) (outer : List Env) (s : Shared) (H : Hp) (E : XK), Room k (A.deeper (envOfC qual (defScope st) s.heap.objs.size f cdv)) → ∀ p es Φ, es.length = n → R es Φ →
      dZs (hideA p H) (cxD P w K mg base N qual (defScope st) f cdv A outer s H E) (defBody st) { nx := fun env => Φ .none ∧ Still p env, rt := fun r env => Φ r.data ∧ Still p env } (argsP N p es)) : FnOk P w K mg base CX0 (k + 1) f fd ps (spP K n R) := by
  refine F.ok S (fun vs H Q E h => ?_) (fun cdv A outer s H vs Q E hr h => ?_)
  · obtain ⟨M, p, ns, ws, es, Φ, rfl, h1, _, _, _, _, h3, _⟩ := h
    rw [List.length_cons, h3.length, h1, hn]
  · obtain ⟨M, p, ns, ws, es, Φ, rfl, h1, hpM, hd, hns, hp, l, hR, q⟩ := h
    refine ⟨_, pss_w, ?_⟩
    intro pins s1 I
    have ok := env_startP (N := N) hd hpM hns hp l
    have ba : Base (hideA p H) (M.filter fun b => decide (b ≠ p)) (Fz M H) M (argsP N p es) (L2.start N (.ref p :: ws)) H := by
      refine ⟨fun b o hb => ?_, fun b hb => (List.mem_filter.mp hb).1, fun i s l hi os hσ => ?_, fun b hb => ?_, Same.refl _⟩
      · by_cases e : b = p
        · rw [e, hide_at] at hb
          cases hb
        · rwa [hide_ne e] at hb
      · have e0 := ownP i s hi os
        subst e0
        cases hσ
        exact hide_at
      · obtain ⟨z1, z2⟩ := List.mem_filter.mp hb
        obtain ⟨o, ho⟩ := hd b z1
        exact ⟨o, by rw [hide_ne (of_decide_eq_true z2)]; exact ho⟩
    have fin : ∀ {env' M' σ' H'} {v : V} {d : PyData}, EnvOk K M' env' σ' H' → Base (hideA p H) (M.filter fun b => decide (b ≠ p)) (Fz M H) M' env' σ' H' → Still p env' → Rp K (Fz M' H') v d → Φ d → Q v H' := fun {env' M' σ' H' v d} a1 a2 a3 a4 a5 => by
      obtain ⟨φ, e0, hφ⟩ := a3
      obtain ⟨_, hp', ns', b1, b2⟩ := a1.adr e0
      refine q v d H' ns' a2.ext (hφ _ b1) b2 (a4.mono (fz_sub fun b hb => ?_)) a5
      by_cases e : b = p
      · rw [e]
        exact hp'
      · exact a2.sub b (List.mem_filter.mpr ⟨hb, decide_eq_true e⟩)
    refine thn (body cdv A outer s H E hr p es Φ h1 hR _ (Fz M H) M _ H ok ba pins s1 I) fun fl s2 z => ?_
    cases fl with
    | next =>
      obtain ⟨σ', H', I', env', M', ok', ba', z1, z2⟩ := z
      exact ⟨σ', H', I', fin ok' ba' z2 .non z1⟩
    | ret u =>
      obtain ⟨v', σ', H', I', rv, r', env', M', σ2, a0, a1, a2, a3, a4⟩ := z
      exact ⟨v', σ', H', I', rv, fin a0 a1 a4 a2.data a3⟩
    | brk =>
      obtain ⟨σ', H', I', z⟩ := z
      obtain ⟨_, _, _, _, z⟩ := z
      exact z.elim
    | cont =>
      obtain ⟨σ', H', I', z⟩ := z
      obtain ⟨_, _, _, _, z⟩ := z
      exact z.elim
theorem calleeP {x : Str} {st : Stmt} {N ps : List Str} {k n : Nat} {R : List PyData → (PyData → Prop) → Prop} (D : DefAt K mg x st) (S : FnScope N ps (defScope st)) (hn : ps.length = n + 1) (hb : BindOk x st ps)
    (body : ∀ (f : Addr) (cdv : Value) (A : Around) (outer : List Env) (s : Shared) (H : Hp) (E : XK), Room k (A.deeper (envOfC x (defScope st) s.heap.objs.size f cdv)) → ∀ p es Φ, es.length = n → R es Φ →
      dZs (hideA p H) (cxD P w K mg base N x (defScope st) f cdv A outer s H E) (defBody st) { nx := fun env => Φ .none ∧ Still p env, rt := fun r env => Φ r.data ∧ Still p env } (argsP N p es)) : CalleeP P w K mg base (k + 1) x ps n R := by
  obtain ⟨f, fd, F, hm⟩ := D.ok
  exact ⟨f, fd, fn_okP F S hn (body f), hm, F.kp, F.binds hb⟩
end
end Dl

namespace Dl
open PySem PySem.Spec PyProof.Rows L2
section
variable {X : Cx} {e a b c tg iter : Expr} {es ifs : List Expr} {env : List Sl} {r : Rs} {d : PyData} {ds : List PyData} {pos p py : Pos} {i j : Int} {k k' : Bool} {Φ Φ' χ : PyData → Prop} {Ψ : List PyData → Prop} {φ ψ : Int → Prop} {x y : Str} {ps : List Str} {n : Nat} {R : List PyData → (PyData → Prop) → Prop}
/-- f(pool, ..) -/
theorem dP_call (i : Nat) {q0 : Addr} {φ0 : List Int → Prop} {kk : Nat} (F : CalleeP X.prog X.w X.K X.mg X.base kk x ps n R) (hr : Room kk X.A) (he0 : env[i]? = some (Sl.pl q0 φ0)) (hφ0 : φ0 = PoolOk) (ha : dPA X es env Ψ) (h : ∀ ds, Ψ ds → ∃ Φ', R ds Φ' ∧ (∀ d, Φ' d → Φ d) ∧ ds.length = n) (hN : X.N[i]? = some y) (hv : Vis X.env.scope y) (hg : Gl X x := by rfl) (hdb : (x == ("__debug__" : Str)) = false := by decide)
    (hdy : (y == ("__debug__" : Str)) = false := by decide) (hcd : (y == ("__classdict__" : Str)) = false := by decide)
    (he : starEach (.Name y py :: es) X.env = (false, eval (.Name y py) X.env) :: starEach es X.env := by rfl) (hpl : (backTo pos (starEach es X.env)).any (·.1) = false := by rfl) : dP X (.Call (.Name x p) (.Name y py :: es) [] pos) env Φ := fun M σ H ok Q q => by
  subst hφ0
  obtain ⟨f, fd, G, hm, hk, hb⟩ := F.ok
  refine wE.of (pe_call G hr hg hm hk hb .nil pass0 (pa_cons (pe_var hN hv hdy hcd) pa_w he) hdb he hpl) ⟨_, (ok.adr he0).1, ha M σ H ok _ fun vs ds H1 m1 ok1 l hΨ => ?_⟩
  show spP X.K n R (V.ref q0 :: vs ++ []) H1 Q E0
  rw [List.append_nil]
  obtain ⟨Φ', hR, himp, hlen⟩ := h ds hΨ
  obtain ⟨_, hpM, ns, hns, hH⟩ := ok1.adr he0
  exact ⟨M, q0, ns, vs, ds, Φ', rfl, hlen, hpM, ok1.dom, hns, hH, l, hR, fun v d H' ns' e' hp' hH' rv hΦ => q v d H' (m1.trans (mv_hide he0 e')) (ok1.moved he0 e' hp' hH') rv (himp d hΦ)⟩
/-! what is walked -/
def dIfP (X : Cx) (tg iter : Expr) (env : List Sl) (Ψ : List PyData → Prop) : Prop := ∀ M σ H, EnvOk X.K M env σ H → ∀ R : It → Hp → Prop, (∀ J H' ds, Mv env H H' → EnvOk X.K M env σ H' → ItOk X.K M J (Fz M H') ds → Ψ ds → R J H') → wI X tg iter σ H R
theorem dIfP_range1 (hm : X.mg "range" = none) (h : dP X a env (isI φ)) (hb : ∀ x, φ x → -1000000 ≤ x ∧ x ≤ 1000000) (hg : Gl X "range" := by rfl) (hs : starEach [a] X.env = (false, eval a X.env) :: starEach [] X.env := by rfl) : dIfP X tg (.Call (.Name "range" p) [a] [] pos) env (fun ds => ∃ x, φ x ∧ ds = rangeD 0 x.toNat) := fun M σ H ok R q =>
  wI.of (pi_range1 hg hm (pa_cons pe_w pa_nil hs) hs) (h M σ H ok _ fun v d H1 m1 ok1 r1 hd => by
    obtain ⟨x, rfl, hx⟩ := hd
    have := hb x hx
    rw [Rp.int_v r1]
    exact ⟨x, rfl, by omega, by omega, q _ H1 _ m1 ok1 itok_rng ⟨x, hx, rfl⟩⟩)
end
/-! ### statements -/
section
variable {H0 : Hp} {X : Cx} {e a b c elt tg iter : Expr} {es ifs : List Expr} {st : Stmt} {sts : List Stmt} {env : List Sl} {r : Rs} {d : PyData} {ds : List PyData} {pos p py : Pos} {i j : Int} {k k' : Bool} {D : DEnds} {x : Str} {Φ : PyData → Prop} {Ψ : List PyData → Prop} {ns : List Int} {q0 : Addr} {φ0 ψ0 : List Int → Prop}
theorem s_setP (n : Nat) (he : dP X e env Φ) (h : ∀ d, Φ d → dZs H0 X sts D (env.set n (.fz d))) (hN : X.N.Nodup) (hi : X.N[n]? = some x := by rfl) (hx : Loc X.env.scope x := by first | exact Or.inl rfl | exact Or.inr rfl)
    (hs : swapsWith e (some (.Name x py)) pos.line X.env = pure false := by rfl) (hf : X.fn x = true ∨ X.env.scope.names.lookup x = some .local := by first | exact Or.inl rfl | exact Or.inr rfl) : dZs H0 X (.Assign [.Name x py] e pos :: sts) D env := dSs_cons fun B HF M σ H ok ba =>
  wS.of (ps_set hN hi hx pe_w hs hf) (he M σ H ok _ fun v d H1 m1 ok1 r1 hd => by
    have p := put_set (i := n) ok1 r1
    exact ⟨_, M, p.ok, (ba.moved ok m1).put p, h d hd⟩)
theorem s_retP (he : dP X e env Φ) (h : ∀ d, Φ d → D.rt (.fz d) env) : dZs H0 X (.Return (some e) pos :: sts) D env := dSs_cons fun B HF M σ H ok ba =>
  wS.of (ps_ret pe_w) (he M σ H ok _ fun v d H1 m1 ok1 r1 hd => ⟨.fz d, env, M, σ, ok1, ba.moved ok m1, r1, h d hd⟩)
theorem s_ifP {as bs : List Stmt} {β : Bool → Prop} (hc : dPT X c env β) (h1 : β true → dZs H0 X as { D with nx := dZs H0 X sts D } env) (h2 : β false → dZs H0 X bs { D with nx := dZs H0 X sts D } env) : dZs H0 X (.If c as bs pos :: sts) D env := dSs_cons fun B HF M σ H ok ba =>
  wS.of (ps_if pt_w pss_w pss_w) (hc M σ H ok _ fun k H1 m1 ok1 hk => by
    cases k with
    | true => exact iteT (h1 hk B HF M σ H1 ok1 (ba.moved ok m1))
    | false => exact iteF (h2 hk B HF M σ H1 ok1 (ba.moved ok m1)))
theorem s_appP (n : Nat) {ap cp : Pos} (hx : env[n]? = some (.ow ds)) (he : dP X e env Φ) (hlen : ds.length < 100000) (h : ∀ d, Φ d → dZs H0 X sts D (env.set n (.ow (ds ++ [d])))) (hN : X.N[n]? = some x := by rfl) (hv : Vis X.env.scope x := by first | exact Or.inl rfl | exact Or.inr (Or.inl rfl))
    (hbase : attributeBase (.Name x py) "append" X.env (eval (.Name x py) X.env) = eval (.Name x py) X.env := by rfl)
    (hfew : ((backTo cp (starEach [e] X.env)).all (fun x => !x.1) && (backToKw cp (keywordEach [] X.env)).all (fun x => x.1.isSome) && decide ([e].length + ([] : List Keyword).length + (if ([] : List Keyword).isEmpty then 0 else 1) < 30)) = true := by rfl)
    (hline : (ap.endLine == cp.line) = true := by rfl) (hs : starEach [e] X.env = (false, eval e X.env) :: starEach [] X.env := by rfl) (hsw : swapsWith (.Call (.Attribute (.Name x py) "append" ap) [e] [] cp) none pos.line X.env = pure false := by rfl)
    (hd : (x == ("__debug__" : Str)) = false := by decide) (hcd : (x == ("__classdict__" : Str)) = false := by decide) : dZs H0 X (.Expr (.Call (.Attribute (.Name x py) "append" ap) [e] [] cp) pos :: sts) D env := dSs_cons fun B HF M σ H ok ba =>
  wS.of (ps_expr (pe_bm PySem.F.plainAttrs_list PySem.F.slot_list_append PySem.F.type_list_append mt_append (pe_var hN hv hd hcd) (pa_cons pe_w pa_nil hs) hbase hfew hline hs) hsw) (by
    obtain ⟨l, vs, hσ, hl, hH, lr⟩ := ok.own hx
    refine ⟨_, hσ, .inl ⟨rfl, vs, SqL.of hH⟩, he M σ H ok _ fun v d H1 m1 ok1 r1 hd => ?_⟩
    obtain ⟨l', vs1, hσ1, hl1, hH1, lr1⟩ := ok1.own hx
    rw [hσ] at hσ1
    cases hσ1
    refine ⟨l, vs1, v, rfl, rfl, hH1, ?_, ?_⟩
    · rw [lr1.length]
      exact Nat.lt_of_lt_of_le hlen (by decide)
    · exact ⟨_, M, ok1.mutate hx hσ hl1 (lr1.append (.cons r1 .nil)), (ba.moved ok m1).mutate hx hσ hl1, h d hd⟩)
/-- for, what is walked being one of several lists -/
theorem s_forP {body : List Stmt} (I : List PyData → Nat → List Sl → Prop) (hi : dIfP X tg iter env Ψ) (h0 : ∀ ds, Ψ ds → I ds 0 env)
    (turn : ∀ ds m d env1, Ψ ds → ds[m]? = some d → I ds m env1 → ∃ is env2, dG X tg env1 d is env2 ∧ dZs H0 X body { nx := I ds (m + 1), ct := I ds (m + 1), bk := dZs H0 X sts D, rt := D.rt } env2) (hd : ∀ ds env1, Ψ ds → I ds ds.length env1 → dZs H0 X sts D env1)
    (hp : PassesOwn (model X.prog X.w) X.A X.env X.xe := by exact PassesOwn.never) (hc : X.calm = true := by rfl) (hs : ∀ x, foldedSetIterable iter X.env x = pure x := by intro _; rfl) : dZs H0 X (.For tg iter body [] pos :: sts) D env := dSs_cons fun B HF M σ H ok ba => by
  refine wS.of (ps_for hp hc pi_w pg_w pss_w hs) (hi M σ H ok _ fun J H1 ds m1 ok1 it hΨ => ?_)
  have ba1 := ba.moved ok m1
  have self : Base H0 B (Fz M H1) M env σ H1 := ⟨ba1.ext, ba1.sub, ba1.own, ba1.dom, Same.refl _⟩
  refine ⟨fun m z σ' H' => z = ds.length - m ∧ m ≤ ds.length ∧ At X.K H0 B (Fz M H1) (I ds m) σ' H', ⟨ds.length, rfl, Nat.zero_le _, env, M, ok1, self, h0 ds hΨ⟩, ?_⟩
  rintro m z σ2 H2 ⟨rfl, hm, env2, M2, ok2, ba2, i2⟩
  have e2 : Same (Fz M H1) H2 := ba2.frz.trans fz_full
  by_cases hlt : m < ds.length
  · refine .inr ⟨it.go H2 m e2 hlt, At X.K H0 B (Fz M H1) (I ds (m + 1)), fun σ' H' h' => ⟨ds.length - (m + 1), by omega, rfl, hlt, h'⟩, fun v H3 hy => ?_⟩
    obtain ⟨e3, rv⟩ := it.yld M2 H2 m _ v H3 ok2.dom e2 (by rw [fz_fz]; exact ba2.frz) (List.getElem?_eq_getElem hlt) hy
    obtain ⟨is, env3, hg, hb⟩ := turn ds m _ env2 hΨ (List.getElem?_eq_getElem hlt) i2
    refine hg M2 σ2 H3 v (ok2.mono e3) rv _ fun σ3 p3 => ?_
    intro pins s Iv
    refine thn (hb B (Fz M H1) M2 σ3 H3 p3.ok ((ba2.mono e3).put p3) pins s Iv) fun f s1 q => ?_
    cases f with
    | next => exact q
    | cont => exact q
    | ret w =>
      obtain ⟨v', σ', H', I', rv, r, env', M', σ2, a0, a1, a2, a3⟩ := q
      exact ⟨v', σ', H', I', rv, r, env', M', σ2, a0, ⟨a1.ext, a1.sub, a1.own, a1.dom, ba1.frz.trans a1.frz⟩, a2, a3⟩
    | brk =>
      obtain ⟨σ', H', I', q⟩ := q
      exact ⟨σ', H', I', q.low ba1.frz⟩
  · have em : m = ds.length := by omega
    subst em
    refine .inl ⟨it.stop H2 _ e2 (Nat.le_refl _), ?_⟩
    exact At.low ba1.frz ⟨env2, M2, ok2, ba2, hd ds env2 hΨ i2⟩
/-! the pool itself -/
theorem s_open (n : Nat) (he : env[n]? = some (Sl.pl q0 φ0)) (h : ∀ ns, φ0 ns → dZs H0 X sts D (env.set n (Sl.pl q0 (· = ns)))) : dZs H0 X sts D env := fun B HF M σ H ok ba => by
  obtain ⟨a1, a2, ns, a3, a4⟩ := ok.adr he
  have e : Same (hideA q0 H) H := fun b o hb => by
    by_cases z : b = q0
    · rw [z, hide_at] at hb
      cases hb
    · rwa [hide_ne z] at hb
  exact h ns a3 B HF M σ H (ok.tell he (fun _ _ _ => ⟨ns, rfl, a4⟩) e) (ba.tell ok he e)
theorem s_close (n : Nat) (he : env[n]? = some (Sl.pl q0 φ0)) (hψ : ∀ ns, φ0 ns → ψ0 ns) (h : dZs H0 X sts D (env.set n (Sl.pl q0 ψ0))) : dZs H0 X sts D env := fun B HF M σ H ok ba => by
  have e : Same (hideA q0 H) H := fun b o hb => by
    by_cases z : b = q0
    · rw [z, hide_at] at hb
      cases hb
    · rwa [hide_ne z] at hb
  exact h B HF M σ H (ok.tell he (fun ns a b => ⟨ns, hψ ns a, b⟩) e) (ba.tell ok he e)
/-- a list of numbers that a name owns becomes the pool -/
theorem s_pool (n : Nat) (hns : PoolOk ns) (h : ∀ q0, dZs H0 X sts D (env.set n (Sl.pl q0 PoolOk))) (he : env[n]? = some (.ow (ns.map PyData.int)) := by rfl) : dZs H0 X sts D env := fun B HF M σ H ok ba => by
  obtain ⟨l, vs, a1, a2, a3, a4⟩ := ok.own he
  exact h l B HF M σ H (ok.pool he a1 hns) (ba.pool he)
theorem dR_pl {n : Nat} (he : env[n]? = some (Sl.pl q0 (· = ns))) (hN : X.N[n]? = some x) (hv : Vis X.env.scope x) (hd : (x == ("__debug__" : Str)) = false := by decide)
    (hcd : (x == ("__classdict__" : Str)) = false := by decide) : dR X (.Name x pos) env (.list (ns.map PyData.int)) := fun M σ H ok Q q => by
  obtain ⟨a1, a2, ns', rfl, a4⟩ := ok.adr he
  exact wE.of (pe_var hN hv hd hcd) ⟨_, a1, q _ H (Same.refl H) (.inr ⟨_, q0, _, rfl, rfl, a4, RpL.of_int ns'⟩)⟩
theorem pl (n : Nat) (he : env[n]? = some (Sl.pl q0 (· = ns)) := by rfl) (hN : X.N[n]? = some x := by rfl) (hv : Vis X.env.scope x := by first | exact Or.inl rfl | exact Or.inr (Or.inl rfl) | exact Or.inr (Or.inr rfl)) (hd : (x == ("__debug__" : Str)) = false := by decide)
    (hcd : (x == ("__classdict__" : Str)) = false := by decide) : dR X (.Name x pos) env (.list (ns.map PyData.int)) := dR_pl he hN hv hd hcd
theorem upd_hide {H : Hp} {o : HO} : Same (hideA q0 H) (upd H q0 o) := fun b u hb => by
  by_cases z : b = q0
  · rw [z, hide_at] at hb
    cases hb
  · rw [hide_ne z] at hb
    rwa [upd_ne z]
/-- pool[i] = e -/
theorem s_pix (n : Nat) {m : Nat} {ps : Pos} (he0 : env[n]? = some (Sl.pl q0 (· = ns))) (he : dE X e env (.fz (.int j))) (hb : dE X b env (.fz (.int i))) (hj : ixN ns.length i = some m) (h : dZs H0 X sts D (env.set n (Sl.pl q0 (· = ns.set m j)))) (hN : X.N[n]? = some x := by rfl) (hv : Vis X.env.scope x := by first | exact Or.inl rfl | exact Or.inr (Or.inl rfl))
    (hs : swapsWithSole [.Subscript (.Name x py) b ps] e pos.line X.env = pure false := by rfl) (hw : swappedStores [.Subscript (.Name x py) b ps] e X.env = pure none := by rfl)
    (h1 : (assignEach [.Subscript (.Name x py) b ps] X.env).map (·.2) = [assign (.Subscript (.Name x py) b ps) X.env] := by rfl)
    (ha : ∀ v, assign (.Subscript (.Name x py) b ps) X.env v = (do
      let ov ← holding [v] (eval (.Name x py) X.env)
      let iv ← holding [v, ov] (eval b X.env)
      standAt ps
      holding [v, ov, iv] (setItem ov iv v)
      release [v, ov, iv] []) := by intro _; rfl) (hd : (x == ("__debug__" : Str)) = false := by decide)
    (hcd : (x == ("__classdict__" : Str)) = false := by decide) : dZs H0 X (.Assign [.Subscript (.Name x py) b ps] e pos :: sts) D env := dSs_cons fun B HF M σ H ok ba =>
  wS.of (ps_asg pe_w (pg_sub (pe_var hN hv hd hcd) pe_w set_list ha) hs hw h1) (he M σ H ok _ fun v H1 e1 r1 => by
    obtain ⟨a1, _⟩ := ok.adr he0
    refine ⟨_, a1, hb M σ H1 (ok.mono e1) _ fun u H2 e2 r2 => ?_⟩
    have ok2 := (ok.mono e1).mono e2
    obtain ⟨_, a2, ns', rfl, a4⟩ := ok2.adr he0
    rw [Rp.int_v r1, Rp.int_v r2]
    refine ⟨q0, _, _, m, rfl, rfl, a4, ?_, ?_⟩
    · rw [List.length_map]
      exact hj
    · refine ⟨_, M, ok2.tell (ψ := (· = ns'.set m j)) he0 (fun ns _ _ => ⟨_, rfl, ?_⟩) upd_hide, ((ba.mono e1).mono e2).tell ok2 he0 upd_hide, h⟩
      rw [upd_same, List.map_set])
end
/-! ### comprehensions -/
inductive LsR {α : Type} (β : α → Bool → Prop) (Φ : α → PyData → Prop) : List α → List PyData → Prop
  | nil : LsR β Φ [] []
  | skip {xs : List α} {ds : List PyData} {x : α} : LsR β Φ xs ds → β x false → LsR β Φ (xs ++ [x]) ds
  | take {xs : List α} {ds : List PyData} {x : α} {d : PyData} : LsR β Φ xs ds → β x true → Φ x d → LsR β Φ (xs ++ [x]) (ds ++ [d])
def dPTs (X : Cx) (ifs : List Expr) (env : List Sl) (β : Bool → Prop) : Prop := ∀ M σ H, EnvOk X.K M env σ H → ∀ Q : Bool → Hp → Prop, (∀ b H', Mv env H H' → EnvOk X.K M env σ H' → β b → Q b H') → wTs X ifs σ H Q
theorem dPTs_nil {X : Cx} {env : List Sl} : dPTs X [] env (· = true) := fun M σ H ok Q q pins s I => pts_nil.run pins s σ H Q I (q _ H (.of (Same.refl H)) ok rfl)
theorem dPTs_one {X : Cx} {env : List Sl} {c : Expr} {β : Bool → Prop} (h : dPT X c env β) : dPTs X [c] env β := fun M σ H ok Q q pins s I => (pts_one pt_w).run pins s σ H Q I (h M σ H ok Q q)
def dTurnP (X : Cx) (scope : Scope) (own : List (Str × Nat)) (tg : Expr) (ifs : List Expr) (elt : Expr) (env : List Sl) (d : PyData) (β : Bool → Prop) (Φ : PyData → Prop) : Prop := ∃ is env2, (∀ i ∈ is, i ∈ own.map (·.2)) ∧
  ∀ (s : Shared) (H : Hp) (C : Addr) (cl : List (Str × Addr)) (fp : List Addr), dG (X.blk s H scope (compEnvC scope cl C X.env) fp) tg (wipeD env (own.map (·.2))) d is env2 ∧
    dPTs (X.blk s H scope (compEnvC scope cl C X.env) fp) ifs env2 β ∧ (β true → dP (X.blk s H scope (compEnvC scope cl C X.env) fp) elt env2 Φ)
theorem wipeD_own {env : List Sl} : ∀ (vs : List Nat) (j : Nat) (s : Sl), (wipeD env vs)[j]? = some s → s.own = true → env[j]? = some s ∧ j ∉ vs
  | [], j, s, h, _ => ⟨h, List.not_mem_nil⟩
  | v :: vs, j, s, h, os => by
    have h : ((wipeD env vs).set v .no)[j]? = some s := h
    by_cases e : v = j
    · subst e
      have hv : v < (wipeD env vs).length := by
        have z := (List.getElem?_eq_some_iff.mp h).1
        rwa [List.length_set] at z
      rw [List.getElem?_set_self hv] at h
      cases h
      cases os
    · rw [List.getElem?_set_ne e] at h
      obtain ⟨h1, h2⟩ := wipeD_own vs j s h os
      exact ⟨h1, fun z => (List.mem_cons.mp z).elim (fun q => e q.symm) h2⟩
section
variable {X : Cx} {tg elt iter : Expr} {ifs : List Expr} {scope : Scope} {own : List (Str × Nat)} {env : List Sl} {pos p py : Pos} {x : Str} {H0 : Hp} {sts : List Stmt} {D : DEnds}
theorem LsR.len {α : Type} {β : α → Bool → Prop} {Φ : α → PyData → Prop} {xs : List α} {ds : List PyData} (h : LsR β Φ xs ds) : ds.length ≤ xs.length := by
  induction h with
  | nil => exact Nat.le_refl _
  | skip _ _ ih =>
    rw [List.length_append]
    omega
  | take _ _ _ ih =>
    rw [List.length_append, List.length_append]
    simp only [List.length_cons, List.length_nil]
    omega
theorem narrow {K : PySem.W.Frag} {M : List Addr} {D : Addr} {H1 H' : Hp} {env : List Sl} {σ : L2.St} (o : EnvOk K (D :: M) env σ H') (ok : EnvOk K M env σ H1) : EnvOk K M env σ H' := by
  refine ⟨o.len, fun j s hs => ?_, o.inj, fun b hb => o.dom b (List.mem_cons_of_mem _ hb)⟩
  have q := o.sl j s hs
  cases s with
  | no => trivial
  | fz d =>
    obtain ⟨v, h1, h2⟩ := q
    exact ⟨v, h1, h2.mono (fz_sub fun b hb => List.mem_cons_of_mem _ hb)⟩
  | ow ds =>
    obtain ⟨l, vs, h1, h2, h3, h4⟩ := o.own hs
    obtain ⟨l2, vs2, z1, z2, _⟩ := ok.own hs
    rw [z1] at h1
    cases h1
    rw [z1]
    exact ⟨l, vs, rfl, z2, h3, h4.mono (fz_sub fun b hb => List.mem_cons_of_mem _ hb)⟩
  | sc ns =>
    obtain ⟨a, h1, h2⟩ := q
    exact ⟨a, h1, sqL_mono (fz_sub fun b hb => List.mem_cons_of_mem _ hb) h2⟩
  | pl a φ =>
    obtain ⟨h1, h2, h3⟩ := q
    exact ⟨h1, (ok.adr hs).2.1, h3⟩
theorem updNew {K : PySem.W.Frag} {M : List Addr} {D : Addr} {H1 H' : Hp} {env : List Sl} {σ : L2.St} {ob : HO} (o : EnvOk K (D :: M) env σ H') (ok : EnvOk K M env σ H1) (hD : D ∉ M) : EnvOk K (D :: M) env σ (upd H' D ob) := by
  refine ⟨o.len, fun j s hs => ?_, o.inj, fun b hb => ?_⟩
  · have q := o.sl j s hs
    cases s with
    | no => trivial
    | fz d =>
      obtain ⟨v, h1, h2⟩ := q
      exact ⟨v, h1, by rw [fz_upd List.mem_cons_self]; exact h2⟩
    | ow ds =>
      obtain ⟨l, vs, h1, h2, h3, h4⟩ := o.own hs
      obtain ⟨l2, vs2, z1, z2, _⟩ := ok.own hs
      rw [z1] at h1
      cases h1
      rw [z1]
      refine ⟨l, vs, rfl, h2, ?_, by rw [fz_upd List.mem_cons_self]; exact h4⟩
      rw [upd_ne (fun z => hD (by rw [← z]; exact z2))]
      exact h3
    | sc ns =>
      obtain ⟨a, h1, h2⟩ := q
      exact ⟨a, h1, by rw [fz_upd List.mem_cons_self]; exact h2⟩
    | pl a φ =>
      obtain ⟨h1, h2, ns, h3, h4⟩ := q
      have z2 := (ok.adr hs).2.1
      refine ⟨h1, h2, ns, h3, ?_⟩
      rw [upd_ne (fun z => hD (by rw [← z]; exact z2))]
      exact h4
  · by_cases e : b = D
    · rw [e]
      exact ⟨_, upd_same⟩
    · obtain ⟨u, eu⟩ := o.dom b hb
      exact ⟨u, by rw [upd_ne e]; exact eu⟩
theorem lcP_read {α : Type} {xs : List α} {g : α → PyData} {β : α → Bool → Prop} {Φ : α → PyData → Prop} (hi : dIf X tg iter env (xs.map g)) (hlen : xs.length ≤ 100000) (turn : ∀ x ∈ xs, dTurnP X scope own tg ifs elt env (g x) (β x) (Φ x)) {M : List Addr} {σ : L2.St} {H : Hp} (ok : EnvOk X.K M env σ H)
    {Q : VK} (q : ∀ v H' ds, Mv env H H' → EnvOk X.K M env σ H' → LsR β Φ xs ds → RvOk X.K M H H' v (.fr ds) → Q v H') : tLc (wI X tg iter) (bG X scope tg) (bT X scope ifs) (bE X scope elt) (own.map (·.2)) σ H Q := by
  refine hi M σ H ok _ fun J H1 e1 it D hD => ?_
  have ok1 : EnvOk X.K M env σ H1 := ok.mono e1
  have hDM : D ∉ M := ok1.notin hD
  have hH1 : Mv env H H1 := .of e1
  have s1 : Same H1 (upd H1 D (.lst [])) := same_new hD
  refine ⟨fun i m H2 => m = xs.length - i ∧ i ≤ xs.length ∧ Mv env H1 H2 ∧ EnvOk X.K (D :: M) env σ H2 ∧ ∃ acc ds, H2 D = some (.lst acc) ∧ RpL X.K (Fz (D :: M) H2) acc ds ∧ LsR β Φ (xs.take i) ds, ⟨xs.length, rfl, Nat.zero_le _, .of s1, ok1.wide hD s1 upd_same, [], [], upd_same, .nil, .nil⟩, ?_⟩
  rintro i m H2 ⟨rfl, hle, m2, okD, acc, ds, hacc, lacc, lsr⟩
  have f2 : Same (Fz M H1) (Fz M H2) := m2.frz ok1
  have f2' : Same (Fz M H1) H2 := f2.trans fz_full
  have up : Same (Fz M H1) (Fz (D :: M) H2) := fun b u e' => by
    obtain ⟨h1, h2⟩ := fz_some e'
    have e3 := f2 b u e'
    rw [fz_out h1] at e3
    rw [fz_out (fun z => (List.mem_cons.mp z).elim (ne_of_none h2 hD) h1)]
    exact e3
  by_cases hi : i < xs.length
  · refine .inr ⟨it.go H2 i f2' (by rw [List.length_map]; exact hi), fun H3 => i + 1 ≤ xs.length ∧ Mv env H1 H3 ∧ EnvOk X.K (D :: M) env σ H3 ∧ ∃ acc ds, H3 D = some (.lst acc) ∧ RpL X.K (Fz (D :: M) H3) acc ds ∧ LsR β Φ (xs.take (i + 1)) ds, fun H3 ⟨a1, a2⟩ => ⟨xs.length - (i + 1), by omega, rfl, a1, a2⟩, fun x H3 hy => ?_⟩
    have hx : (xs.map g)[i]? = some (g xs[i]) := by
      rw [List.getElem?_map, List.getElem?_eq_getElem hi]
      rfl
    obtain ⟨e3, rx⟩ := it.yld (D :: M) H2 i _ x H3 okD.dom f2' (by rw [show Fz M (Fz M H1) = Fz M H1 from fz_fz]; exact up) hx hy
    obtain ⟨is, env2, his, blk⟩ := turn xs[i] (List.getElem_mem hi)
    have ok3 : EnvOk X.K (D :: M) env σ H3 := okD.mono e3
    have okw := ok3.wiped (own.map (·.2))
    have tk : xs.take (i + 1) = xs.take i ++ [xs[i]] := by
      rw [List.take_add_one, List.getElem?_eq_getElem hi]
      rfl
    intro s H0 C cl fp
    refine (blk s H0 C cl fp).1 (D :: M) _ H3 x okw rx _ fun σ2 p2 => ⟨?_, ?_⟩
    · rw [p2.wip _ his]
      have ww : ∀ (vs : List Nat) (σ : L2.St), wipe (wipe σ vs) vs = wipe σ vs := fun vs σ => by
        refine List.ext_getElem? fun j => ?_
        rw [wipe_get, wipe_length, wipe_get]
        by_cases hj : j ∈ vs
        · rw [if_pos hj, if_pos hj]
        · rw [if_neg hj, if_neg hj]
      exact ww _ _
    · have own2 : ∀ (j : Nat) (s : Sl), env2[j]? = some s → s.own = true → env[j]? = some s ∧ σ2[j]? = σ[j]? := fun j s h1 os => by
        obtain ⟨h2, h3⟩ := p2.own j s h1 os
        obtain ⟨h4, h5⟩ := wipeD_own _ j s h2 os
        refine ⟨h4, h3.trans ?_⟩
        rw [wipe_get, if_neg h5]
      intro s' H0' C' cl' fp'
      refine (blk s' H0' C' cl' fp').2.1 (D :: M) σ2 H3 p2.ok _ fun kb H4 m4 ok4 hb => ?_
      obtain ⟨n4, o4⟩ := ok3.backP ok4 m4 own2
      have hD3 : H3 D = some (.lst acc) := e3 _ _ hacc
      have nD : ∀ (i : Nat) (φ : List Int → Prop), env[i]? ≠ some (Sl.pl D φ) := fun i φ e => hDM (ok1.adr e).2.1
      have nD2 : ∀ (i : Nat) (φ : List Int → Prop), env2[i]? ≠ some (Sl.pl D φ) := fun i φ e => nD i φ (own2 i _ e rfl).1
      have hD4 : H4 D = some (.lst acc) := n4 _ _ nD hD3
      have n34 : Mv env H1 H4 := (m2.trans (.of e3)).trans n4
      have lacc4 : RpL X.K (Fz (D :: M) H4) acc ds := (lacc.mono (fz_same e3)).mono (n4.frz ok3)
      cases kb with
      | false =>
        rw [if_neg Bool.false_ne_true]
        exact ⟨hi, n34, o4, acc, ds, hD4, lacc4, by rw [tk]; exact lsr.skip hb⟩
      | true =>
        rw [if_pos rfl]
        intro s'' H0'' C'' cl'' fp''
        refine (blk s'' H0'' C'' cl'' fp'').2.2 hb (D :: M) σ2 H4 ok4 _ fun y d5 H5 m5 ok5 ry hd5 => ?_
        obtain ⟨n5, o5⟩ := o4.backP ok5 m5 own2
        have hD5 : H5 D = some (.lst acc) := n5 _ _ nD hD4
        have lacc5 : RpL X.K (Fz (D :: M) H5) acc ds := lacc4.mono (n5.frz o4)
        have lsl := lsr.len
        refine ⟨acc, hD5, ?_, hi, fun b o hn hb => ?_, updNew o5 ok1 hDM, acc ++ [y], ds ++ [d5], upd_same, ?_, by rw [tk]; exact lsr.take hb hd5⟩
        · rw [lacc.length]
          rw [List.length_take] at lsl
          exact Nat.lt_of_lt_of_le (m := 100001) (by omega) (by decide)
        · rw [upd_ne (ne_of_none hb hD)]
          exact (n34.trans n5) b o hn hb
        · rw [fz_upd List.mem_cons_self]
          exact lacc5.append (.cons ry .nil)
  · have ei : i = xs.length := by omega
    subst ei
    rw [List.take_length] at lsr
    exact .inl ⟨it.stop H2 _ f2' (by rw [List.length_map]; exact Nat.le_refl _), q _ H2 ds (hH1.trans m2) (narrow okD ok1) lsr ⟨D, acc, rfl, e1.free hD, hDM, hacc, lacc⟩⟩
/-- name = [..] on one line -/
theorem s_lcP {α : Type} {xs : List α} {g : α → PyData} {β : α → Bool → Prop} {Φ : α → PyData → Prop} (n : Nat) (own : List (Str × Nat)) (hi : dIf X tg iter env (xs.map g)) (hlen : xs.length ≤ 100000) (turn : ∀ x ∈ xs, dTurnP X scope own tg ifs elt env (g x) (β x) (Φ x)) (k : ∀ ds, LsR β Φ xs ds → dZs H0 X sts D (env.set n (.fz (.list ds))))
    (hN : X.N.Nodup) (hc : X.calm = true := by rfl) (hy : X.N[n]? = some x := by rfl) (hyl : X.env.scope.names.lookup x = some .local := by rfl)
    (hsw : swapsWith (.ListComp elt [⟨tg, iter, ifs, 0⟩] scope p) (some (.Name x py)) pos.line X.env = pure true := by exact sw_true rfl rfl rfl (by decide +kernel)) (ok : BlkOk X.N X.env.scope scope own := by exact blkOk_by (by decide +kernel)) (hs : ∀ x, foldedSetIterable iter X.env x = pure x := by intro _; rfl) :
    dZs H0 X (.Assign [.Name x py] (.ListComp elt [⟨tg, iter, ifs, 0⟩] scope p) pos :: sts) D env := dSs_cons fun B HF M σ H okE ba => by
  refine wS.of (ps_setLc hc hN hy hyl hsw pi_w ok bg_ok bt_ok be_ok hs) ?_
  refine lcP_read hi hlen turn okE (Q := fun x H1 => gName n x σ H1 (lift X.K H0 B HF { D with nx := dZs H0 X sts D }).nx) fun v H1 ds m1 ok1 hd r1 => ?_
  have p := put_set (i := n) ok1 r1.data
  exact ⟨_, M, p.ok, (ba.moved okE m1).put p, k ds hd⟩
/-- as an expression -/
theorem dP_lc {α : Type} {xs : List α} {g : α → PyData} {β : α → Bool → Prop} {Φ : α → PyData → Prop} (own : List (Str × Nat)) (hi : dIf X tg iter env (xs.map g)) (hlen : xs.length ≤ 100000) (turn : ∀ x ∈ xs, dTurnP X scope own tg ifs elt env (g x) (β x) (Φ x)) (hN : X.N.Nodup) (hc : X.calm = true := by rfl) (ok : BlkOk X.N X.env.scope scope own := by exact blkOk_by (by decide +kernel)) (hs : ∀ x, foldedSetIterable iter X.env x = pure x := by intro _; rfl) :
    dP X (.ListComp elt [⟨tg, iter, ifs, 0⟩] scope pos) env (fun d => ∃ ds, LsR β Φ xs ds ∧ d = .list ds) := fun M σ H okE Q q =>
  wE.of (pe_lc hc hN pi_w ok bg_ok bt_ok be_ok hs) (lcP_read hi hlen turn okE fun v H1 ds m1 ok1 hd r1 => q v _ H1 m1 ok1 r1.data ⟨ds, hd, rfl⟩)
end
end Dl

namespace Dl
open PySem PySem.Spec PyProof.Rows L2 StX
section
variable {X : Cx} {e a b c : Expr} {es : List Expr} {env : List Sl} {r : Rs} {d : PyData} {ds es2 : List PyData} {pos p : Pos} {i j : Int} {k k' : Bool}
theorem RdOk.tupLe {K : PySem.W.Frag} {M : List Addr} {H : Hp} {v : V} {ds : List PyData} (h : RdOk K M H v (.tuple ds)) : ∃ p vs, v = .ref p ∧ SqT K H p vs ∧ RpL K (Fz M H) vs ds := h.tup
/-- an int in a tuple of ints -/
theorem dC_inT {ns : List Int} (ha : dE X a env (.fz (.int i))) (hb : dR X b env (.tuple (ns.map PyData.int))) (hm : behindInMarks .In b = false) : dC X .In a b env (decide (i ∈ ns)) :=
  ⟨_, op_in_seq, hm, fun M σ H ok Q q => ha M σ H ok _ fun v H1 e1 r1 => hb M σ H1 (ok.mono e1) _ fun u H2 e2 r2 => by
    obtain ⟨p, vs, rfl, h1, h2⟩ := r2.tup
    rw [Rp.int_v r1]
    have ev := h2.int_of
    subst ev
    refine ⟨p, _, rfl, .inr h1, rfl, flat_ints _, ?_⟩
    rw [if_neg Bool.false_ne_true, inV_int]
    exact q H2 (e1.trans e2)⟩
theorem dC_nitT {ns : List Int} (ha : dE X a env (.fz (.int i))) (hb : dR X b env (.tuple (ns.map PyData.int))) (hm : behindInMarks .NotIn b = false) : dC X .NotIn a b env (!decide (i ∈ ns)) :=
  ⟨_, op_notIn_seq, hm, fun M σ H ok Q q => ha M σ H ok _ fun v H1 e1 r1 => hb M σ H1 (ok.mono e1) _ fun u H2 e2 r2 => by
    obtain ⟨p, vs, rfl, h1, h2⟩ := r2.tup
    rw [Rp.int_v r1]
    have ev := h2.int_of
    subst ev
    refine ⟨p, _, rfl, .inr h1, rfl, flat_ints _, ?_⟩
    rw [if_pos rfl, inV_int]
    exact q H2 (e1.trans e2)⟩
/-- list(t), t a tuple -/
theorem dE_listT (hm : X.mg "list" = none) (ha : dR X a env (.tuple ds)) (hg : Gl X "list" := by rfl) (he : starEach [a] X.env = (false, eval a X.env) :: starEach [] X.env := by rfl) : dE X (.Call (.Name "list" p) [a] [] pos) env (.fr ds) := fun M σ H ok Q q =>
  wE.of (pe_callTy call_list_of hg hm PyProof.Rows.boot_list (pa_cons pe_w pa_nil he) (he := he)) (ha M σ H ok _ fun v H1 e1 r1 => by
    obtain ⟨t, vs, rfl, h1, l⟩ := r1.tup
    exact ⟨t, vs, rfl, .inr h1, fun n hn => q _ _ (e1.trans (same_new hn)) ⟨n, _, rfl, e1.free hn, (ok.mono e1).notin hn, upd_same, l.mono (fz_new hn)⟩⟩)
/-- .., *t, .. -/
theorem dA_starT (h : dR X e env (.tuple ds)) (hr : dA X es env es2) (hs : starEach (.Starred e p :: es) X.env = (true, eval e X.env) :: starEach es X.env := by rfl) : dA X (.Starred e p :: es) env (ds ++ es2) := fun M σ H ok Q q =>
  wA.of (pa_star pe_w pa_w hs) (h M σ H ok _ fun v H1 e1 r1 => by
    obtain ⟨t, vs, rfl, h1, l⟩ := r1.tup
    exact ⟨t, vs, rfl, .inl h1, hr M σ H1 (ok.mono e1) _ fun ws H2 e2 r2 => q _ H2 (e1.trans e2) ((l.mono (fz_same e2)).append r2)⟩)
theorem dA_starL (h : dR X e env (.list ds)) (hr : dA X es env es2) (hs : starEach (.Starred e p :: es) X.env = (true, eval e X.env) :: starEach es X.env := by rfl) : dA X (.Starred e p :: es) env (ds ++ es2) := fun M σ H ok Q q =>
  wA.of (pa_star pe_w pa_w hs) (h M σ H ok _ fun v H1 e1 r1 => by
    obtain ⟨t, vs, rfl, h1, l⟩ := r1.lst
    exact ⟨t, vs, rfl, .inr (SqL.of h1), hr M σ H1 (ok.mono e1) _ fun ws H2 e2 r2 => q _ H2 (e1.trans e2) ((l.mono (fz_same e2)).append r2)⟩)
end
/-- the order of ints by the library's own sort -/
def ascI (ns : List Int) : List Int := ns.mergeSort (fun a b => decide (a ≤ b))
theorem ascI_perm (ns : List Int) : (ascI ns).Perm ns := List.mergeSort_perm ns _
theorem ascI_asc (ns : List Int) : (ascI ns).Pairwise (· ≤ ·) := by
  have z := List.pairwise_mergeSort (le := fun a b : Int => decide (a ≤ b)) (fun a b c h1 h2 => by
    rw [decide_eq_true_eq] at *
    omega) (fun a b => by
    rw [Bool.or_eq_true, decide_eq_true_eq, decide_eq_true_eq]
    omega) ns
  exact z.imp fun h => of_decide_eq_true h
end Dl

namespace Dl
open PySem PySem.Spec PyProof.Rows L2
/-! ### answers of which one tells a property alone; the script's length and its items -/
def dQ (X : Cx) (e : Expr) (env : List Sl) (Φ : Rs → Prop) : Prop := ∀ M σ H, EnvOk X.K M env σ H → ∀ Q : VK, (∀ v H' r, Same H H' → RvOk X.K M H H' v r → Φ r → Q v H') → wE X e σ H Q
def spSQ (K : PySem.W.Frag) (n : Nat) (R : List Int → List PyData → (Rs → Prop) → Prop) : Sp := fun vs H Q _ => ∃ M t ns ws ds Φ, vs = .ref t :: ws ∧ ds.length = n ∧ (∀ b ∈ M, ∃ o, H b = some o) ∧ SqL K (Fz M H) t (ns.map V.int) ∧ RpL K (Fz M H) ws ds ∧ R ns ds Φ ∧ ∀ v H' r, Same H H' → RvOk K M H H' v r → Φ r → Q v H'
structure CalleeSQ (P : Program) (w : World) (K : PySem.W.Frag) (mg : Str → Option Value) (base : Heap) (k : Nat) (x : Str) (ps : List Str) (n : Nat) (R : List Int → List PyData → (Rs → Prop) → Prop) : Prop where
  ok : ∃ f fd, FnOk P w K mg base CX0 k f fd ps (spSQ K n R) ∧ mg x = some (.ref f) ∧ PySem.W.keepIn K (.ref f) = true ∧ Binds K fd ps []
theorem CalleeSQ.mono {P : Program} {w : World} {K : PySem.W.Frag} {mg : Str → Option Value} {base : Heap} {k k' : Nat} {x : Str} {ps : List Str} {n : Nat} {R : List Int → List PyData → (Rs → Prop) → Prop} (h : CalleeSQ P w K mg base k x ps n R) (hk : k ≤ k') : CalleeSQ P w K mg base k' x ps n R := by
  obtain ⟨f, fd, F, r⟩ := h.ok
  exact ⟨f, fd, F.mono hk, r⟩
section
variable {P : Program} {w : World} {K : PySem.W.Frag} {mg : Str → Option Value} {base : Heap}
theorem fn_okSQ {x qual : Str} {st : Stmt} {f : Addr} {fd : FuncData} {N ps : List Str} {k n : Nat} {R : List Int → List PyData → (Rs → Prop) → Prop} (F : Fun K x qual st f fd) (S : FnScope N ps (defScope st)) (hn : ps.length = n + 1)
    (body : ∀ (cdv : Value) (A : Around) (outer : List Env) (s : Shared) (H : Hp) (E : XK), Room k (A.deeper (envOfC qual (defScope st) s.heap.objs.size f cdv)) → ∀ ns ds Φ, ds.length = n → R ns ds Φ →
      dSs (cxD P w K mg base N qual (defScope st) f cdv A outer s H E) (defBody st) { nx := fun _ => Φ (.fz .none), rt := fun r' _ => Φ r' } (argsS N ns ds)) : FnOk P w K mg base CX0 (k + 1) f fd ps (spSQ K n R) := by
  refine F.ok S (fun vs H Q E h => ?_) (fun cdv A outer s H vs Q E hr h => ?_)
  · obtain ⟨M, t, ns, ws, ds, r, rfl, h1, _, _, h3, _⟩ := h
    rw [List.length_cons, h3.length, h1, hn]
  · obtain ⟨M, t, ns, ws, ds, r, rfl, h1, h2, h0, h3, h4, q⟩ := h
    refine ⟨_, pss_w, ?_⟩
    intro pins s1 I
    have ok := env_startS (N := N) h2 h0 h3
    have ba : Base H M (Fz M H) M (argsS N ns ds) (L2.start N (.ref t :: ws)) H := ⟨Same.refl _, fun _ z => z, fun i s l e1 os _ => (noow i s e1 os).elim, h2, Same.refl _⟩
    refine thn (body cdv A outer s H E hr ns ds r h1 h4 M (Fz M H) M _ H ok ba pins s1 I) fun fl s2 z => ?_
    cases fl with
    | next =>
      obtain ⟨σ', H', I', env', M', ok', ba', z⟩ := z
      exact ⟨σ', H', I', q .non H' (.fz .none) ba'.ext Rp.non z⟩
    | ret u =>
      obtain ⟨v', σ', H', I', rv, r', env', M', σ2, a0, a1, a2, a3⟩ := z
      exact ⟨v', σ', H', I', rv, q v' H' r' a1.ext (a2.sub a1.sub) a3⟩
    | brk =>
      obtain ⟨σ', H', I', z⟩ := z
      obtain ⟨_, _, _, _, z⟩ := z
      exact z.elim
    | cont =>
      obtain ⟨σ', H', I', z⟩ := z
      obtain ⟨_, _, _, _, z⟩ := z
      exact z.elim
theorem calleeSQ {x : Str} {st : Stmt} {N ps : List Str} {k n : Nat} {R : List Int → List PyData → (Rs → Prop) → Prop} (D : DefAt K mg x st) (S : FnScope N ps (defScope st)) (hn : ps.length = n + 1) (hb : BindOk x st ps)
    (body : ∀ (f : Addr) (cdv : Value) (A : Around) (outer : List Env) (s : Shared) (H : Hp) (E : XK), Room k (A.deeper (envOfC x (defScope st) s.heap.objs.size f cdv)) → ∀ ns ds Φ, ds.length = n → R ns ds Φ →
      dSs (cxD P w K mg base N x (defScope st) f cdv A outer s H E) (defBody st) { nx := fun _ => Φ (.fz .none), rt := fun r' _ => Φ r' } (argsS N ns ds)) : CalleeSQ P w K mg base (k + 1) x ps n R := by
  obtain ⟨f, fd, F, hm⟩ := D.ok
  exact ⟨f, fd, fn_okSQ F S hn (body f), hm, F.kp, F.binds hb⟩
end
section
variable {H0 : Hp} {D : DEnds} {sts : List Stmt} {X : Cx} {e a b : Expr} {es : List Expr} {env : List Sl} {r : Rs} {d : PyData} {ds : List PyData} {pos p py : Pos} {x y : Str} {ps : List Str} {R : List Int → List PyData → (Rs → Prop) → Prop} {n k : Nat} {ns : List Int} {Φ : Rs → Prop} {j : Int}
theorem dQ_callS (i : Nat) (F : CalleeSQ X.prog X.w X.K X.mg X.base k x ps n R) (hr : Room k X.A) (he0 : env[i]? = some (.sc ns)) (ha : dA X es env ds) (h : R ns ds Φ) (hl : ds.length = n) (hN : X.N[i]? = some y) (hv : Vis X.env.scope y) (hg : Gl X x := by rfl) (hdb : (x == ("__debug__" : Str)) = false := by decide)
    (hdy : (y == ("__debug__" : Str)) = false := by decide) (hcd : (y == ("__classdict__" : Str)) = false := by decide)
    (he : starEach (.Name y py :: es) X.env = (false, eval (.Name y py) X.env) :: starEach es X.env := by rfl) (hpl : (backTo pos (starEach es X.env)).any (·.1) = false := by rfl) : dQ X (.Call (.Name x p) (.Name y py :: es) [] pos) env Φ := fun M σ H ok Q q => by
  obtain ⟨f, fd, G, hm, hk, hb⟩ := F.ok
  obtain ⟨t, h1, h2⟩ := ok.sl i _ he0
  have h1' : σ[i]? = some (some (.ref t)) := by
    cases q : σ[i]? with
    | none =>
      rw [q] at h1
      cases h1
    | some o =>
      rw [q] at h1
      rw [show o = some (.ref t) from h1]
  refine wE.of (pe_call G hr hg hm hk hb .nil pass0 (pa_cons (pe_var hN hv hdy hcd) pa_w he) hdb he hpl) ⟨_, h1', ha M σ H ok _ fun vs H1 e1 l => ?_⟩
  show spSQ X.K n R (V.ref t :: vs ++ []) H1 Q E0
  rw [List.append_nil]
  exact ⟨M, t, ns, vs, ds, Φ, rfl, hl, (ok.mono e1).dom, sqL_mono (fz_same e1) h2, l, h, fun v H' r e' rv hr => q v H' r (e1.trans e') (rv.back e1) hr⟩
/-- ds + e -/
theorem dQ_cat (ha : dR X a env (.list ds)) (hb : dQ X b env Φ) (h : ∀ r, Φ r → ∃ es, r.data = .list es ∧ ds.length + es.length ≤ 100000) : dQ X (.BinOp a .Add b pos) env (fun r => ∃ r' es, Φ r' ∧ r'.data = .list es ∧ r = .fr (ds ++ es)) := fun M σ H ok Q q => by
  refine wE.of (pe_op op_cat pe_w pe_w) (ha M σ H ok _ fun v H1 e1 r1 => hb M σ H1 (ok.mono e1) _ fun u H2 r' e2 r2 hr => ?_)
  obtain ⟨es, he, hl⟩ := h r' hr
  obtain ⟨p1, v1, rfl, h1, l1⟩ := (r1.mono e2).lst
  have r3 := r2.data
  rw [he] at r3
  cases r3 with
  | lst h2 l2 =>
    refine ⟨p1, _, v1, _, rfl, rfl, h1, (fz_some h2).2, ?_, fun p hp => ?_⟩
    · rw [l1.length, l2.length]
      exact Nat.le_trans hl (by decide)
    · refine q _ _ (.fr (ds ++ es)) (e1.trans (e2.trans (same_new hp))) ⟨p, _, rfl, (e1.trans e2).free hp, ((ok.mono e1).mono e2).notin hp, upd_same, ?_⟩ ⟨r', es, hr, he, rfl⟩
      exact (l1.append l2).mono (fz_new hp)
theorem s_retQ (he : dQ X e env Φ) (h : ∀ r, Φ r → D.rt r env) : dZs H0 X (.Return (some e) pos :: sts) D env := dSs_cons fun B HF M σ H ok ba =>
  wS.of (ps_ret pe_w) (he M σ H ok _ fun v H1 r e1 r1 hr => ⟨r, env, M, σ, ok.mono e1, ba.mono e1, r1.back ba.ext, h r hr⟩)
theorem s_setoQ (n : Nat) (he : dQ X e env Φ) (hΦ : ∀ r, Φ r → ∃ ds, r = .fr ds) (h : ∀ ds, Φ (.fr ds) → dZs H0 X sts D (env.set n (.ow ds))) (hN : X.N.Nodup) (hi : X.N[n]? = some x := by rfl) (hx : Loc X.env.scope x := by first | exact Or.inl rfl | exact Or.inr rfl)
    (hs : swapsWith e (some (.Name x py)) pos.line X.env = pure false := by rfl) (hf : X.fn x = true ∨ X.env.scope.names.lookup x = some .local := by first | exact Or.inl rfl | exact Or.inr rfl) : dZs H0 X (.Assign [.Name x py] e pos :: sts) D env := dSs_cons fun B HF M σ H ok ba =>
  wS.of (ps_set hN hi hx pe_w hs hf) (he M σ H ok _ fun v H1 r e1 r1 hr => by
    obtain ⟨ds, rfl⟩ := hΦ r hr
    obtain ⟨t, vs, ev, ht, hM, hl, l⟩ := r1
    subst ev
    exact ⟨_, t :: M, ok.set_ow ht e1 hl l, ba.ow ok ht e1 hl, h ds hr⟩)
theorem scr_at {M : List Addr} {σ : L2.St} {H : Hp} {i : Nat} (ok : EnvOk X.K M env σ H) (he : env[i]? = some (.sc ns)) : ∃ t, σ[i]? = some (some (.ref t)) ∧ SqL X.K H t (ns.map V.int) := ok.scr he
/-- len(script) -/
theorem dE_lenS (i : Nat) (hm : X.mg "len" = none) (he0 : env[i]? = some (.sc ns)) (hN : X.N[i]? = some x) (hv : Vis X.env.scope x) (hg : Gl X "len" := by rfl) (hd : (x == ("__debug__" : Str)) = false := by decide) (hcd : (x == ("__classdict__" : Str)) = false := by decide) (he : starEach [.Name x py] X.env = (false, eval (.Name x py) X.env) :: starEach [] X.env := by rfl) :
    dE X (.Call (.Name "len" p) [.Name x py] [] pos) env (.fz (.int ns.length)) := fun M σ H ok Q q => by
  obtain ⟨t, h1, h2⟩ := ok.scr he0
  refine wE.of (pe_callB call_len_seq hg hm PySem.boot_len (pa_cons (pe_var hN hv hd hcd) pa_nil he) (he := he)) ⟨_, h1, t, _, rfl, .inl h2, ?_⟩
  rw [List.length_map]
  exact q _ H (Same.refl H) (.int _)
/-- script[k] -/
theorem dE_ixS (i : Nat) {m : Nat} (he0 : env[i]? = some (.sc ns)) (hb : dE X b env (.fz (.int (m : Int)))) (hm : m < ns.length) (hs : PlainIx b) (hN : X.N[i]? = some x) (hv : Vis X.env.scope x) (hd : (x == ("__debug__" : Str)) = false := by decide) (hcd : (x == ("__classdict__" : Str)) = false := by decide) :
    dE X (.Subscript (.Name x py) b pos) env (.fz (.int (ns.getD m 0))) := fun M σ H ok Q q => by
  obtain ⟨t, h1, h2⟩ := ok.scr he0
  refine wE.of (pe_ix ix_list (pe_var hN hv hd hcd) pe_w hs) ⟨_, h1, hb M σ H ok _ fun u H2 e2 r2 => ?_⟩
  rw [Rp.int_v r2]
  have z : atI (ns.map V.int) (m : Int) = some (V.int (ns.getD m 0)) := by
    refine atI_nat ?_
    rw [List.getElem?_map, List.getElem?_eq_getElem hm, List.getD_eq_getElem?_getD, List.getElem?_eq_getElem hm]
    rfl
  exact ⟨t, _, _, _, rfl, rfl, sqL_mono e2 h2, z, q _ H2 e2 (.int _)⟩
end
end Dl

namespace Dl
open PySem PySem.Spec PyProof.Rows L2
section
variable {X : Cx} {tg e a b c : Expr} {es : List Expr} {env : List Sl} {r : Rs} {d : PyData} {ds : List PyData} {pos p : Pos} {i j : Int}
theorem dE_lenM {α : Type} {xs : List α} {f : α → PyData} (hm : X.mg "len" = none) (ha : dR X a env (.list (xs.map f))) (hg : Gl X "len" := by rfl) (he : starEach [a] X.env = (false, eval a X.env) :: starEach [] X.env := by rfl) : dE X (.Call (.Name "len" p) [a] [] pos) env (.fz (.int xs.length)) :=
  (dE_len hm ha hg he).is (by rw [List.length_map])
theorem dE_lenTM {α : Type} {xs : List α} {f : α → PyData} (hm : X.mg "len" = none) (ha : dR X a env (.tuple (xs.map f))) (hg : Gl X "len" := by rfl) (he : starEach [a] X.env = (false, eval a X.env) :: starEach [] X.env := by rfl) : dE X (.Call (.Name "len" p) [a] [] pos) env (.fz (.int xs.length)) :=
  (dE_lenT hm ha hg he).is (by rw [List.length_map])
theorem dIf_rangeN {n : Nat} (hm : X.mg "range" = none) (h : dE X a env (.fz (.int (n : Int)))) (hn : n ≤ 1000000) (hg : Gl X "range" := by rfl) (hs : starEach [a] X.env = (false, eval a X.env) :: starEach [] X.env := by rfl) : dIf X tg (.Call (.Name "range" p) [a] [] pos) env ((List.range n).map fun i : Nat => PyData.int (i : Int)) := by
  have z := dIf_range1 (tg := tg) (pos := pos) (p := p) hm h (by omega) (by omega) hg hs
  rw [Int.toNat_natCast] at z
  unfold rangeD at z
  have e : ((List.range n).map fun i : Nat => PyData.int ((0 : Int) + (i : Nat))) = (List.range n).map fun i : Nat => PyData.int (i : Int) := List.map_congr_left fun i _ => by rw [Int.zero_add]
  rwa [e] at z
theorem dIf_rangeB {n : Nat} (hm : X.mg "range" = none) (h : dE X a env (.fz (.int i))) (h' : dE X b env (.fz (.int (i + (n : Int))))) (h1 : -100000 ≤ i) (h2 : i ≤ 100000) (hn : n ≤ 100000) (hg : Gl X "range" := by rfl) (hs : starEach [a, b] X.env = (false, eval a X.env) :: starEach [b] X.env := by rfl) (hs2 : starEach [b] X.env = (false, eval b X.env) :: starEach [] X.env := by rfl) :
    dIf X tg (.Call (.Name "range" p) [a, b] [] pos) env ((List.range n).map fun m : Nat => PyData.int (i + (m : Int))) := by
  have z := dIf_range2 (tg := tg) (pos := pos) (p := p) hm h h' (by omega) (by omega) (by omega) (by omega) hg hs hs2
  rw [show (i + (n : Int) - i).toNat = n by omega] at z
  exact z
end
end Dl

namespace Dl
open PySem PySem.Spec PyProof.Rows L2
/-! ### data that a name of the module stands for -/
structure DataC (K : PySem.W.Frag) (mg : Str → Option Value) (x : Str) (d : PyData) : Prop where
  ok : ∃ a, mg x = some (.ref a) ∧ ∀ H, Rp K H (.ref a) d
theorem dE_gdata {X : Cx} {x : Str} {d : PyData} {env : List Sl} {pos : Pos} (hg : Gl X x) (c : DataC X.K X.mg x d) (hd : (x == ("__debug__" : Str)) = false := by decide) : dE X (.Name x pos) env (.fz d) := by
  obtain ⟨a, h1, h2⟩ := c.ok
  exact dE_v (pe_glob (v := .ref a) hg h1 rfl hd) (fun _ _ _ q => q) fun _ => h2 _
theorem sqT_kept {K : PySem.W.Frag} {H : Hp} {a : Addr} {od : Option Addr} {sl : Array (Option Value)} {its : Array Value} {n : Nat} {vs : List V} (l : K.lookup a = some ⟨.type "tuple", od, .seq its n, sl⟩) (hz : its.size ≤ 1000) (hv : Vals vs its.toList) : SqT K H a vs :=
  .inr ⟨_, its, n, l, rfl, rfl, Nat.le_trans hz (by decide), hv⟩
/-- (m, j, ()) -/
theorem data_begin {K : PySem.W.Frag} {mg : Str → Option Value} {h : Heap} {x : Str} {a b : Addr} {oda odb : Option Addr} {sla slb : Array (Option Value)} {na nb : Nat} {m j : Int} {t1 t2 : Tok} (X : K.In h) (G : h.Ns mainGlobals mg)
    (g : PySem.W.nsIn K mainGlobals x = some (some (.ref a))) (l : K.lookup a = some ⟨.type "tuple", oda, .seq #[.int m t1, .int j t2, .ref b] na, sla⟩) (l2 : K.lookup b = some ⟨.type "tuple", odb, .seq #[] nb, slb⟩) : DataC K mg x (.tuple [.int m, .int j, .tuple []]) :=
  ⟨a, PySem.W.mg_of X G g, fun H => by
    have r0 : Vals [] (#[] : Array Value).toList := .nil
    have v1 : L2.RelV (V.int m) (.int m t1) := ⟨t1, rfl⟩
    have v2 : L2.RelV (V.int j) (.int j t2) := ⟨t2, rfl⟩
    have v3 : L2.RelV (V.ref b) (.ref b) := rfl
    have r1 : Vals [V.int m, V.int j, V.ref b] (#[Value.int m t1, .int j t2, .ref b] : Array Value).toList := .cons v1 (.cons v2 (.cons v3 .nil))
    have e : Rp K H (.ref b) (.tuple []) := .tup (sqT_kept l2 (by decide) r0) .nil
    exact .tup (sqT_kept l (by decide : 3 ≤ 1000) r1) (.cons (.int m) (.cons (.int j) (.cons e .nil)))⟩
end Dl

namespace Dl
open PySem PySem.Spec PyProof.Rows L2
/-! ### f-strings, zip -/
section
variable {X : Cx} {tg e a b v1 v2 : Expr} {es rest : List Expr} {env : List Sl} {d : PyData} {ds ds2 : List PyData} {pos p : Pos} {i : Int} {y : Str} {ys : List Str}
/-- the parts of an f-string, as texts -/
def dJ (X : Cx) (es : List Expr) (env : List Sl) (ys : List Str) : Prop := ∃ ts, PJ X es ts ∧ ∀ M σ H, EnvOk X.K M env σ H → ∀ (acc : Str) (Q : Str → Hp → Prop), acc.length + (ys.map Str.length).sum ≤ 16777216 → (∀ H', Same H H' → Q (ys.foldl (· ++ ·) acc) H') → tJs ts acc σ H Q
theorem len_app (x y : Str) : (x ++ y).length = x.length + y.length := by
  show (x.cps ++ y.cps).size = _
  rw [Array.size_append]
  rfl
theorem dJ_nil : dJ X [] env [] := ⟨[], .nil, fun M σ H ok acc Q hl q => q H (Same.refl H)⟩
theorem dJ_con {m : Str} {z : Nat} (h : dJ X es env ys) : dJ X (.Constant (.str m) z pos :: es) env (m :: ys) := by
  obtain ⟨ts, h1, h2⟩ := h
  refine ⟨_, .cons pe_str h1, fun M σ H ok acc Q hl q => ?_⟩
  rw [List.map_cons, List.sum_cons] at hl
  refine ⟨m, rfl, ?_, h2 M σ H ok (acc ++ m) Q (by rw [len_app]; omega) q⟩
  rw [len_app, sizeLine_eq]
  omega
theorem dJ_int (he : dE X e env (.fz (.int i))) (hi : i.natAbs.log2 < 1920) (h : dJ X es env ys) : dJ X (.FormattedValue e (-1) none pos :: es) env ((toString i : Str) :: ys) := by
  obtain ⟨ts, h1, h2⟩ := h
  refine ⟨_, .cons (pe_fmt pe_w) h1, fun M σ H ok acc Q hl q => ?_⟩
  rw [List.map_cons, List.sum_cons] at hl
  refine he M σ H ok _ fun v H1 e1 r1 => .inr ⟨i, Rp.int_v r1, hi, _, rfl, ?_, h2 M σ H1 (ok.mono e1) _ Q (by rw [len_app]; omega) fun H' e2 => q H' (e1.trans e2)⟩
  rw [len_app, sizeLine_eq]
  omega
theorem dJ_str (he : dE X e env (.fz (.str y))) (h : dJ X es env ys) : dJ X (.FormattedValue e (-1) none pos :: es) env (y :: ys) := by
  obtain ⟨ts, h1, h2⟩ := h
  refine ⟨_, .cons (pe_fmt pe_w) h1, fun M σ H ok acc Q hl q => ?_⟩
  rw [List.map_cons, List.sum_cons] at hl
  refine he M σ H ok _ fun v H1 e1 r1 => .inl ⟨y, Rp.str_v r1, by rw [sizeLine_eq]; omega, _, rfl, ?_, h2 M σ H1 (ok.mono e1) _ Q (by rw [len_app]; omega) fun H' e2 => q H' (e1.trans e2)⟩
  rw [len_app, sizeLine_eq]
  omega
theorem dE_fstr (h : dJ X (v1 :: v2 :: rest) env ys) (hl : (ys.map Str.length).sum ≤ 16777216) : dE X (.JoinedStr (v1 :: v2 :: rest) pos) env (.fz (.str (ys.foldl (· ++ ·) Str.empty))) := by
  obtain ⟨ts, h1, h2⟩ := h
  exact fun M σ H ok Q q => wE.of (pe_joined h1) (h2 M σ H ok Str.empty _ (by rw [show Str.empty.length = 0 from rfl]; omega) fun H' e => q _ H' e (.str _))
/-- zip of two lists -/
def zipD (ds es : List PyData) : List PyData := ds.zipWith (fun a b => .tuple [a, b]) es
theorem itok_zip {K : PySem.W.Frag} {M : List Addr} {Hb : Hp} {t u : Addr} {vs ws : List V} {ds es : List PyData} (h : Hb t = some (.lst vs)) (l : RpL K (Fz M Hb) vs ds) (h' : Hb u = some (.lst ws)) (l' : RpL K (Fz M Hb) ws es) : ItOk K M (Itz K t u) Hb (zipD ds es) where
  go := fun H i e hi => by
    unfold zipD at hi
    rw [List.length_zipWith] at hi
    have n1 := l.length
    have n2 := l'.length
    exact ⟨vs, ws, vs[i], ws[i], SqL.of (e _ _ h), SqL.of (e _ _ h'), List.getElem?_eq_getElem (by omega), List.getElem?_eq_getElem (by omega)⟩
  yld := fun M' H i d x H' dm e e' hd hy => by
    obtain ⟨T, y1, y2, rfl, hT, rfl, f1, f2⟩ := hy
    unfold zipD at hd
    rw [List.getElem?_zipWith] at hd
    cases q1 : ds[i]? with
    | none =>
      rw [q1] at hd
      cases hd
    | some d1 =>
      cases q2 : es[i]? with
      | none =>
        rw [q1, q2] at hd
        cases hd
      | some d2 =>
        rw [q1, q2] at hd
        cases hd
        obtain ⟨v, a1, a2⟩ := l.get q1
        obtain ⟨w, b1, b2⟩ := l'.get q2
        have g1 := f1 vs (SqL.of (e _ _ h))
        have g2 := f2 ws (SqL.of (e _ _ h'))
        rw [a1] at g1
        rw [b1] at g2
        cases g1
        cases g2
        have nT : T ∉ M' := fun z => by
          obtain ⟨o, ho⟩ := dm T z
          rw [hT] at ho
          cases ho
        refine ⟨same_new hT, ?_⟩
        exact .tup (.inl (.inl (by rw [fz_out nT]; exact upd_same))) (.cons (a2.mono (e'.trans (fz_same (same_new hT)))) (.cons (b2.mono (e'.trans (fz_same (same_new hT)))) .nil))
  stop := fun H i e hi => by
    unfold zipD at hi
    rw [List.length_zipWith] at hi
    have n1 := l.length
    have n2 := l'.length
    exact ⟨vs, ws, SqL.of (e _ _ h), SqL.of (e _ _ h'), by omega⟩
theorem dIf_zip {elts : List Expr} {kk : Nat} {tpos : Pos} (hm : X.mg "zip" = none) (ha : dE X a env (.fz (.list ds))) (hb : dE X b env (.fz (.list ds2))) (hg : Gl X "zip" := by rfl) (hs : starEach [a, b] X.env = (false, eval a X.env) :: starEach [b] X.env := by rfl) (hs2 : starEach [b] X.env = (false, eval b X.env) :: starEach [] X.env := by rfl) (hpl : (backTo pos (starEach [b] X.env)).any (·.1) = false := by rfl) :
    dIf X (.Tuple elts kk tpos) (.Call (.Name "zip" p) [a, b] [] pos) env (zipD ds ds2) := fun M σ H ok R q =>
  wI.of (pi_zip hg hm (pa_cons pe_w (pa_cons pe_w pa_nil hs2) hs) hs hpl) (ha M σ H ok _ fun v H1 e1 r1 => hb M σ H1 (ok.mono e1) _ fun u H2 e2 r2 => by
    have r1' := r1.mono (fz_same e2)
    cases r1' with
    | lst h1 l1 =>
      cases r2 with
      | lst h2 l2 => exact ⟨_, _, _, _, rfl, SqL.of (fz_some h1).2, SqL.of (fz_some h2).2, q _ H2 (e1.trans e2) (itok_zip h1 (by rw [fz_fz]; exact l1) h2 (by rw [fz_fz]; exact l2))⟩)
end
end Dl

namespace Dl
open PySem PySem.Spec PyProof.Rows L2
/-! ### a, b, .. = x, y, .. where some of them are new lists that the names own -/
def RvIn (K : PySem.W.Frag) (M : List Addr) (H0 H : Hp) (v : V) : Rs → Prop
  | .fz d => Rp K (Fz M H) v d
  | .fr ds => ∃ p vs, v = .ref p ∧ H0 p = none ∧ p ∈ M ∧ H p = some (.lst vs) ∧ RpL K (Fz M H) vs ds
inductive RvAll (K : PySem.W.Frag) (M : List Addr) (H0 H : Hp) : List V → List Rs → Prop
  | nil : RvAll K M H0 H [] []
  | cons {v : V} {vs : List V} {r : Rs} {rs : List Rs} : RvIn K M H0 H v r → (∀ ds p, r = .fr ds → v = .ref p → ∀ es, ∀ u ∈ vs.zip rs, u.2 = .fr es → u.1 ≠ .ref p) → RvAll K M H0 H vs rs → RvAll K M H0 H (v :: vs) (r :: rs)
section
variable {K : PySem.W.Frag} {M M' : List Addr} {H0 H0' H H' : Hp} {v : V} {r : Rs} {vs : List V} {rs : List Rs}
theorem RvIn.mono (e : Same (Fz M H) (Fz M' H')) (e2 : Same H H') (s : ∀ b ∈ M, b ∈ M') (b0 : ∀ p, H0 p = none → H0' p = none) (h : RvIn K M H0 H v r) : RvIn K M' H0' H' v r := by
  cases r with
  | fz d => exact Rp.mono e h
  | fr ds =>
    obtain ⟨p, ls, h1, h2, h3, h4, h5⟩ := h
    exact ⟨p, ls, h1, b0 p h2, s p h3, e2 _ _ h4, h5.mono e⟩
theorem RvAll.mono (e : Same (Fz M H) (Fz M' H')) (e2 : Same H H') (s : ∀ b ∈ M, b ∈ M') (b0 : ∀ p, H0 p = none → H0' p = none) : ∀ {vs : List V} {rs : List Rs}, RvAll K M H0 H vs rs → RvAll K M' H0' H' vs rs
  | _, _, .nil => .nil
  | _, _, .cons h d t => .cons (h.mono e e2 s b0) d (RvAll.mono e e2 s b0 t)
theorem RvAll.length : ∀ {vs : List V} {rs : List Rs}, RvAll K M H0 H vs rs → vs.length = rs.length
  | _, _, .nil => rfl
  | _, _, .cons _ _ t => congrArg (· + 1) t.length
theorem RvAll.mem : ∀ {vs : List V} {rs : List Rs}, RvAll K M H0 H vs rs → ∀ u ∈ vs.zip rs, RvIn K M H0 H u.1 u.2
  | _, _, .nil, u, h => nomatch h
  | _, _, .cons a _ t, u, h => by
    rcases List.mem_cons.mp h with e | h
    · rw [e]
      exact a
    · exact t.mem u h
end
def dAo (X : Cx) (es : List Expr) (env : List Sl) (rs : List Rs) : Prop := ∀ M σ H, EnvOk X.K M env σ H → ∀ Q : List V → Hp → Prop, (∀ vs M' H', Same H H' → (∀ b ∈ M, b ∈ M') → (∀ b ∈ M', b ∈ M ∨ H b = none) → EnvOk X.K M' env σ H' → RvAll X.K M' H H' vs rs → Q vs H') → wA X es σ H Q
section
variable {X : Cx} {e tg : Expr} {es ts : List Expr} {env env' : List Sl} {r : Rs} {rs : List Rs} {pos : Pos}
theorem dAo_nil : dAo X [] env [] := fun M σ H ok Q q => wA.of pa_nil (q [] M H (Same.refl H) (fun _ h => h) (fun _ h => .inl h) ok .nil)
theorem dAo_cons (h : dE X e env r) (hr : dAo X es env rs) (hs : starEach (e :: es) X.env = (false, eval e X.env) :: starEach es X.env := by rfl) : dAo X (e :: es) env (r :: rs) := fun M σ H ok Q q =>
  wA.of (pa_cons pe_w pa_w hs) (h M σ H ok _ fun v H1 e1 r1 => by
    have ⟨M1, m1, m2, ok1, ri, hd⟩ : ∃ M1, (∀ b ∈ M, b ∈ M1) ∧ (∀ b ∈ M1, b ∈ M ∨ H b = none) ∧ EnvOk X.K M1 env σ H1 ∧ RvIn X.K M1 H H1 v r ∧ (∀ ds p, r = .fr ds → v = .ref p → ∃ o, H1 p = some o) := by
      cases r with
      | fz d => exact ⟨M, fun _ z => z, fun _ z => .inl z, ok.mono e1, r1, fun _ _ z => nomatch z⟩
      | fr ds =>
        obtain ⟨p, ls, h1, h2, h3, h4, h5⟩ := r1
        refine ⟨p :: M, fun _ z => List.mem_cons_of_mem _ z, fun b hb => ?_, ok.wide h2 e1 h4, ⟨p, ls, h1, h2, List.mem_cons_self, h4, h5⟩, fun _ p' _ e' => ?_⟩
        · rcases List.mem_cons.mp hb with z | z
          · exact .inr (by rw [z]; exact h2)
          · exact .inl z
        · rw [h1] at e'
          cases e'
          exact ⟨_, h4⟩
    refine hr M1 σ H1 ok1 _ fun vs M' H' e2 n1 n2 ok' ra => q _ M' H' (e1.trans e2) (fun b z => n1 b (m1 b z)) (fun b z => ?_) ok' ?_
    · rcases n2 b z with z | z
      · exact m2 b z
      · exact .inr (e1.free z)
    · have fz : Same (Fz M1 H1) (Fz M' H') := fun b o hb => by
        obtain ⟨b1, b2⟩ := fz_some hb
        rw [fz_out fun z => (n2 b z).elim b1 fun z => by
          rw [b2] at z
          cases z]
        exact e2 _ _ b2
      refine .cons (ri.mono fz e2 n1 fun _ z => z) (fun ds p er ev es u hu eu ep => ?_) (ra.mono (Same.refl _) (Same.refl _) (fun _ z => z) fun _ z => e1.free z)
      have z := ra.mem u hu
      rw [eu] at z
      obtain ⟨p', _, g1, g2, _⟩ := z
      rw [ep] at g1
      cases g1
      obtain ⟨o, ho⟩ := hd ds _ er ev
      rw [g2] at ho
      cases ho)
/-- the slot that a name gets -/
def slotOf : Rs → Sl
  | .fz d => .fz d
  | .fr ds => .ow ds
def setAll (env : List Sl) : List Nat → List Rs → List Sl
  | i :: is, r :: rs => setAll (env.set i (slotOf r)) is rs
  | _, _ => env
/-- no name of env owns what is to be given -/
def NoOwn (env : List Sl) (σ : L2.St) (vs : List V) (rs : List Rs) : Prop := ∀ (j : Nat) (s : Sl) (l : Addr), env[j]? = some s → s.own = true → σ[j]? = some (some (.ref l)) → ∀ u ∈ vs.zip rs, ∀ ds, u.2 = .fr ds → u.1 ≠ .ref l
theorem EnvOk.give {K : PySem.W.Frag} {M : List Addr} {H0 H : Hp} {env : List Sl} {σ : L2.St} {i : Nat} {v : V} (ok : EnvOk K M env σ H) (ri : RvIn K M H0 H v r) (no : ∀ (j : Nat) (s : Sl) (l : Addr), env[j]? = some s → s.own = true → σ[j]? = some (some (.ref l)) → ∀ ds, r = .fr ds → v ≠ .ref l) : EnvOk K M (env.set i (slotOf r)) (σ.set i (some v)) H := by
  cases r with
  | fz d => exact ok.set_no rfl ⟨v, rfl, ri⟩
  | fr ds =>
    obtain ⟨p, ls, rfl, h2, h3, h4, h5⟩ := ri
    refine ⟨by rw [List.length_set, List.length_set]; exact ok.len, fun j t ht => ?_, fun j k s1 s2 l h1 h2 o1 o2 h3 h4 => ?_, ok.dom⟩
    · by_cases ej : i = j
      · subst ej
        have hi : i < env.length := by
          have z := (List.getElem?_eq_some_iff.mp ht).1
          rwa [List.length_set] at z
        rw [List.getElem?_set_self hi] at ht
        cases ht
        rw [List.getElem?_set_self (by rw [← ok.len]; exact hi)]
        exact ⟨p, ls, rfl, h3, h4, h5⟩
      · rw [List.getElem?_set_ne ej] at ht ⊢
        exact ok.sl j t ht
    · have same : ∀ {j : Nat} {s : Sl}, i = j → (env.set i (.ow ds))[j]? = some s → (σ.set i (some (.ref p)))[j]? = some (some (.ref p)) := fun {j s} ej he => by
        subst ej
        have hi : i < env.length := by
          have z := (List.getElem?_eq_some_iff.mp he).1
          rwa [List.length_set] at z
        rw [List.getElem?_set_self (by rw [← ok.len]; exact hi)]
      by_cases ej : i = j
      · by_cases ek : i = k
        · exact ej.symm.trans ek
        · have z := same ej h1
          rw [z] at h3
          cases h3
          rw [List.getElem?_set_ne ek] at h4
          have h2 : env[k]? = some s2 := by
            have h2 : (env.set i (.ow ds))[k]? = some s2 := h2
            rwa [List.getElem?_set_ne ek] at h2
          exact absurd rfl (no k s2 _ h2 o2 h4 ds rfl)
      · by_cases ek : i = k
        · have z := same ek h2
          rw [z] at h4
          cases h4
          rw [List.getElem?_set_ne ej] at h3
          have h1 : env[j]? = some s1 := by
            have h1 : (env.set i (.ow ds))[j]? = some s1 := h1
            rwa [List.getElem?_set_ne ej] at h1
          exact absurd rfl (no j s1 _ h1 o1 h3 ds rfl)
        · rw [List.getElem?_set_ne ej] at h3
          rw [List.getElem?_set_ne ek] at h4
          have h1 : env[j]? = some s1 := by
            have h1 : (env.set i (.ow ds))[j]? = some s1 := h1
            rwa [List.getElem?_set_ne ej] at h1
          have h2 : env[k]? = some s2 := by
            have h2 : (env.set i (.ow ds))[k]? = some s2 := h2
            rwa [List.getElem?_set_ne ek] at h2
          exact ok.inj j k s1 s2 l h1 h2 o1 o2 h3 h4
theorem NoOwn.give {env : List Sl} {σ : L2.St} {i : Nat} {v : V} {vs : List V} (no : NoOwn env σ (v :: vs) (r :: rs)) (d : ∀ ds p, r = .fr ds → v = .ref p → ∀ es, ∀ u ∈ vs.zip rs, u.2 = .fr es → u.1 ≠ .ref p) : NoOwn (env.set i (slotOf r)) (σ.set i (some v)) vs rs := fun j s l hj os hσ u hu ds eu => by
  by_cases ej : i = j
  · subst ej
    have hi : i < env.length := by
      have z := (List.getElem?_eq_some_iff.mp hj).1
      rwa [List.length_set] at z
    rw [List.getElem?_set_self hi] at hj
    cases hj
    have ev : v = .ref l := by
      by_cases hs : i < σ.length
      · rw [List.getElem?_set_self hs] at hσ
        exact Option.some.inj (Option.some.inj hσ)
      · rw [List.getElem?_eq_none (by rw [List.length_set]; omega)] at hσ
        cases hσ
    cases r with
    | fz d' => cases os
    | fr es => exact d es l rfl ev ds u hu eu
  · rw [List.getElem?_set_ne ej] at hj hσ
    exact no j s l hj os hσ u (List.mem_cons_of_mem _ hu) ds eu
/-- the names one by one -/
inductive Nms (X : Cx) : List Expr → List Nat → Prop
  | nil : Nms X [] []
  | cons {x : Str} {i : Nat} {ts : List Expr} {is : List Nat} {pos : Pos} (hN : X.N.Nodup) (hi : X.N[i]? = some x) (hx : Loc X.env.scope x) (hf : X.fn x = true ∨ X.env.scope.names.lookup x = some .local) (hs : (assignEach (.Name x pos :: ts) X.env).map (·.2) = assign (.Name x pos) X.env :: (assignEach ts X.env).map (·.2)) (t : Nms X ts is) : Nms X (.Name x pos :: ts) (i :: is)
theorem give_all {M : List Addr} {H0 H : Hp} : ∀ {ts : List Expr} {is : List Nat} {rs : List Rs} {vs : List V} {env : List Sl} {σ : L2.St} {Q : L2.St → Hp → Prop}, Nms X ts is → EnvOk X.K M env σ H → RvAll X.K M H0 H vs rs → vs.length = is.length → NoOwn env σ vs rs →
    (∀ σ', EnvOk X.K M (setAll env is rs) σ' H → (∀ (j : Nat) (s : Sl) (l : Addr), (setAll env is rs)[j]? = some s → s.own = true → σ'[j]? = some (some (.ref l)) → (env[j]? = some s ∧ σ[j]? = some (some (.ref l))) ∨ H0 l = none) → Q σ' H) → wGs X ts vs σ H Q
  | _, _, _, _, env, σ, Q, .nil, ok, ra, hl, no, q => fun pins s us I ru => by
    cases ra with
    | nil => exact pgs_nil.run pins s σ H [] us Q I ru ⟨rfl, q σ ok fun j s l h1 _ h2 => .inl ⟨h1, h2⟩⟩
    | cons _ _ _ => cases hl
  | _, _, _, _, env, σ, Q, @Nms.cons _ x i ts is ps hN hi hx hf hs t, ok, ra, hl, no, q => fun pins s us I ru => by
    cases ra with
    | nil => cases hl
    | @cons v vs r rs h d ra =>
      refine (pgs_cons (pg_name hN hi hx hf) pgs_w hs).run pins s σ H _ us Q I ru ⟨v, vs, rfl, ?_⟩
      have ok1 := ok.give (i := i) h fun j s l h1 os h2 ds er => no j s l h1 os h2 (v, r) List.mem_cons_self ds er
      refine give_all t ok1 ra (Nat.succ.inj hl) (no.give d) fun σ' ok' own => q σ' ok' fun j s l h1 os h2 => ?_
      rcases own j s l h1 os h2 with ⟨z1, z2⟩ | z
      · by_cases ej : i = j
        · subst ej
          have hi : i < env.length := by
            have z := (List.getElem?_eq_some_iff.mp z1).1
            rwa [List.length_set] at z
          rw [List.getElem?_set_self hi] at z1
          cases z1
          rw [List.getElem?_set_self (by rw [← ok.len]; exact hi)] at z2
          have ev : v = .ref l := Option.some.inj (Option.some.inj z2)
          cases r with
          | fz d' => cases os
          | fr es =>
            obtain ⟨p, ls, g1, g2, _⟩ := h
            rw [g1] at ev
            cases ev
            exact .inr g2
        · rw [List.getElem?_set_ne ej] at z1 z2
          exact .inl ⟨z1, z2⟩
      · exact .inr z
theorem s_multi {H0 : Hp} {D : DEnds} {sts : List Stmt} {k1 k2 : Nat} {p1 p2 : Pos} (is : List Nat) (ha : dAo X es env rs) (hn : Nms X ts is) (hl : is.length = rs.length) (hz : rs.length ≤ 1000) (h : dZs H0 X sts D (setAll env is rs)) (hc : X.calm = true := by rfl) (hs : swapsWithSole [.Tuple ts k1 p1] (.Tuple es k2 p2) pos.line X.env = pure false := by rfl) (hw : swappedStores [.Tuple ts k1 p1] (.Tuple es k2 p2) X.env = pure none := by rfl)
    (h1 : (assignEach [.Tuple ts k1 p1] X.env).map (·.2) = [assign (.Tuple ts k1 p1) X.env] := by rfl) (hn2 : (assignEach ts X.env).length = rs.length := by rfl) (hst : (assignEach ts X.env).findIdx? (·.1) = none := by rfl) : dZs H0 X (.Assign [.Tuple ts k1 p1] (.Tuple es k2 p2) pos :: sts) D env := dSs_cons fun B HF M σ H ok ba =>
  wS.of (ps_asg (pe_tup pa_w) (pg_tup hc pgs_w hn2 hst) hs hw h1) (ha M σ H ok _ fun vs M' H' e1 m1 m2 ok' ra => ⟨by rw [ra.length]; exact Nat.le_trans hz (by decide), fun t ht => by
    have e2 : Same H' (upd H' t (.tup vs)) := same_new ht
    have ra2 := ra.mono (fz_same e2) e2 (fun _ z => z) (fun _ z => z)
    refine ⟨t, vs, rfl, .inl (.inl upd_same), ra.length, ?_⟩
    refine give_all hn (ok'.mono e2) ra2 (ra.length.trans hl.symm) (fun j s l hj os hσ u hu ds eu ep => ?_) fun σ' okf own => ⟨_, M', okf, ?_, h⟩
    · obtain ⟨l', z1, z2⟩ := ok.ownd hj os
      rw [hσ] at z1
      cases z1
      obtain ⟨o, ho⟩ := ok.dom _ z2
      have z := ra.mem u hu
      rw [eu] at z
      obtain ⟨p', _, g1, g2, _⟩ := z
      rw [ep] at g1
      cases g1
      rw [g2] at ho
      cases ho
    · have ba1 := ba.mono (e1.trans e2)
      refine ⟨ba1.ext, fun b hb => m1 b (ba.sub b hb), fun j s l hj os hσ => ?_, ba.dom, ba.frz.trans fun b o hb => ?_⟩
      · rcases own j s l hj os hσ with ⟨z1, z2⟩ | z
        · exact ba.own j s l z1 os z2
        · exact ba.ext.free z
      · obtain ⟨b1, b2⟩ := fz_some hb
        rw [fz_out fun z => (m2 b z).elim b1 fun z => by
          rw [b2] at z
          cases z]
        exact e2 _ _ (e1 _ _ b2)⟩)
end
end Dl

namespace Dl
open PySem PySem.Spec PyProof.Rows L2
/-! ### defs of whose answers one tells a property alone -/
def spFQ (K : PySem.W.Frag) (n : Nat) (R : List PyData → (Rs → Prop) → Prop) : Sp := fun vs H Q _ => ∃ M ds Φ, ds.length = n ∧ (∀ b ∈ M, ∃ o, H b = some o) ∧ RpL K (Fz M H) vs ds ∧ R ds Φ ∧ ∀ v H' r, Same H H' → RvOk K M H H' v r → Φ r → Q v H'
structure CalleeQ (P : Program) (w : World) (K : PySem.W.Frag) (mg : Str → Option Value) (base : Heap) (k : Nat) (x : Str) (ps : List Str) (R : List PyData → (Rs → Prop) → Prop) : Prop where
  ok : ∃ f fd, FnOk P w K mg base CX0 k f fd ps (spFQ K ps.length R) ∧ mg x = some (.ref f) ∧ PySem.W.keepIn K (.ref f) = true ∧ Binds K fd ps []
theorem CalleeQ.mono {P : Program} {w : World} {K : PySem.W.Frag} {mg : Str → Option Value} {base : Heap} {k k' : Nat} {x : Str} {ps : List Str} {R : List PyData → (Rs → Prop) → Prop} (h : CalleeQ P w K mg base k x ps R) (hk : k ≤ k') : CalleeQ P w K mg base k' x ps R := by
  obtain ⟨f, fd, F, r⟩ := h.ok
  exact ⟨f, fd, F.mono hk, r⟩
section
variable {P : Program} {w : World} {K : PySem.W.Frag} {mg : Str → Option Value} {base : Heap}
theorem fn_okQ {x qual : Str} {st : Stmt} {f : Addr} {fd : FuncData} {N ps : List Str} {k : Nat} {R : List PyData → (Rs → Prop) → Prop} (F : Fun K x qual st f fd) (S : FnScope N ps (defScope st))
    (body : ∀ (cdv : Value) (A : Around) (outer : List Env) (s : Shared) (H : Hp) (E : XK), Room k (A.deeper (envOfC qual (defScope st) s.heap.objs.size f cdv)) → ∀ ds Φ, ds.length = ps.length → R ds Φ →
      dSs (cxD P w K mg base N qual (defScope st) f cdv A outer s H E) (defBody st) { nx := fun _ => Φ (.fz .none), rt := fun r' _ => Φ r' } (args N ds)) : FnOk P w K mg base CX0 (k + 1) f fd ps (spFQ K ps.length R) := by
  refine F.ok S (fun vs H Q E h => ?_) (fun cdv A outer s H vs Q E hr h => ?_)
  · obtain ⟨M, ds, r, h1, _, h3, _⟩ := h
    rw [h3.length, h1]
  · obtain ⟨M, ds, r, h1, h2, h3, h4, q⟩ := h
    refine ⟨_, pss_w, ?_⟩
    intro pins s1 I
    have ok := env_start (N := N) h2 h3
    have noow : ∀ (i : Nat) (s : Sl), (args N ds)[i]? = some s → s.own = true → False := fun i s e1 os => by
      have z := List.mem_of_getElem? e1
      unfold args at z
      rcases List.mem_append.mp z with z | z
      · obtain ⟨d, _, e⟩ := List.mem_map.mp z
        rw [← e] at os
        cases os
      · rw [List.mem_replicate] at z
        rw [z.2] at os
        cases os
    have ba : Base H M (Fz M H) M (args N ds) (L2.start N vs) H := ⟨Same.refl _, fun _ z => z, fun i s l e1 os _ => (noow i s e1 os).elim, h2, Same.refl _⟩
    refine thn (body cdv A outer s H E hr ds r h1 h4 M (Fz M H) M (L2.start N vs) H ok ba pins s1 I) fun fl s2 z => ?_
    cases fl with
    | next =>
      obtain ⟨σ', H', I', env', M', ok', ba', z⟩ := z
      exact ⟨σ', H', I', q .non H' (.fz .none) ba'.ext Rp.non z⟩
    | ret u =>
      obtain ⟨v', σ', H', I', rv, r', env', M', σ2, a0, a1, a2, a3⟩ := z
      exact ⟨v', σ', H', I', rv, q v' H' r' a1.ext (a2.sub a1.sub) a3⟩
    | brk =>
      obtain ⟨σ', H', I', z⟩ := z
      obtain ⟨_, _, _, _, z⟩ := z
      exact z.elim
    | cont =>
      obtain ⟨σ', H', I', z⟩ := z
      obtain ⟨_, _, _, _, z⟩ := z
      exact z.elim
theorem calleeQ {x : Str} {st : Stmt} {N ps : List Str} {k : Nat} {R : List PyData → (Rs → Prop) → Prop} (D : DefAt K mg x st) (S : FnScope N ps (defScope st)) (hb : BindOk x st ps)
    (body : ∀ (f : Addr) (cdv : Value) (A : Around) (outer : List Env) (s : Shared) (H : Hp) (E : XK), Room k (A.deeper (envOfC x (defScope st) s.heap.objs.size f cdv)) → ∀ ds Φ, ds.length = ps.length → R ds Φ →
      dSs (cxD P w K mg base N x (defScope st) f cdv A outer s H E) (defBody st) { nx := fun _ => Φ (.fz .none), rt := fun r' _ => Φ r' } (args N ds)) : CalleeQ P w K mg base (k + 1) x ps R := by
  obtain ⟨f, fd, F, hm⟩ := D.ok
  exact ⟨f, fd, fn_okQ F S (body f), hm, F.kp, F.binds hb⟩
end
section
variable {H0 : Hp} {D : DEnds} {sts : List Stmt} {X : Cx} {e a b : Expr} {es : List Expr} {env : List Sl} {ds : List PyData} {pos p py : Pos} {x : Str} {ps : List Str} {R : List PyData → (Rs → Prop) → Prop} {n : Nat} {Φ : Rs → Prop} {φ ψ : Int → Prop}
theorem dQ_call (F : CalleeQ X.prog X.w X.K X.mg X.base n x ps R) (hr : Room n X.A) (ha : dA X (e :: es) env ds) (h : R ds Φ) (hl : ds.length = ps.length) (hg : Gl X x := by rfl) (hdb : (x == ("__debug__" : Str)) = false := by decide)
    (he : starEach (e :: es) X.env = (false, eval e X.env) :: starEach es X.env := by rfl) (hpl : (backTo pos (starEach es X.env)).any (·.1) = false := by rfl) : dQ X (.Call (.Name x p) (e :: es) [] pos) env Φ := fun M σ H ok Q q => by
  obtain ⟨f, fd, G, hm, hk, hb⟩ := F.ok
  refine wE.of (pe_call G hr hg hm hk hb .nil pass0 pa_w hdb he hpl) (ha M σ H ok _ fun vs H1 e1 l => ?_)
  rw [List.append_nil]
  exact ⟨M, ds, Φ, hl, (ok.mono e1).dom, l, h, fun v H' r e' rv hr => q v H' r (e1.trans e') (rv.back e1) hr⟩
theorem s_setQ (n : Nat) (he : dQ X e env Φ) (h : ∀ r, Φ r → dZs H0 X sts D (env.set n (.fz r.data))) (hN : X.N.Nodup) (hi : X.N[n]? = some x := by rfl) (hx : Loc X.env.scope x := by first | exact Or.inl rfl | exact Or.inr rfl)
    (hs : swapsWith e (some (.Name x py)) pos.line X.env = pure false := by rfl) (hf : X.fn x = true ∨ X.env.scope.names.lookup x = some .local := by first | exact Or.inl rfl | exact Or.inr rfl) : dZs H0 X (.Assign [.Name x py] e pos :: sts) D env := dSs_cons fun B HF M σ H ok ba =>
  wS.of (ps_set hN hi hx pe_w hs hf) (he M σ H ok _ fun v H1 r e1 r1 hr => by
    have p := put_set (i := n) (ok.mono e1) r1.data
    exact ⟨_, M, p.ok, (ba.mono e1).put p, h r hr⟩)
theorem dP_min (hm : X.mg "min" = none) (hc : X.calm = true) (ha : dP X a env (isI φ)) (hb : dP X b env (isI ψ)) (hg : Gl X "min" := by rfl) (he : starEach [a, b] X.env = (false, eval a X.env) :: starEach [b] X.env := by rfl) (he2 : starEach [b] X.env = (false, eval b X.env) :: starEach [] X.env := by rfl) (hpl : (backTo pos (starEach [b] X.env)).any (·.1) = false := by rfl) :
    dP X (.Call (.Name "min" p) [a, b] [] pos) env (isI fun z => ∃ x y, φ x ∧ ψ y ∧ z = if y < x then y else x) := fun M σ H ok Q q =>
  wE.of (pe_callB (call_min2 hc) hg hm (by decide +kernel) (pa_cons pe_w (pa_cons pe_w pa_nil he2) he) (he := he) (hpl := hpl)) (ha M σ H ok _ fun v d H1 m1 ok1 r1 hx => hb M σ H1 ok1 _ fun u d2 H2 m2 ok2 r2 hy => by
    obtain ⟨x, rfl, hx⟩ := hx
    obtain ⟨y, rfl, hy⟩ := hy
    rw [Rp.int_v r1, Rp.int_v r2]
    exact ⟨x, y, rfl, q _ _ H2 (m1.trans m2) ok2 (.int _) ⟨_, rfl, x, y, hx, hy, rfl⟩⟩)
end
end Dl

namespace Rg
open PySem PySem.Spec PyProof.Rows L2 Dl
def topS (i : Nat) : Stmt := PySem.Challenge.pw_skypasses_k10_skies_are_written.main.body.getD i (.Pass ⟨0, 0, 0, 0⟩)
abbrev sLineWith : Stmt := topS 1
abbrev nLineWith : List Str := ["head", "numbers", "number"]
theorem scLineWith : FnScope nLineWith ["head", "numbers"] (defScope sLineWith) := ⟨rfl, rfl, rfl, by decide +kernel, rfl, by decide +kernel, by decide +kernel⟩
abbrev sWriteSky : Stmt := topS 2
abbrev nWriteSky : List Str := ["sky", "looks", "worths", "ears", "capacity", "turn", "lines", "worth", "ear", "look"]
theorem scWriteSky : FnScope nWriteSky ["sky"] (defScope sWriteSky) := ⟨rfl, rfl, rfl, by decide +kernel, rfl, by decide +kernel, by decide +kernel⟩
abbrev sLawDraws : Stmt := topS 4
abbrev nLawDraws : List Str := ["script", "count", "rests", "draws", "k", "value", "at", "mixed", "cell"]
theorem scLawDraws : FnScope nLawDraws ["script", "count"] (defScope sLawDraws) := ⟨rfl, rfl, rfl, by decide +kernel, rfl, by decide +kernel, by decide +kernel⟩
abbrev sLawWide : Stmt := topS 5
abbrev nLawWide : List Str := ["draws", "wishes", "ears", "looks", "since", "start", "k", "first", "angle"]
theorem scLawWide : FnScope nLawWide ["draws"] (defScope sLawWide) := ⟨rfl, rfl, rfl, by decide +kernel, rfl, by decide +kernel, by decide +kernel⟩
abbrev sLawLines : Stmt := topS 6
abbrev nLawLines : List Str := ["sky", "looks", "worths", "ears", "capacity", "turn", "found", "word", "rows", "worth", "row", "number"]
theorem scLawLines : FnScope nLawLines ["sky"] (defScope sLawLines) := ⟨rfl, rfl, rfl, by decide +kernel, rfl, by decide +kernel, by decide +kernel⟩
abbrev sLawText : Stmt := topS 7
abbrev nLawText : List Str := ["lines", "words"]
theorem scLawText : FnScope nLawText ["lines"] (defScope sLawText) := ⟨rfl, rfl, rfl, by decide +kernel, rfl, by decide +kernel, by decide +kernel⟩
abbrev sLaw : Stmt := topS 8
abbrev nLaw : List Str := ["script", "draws", "sky", "kept", "turn", "told"]
theorem scLaw : FnScope nLaw ["script"] (defScope sLaw) := ⟨rfl, rfl, rfl, by decide +kernel, rfl, by decide +kernel, by decide +kernel⟩
structure Top (K : PySem.W.Frag) (mg : Str → Option Value) : Prop where
  fLineWith : DefAt K mg "line_with" sLineWith
  fWriteSky : DefAt K mg "write_sky" sWriteSky
  fLawDraws : DefAt K mg "_law_draws" sLawDraws
  fLawWide : DefAt K mg "_law_wide" sLawWide
  fLawLines : DefAt K mg "_law_lines" sLawLines
  fLawText : DefAt K mg "_law_text" sLawText
  fLaw : DefAt K mg "law" sLaw
  int : mg "int" = none
  isinstance : mg "isinstance" = none
  len : mg "len" = none
  min : mg "min" = none
  range : mg "range" = none
  repr : mg "repr" = none
  str : mg "str" = none
section
variable {P : Program} {w : World} {K : PySem.W.Frag} {mg : Str → Option Value} {base : Heap}
inductive RDraws : List Int → List PyData → Rs → Prop
  | mk {ns : List Int} {k : Nat} (hn : ns.length ≤ 63) (h : k ≤ 1000) : RDraws ns [.int (k : Int)] (.fr ((drawsM ns k).map PyData.int))
theorem okLawDraws (T : Top K mg) : CalleeS P w K mg base 1 "_law_draws" ["script", "count"] 1 RDraws := by
  refine calleeS T.fLawDraws scLawDraws rfl (fun _ _ _ _ _ _ us hl => match us, hl with | [_, _], _ => rfl) fun f cdv A outer s H E hr ns ds r hl hR => ?_
  cases hR with
  | mk hn hk =>
  rename_i k
  refine s_lco 2 [("cell", 8)] (dI_scr (n := 0) rfl rfl (.inl rfl)) (by omega) (fun x hx => ⟨_, _, (by decide), fun _ _ _ _ _ => ⟨gn 8 scLawDraws.nd, dTs_nil, fun _ => (nm 8)⟩⟩) ?_ scLawDraws.nd (ok := blkOk_by (N := nLawDraws) (sc := defScope sLawDraws) (by decide +kernel))
  rw [filter_yes]
  refine s_seto 3 (dE_lst dA_nil (by decide)) ?_ scLawDraws.nd
  refine s_for (fun m env => ∃ L D e4 e5 e6 e7 e8, dRun ns m = (L, D) ∧ env = [.sc ns, .fz (.int (k : Int)), .ow (L.map PyData.int), .ow (D.map PyData.int), e4, e5, e6, e7, e8]) (dIf_range1 T.range (nm 1) (by omega) (by omega)) ?_ (fun m d env1 hd hI => ?_) (fun env1 hI => ?_)
  · exact ⟨_, _, _, _, _, _, _, rfl, rfl⟩
  · obtain ⟨L, D, e4, e5, e6, e7, e8, hLD, rfl⟩ := hI
    obtain ⟨hm, rfl⟩ := rangeD_get hd
    rw [Int.zero_add]
    have hdr : dRun ns (m + 1) = dStep (dRun ns m) m := rfl
    rw [hLD] at hdr
    have l1 : L.length = ns.length := by
      have z := (dRun_len ns m).1
      rwa [hLD] at z
    have l2 : D.length = m := by
      have z := (dRun_len ns m).2
      rwa [hLD] at z
    have ll : (L.map PyData.int).length = L.length := List.length_map ..
    have ld : (D.map PyData.int).length = D.length := List.length_map ..
    have app : ∀ v : Int, D.map PyData.int ++ [PyData.int v] = (D ++ [v]).map PyData.int := fun v => by rw [List.map_append] <;> rfl
    refine ⟨_, _, gn 4 scLawDraws.nd, ?_⟩
    refine s_set 5 dE_int ?_ scLawDraws.nd
    refine s_if (dT_cmp (dC_gt (dE_len T.len (ow 2)) dE_int)) (fun h => ?_) (fun h => ?_)
    · have h := of_decide_eq_true h
      have hL : 0 < L.length := by omega
      have ea : (m : Int) % ((L.map PyData.int).length : Int) = ((m % L.length : Nat) : Int) := by
        rw [ll]
        exact (Int.natCast_emod m L.length).symm
      have am : m % L.length < L.length := Nat.mod_lt _ hL
      have hne : ¬ L.length = 0 := by omega
      refine s_set 6 ((dE_mod (dE_toint T.int (nm 4)) (dE_len T.len (ow 2)) (by omega)).is (congrArg (fun z => Rs.fz (.int z)) ea)) ?_ scLawDraws.nd
      have ix : ∀ {X : Cx} {p q : Expr} {pos : Pos} {env : List Sl}, dR X p env (.list (L.map PyData.int)) → dE X q env (.fz (.int ((m % L.length : Nat) : Int))) → PlainIx q → dE X (.Subscript p q pos) env (.fz (.int (L.getD (m % L.length) default))) := fun {X p q pos env} hp hq hs => by
        have z := dE_ixM (pos := pos) hp hq (by omega) (by omega) hs
        rwa [Int.toNat_natCast] at z
      refine s_if (dT_cmp (dC_ge (ix (ow 2) (nm 6) (fun _ _ => rfl)) (dE_pow dE_int dE_int ⟨by decide, by decide, by decide⟩))) (fun h2 => ?_) (fun h2 => ?_)
      · have h2 : 10 ^ 18 ≤ L.getD (m % L.length) 0 := of_decide_eq_true h2
        refine s_set 5 (dE_mod (dE_toint T.int (ix (ow 2) (nm 6) (fun _ _ => rfl))) dE_int (by decide)) ?_ scLawDraws.nd
        refine s_ix 2 (j := m % L.length) rfl (dE_fdiv (ix (ow 2) (nm 6) (fun _ _ => rfl)) dE_int ⟨by decide, by decide⟩) (nm 6) (ix_nat (by omega)) ?_
        refine s_end (s_end ?_)
        refine s_app 3 rfl (nm 5) (by omega) ?_
        have hst : dRun ns (m + 1) = (L.set (m % L.length) (L.getD (m % L.length) 0 / 1000), D ++ [L.getD (m % L.length) 0 % 1000]) := by
          rw [hdr]
          unfold dStep dValue
          rw [if_neg hne, if_pos h2, if_pos h2]
        exact s_end ⟨_, _, _, _, _, _, _, hst, by rw [← app, List.map_set] <;> rfl⟩
      · have h2 : ¬ 10 ^ 18 ≤ L.getD (m % L.length) 0 := of_decide_eq_false h2
        refine s_set 7 (dE_mod (dE_toint T.int (dE_add (dE_add (dE_mul (ix (ow 2) (nm 6) (fun _ _ => rfl)) dE_int (.inr ⟨by decide, by decide⟩)) (dE_mul (nm 4) dE_int (.inr ⟨by decide, by decide⟩))) dE_int)) dE_int (by decide)) ?_ scLawDraws.nd
        refine s_set 7 (dE_mod (dE_toint T.int (dE_add (dE_mul (nm 7) dE_int (.inr ⟨by decide, by decide⟩)) (nm 6))) dE_int (by decide)) ?_ scLawDraws.nd
        refine s_set 5 (dE_mod (dE_toint T.int (dE_fdiv (nm 7) dE_int ⟨by decide, by decide⟩)) dE_int (by decide)) ?_ scLawDraws.nd
        refine s_end (s_end ?_)
        refine s_app 3 rfl (nm 5) (by omega) ?_
        have hst : dRun ns (m + 1) = (L, D ++ [((((L.getD (m % L.length) 0) * 48271 + (m : Int) * 69621 + 11) % 2147483647) * 16807 + ((m % L.length : Nat) : Int)) % 2147483629 / 7 % 1000]) := by
          rw [hdr]
          unfold dStep dValue
          rw [if_neg hne, if_neg h2, if_neg h2]
        exact s_end ⟨_, _, _, _, _, _, _, hst, by rw [← app] <;> rfl⟩
    · have h := of_decide_eq_false h
      have hL : L.length = 0 := by omega
      refine s_end ?_
      refine s_app 3 rfl (nm 5) (by omega) ?_
      have hst : dRun ns (m + 1) = (L, D ++ [0]) := by
        rw [hdr]
        unfold dStep
        rw [if_pos hL]
      exact s_end ⟨_, _, _, _, _, _, _, hst, by rw [← app] <;> rfl⟩
  · obtain ⟨L, D, e4, e5, e6, e7, e8, hLD, rfl⟩ := hI
    refine s_reto 3 (.inl ?_)
    rw [rangeD_len, Int.toNat_natCast] at hLD
    unfold drawsM
    rw [hLD]
end
/-! ### skies -/
theorem emod_in {x n : Int} (h : 0 < n) : 0 ≤ x % n ∧ x % n < n := ⟨Int.emod_nonneg x (by omega), Int.emod_lt_of_pos x h⟩
theorem cmul_l {i j : Int} (h0 : 0 ≤ i) (h : i ≤ 1000000) : CMul i j := .inl ⟨by omega, by omega⟩
theorem dE_ixJ {X : Cx} {a b : Expr} {env : List Sl} {i : Int} {pos : Pos} {xs : List Int} (j : Nat) (ha : dR X a env (.list (xs.map PyData.int))) (hb : dE X b env (.fz (.int i))) (e : i = (j : Int)) (h : j < xs.length) (hs : PlainIx b) : dE X (.Subscript a b pos) env (.fz (.int (xs.getD j default))) := by
  subst e
  exact dE_ixM ha hb (by omega) (by omega) hs
abbrev Look := Int × Int × Int × Int × Int
abbrev Ear := Int × Int × Int
abbrev lookT (l : Look) : PyData := .tuple [.int l.1, .int l.2.1, .int l.2.2.1, .int l.2.2.2.1, .int l.2.2.2.2]
abbrev earT (e : Ear) : PyData := .tuple [.int e.1, .int e.2.1, .int e.2.2]
structure Sky where
  looks : List Look
  worths : List Int
  ears : List Ear
  cap : Int
  turn : Int
abbrev skyD (S : Sky) : PyData := .tuple [.list (S.looks.map lookT), .list (S.worths.map PyData.int), .list (S.ears.map earT), .int S.cap, .int S.turn]
structure SkyIn (sm lm am zm em rm cm : Int) (S : Sky) : Prop where
  nl : S.looks.length ≤ 16
  nw : 1 ≤ S.worths.length ∧ S.worths.length ≤ 6
  ne : S.ears.length ≤ 4
  lk : ∀ l ∈ S.looks, (0 ≤ l.1 ∧ l.1 < (S.worths.length : Int)) ∧ (0 ≤ l.2.1 ∧ l.2.1 ≤ sm) ∧ (1 ≤ l.2.2.1 ∧ l.2.2.1 ≤ lm) ∧ (-am ≤ l.2.2.2.1 ∧ l.2.2.2.1 ≤ am) ∧ (1 ≤ l.2.2.2.2 ∧ l.2.2.2.2 ≤ zm)
  wo : ∀ w ∈ S.worths, 0 ≤ w ∧ w ≤ 99
  er : ∀ e ∈ S.ears, 0 ≤ e.1 ∧ e.1 < e.2.1 ∧ e.2.1 ≤ em ∧ 1 ≤ e.2.2 ∧ e.2.2 ≤ rm
  cp : 1 ≤ S.cap ∧ S.cap ≤ cm
  tn : 1 ≤ S.turn ∧ S.turn ≤ 90
abbrev SkyLow := SkyIn 33 3 30 4 20 3 8
abbrev SkyOk := SkyIn 200 20 90 30 200 30 30
theorem SkyLow.ok {S : Sky} (h : SkyLow S) : SkyOk S := ⟨h.nl, h.nw, h.ne, fun l m => by
  have := h.lk l m
  omega, h.wo, fun e m => by
  have := h.er e m
  omega, by have := h.cp; omega, h.tn⟩
theorem sh_sky (S : Sky) : Sh 3 (skyD S) := sh_tuple fun d hd => by
  have s1 : Sh 2 (.list (S.looks.map lookT)) := sh_map fun x _ => sh_tuple fun d hd => by
    simp only [List.mem_cons, List.not_mem_nil, or_false] at hd
    rcases hd with rfl | rfl | rfl | rfl | rfl <;> exact sh_int
  have s2 : Sh 2 (.list (S.worths.map PyData.int)) := sh_map fun _ _ => sh_int
  have s3 : Sh 2 (.list (S.ears.map earT)) := sh_map fun x _ => sh_tuple fun d hd => by
    simp only [List.mem_cons, List.not_mem_nil, or_false] at hd
    rcases hd with rfl | rfl | rfl <;> exact sh_int
  simp only [List.mem_cons, List.not_mem_nil, or_false] at hd
  rcases hd with rfl | rfl | rfl | rfl | rfl
  · exact s1
  · exact s2
  · exact s3
  · exact sh_int
  · exact sh_int
theorem wr_look {x : Look} (h : x.1.natAbs < 10 ^ 20 ∧ x.2.1.natAbs < 10 ^ 20 ∧ x.2.2.1.natAbs < 10 ^ 20 ∧ x.2.2.2.1.natAbs < 10 ^ 20 ∧ x.2.2.2.2.natAbs < 10 ^ 20) : Wr (5 * (22 + 2) + 4) (lookT x) := by
  refine wr_tup (n := 22) (k := 5) (fun d hd => ?_) (Nat.le_refl 5)
  simp only [List.mem_cons, List.not_mem_nil, or_false] at hd
  rcases hd with rfl | rfl | rfl | rfl | rfl <;> exact wr_int (by omega)
theorem wr_ear {x : Ear} (h : x.1.natAbs < 10 ^ 20 ∧ x.2.1.natAbs < 10 ^ 20 ∧ x.2.2.natAbs < 10 ^ 20) : Wr (3 * (22 + 2) + 4) (earT x) := by
  refine wr_tup (n := 22) (k := 3) (fun d hd => ?_) (Nat.le_refl 3)
  simp only [List.mem_cons, List.not_mem_nil, or_false] at hd
  rcases hd with rfl | rfl | rfl <;> exact wr_int (by omega)
theorem wr_sky {S : Sky} (h : SkyOk S) : Wr 100000 (skyD S) := by
  have w1 : Wr 10000 (.list (S.looks.map lookT)) := (wr_map (k := 16) (fun x hx => wr_look (x := x) (by
    have := h.lk x hx
    have := h.nw
    omega)) h.nl).mono (by decide)
  have w2 : Wr 10000 (.list (S.worths.map PyData.int)) := (wr_map (k := 6) (n := 22) (fun x hx => by
    have := h.wo x hx
    exact wr_int (by omega)) h.nw.2).mono (by decide)
  have w3 : Wr 10000 (.list (S.ears.map earT)) := (wr_map (k := 4) (fun x hx => wr_ear (x := x) (by
    have := h.er x hx
    omega)) h.ne).mono (by decide)
  have c := h.cp
  have t := h.tn
  have z : Wr (5 * (10000 + 2) + 4) (skyD S) := by
    refine wr_tup (n := 10000) (k := 5) (fun d hd => ?_) (Nat.le_refl 5)
    simp only [List.mem_cons, List.not_mem_nil, or_false] at hd
    rcases hd with rfl | rfl | rfl | rfl | rfl
    · exact w1
    · exact w2
    · exact w3
    · exact (wr_int (by omega)).mono (by decide)
    · exact (wr_int (by omega)).mono (by decide)
  exact z.mono (by decide)
abbrev lookAt (S : Sky) (i : Nat) : Look := S.looks.getD i default
theorem L2mem {S : Sky} {i : Nat} (h : i < S.looks.length) : S.looks.getD i default ∈ S.looks := by
  rw [List.getD_eq_getElem?_getD, List.getElem?_eq_getElem h]
  exact List.getElem_mem h
theorem dE_lookAt {X : Cx} {a b : Expr} {env : List Sl} {S : Sky} {i : Nat} {z : Nat} {p0 p1 p2 : Pos} (ha : dR X a env (skyD S)) (hb : dE X b env (.fz (.int (i : Int)))) (h : i < S.looks.length) (hs : PlainIx b) : dE X (.Subscript (.Subscript a (.Constant (.int 0) z p0) p1) b p2) env (.fz (lookT (lookAt S i))) :=
  dE_ixM (xs := S.looks) (f := lookT) (i := (i : Int)) (dR_of (dE_ixT (ds := [.list (S.looks.map lookT), .list (S.worths.map PyData.int), .list (S.ears.map earT), .int S.cap, .int S.turn]) (d := .list (S.looks.map lookT)) ha dE_int rfl (fun _ _ => rfl))) hb (by omega) (by omega) hs
end Rg

namespace Rg
open PySem PySem.Spec PyProof.Rows L2 Dl
/-! ### a sky with all numbers that may be handed in -/
theorem one_of {a b : Int} {x : Int} : [a, b].getD (x % 2).toNat default = a ∨ [a, b].getD (x % 2).toNat default = b := by
  have c : x % 2 = 0 ∨ x % 2 = 1 := by omega
  rcases c with c | c <;> rw [c]
  · exact .inl rfl
  · exact .inr rfl
theorem one_of3 {a b c : Int} {x : Int} : [a, b, c].getD (x % 3).toNat default = a ∨ [a, b, c].getD (x % 3).toNat default = b ∨ [a, b, c].getD (x % 3).toNat default = c := by
  have d : x % 3 = 0 ∨ x % 3 = 1 ∨ x % 3 = 2 := by omega
  rcases d with d | d | d <;> rw [d]
  · exact .inl rfl
  · exact .inr (.inl rfl)
  · exact .inr (.inr rfl)
theorem nms_cons {X : Cx} {x : Str} {i : Nat} {ts : List Expr} {is : List Nat} {pos : Pos} (t : Nms X ts is) (hN : X.N.Nodup) (hi : X.N[i]? = some x := by rfl) (hx : Loc X.env.scope x := by first | exact Or.inl rfl | exact Or.inr rfl) (hf : X.fn x = true ∨ X.env.scope.names.lookup x = some .local := by first | exact Or.inl rfl | exact Or.inr rfl) (hs : (assignEach (.Name x pos :: ts) X.env).map (·.2) = assign (.Name x pos) X.env :: (assignEach ts X.env).map (·.2) := by rfl) : Nms X (.Name x pos :: ts) (i :: is) := .cons hN hi hx hf hs t
section
variable {P : Program} {w : World} {K : PySem.W.Frag} {mg : Str → Option Value} {base : Heap}
inductive RLawWide : List PyData → (Rs → Prop) → Prop
  | mk {L : List Int} (h : L.length = 110) : RLawWide [.list (L.map PyData.int)] (fun r => ∃ S, r.data = skyD S ∧ SkyOk S)
set_option maxHeartbeats 2000000 in
theorem okLawWide (T : Top K mg) : CalleeQ P w K mg base 1 "_law_wide" ["draws"] RLawWide := by
  refine calleeQ T.fLawWide scLawWide (fun _ _ _ _ _ _ us hl => match us, hl with | [_], _ => rfl) fun f cdv A outer s H E hr ds Φ hl hR => ?_
  cases hR with
  | @mk L hL =>
  have w0 := emod_in (x := L.getD 0 default) (n := 6) (by decide)
  refine s_multi [1, 2, 3, 4, 5] (dAo_cons (dE_add dE_int (dE_mod (dE_toint T.int (dE_ixJ 0 (dR_of (nm 0)) dE_int rfl (by omega) (fun _ _ => rfl))) dE_int (by decide))) (dAo_cons (dE_lst dA_nil (Nat.le_of_ble_eq_true rfl)) (dAo_cons (dE_lst dA_nil (Nat.le_of_ble_eq_true rfl)) (dAo_cons dE_int (dAo_cons dE_int dAo_nil))))) (nms_cons (nms_cons (nms_cons (nms_cons (nms_cons .nil scLawWide.nd) scLawWide.nd) scLawWide.nd) scLawWide.nd) scLawWide.nd) rfl (by show (5 : Nat) ≤ 1000; omega) ?_
  show dSs _ _ _ [.fz (.list (L.map PyData.int)), .fz (.int (1 + L.getD 0 default % 6)), .ow [], .ow [], .fz (.int 0), .fz (.int 0), .no, .no, .no]
  have c7 := emod_in (x := L.getD 7 default) (n := 5) (by decide)
  have c20 := emod_in (x := L.getD 20 default) (n := 17) (by decide)
  have c21 := emod_in (x := L.getD 21 default) (n := 30) (by decide)
  have c22 := emod_in (x := L.getD 22 default) (n := 90) (by decide)
  refine s_for (fun m env => ∃ (es : List Ear) (since : Int) (e6 e7 : Sl), (es.length ≤ m ∧ 0 ≤ since ∧ since ≤ 200 ∧ ∀ e ∈ es, 0 ≤ e.1 ∧ e.1 < e.2.1 ∧ e.2.1 ≤ 200 ∧ 1 ≤ e.2.2 ∧ e.2.2 ≤ 30) ∧ env = [.fz (.list (L.map PyData.int)), .fz (.int (1 + L.getD 0 default % 6)), .ow (es.map earT), .ow [], .fz (.int since), .fz (.int 0), e6, e7, .no]) (dIf_range1 T.range (dE_mod (dE_toint T.int (dE_ixJ 7 (dR_of (nm 0)) dE_int rfl (by omega) (fun _ _ => rfl))) dE_int (by decide)) (by omega) (by omega)) ?_ (fun m d env1 hd hI => ?_) (fun env1 hI => ?_)
  · exact ⟨[], 0, _, _, ⟨Nat.le_refl _, by omega, by omega, fun _ z => nomatch z⟩, rfl⟩
  · obtain ⟨es, since, e6, e7, ⟨i1, i2, i3, i4⟩, rfl⟩ := hI
    obtain ⟨hm, rfl⟩ := rangeD_get hd
    have hm : m < 5 := by omega
    rw [Int.zero_add]
    refine ⟨_, _, gn 6 scLawWide.nd, ?_⟩
    refine s_if (dT_cmp (dC_lt (nm 4) dE_int)) (fun h => ?_) (fun h => ?_)
    · have h : since < 200 := of_decide_eq_true h
      have o1 := one_of (a := 30) (b := 200) (x := L.getD 23 default)
      have o2 := one_of (a := 19) (b := 200) (x := L.getD 23 default / 2)
      have p1 : (0 : Int) < [(30 : Int), 200].getD (L.getD 23 default % 2).toNat default := by rcases o1 with z | z <;> rw [z] <;> decide
      have p2 : (0 : Int) < [(19 : Int), 200].getD (L.getD 23 default / 2 % 2).toNat default := by rcases o2 with z | z <;> rw [z] <;> decide
      have ix1 := emod_in (x := L.getD 23 default) (n := 2) (by decide)
      have ix2 := emod_in (x := L.getD 23 default / 2) (n := 2) (by decide)
      have m1 := emod_in (x := L.getD (8 + 3 * m) default) p1
      have m2 := emod_in (x := L.getD (9 + 3 * m) default) p2
      have m3 := emod_in (x := L.getD (10 + 3 * m) default) (n := 30) (by decide)
      refine s_set 7 (dE_min T.min rfl dE_int (dE_add (nm 4) (dE_mod (dE_toint T.int (dE_ixJ (8 + 3 * m) (dR_of (nm 0)) (dE_add dE_int (dE_mul dE_int (nm 6) (cmul_l (by decide) (by decide)))) (by omega) (by omega) (fun _ _ => rfl))) (dE_ixM (xs := [(30 : Int), 200]) (f := PyData.int) (dR_of (dE_lst (dA_cons dE_int (dA_cons dE_int dA_nil)) (Nat.le_of_ble_eq_true rfl))) (dE_mod (dE_toint T.int (dE_ixJ 23 (dR_of (nm 0)) dE_int rfl (by omega) (fun _ _ => rfl))) dE_int (by decide)) ix1.1 ix1.2 (fun _ _ => rfl)) p1))) ?_ scLawWide.nd
      generalize hfi : (if since + L.getD (8 + 3 * m) default % [(30 : Int), 200].getD (L.getD 23 default % 2).toNat default < 199 then since + L.getD (8 + 3 * m) default % [(30 : Int), 200].getD (L.getD 23 default % 2).toNat default else 199) = fi
      have f1 : 0 ≤ fi ∧ fi ≤ 199 := by
        rw [← hfi]
        split <;> omega
      refine s_set 4 (dE_min T.min rfl dE_int (dE_add (dE_add (nm 7) dE_int) (dE_mod (dE_toint T.int (dE_ixJ (9 + 3 * m) (dR_of (nm 0)) (dE_add dE_int (dE_mul dE_int (nm 6) (cmul_l (by decide) (by decide)))) (by omega) (by omega) (fun _ _ => rfl))) (dE_ixM (xs := [(19 : Int), 200]) (f := PyData.int) (dR_of (dE_lst (dA_cons dE_int (dA_cons dE_int dA_nil)) (Nat.le_of_ble_eq_true rfl))) (dE_mod (dE_toint T.int (dE_fdiv (dE_ixJ 23 (dR_of (nm 0)) dE_int rfl (by omega) (fun _ _ => rfl)) dE_int ⟨by decide, by decide⟩)) dE_int (by decide)) ix2.1 ix2.2 (fun _ _ => rfl)) p2))) ?_ scLawWide.nd
      generalize hsi : (if fi + 1 + L.getD (9 + 3 * m) default % [(19 : Int), 200].getD (L.getD 23 default / 2 % 2).toNat default < 200 then fi + 1 + L.getD (9 + 3 * m) default % [(19 : Int), 200].getD (L.getD 23 default / 2 % 2).toNat default else 200) = si
      have f2 : fi < si ∧ si ≤ 200 := by
        rw [← hsi]
        split <;> omega
      refine s_app 2 rfl (dE_tup (dA_cons (nm 7) (dA_cons (nm 4) (dA_cons (dE_add dE_int (dE_mod (dE_toint T.int (dE_ixJ (10 + 3 * m) (dR_of (nm 0)) (dE_add dE_int (dE_mul dE_int (nm 6) (cmul_l (by decide) (by decide)))) (by omega) (by omega) (fun _ _ => rfl))) dE_int (by decide))) dA_nil))) (Nat.le_of_ble_eq_true rfl)) (by rw [List.length_map]; omega) ?_
      refine s_end (s_end ⟨es ++ [(fi, si, 1 + L.getD (10 + 3 * m) default % 30)], si, _, _, ⟨?_, by omega, by omega, fun e he => ?_⟩, by rw [List.map_append] <;> rfl⟩)
      · rw [List.length_append]
        show es.length + 1 ≤ m + 1
        omega
      · rcases List.mem_append.mp he with he | he
        · exact i4 e he
        · rw [List.mem_singleton.mp he]
          show 0 ≤ fi ∧ fi < si ∧ si ≤ 200 ∧ 1 ≤ 1 + _ ∧ 1 + _ ≤ (30 : Int)
          omega
    · exact s_end (s_end ⟨es, since, _, _, ⟨by omega, i2, i3, i4⟩, rfl⟩)
  · obtain ⟨es, since, e6, e7, ⟨i1, i2, i3, i4⟩, rfl⟩ := hI
    rw [rangeD_len] at i1
    refine s_for (fun m env => ∃ (ls : List Look) (st : Int) (e6 e7 e8 : Sl), (ls.length = m ∧ 0 ≤ st ∧ st ≤ 200 ∧ ∀ l ∈ ls, (0 ≤ l.1 ∧ l.1 < 1 + L.getD 0 default % 6) ∧ (0 ≤ l.2.1 ∧ l.2.1 ≤ 200) ∧ (1 ≤ l.2.2.1 ∧ l.2.2.1 ≤ 20) ∧ (-90 ≤ l.2.2.2.1 ∧ l.2.2.2.1 ≤ 90) ∧ (1 ≤ l.2.2.2.2 ∧ l.2.2.2.2 ≤ 30)) ∧ env = [.fz (.list (L.map PyData.int)), .fz (.int (1 + L.getD 0 default % 6)), .ow (es.map earT), .ow (ls.map lookT), .fz (.int since), .fz (.int st), e6, e7, e8]) (dIf_range1 T.range (dE_mod (dE_toint T.int (dE_ixJ 20 (dR_of (nm 0)) dE_int rfl (by omega) (fun _ _ => rfl))) dE_int (by decide)) (by omega) (by omega)) ?_ (fun m d env1 hd hI => ?_) (fun env1 hI => ?_)
    · exact ⟨[], 0, _, _, _, ⟨rfl, by omega, by omega, fun _ z => nomatch z⟩, rfl⟩
    · obtain ⟨ls, st, e6, e7, e8, ⟨j1, j2, j3, j4⟩, rfl⟩ := hI
      obtain ⟨hm, rfl⟩ := rangeD_get hd
      have hm : m < 17 := by omega
      rw [Int.zero_add]
      have o1 := one_of3 (a := 25) (b := 25) (c := 201) (x := L.getD 24 default)
      have p1 : (0 : Int) < [(25 : Int), 25, 201].getD (L.getD 24 default % 3).toNat default := by rcases o1 with z | z | z <;> rw [z] <;> decide
      have ix1 := emod_in (x := L.getD 24 default) (n := 3) (by decide)
      have m1 := emod_in (x := L.getD (25 + 5 * m) default) p1
      have m2 := emod_in (x := L.getD (26 + 5 * m) default) (n := 1 + L.getD 0 default % 6) (by omega)
      have m3 := emod_in (x := L.getD (27 + 5 * m) default) (n := 20) (by decide)
      have m4 := emod_in (x := L.getD (28 + 5 * m) default) (n := 181) (by decide)
      have m5 := emod_in (x := L.getD (29 + 5 * m) default) (n := 30) (by decide)
      refine ⟨_, _, gn 6 scLawWide.nd, ?_⟩
      refine s_set 5 (dE_min T.min rfl dE_int (dE_add (nm 5) (dE_mod (dE_toint T.int (dE_ixJ (25 + 5 * m) (dR_of (nm 0)) (dE_add dE_int (dE_mul dE_int (nm 6) (cmul_l (by decide) (by decide)))) (by omega) (by omega) (fun _ _ => rfl))) (dE_ixM (xs := [(25 : Int), 25, 201]) (f := PyData.int) (dR_of (dE_lst (dA_cons dE_int (dA_cons dE_int (dA_cons dE_int dA_nil))) (Nat.le_of_ble_eq_true rfl))) (dE_mod (dE_toint T.int (dE_ixJ 24 (dR_of (nm 0)) dE_int rfl (by omega) (fun _ _ => rfl))) dE_int (by decide)) ix1.1 ix1.2 (fun _ _ => rfl)) p1))) ?_ scLawWide.nd
      generalize hst : (if st + L.getD (25 + 5 * m) default % [(25 : Int), 25, 201].getD (L.getD 24 default % 3).toNat default < 200 then st + L.getD (25 + 5 * m) default % [(25 : Int), 25, 201].getD (L.getD 24 default % 3).toNat default else 200) = st2
      have f1 : 0 ≤ st2 ∧ st2 ≤ 200 := by
        rw [← hst]
        split <;> omega
      refine s_set 8 (dE_sub (dE_mod (dE_toint T.int (dE_ixJ (28 + 5 * m) (dR_of (nm 0)) (dE_add dE_int (dE_mul dE_int (nm 6) (cmul_l (by decide) (by decide)))) (by omega) (by omega) (fun _ _ => rfl))) dE_int (by decide)) dE_int) ?_ scLawWide.nd
      refine s_app 3 rfl (dE_tup (dA_cons (dE_mod (dE_toint T.int (dE_ixJ (26 + 5 * m) (dR_of (nm 0)) (dE_add dE_int (dE_mul dE_int (nm 6) (cmul_l (by decide) (by decide)))) (by omega) (by omega) (fun _ _ => rfl))) (nm 1) (by omega)) (dA_cons (nm 5) (dA_cons (dE_add dE_int (dE_mod (dE_toint T.int (dE_ixJ (27 + 5 * m) (dR_of (nm 0)) (dE_add dE_int (dE_mul dE_int (nm 6) (cmul_l (by decide) (by decide)))) (by omega) (by omega) (fun _ _ => rfl))) dE_int (by decide))) (dA_cons (nm 8) (dA_cons (dE_add dE_int (dE_mod (dE_toint T.int (dE_ixJ (29 + 5 * m) (dR_of (nm 0)) (dE_add dE_int (dE_mul dE_int (nm 6) (cmul_l (by decide) (by decide)))) (by omega) (by omega) (fun _ _ => rfl))) dE_int (by decide))) dA_nil))))) (Nat.le_of_ble_eq_true rfl)) (by rw [List.length_map]; omega) ?_
      refine s_end ⟨ls ++ [(L.getD (26 + 5 * m) default % (1 + L.getD 0 default % 6), st2, 1 + L.getD (27 + 5 * m) default % 20, L.getD (28 + 5 * m) default % 181 - 90, 1 + L.getD (29 + 5 * m) default % 30)], st2, _, _, _, ⟨?_, by omega, by omega, fun l hl => ?_⟩, by rw [List.map_append] <;> rfl⟩
      · rw [List.length_append, j1]
        rfl
      · rcases List.mem_append.mp hl with hl | hl
        · exact j4 l hl
        · rw [List.mem_singleton.mp hl]
          show (0 ≤ L.getD (26 + 5 * m) default % (1 + L.getD 0 default % 6) ∧ L.getD (26 + 5 * m) default % (1 + L.getD 0 default % 6) < _) ∧ (0 ≤ st2 ∧ st2 ≤ 200) ∧ (1 ≤ 1 + _ ∧ 1 + _ ≤ (20 : Int)) ∧ ((-90 : Int) ≤ _ - 90 ∧ _ - 90 ≤ (90 : Int)) ∧ 1 ≤ 1 + _ ∧ 1 + _ ≤ (30 : Int)
          omega
    · obtain ⟨ls, st, e6, e7, e8, ⟨j1, j2, j3, j4⟩, rfl⟩ := hI
      rw [rangeD_len] at j1
      refine s_frz 2 (s_frz 3 ?_)
      refine s_ret (dE_tup (dA_cons (nm 3) (dA_cons (lc0 (xs := List.range (1 + L.getD 0 default % 6).toNat) (g := fun k : Nat => .int (0 + (k : Int))) (h := fun k : Nat => Rs.fz (.int (L.getD (1 + k) default % 100))) [("k", 6)] (dIf_of (dIf_range1 T.range (nm 1) (by omega) (by omega))) (by rw [List.length_range]; omega) (fun k hk => ⟨_, _, (by decide), fun _ _ _ _ _ => ⟨gn 6 scLawWide.nd, dTs_nil, fun _ => (dE_mod (dE_toint T.int (dE_ixJ (1 + k) (dR_of (nm 0)) (dE_add dE_int (nm 6)) (by omega) (by
        have := List.mem_range.mp hk
        omega) (fun _ _ => rfl))) dE_int (by decide))⟩⟩) scLawWide.nd (ok := blkOk_by (N := nLawWide) (sc := defScope sLawWide) (by decide +kernel))) (dA_cons (nm 2) (dA_cons (dE_add dE_int (dE_mod (dE_toint T.int (dE_ixJ 21 (dR_of (nm 0)) dE_int rfl (by omega) (fun _ _ => rfl))) dE_int (by decide))) (dA_cons (dE_add dE_int (dE_mod (dE_toint T.int (dE_ixJ 22 (dR_of (nm 0)) dE_int rfl (by omega) (fun _ _ => rfl))) dE_int (by decide))) dA_nil))))) (Nat.le_of_ble_eq_true rfl)) ?_
      refine ⟨⟨ls, (List.range (1 + L.getD 0 default % 6).toNat).map fun k => L.getD (1 + k) default % 100, es, 1 + L.getD 21 default % 30, 1 + L.getD 22 default % 90⟩, ?_, ?_, ?_, ?_, ?_, ?_, ?_, ?_, ?_⟩
      · show PyData.tuple [_, .list _, _, _, _] = .tuple [_, .list (((List.range (1 + L.getD 0 default % 6).toNat).map _).map PyData.int), _, _, _]
        rw [List.map_map]
        rfl
      · show ls.length ≤ 16
        omega
      · show 1 ≤ ((List.range _).map _).length ∧ ((List.range _).map _).length ≤ 6
        rw [List.length_map, List.length_range]
        omega
      · show es.length ≤ 4
        omega
      · intro l hl
        have := j4 l hl
        show (0 ≤ l.1 ∧ l.1 < (((List.range _).map _).length : Int)) ∧ _
        rw [List.length_map, List.length_range]
        omega
      · intro x hx
        obtain ⟨k, _, rfl⟩ := List.mem_map.mp hx
        have := emod_in (x := L.getD (1 + k) default) (n := 100) (by decide)
        omega
      · exact i4
      · show 1 ≤ 1 + _ ∧ 1 + _ ≤ (30 : Int)
        omega
      · show 1 ≤ 1 + _ ∧ 1 + _ ≤ (90 : Int)
        omega
end
end Rg

namespace Rg
open PySem PySem.Spec PyProof.Rows L2 Dl
/-! ### lines of texts -/
abbrev numT (i : Int) : Str := (toString i : Str)
theorem num_len {i : Int} (h : i.natAbs < 10 ^ 20) : (numT i).length ≤ 22 := (wr_int h).len
theorem num_log {i : Int} (h : i.natAbs < 10 ^ 20) : i.natAbs.log2 < 1920 := by
  by_cases c : i.natAbs = 0
  · rw [c]
    decide
  · exact (Nat.log2_lt c).mpr (Nat.lt_trans h (Nat.lt_of_lt_of_le (by decide : 10 ^ 20 < 2 ^ 70) (Nat.pow_le_pow_right (by decide) (by decide))))
/-- look N from S to E turn T store L -/
def lookL (n s e t l : Int) : Str := [Str.ofString "look ", numT n, Str.ofString " from ", numT s, Str.ofString " to ", numT e, Str.ofString " turn ", numT t, Str.ofString " store ", numT l, Str.ofString "\n"].foldl (· ++ ·) Str.empty
def wordsL (n s e t l : Int) : List Str := [Str.ofString "look", numT n, Str.ofString "from", numT s, Str.ofString "to", numT e, Str.ofString "turn", numT t, Str.ofString "store", numT l]
theorem str_ext {x y : Str} (h : TL.tl x = TL.tl y) : x = y := by
  cases x with
  | mk a =>
    cases y with
    | mk b =>
      have h : a.toList = b.toList := h
      exact congrArg Str.mk (Array.toList_inj.mp h)
theorem line_eq (n s e t l : Int) : lookL n s e t l = Txt.join (Str.ofString " ") (wordsL n s e t l) ++ Str.ofString "\n" := by
  have e1 : Str.ofString "look " = Str.ofString "look" ++ Str.ofString " " := by decide +kernel
  have e2 : Str.ofString " from " = Str.ofString " " ++ Str.ofString "from" ++ Str.ofString " " := by decide +kernel
  have e3 : Str.ofString " to " = Str.ofString " " ++ Str.ofString "to" ++ Str.ofString " " := by decide +kernel
  have e4 : Str.ofString " turn " = Str.ofString " " ++ Str.ofString "turn" ++ Str.ofString " " := by decide +kernel
  have e5 : Str.ofString " store " = Str.ofString " " ++ Str.ofString "store" ++ Str.ofString " " := by decide +kernel
  refine str_ext ?_
  rw [TL.join_eq]
  unfold lookL wordsL
  rw [e1, e2, e3, e4, e5]
  simp only [List.foldl_cons, List.foldl_nil, Str.join, TL.tl_append, List.append_assoc]
  rfl
def worthL (w : Int) : Str := Str.ofString "worth" ++ Txt.join Str.empty [Str.ofString " " ++ numT w] ++ Str.ofString "\n"
theorem sum_le {B : Nat} : ∀ ys : List Str, (∀ y ∈ ys, y.length ≤ B) → (ys.map Str.length).sum ≤ ys.length * B
  | [], _ => by simp
  | y :: ys, h => by
    have i := sum_le ys fun z hz => h z (.tail _ hz)
    have z := h y (.head _)
    rw [List.map_cons, List.sum_cons, List.length_cons, Nat.succ_mul]
    omega
theorem fold_len : ∀ (ys : List Str) (acc : Str), (ys.foldl (· ++ ·) acc).length = acc.length + (ys.map Str.length).sum
  | [], _ => by simp
  | y :: ys, acc => by
    rw [List.foldl_cons, fold_len ys, len_app, List.map_cons, List.sum_cons]
    omega
abbrev Sm (i : Int) : Prop := i.natAbs < 10 ^ 20
def partsL (n s e t l : Int) : List Str := [Str.ofString "look ", numT n, Str.ofString " from ", numT s, Str.ofString " to ", numT e, Str.ofString " turn ", numT t, Str.ofString " store ", numT l, Str.ofString "\n"]
theorem parts_len {n s e t l : Int} (h1 : Sm n) (h2 : Sm s) (h3 : Sm e) (h4 : Sm t) (h5 : Sm l) : ∀ y ∈ partsL n s e t l, y.length ≤ 22 := fun y hy => by
  unfold partsL at hy
  simp only [List.mem_cons, List.not_mem_nil, or_false] at hy
  rcases hy with rfl | rfl | rfl | rfl | rfl | rfl | rfl | rfl | rfl | rfl | rfl <;> first | exact num_len ‹_› | decide +kernel
theorem words_len {n s e t l : Int} (h1 : Sm n) (h2 : Sm s) (h3 : Sm e) (h4 : Sm t) (h5 : Sm l) : ∀ y ∈ wordsL n s e t l, y.length ≤ 22 := fun y hy => by
  unfold wordsL at hy
  simp only [List.mem_cons, List.not_mem_nil, or_false] at hy
  rcases hy with rfl | rfl | rfl | rfl | rfl | rfl | rfl | rfl | rfl | rfl <;> first | exact num_len ‹_› | decide +kernel
theorem line_len {n s e t l : Int} (h1 : Sm n) (h2 : Sm s) (h3 : Sm e) (h4 : Sm t) (h5 : Sm l) : (lookL n s e t l).length ≤ 300 := by
  have z := sum_le _ (parts_len h1 h2 h3 h4 h5)
  show ((partsL n s e t l).foldl (· ++ ·) Str.empty).length ≤ 300
  rw [fold_len, show Str.empty.length = 0 from rfl]
  have : (partsL n s e t l).length = 11 := rfl
  omega
abbrev mtT : Str := Str.ofString ""
def numL1 (w : Int) : Str := [Str.ofString " ", numT w].foldl (· ++ ·) Str.empty
def rowT (h : Str) (xs : List Int) : Str := h ++ Txt.join mtT (xs.map numL1) ++ Str.ofString "\n"
theorem num1_len {w : Int} (h : Sm w) : (numL1 w).length ≤ 23 := by
  have z := num_len h
  unfold numL1
  rw [fold_len]
  show 0 + ((Str.ofString " ").length + ((numT w).length + 0)) ≤ 23
  have : (Str.ofString " ").length = 1 := by decide +kernel
  omega
theorem join_mt : ∀ ys : List Str, (Txt.join mtT ys).length = (ys.map Str.length).sum := fun ys => by
  rw [TL.join_eq]
  induction ys with
  | nil => rfl
  | cons y ys ih =>
    cases ys with
    | nil =>
      show y.length = y.length + 0
      omega
    | cons z r =>
      show (y ++ mtT ++ Str.join mtT (z :: r)).length = _
      rw [len_app, len_app, ih, List.map_cons, List.map_cons, List.sum_cons]
      show y.length + mtT.length + _ = _
      have : mtT.length = 0 := by decide +kernel
      rw [this]
      rfl
theorem row_len {h : Str} {xs : List Int} (hh : h.length ≤ 100) (hx : ∀ x ∈ xs, Sm x) (hn : xs.length ≤ 1000) : (Txt.join mtT (xs.map numL1)).length ≤ 23000 ∧ (rowT h xs).length ≤ 23200 := by
  have z := sum_le (B := 23) (xs.map numL1) fun y hy => by
    obtain ⟨x, hm, rfl⟩ := List.mem_map.mp hy
    exact num1_len (hx x hm)
  rw [List.length_map] at z
  have j := join_mt (xs.map numL1)
  unfold rowT
  rw [len_app, len_app]
  have : (Str.ofString "\n").length = 1 := by decide +kernel
  omega
theorem worth_eq (w : Int) : rowT (Str.ofString "worth") [w] = Txt.join (Str.ofString " ") [Str.ofString "worth", numT w] ++ Str.ofString "\n" := by
  refine str_ext ?_
  unfold rowT numL1
  rw [TL.join_eq, TL.join_eq]
  simp only [List.map_cons, List.map_nil, List.foldl_cons, List.foldl_nil, Str.join, TL.tl_append, List.append_assoc]
  rfl
/-! ### the text of a sky -/
theorem row_words (h : Str) (xs : List Int) : rowT h xs = Txt.join (Str.ofString " ") (h :: xs.map numT) ++ Str.ofString "\n" := by
  refine str_ext ?_
  have e1 : TL.tl (Str.ofString "") = [] := by decide +kernel
  unfold rowT
  rw [TL.join_eq, TL.join_eq]
  have z : ∀ (h : Str) (xs : List Int), TL.tl (h ++ Str.join mtT (xs.map numL1)) = TL.tl (Str.join (Str.ofString " ") (h :: xs.map numT)) := by
    intro h xs
    induction xs generalizing h with
    | nil =>
      show TL.tl (h ++ Str.join mtT []) = TL.tl h
      rw [TL.tl_append]
      show TL.tl h ++ [] = _
      rw [List.append_nil]
    | cons x xs ih =>
      have e3 : TL.tl (Str.join mtT ((x :: xs).map numL1)) = TL.tl (Str.ofString " ") ++ TL.tl (numT x ++ Str.join mtT (xs.map numL1)) := by
        have e5 : TL.tl (numL1 x) = TL.tl (Str.ofString " ") ++ TL.tl (numT x) := by
          unfold numL1
          simp only [List.foldl_cons, List.foldl_nil, TL.tl_append]
          rfl
        cases xs with
        | nil =>
          show TL.tl (numL1 x) = _
          rw [e5, TL.tl_append]
          show _ = TL.tl (Str.ofString " ") ++ (TL.tl (numT x) ++ [])
          rw [List.append_nil]
        | cons y ys =>
          show TL.tl (numL1 x ++ mtT ++ Str.join mtT ((y :: ys).map numL1)) = _
          rw [TL.tl_append, TL.tl_append, e5, e1, List.append_nil, TL.tl_append, List.append_assoc]
      rw [TL.tl_append, e3, ih (numT x)]
      show _ = TL.tl (h ++ Str.ofString " " ++ Str.join (Str.ofString " ") (numT x :: xs.map numT))
      rw [TL.tl_append, TL.tl_append, List.append_assoc]
  rw [TL.tl_append, z, TL.tl_append]
abbrev TRow := Str × List Int
def earI (e : Ear) : List Int := [e.1, e.2.1, e.2.2]
def lookI (l : Look) : List Int := [l.1, l.2.1, l.2.2.1, l.2.2.2.1, l.2.2.2.2]
def worthR (S : Sky) : List TRow := S.worths.map fun w => (Str.ofString "wish", [w])
def earR (S : Sky) : List TRow := S.ears.map fun e => (Str.ofString "ear", earI e)
def lookR (S : Sky) : List TRow := S.looks.map fun l => (Str.ofString "look", lookI l)
def headR (S : Sky) : List TRow := [(Str.ofString "turn", [S.turn]), (Str.ofString "store", [S.cap])]
def skyR (S : Sky) : List TRow := headR S ++ worthR S ++ earR S ++ lookR S
abbrev rowS (p : TRow) : Str := rowT p.1 p.2
def skyT (S : Sky) : Str := Txt.join mtT ((skyR S).map rowS)
abbrev wordR (p : TRow) : List Str := p.1 :: p.2.map numT
abbrev strsD (ws : List Str) : PyData := .list (ws.map PyData.str)
structure RowIn (p : TRow) : Prop where
  h : p.1.length ≤ 10
  x : ∀ x ∈ p.2, Sm x
  n : p.2.length ≤ 5
theorem row_in {S : Sky} (hS : SkyOk S) : (∀ p ∈ skyR S, RowIn p) ∧ (skyR S).length ≤ 28 := by
  have nw := hS.nw
  have nl := hS.nl
  have ne := hS.ne
  have cp := hS.cp
  have tn := hS.tn
  refine ⟨fun p hp => ?_, ?_⟩
  · rcases List.mem_append.mp hp with hp | hp
    · rcases List.mem_append.mp hp with hp | hp
      · rcases List.mem_append.mp hp with hp | hp
        · simp only [headR, List.mem_cons, List.not_mem_nil, or_false] at hp
          rcases hp with rfl | rfl
          · exact ⟨(by decide +kernel : (Str.ofString "turn").length ≤ 10), fun x hx => by
              rw [List.mem_singleton.mp hx]
              unfold Sm
              omega, by show (1 : Nat) ≤ 5; decide⟩
          · exact ⟨(by decide +kernel : (Str.ofString "store").length ≤ 10), fun x hx => by
              rw [List.mem_singleton.mp hx]
              unfold Sm
              omega, by show (1 : Nat) ≤ 5; decide⟩
        · obtain ⟨w, hw, rfl⟩ := List.mem_map.mp hp
          have := hS.wo w hw
          exact ⟨(by decide +kernel : (Str.ofString "wish").length ≤ 10), fun x hx => by
              rw [List.mem_singleton.mp hx]
              unfold Sm
              omega, by show (1 : Nat) ≤ 5; decide⟩
      · obtain ⟨e, he, rfl⟩ := List.mem_map.mp hp
        have := hS.er e he
        refine ⟨(by decide +kernel : (Str.ofString "ear").length ≤ 10), fun x hx => ?_, by show (3 : Nat) ≤ 5; decide⟩
        simp only [earI, List.mem_cons, List.not_mem_nil, or_false] at hx
        unfold Sm
        omega
    · obtain ⟨e, he, rfl⟩ := List.mem_map.mp hp
      have := hS.lk e he
      refine ⟨(by decide +kernel : (Str.ofString "look").length ≤ 10), fun x hx => ?_, by show (5 : Nat) ≤ 5; decide⟩
      simp only [lookI, List.mem_cons, List.not_mem_nil, or_false] at hx
      unfold Sm
      omega
  · unfold skyR worthR earR lookR headR
    simp only [List.length_append, List.length_map, List.length_cons, List.length_nil]
    omega
theorem RowIn.le {p : TRow} (h : RowIn p) : (rowS p).length ≤ 23200 := (row_len (by have := h.h; omega) h.x (by have := h.n; omega)).2
theorem sky_len {S : Sky} (hS : SkyOk S) : (((skyR S).map rowS).map Str.length).sum ≤ 1000000 := by
  have z := sum_le (B := 23200) ((skyR S).map rowS) fun y hy => by
    obtain ⟨p, hp, rfl⟩ := List.mem_map.mp hy
    exact ((row_in hS).1 p hp).le
  have := (row_in hS).2
  rw [List.length_map] at z
  omega
section
variable {P : Program} {w : World} {K : PySem.W.Frag} {mg : Str → Option Value} {base : Heap}
inductive RLineWith : List PyData → Rs → Prop
  | mk {h : Str} {xs : List Int} (hh : h.length ≤ 100) (hx : ∀ x ∈ xs, Sm x) (hn : xs.length ≤ 1000) : RLineWith [.str h, .list (xs.map PyData.int)] (.fz (.str (rowT h xs)))
  | mkT {h : Str} {xs : List Int} (hh : h.length ≤ 100) (hx : ∀ x ∈ xs, Sm x) (hn : xs.length ≤ 1000) : RLineWith [.str h, .tuple (xs.map PyData.int)] (.fz (.str (rowT h xs)))
theorem okLineWith (T : Top K mg) : Callee P w K mg base 1 "line_with" ["head", "numbers"] RLineWith := by
  refine callee T.fLineWith scLineWith (fun _ _ _ _ _ _ us hl => match us, hl with | [_, _], _ => rfl) fun f cdv A outer s H E hr ds r hl hR => ?_
  have main : ∀ (h : Str) (xs : List Int) (d : PyData), h.length ≤ 100 → (∀ x ∈ xs, Sm x) → xs.length ≤ 1000 → (∀ p, dI (cxD P w K mg base nLineWith "line_with" (defScope sLineWith) f cdv A outer s H E) (.Name "number" p) (match (defBody sLineWith).getD 0 (.Pass ⟨0, 0, 0, 0⟩) with | .Return (some (.BinOp (.BinOp _ _ (.Call _ [.ListComp _ [⟨_, i, _, _⟩] _ _] _ _) _) _ _ _)) _ => i | _ => .Name "" p) [.fz (.str h), .fz d, .no] (xs.map PyData.int)) → dSs (cxD P w K mg base nLineWith "line_with" (defScope sLineWith) f cdv A outer s H E) (defBody sLineWith) { nx := fun _ => Rs.fz (.str (rowT h xs)) = .fz .none, rt := fun r' _ => r'.le (.fz (.str (rowT h xs))) } [.fz (.str h), .fz d, .no] := fun h xs d hh hx hn hit => by
    have rl := row_len hh hx hn
    have jl := join_mt (xs.map numL1)
    have e1 : (Str.ofString "\n").length = 1 := by decide +kernel
    have e0 : (Str.ofString " ").length = 1 := by decide +kernel
    have zz : (Str.ofString "").length = 0 := by decide +kernel
    refine s_ret (dE_addS (dE_addS (nm 0) (dE_join dE_str (ys := xs.map numL1) ((dR_of (lc0 (xs := xs) (g := PyData.int) (h := fun x => Rs.fz (.str (numL1 x))) [("number", 2)] (hit _) (by omega) (fun x hm => ⟨_, _, (by decide), fun _ _ _ _ _ => ⟨gn 2 scLineWith.nd, dTs_nil, fun _ => dE_fstr (ys := [Str.ofString " ", numT x]) (dJ_con (dJ_int (nm 2) (num_log (hx x hm)) dJ_nil)) (by
      have := num_len (hx x hm)
      show (Str.ofString " ").length + ((numT x).length + 0) ≤ _
      omega)⟩⟩) scLineWith.nd (ok := blkOk_by (N := nLineWith) (sc := defScope sLineWith) (by decide +kernel)))).is (congrArg PyData.list (by rw [List.map_map]; rfl))) (by
      show _ + _ * (Str.ofString "").length ≤ _
      rw [zz, Nat.mul_zero, ← jl]
      omega)) (by
      show h.length + (Txt.join mtT (xs.map numL1)).length ≤ _
      omega)) dE_str (by
      rw [len_app]
      show h.length + (Txt.join mtT (xs.map numL1)).length + (Str.ofString "\n").length ≤ _
      omega)) (.inl rfl)
  cases hR with
  | @mk h xs hh hx hn => exact main h xs _ hh hx hn fun p => dI_list (dR_of (nm 1))
  | @mkT h xs hh hx hn => exact main h xs _ hh hx hn fun p => dI_tup (dR_of (nm 1))
inductive RWriteSky : List PyData → Rs → Prop
  | mk {S : Sky} (hS : SkyOk S) : RWriteSky [skyD S] (.fz (.str (skyT S)))
theorem okWriteSky (T : Top K mg) : Callee P w K mg base 2 "write_sky" ["sky"] RWriteSky := by
  refine callee T.fWriteSky scWriteSky (fun _ _ _ _ _ _ us hl => match us, hl with | [_], _ => rfl) fun f cdv A outer s H E hr ds r hl hR => ?_
  cases hR with
  | @mk S hS =>
  have nw := hS.nw
  have nl := hS.nl
  have ne := hS.ne
  have inn : ∀ p ∈ skyR S, (p.1.length ≤ 100 ∧ p.2.length ≤ 1000) ∧ ∀ x ∈ p.2, Sm x := fun p hp => by
    have z := (row_in hS).1 p hp
    have := z.h
    have := z.n
    exact ⟨by omega, z.x⟩
  have iw : ∀ p ∈ worthR S, p ∈ skyR S := fun p hp => List.mem_append_left _ (List.mem_append_left _ (List.mem_append_right _ hp))
  have ie : ∀ p ∈ earR S, p ∈ skyR S := fun p hp => List.mem_append_left _ (List.mem_append_right _ hp)
  have il : ∀ p ∈ lookR S, p ∈ skyR S := fun p hp => List.mem_append_right _ hp
  have ih : ∀ p ∈ headR S, p ∈ skyR S := fun p hp => List.mem_append_left _ (List.mem_append_left _ (List.mem_append_left _ hp))
  have t1 := inn _ (ih (Str.ofString "turn", [S.turn]) (.head _))
  have t2 := inn _ (ih (Str.ofString "store", [S.cap]) (.tail _ (.head _)))
  refine s_tgt (nm 0) (dG_tup rfl (dGs_cons (gn 1 scWriteSky.nd) (dGs_cons (gn 2 scWriteSky.nd) (dGs_cons (gn 3 scWriteSky.nd) (dGs_cons (gn 4 scWriteSky.nd) (dGs_cons (gn 5 scWriteSky.nd) dGs_nil)))))) ?_
  refine s_seto 6 ((dE_lst (dA_cons (dE_call (okLineWith T) (hr.mono (by decide)) (dA_cons dE_str (dA_cons ((dE_lst (dA_cons (nm 5) dA_nil) (Nat.le_of_ble_eq_true rfl)).is (show _ = Rs.fr ([S.turn].map PyData.int) from rfl)) dA_nil)) (.mk t1.1.1 t1.2 t1.1.2) rfl) (dA_cons (dE_call (okLineWith T) (hr.mono (by decide)) (dA_cons dE_str (dA_cons ((dE_lst (dA_cons (nm 4) dA_nil) (Nat.le_of_ble_eq_true rfl)).is (show _ = Rs.fr ([S.cap].map PyData.int) from rfl)) dA_nil)) (.mk t2.1.1 t2.2 t2.1.2) rfl) dA_nil)) (Nat.le_of_ble_eq_true rfl)).is (show _ = Rs.fr (((headR S).map rowS).map PyData.str) from rfl)) ?_ scWriteSky.nd
  refine s_ext 6 rfl (dR_of (lc0 (xs := S.worths) (g := PyData.int) (h := fun x => Rs.fz (.str (rowT (Str.ofString "wish") [x]))) [("worth", 7)] (dI_list (dR_of (nm 2))) (by omega) (fun x hm => ⟨_, _, (by decide), fun _ _ _ _ _ => ⟨gn 7 scWriteSky.nd, dTs_nil, fun _ => by
    have t := inn _ (iw _ (List.mem_map.mpr ⟨x, hm, rfl⟩))
    exact dE_call (okLineWith T) (hr.mono (by decide)) (dA_cons dE_str (dA_cons ((dE_lst (dA_cons (nm 7) dA_nil) (Nat.le_of_ble_eq_true rfl)).is (show _ = Rs.fr ([x].map PyData.int) from rfl)) dA_nil)) (.mk t.1.1 t.2 t.1.2) rfl⟩⟩) scWriteSky.nd (ok := blkOk_by (N := nWriteSky) (sc := defScope sWriteSky) (by decide +kernel)))) (by
    simp only [headR, List.length_map, List.length_cons, List.length_nil]
    omega) ?_
  refine s_ext 6 rfl (dR_of (lc0 (xs := S.ears) (g := earT) (h := fun x => Rs.fz (.str (rowT (Str.ofString "ear") (earI x)))) [("ear", 8)] (dI_list (dR_of (nm 3))) (by omega) (fun x hm => ⟨_, _, (by decide), fun _ _ _ _ _ => ⟨gn 8 scWriteSky.nd, dTs_nil, fun _ => by
    have t := inn _ (ie _ (List.mem_map.mpr ⟨x, hm, rfl⟩))
    exact dE_call (okLineWith T) (hr.mono (by decide)) (dA_cons dE_str (dA_cons ((nm 8).is (show _ = Rs.fz (.tuple ((earI x).map PyData.int)) from rfl)) dA_nil)) (.mkT t.1.1 t.2 t.1.2) rfl⟩⟩) scWriteSky.nd (ok := blkOk_by (N := nWriteSky) (sc := defScope sWriteSky) (by decide +kernel)))) (by
    simp only [headR, List.length_map, List.length_cons, List.length_nil, List.length_append]
    omega) ?_
  refine s_ext 6 rfl (dR_of (lc0 (xs := S.looks) (g := lookT) (h := fun x => Rs.fz (.str (rowT (Str.ofString "look") (lookI x)))) [("look", 9)] (dI_list (dR_of (nm 1))) (by omega) (fun x hm => ⟨_, _, (by decide), fun _ _ _ _ _ => ⟨gn 9 scWriteSky.nd, dTs_nil, fun _ => by
    have t := inn _ (il _ (List.mem_map.mpr ⟨x, hm, rfl⟩))
    exact dE_call (okLineWith T) (hr.mono (by decide)) (dA_cons dE_str (dA_cons ((nm 9).is (show _ = Rs.fz (.tuple ((lookI x).map PyData.int)) from rfl)) dA_nil)) (.mkT t.1.1 t.2 t.1.2) rfl⟩⟩) scWriteSky.nd (ok := blkOk_by (N := nWriteSky) (sc := defScope sWriteSky) (by decide +kernel)))) (by
    simp only [headR, List.length_map, List.length_cons, List.length_nil, List.length_append]
    omega) ?_
  have rl := sky_len hS
  have zz : (Str.ofString "").length = 0 := by decide +kernel
  refine s_ret (dE_join dE_str (ys := (skyR S).map rowS) ((ow 6).is (congrArg PyData.list (by
    unfold skyR worthR earR lookR
    simp only [List.map_append, List.map_map]
    rfl))) (by
    rw [zz, Nat.mul_zero]
    exact Nat.le_trans (Nat.le_of_eq (Nat.add_zero _)) (Nat.le_trans rl (by decide)))) (.inl rfl)
end
end Rg

namespace Rg
open PySem PySem.Spec PyProof.Rows L2 Dl
/-! ### the words of a sky's text -/
abbrev Grp := Str × List (List Int)
def grpsM (S : Sky) : List Grp := [(Str.ofString "wish", S.worths.map fun w => [w]), (Str.ofString "ear", S.ears.map earI), (Str.ofString "look", S.looks.map lookI)]
abbrev tupR (r : List Int) : PyData := .tuple (r.map PyData.int)
def grpD (g : Grp) : PyData := .tuple [.str g.1, .list (g.2.map tupR)]
def grpR (g : Grp) : List TRow := g.2.map fun r => (g.1, r)
def uptoR (S : Sky) (m : Nat) : List TRow := headR S ++ ((grpsM S).take m).flatMap grpR
theorem upto_all (S : Sky) : uptoR S 3 = skyR S := by
  unfold uptoR grpsM skyR worthR earR lookR
  simp only [List.take_succ_cons, List.take_zero, List.flatMap_cons, List.flatMap_nil, grpR, List.map_map, List.append_nil, List.append_assoc]
  rfl
theorem upto_step {S : Sky} {m : Nat} (h : m < (grpsM S).length) : uptoR S (m + 1) = uptoR S m ++ grpR (grpsM S)[m] := by
  unfold uptoR
  rw [List.take_add_one, List.getElem?_eq_getElem h, List.flatMap_append, List.append_assoc]
  simp only [Option.toList_some, List.flatMap_cons, List.flatMap_nil, List.append_nil]
theorem upto_in {S : Sky} : ∀ m, m ≤ 3 → ∀ p ∈ uptoR S m, p ∈ skyR S := fun m hm p hp => by
  rw [← upto_all]
  unfold uptoR at hp ⊢
  rcases List.mem_append.mp hp with hp | hp
  · exact List.mem_append_left _ hp
  · obtain ⟨g, hg, hp⟩ := List.mem_flatMap.mp hp
    exact List.mem_append_right _ (List.mem_flatMap.mpr ⟨g, (List.take_subset_take_left _ hm) hg, hp⟩)
theorem upto_len {S : Sky} (hS : SkyOk S) : ∀ m, m ≤ 3 → (uptoR S m).length ≤ 28 := fun m hm => by
  have z := (row_in hS).2
  rw [← upto_all] at z
  refine Nat.le_trans ?_ z
  unfold uptoR
  rw [List.length_append, List.length_append]
  have : ((grpsM S).take m).flatMap grpR <+: ((grpsM S).take 3).flatMap grpR := by
    obtain ⟨t, ht⟩ := List.take_prefix_take_left (l := grpsM S) hm
    exact ⟨t.flatMap grpR, by rw [← List.flatMap_append, ht]⟩
  have := this.length_le
  omega
section
variable {P : Program} {w : World} {K : PySem.W.Frag} {mg : Str → Option Value} {base : Heap}
inductive RLawLines : List PyData → Rs → Prop
  | mk {S : Sky} (hS : SkyOk S) : RLawLines [skyD S] (.fz (.list ((skyR S).map fun p => strsD (wordR p))))
theorem okLawLines (T : Top K mg) : Callee P w K mg base 1 "_law_lines" ["sky"] RLawLines := by
  refine callee T.fLawLines scLawLines (fun _ _ _ _ _ _ us hl => match us, hl with | [_], _ => rfl) fun f cdv A outer s H E hr ds r hl hR => ?_
  cases hR with
  | @mk S hS =>
  have nw := hS.nw
  have nl := hS.nl
  have ne := hS.ne
  have cp := hS.cp
  have tn := hS.tn
  refine s_tgt (nm 0) (dG_tup rfl (dGs_cons (gn 1 scLawLines.nd) (dGs_cons (gn 2 scLawLines.nd) (dGs_cons (gn 3 scLawLines.nd) (dGs_cons (gn 4 scLawLines.nd) (dGs_cons (gn 5 scLawLines.nd) dGs_nil)))))) ?_
  refine s_set 6 ((dE_lst (dA_cons (dE_lst (dA_cons dE_str (dA_cons (dE_str_ T.str (nm 5) (num_log (by omega))) dA_nil)) (Nat.le_of_ble_eq_true rfl)) (dA_cons (dE_lst (dA_cons dE_str (dA_cons (dE_str_ T.str (nm 4) (num_log (by omega))) dA_nil)) (Nat.le_of_ble_eq_true rfl)) dA_nil)) (Nat.le_of_ble_eq_true rfl)).is (show _ = Rs.fr ((uptoR S 0).map fun p => strsD (wordR p)) from rfl)) ?_ scLawLines.nd
  refine s_for (fun m env => ∃ e7 e8, env = [.fz (skyD S), .fz (.list (S.looks.map lookT)), .fz (.list (S.worths.map PyData.int)), .fz (.list (S.ears.map earT)), .fz (.int S.cap), .fz (.int S.turn), .fz (.list ((uptoR S m).map fun p => strsD (wordR p))), e7, e8, .no, .no, .no]) (dIf_list ((dE_lst (dA_cons (dE_tup (dA_cons dE_str (dA_cons (lc0 (xs := S.worths) (g := PyData.int) (h := fun x => Rs.fz (tupR [x])) [("worth", 9)] (dI_list (dR_of (nm 2))) (by omega) (fun x hm => ⟨_, _, (by decide), fun _ _ _ _ _ => ⟨gn 9 scLawLines.nd, dTs_nil, fun _ => dE_tup (dA_cons (nm 9) dA_nil) (Nat.le_of_ble_eq_true rfl)⟩⟩) scLawLines.nd (ok := blkOk_by (N := nLawLines) (sc := defScope sLawLines) (by decide +kernel))) dA_nil)) (Nat.le_of_ble_eq_true rfl)) (dA_cons (dE_tup (dA_cons dE_str (dA_cons (nm 3) dA_nil)) (Nat.le_of_ble_eq_true rfl)) (dA_cons (dE_tup (dA_cons dE_str (dA_cons (nm 1) dA_nil)) (Nat.le_of_ble_eq_true rfl)) dA_nil))) (Nat.le_of_ble_eq_true rfl)).is (show _ = Rs.fr ((grpsM S).map grpD) by
    unfold grpsM grpD
    simp only [List.map_cons, List.map_nil, List.map_map]
    rfl)) rfl) ?_ (fun m d env1 hd hI => ?_) (fun env1 hI => ?_)
  · exact ⟨_, _, rfl⟩
  · obtain ⟨e7, e8, rfl⟩ := hI
    obtain ⟨hm, rfl⟩ := map_get hd
    have hm3 : m < 3 := hm
    have inn : ∀ p ∈ grpR (grpsM S)[m], RowIn p := fun p hp => (row_in hS).1 p (upto_in (m + 1) hm3 p (by
      rw [upto_step hm]
      exact List.mem_append_right _ hp))
    have l1 := upto_len hS (m + 1) hm3
    have us := upto_step hm
    rw [us, List.length_append] at l1
    generalize (grpsM S)[m] = g at inn l1 us
    have gl : (grpR g).length = g.2.length := List.length_map _
    refine ⟨_, _, dG_tup rfl (dGs_cons (gn 7 scLawLines.nd) (dGs_cons (gn 8 scLawLines.nd) dGs_nil)), ?_⟩
    refine s_set 6 (dE_cat (dR_of (nm 6)) (dR_of (lc0 (xs := g.2) (g := tupR) (h := fun r => Rs.fr ((wordR (g.1, r)).map PyData.str)) [("row", 10)] (dI_list (dR_of (nm 8))) (by omega) (fun r hm => ⟨_, _, (by decide), fun s1 H1 C1 cl1 fp1 => ⟨gn 10 scLawLines.nd, dTs_nil, fun _ => by
      have ri := inn (g.1, r) (List.mem_map.mpr ⟨r, hm, rfl⟩)
      have rn : r.length ≤ 5 := ri.n
      refine (dE_cat (dR_of (dE_lst (dA_cons (nm 7) dA_nil) (Nat.le_of_ble_eq_true rfl))) (dR_of (lc0 (xs := r) (g := PyData.int) (h := fun x => Rs.fz (.str (numT x))) [("number", 11)] (dI_tup (dR_of (nm 10))) (by omega) (fun x hx => ⟨_, _, (by decide), fun _ _ _ _ _ => ⟨gn 11 scLawLines.nd, dTs_nil, fun _ => dE_str_ T.str (nm 11) (num_log (ri.x x hx))⟩⟩) scLawLines.nd (ok := ?ok))) (by
        rw [List.length_map]
        show 1 + _ ≤ _
        omega)).is ?_
      case ok =>
        refine blkOk_by (N := nLawLines) ?_
        change blkC nLawLines (relS _ (defScope sLawLines)) _ _ = true
        decide +kernel
      show Rs.fr (PyData.str g.1 :: r.map _) = Rs.fr (PyData.str g.1 :: (r.map numT).map PyData.str)
      rw [List.map_map]
      rfl⟩⟩) scLawLines.nd (ok := blkOk_by (N := nLawLines) (sc := defScope sLawLines) (by decide +kernel)))) (by
      rw [List.length_map, List.length_map]
      omega)) ?_ scLawLines.nd
    have e6 : (uptoR S (m + 1)).map (fun p => strsD (wordR p)) = (uptoR S m).map (fun p => strsD (wordR p)) ++ g.2.map fun r => (Rs.fr ((wordR (g.1, r)).map PyData.str)).data := by
      rw [us, List.map_append]
      unfold grpR
      rw [List.map_map]
      rfl
    exact s_end ⟨_, _, by rw [e6] <;> rfl⟩
  · obtain ⟨e7, e8, rfl⟩ := hI
    refine s_ret ((nm 6).is ?_) (.inl rfl)
    rw [List.length_map]
    show Rs.fz (.list ((uptoR S 3).map _)) = _
    rw [upto_all]
inductive RLawText : List PyData → Rs → Prop
  | mk {S : Sky} (hS : SkyOk S) : RLawText [.list ((skyR S).map fun p => strsD (wordR p))] (.fz (.str (skyT S)))
theorem okLawText (T : Top K mg) : Callee P w K mg base 1 "_law_text" ["lines"] RLawText := by
  refine callee T.fLawText scLawText (fun _ _ _ _ _ _ us hl => match us, hl with | [_], _ => rfl) fun f cdv A outer s H E hr ds r hl hR => ?_
  cases hR with
  | @mk S hS =>
  have ri := row_in hS
  have rl := sky_len hS
  have zz : (Str.ofString "").length = 0 := by decide +kernel
  have e1 : (Str.ofString " ").length = 1 := by decide +kernel
  refine s_ret (dE_join dE_str (ys := (skyR S).map rowS) ((dR_of (lc0 (xs := skyR S) (g := fun p => strsD (wordR p)) (h := fun p => Rs.fz (.str (rowS p))) [("words", 1)] (dI_list (dR_of (nm 0))) (by omega) (fun p hp => ⟨_, _, (by decide), fun _ _ _ _ _ => ⟨gn 1 scLawText.nd, dTs_nil, fun _ => by
    have r := ri.1 p hp
    have rh := r.h
    have rn := r.n
    have z := sum_le (B := 22) (wordR p) fun y hy => by
      rcases List.mem_cons.mp hy with rfl | hy
      · omega
      · obtain ⟨x, hx, rfl⟩ := List.mem_map.mp hy
        exact num_len (r.x x hx)
    have wl : (wordR p).length = p.2.length + 1 := by
      show (p.2.map numT).length + 1 = _
      rw [List.length_map]
    refine (dE_addS (dE_join dE_str (ys := wordR p) (dR_of (nm 1)) (by
      show ((wordR p).map Str.length).sum + (wordR p).length * (Str.ofString " ").length ≤ _
      rw [e1]
      omega)) dE_str (by
      have := r.le
      change (rowT p.1 p.2).length ≤ _ at this
      rw [row_words, len_app] at this
      show (Txt.join (Str.ofString " ") (p.1 :: p.2.map numT)).length + _ ≤ _
      omega)).is ?_
    rw [← row_words]⟩⟩) scLawText.nd (ok := blkOk_by (N := nLawText) (sc := defScope sLawText) (by decide +kernel)))).is (congrArg PyData.list (by rw [List.map_map]; rfl))) (by
    rw [zz, Nat.mul_zero]
    exact Nat.le_trans (Nat.le_of_eq (Nat.add_zero _)) (Nat.le_trans rl (by decide)))) (.inl rfl)
inductive RLaw : List Int → List PyData → Rs → Prop
  | mk {ns : List Int} (h : ns.length ≤ 63) : RLaw ns [] (.fz (.bool true))
theorem lawBody (T : Top K mg) (f : Addr) (cdv : Value) (A : Around) (outer : List Env) (s : Shared) (H : Hp) (E : XK) (hgd : A.guards = some []) (hr : Room 2 (A.deeper (envOfC "law" (defScope sLaw) s.heap.objs.size f cdv))) (ns : List Int) (ds : List PyData) (r : Rs) (hl : ds.length = 0) (hR : RLaw ns ds r) :
    dSs (cxD P w K mg base nLaw "law" (defScope sLaw) f cdv A outer s H E) (defBody sLaw) { nx := fun _ => r = .fz .none, rt := fun r' _ => r'.le r } (argsS nLaw ns ds) := by
  cases hR with
  | mk hns =>
  have hu := hr.units
  refine s_set 1 (dE_callS 0 (okLawDraws T) (hr.mono (by decide)) rfl (dA_cons dE_int dA_nil) (.mk (k := 110) hns (by decide)) rfl rfl (.inl rfl)) ?_ scLaw.nd
  have hlen : (drawsM ns 110).length = 110 := drawsM_len ns 110
  generalize drawsM ns 110 = L at hlen
  refine s_setQ 2 (dQ_call (okLawWide T) (hr.mono (by decide)) (dA_cons (nm 1) dA_nil) (.mk hlen) rfl) (fun r hr' => ?_) scLaw.nd
  obtain ⟨S, hd, hS⟩ := hr'
  rw [hd]
  have wr := wr_sky hS
  have dp : PyData.depth (skyD S) ≤ 60 := Nat.le_trans (sh_sky S).2 (by decide)
  refine s_set 3 (dE_reprT T.repr hgd hu (dR_of (nm 2)) wr (by decide) dp) ?_ scLaw.nd
  refine s_for (fun m env => ∃ e4 e5, env = [.sc ns, .fz (.list (L.map PyData.int)), .fz (skyD S), .fz (.str (PyData.shown (skyD S))), e4, e5]) (dIf_range1 T.range dE_int (by decide) (by decide)) ?_ (fun m d env1 hd hI => ?_) (fun env1 hI => ?_)
  · exact ⟨_, _, rfl⟩
  · obtain ⟨e4, e5, rfl⟩ := hI
    refine ⟨_, _, gn 4 scLaw.nd, ?_⟩
    refine s_set 5 (dE_call (okWriteSky T) (hr.mono (by decide)) (dA_cons (nm 2) dA_nil) (.mk hS) rfl) ?_ scLaw.nd
    refine s_if (dT_of_dW (dW_or (dT_not (dT_val (dE_isStr (d := .str (skyT S)) T.isinstance T.str (dR_of (nm 5))) (by intro _; rfl))) (fun _ => dW_or1 (dT_cmp (dC_sstr (nm 5) (dE_call (okLawText T) (hr.mono (by decide)) (dA_cons (dE_call (okLawLines T) (hr.mono (by decide)) (dA_cons (nm 2) dA_nil) (.mk hS) rfl) dA_nil) (.mk hS) rfl)))))) (fun h => nomatch (show false = true from h)) (fun h => ?_)
    exact s_end (s_end ⟨_, _, rfl⟩)
  · obtain ⟨e4, e5, rfl⟩ := hI
    exact s_ret (dE_cmp (dC_sstrE (dE_reprT T.repr hgd hu (dR_of (nm 2)) wr (by decide) dp) (nm 3))) (.inl rfl)
end
end Rg

namespace Rg
open PySem PySem.Spec PyProof.Rows L2 Dl
theorem top_mk {K : PySem.W.Frag} {h : Heap} {mg : Str → Option Value} (X : K.In h) (G : h.Ns mainGlobals mg)
    {f0 : Addr} {od0 an0 : Option Addr} {sl0 : Array (Option Value)} {oc0 kV0 dc0 pm0 cd0 ct0 : Value}
    (a0 : PySem.W.nsIn K mainGlobals "line_with" = some (some (.ref f0))) (l0 : K.lookup f0 = some ⟨oc0, od0, .func (PySem.W.fnOf "line_with" "line_with" (defArgs sLineWith) (defBody sLineWith) (defScope sLineWith) .none kV0 dc0 pm0 an0 cd0 ct0), sl0⟩) (c0 : PySem.W.codeIn K cd0 "line_with" = true) (k0 : PySem.W.keepIn K (.ref f0) = true)
    {f1 : Addr} {od1 an1 : Option Addr} {sl1 : Array (Option Value)} {oc1 kV1 dc1 pm1 cd1 ct1 : Value}
    (a1 : PySem.W.nsIn K mainGlobals "write_sky" = some (some (.ref f1))) (l1 : K.lookup f1 = some ⟨oc1, od1, .func (PySem.W.fnOf "write_sky" "write_sky" (defArgs sWriteSky) (defBody sWriteSky) (defScope sWriteSky) .none kV1 dc1 pm1 an1 cd1 ct1), sl1⟩) (c1 : PySem.W.codeIn K cd1 "write_sky" = true) (k1 : PySem.W.keepIn K (.ref f1) = true)
    {f2 : Addr} {od2 an2 : Option Addr} {sl2 : Array (Option Value)} {oc2 kV2 dc2 pm2 cd2 ct2 : Value}
    (a2 : PySem.W.nsIn K mainGlobals "_law_draws" = some (some (.ref f2))) (l2 : K.lookup f2 = some ⟨oc2, od2, .func (PySem.W.fnOf "_law_draws" "_law_draws" (defArgs sLawDraws) (defBody sLawDraws) (defScope sLawDraws) .none kV2 dc2 pm2 an2 cd2 ct2), sl2⟩) (c2 : PySem.W.codeIn K cd2 "_law_draws" = true) (k2 : PySem.W.keepIn K (.ref f2) = true)
    {f3 : Addr} {od3 an3 : Option Addr} {sl3 : Array (Option Value)} {oc3 kV3 dc3 pm3 cd3 ct3 : Value}
    (a3 : PySem.W.nsIn K mainGlobals "_law_wide" = some (some (.ref f3))) (l3 : K.lookup f3 = some ⟨oc3, od3, .func (PySem.W.fnOf "_law_wide" "_law_wide" (defArgs sLawWide) (defBody sLawWide) (defScope sLawWide) .none kV3 dc3 pm3 an3 cd3 ct3), sl3⟩) (c3 : PySem.W.codeIn K cd3 "_law_wide" = true) (k3 : PySem.W.keepIn K (.ref f3) = true)
    {f4 : Addr} {od4 an4 : Option Addr} {sl4 : Array (Option Value)} {oc4 kV4 dc4 pm4 cd4 ct4 : Value}
    (a4 : PySem.W.nsIn K mainGlobals "_law_lines" = some (some (.ref f4))) (l4 : K.lookup f4 = some ⟨oc4, od4, .func (PySem.W.fnOf "_law_lines" "_law_lines" (defArgs sLawLines) (defBody sLawLines) (defScope sLawLines) .none kV4 dc4 pm4 an4 cd4 ct4), sl4⟩) (c4 : PySem.W.codeIn K cd4 "_law_lines" = true) (k4 : PySem.W.keepIn K (.ref f4) = true)
    {f5 : Addr} {od5 an5 : Option Addr} {sl5 : Array (Option Value)} {oc5 kV5 dc5 pm5 cd5 ct5 : Value}
    (a5 : PySem.W.nsIn K mainGlobals "_law_text" = some (some (.ref f5))) (l5 : K.lookup f5 = some ⟨oc5, od5, .func (PySem.W.fnOf "_law_text" "_law_text" (defArgs sLawText) (defBody sLawText) (defScope sLawText) .none kV5 dc5 pm5 an5 cd5 ct5), sl5⟩) (c5 : PySem.W.codeIn K cd5 "_law_text" = true) (k5 : PySem.W.keepIn K (.ref f5) = true)
    {f6 : Addr} {od6 an6 : Option Addr} {sl6 : Array (Option Value)} {oc6 kV6 dc6 pm6 cd6 ct6 : Value}
    (a6 : PySem.W.nsIn K mainGlobals "law" = some (some (.ref f6))) (l6 : K.lookup f6 = some ⟨oc6, od6, .func (PySem.W.fnOf "law" "law" (defArgs sLaw) (defBody sLaw) (defScope sLaw) .none kV6 dc6 pm6 an6 cd6 ct6), sl6⟩) (c6 : PySem.W.codeIn K cd6 "law" = true) (k6 : PySem.W.keepIn K (.ref f6) = true)
    (z0 : PySem.W.nsIn K mainGlobals "int" = some none)
    (z1 : PySem.W.nsIn K mainGlobals "isinstance" = some none)
    (z2 : PySem.W.nsIn K mainGlobals "len" = some none)
    (z3 : PySem.W.nsIn K mainGlobals "min" = some none)
    (z4 : PySem.W.nsIn K mainGlobals "range" = some none)
    (z5 : PySem.W.nsIn K mainGlobals "repr" = some none)
    (z6 : PySem.W.nsIn K mainGlobals "str" = some none)
    : Top K mg :=
  ⟨defAt_mk X G a0 l0 c0 k0, defAt_mk X G a1 l1 c1 k1, defAt_mk X G a2 l2 c2 k2, defAt_mk X G a3 l3 c3 k3, defAt_mk X G a4 l4 c4 k4, defAt_mk X G a5 l5 c5 k5, defAt_mk X G a6 l6 c6 k6, PySem.W.mg_none_of X G z0, PySem.W.mg_none_of X G z1, PySem.W.mg_none_of X G z2, PySem.W.mg_none_of X G z3, PySem.W.mg_none_of X G z4, PySem.W.mg_none_of X G z5, PySem.W.mg_none_of X G z6⟩
end Rg
open PySem PySem.W PyProof.Rows
set_option maxRecDepth 100000 in
set_option maxHeartbeats 0 in
theorem PySem.Challenge.cw_skypasses_k10_skies_are_written_holds : PySem.Challenge.rw_skypasses_k10_skies_are_written.Holds := by
  w_on; o_law; k_head; (case hw => w_witness2)
  k_fill
  refine Dl.law_endG (l := PySem.Challenge.rw_skypasses_k10_skies_are_written) (k := 2) (R := Rg.RLaw) (st := Rg.sLaw) (N := Rg.nLaw) rfl rfl ⟨rfl, by decide, by decide⟩ rfl (fun w h Y => PySem.W.kIn_of Y) Rg.scLaw (fun _ _ _ _ _ _ us hl => match us, hl with | [_], _ => rfl) (fun ns h => Rg.RLaw.mk h) ?F
  case F =>
    intro w mg fa h KX G hmg
    refine' (fun T => ⟨T.fLaw, fun base f cdv A outer s H E hg hr ns ds r hl hR => Rg.lawBody T f cdv A outer s H E hg hr ns ds r hl hR⟩ : Rg.Top _ mg → _) (Rg.top_mk KX G ?a0 ?l0 ?c0 ?k0 ?a1 ?l1 ?c1 ?k1 ?a2 ?l2 ?c2 ?k2 ?a3 ?l3 ?c3 ?k3 ?a4 ?l4 ?c4 ?k4 ?a5 ?l5 ?c5 ?k5 ?a6 ?l6 ?c6 ?k6 ?z0 ?z1 ?z2 ?z3 ?z4 ?z5 ?z6)
    (case a0 => k_is)
    (case l0 => k_is)
    (case c0 => k_is)
    (case k0 => k_is)
    (case a1 => k_is)
    (case l1 => k_is)
    (case c1 => k_is)
    (case k1 => k_is)
    (case a2 => k_is)
    (case l2 => k_is)
    (case c2 => k_is)
    (case k2 => k_is)
    (case a3 => k_is)
    (case l3 => k_is)
    (case c3 => k_is)
    (case k3 => k_is)
    (case a4 => k_is)
    (case l4 => k_is)
    (case c4 => k_is)
    (case k4 => k_is)
    (case a5 => k_is)
    (case l5 => k_is)
    (case c5 => k_is)
    (case k5 => k_is)
    (case a6 => k_is)
    (case l6 => k_is)
    (case c6 => k_is)
    (case k6 => k_is)
    (case z0 => k_is)
    (case z1 => k_is)
    (case z2 => k_is)
    (case z3 => k_is)
    (case z4 => k_is)
    (case z5 => k_is)
    (case z6 => k_is)

