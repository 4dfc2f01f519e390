import PyProof.Rows.All
import Wide.All
import OpenK.AllK
import Wide.FinOn
import HandS.ForMost
import PyProof.Rows.StrRev
import HandS.IsInst
import HandS.Style
import PyProof.StrOps2
import PySem.Challenge.RW_fromruns_k15_runs_of_corners
set_option Elab.async false
set_option linter.all false
set_option maxRecDepth 100000
set_option maxHeartbeats 2000000
namespace FR
open PySem PySem.Spec PyProof.Rows L2

/-! ## growing heaps: F the frame (what is fixed), H all -/
structure Gro (F H F' H' : Hp) : Prop where
  f : Same F F'
  h : Same H H'
  fr : Same F' H'
  sep : ∀ a, H a ≠ none → F a = none → F' a = none
theorem Gro.refl {F H : Hp} (fr : Same F H) : Gro F H F H := ⟨Same.refl F, Same.refl H, fr, fun _ _ h => h⟩
theorem Gro.trans {F H F1 H1 F2 H2 : Hp} (a : Gro F H F1 H1) (b : Gro F1 H1 F2 H2) : Gro F H F2 H2 :=
  ⟨a.f.trans b.f, a.h.trans b.h, b.fr, fun x hx fx => b.sep x (by
    cases q : H x with
    | none => exact absurd q hx
    | some o => rw [a.h x o q]; exact fun z => nomatch z) (a.sep x hx fx)⟩
theorem same_new {H : Hp} {p : Addr} {o : HO} (h : H p = none) : Same H (upd H p o) := fun a u e => by
  rw [upd_ne (ne_of_none e h)]
  exact e
theorem Gro.new {F H : Hp} (fr : Same F H) {p : Addr} {o : HO} (h : H p = none) : Gro F H (upd F p o) (upd H p o) := by
  refine ⟨same_new (fr.free h), same_new h, fun a u e => ?_, fun a ha fa => ?_⟩
  · by_cases e1 : a = p
    · subst e1; rw [upd_same] at e ⊢; exact e
    · rw [upd_ne e1] at e ⊢; exact fr a u e
  · have e1 : a ≠ p := fun z => ha (z ▸ h)
    rw [upd_ne e1]; exact fa
/-- a new object of one's own -/
theorem Gro.own {F H : Hp} (fr : Same F H) {p : Addr} {o : HO} (h : H p = none) : Gro F H F (upd H p o) :=
  ⟨Same.refl F, same_new h, fr.trans (same_new h), fun _ _ z => z⟩

/-! ## data -/
mutual
theorem dp_mono {K : PySem.W.Frag} {H H' : Hp} (e : Same H H') : ∀ {v : V} {d : PyData}, Dp K H v d → Dp K H' v d
  | _, _, .non => .non
  | _, _, .bl b => .bl b
  | _, _, .int i => .int i
  | _, _, .str x => .str x
  | _, _, .lst h hs => .lst (e.seq h) (dpAll_mono e hs)
  | _, _, .tup h hs => .tup (by
      rcases h with (h | ⟨o, h⟩) | h
      · exact .inl (.inl (e _ _ h))
      · exact .inl (.inr ⟨o, e _ _ h⟩)
      · exact .inr h) (dpAll_mono e hs)
theorem dpAll_mono {K : PySem.W.Frag} {H H' : Hp} (e : Same H H') : ∀ {vs : List V} {ds : List PyData}, DpAll K H vs ds → DpAll K H' vs ds
  | _, _, .nil => .nil
  | _, _, .cons h t => .cons (dp_mono e h) (dpAll_mono e t)
end
theorem dpAll_len {K : PySem.W.Frag} {H : Hp} : ∀ {vs : List V} {ds : List PyData}, DpAll K H vs ds → vs.length = ds.length
  | _, _, .nil => rfl
  | _, _, .cons _ t => congrArg (· + 1) (dpAll_len t)
theorem dpAll_get {K : PySem.W.Frag} {H : Hp} : ∀ {vs : List V} {ds : List PyData} {i : Nat} {d : PyData}, DpAll K H vs ds → ds[i]? = some d → ∃ v, vs[i]? = some v ∧ Dp K H v d
  | _, _, _, _, .nil, e => by simp at e
  | _, _, 0, _, .cons h _, e => by simp at e; subst e; exact ⟨_, rfl, h⟩
  | _, _, i + 1, _, .cons _ t, e => by
    obtain ⟨v, h1, h2⟩ := dpAll_get (i := i) t (by simpa using e)
    exact ⟨v, by simpa using h1, h2⟩
theorem dpAll_getV {K : PySem.W.Frag} {H : Hp} : ∀ {vs : List V} {ds : List PyData} {i : Nat} {v : V}, DpAll K H vs ds → vs[i]? = some v → ∃ d, ds[i]? = some d ∧ Dp K H v d
  | _, _, _, _, .nil, e => by simp at e
  | _, _, 0, _, .cons h _, e => by simp at e; subst e; exact ⟨_, rfl, h⟩
  | _, _, i + 1, _, .cons _ t, e => by
    obtain ⟨v, h1, h2⟩ := dpAll_getV (i := i) t (by simpa using e)
    exact ⟨v, by simpa using h1, h2⟩
theorem dpAll_append {K : PySem.W.Frag} {H : Hp} : ∀ {vs ws : List V} {ds es : List PyData}, DpAll K H vs ds → DpAll K H ws es → DpAll K H (vs ++ ws) (ds ++ es)
  | _, _, _, _, .nil, b => b
  | _, _, _, _, .cons h t, b => .cons h (dpAll_append t b)
theorem dpAll_set {K : PySem.W.Frag} {H : Hp} {v : V} {d : PyData} (h : Dp K H v d) : ∀ {vs : List V} {ds : List PyData} {i : Nat}, DpAll K H vs ds → DpAll K H (vs.set i v) (ds.set i d)
  | _, _, _, .nil => .nil
  | _, _, 0, .cons _ t => .cons h t
  | _, _, i + 1, .cons a t => .cons a (dpAll_set h t)
theorem dpAll_take {K : PySem.W.Frag} {H : Hp} : ∀ {vs : List V} {ds : List PyData} (n : Nat), DpAll K H vs ds → DpAll K H (vs.take n) (ds.take n)
  | _, _, 0, _ => by simp; exact .nil
  | _, _, _ + 1, .nil => .nil
  | _, _, n + 1, .cons a t => .cons a (dpAll_take n t)
theorem dpAll_drop {K : PySem.W.Frag} {H : Hp} : ∀ {vs : List V} {ds : List PyData} (n : Nat), DpAll K H vs ds → DpAll K H (vs.drop n) (ds.drop n)
  | _, _, 0, t => t
  | _, _, _ + 1, .nil => .nil
  | _, _, n + 1, .cons _ t => dpAll_drop n t
theorem dpAll_ints {K : PySem.W.Frag} {H : Hp} : ∀ {vs : List V} {ns : List Int}, DpAll K H vs (ns.map .int) → vs = ns.map V.int
  | _, [], .nil => rfl
  | _, _ :: _, .cons (.int _) t => congrArg _ (dpAll_ints t)
theorem dpAll_strs {K : PySem.W.Frag} {H : Hp} : ∀ {vs : List V} {ns : List Str}, DpAll K H vs (ns.map .str) → vs = ns.map V.str
  | _, [], .nil => rfl
  | _, _ :: _, .cons (.str _) t => congrArg _ (dpAll_strs t)
theorem dpAll_bls {K : PySem.W.Frag} {H : Hp} : ∀ {vs : List V} {ns : List Bool}, DpAll K H vs (ns.map .bool) → vs = ns.map V.bl
  | _, [], .nil => rfl
  | _, _ :: _, .cons (.bl _) t => congrArg _ (dpAll_bls t)
theorem dpAll_ofInts {K : PySem.W.Frag} {H : Hp} : ∀ (ns : List Int), DpAll K H (ns.map V.int) (ns.map .int)
  | [] => .nil
  | _ :: r => .cons (.int _) (dpAll_ofInts r)
theorem dpAll_ofStrs {K : PySem.W.Frag} {H : Hp} : ∀ (ns : List Str), DpAll K H (ns.map V.str) (ns.map .str)
  | [] => .nil
  | _ :: r => .cons (.str _) (dpAll_ofStrs r)

/-! ## what a slot holds -/
inductive AV where
  /-- data that stays -/
  | d (x : PyData)
  /-- a list of one's own -/
  | l (xs : List PyData)
  /-- a dict of one's own, keys ints and texts; keys tuples -/
  | k (kvs : List (Key × PyData))
  | t (kvs : List (List Key × PyData))
  /-- any thing of which something holds that stays -/
  | p (φ : Hp → V → Prop) (hφ : ∀ H H' v, Same H H' → φ H v → φ H' v)
def AV.owned : AV → Bool
  | .l _ => true
  | .k _ => true
  | .t _ => true
  | _ => false
abbrev AEnv := List (Option AV)
abbrev KvD {κ : Type} (K : PySem.W.Frag) (F : Hp) : List (κ × V) → List (κ × PyData) → Prop := Paired fun p q => p.1 = q.1 ∧ Dp K F p.2 q.2
def AvOk (K : PySem.W.Frag) (F H : Hp) (v : V) : AV → Prop
  | .d x => Dp K F v x
  | .l xs => ∃ a vs, v = .ref a ∧ H a = some (.lst vs) ∧ DpAll K F vs xs
  | .k kvs => ∃ a us, v = .ref a ∧ H a = some (.dK us) ∧ KvD K F us kvs
  | .t kvs => ∃ a us, v = .ref a ∧ H a = some (.dT us) ∧ KvD K F us kvs
  | .p φ _ => φ F v
theorem kvD_mono {κ : Type} {K : PySem.W.Frag} {F F' : Hp} (e : Same F F') : ∀ {us : List (κ × V)} {kvs : List (κ × PyData)}, KvD K F us kvs → KvD K F' us kvs
  | _, _, .nil => .nil
  | _, _, .cons h t => .cons ⟨h.1, dp_mono e h.2⟩ (kvD_mono e t)
theorem AvOk.gro {K : PySem.W.Frag} {F H F' H' : Hp} {v : V} (g : Gro F H F' H') : ∀ {av : AV}, AvOk K F H v av → AvOk K F' H' v av
  | .d _, h => dp_mono g.f h
  | .l _, ⟨a, vs, e, h, t⟩ => ⟨a, vs, e, g.h _ _ h, dpAll_mono g.f t⟩
  | .k _, ⟨a, vs, e, h, t⟩ => ⟨a, vs, e, g.h _ _ h, kvD_mono g.f t⟩
  | .t _, ⟨a, vs, e, h, t⟩ => ⟨a, vs, e, g.h _ _ h, kvD_mono g.f t⟩
  | .p _ hφ, h => hφ _ _ _ g.f h

structure EnvAt (K : PySem.W.Frag) (F0 H0 F : Hp) (σ : L2.St) (H : Hp) (env : AEnv) : Prop where
  gro : Gro F0 H0 F H
  len : σ.length = env.length
  slot : ∀ (i : Nat) (av : AV), env[i]? = some (some av) → ∃ v : V, σ[i]? = some (some v) ∧ AvOk K F H v av
  mine : ∀ (i : Nat) (av : AV) (a : Addr), env[i]? = some (some av) → av.owned = true → σ[i]? = some (some (.ref a)) → H0 a = none ∧ F a = none ∧ H a ≠ none
  apart : ∀ (i j : Nat) (av aw : AV) (a : Addr), env[i]? = some (some av) → env[j]? = some (some aw) → av.owned = true → aw.owned = true → σ[i]? = some (some (.ref a)) → σ[j]? = some (some (.ref a)) → i = j
section
variable {K : PySem.W.Frag} {F0 H0 F F' : Hp} {σ : L2.St} {H H' : Hp} {env : AEnv}
theorem EnvAt.grow (e : EnvAt K F0 H0 F σ H env) (g : Gro F H F' H') : EnvAt K F0 H0 F' σ H' env where
  gro := e.gro.trans g
  len := e.len
  slot := fun i av h => let ⟨v, a, b⟩ := e.slot i av h; ⟨v, a, b.gro g⟩
  mine := fun i av a h o s => by
    obtain ⟨z1, z2, z3⟩ := e.mine i av a h o s
    refine ⟨z1, g.sep a z3 z2, ?_⟩
    cases q : H a with
    | none => exact absurd q z3
    | some u => rw [g.h a u q]; exact fun z => nomatch z
  apart := e.apart
theorem set_get {α : Type} {l : List (Option α)} {i j : Nat} {x : Option α} {y : α} (h : (l.set i x)[j]? = some (some y)) : (i = j ∧ x = some y) ∨ (i ≠ j ∧ l[j]? = some (some y)) := by
  by_cases e : i = j
  · subst e
    rw [List.getElem?_set_self'] at h
    cases q : l[i]? with
    | none => rw [q] at h; cases h
    | some z => rw [q] at h; exact .inl ⟨rfl, Option.some.inj h⟩
  · rw [List.getElem?_set_ne e] at h
    exact .inr ⟨e, h⟩
/-- a slot is stored: data (or a thing that stays) -/
theorem EnvAt.set (e : EnvAt K F0 H0 F σ H env) {i : Nat} {v : V} {av : AV} (h : AvOk K F H v av) (ho : av.owned = false) : EnvAt K F0 H0 F (σ.set i (some v)) H (env.set i (some av)) where
  gro := e.gro
  len := by rw [List.length_set, List.length_set]; exact e.len
  slot := fun j aw q => by
    rcases set_get q with ⟨rfl, qx⟩ | ⟨n, q⟩
    · cases qx
      refine ⟨v, ?_, h⟩
      have hi : i < (env.set i (some av)).length := (List.getElem?_eq_some_iff.mp ‹_›).1
      rw [List.length_set, ← e.len] at hi
      exact List.getElem?_set_self hi
    · obtain ⟨u, a, b⟩ := e.slot j aw q
      exact ⟨u, by rw [List.getElem?_set_ne n]; exact a, b⟩
  mine := fun j aw a q o s => by
    rcases set_get q with ⟨rfl, qx⟩ | ⟨n, q⟩
    · cases qx; rw [ho] at o; cases o
    · rw [List.getElem?_set_ne n] at s
      exact e.mine j aw a q o s
  apart := fun j k aw ax a q1 q2 o1 o2 s1 s2 => by
    rcases set_get q1 with ⟨rfl, q1x⟩ | ⟨n1, q1⟩
    · cases q1x; rw [ho] at o1; cases o1
    rcases set_get q2 with ⟨rfl, q2x⟩ | ⟨n2, q2⟩
    · cases q2x; rw [ho] at o2; cases o2
    rw [List.getElem?_set_ne n1] at s1
    rw [List.getElem?_set_ne n2] at s2
    exact e.apart j k aw ax a q1 q2 o1 o2 s1 s2
/-- a slot is stored: a new thing of one's own (it stands in H, not in F, and no other slot owns it) -/
theorem EnvAt.setOwn (e : EnvAt K F0 H0 F σ H env) {i : Nat} {a : Addr} {av : AV} (h : AvOk K F H (.ref a) av) (h0 : H0 a = none) (hF : F a = none) (hH : H a ≠ none)
    (hn : ∀ (j : Nat) (aw : AV), i ≠ j → env[j]? = some (some aw) → aw.owned = true → σ[j]? ≠ some (some (.ref a))) : EnvAt K F0 H0 F (σ.set i (some (.ref a))) H (env.set i (some av)) where
  gro := e.gro
  len := by rw [List.length_set, List.length_set]; exact e.len
  slot := fun j aw q => by
    rcases set_get q with ⟨rfl, qx⟩ | ⟨n, q⟩
    · cases qx
      refine ⟨_, ?_, h⟩
      have hi : i < (env.set i (some av)).length := (List.getElem?_eq_some_iff.mp ‹_›).1
      rw [List.length_set, ← e.len] at hi
      exact List.getElem?_set_self hi
    · obtain ⟨u, a, b⟩ := e.slot j aw q
      exact ⟨u, by rw [List.getElem?_set_ne n]; exact a, b⟩
  mine := fun j aw b q o s => by
    rcases set_get q with ⟨rfl, qx⟩ | ⟨n, q⟩
    · rcases set_get s with ⟨_, s⟩ | ⟨n, _⟩
      · cases s; exact ⟨h0, hF, hH⟩
      · exact absurd rfl n
    · rw [List.getElem?_set_ne n] at s
      exact e.mine j aw b q o s
  apart := fun j k aw ax b q1 q2 o1 o2 s1 s2 => by
    rcases set_get q1 with ⟨rfl, q1x⟩ | ⟨n1, q1⟩
    · rcases set_get q2 with ⟨rfl, q2x⟩ | ⟨n2, q2⟩
      · rfl
      · rcases set_get s1 with ⟨_, s1⟩ | ⟨z, _⟩
        · cases s1
          rw [List.getElem?_set_ne n2] at s2
          exact absurd s2 (hn k ax n2 q2 o2)
        · exact absurd rfl z
    · rcases set_get q2 with ⟨rfl, q2x⟩ | ⟨n2, q2⟩
      · rcases set_get s2 with ⟨_, s2⟩ | ⟨z, _⟩
        · cases s2
          rw [List.getElem?_set_ne n1] at s1
          exact absurd s1 (hn j aw n1 q1 o1)
        · exact absurd rfl z
      · rw [List.getElem?_set_ne n1] at s1
        rw [List.getElem?_set_ne n2] at s2
        exact e.apart j k aw ax b q1 q2 o1 o2 s1 s2
/-- a thing of one's own (in slot i) is changed -/
theorem EnvAt.change (e : EnvAt K F0 H0 F σ H env) {i : Nat} {a : Addr} {av av' : AV} {o : HO} (hi : env[i]? = some (some av)) (ho : av.owned = true) (hs : σ[i]? = some (some (.ref a)))
    (h : AvOk K F (upd H a o) (.ref a) av') : EnvAt K F0 H0 F σ (upd H a o) (env.set i (some av')) := by
  obtain ⟨z1, z2, z3⟩ := e.mine i av a hi ho hs
  refine ⟨⟨e.gro.f, fun b u q => ?_, fun b u q => ?_, fun b q1 q2 => e.gro.sep b q1 q2⟩, by rw [List.length_set]; exact e.len, fun j aw q => ?_, fun j aw b q o' s => ?_, fun j k aw ax b q1 q2 o1 o2 s1 s2 => ?_⟩
  · rw [upd_ne (fun z => by rw [z, z1] at q; cases q)]; exact e.gro.h b u q
  · rw [upd_ne (fun z => by rw [z, z2] at q; cases q)]; exact e.gro.fr b u q
  · rcases set_get q with ⟨rfl, qx⟩ | ⟨n, q⟩
    · cases qx; exact ⟨_, hs, h⟩
    · obtain ⟨u, s, b⟩ := e.slot j aw q
      refine ⟨u, s, ?_⟩
      have other : ∀ c, u = .ref c → aw.owned = true → c ≠ a := fun c hc ow z => by
        subst hc; subst z
        exact n (e.apart i j av aw c hi q ho ow hs s)
      cases aw with
      | d x => exact b
      | l xs => obtain ⟨c, vs, e1, e2, e3⟩ := b; exact ⟨c, vs, e1, by rw [upd_ne (other c e1 rfl)]; exact e2, e3⟩
      | k xs => obtain ⟨c, vs, e1, e2, e3⟩ := b; exact ⟨c, vs, e1, by rw [upd_ne (other c e1 rfl)]; exact e2, e3⟩
      | t xs => obtain ⟨c, vs, e1, e2, e3⟩ := b; exact ⟨c, vs, e1, by rw [upd_ne (other c e1 rfl)]; exact e2, e3⟩
      | p φ hφ => exact b
  · have bne : b ≠ a ∨ b = a := by by_cases z : b = a <;> simp [z]
    rcases set_get q with ⟨rfl, qx⟩ | ⟨n, q⟩
    · rw [hs] at s; cases s
      exact ⟨z1, z2, by rw [upd_same]; exact fun z => nomatch z⟩
    · obtain ⟨y1, y2, y3⟩ := e.mine j aw b q o' s
      refine ⟨y1, y2, ?_⟩
      rcases bne with z | z
      · rw [upd_ne z]; exact y3
      · rw [z, upd_same]; exact fun z => nomatch z
  · have q1' : ∃ ay, env[j]? = some (some ay) ∧ ay.owned = true := by
      rcases set_get q1 with ⟨rfl, _⟩ | ⟨n, q1⟩
      · exact ⟨av, hi, ho⟩
      · exact ⟨aw, q1, o1⟩
    have q2' : ∃ ay, env[k]? = some (some ay) ∧ ay.owned = true := by
      rcases set_get q2 with ⟨rfl, _⟩ | ⟨n, q2⟩
      · exact ⟨av, hi, ho⟩
      · exact ⟨ax, q2, o2⟩
    obtain ⟨b1, c1, d1⟩ := q1'
    obtain ⟨b2, c2, d2⟩ := q2'
    exact e.apart j k b1 b2 b c1 c2 d1 d2 s1 s2
/-- forgetting a slot -/
theorem EnvAt.forget (e : EnvAt K F0 H0 F σ H env) {env' : AEnv} (hl : env'.length = env.length) (h : ∀ (i : Nat) (av : AV), env'[i]? = some (some av) → env[i]? = some (some av)) : EnvAt K F0 H0 F σ H env' :=
  ⟨e.gro, by rw [hl]; exact e.len, fun i av q => e.slot i av (h i av q), fun i av a q => e.mine i av a (h i av q), fun i j av aw a q1 q2 => e.apart i j av aw a (h i av q1) (h j aw q2)⟩
/-- a list of one's own is data from now on -/
theorem EnvAt.freeze (e : EnvAt K F0 H0 F σ H env) {i : Nat} {xs : List PyData} (hi : env[i]? = some (some (.l xs))) : ∃ F', EnvAt K F0 H0 F' σ H (env.set i (some (.d (.list xs)))) ∧ Same F F' := by
  obtain ⟨v, hs, a, vs, rfl, ha, hv⟩ := e.slot i _ hi
  obtain ⟨z1, z2, z3⟩ := e.mine i _ a hi rfl hs
  have sF : Same F (upd F a (.lst vs)) := same_new z2
  refine ⟨upd F a (.lst vs), ⟨⟨e.gro.f.trans sF, e.gro.h, fun b u q => ?_, fun b q1 q2 => ?_⟩, by rw [List.length_set]; exact e.len, fun j aw q => ?_, fun j aw b q o' s => ?_, fun j k aw ax b q1 q2 o1 o2 s1 s2 => ?_⟩, sF⟩
  · by_cases e1 : b = a
    · subst e1; rw [upd_same] at q; cases q; exact ha
    · rw [upd_ne e1] at q; exact e.gro.fr b u q
  · have e1 : b ≠ a := fun z => q1 (z ▸ z1)
    rw [upd_ne e1]; exact e.gro.sep b q1 q2
  · rcases set_get q with ⟨rfl, qx⟩ | ⟨n, q⟩
    · cases qx
      exact ⟨_, hs, .lst (.inl (.inl upd_same)) (dpAll_mono sF hv)⟩
    · obtain ⟨u, s, b⟩ := e.slot j aw q
      refine ⟨u, s, ?_⟩
      cases aw with
      | d x => exact dp_mono sF b
      | l xs => obtain ⟨c, vs, e1, e2, e3⟩ := b; exact ⟨c, vs, e1, e2, dpAll_mono sF e3⟩
      | k xs => obtain ⟨c, vs, e1, e2, e3⟩ := b; exact ⟨c, vs, e1, e2, kvD_mono sF e3⟩
      | t xs => obtain ⟨c, vs, e1, e2, e3⟩ := b; exact ⟨c, vs, e1, e2, kvD_mono sF e3⟩
      | p φ hφ => exact hφ _ _ _ sF b
  · rcases set_get q with ⟨rfl, qx⟩ | ⟨n, q⟩
    · cases qx; cases o'
    · obtain ⟨y1, y2, y3⟩ := e.mine j aw b q o' s
      refine ⟨y1, ?_, y3⟩
      rw [upd_ne (fun z => by subst z; exact n (e.apart i j _ aw b hi q rfl o' hs s))]
      exact y2
  · rcases set_get q1 with ⟨rfl, q1x⟩ | ⟨n1, q1⟩
    · cases q1x; cases o1
    rcases set_get q2 with ⟨rfl, q2x⟩ | ⟨n2, q2⟩
    · cases q2x; cases o2
    exact e.apart j k aw ax b q1 q2 o1 o2 s1 s2
/-- the start of a def -/
theorem env_start {N : List Str} {vs : List V} {ds : List PyData} (fr : Same F H) (h : DpAll K F vs ds) (hl : ds.length ≤ N.length) :
    EnvAt K F H F (L2.start N vs) H (ds.map (fun d => some (.d d)) ++ List.replicate (N.length - ds.length) none) := by
  have hv := dpAll_len h
  have key : ∀ i (av : AV), (ds.map (fun d => some (AV.d d)) ++ List.replicate (N.length - ds.length) none)[i]? = some (some av) → ∃ d, ds[i]? = some d ∧ av = .d d := fun i av q => by
    by_cases hi : i < ds.length
    · rw [List.getElem?_append_left (by simpa using hi), List.getElem?_map, List.getElem?_eq_getElem hi] at q
      exact ⟨_, List.getElem?_eq_getElem hi, by simp at q; exact q.symm⟩
    · rw [List.getElem?_append_right (by simpa using hi), List.getElem?_replicate] at q
      split at q <;> cases q
  refine ⟨Gro.refl fr, ?_, fun i av q => ?_, fun i av a q o => ?_, fun i j av aw a q1 q2 o1 => ?_⟩
  · unfold L2.start
    simp only [List.length_append, List.length_map, List.length_replicate, hv]
  · obtain ⟨d, e1, rfl⟩ := key i av q
    obtain ⟨v, e2, e3⟩ := dpAll_get h e1
    refine ⟨v, ?_, e3⟩
    unfold L2.start
    rw [List.getElem?_append_left (by simpa using (List.getElem?_eq_some_iff.mp e2).1), List.getElem?_map, e2]
    rfl
  · obtain ⟨d, _, rfl⟩ := key i av q; cases o
  · obtain ⟨d, _, rfl⟩ := key i av q1; cases o1
end
end FR

namespace FR
open PySem PySem.Spec PyProof.Rows L2

/-! ## the canonical readings -/
structure wE (X : Cx) (e : Expr) (σ : L2.St) (H : Hp) (Q : VK) : Prop where
  run : ∀ pins s, Inv X pins σ H s → wpAny (model X.prog X.w) X.A (eval e X.env) (EP X pins σ Q) X.xe s
structure wT (X : Cx) (e : Expr) (σ : L2.St) (H : Hp) (Q : Bool → Hp → Prop) : Prop where
  run : ∀ pins s, Inv X pins σ H s → wpAny (model X.prog X.w) X.A (isTrue e X.env (eval e X.env)) (TP X pins σ Q) X.xe s
structure wW (X : Cx) (e : Expr) (σ : L2.St) (H : Hp) (Q : Bool → Hp → Prop) : Prop where
  run : ∀ whole pins s, Inv X pins σ H s → wpAny (model X.prog X.w) X.A (isTrue e X.env whole) (TP X pins σ Q) X.xe s
structure wA (X : Cx) (es : List Expr) (σ : L2.St) (H : Hp) (Q : List V → Hp → Prop) : Prop where
  run : ∀ pos pins s, Inv X pins σ H s → wpAny (model X.prog X.w) X.A (spliced (backTo pos (starEach es X.env))) (AP X pins σ Q) X.xe s
structure wS (X : Cx) (st : Stmt) (D : Ends) (σ : L2.St) (H : Hp) : Prop where
  run : ∀ pins s, Inv X pins σ H s → wpAny (model X.prog X.w) X.A (exec st X.env) (SP X pins D) X.xe s
structure wB (X : Cx) (st : List Stmt) (D : Ends) (σ : L2.St) (H : Hp) : Prop where
  run : ∀ pins s, Inv X pins σ H s → wpAny (model X.prog X.w) X.A (execs st X.env) (SP X pins D) X.xe s
structure wI (X : Cx) (tg iter : Expr) (σ : L2.St) (H : Hp) (R : It → Hp → Prop) : Prop where
  run : ∀ pins s, Inv X pins σ H s →
  wpAny (model X.prog X.w) X.A (eval iter X.env) (fun v s1 => wpAny (model X.prog X.w) X.A (pyIter v) (PIE X pins σ tg R) X.xe s1) X.xe s
section
variable {X : Cx} {e tg : Expr} {es : List Expr} {st : Stmt} {ss : List Stmt} {te : TE} {tt : TT} {ta : TA} {ts : TS} {ti : TI} {σ : L2.St} {H : Hp}
theorem e_w : PE X e (wE X e) := ⟨fun pins s σ H Q I h => h.run pins s I⟩
theorem t_w : PT X e (wT X e) := ⟨fun pins s σ H Q I h => h.run pins s I⟩
theorem w_w : PW X e (wW X e) := ⟨fun wh pins s σ H Q I h => h.run wh pins s I⟩
theorem a_w : PA X es (wA X es) := ⟨fun pos pins s σ H Q I h => h.run pos pins s I⟩
theorem s_w : PS X st (wS X st) := ⟨fun pins s σ H D I h => h.run pins s I⟩
theorem b_w : PSs X ss (wB X ss) := ⟨fun pins s σ H D I h => h.run pins s I⟩
theorem i_w : PI X tg e (wI X tg e) := ⟨fun pins s σ H R I h => h.run pins s I⟩
theorem e_of (h : PE X e te) {Q : VK} (q : te σ H Q) : wE X e σ H Q := ⟨fun pins s I => h.run pins s σ H Q I q⟩
theorem t_of (h : PT X e tt) {Q : Bool → Hp → Prop} (q : tt σ H Q) : wT X e σ H Q := ⟨fun pins s I => h.run pins s σ H Q I q⟩
theorem w_of (h : PW X e tt) {Q : Bool → Hp → Prop} (q : tt σ H Q) : wW X e σ H Q := ⟨fun wh pins s I => h.run wh pins s σ H Q I q⟩
theorem a_of (h : PA X es ta) {Q : List V → Hp → Prop} (q : ta σ H Q) : wA X es σ H Q := ⟨fun pos pins s I => h.run pos pins s σ H Q I q⟩
theorem s_of (h : PS X st ts) {D : Ends} (q : ts D σ H) : wS X st D σ H := ⟨fun pins s I => h.run pins s σ H D I q⟩
theorem b_of (h : PSs X ss ts) {D : Ends} (q : ts D σ H) : wB X ss D σ H := ⟨fun pins s I => h.run pins s σ H D I q⟩
theorem i_of (h : PI X tg e ti) {R : It → Hp → Prop} (q : ti σ H R) : wI X tg e σ H R := ⟨fun pins s I => h.run pins s σ H R I q⟩
end

/-! ## judgements over data -/
def XD (X : Cx) (e : Expr) (env : AEnv) (d : PyData) : Prop :=
  ∀ F0 H0 F σ H, EnvAt X.K F0 H0 F σ H env → ∀ Q : VK, (∀ v F' H', Gro F H F' H' → Dp X.K F' v d → Q v H') → wE X e σ H Q
/-- a value of which something holds that stays (no data) -/
def XP (X : Cx) (e : Expr) (env : AEnv) (φ : Hp → V → Prop) : Prop :=
  ∀ F0 H0 F σ H, EnvAt X.K F0 H0 F σ H env → ∀ Q : VK, (∀ v F' H', Gro F H F' H' → φ F' v → Q v H') → wE X e σ H Q
/-- a new list, nobody else's -/
def XL (X : Cx) (e : Expr) (env : AEnv) (xs : List PyData) : Prop :=
  ∀ F0 H0 F σ H, EnvAt X.K F0 H0 F σ H env → ∀ Q : VK, (∀ p vs F' H', Gro F H F' H' → H p = none → F' p = none → H' p = some (.lst vs) → DpAll X.K F' vs xs → Q (.ref p) H') → wE X e σ H Q
def XT (X : Cx) (e : Expr) (env : AEnv) (b : Bool) : Prop :=
  ∀ F0 H0 F σ H, EnvAt X.K F0 H0 F σ H env → ∀ Q : Bool → Hp → Prop, (∀ F' H', Gro F H F' H' → Q b H') → wT X e σ H Q
def XW (X : Cx) (e : Expr) (env : AEnv) (b : Bool) : Prop :=
  ∀ F0 H0 F σ H, EnvAt X.K F0 H0 F σ H env → ∀ Q : Bool → Hp → Prop, (∀ F' H', Gro F H F' H' → Q b H') → wW X e σ H Q
def XA (X : Cx) (es : List Expr) (env : AEnv) (ds : List PyData) : Prop :=
  ∀ F0 H0 F σ H, EnvAt X.K F0 H0 F σ H env → ∀ Q : List V → Hp → Prop, (∀ vs F' H', Gro F H F' H' → DpAll X.K F' vs ds → Q vs H') → wA X es σ H Q
/-- what is wanted behind a statement -/
structure AE where
  nx : AEnv → Prop
  rt : PyData → Prop
  bk : AEnv → Prop := fun _ => False
  ct : AEnv → Prop := fun _ => False
structure Lk (K : PySem.W.Frag) (F0 H0 : Hp) (A : AE) (D : Ends) : Prop where
  nx : ∀ env F σ H, EnvAt K F0 H0 F σ H env → A.nx env → D.nx σ H
  rt : ∀ v d F H, Gro F0 H0 F H → Dp K F v d → A.rt d → D.rt v H
  bk : ∀ env F σ H, EnvAt K F0 H0 F σ H env → A.bk env → D.bk σ H
  ct : ∀ env F σ H, EnvAt K F0 H0 F σ H env → A.ct env → D.ct σ H
def XS (X : Cx) (st : Stmt) (env : AEnv) (A : AE) : Prop := ∀ F0 H0 F σ H D, EnvAt X.K F0 H0 F σ H env → Lk X.K F0 H0 A D → wS X st D σ H
def XB (X : Cx) (ss : List Stmt) (env : AEnv) (A : AE) : Prop := ∀ F0 H0 F σ H D, EnvAt X.K F0 H0 F σ H env → Lk X.K F0 H0 A D → wB X ss D σ H

section
variable {X : Cx} {e e2 e3 tg : Expr} {es : List Expr} {st : Stmt} {ss : List Stmt} {env : AEnv} {d d1 d2 : PyData} {A : AE} {pos p p2 : Pos}

theorem EnvAt.fr {K : PySem.W.Frag} {F0 H0 F : Hp} {σ : L2.St} {H : Hp} {env : AEnv} (E : EnvAt K F0 H0 F σ H env) : Same F H := E.gro.fr
theorem EnvAt.rfl' {K : PySem.W.Frag} {F0 H0 F : Hp} {σ : L2.St} {H : Hp} {env : AEnv} (E : EnvAt K F0 H0 F σ H env) : Gro F H F H := Gro.refl E.fr

/-! ### names, constants -/
theorem xd_var {i : Nat} {x : Str} (hv : env[i]? = some (some (.d d))) (hN : X.N[i]? = some x := by rfl) (hs : Vis X.env.scope x := by first | exact Or.inl rfl | exact Or.inr (Or.inl rfl) | exact Or.inr (Or.inr rfl))
    (hd : (x == ("__debug__" : Str)) = false := by decide) (hc : (x == ("__classdict__" : Str)) = false := by decide) : XD X (.Name x pos) env d := by
  intro F0 H0 F σ H E Q q
  obtain ⟨v, h1, h2⟩ := E.slot i _ hv
  exact e_of (pe_var hN hs hd hc) ⟨v, h1, q v F H E.rfl' h2⟩
theorem xp_var {i : Nat} {x : Str} {φ : Hp → V → Prop} {hφ} (hv : env[i]? = some (some (.p φ hφ))) (hN : X.N[i]? = some x := by rfl) (hs : Vis X.env.scope x := by first | exact Or.inl rfl | exact Or.inr (Or.inl rfl) | exact Or.inr (Or.inr rfl))
    (hd : (x == ("__debug__" : Str)) = false := by decide) (hc : (x == ("__classdict__" : Str)) = false := by decide) : XP X (.Name x pos) env φ := by
  intro F0 H0 F σ H E Q q
  obtain ⟨v, h1, h2⟩ := E.slot i _ hv
  exact e_of (pe_var hN hs hd hc) ⟨v, h1, q v F H E.rfl' h2⟩
theorem xd_int {i j} : XD X (.Constant (.int i) j pos) env (.int i) := fun F0 H0 F σ H E Q q => e_of pe_int (q _ F H E.rfl' (.int i))
theorem xd_bl {b j} : XD X (.Constant (.bool b) j pos) env (.bool b) := fun F0 H0 F σ H E Q q => e_of pe_bl (q _ F H E.rfl' (.bl b))
theorem xd_non {j} : XD X (.Constant .none j pos) env .none := fun F0 H0 F σ H E Q q => e_of pe_non (q _ F H E.rfl' .non)
theorem xd_str {x j} : XD X (.Constant (.str x) j pos) env (.str x) := fun F0 H0 F σ H E Q q => e_of pe_str (q _ F H E.rfl' (.str x))
theorem XD.is (h : XD X e env d) (h' : d = d2) : XD X e env d2 := h' ▸ h

/-! ### operators -/
/-- what an operator does on data -/
def OpD (K : PySem.W.Frag) (r : R2) (d1 d2 d : PyData) : Prop := ∀ F H v w, Same F H → Dp K F v d1 → Dp K F w d2 → ∀ Q : VK, (∀ u F' H', Gro F H F' H' → Dp K F' u d → Q u H') → r v w H Q
def UnD (K : PySem.W.Frag) (r : V → Hp → VK → Prop) (d1 d : PyData) : Prop := ∀ F H v, Same F H → Dp K F v d1 → ∀ Q : VK, (∀ u F' H', Gro F H F' H' → Dp K F' u d → Q u H') → r v H Q
theorem x2 {r : R2} (hp : PE X e3 (tOp r (wE X e) (wE X e2))) (h1 : XD X e env d1) (h2 : XD X e2 env d2) (hr : OpD X.K r d1 d2 d) : XD X e3 env d := by
  intro F0 H0 F σ H E Q q
  refine e_of hp ?_
  refine h1 _ _ F σ H E _ fun v F1 H1 g1 p1 => ?_
  refine h2 _ _ F1 σ H1 (E.grow g1) _ fun w F2 H2 g2 p2 => ?_
  exact hr F2 H2 v w g2.fr (dp_mono g2.f p1) p2 Q fun u F3 H3 g3 p3 => q u F3 H3 ((g1.trans g2).trans g3) p3
theorem x1 {r : V → Hp → VK → Prop} (hp : PE X e3 (tUn r (wE X e))) (h1 : XD X e env d1) (hr : UnD X.K r d1 d) : XD X e3 env d := by
  intro F0 H0 F σ H E Q q
  refine e_of hp ?_
  refine h1 _ _ F σ H E _ fun v F1 H1 g1 p1 => ?_
  exact hr F1 H1 v g1.fr p1 Q fun u F3 H3 g3 p3 => q u F3 H3 (g1.trans g3) p3
theorem dI {K : PySem.W.Frag} {F : Hp} {v : V} {i : Int} (h : Dp K F v (.int i)) : v = .int i := by cases h; rfl
theorem dS {K : PySem.W.Frag} {F : Hp} {v : V} {i : Str} (h : Dp K F v (.str i)) : v = .str i := by cases h; rfl
theorem dB {K : PySem.W.Frag} {F : Hp} {v : V} {i : Bool} (h : Dp K F v (.bool i)) : v = .bl i := by cases h; rfl
theorem dN {K : PySem.W.Frag} {F : Hp} {v : V} (h : Dp K F v .none) : v = .non := by cases h; rfl
theorem dL {K : PySem.W.Frag} {F : Hp} {v : V} {xs : List PyData} (h : Dp K F v (.list xs)) : ∃ a vs, v = .ref a ∧ SqL K F a vs ∧ DpAll K F vs xs := by cases h with | lst h t => exact ⟨_, _, rfl, h, t⟩
theorem dT {K : PySem.W.Frag} {F : Hp} {v : V} {xs : List PyData} (h : Dp K F v (.tuple xs)) : ∃ a vs, v = .ref a ∧ SqT K F a vs ∧ DpAll K F vs xs := by cases h with | tup h t => exact ⟨_, _, rfl, h, t⟩
theorem opd_I0 {K : PySem.W.Frag} {g : Int → Int → V} {i j : Int} {d : PyData} (h : ∀ F, Dp K F (g i j) d) : OpD K (rI0 g) (.int i) (.int j) d :=
  fun F H v w fr p1 p2 Q q => ⟨i, j, dI p1, dI p2, q _ F H (Gro.refl fr) (h F)⟩
theorem opd_I {K : PySem.W.Frag} {C : Int → Int → Prop} {g : Int → Int → V} {i j : Int} {d : PyData} (hc : C i j) (h : ∀ F, Dp K F (g i j) d) : OpD K (rI C g) (.int i) (.int j) d :=
  fun F H v w fr p1 p2 Q q => ⟨i, j, dI p1, dI p2, hc, q _ F H (Gro.refl fr) (h F)⟩
theorem xd_add {i j : Int} (h1 : XD X e env (.int i)) (h2 : XD X e2 env (.int j)) : XD X (.BinOp e .Add e2 pos) env (.int (i + j)) := x2 (pe_op op_add e_w e_w) h1 h2 (opd_I0 fun _ => .int _)
theorem xd_sub {i j : Int} (h1 : XD X e env (.int i)) (h2 : XD X e2 env (.int j)) : XD X (.BinOp e .Sub e2 pos) env (.int (i - j)) := x2 (pe_op op_sub e_w e_w) h1 h2 (opd_I0 fun _ => .int _)
theorem xd_mul {i j : Int} (h1 : XD X e env (.int i)) (h2 : XD X e2 env (.int j)) (hc : CMul i j) : XD X (.BinOp e .Mult e2 pos) env (.int (i * j)) := x2 (pe_op op_mul e_w e_w) h1 h2 (opd_I hc fun _ => .int _)
theorem xd_div {i j : Int} (h1 : XD X e env (.int i)) (h2 : XD X e2 env (.int j)) (hc : CDiv i j) : XD X (.BinOp e .FloorDiv e2 pos) env (.int (i / j)) := x2 (pe_op op_fdiv e_w e_w) h1 h2 (opd_I hc fun _ => .int _)
theorem xd_mod {i j : Int} (h1 : XD X e env (.int i)) (h2 : XD X e2 env (.int j)) (hc : 0 < j) : XD X (.BinOp e .Mod e2 pos) env (.int (i % j)) := x2 (pe_op op_mod e_w e_w) h1 h2 (opd_I hc fun _ => .int _)
theorem xd_pow {i j : Int} (h1 : XD X e env (.int i)) (h2 : XD X e2 env (.int j)) (hc : CPow i j) : XD X (.BinOp e .Pow e2 pos) env (.int (i ^ j.toNat)) := x2 (pe_op op_pow e_w e_w) h1 h2 (opd_I hc fun _ => .int _)
theorem xd_neg {i : Int} (h1 : XD X e env (.int i)) : XD X (.UnaryOp .USub e pos) env (.int (-i)) := x1 (pe_un un_neg e_w) h1 fun F H v fr p1 Q q => ⟨i, dI p1, q _ F H (Gro.refl fr) (.int _)⟩
theorem xd_cat {a b : Str} (h1 : XD X e env (.str a)) (h2 : XD X e2 env (.str b)) (hz : a.length + b.length ≤ sizeLine) : XD X (.BinOp e .Add e2 pos) env (.str (a ++ b)) :=
  x2 (pe_op op_add_str e_w e_w) h1 h2 fun F H v w fr p1 p2 Q q => ⟨a, b, dS p1, dS p2, hz, q _ F H (Gro.refl fr) (.str _)⟩
/-! ### comparisons -/
theorem xd_lt {i j : Int} (h1 : XD X e env (.int i)) (h2 : XD X e2 env (.int j)) : XD X (.Compare e [.Lt] [e2] pos) env (.bool (decide (i < j))) := x2 (pe_cmpR op_lt e_w e_w (nomark _)) h1 h2 (opd_I0 fun _ => .bl _)
theorem xd_le {i j : Int} (h1 : XD X e env (.int i)) (h2 : XD X e2 env (.int j)) : XD X (.Compare e [.LtE] [e2] pos) env (.bool (decide (i ≤ j))) := x2 (pe_cmpR op_le e_w e_w (nomark _)) h1 h2 (opd_I0 fun _ => .bl _)
theorem xd_gt {i j : Int} (h1 : XD X e env (.int i)) (h2 : XD X e2 env (.int j)) : XD X (.Compare e [.Gt] [e2] pos) env (.bool (decide (j < i))) := x2 (pe_cmpR op_gt e_w e_w (nomark _)) h1 h2 (opd_I0 fun _ => .bl _)
theorem xd_ge {i j : Int} (h1 : XD X e env (.int i)) (h2 : XD X e2 env (.int j)) : XD X (.Compare e [.GtE] [e2] pos) env (.bool (decide (j ≤ i))) := x2 (pe_cmpR op_ge e_w e_w (nomark _)) h1 h2 (opd_I0 fun _ => .bl _)
theorem opd_eq {K : PySem.W.Frag} {x y : V} {b : Bool} (hx : ∀ F v, Dp K F v d1 → v = x) (hy : ∀ F v, Dp K F v d2 → v = y) (hs : scal x y = true) (hb : decide (x = y) = b) : OpD K rEq d1 d2 (.bool b) :=
  fun F H v w fr p1 p2 Q q => ⟨by rw [hx F v p1, hy F w p2]; exact hs, by rw [hx F v p1, hy F w p2, hb]; exact q _ F H (Gro.refl fr) (.bl _)⟩
theorem opd_ne {K : PySem.W.Frag} {x y : V} {b : Bool} (hx : ∀ F v, Dp K F v d1 → v = x) (hy : ∀ F v, Dp K F v d2 → v = y) (hs : scal x y = true) (hb : (!decide (x = y)) = b) : OpD K rNe d1 d2 (.bool b) :=
  fun F H v w fr p1 p2 Q q => ⟨by rw [hx F v p1, hy F w p2]; exact hs, by rw [hx F v p1, hy F w p2, hb]; exact q _ F H (Gro.refl fr) (.bl _)⟩
theorem dec_int {i j : Int} : decide (V.int i = V.int j) = decide (i = j) := by
  by_cases h : i = j
  · subst h; simp
  · rw [decide_eq_false h]; exact decide_eq_false fun z => h (by injection z)
theorem dec_str {i j : Str} : decide (V.str i = V.str j) = decide (i = j) := by
  by_cases h : i = j
  · subst h; simp
  · rw [decide_eq_false h]; exact decide_eq_false fun z => h (by injection z)
theorem dec_bl {i j : Bool} : decide (V.bl i = V.bl j) = decide (i = j) := by
  by_cases h : i = j
  · subst h; simp
  · rw [decide_eq_false h]; exact decide_eq_false fun z => h (by injection z)
theorem xd_eqI {i j : Int} (h1 : XD X e env (.int i)) (h2 : XD X e2 env (.int j)) : XD X (.Compare e [.Eq] [e2] pos) env (.bool (decide (i = j))) :=
  x2 (pe_cmpR op_eq e_w e_w (nomark _)) h1 h2 (opd_eq (fun _ _ => dI) (fun _ _ => dI) rfl dec_int)
theorem xd_eqS {i j : Str} (h1 : XD X e env (.str i)) (h2 : XD X e2 env (.str j)) : XD X (.Compare e [.Eq] [e2] pos) env (.bool (decide (i = j))) :=
  x2 (pe_cmpR op_eq e_w e_w (nomark _)) h1 h2 (opd_eq (fun _ _ => dS) (fun _ _ => dS) rfl dec_str)
theorem xd_eqB {i j : Bool} (h1 : XD X e env (.bool i)) (h2 : XD X e2 env (.bool j)) : XD X (.Compare e [.Eq] [e2] pos) env (.bool (decide (i = j))) :=
  x2 (pe_cmpR op_eq e_w e_w (nomark _)) h1 h2 (opd_eq (fun _ _ => dB) (fun _ _ => dB) rfl dec_bl)
theorem xd_neI {i j : Int} (h1 : XD X e env (.int i)) (h2 : XD X e2 env (.int j)) : XD X (.Compare e [.NotEq] [e2] pos) env (.bool (!decide (i = j))) :=
  x2 (pe_cmpR op_ne e_w e_w (nomark _)) h1 h2 (opd_ne (fun _ _ => dI) (fun _ _ => dI) rfl (by rw [dec_int]))
theorem xd_neS {i j : Str} (h1 : XD X e env (.str i)) (h2 : XD X e2 env (.str j)) : XD X (.Compare e [.NotEq] [e2] pos) env (.bool (!decide (i = j))) :=
  x2 (pe_cmpR op_ne e_w e_w (nomark _)) h1 h2 (opd_ne (fun _ _ => dS) (fun _ _ => dS) rfl (by rw [dec_str]))
theorem xd_neB {i j : Bool} (h1 : XD X e env (.bool i)) (h2 : XD X e2 env (.bool j)) : XD X (.Compare e [.NotEq] [e2] pos) env (.bool (!decide (i = j))) :=
  x2 (pe_cmpR op_ne e_w e_w (nomark _)) h1 h2 (opd_ne (fun _ _ => dB) (fun _ _ => dB) rfl (by rw [dec_bl]))
/-- == of data at any depth -/
theorem xd_eqD (hu : X.A.units + 64 < cLine) (h1 : XD X e env d1) (h2 : XD X e2 env d2) (s1 : SeqAt.shaped d1 = true) (s2 : SeqAt.shaped d2 = true) : XD X (.Compare e [.Eq] [e2] pos) env (.bool (PyData.eqv d1 d2)) :=
  x2 (pe_cmpR (op_eqD hu) e_w e_w (nomark _)) h1 h2 fun F H v w fr p1 p2 Q q => ⟨d1, d2, dp_mono fr p1, dp_mono fr p2, s1, s2, q _ F H (Gro.refl fr) (.bl _)⟩
theorem xd_neD (hu : X.A.units + 64 < cLine) (h1 : XD X e env d1) (h2 : XD X e2 env d2) (s1 : SeqAt.shaped d1 = true) (s2 : SeqAt.shaped d2 = true) : XD X (.Compare e [.NotEq] [e2] pos) env (.bool (!PyData.eqv d1 d2)) :=
  x2 (pe_cmpR (op_neD hu) e_w e_w (nomark _)) h1 h2 fun F H v w fr p1 p2 Q q => ⟨d1, d2, dp_mono fr p1, dp_mono fr p2, s1, s2, q _ F H (Gro.refl fr) (.bl _)⟩
def isNonD : PyData → Bool
  | .none => true
  | _ => false
theorem dp_non {K : PySem.W.Frag} {F : Hp} {v : V} (h : Dp K F v d) : decide (v = .non) = isNonD d := by
  cases h <;> simp [isNonD]
theorem xd_isN {j} (h1 : XD X e env d) : XD X (.Compare e [.Is] [.Constant .none j p] pos) env (.bool (isNonD d)) :=
  x2 (pe_cmpR op_isN e_w e_w (nomark _)) h1 xd_non fun F H v w fr p1 p2 Q q => ⟨dN p2, by rw [dp_non p1]; exact q _ F H (Gro.refl fr) (.bl _)⟩
theorem xd_notN {j} (h1 : XD X e env d) : XD X (.Compare e [.IsNot] [.Constant .none j p] pos) env (.bool (!isNonD d)) :=
  x2 (pe_cmpR op_notN e_w e_w (nomark _)) h1 xd_non fun F H v w fr p1 p2 Q q => ⟨dN p2, by rw [dp_non p1]; exact q _ F H (Gro.refl fr) (.bl _)⟩

/-! ### tests -/
theorem xt_val {b : Bool} (h : XD X e env (.bool b)) (he : ∀ whole, isTrue e X.env whole = (do let v ← whole; standAt e.pos; holding [v] (truthy v)) := by intro _; rfl) : XT X e env b := by
  intro F0 H0 F σ H E Q q
  refine t_of (pt_val e_w he) ?_
  refine h _ _ F σ H E _ fun v F1 H1 g1 p1 => ?_
  exact ⟨b, dB p1, q F1 H1 g1⟩
theorem cmpT {op : CmpOp} {r : R2} (hp : PT X e3 (tTest (tOp r (wE X e) (wE X e2)))) (h1 : XD X e env d1) (h2 : XD X e2 env d2) {b : Bool} (hr : OpD X.K r d1 d2 (.bool b)) : XT X e3 env b := by
  intro F0 H0 F σ H E Q q
  refine t_of hp ?_
  refine h1 _ _ F σ H E _ fun v F1 H1 g1 p1 => ?_
  refine h2 _ _ F1 σ H1 (E.grow g1) _ fun w F2 H2 g2 p2 => ?_
  exact hr F2 H2 v w g2.fr (dp_mono g2.f p1) p2 _ fun u F3 H3 g3 p3 => ⟨b, dB p3, q F3 H3 ((g1.trans g2).trans g3)⟩
theorem xt_lt {i j : Int} (h1 : XD X e env (.int i)) (h2 : XD X e2 env (.int j)) : XT X (.Compare e [.Lt] [e2] pos) env (decide (i < j)) := cmpT (op := .Lt) (pt_cmpR op_lt e_w e_w (nomark _)) h1 h2 (opd_I0 fun _ => .bl _)
theorem xt_le {i j : Int} (h1 : XD X e env (.int i)) (h2 : XD X e2 env (.int j)) : XT X (.Compare e [.LtE] [e2] pos) env (decide (i ≤ j)) := cmpT (op := .Lt) (pt_cmpR op_le e_w e_w (nomark _)) h1 h2 (opd_I0 fun _ => .bl _)
theorem xt_gt {i j : Int} (h1 : XD X e env (.int i)) (h2 : XD X e2 env (.int j)) : XT X (.Compare e [.Gt] [e2] pos) env (decide (j < i)) := cmpT (op := .Lt) (pt_cmpR op_gt e_w e_w (nomark _)) h1 h2 (opd_I0 fun _ => .bl _)
theorem xt_ge {i j : Int} (h1 : XD X e env (.int i)) (h2 : XD X e2 env (.int j)) : XT X (.Compare e [.GtE] [e2] pos) env (decide (j ≤ i)) := cmpT (op := .Lt) (pt_cmpR op_ge e_w e_w (nomark _)) h1 h2 (opd_I0 fun _ => .bl _)
theorem xt_eqI {i j : Int} (h1 : XD X e env (.int i)) (h2 : XD X e2 env (.int j)) : XT X (.Compare e [.Eq] [e2] pos) env (decide (i = j)) :=
  cmpT (op := .Lt) (pt_cmpR op_eq e_w e_w (nomark _)) h1 h2 (opd_eq (fun _ _ => dI) (fun _ _ => dI) rfl dec_int)
theorem xt_eqS {i j : Str} (h1 : XD X e env (.str i)) (h2 : XD X e2 env (.str j)) : XT X (.Compare e [.Eq] [e2] pos) env (decide (i = j)) :=
  cmpT (op := .Lt) (pt_cmpR op_eq e_w e_w (nomark _)) h1 h2 (opd_eq (fun _ _ => dS) (fun _ _ => dS) rfl dec_str)
theorem xt_eqB {i j : Bool} (h1 : XD X e env (.bool i)) (h2 : XD X e2 env (.bool j)) : XT X (.Compare e [.Eq] [e2] pos) env (decide (i = j)) :=
  cmpT (op := .Lt) (pt_cmpR op_eq e_w e_w (nomark _)) h1 h2 (opd_eq (fun _ _ => dB) (fun _ _ => dB) rfl dec_bl)
theorem xt_neI {i j : Int} (h1 : XD X e env (.int i)) (h2 : XD X e2 env (.int j)) : XT X (.Compare e [.NotEq] [e2] pos) env (!decide (i = j)) :=
  cmpT (op := .Lt) (pt_cmpR op_ne e_w e_w (nomark _)) h1 h2 (opd_ne (fun _ _ => dI) (fun _ _ => dI) rfl (by rw [dec_int]))
theorem xt_neS {i j : Str} (h1 : XD X e env (.str i)) (h2 : XD X e2 env (.str j)) : XT X (.Compare e [.NotEq] [e2] pos) env (!decide (i = j)) :=
  cmpT (op := .Lt) (pt_cmpR op_ne e_w e_w (nomark _)) h1 h2 (opd_ne (fun _ _ => dS) (fun _ _ => dS) rfl (by rw [dec_str]))
theorem xt_neB {i j : Bool} (h1 : XD X e env (.bool i)) (h2 : XD X e2 env (.bool j)) : XT X (.Compare e [.NotEq] [e2] pos) env (!decide (i = j)) :=
  cmpT (op := .Lt) (pt_cmpR op_ne e_w e_w (nomark _)) h1 h2 (opd_ne (fun _ _ => dB) (fun _ _ => dB) rfl (by rw [dec_bl]))
theorem xt_eqD (hu : X.A.units + 64 < cLine) (h1 : XD X e env d1) (h2 : XD X e2 env d2) (s1 : SeqAt.shaped d1 = true) (s2 : SeqAt.shaped d2 = true) : XT X (.Compare e [.Eq] [e2] pos) env (PyData.eqv d1 d2) :=
  cmpT (op := .Lt) (pt_cmpR (op_eqD hu) e_w e_w (nomark _)) h1 h2 fun F H v w fr p1 p2 Q q => ⟨d1, d2, dp_mono fr p1, dp_mono fr p2, s1, s2, q _ F H (Gro.refl fr) (.bl _)⟩
theorem xt_neD (hu : X.A.units + 64 < cLine) (h1 : XD X e env d1) (h2 : XD X e2 env d2) (s1 : SeqAt.shaped d1 = true) (s2 : SeqAt.shaped d2 = true) : XT X (.Compare e [.NotEq] [e2] pos) env (!PyData.eqv d1 d2) :=
  cmpT (op := .Lt) (pt_cmpR (op_neD hu) e_w e_w (nomark _)) h1 h2 fun F H v w fr p1 p2 Q q => ⟨d1, d2, dp_mono fr p1, dp_mono fr p2, s1, s2, q _ F H (Gro.refl fr) (.bl _)⟩
theorem xt_isN {j} (h1 : XD X e env d) : XT X (.Compare e [.Is] [.Constant .none j p] pos) env (isNonD d) :=
  cmpT (op := .Lt) (pt_cmpR op_isN e_w e_w (nomark _)) h1 xd_non fun F H v w fr p1 p2 Q q => ⟨dN p2, by rw [dp_non p1]; exact q _ F H (Gro.refl fr) (.bl _)⟩
theorem xt_notN {j} (h1 : XD X e env d) : XT X (.Compare e [.IsNot] [.Constant .none j p] pos) env (!isNonD d) :=
  cmpT (op := .Lt) (pt_cmpR op_notN e_w e_w (nomark _)) h1 xd_non fun F H v w fr p1 p2 Q q => ⟨dN p2, by rw [dp_non p1]; exact q _ F H (Gro.refl fr) (.bl _)⟩
theorem xt_not {b : Bool} (h : XT X e env b) : XT X (.UnaryOp .Not e pos) env (!b) := fun F0 H0 F σ H E Q q =>
  t_of (pt_not t_w) (h _ _ F σ H E _ fun F1 H1 g => q F1 H1 g)
theorem xw_and1 {b : Bool} (h : XT X e env b) : XW X (.BoolOp .And [e] pos) env b := fun F0 H0 F σ H E Q q => w_of (pw_and1 t_w) (h _ _ F σ H E _ q)
theorem xw_or1 {b : Bool} (h : XT X e env b) : XW X (.BoolOp .Or [e] pos) env b := fun F0 H0 F σ H E Q q => w_of (pw_or1 t_w) (h _ _ F σ H E _ q)
theorem xw_and {a b : Bool} (h1 : XT X e env a) (h2 : a = true → XW X (.BoolOp .And (e2 :: es) pos) env b) : XW X (.BoolOp .And (e :: e2 :: es) pos) env (a && b) := by
  intro F0 H0 F σ H E Q q
  refine w_of (pw_and t_w w_w) (h1 _ _ F σ H E _ fun F1 H1 g1 => ?_)
  cases a with
  | true => exact iteT (h2 rfl _ _ F1 σ H1 (E.grow g1) _ fun F2 H2 g2 => q F2 H2 (g1.trans g2))
  | false => exact iteF (q F1 H1 g1)
theorem xw_or {a b : Bool} (h1 : XT X e env a) (h2 : a = false → XW X (.BoolOp .Or (e2 :: es) pos) env b) : XW X (.BoolOp .Or (e :: e2 :: es) pos) env (a || b) := by
  intro F0 H0 F σ H E Q q
  refine w_of (pw_or t_w w_w) (h1 _ _ F σ H E _ fun F1 H1 g1 => ?_)
  cases a with
  | false => exact iteF (h2 rfl _ _ F1 σ H1 (E.grow g1) _ fun F2 H2 g2 => q F2 H2 (g1.trans g2))
  | true => exact iteT (q F1 H1 g1)
theorem XW.t {b : Bool} (h : XW X e env b) : XT X e env b := fun F0 H0 F σ H E Q q => t_of w_w.pt (h _ _ F σ H E _ q)
theorem XT.is {a b : Bool} (h : XT X e env a) (q : a = b) : XT X e env b := q ▸ h
/-! ### and, or, not as values of bools; if-else -/
theorem xd_one {op} (h : XD X e env d) : XD X (.BoolOp op [e] pos) env d := fun F0 H0 F σ H E Q q => e_of (pe_one e_w) (h _ _ F σ H E Q q)
theorem xd_and {a b : Bool} (h1 : XD X e env (.bool a)) (h2 : a = true → XD X (.BoolOp .And (e2 :: es) pos) env (.bool b)) : XD X (.BoolOp .And (e :: e2 :: es) pos) env (.bool (a && b)) := by
  intro F0 H0 F σ H E Q q
  refine e_of (pe_and e_w e_w) (h1 _ _ F σ H E _ fun v F1 H1 g1 p1 => ⟨a, dB p1, ?_⟩)
  cases a with
  | true => exact iteT (h2 rfl _ _ F1 σ H1 (E.grow g1) _ fun u F2 H2 g2 p2 => q u F2 H2 (g1.trans g2) p2)
  | false => exact iteF (q _ F1 H1 g1 (.bl _))
theorem xd_or {a b : Bool} (h1 : XD X e env (.bool a)) (h2 : a = false → XD X (.BoolOp .Or (e2 :: es) pos) env (.bool b)) : XD X (.BoolOp .Or (e :: e2 :: es) pos) env (.bool (a || b)) := by
  intro F0 H0 F σ H E Q q
  refine e_of (pe_or e_w e_w) (h1 _ _ F σ H E _ fun v F1 H1 g1 p1 => ⟨a, dB p1, ?_⟩)
  cases a with
  | false => exact iteF (h2 rfl _ _ F1 σ H1 (E.grow g1) _ fun u F2 H2 g2 p2 => q u F2 H2 (g1.trans g2) p2)
  | true => exact iteT (q _ F1 H1 g1 (.bl _))
theorem xd_not {a : Bool} (h1 : XD X e env (.bool a)) : XD X (.UnaryOp .Not e pos) env (.bool (!a)) := fun F0 H0 F σ H E Q q =>
  e_of (pe_not e_w) (h1 _ _ F σ H E _ fun v F1 H1 g1 p1 => ⟨a, dB p1, q _ F1 H1 g1 (.bl _)⟩)
theorem xd_ifx {b : Bool} {c : Expr} (h : XT X c env b) (h1 : b = true → XD X e env d1) (h2 : b = false → XD X e2 env d2) : XD X (.IfExp c e e2 pos) env (if b = true then d1 else d2) := by
  intro F0 H0 F σ H E Q q
  refine e_of (pe_ifExp t_w e_w e_w) (h _ _ F σ H E _ fun F1 H1 g1 => ?_)
  cases b with
  | true => exact iteT (h1 rfl _ _ F1 σ H1 (E.grow g1) _ fun u F2 H2 g2 p2 => q u F2 H2 (g1.trans g2) p2)
  | false => exact iteF (h2 rfl _ _ F1 σ H1 (E.grow g1) _ fun u F2 H2 g2 p2 => q u F2 H2 (g1.trans g2) p2)

/-! ### arguments, displays -/
theorem xa_nil : XA X [] env [] := fun F0 H0 F σ H E Q q => a_of pa_nil (q [] F H E.rfl' .nil)
theorem xa_cons {ds : List PyData} (h : XD X e env d) (hr : XA X es env ds) (hs : starEach (e :: es) X.env = (false, eval e X.env) :: starEach es X.env := by rfl) : XA X (e :: es) env (d :: ds) := by
  intro F0 H0 F σ H E Q q
  refine a_of (pa_cons e_w a_w hs) ?_
  refine h _ _ F σ H E _ fun v F1 H1 g1 p1 => ?_
  exact hr _ _ F1 σ H1 (E.grow g1) _ fun vs F2 H2 g2 p2 => q _ F2 H2 (g1.trans g2) (.cons (dp_mono g2.f p1) p2)
theorem xd_tup {ds : List PyData} {j} (h : XA X es env ds) (hz : ds.length ≤ sizeLine := by first | decide | (simp only [List.length_cons, List.length_nil]; decide)) : XD X (.Tuple es j pos) env (.tuple ds) := by
  intro F0 H0 F σ H E Q q
  refine e_of (pe_tup a_w) (h _ _ F σ H E _ fun vs F1 H1 g1 p1 => ⟨by rw [dpAll_len p1]; exact hz, fun p hp => ?_⟩)
  have g := Gro.new (o := .tup vs) g1.fr hp
  exact q _ _ _ (g1.trans g) (.tup (.inl (.inl upd_same)) (dpAll_mono g.f p1))
theorem xl_lst {ds : List PyData} (h : XA X es env ds) (hz : ds.length ≤ sizeLine := by first | decide | (simp only [List.length_cons, List.length_nil]; decide)) : XL X (.List es pos) env ds := by
  intro F0 H0 F σ H E Q q
  refine e_of (pe_lst a_w) (h _ _ F σ H E _ fun vs F1 H1 g1 p1 => ⟨by rw [dpAll_len p1]; exact hz, fun p hp => ?_⟩)
  exact q p vs F1 _ (g1.trans (Gro.own g1.fr hp)) (g1.h.free hp) (g1.fr.free hp) upd_same p1
theorem XL.dat {ds : List PyData} (h : XL X e env ds) : XD X e env (.list ds) := by
  intro F0 H0 F σ H E Q q
  refine h _ _ F σ H E _ fun p vs F1 H1 g1 hp fp h1 p1 => ?_
  have s1 : Same F1 (upd F1 p (.lst vs)) := same_new fp
  refine q _ (upd F1 p (.lst vs)) H1 ⟨g1.f.trans s1, g1.h, fun b u z => ?_, fun b z1 z2 => ?_⟩ (.lst (.inl (.inl upd_same)) (dpAll_mono s1 p1))
  · by_cases e1 : b = p
    · subst e1; rw [upd_same] at z; cases z; exact h1
    · rw [upd_ne e1] at z; exact g1.fr b u z
  · have e1 : b ≠ p := fun z => z1 (z ▸ hp)
    rw [upd_ne e1]; exact g1.sep b z1 z2
theorem xd_lst {ds : List PyData} (h : XA X es env ds) (hz : ds.length ≤ sizeLine := by first | decide | (simp only [List.length_cons, List.length_nil]; decide)) : XD X (.List es pos) env (.list ds) := XL.dat (xl_lst h hz)
end
end FR

namespace FR
open PySem PySem.Spec PyProof.Rows L2

/-! ## statements -/
section
variable {X : Cx} {e e2 e3 tg iter : Expr} {es : List Expr} {st : Stmt} {ss body : List Stmt} {env : AEnv} {d d1 d2 : PyData} {A : AE} {pos p p2 : Pos}

theorem Lk.then {K : PySem.W.Frag} {F0 H0 : Hp} {A : AE} {D : Ends} (l : Lk K F0 H0 A D) {N : AEnv → Prop} {M : L2.St → Hp → Prop} (h : ∀ env F σ H, EnvAt K F0 H0 F σ H env → N env → M σ H) : Lk K F0 H0 { A with nx := N } { D with nx := M } :=
  ⟨h, l.rt, l.bk, l.ct⟩
theorem xb_nil (h : A.nx env) : XB X [] env A := fun F0 H0 F σ H D E l => b_of pss_nil (l.nx env F σ H E h)
theorem xb_cons (h : XS X st env { A with nx := fun env' => XB X ss env' A }) : XB X (st :: ss) env A := fun F0 H0 F σ H D E l =>
  b_of (pss_cons s_w b_w) (h F0 H0 F σ H { D with nx := wB X ss D } E (l.then fun env' F' σ' H' E' q => q F0 H0 F' σ' H' D E' l))
/-- a block by its middle -/
theorem xb_cut {M : AEnv → Prop} (h : XS X st env { A with nx := M }) (k : ∀ env', M env' → XB X ss env' A) : XB X (st :: ss) env A := fun F0 H0 F σ H D E l =>
  b_of (pss_cons s_w b_w) (h F0 H0 F σ H { D with nx := wB X ss D } E (l.then fun env' F' σ' H' E' q => k env' q F0 H0 F' σ' H' D E' l))
theorem xb_weak {env' : AEnv} (h : XB X ss env' A) (hl : env'.length = env.length := by rfl) (w : ∀ (i : Nat) (av : AV), env'[i]? = some (some av) → env[i]? = some (some av)) : XB X ss env A := fun F0 H0 F σ H D E l =>
  h F0 H0 F σ H D (E.forget hl w) l
theorem xb_freeze (i : Nat) {xs : List PyData} (hi : env[i]? = some (some (.l xs))) (h : XB X ss (env.set i (some (.d (.list xs)))) A) : XB X ss env A := fun F0 H0 F σ H D E l => by
  obtain ⟨F', E', _⟩ := E.freeze hi
  exact h F0 H0 F' σ H D E' l
theorem xs_ret (h : XD X e env d) (hr : A.rt d) : XS X (.Return (some e) pos) env A := fun F0 H0 F σ H D E l =>
  s_of (ps_ret e_w) (h _ _ F σ H E _ fun v F1 H1 g1 p1 => l.rt v d F1 H1 (E.gro.trans g1) p1 hr)
theorem xs_retN (hr : A.rt .none) : XS X (.Return none pos) env A := fun F0 H0 F σ H D E l => s_of ps_retN (l.rt _ _ F H E.gro .non hr)
theorem xs_if {b : Bool} {a c : List Stmt} (h : XT X e env b) (h1 : b = true → XB X a env A) (h2 : b = false → XB X c env A) : XS X (.If e a c pos) env A := fun F0 H0 F σ H D E l => by
  refine s_of (ps_if t_w b_w b_w) (h _ _ F σ H E _ fun F1 H1 g1 => ?_)
  cases b with
  | true => exact iteT (h1 rfl F0 H0 F1 σ H1 D (E.grow g1) l)
  | false => exact iteF (h2 rfl F0 H0 F1 σ H1 D (E.grow g1) l)
theorem xs_pass (h : A.nx env) : XS X (.Pass pos) env A := fun F0 H0 F σ H D E l => s_of ps_pass (l.nx env F σ H E h)
theorem xs_break (h : A.bk env) : XS X (.Break pos) env A := fun F0 H0 F σ H D E l => s_of ps_break (l.bk env F σ H E h)
theorem xs_cont (h : A.ct env) : XS X (.Continue pos) env A := fun F0 H0 F σ H D E l => s_of ps_continue (l.ct env F σ H E h)
theorem xs_drop (h : XD X e env d) (hn : A.nx env) (hs : swapsWith e none pos.line X.env = pure false := by rfl) : XS X (.Expr e pos) env A := fun F0 H0 F σ H D E l =>
  s_of (ps_expr e_w hs) (h _ _ F σ H E _ fun v F1 H1 g1 p1 => l.nx env F1 σ H1 (E.grow g1) hn)
/-- name = data -/
theorem xs_set {i : Nat} {x : Str} (h : XD X e env d) (hn : A.nx (env.set i (some (.d d)))) (hN : X.N.Nodup) (hi : X.N[i]? = some x := by rfl) (hx : Loc X.env.scope x := by first | exact .inl rfl | exact .inr rfl)
    (hs : swapsWith e (some (.Name x p)) pos.line X.env = pure false := by rfl) (hf : X.fn x = true ∨ X.env.scope.names.lookup x = some .local := by first | exact .inl rfl | exact .inr rfl) : XS X (.Assign [.Name x p] e pos) env A := fun F0 H0 F σ H D E l =>
  s_of (ps_set hN hi hx e_w hs hf) (h _ _ F σ H E _ fun v F1 H1 g1 p1 => l.nx _ F1 _ H1 ((E.grow g1).set (av := .d d) p1 rfl) hn)
theorem xs_setP {i : Nat} {x : Str} {φ : Hp → V → Prop} (hφ : ∀ H H' v, Same H H' → φ H v → φ H' v) (h : XP X e env φ) (hn : A.nx (env.set i (some (.p φ hφ)))) (hN : X.N.Nodup) (hi : X.N[i]? = some x := by rfl) (hx : Loc X.env.scope x := by first | exact .inl rfl | exact .inr rfl)
    (hs : swapsWith e (some (.Name x p)) pos.line X.env = pure false := by rfl) (hf : X.fn x = true ∨ X.env.scope.names.lookup x = some .local := by first | exact .inl rfl | exact .inr rfl) : XS X (.Assign [.Name x p] e pos) env A := fun F0 H0 F σ H D E l =>
  s_of (ps_set hN hi hx e_w hs hf) (h _ _ F σ H E _ fun v F1 H1 g1 p1 => l.nx _ F1 _ H1 ((E.grow g1).set (av := .p φ hφ) p1 rfl) hn)
theorem EnvAt.notNew {K : PySem.W.Frag} {F0 H0 F : Hp} {σ : L2.St} {H : Hp} {env : AEnv} (E : EnvAt K F0 H0 F σ H env) {a : Addr} (h : H a = none) : ∀ (j : Nat) (aw : AV), env[j]? = some (some aw) → aw.owned = true → σ[j]? ≠ some (some (.ref a)) := fun j aw q o s =>
  absurd h (E.mine j aw a q o s).2.2
/-- name = a new list, one's own -/
theorem xs_setL {i : Nat} {x : Str} {xs : List PyData} (h : XL X e env xs) (hn : A.nx (env.set i (some (.l xs)))) (hN : X.N.Nodup) (hi : X.N[i]? = some x := by rfl) (hx : Loc X.env.scope x := by first | exact .inl rfl | exact .inr rfl)
    (hs : swapsWith e (some (.Name x p)) pos.line X.env = pure false := by rfl) (hf : X.fn x = true ∨ X.env.scope.names.lookup x = some .local := by first | exact .inl rfl | exact .inr rfl) : XS X (.Assign [.Name x p] e pos) env A := fun F0 H0 F σ H D E l => by
  refine s_of (ps_set hN hi hx e_w hs hf) (h _ _ F σ H E _ fun a vs F1 H1 g1 n1 n2 e1 p1 => ?_)
  refine l.nx _ F1 _ H1 ((E.grow g1).setOwn (av := .l xs) ⟨a, vs, rfl, e1, p1⟩ (E.gro.h.free n1) n2 (by rw [e1]; exact fun z => nomatch z) fun j aw _ q o => ?_) hn
  exact E.notNew n1 j aw q o
/-- name op= data -/
theorem xs_aug {i : Nat} {x : Str} {op : Operator} {r : TIp} (hv : env[i]? = some (some (.d d1))) (h : XD X e env d2) (ho : PIp X op r) (hr : OpD X.K r d1 d2 d) (hn : A.nx (env.set i (some (.d d)))) (hN : X.N.Nodup) (hi : X.N[i]? = some x := by rfl) (hx : Loc X.env.scope x := by first | exact .inl rfl | exact .inr rfl)
    (hf : X.fn x = true ∨ X.env.scope.names.lookup x = some .local := by first | exact .inl rfl | exact .inr rfl) : XS X (.AugAssign (.Name x p) op e pos) env A := fun F0 H0 F σ H D E l => by
  obtain ⟨v, s1, pv⟩ := E.slot i _ hv
  refine s_of (ps_aug hN hi hx e_w ho hf) ⟨v, s1, h _ _ F σ H E _ fun w F1 H1 g1 p1 => ?_⟩
  exact hr F1 H1 v w g1.fr (dp_mono g1.f pv) p1 _ fun u F2 H2 g2 p2 => l.nx _ F2 _ H2 ((E.grow (g1.trans g2)).set (av := .d d) p2 rfl) hn
/-- xs.append(e), xs one's own -/
theorem xs_append {i : Nat} {x : Str} {xs : List PyData} {apos cpos : Pos} (hv : env[i]? = some (some (.l xs))) (h : XD X e env d) (hz : xs.length < sizeLine) (hn : A.nx (env.set i (some (.l (xs ++ [d]))))) (hN : X.N[i]? = some x := by rfl) (hs : Vis X.env.scope x := by first | exact Or.inl rfl | exact Or.inr (Or.inl rfl) | exact Or.inr (Or.inr rfl))
    (hd : (x == ("__debug__" : Str)) = false := by decide) (hc : (x == ("__classdict__" : Str)) = false := by decide)
    (hbase : attributeBase (.Name x p) "append" X.env (eval (.Name x p) X.env) = eval (.Name x p) X.env := by rfl)
    (hfew : ((backTo cpos (starEach [e] X.env)).all (fun x => !x.1) && (backToKw cpos (keywordEach [] X.env)).all (fun x => x.1.isSome)
      && decide ([e].length + ([] : List Keyword).length + (if ([] : List Keyword).isEmpty then 0 else 1) < 30)) = true := by rfl)
    (hline : (apos.endLine == cpos.line) = true := by rfl) (hst : starEach [e] X.env = (false, eval e X.env) :: starEach [] X.env := by rfl) (hplain : (backTo cpos (starEach [] X.env)).any (·.1) = false := by rfl)
    (hsw : swapsWith (.Call (.Attribute (.Name x p) "append" apos) [e] [] cpos) none pos.line X.env = pure false := by rfl) :
    XS X (.Expr (.Call (.Attribute (.Name x p) "append" apos) [e] [] cpos) pos) env A := fun F0 H0 F σ H D E l => by
  obtain ⟨v, s1, a, vs, ea, h1, h2⟩ := E.slot i _ hv
  cases ea
  refine s_of (ps_expr (pe_bm PySem.F.plainAttrs_list PySem.F.slot_list_append PySem.F.type_list_append mt_append (pe_var hN hs hd hc) (pa_cons e_w pa_nil hst) hbase hfew hline hst hplain) hsw) ?_
  refine ⟨_, s1, .inl ⟨rfl, _, .inl (.inl h1)⟩, ?_⟩
  refine h _ _ F σ H E _ fun w F1 H1 g1 p1 => ?_
  refine ⟨a, vs, w, rfl, rfl, g1.h _ _ h1, by rw [dpAll_len h2]; exact hz, ?_⟩
  have E1 := E.grow g1
  exact l.nx _ F1 σ _ (E1.change (av' := .l (xs ++ [d])) hv rfl s1 ⟨a, _, rfl, upd_same, dpAll_append (dpAll_mono g1.f h2) (.cons p1 .nil)⟩) hn

/-! ## targets -/
structure wG (X : Cx) (tg : Expr) (v : V) (σ : L2.St) (H : Hp) (Q : L2.St → Hp → Prop) : Prop where
  run : ∀ pins s u, Inv X pins σ H s → RelV v u → wpAny (model X.prog X.w) X.A (assign tg X.env u) (fun _ s' => ∃ σ' H', Inv X pins σ' H' s' ∧ Q σ' H') X.xe s
theorem g_w : PG X tg (wG X tg) := ⟨fun pins s σ H v u Q I r h => h.run pins s u I r⟩
theorem g_of {t : TG} (h : PG X tg t) {v : V} {σ : L2.St} {H : Hp} {Q : L2.St → Hp → Prop} (q : t v σ H Q) : wG X tg v σ H Q := ⟨fun pins s u I r => h.run pins s σ H v u Q I r q⟩
/-- data stored in a target, the slots js alone touched -/
def XG (X : Cx) (tg : Expr) (js : List Nat) (env : AEnv) (d : PyData) (env' : AEnv) : Prop :=
  ∀ F0 H0 F σ H v, EnvAt X.K F0 H0 F σ H env → Dp X.K F v d → ∀ Q : L2.St → Hp → Prop, (∀ σ' F' H', Gro F H F' H' → EnvAt X.K F0 H0 F' σ' H' env' → (∀ j, j ∉ js → σ'[j]? = σ[j]?) ∧ σ'.length = σ.length → Q σ' H') → wG X tg v σ H Q
theorem xg_name {i : Nat} {x : Str} {js : List Nat} (hN : X.N.Nodup) (hi : X.N[i]? = some x := by rfl) (hx : Loc X.env.scope x := by first | exact .inl rfl | exact .inr rfl)
    (hf : X.fn x = true ∨ X.env.scope.names.lookup x = some .local := by first | exact .inl rfl | exact .inr rfl) (hj : i ∈ js := by simp) : XG X (.Name x p) js env d (env.set i (some (.d d))) := fun F0 H0 F σ H v E h Q q =>
  g_of (pg_name hN hi hx hf) (q _ F H E.rfl' (E.set (av := .d d) h rfl) ⟨fun j n => List.getElem?_set_ne (fun z => n (by rw [← z]; exact hj)), List.length_set⟩)
/-- several targets -/
def XGs (X : Cx) (tgs : List Expr) (js : List Nat) (env : AEnv) (ds : List PyData) (env' : AEnv) : Prop :=
  ∃ ts : TGs, PGs X tgs ts ∧ ∀ F0 H0 F σ H vs, EnvAt X.K F0 H0 F σ H env → DpAll X.K F vs ds → ∀ Q : L2.St → Hp → Prop, (∀ σ' F' H', Gro F H F' H' → EnvAt X.K F0 H0 F' σ' H' env' → (∀ j, j ∉ js → σ'[j]? = σ[j]?) ∧ σ'.length = σ.length → Q σ' H') → ts vs σ H Q
theorem xgs_nil {js : List Nat} : XGs X [] js env [] env := ⟨_, pgs_nil, fun F0 H0 F σ H vs E h Q q => by
  cases h
  exact ⟨rfl, q σ F H E.rfl' E ⟨fun _ _ => rfl, rfl⟩⟩⟩
theorem xgs_cons {js : List Nat} {env1 env2 : AEnv} {ds : List PyData} (h1 : XG X e js env d env1) (h2 : XGs X es js env1 ds env2) (hs : (assignEach (e :: es) X.env).map (·.2) = assign e X.env :: (assignEach es X.env).map (·.2) := by rfl) :
    XGs X (e :: es) js env (d :: ds) env2 := by
  obtain ⟨ts, hp, ht⟩ := h2
  refine ⟨_, pgs_cons g_w hp hs, fun F0 H0 F σ H vs E h Q q => ?_⟩
  cases h with
  | cons ha hb =>
    refine ⟨_, _, rfl, h1 F0 H0 F σ H _ E ha _ fun σ1 F1 H1 g1 E1 k1 => ?_⟩
    exact ht F0 H0 F1 σ1 H1 _ E1 (dpAll_mono g1.f hb) Q fun σ2 F2 H2 g2 E2 k2 => q σ2 F2 H2 (g1.trans g2) E2 ⟨fun j n => (k2.1 j n).trans (k1.1 j n), k2.2.trans k1.2⟩
theorem xg_tup {js : List Nat} {env2 : AEnv} {ds : List PyData} {k : Nat} (hc : X.calm = true) (h : XGs X es js env ds env2) (hn : (assignEach es X.env).length = ds.length := by rfl) (hst : (assignEach es X.env).findIdx? (·.1) = none := by rfl) :
    XG X (.Tuple es k p) js env (.tuple ds) env2 := fun F0 H0 F σ H v E hd Q q => by
  obtain ⟨ts, hp, ht⟩ := h
  obtain ⟨a, vs, rfl, h1, h2⟩ := dT hd
  refine g_of (pg_tup hc hp hn hst) ⟨a, vs, rfl, ?_, dpAll_len h2, ht F0 H0 F σ H vs E h2 Q q⟩
  rcases h1 with (z | ⟨o, z⟩) | z
  · exact .inl (.inl (E.fr _ _ z))
  · exact .inl (.inr ⟨o, E.fr _ _ z⟩)
  · exact .inr z
theorem xs_asg {js : List Nat} {env2 : AEnv} (h : XD X e env d) (hg : XG X tg js env d env2) (hn : A.nx env2) (hs : swapsWithSole [tg] e pos.line X.env = pure false := by rfl) (hw : swappedStores [tg] e X.env = pure none := by rfl)
    (h1 : (assignEach [tg] X.env).map (·.2) = [assign tg X.env] := by rfl) : XS X (.Assign [tg] e pos) env A := fun F0 H0 F σ H D E l =>
  s_of (ps_asg e_w g_w hs hw h1) (h _ _ F σ H E _ fun v F1 H1 g1 p1 => hg F0 H0 F1 σ H1 v (E.grow g1) p1 _ fun σ2 F2 H2 g2 E2 _ => l.nx _ F2 σ2 H2 E2 hn)

/-! ## walks -/
/-- an iterator gives n things, each data (where F is so) -/
def ItD (K : PySem.W.Frag) (F1 : Hp) (J : It) (n : Nat) (it : Nat → PyData) : Prop :=
  ∀ F H, Same F1 F → Same F H → (∀ i, i < n → J.go i H ∧ ∀ x H', J.yld i H x H' → ∃ F', Gro F H F' H' ∧ Dp K F' x (it i)) ∧ J.stop n H
def XI (X : Cx) (tg iter : Expr) (env : AEnv) (n : Nat) (it : Nat → PyData) : Prop :=
  ∀ F0 H0 F σ H, EnvAt X.K F0 H0 F σ H env → ∀ R : It → Hp → Prop, (∀ J F1 H1, Gro F H F1 H1 → ItD X.K F1 J n it → R J H1) → wI X tg iter σ H R
theorem seqT_mono {K : PySem.W.Frag} {H H' : Hp} {a : Addr} {xs : List V} (e : Same H H') (h : SqT K H a xs) : SqT K H' a xs := by
  rcases h with (z | ⟨o, z⟩) | z
  · exact .inl (.inl (e _ _ z))
  · exact .inl (.inr ⟨o, e _ _ z⟩)
  · exact .inr z
theorem seqL_inj {K : PySem.W.Frag} {H : Hp} {a : Addr} {xs ys : List V} (h : H a = some (.lst xs)) (h' : SqL K H a ys) (hk : K.lookup a = none) : xs = ys := by
  rcases h' with (z | ⟨o, z⟩) | ⟨o, its, n, z, _⟩
  · rw [h] at z; cases z; rfl
  · rw [h] at z; cases z
  · rw [hk] at z; cases z
theorem getD_of {α : Type} {xs : List α} {i : Nat} {x z : α} (h : xs[i]? = some x) : xs.getD i z = x := by
  rw [List.getD_eq_getElem?_getD, h]; rfl
theorem xi_list {ds : List PyData} (h : XD X iter env (.list ds)) : XI X tg iter env ds.length (fun i => ds.getD i .none) := fun F0 H0 F σ H E R q => by
  refine i_of (pi_list e_w) (h _ _ F σ H E _ fun v F1 H1 g1 p1 => ?_)
  obtain ⟨a, vs, rfl, h1, h2⟩ := dL p1
  refine ⟨a, rfl, ⟨vs, g1.fr.seq h1⟩, q _ F1 H1 g1 fun F2 H2 s1 s2 => ⟨fun i hi => ?_, ⟨vs, (s1.trans s2).seq h1, Nat.le_of_eq (dpAll_len h2)⟩⟩⟩
  have hi' : i < vs.length := by rw [dpAll_len h2]; exact hi
  refine ⟨⟨vs, vs[i], (s1.trans s2).seq h1, List.getElem?_eq_getElem hi'⟩, fun x H' ⟨e1, e2⟩ => ⟨F2, by rw [e1]; exact Gro.refl s2, ?_⟩⟩
  obtain ⟨d, hd, hp⟩ := dpAll_getV h2 (e2 vs ((s1.trans s2).seq h1))
  have e3 : ds.getD i .none = d := getD_of hd
  show Dp X.K F2 x (ds.getD i .none)
  rw [e3]
  exact dp_mono s1 hp
theorem xi_tup {ds : List PyData} (h : XD X iter env (.tuple ds)) : XI X tg iter env ds.length (fun i => ds.getD i .none) := fun F0 H0 F σ H E R q => by
  refine i_of (pi_tup e_w) (h _ _ F σ H E _ fun v F1 H1 g1 p1 => ?_)
  obtain ⟨a, vs, rfl, h1, h2⟩ := dT p1
  refine ⟨a, rfl, ⟨vs, seqT_mono g1.fr h1⟩, q _ F1 H1 g1 fun F2 H2 s1 s2 => ⟨fun i hi => ?_, ⟨vs, seqT_mono (s1.trans s2) h1, Nat.le_of_eq (dpAll_len h2)⟩⟩⟩
  have hi' : i < vs.length := by rw [dpAll_len h2]; exact hi
  refine ⟨⟨vs, vs[i], seqT_mono (s1.trans s2) h1, List.getElem?_eq_getElem hi'⟩, fun x H' ⟨e1, e2⟩ => ⟨F2, by rw [e1]; exact Gro.refl s2, ?_⟩⟩
  obtain ⟨d, hd, hp⟩ := dpAll_getV h2 (e2 vs (seqT_mono (s1.trans s2) h1))
  have e3 : ds.getD i .none = d := getD_of hd
  show Dp X.K F2 x (ds.getD i .none)
  rw [e3]
  exact dp_mono s1 hp
theorem itd_rng {K : PySem.W.Frag} {F1 : Hp} {lo : Int} {n : Nat} : ItD K F1 (Itr lo n) n (fun i => .int (lo + i)) := fun F H s1 s2 =>
  ⟨fun i hi => ⟨hi, fun x H' ⟨e1, e2⟩ => ⟨F, by rw [e1]; exact Gro.refl s2, by rw [e2]; exact .int _⟩⟩, Nat.le_refl n⟩
theorem xi_rng1 {j : Int} (h : XD X e env (.int j)) (hb : -(2 ^ 62) ≤ j ∧ j < 2 ^ 62) (hm : X.mg "range" = none) (hg : Gl X "range" := by rfl) (hs : starEach [e] X.env = [(false, eval e X.env)] := by rfl) :
    XI X tg (.Call (.Name "range" p) [e] [] pos) env j.toNat (fun i => .int (0 + (i : Int))) := fun F0 H0 F σ H E R q =>
  i_of (pi_range1 hg hm (pa_cons e_w pa_nil hs) hs) (h _ _ F σ H E _ fun v F1 H1 g1 p1 => ⟨j, by rw [dI p1], hb.1, hb.2, q _ F1 H1 g1 itd_rng⟩)
theorem xi_rng2 {i j : Int} (h : XD X e env (.int i)) (h' : XD X e2 env (.int j)) (hb : -(2 ^ 62) ≤ i ∧ i < 2 ^ 62 ∧ -(2 ^ 62) ≤ j ∧ j < 2 ^ 62) (hm : X.mg "range" = none) (hg : Gl X "range" := by rfl)
    (hs : starEach [e, e2] X.env = [(false, eval e X.env), (false, eval e2 X.env)] := by rfl) (hs2 : starEach [e2] X.env = [(false, eval e2 X.env)] := by rfl) :
    XI X tg (.Call (.Name "range" p) [e, e2] [] pos) env (j - i).toNat (fun k => .int (i + (k : Int))) := fun F0 H0 F σ H E R q =>
  i_of (pi_range2 hg hm (pa_cons e_w (pa_cons e_w pa_nil hs2) (by rw [hs, hs2])) hs hs2) (h _ _ F σ H E _ fun v F1 H1 g1 p1 => h' _ _ F1 σ H1 (E.grow g1) _ fun w F2 H2 g2 p2 =>
    ⟨i, j, by rw [dI p1, dI p2], hb, q _ F2 H2 (g1.trans g2) itd_rng⟩)
theorem xi_str {z : Str} (h : XD X iter env (.str z)) : XI X tg iter env z.cps.size (fun i => .str ⟨#[z.cps.getD i 0]⟩) := fun F0 H0 F σ H E R q => by
  refine i_of (pi_str e_w) (h _ _ F σ H E _ fun v F1 H1 g1 p1 => ⟨z, dS p1, q _ F1 H1 g1 fun F2 H2 s1 s2 => ⟨fun i hi => ⟨hi, fun x H' ⟨e1, c, e2, e3⟩ => ⟨F2, by rw [e1]; exact Gro.refl s2, ?_⟩⟩, Nat.le_refl _⟩⟩)
  have : z.cps.getD i 0 = c := by simp [Array.getD_eq_getD_getElem?, e2]
  show Dp X.K F2 x (.str ⟨#[z.cps.getD i 0]⟩)
  rw [e3, this]
  exact .str _

/-- the entry moved to here -/
def joinH (H0 F : Hp) : Hp := fun b => match F b with
  | some o => some o
  | none => H0 b
theorem join_of {H0 F : Hp} {b : Addr} {o : HO} (h : joinH H0 F b = some o) : F b = some o ∨ (F b = none ∧ H0 b = some o) := by
  unfold joinH at h
  cases q : F b with
  | none => rw [q] at h; exact .inr ⟨rfl, h⟩
  | some u => rw [q] at h; exact .inl h
theorem join_none {H0 F : Hp} {b : Addr} (h1 : F b = none) (h2 : H0 b = none) : joinH H0 F b = none := by
  unfold joinH; rw [h1]; exact h2
theorem join_none' {H0 F : Hp} {b : Addr} (h : joinH H0 F b = none) : F b = none ∧ H0 b = none := by
  unfold joinH at h
  cases q : F b with
  | none => rw [q] at h; exact ⟨rfl, h⟩
  | some u => rw [q] at h; cases h
theorem EnvAt.rebase {K : PySem.W.Frag} {F0 H0 F : Hp} {σ : L2.St} {H : Hp} {env : AEnv} (E : EnvAt K F0 H0 F σ H env) : EnvAt K F (joinH H0 F) F σ H env where
  gro := ⟨Same.refl F, fun b o h => (join_of h).elim (E.fr b o) fun ⟨_, z⟩ => E.gro.h b o z, E.fr, fun a h1 h2 => h2⟩
  len := E.len
  slot := E.slot
  mine := fun i av a q o s => by
    obtain ⟨z1, z2, z3⟩ := E.mine i av a q o s
    exact ⟨join_none z2 z1, z2, z3⟩
  apart := E.apart
theorem gro_unbase {F0 H0 F H F' H' : Hp} (g0 : Gro F0 H0 F H) (g : Gro F (joinH H0 F) F' H') : Gro F0 H0 F' H' := by
  refine ⟨g0.f.trans g.f, fun b o h => ?_, g.fr, fun a h1 h2 => ?_⟩
  · cases q : F b with
    | none => exact g.h b o (by unfold joinH; rw [q]; exact h)
    | some u =>
      have e1 := g0.h b o h
      have e2 := g0.fr b u q
      rw [e1] at e2
      cases e2
      exact g.h b o (by unfold joinH; rw [q])
  · have e1 := g0.sep a h1 h2
    exact g.sep a (fun z => h1 (join_none' z).2) e1
theorem EnvAt.unbase {K : PySem.W.Frag} {F0 H0 F F' : Hp} {σ σ' : L2.St} {H H' : Hp} {env env' : AEnv} (E : EnvAt K F0 H0 F σ H env) (E' : EnvAt K F (joinH H0 F) F' σ' H' env') : EnvAt K F0 H0 F' σ' H' env' ∧ Same F F' :=
  ⟨⟨gro_unbase E.gro E'.gro, E'.len, E'.slot, fun i av a q o s => by
    obtain ⟨z1, z2, z3⟩ := E'.mine i av a q o s
    exact ⟨(join_none' z1).2, z2, z3⟩, E'.apart⟩, E'.gro.f⟩
/-- a block, what was fixed ahead of it stays fixed -/
theorem XB.run (h : XB X ss env A) {F0 H0 F H : Hp} {σ : L2.St} {D : Ends} (E : EnvAt X.K F0 H0 F σ H env)
    (nx : ∀ env' F' σ' H', EnvAt X.K F0 H0 F' σ' H' env' → Same F F' → A.nx env' → D.nx σ' H') (rt : ∀ v d F' H', Gro F0 H0 F' H' → Dp X.K F' v d → A.rt d → D.rt v H')
    (bk : ∀ env' F' σ' H', EnvAt X.K F0 H0 F' σ' H' env' → Same F F' → A.bk env' → D.bk σ' H') (ct : ∀ env' F' σ' H', EnvAt X.K F0 H0 F' σ' H' env' → Same F F' → A.ct env' → D.ct σ' H') : wB X ss D σ H :=
  h F (joinH H0 F) F σ H D E.rebase ⟨fun env' F' σ' H' E' q => let ⟨a, b⟩ := E.unbase E'; nx env' F' σ' H' a b q, fun v d F' H' g p q => rt v d F' H' (gro_unbase E.gro g) p q,
    fun env' F' σ' H' E' q => let ⟨a, b⟩ := E.unbase E'; bk env' F' σ' H' a b q, fun env' F' σ' H' E' q => let ⟨a, b⟩ := E.unbase E'; ct env' F' σ' H' a b q⟩

/-- for target in iter: body -/
theorem xs_for {n : Nat} {it : Nat → PyData} {js : List Nat} (hi : XI X tg iter env n it) (Iv : Nat → AEnv → Prop) (h0 : Iv 0 env)
    (hs : ∀ i env', i < n → Iv i env' → ∃ env2, XG X tg js env' (it i) env2 ∧ XB X body env2 { nx := Iv (i + 1), ct := Iv (i + 1), bk := A.nx, rt := A.rt }) (hd : ∀ env', Iv n env' → A.nx env')
    (hp : PassesOwn (model X.prog X.w) X.A X.env X.xe := by exact PassesOwn.never) (hc : X.calm = true := by rfl) (hfs : ∀ x, foldedSetIterable iter X.env x = pure x := by intro _; rfl) : XS X (.For tg iter body [] pos) env A := fun F0 H0 F σ H D E l => by
  refine s_of (ps_for hp hc i_w g_w b_w hfs) (hi _ _ F σ H E _ fun J F1 H1 g1 hJ => ?_)
  refine ⟨fun i m σ' H' => i + m = n ∧ ∃ F' env', EnvAt X.K F0 H0 F' σ' H' env' ∧ Same F1 F' ∧ Iv i env', ⟨n, Nat.zero_add n, F1, env, E.grow g1, Same.refl F1, h0⟩, fun i m σ' H' hW => ?_⟩
  obtain ⟨em, F', env', E', s', q'⟩ := hW
  by_cases hin : i < n
  · obtain ⟨hgo, hy⟩ := (hJ F' H' s' E'.fr).1 i hin
    refine .inr ⟨hgo, fun σ2 H2 => ∃ F2 env2, EnvAt X.K F0 H0 F2 σ2 H2 env2 ∧ Same F1 F2 ∧ Iv (i + 1) env2, fun σ2 H2 ⟨F2, env2, E2, s2, q2⟩ => ⟨m - 1, by omega, by omega, F2, env2, E2, s2, q2⟩, fun x H2 hx => ?_⟩
    obtain ⟨F2, g2, p2⟩ := hy x H2 hx
    obtain ⟨env2, hg, hb⟩ := hs i env' hin q'
    refine hg F0 H0 F2 σ' H2 x (E'.grow g2) p2 _ fun σ3 F3 H3 g3 E3 _ => ?_
    have s3 : Same F1 F3 := s'.trans (g2.f.trans g3.f)
    exact hb.run E3 (fun env4 F4 σ4 H4 E4 s4 q4 => ⟨F4, env4, E4, s3.trans s4, q4⟩) (fun v d F4 H4 g4 p4 q4 => l.rt v d F4 H4 g4 p4 q4)
      (fun env4 F4 σ4 H4 E4 s4 q4 => l.nx env4 F4 σ4 H4 E4 q4) (fun env4 F4 σ4 H4 E4 s4 q4 => ⟨F4, env4, E4, s3.trans s4, q4⟩)
  · have e : i = n := by omega
    subst e
    exact .inl ⟨(hJ F' H' s' E'.fr).2, l.nx env' F' σ' H' E' (hd env' q')⟩
/-- while test: body; Iv by a measure -/
theorem xs_while {Iv : Nat → AEnv → Prop} (m0 : Nat) (h0 : Iv m0 env)
    (hs : ∀ m env', Iv m env' → ∃ b, XT X e env' b ∧ (b = true → XB X body env' { nx := fun env2 => ∃ m', m' < m ∧ Iv m' env2, ct := fun env2 => ∃ m', m' < m ∧ Iv m' env2, bk := A.nx, rt := A.rt }) ∧ (b = false → A.nx env'))
    (hp : PassesOwn (model X.prog X.w) X.A X.env X.xe := by exact PassesOwn.never) : XS X (.While e body [] pos) env A := fun F0 H0 F σ H D E l => by
  refine s_of (ps_while hp t_w b_w) ⟨fun m σ' H' => ∃ F' env', EnvAt X.K F0 H0 F' σ' H' env' ∧ Iv m env', ⟨m0, F, env, E, h0⟩, fun m σ' H' hW => ?_⟩
  obtain ⟨F', env', E', q'⟩ := hW
  obtain ⟨b, hb, h1, h2⟩ := hs m env' q'
  refine hb F0 H0 F' σ' H' E' _ fun F1 H1 g1 => ?_
  have E1 := E'.grow g1
  cases b with
  | true =>
    refine iteT ⟨fun σ2 H2 => ∃ m', m' < m ∧ ∃ F2 env2, EnvAt X.K F0 H0 F2 σ2 H2 env2 ∧ Iv m' env2, fun σ2 H2 q => q, ?_⟩
    exact h1 rfl F0 H0 F1 σ' H1 _ E1 ⟨fun env2 F2 σ2 H2 E2 ⟨m', hm, q⟩ => ⟨m', hm, F2, env2, E2, q⟩, l.rt, l.nx, fun env2 F2 σ2 H2 E2 ⟨m', hm, q⟩ => ⟨m', hm, F2, env2, E2, q⟩⟩
  | false => exact iteF (l.nx env' F1 σ' H1 E1 (h2 rfl))
end
end FR

namespace FR
open PySem PySem.Spec PyProof.Rows L2

/-! ## comprehensions -/
def wipeE (env : AEnv) : List Nat → AEnv
  | [] => env
  | v :: vs => (wipeE env vs).set v none
theorem wipeE_length (env : AEnv) : ∀ vs : List Nat, (wipeE env vs).length = env.length
  | [] => rfl
  | v :: vs => by unfold wipeE; rw [List.length_set, wipeE_length env vs]
theorem wipeE_some {env : AEnv} {i : Nat} {x : AV} : ∀ {vs : List Nat}, (wipeE env vs)[i]? = some (some x) → env[i]? = some (some x) ∧ i ∉ vs
  | [], h => ⟨h, by simp⟩
  | v :: vs, h => by
    unfold wipeE at h
    rcases set_get h with ⟨_, z⟩ | ⟨n, z⟩
    · cases z
    · obtain ⟨h1, h2⟩ := wipeE_some z
      exact ⟨h1, by simp only [List.mem_cons, not_or]; exact ⟨fun e => n e.symm, h2⟩⟩
theorem wipe_in {σ : L2.St} {i : Nat} : ∀ {vs : List Nat}, i ∈ vs → i < σ.length → (wipe σ vs)[i]? = some none
  | [], h, _ => by simp at h
  | v :: vs, h, hl => by
    unfold wipe
    by_cases e : v = i
    · subst e; exact List.getElem?_set_self (by rw [wipe_length]; exact hl)
    · rw [List.getElem?_set_ne e]
      exact wipe_in ((List.mem_cons.mp h).resolve_left fun z => e z.symm) hl
theorem wipe_again {σ σ2 : L2.St} {vs : List Nat} (h : ∀ j, j ∉ vs → σ2[j]? = (wipe σ vs)[j]?) (hl : σ2.length = (wipe σ vs).length) : wipe σ2 vs = wipe σ vs := by
  apply List.ext_getElem?
  intro j
  by_cases hj : j ∈ vs
  · by_cases hs : j < σ.length
    · rw [wipe_in hj hs, wipe_in hj (by rw [hl, wipe_length]; exact hs)]
    · rw [List.getElem?_eq_none (by rw [wipe_length, hl, wipe_length]; omega), List.getElem?_eq_none (by rw [wipe_length]; omega)]
  · rw [wipe_out hj, h j hj]
theorem EnvAt.wipe {K : PySem.W.Frag} {F0 H0 F : Hp} {σ : L2.St} {H : Hp} {env : AEnv} (E : EnvAt K F0 H0 F σ H env) (vs : List Nat) : EnvAt K F0 H0 F (wipe σ vs) H (wipeE env vs) where
  gro := E.gro
  len := by rw [wipe_length, wipeE_length]; exact E.len
  slot := fun i av q => by
    obtain ⟨a, b⟩ := wipeE_some q
    rw [wipe_out b]
    exact E.slot i av a
  mine := fun i av c q o s => by
    obtain ⟨a, b⟩ := wipeE_some q
    rw [wipe_out b] at s
    exact E.mine i av c a o s
  apart := fun i j av aw c q1 q2 o1 o2 s1 s2 => by
    obtain ⟨a1, b1⟩ := wipeE_some q1
    obtain ⟨a2, b2⟩ := wipeE_some q2
    rw [wipe_out b1] at s1
    rw [wipe_out b2] at s2
    exact E.apart i j av aw c a1 a2 o1 o2 s1 s2
/-- a block's context -/
abbrev blkX (X : Cx) (scope : Scope) (s : Shared) (Hb : Hp) (C : Addr) (cl : List (Str × Addr)) (fp : List Addr) : Cx := X.blk s Hb scope (compEnvC scope cl C X.env) fp
def uG (X : Cx) (scope : Scope) (tg : Expr) : TG := fun v σ H Q => ∀ s Hb C cl fp, wG (blkX X scope s Hb C cl fp) tg v σ H Q
def uT (X : Cx) (scope : Scope) (e : Expr) : TT := fun σ H Q => ∀ s Hb C cl fp, wT (blkX X scope s Hb C cl fp) e σ H Q
def uE (X : Cx) (scope : Scope) (e : Expr) : TE := fun σ H Q => ∀ s Hb C cl fp, wE (blkX X scope s Hb C cl fp) e σ H Q
def minusH (H : Hp) (D : Addr) : Hp := fun b => if b = D then none else H b
theorem minus_upd {H : Hp} {D : Addr} {o : HO} (h : H D = some o) : H = upd (minusH H D) D o := by
  funext b
  unfold upd minusH
  by_cases e : b = D
  · subst e; simp [h]
  · simp [e]
theorem minus_at {H : Hp} {D : Addr} : minusH H D D = none := by unfold minusH; simp
theorem minus_ne {H : Hp} {D b : Addr} (h : b ≠ D) : minusH H D b = H b := by unfold minusH; simp [h]
section
variable {X : Cx} {e e2 e3 tg iter elt : Expr} {es ifs : List Expr} {scope : Scope} {own : List (Str × Nat)} {st : Stmt} {ss body : List Stmt} {env : AEnv} {d d1 d2 : PyData} {A : AE} {pos p p2 : Pos}
theorem lc_read {tt : TT} {n : Nat} {it : Nat → PyData} {b : Nat → Bool} {f : Nat → PyData} {F0 H0 F : Hp} {σ : L2.St} {H : Hp} (hi : XI X tg iter env n it) (E : EnvAt X.K F0 H0 F σ H env)
    (hb : ∀ i, i < n → ∃ env2, (∀ s Hb C cl fp, XG (blkX X scope s Hb C cl fp) tg (own.map (·.2)) (wipeE env (own.map (·.2))) (it i) env2) ∧
      (∀ F σ H, EnvAt X.K F0 H0 F σ H env2 → ∀ Q : Bool → Hp → Prop, (∀ F' H', Gro F H F' H' → Q (b i) H') → tt σ H Q) ∧ (b i = true → ∀ s Hb C cl fp, XD (blkX X scope s Hb C cl fp) elt env2 (f i)))
    (hz : n ≤ sizeLine) {Q : VK} (q : ∀ p vs F' H', Gro F H F' H' → H p = none → F' p = none → H' p = some (.lst vs) → DpAll X.K F' vs (((List.range n).filter b).map f) → Q (.ref p) H') :
    tLc (wI X tg iter) (uG X scope tg) tt (uE X scope elt) (own.map (·.2)) σ H Q := by
  refine hi _ _ F σ H E _ fun J F1 H1 g1 hJ => ?_
  intro D hD
  refine ⟨fun i m H' => i + m = n ∧ ∃ F' G acc, Gro F H F' G ∧ Same F1 F' ∧ G D = none ∧ H' = upd G D (.lst acc) ∧ DpAll X.K F' acc (((List.range i).filter b).map f) ∧ acc.length ≤ i,
    ⟨n, Nat.zero_add n, F1, H1, [], g1, Same.refl F1, hD, rfl, .nil, Nat.le_refl 0⟩, fun i m H' hW => ?_⟩
  obtain ⟨em, F', G, acc, g', s', hG, rfl, hacc, hal⟩ := hW
  have frU : Same F' (upd G D (.lst acc)) := (Gro.own (o := .lst acc) g'.fr hG).fr
  have hHD : H D = none := g1.h.free hD
  have gU : Gro F H F' (upd G D (.lst acc)) := g'.trans (Gro.own g'.fr hG)
  by_cases hin : i < n
  · obtain ⟨hgo, hy⟩ := (hJ F' _ s' frU).1 i hin
    refine .inr ⟨hgo, fun H2 => ∃ F2 G2 acc2, Gro F H F2 G2 ∧ Same F1 F2 ∧ G2 D = none ∧ H2 = upd G2 D (.lst acc2) ∧ DpAll X.K F2 acc2 (((List.range (i + 1)).filter b).map f) ∧ acc2.length ≤ i + 1,
      fun H2 h2 => ⟨m - 1, by omega, by omega, h2⟩, fun x H2 hx => ?_⟩
    obtain ⟨F2, g2, p2⟩ := hy x H2 hx
    obtain ⟨env2, hg, ht, hel⟩ := hb i hin
    have E2 : EnvAt X.K F0 H0 F2 (wipe σ (own.map (·.2))) H2 (wipeE env (own.map (·.2))) := (E.grow (gU.trans g2)).wipe _
    have e2D : H2 D = some (.lst acc) := g2.h _ _ upd_same
    -- from a growth to the next state of the loop
    have step : ∀ F3 H3, Gro F2 H2 F3 H3 → ∃ G3, Gro F H F3 G3 ∧ G3 D = none ∧ H3 = upd G3 D (.lst acc) ∧ Same F1 F3 := fun F3 H3 g3 => by
      have gA := (gU.trans g2).trans g3
      have F3D : F3 D = none := (g2.trans g3).sep D (by rw [upd_same]; exact fun z => nomatch z) (g'.fr.free hG)
      refine ⟨minusH H3 D, ⟨gA.f, fun c o h => ?_, fun c o h => ?_, gA.sep⟩, minus_at, minus_upd (g3.h _ _ e2D), s'.trans (g2.f.trans g3.f)⟩
      · rw [minus_ne (fun z => by rw [z, hHD] at h; cases h)]; exact gA.h c o h
      · rw [minus_ne (fun z => by rw [z, F3D] at h; cases h)]; exact gA.fr c o h
    intro s Hb C cl fp
    refine hg s Hb C cl fp F0 H0 F2 _ H2 x E2 p2 _ fun σ3 F3 H3 g3 E3 k3 => ?_
    refine ⟨wipe_again k3.1 k3.2, ht F3 σ3 H3 E3 _ fun F4 H4 g4 => ?_⟩
    have rng : ((List.range (i + 1)).filter b).map f = ((List.range i).filter b).map f ++ (if b i = true then [f i] else []) := by
      rw [List.range_succ, List.filter_append, List.map_append]
      congr 1
      cases hbb : b i <;> simp [List.filter, hbb]
    cases hbi : b i with
    | true =>
      refine iteT fun s Hb C cl fp => ?_
      refine hel hbi s Hb C cl fp F0 H0 F4 σ3 H4 (E3.grow g4) _ fun y F5 H5 g5 p5 => ?_
      obtain ⟨G5, a1, a2, a3, a4⟩ := step F5 H5 ((g3.trans g4).trans g5)
      refine ⟨acc, by rw [a3]; exact upd_same, Nat.lt_of_le_of_lt hal (Nat.lt_of_lt_of_le hin hz), F5, G5, acc ++ [y], a1, a4, a2, by rw [a3, upd_upd], ?_, by rw [List.length_append, List.length_singleton]; omega⟩
      rw [rng, hbi, if_pos rfl]
      exact dpAll_append (dpAll_mono (g2.f.trans ((g3.f.trans g4.f).trans g5.f)) hacc) (.cons p5 .nil)
    | false =>
      obtain ⟨G5, a1, a2, a3, a4⟩ := step F4 H4 (g3.trans g4)
      refine iteF ⟨F4, G5, acc, a1, a4, a2, a3, ?_, Nat.le_succ_of_le hal⟩
      rw [rng, hbi, if_neg Bool.false_ne_true, List.append_nil]
      exact dpAll_mono (g2.f.trans (g3.f.trans g4.f)) hacc
  · have e : i = n := by omega
    subst e
    exact .inl ⟨(hJ F' _ s' frU).2, q D acc F' _ gU hHD (g'.fr.free hG) upd_same hacc⟩

theorem range_all {α : Type} (n : Nat) (f : Nat → α) : ((List.range n).filter fun _ => true).map f = (List.range n).map f := by rw [List.filter_eq_self.mpr fun _ _ => rfl]
section
variable {n : Nat} {it : Nat → PyData} {f : Nat → PyData} {b : Nat → Bool}
/-- [elt for tg in iter] -/
theorem xl_comp (hi : XI X tg iter env n it) (hN : X.N.Nodup) (own : List (Str × Nat)) (ok : BlkOk X.N X.env.scope scope own)
    (hb : ∀ i, i < n → ∃ env2, (∀ s Hb C cl fp, XG (blkX X scope s Hb C cl fp) tg (own.map (·.2)) (wipeE env (own.map (·.2))) (it i) env2) ∧ (∀ s Hb C cl fp, XD (blkX X scope s Hb C cl fp) elt env2 (f i)))
    (hz : n ≤ sizeLine) (hc : X.calm = true := by rfl) (hfs : ∀ x, foldedSetIterable iter X.env x = pure x := by intro _; rfl) :
    XL X (.ListComp elt [⟨tg, iter, [], 0⟩] scope pos) env ((List.range n).map f) := fun F0 H0 F σ H E Q q => by
  refine e_of (pe_lc (te := uE X scope elt) (g := uG X scope tg) (tt := tYes) hc hN i_w ok (fun s Hb C cl fp => ⟨fun pins s' σ' H' v u Q' I r h => (h s Hb C cl fp).run pins s' u I r⟩) (fun _ _ _ _ _ => pts_nil) (fun s Hb C cl fp => ⟨fun pins s' σ' H' Q' I h => (h s Hb C cl fp).run pins s' I⟩) hfs) ?_
  refine lc_read (b := fun _ => true) (f := f) hi E (fun i hin => ?_) hz (by rw [range_all]; exact q)
  obtain ⟨env2, h1, h2⟩ := hb i hin
  exact ⟨env2, h1, fun F σ H E Q q => q F H E.rfl', fun _ => h2⟩
/-- [elt for tg in iter if c] -/
theorem xl_compIf {c : Expr} (hi : XI X tg iter env n it) (hN : X.N.Nodup) (own : List (Str × Nat)) (ok : BlkOk X.N X.env.scope scope own)
    (hb : ∀ i, i < n → ∃ env2, (∀ s Hb C cl fp, XG (blkX X scope s Hb C cl fp) tg (own.map (·.2)) (wipeE env (own.map (·.2))) (it i) env2) ∧ (∀ s Hb C cl fp, XT (blkX X scope s Hb C cl fp) c env2 (b i)) ∧ (b i = true → ∀ s Hb C cl fp, XD (blkX X scope s Hb C cl fp) elt env2 (f i)))
    (hz : n ≤ sizeLine) (hc : X.calm = true := by rfl) (hfs : ∀ x, foldedSetIterable iter X.env x = pure x := by intro _; rfl) :
    XL X (.ListComp elt [⟨tg, iter, [c], 0⟩] scope pos) env (((List.range n).filter b).map f) := fun F0 H0 F σ H E Q q => by
  refine e_of (pe_lc (te := uE X scope elt) (g := uG X scope tg) (tt := uT X scope c) hc hN i_w ok (fun s Hb C cl fp => ⟨fun pins s' σ' H' v u Q' I r h => (h s Hb C cl fp).run pins s' u I r⟩) (fun s Hb C cl fp => pts_one ⟨fun pins s' σ' H' Q' I h => (h s Hb C cl fp).run pins s' I⟩) (fun s Hb C cl fp => ⟨fun pins s' σ' H' Q' I h => (h s Hb C cl fp).run pins s' I⟩) hfs) ?_
  refine lc_read (b := b) (f := f) hi E (fun i hin => ?_) hz q
  obtain ⟨env2, h1, h2, h3⟩ := hb i hin
  exact ⟨env2, h1, fun F σ H E Q q s Hb C cl fp => h2 s Hb C cl fp F0 H0 F σ H E Q q, h3⟩
/-- name = [elt for tg in iter] (own), = [elt for tg in iter if c] (own) -/
theorem xs_setComp {k : Nat} {y : Str} (hi : XI X tg iter env n it) (hN : X.N.Nodup) (own : List (Str × Nat)) (ok : BlkOk X.N X.env.scope scope own)
    (hb : ∀ i, i < n → ∃ env2, (∀ s Hb C cl fp, XG (blkX X scope s Hb C cl fp) tg (own.map (·.2)) (wipeE env (own.map (·.2))) (it i) env2) ∧ (∀ s Hb C cl fp, XD (blkX X scope s Hb C cl fp) elt env2 (f i)))
    (hz : n ≤ sizeLine) (hn : A.nx (env.set k (some (.l ((List.range n).map f))))) (hy : X.N[k]? = some y := by rfl) (hyl : X.env.scope.names.lookup y = some .local := by rfl)
    (hsw : swapsWith (.ListComp elt [⟨tg, iter, [], 0⟩] scope pos) (some (.Name y p2)) p.line X.env = pure true := by exact sw_true rfl rfl rfl (by decide +kernel)) (hc : X.calm = true := by rfl) (hfs : ∀ x, foldedSetIterable iter X.env x = pure x := by intro _; rfl) :
    XS X (.Assign [.Name y p2] (.ListComp elt [⟨tg, iter, [], 0⟩] scope pos) p) env A := fun F0 H0 F σ H D E l => by
  refine s_of (ps_setLc (te := uE X scope elt) (g := uG X scope tg) (tt := tYes) hc hN hy hyl hsw i_w ok (fun s Hb C cl fp => ⟨fun pins s' σ' H' v u Q' I r h => (h s Hb C cl fp).run pins s' u I r⟩) (fun _ _ _ _ _ => pts_nil) (fun s Hb C cl fp => ⟨fun pins s' σ' H' Q' I h => (h s Hb C cl fp).run pins s' I⟩) hfs) ?_
  show tLc _ _ _ _ _ σ H (fun x H1 => gName k x σ H1 D.nx)
  refine lc_read (b := fun _ => true) (f := f) hi E (fun i hin => ?_) hz fun a vs F1 H1 g1 n1 n2 e1 p1 => ?_
  · obtain ⟨env2, h1, h2⟩ := hb i hin
    exact ⟨env2, h1, fun F σ H E Q q => q F H E.rfl', fun _ => h2⟩
  · rw [range_all] at p1
    exact l.nx _ F1 _ H1 ((E.grow g1).setOwn (av := .l _) ⟨a, vs, rfl, e1, p1⟩ (E.gro.h.free n1) n2 (by rw [e1]; exact fun z => nomatch z) fun j aw _ q o => E.notNew n1 j aw q o) hn
theorem xs_setCompIf {k : Nat} {y : Str} {c : Expr} (hi : XI X tg iter env n it) (hN : X.N.Nodup) (own : List (Str × Nat)) (ok : BlkOk X.N X.env.scope scope own)
    (hb : ∀ i, i < n → ∃ env2, (∀ s Hb C cl fp, XG (blkX X scope s Hb C cl fp) tg (own.map (·.2)) (wipeE env (own.map (·.2))) (it i) env2) ∧ (∀ s Hb C cl fp, XT (blkX X scope s Hb C cl fp) c env2 (b i)) ∧ (b i = true → ∀ s Hb C cl fp, XD (blkX X scope s Hb C cl fp) elt env2 (f i)))
    (hz : n ≤ sizeLine) (hn : A.nx (env.set k (some (.l (((List.range n).filter b).map f))))) (hy : X.N[k]? = some y := by rfl) (hyl : X.env.scope.names.lookup y = some .local := by rfl)
    (hsw : swapsWith (.ListComp elt [⟨tg, iter, [c], 0⟩] scope pos) (some (.Name y p2)) p.line X.env = pure true := by exact sw_true rfl rfl rfl (by decide +kernel)) (hc : X.calm = true := by rfl) (hfs : ∀ x, foldedSetIterable iter X.env x = pure x := by intro _; rfl) :
    XS X (.Assign [.Name y p2] (.ListComp elt [⟨tg, iter, [c], 0⟩] scope pos) p) env A := fun F0 H0 F σ H D E l => by
  refine s_of (ps_setLc (te := uE X scope elt) (g := uG X scope tg) (tt := uT X scope c) hc hN hy hyl hsw i_w ok (fun s Hb C cl fp => ⟨fun pins s' σ' H' v u Q' I r h => (h s Hb C cl fp).run pins s' u I r⟩) (fun s Hb C cl fp => pts_one ⟨fun pins s' σ' H' Q' I h => (h s Hb C cl fp).run pins s' I⟩) (fun s Hb C cl fp => ⟨fun pins s' σ' H' Q' I h => (h s Hb C cl fp).run pins s' I⟩) hfs) ?_
  show tLc _ _ _ _ _ σ H (fun x H1 => gName k x σ H1 D.nx)
  refine lc_read (b := b) (f := f) hi E (fun i hin => ?_) hz fun a vs F1 H1 g1 n1 n2 e1 p1 => ?_
  · obtain ⟨env2, h1, h2, h3⟩ := hb i hin
    exact ⟨env2, h1, fun F σ H E Q q s Hb C cl fp => h2 s Hb C cl fp F0 H0 F σ H E Q q, h3⟩
  · exact l.nx _ F1 _ H1 ((E.grow g1).setOwn (av := .l _) ⟨a, vs, rfl, e1, p1⟩ (E.gro.h.free n1) n2 (by rw [e1]; exact fun z => nomatch z) fun j aw _ q o => E.notNew n1 j aw q o) hn
end

/-! ## calls of defs -/
/-- a def's contract: its arguments by an index, what a caller must show, the answers -/
structure Cn where
  ι : Type
  n : Nat
  args : ι → List PyData
  ok : ι → Prop
  post : ι → PyData → Prop
  hl : ∀ i, (args i).length = n
def SpD (K : PySem.W.Frag) (C : Cn) : Sp := fun vs H Q _ => ∃ F i, Same F H ∧ DpAll K F vs (C.args i) ∧ C.ok i ∧ ∀ r v F' H', C.post i r → Gro F H F' H' → Dp K F' v r → Q v H'
structure DefOk (P : Program) (w : World) (K : PySem.W.Frag) (mg : Str → Option Value) (base : Heap) (x : Str) (k : Nat) (C : Cn) : Prop where
  ex : ∃ f fd ps, FnOk P w K mg base CX0 k f fd ps (SpD K C) ∧ mg x = some (.ref f) ∧ PySem.W.keepIn K (.ref f) = true ∧ Binds K fd ps []
theorem DefOk.mono {P : Program} {w : World} {K : PySem.W.Frag} {mg : Str → Option Value} {base : Heap} {x : Str} {j k : Nat} {C : Cn} (D : DefOk P w K mg base x j C) (h : j ≤ k) : DefOk P w K mg base x k C :=
  let ⟨f, fd, ps, a, b⟩ := D.ex; ⟨f, fd, ps, a.mono h, b⟩
section
variable {x : Str} {k : Nat} {C : Cn}
theorem xd_call (D : DefOk X.prog X.w X.K X.mg X.base x k C) (hr : Room k X.A) (i : C.ι) (ha : XA X (e :: es) env (C.args i)) (hp : C.ok i) (hd : ∀ r, C.post i r → r = d) (hg : Gl X x := by rfl) (hdb : (x == ("__debug__" : Str)) = false := by decide)
    (he : starEach (e :: es) X.env = (false, eval e X.env) :: starEach es X.env := by rfl) (hpl : (backTo pos (starEach es X.env)).any (·.1) = false := by rfl) (hx : Passes CX0 X E0 := by exact pass0) : XD X (.Call (.Name x p) (e :: es) [] pos) env d := fun F0 H0 F σ H E Q q => by
  obtain ⟨f, fd, ps, FO, hm, kp, bd⟩ := D.ex
  refine e_of (pe_call FO hr hg hm kp bd .nil hx a_w hdb he hpl) (ha _ _ F σ H E _ fun vs F1 H1 g1 p1 => ?_)
  rw [List.append_nil]
  exact ⟨F1, i, g1.fr, p1, hp, fun r v F2 H2 hr g2 p2 => q v F2 H2 (g1.trans g2) (hd r hr ▸ p2)⟩
/-- a def's call with any of several answers, then the rest -/
theorem xs_setAny {i : Nat} {y : Str} (D : DefOk X.prog X.w X.K X.mg X.base x k C) (hr : Room k X.A) (c : C.ι) (ha : XA X (e :: es) env (C.args c)) (hp : C.ok c) (hn : ∀ r, C.post c r → A.nx (env.set i (some (.d r)))) (hN : X.N.Nodup) (hi : X.N[i]? = some y := by rfl) (hyy : L2.Loc X.env.scope y := by first | exact .inl rfl | exact .inr rfl)
    (hs : swapsWith (.Call (.Name x p) (e :: es) [] pos) (some (.Name y p2)) p.line X.env = pure false := by rfl) (hf : X.fn y = true ∨ X.env.scope.names.lookup y = some .local := by first | exact .inl rfl | exact .inr rfl) (hg : Gl X x := by rfl) (hdb : (x == ("__debug__" : Str)) = false := by decide)
    (he : starEach (e :: es) X.env = (false, eval e X.env) :: starEach es X.env := by rfl) (hpl : (backTo pos (starEach es X.env)).any (·.1) = false := by rfl) (hx : Passes CX0 X E0 := by exact pass0) : XS X (.Assign [.Name y p2] (.Call (.Name x p) (e :: es) [] pos) p) env A := fun F0 H0 F σ H D' E l => by
  obtain ⟨f, fd, ps, FO, hm, kp, bd⟩ := D.ex
  refine s_of (ps_set hN hi hyy (pe_call FO hr hg hm kp bd .nil hx a_w hdb he hpl) hs hf) (ha _ _ F σ H E _ fun vs F1 H1 g1 p1 => ?_)
  rw [List.append_nil]
  exact ⟨F1, c, g1.fr, p1, hp, fun r v F2 H2 hr g2 p2 => l.nx _ F2 _ H2 ((E.grow (g1.trans g2)).set (av := .d r) p2 rfl) (hn r hr)⟩
end
/-- a def by its body -/
theorem fnOk_data {P : Program} {w : World} {K : PySem.W.Frag} {mg : Str → Option Value} {base : Heap} {x qual : Str} {st : Stmt} {f : Addr} {fd : FuncData} {N ps : List Str} {k : Nat} {C : Cn} (F : Fun K x qual st f fd) (S : FnScope N ps (defScope st))
    (hl : C.n = ps.length)
    (hb : ∀ (cdv : Value) (A : Around) (outer : List Env) (s : Shared) (H : Hp) (E : XK), Room k (A.deeper (envOfC qual (defScope st) s.heap.objs.size f cdv)) → ∀ i, C.ok i →
      XB (cxOf CX0 P w K mg base N qual (defScope st) f cdv A outer s H E).nox (defBody st) ((C.args i).map (fun d => some (.d d)) ++ List.replicate (N.length - (C.args i).length) none) { nx := fun _ => C.post i .none, rt := C.post i }) :
    FnOk P w K mg base CX0 (k + 1) f fd ps (SpD K C) := by
  have hps : ps.length ≤ N.length := by have := congrArg List.length S.pre; rw [List.length_take] at this; omega
  refine F.ok S (fun vs H Q E h => ?_) fun cdv A outer s H vs Q E hr h => ?_
  · obtain ⟨F', i, _, h2, h3, _⟩ := h
    rw [dpAll_len h2, C.hl]; exact hl
  · obtain ⟨F', i, h1, h2, h3, q⟩ := h
    refine ⟨_, b_w, ?_⟩
    refine hb cdv A outer s H E hr i h3 F' H F' (L2.start N vs) H _ (env_start h1 h2 (by rw [C.hl, hl]; exact hps)) ⟨fun env' F2 σ2 H2 E2 z => q _ _ F2 H2 z E2.gro .non, fun v d F2 H2 g p z => q d v F2 H2 z g p, fun _ _ _ _ _ z => z.elim, fun _ _ _ _ _ z => z.elim⟩
theorem defOk_mk {P : Program} {w : World} {K : PySem.W.Frag} {mg : Str → Option Value} {base : Heap} {x qual : Str} {st : Stmt} {f : Addr} {fd : FuncData} {N ps : List Str} {k : Nat} {C : Cn} (F : Fun K x qual st f fd) (B : Binds K fd ps []) (g : mg x = some (.ref f)) (S : FnScope N ps (defScope st))
    (hb : ∀ (cdv : Value) (A : Around) (outer : List Env) (s : Shared) (H : Hp) (E : XK), Room k (A.deeper (envOfC qual (defScope st) s.heap.objs.size f cdv)) → (cxOf CX0 P w K mg base N qual (defScope st) f cdv A outer s H E).nox.N = N → N.Nodup → ∀ i, C.ok i →
      XB (cxOf CX0 P w K mg base N qual (defScope st) f cdv A outer s H E).nox (defBody st) ((C.args i).map (fun d => some (.d d)) ++ List.replicate (N.length - (C.args i).length) none) { nx := fun _ => C.post i .none, rt := C.post i })
    (hl : C.n = ps.length := by rfl) : DefOk P w K mg base x (k + 1) C := ⟨f, fd, ps, fnOk_data F S hl (fun cdv A outer s H E hr => hb cdv A outer s H E hr rfl S.nd), g, F.kp, B⟩
theorem lawOk_mk {P : Program} {w : World} {K : PySem.W.Frag} {mg : Str → Option Value} {base : Heap} {x qual : Str} {st : Stmt} {f : Addr} {fd : FuncData} {N ps : List Str} {k : Nat} {C : Cn} (F : Fun K x qual st f fd) (S : FnScope N ps (defScope st))
    (hb : ∀ (cdv : Value) (A : Around) (outer : List Env) (s : Shared) (H : Hp) (E : XK), Room k (A.deeper (envOfC qual (defScope st) s.heap.objs.size f cdv)) → (cxOf CX0 P w K mg base N qual (defScope st) f cdv A outer s H E).nox.N = N → N.Nodup → ∀ i, C.ok i →
      XB (cxOf CX0 P w K mg base N qual (defScope st) f cdv A outer s H E).nox (defBody st) ((C.args i).map (fun d => some (.d d)) ++ List.replicate (N.length - (C.args i).length) none) { nx := fun _ => C.post i .none, rt := C.post i })
    (hl : C.n = ps.length := by rfl) : FnOk P w K mg base CX0 (k + 1) f fd ps (SpD K C) := fnOk_data F S hl (fun cdv A outer s H E hr => hb cdv A outer s H E hr rfl S.nd)
/-- the law's own contract: of every script it tells True -/
def C_law : Cn where
  ι := List Int
  n := 1
  args := fun ns => [.list (ns.map .int)]
  ok := fun ns => ns.length ≤ 63
  post := fun _ r => r = .bool true
  hl := fun _ => rfl
theorem law_end {K : PySem.W.Frag} {H : Hp} {a : Addr} {ns : List Int} (hl : ns.length ≤ 63) (hS : SqL K H a (ns.map V.int)) {Q : VK} {E : XK} (q : ∀ H', Q (.bl true) H') : SpD K C_law [.ref a] H Q E :=
  ⟨H, ns, Same.refl H, .cons (.lst hS (dpAll_ofInts ns)) .nil, hl, fun r v F' H' hr g p => by subst hr; cases p; exact q H'⟩

/-! ## built-ins -/
def CaD (K : PySem.W.Frag) (r : List V → Hp → VK → Prop) (ds : List PyData) (d : PyData) : Prop := ∀ F H vs, Same F H → DpAll K F vs ds → ∀ Q : VK, (∀ u F' H', Gro F H F' H' → Dp K F' u d → Q u H') → r vs H Q
theorem xcb {r : List V → Hp → VK → Prop} {ds : List PyData} (hp : PE X e3 (tCB r (wA X es))) (ha : XA X es env ds) (hr : CaD X.K r ds d) : XD X e3 env d := fun F0 H0 F σ H E Q q =>
  e_of hp (ha _ _ F σ H E _ fun vs F1 H1 g1 p1 => hr F1 H1 vs g1.fr p1 Q fun u F2 H2 g2 p2 => q u F2 H2 (g1.trans g2) p2)
theorem d1' {K : PySem.W.Frag} {F : Hp} {vs : List V} {d : PyData} (h : DpAll K F vs [d]) : ∃ v, vs = [v] ∧ Dp K F v d := by
  cases h with | cons a b => cases b; exact ⟨_, rfl, a⟩
theorem d2' {K : PySem.W.Frag} {F : Hp} {vs : List V} {d d' : PyData} (h : DpAll K F vs [d, d']) : ∃ v w, vs = [v, w] ∧ Dp K F v d ∧ Dp K F w d' := by
  cases h with | cons a b => obtain ⟨w, rfl, c⟩ := d1' b; exact ⟨_, w, rfl, a, c⟩
theorem xa1 (h : XD X e env d) (hs : starEach [e] X.env = (false, eval e X.env) :: starEach [] X.env := by rfl) : XA X [e] env [d] := xa_cons h xa_nil hs
section
variable (hst : starEach [e] X.env = (false, eval e X.env) :: starEach [] X.env) (hpl : (backTo pos (starEach [] X.env)).any (·.1) = false)
theorem xd_lenL {ds : List PyData} (h : XD X e env (.list ds)) (hm : X.mg "len" = none) (hg : Gl X "len" := by rfl) (hs : starEach [e] X.env = (false, eval e X.env) :: starEach [] X.env := by rfl) (hpl : (backTo pos (starEach [] X.env)).any (·.1) = false := by rfl) :
    XD X (.Call (.Name "len" p) [e] [] pos) env (.int ds.length) := xcb (pe_callB call_len_seq hg hm PySem.boot_len a_w (by decide) (by decide) hs hpl) (xa1 h hs) fun F H vs fr p Q q => by
  obtain ⟨v, rfl, hv⟩ := d1' p
  obtain ⟨a, us, rfl, h1, h2⟩ := dL hv
  exact ⟨a, us, rfl, .inl (fr.seq h1), by rw [dpAll_len h2]; exact q _ F H (Gro.refl fr) (.int _)⟩
theorem xd_lenT {ds : List PyData} (h : XD X e env (.tuple ds)) (hm : X.mg "len" = none) (hg : Gl X "len" := by rfl) (hs : starEach [e] X.env = (false, eval e X.env) :: starEach [] X.env := by rfl) (hpl : (backTo pos (starEach [] X.env)).any (·.1) = false := by rfl) :
    XD X (.Call (.Name "len" p) [e] [] pos) env (.int ds.length) := xcb (pe_callB call_len_seq hg hm PySem.boot_len a_w (by decide) (by decide) hs hpl) (xa1 h hs) fun F H vs fr p Q q => by
  obtain ⟨v, rfl, hv⟩ := d1' p
  obtain ⟨a, us, rfl, h1, h2⟩ := dT hv
  exact ⟨a, us, rfl, .inr (seqT_mono fr h1), by rw [dpAll_len h2]; exact q _ F H (Gro.refl fr) (.int _)⟩
theorem xd_lenS {z : Str} (h : XD X e env (.str z)) (hz : z.length ≤ sizeLine) (hm : X.mg "len" = none) (hg : Gl X "len" := by rfl) (hs : starEach [e] X.env = (false, eval e X.env) :: starEach [] X.env := by rfl) (hpl : (backTo pos (starEach [] X.env)).any (·.1) = false := by rfl) :
    XD X (.Call (.Name "len" p) [e] [] pos) env (.int z.length) := xcb (pe_callB call_len_str hg hm PySem.boot_len a_w (by decide) (by decide) hs hpl) (xa1 h hs) fun F H vs fr p Q q => by
  obtain ⟨v, rfl, hv⟩ := d1' p
  exact ⟨z, by rw [dS hv], hz, q _ F H (Gro.refl fr) (.int _)⟩
theorem xd_abs {i : Int} (h : XD X e env (.int i)) (hm : X.mg "abs" = none) (hg : Gl X "abs" := by rfl) (hs : starEach [e] X.env = (false, eval e X.env) :: starEach [] X.env := by rfl) (hpl : (backTo pos (starEach [] X.env)).any (·.1) = false := by rfl) :
    XD X (.Call (.Name "abs" p) [e] [] pos) env (.int (if i < 0 then -i else i)) := xcb (pe_callB call_abs hg hm (by decide +kernel) a_w (by decide) (by decide) hs hpl) (xa1 h hs) fun F H vs fr p Q q => by
  obtain ⟨v, rfl, hv⟩ := d1' p
  exact ⟨i, by rw [dI hv], q _ F H (Gro.refl fr) (.int _)⟩
theorem xd_int1 {i : Int} (h : XD X e env (.int i)) (hm : X.mg "int" = none) (hg : Gl X "int" := by rfl) (hs : starEach [e] X.env = (false, eval e X.env) :: starEach [] X.env := by rfl) (hpl : (backTo pos (starEach [] X.env)).any (·.1) = false := by rfl) :
    XD X (.Call (.Name "int" p) [e] [] pos) env (.int i) := xcb (pe_callTy call_int1 hg hm (by decide +kernel) a_w (by decide) (by decide) hs hpl) (xa1 h hs) fun F H vs fr p Q q => by
  obtain ⟨v, rfl, hv⟩ := d1' p
  exact .inl ⟨i, by rw [dI hv], q _ F H (Gro.refl fr) (.int _)⟩
theorem xd_max2 {i j : Int} (h : XA X [e, e2] env [.int i, .int j]) (hm : X.mg "max" = none) (hg : Gl X "max" := by rfl) (hc : X.calm = true := by rfl) (hs : starEach [e, e2] X.env = (false, eval e X.env) :: starEach [e2] X.env := by rfl) (hpl : (backTo pos (starEach [e2] X.env)).any (·.1) = false := by rfl) :
    XD X (.Call (.Name "max" p) [e, e2] [] pos) env (.int (if j > i then j else i)) := xcb (pe_callB (call_max2 hc) hg hm (by decide +kernel) a_w (by decide) (by decide) hs hpl) h fun F H vs fr p Q q => by
  obtain ⟨v, w, rfl, hv, hw⟩ := d2' p
  exact ⟨i, j, by rw [dI hv, dI hw], q _ F H (Gro.refl fr) (.int _)⟩
theorem xd_min2 {i j : Int} (h : XA X [e, e2] env [.int i, .int j]) (hm : X.mg "min" = none) (hg : Gl X "min" := by rfl) (hc : X.calm = true := by rfl) (hs : starEach [e, e2] X.env = (false, eval e X.env) :: starEach [e2] X.env := by rfl) (hpl : (backTo pos (starEach [e2] X.env)).any (·.1) = false := by rfl) :
    XD X (.Call (.Name "min" p) [e, e2] [] pos) env (.int (if j < i then j else i)) := xcb (pe_callB (call_min2 hc) hg hm (by decide +kernel) a_w (by decide) (by decide) hs hpl) h fun F H vs fr p Q q => by
  obtain ⟨v, w, rfl, hv, hw⟩ := d2' p
  exact ⟨i, j, by rw [dI hv, dI hw], q _ F H (Gro.refl fr) (.int _)⟩
theorem xd_all {bs : List Bool} (h : XD X e env (.list (bs.map .bool))) (hm : X.mg "all" = none) (hg : Gl X "all" := by rfl) (hc : X.calm = true := by rfl) (hs : starEach [e] X.env = (false, eval e X.env) :: starEach [] X.env := by rfl) (hpl : (backTo pos (starEach [] X.env)).any (·.1) = false := by rfl) :
    XD X (.Call (.Name "all" p) [e] [] pos) env (.bool (bs.all id)) := xcb (pe_callB (cr_all hc) hg hm (by decide +kernel) a_w (by decide) (by decide) hs hpl) (xa1 h hs) fun F H vs fr p Q q => by
  obtain ⟨v, rfl, hv⟩ := d1' p
  obtain ⟨a, us, rfl, h1, h2⟩ := dL hv
  exact ⟨a, bs, rfl, by rw [← dpAll_bls h2]; exact fr.seq h1, q _ F H (Gro.refl fr) (.bl _)⟩
theorem xd_any {bs : List Bool} (h : XD X e env (.list (bs.map .bool))) (hm : X.mg "any" = none) (hg : Gl X "any" := by rfl) (hc : X.calm = true := by rfl) (hs : starEach [e] X.env = (false, eval e X.env) :: starEach [] X.env := by rfl) (hpl : (backTo pos (starEach [] X.env)).any (·.1) = false := by rfl) :
    XD X (.Call (.Name "any" p) [e] [] pos) env (.bool (bs.any id)) := xcb (pe_callB (cr_any hc) hg hm (by decide +kernel) a_w (by decide) (by decide) hs hpl) (xa1 h hs) fun F H vs fr p Q q => by
  obtain ⟨v, rfl, hv⟩ := d1' p
  obtain ⟨a, us, rfl, h1, h2⟩ := dL hv
  exact ⟨a, bs, rfl, by rw [← dpAll_bls h2]; exact fr.seq h1, q _ F H (Gro.refl fr) (.bl _)⟩
theorem xd_sum {ns : List Int} (h : XD X e env (.list (ns.map .int))) (hm : X.mg "sum" = none) (hg : Gl X "sum" := by rfl) (hc : X.calm = true := by rfl) (hs : starEach [e] X.env = (false, eval e X.env) :: starEach [] X.env := by rfl) (hpl : (backTo pos (starEach [] X.env)).any (·.1) = false := by rfl) :
    XD X (.Call (.Name "sum" p) [e] [] pos) env (.int ns.sum) := xcb (pe_callB (cr_sum hc) hg hm (by decide +kernel) a_w (by decide) (by decide) hs hpl) (xa1 h hs) fun F H vs fr p Q q => by
  obtain ⟨v, rfl, hv⟩ := d1' p
  obtain ⟨a, us, rfl, h1, h2⟩ := dL hv
  exact ⟨a, ns, rfl, by rw [← dpAll_ints h2]; exact fr.seq h1, q _ F H (Gro.refl fr) (.int _)⟩
/-- tuple(list) -/
theorem xd_tupleL {ds : List PyData} (h : XD X e env (.list ds)) (hm : X.mg "tuple" = none) (hg : Gl X "tuple" := by rfl) (hs : starEach [e] X.env = (false, eval e X.env) :: starEach [] X.env := by rfl) (hpl : (backTo pos (starEach [] X.env)).any (·.1) = false := by rfl) :
    XD X (.Call (.Name "tuple" p) [e] [] pos) env (.tuple ds) := xcb (pe_callTy call_tuple_of hg hm (by decide +kernel) a_w (by decide) (by decide) hs hpl) (xa1 h hs) fun F H vs fr p Q q => by
  obtain ⟨v, rfl, hv⟩ := d1' p
  obtain ⟨a, us, rfl, h1, h2⟩ := dL hv
  refine ⟨a, us, rfl, .inl ⟨fr.seq h1, fun l hl => ?_⟩⟩
  have g := Gro.new (o := .tup us) fr hl
  exact q _ _ _ g (.tup (.inl (.inl upd_same)) (dpAll_mono g.f h2))
theorem xd_listT {ds : List PyData} (h : XD X e env (.tuple ds)) (hm : X.mg "list" = none) (hg : Gl X "list" := by rfl) (hs : starEach [e] X.env = (false, eval e X.env) :: starEach [] X.env := by rfl) (hpl : (backTo pos (starEach [] X.env)).any (·.1) = false := by rfl) :
    XD X (.Call (.Name "list" p) [e] [] pos) env (.list ds) := xcb (pe_callTy call_list_of hg hm (by decide +kernel) a_w (by decide) (by decide) hs hpl) (xa1 h hs) fun F H vs fr p Q q => by
  obtain ⟨v, rfl, hv⟩ := d1' p
  obtain ⟨a, us, rfl, h1, h2⟩ := dT hv
  refine ⟨a, us, rfl, .inr (seqT_mono fr h1), fun l hl => ?_⟩
  have g := Gro.new (o := .lst us) fr hl
  exact q _ _ _ g (.lst (.inl (.inl upd_same)) (dpAll_mono g.f h2))
end

/-! ## items, slices -/
theorem atI_dp {K : PySem.W.Frag} {F : Hp} {vs : List V} {ds : List PyData} {i : Int} (h : DpAll K F vs ds) (e : atI ds i = some d) : ∃ v, atI vs i = some v ∧ Dp K F v d := by
  unfold atI at e ⊢
  rw [dpAll_len h]
  cases q : ixN ds.length i with
  | none => rw [q] at e; cases e
  | some j =>
    rw [q] at e
    exact dpAll_get h e
theorem xd_ixL {ds : List PyData} {i : Int} (h1 : XD X e env (.list ds)) (h2 : XD X e2 env (.int i)) (hi : atI ds i = some d) (hp : PlainIx e2 := by exact fun _ _ => rfl) : XD X (.Subscript e e2 pos) env d :=
  x2 (pe_ix ix_list e_w e_w hp) h1 h2 fun F H v w fr p1 p2 Q q => by
    obtain ⟨a, us, rfl, z1, z2⟩ := dL p1
    obtain ⟨u, y1, y2⟩ := atI_dp z2 hi
    exact ⟨a, us, i, u, rfl, dI p2, fr.seq z1, y1, q _ F H (Gro.refl fr) y2⟩
theorem xd_ixT {ds : List PyData} {i : Int} (h1 : XD X e env (.tuple ds)) (h2 : XD X e2 env (.int i)) (hi : atI ds i = some d) (hp : PlainIx e2 := by exact fun _ _ => rfl) : XD X (.Subscript e e2 pos) env d :=
  x2 (pe_ix ix_tup e_w e_w hp) h1 h2 fun F H v w fr p1 p2 Q q => by
    obtain ⟨a, us, rfl, z1, z2⟩ := dT p1
    obtain ⟨u, y1, y2⟩ := atI_dp z2 hi
    exact ⟨a, us, i, u, rfl, dI p2, seqT_mono fr z1, y1, q _ F H (Gro.refl fr) y2⟩
theorem xd_ixS {z : Str} {i : Int} {c : Nat} (h1 : XD X e env (.str z)) (h2 : XD X e2 env (.int i)) (hz : z.length ≤ sizeLine) (hi : atI z.cps.toList i = some c) (hp : PlainIx e2 := by exact fun _ _ => rfl) : XD X (.Subscript e e2 pos) env (.str ⟨#[c]⟩) :=
  x2 (pe_ix ix_str e_w e_w hp) h1 h2 fun F H v w fr p1 p2 Q q => ⟨z, i, c, dS p1, dI p2, hz, hi, q _ F H (Gro.refl fr) (.str _)⟩
/-- of a list of one's own -/
theorem xd_lenO {i : Nat} {x : Str} {xs : List PyData} {pn : Pos} (hv : env[i]? = some (some (.l xs))) (hm : X.mg "len" = none) (hN : X.N[i]? = some x := by rfl) (hs : Vis X.env.scope x := by first | exact Or.inl rfl | exact Or.inr (Or.inl rfl) | exact Or.inr (Or.inr rfl))
    (hd : (x == ("__debug__" : Str)) = false := by decide) (hc : (x == ("__classdict__" : Str)) = false := by decide) (hg : Gl X "len" := by rfl) (hst : starEach [.Name x pn] X.env = (false, eval (.Name x pn) X.env) :: starEach [] X.env := by rfl) (hpl : (backTo pos (starEach [] X.env)).any (·.1) = false := by rfl) :
    XD X (.Call (.Name "len" p) [.Name x pn] [] pos) env (.int xs.length) := fun F0 H0 F σ H E Q q => by
  obtain ⟨v, s1, a, vs, rfl, h1, h2⟩ := E.slot i _ hv
  refine e_of (pe_callB call_len_seq hg hm PySem.boot_len (pa_cons (pe_var hN hs hd hc) pa_nil hst) (by decide) (by decide) hst hpl) ?_
  exact ⟨_, s1, a, vs, rfl, .inl (.inl (.inl h1)), by rw [dpAll_len h2]; exact q _ F H E.rfl' (.int _)⟩
theorem xd_ixO {i : Nat} {x : Str} {xs : List PyData} {j : Int} {pn : Pos} (hv : env[i]? = some (some (.l xs))) (h2 : XD X e2 env (.int j)) (hj : atI xs j = some d) (hN : X.N[i]? = some x := by rfl) (hs : Vis X.env.scope x := by first | exact Or.inl rfl | exact Or.inr (Or.inl rfl) | exact Or.inr (Or.inr rfl))
    (hd : (x == ("__debug__" : Str)) = false := by decide) (hc : (x == ("__classdict__" : Str)) = false := by decide) (hp : PlainIx e2 := by exact fun _ _ => rfl) : XD X (.Subscript (.Name x pn) e2 pos) env d := fun F0 H0 F σ H E Q q => by
  obtain ⟨v, s1, a, vs, rfl, z1, z2⟩ := E.slot i _ hv
  refine e_of (pe_ix ix_list (pe_var hN hs hd hc) e_w hp) ⟨_, s1, h2 _ _ F σ H E _ fun w F1 H1 g1 p1 => ?_⟩
  obtain ⟨u, y1, y2⟩ := atI_dp z2 hj
  exact ⟨a, vs, j, u, rfl, dI p1, .inl (.inl (g1.h _ _ z1)), y1, q _ F1 H1 g1 (dp_mono g1.f y2)⟩
/-- slices: the parts -/
def XO (X : Cx) (e : Option Expr) (env : AEnv) (o : Option Int) : Prop :=
  ∃ t, PO X e t ∧ ∀ F0 H0 F σ H, EnvAt X.K F0 H0 F σ H env → ∀ Q : Option Int → Hp → Prop, (∀ F' H', Gro F H F' H' → Q o H') → t σ H Q
theorem xo_none : XO X none env none := ⟨_, po_none, fun F0 H0 F σ H E Q q => q F H E.rfl'⟩
theorem xo_some {i : Int} (h : XD X e env (.int i)) : XO X (some e) env (some i) := ⟨_, po_some e_w, fun F0 H0 F σ H E Q q => h _ _ F σ H E _ fun v F1 H1 g1 p1 => ⟨i, dI p1, q F1 H1 g1⟩⟩
theorem xd_slS {z : Str} {lo hi : Option Expr} {l u : Option Int} (h : XD X e env (.str z)) (hl : XO X lo env l) (hu : XO X hi env u) (hz : z.length ≤ sizeLine) : XD X (.Subscript e (.Slice lo hi none p2) pos) env (.str (cutS z l u)) := fun F0 H0 F σ H E Q q => by
  obtain ⟨tl, pl, ql⟩ := hl
  obtain ⟨tu, pu, qu⟩ := hu
  refine e_of (pe_slice sl_str e_w pl pu) (h _ _ F σ H E _ fun v F1 H1 g1 p1 => ?_)
  refine ql _ _ F1 σ H1 (E.grow g1) _ fun F2 H2 g2 => ?_
  refine qu _ _ F2 σ H2 (E.grow (g1.trans g2)) _ fun F3 H3 g3 => ?_
  exact ⟨z, dS p1, hz, q _ F3 H3 ((g1.trans g2).trans g3) (.str _)⟩
def cutD (xs : List PyData) (lo hi : Option Int) : List PyData := (xs.drop (HT.sIx xs.length 0 lo)).take (HT.sIx xs.length xs.length hi - HT.sIx xs.length 0 lo)
theorem cut_dp {K : PySem.W.Frag} {F : Hp} {vs : List V} {ds : List PyData} {lo hi : Option Int} (h : DpAll K F vs ds) : DpAll K F (cutV vs lo hi) (cutD ds lo hi) := by
  unfold cutV cutD
  rw [dpAll_len h]
  exact dpAll_take _ (dpAll_drop _ h)
theorem xl_slL {ds : List PyData} {lo hi : Option Expr} {l u : Option Int} (h : XD X e env (.list ds)) (hl : XO X lo env l) (hu : XO X hi env u) : XL X (.Subscript e (.Slice lo hi none p2) pos) env (cutD ds l u) := fun F0 H0 F σ H E Q q => by
  obtain ⟨tl, pl, ql⟩ := hl
  obtain ⟨tu, pu, qu⟩ := hu
  refine e_of (pe_slice sl_list e_w pl pu) (h _ _ F σ H E _ fun v F1 H1 g1 p1 => ?_)
  refine ql _ _ F1 σ H1 (E.grow g1) _ fun F2 H2 g2 => ?_
  refine qu _ _ F2 σ H2 (E.grow (g1.trans g2)) _ fun F3 H3 g3 => ?_
  obtain ⟨a, us, rfl, z1, z2⟩ := dL p1
  have gA := (g1.trans g2).trans g3
  have z3 : Same F1 H3 := (g2.f.trans g3.f).trans g3.fr
  refine ⟨a, us, rfl, z3.seq z1, fun p hp => ?_⟩
  exact q p _ F3 _ (gA.trans (Gro.own g3.fr hp)) (gA.h.free hp) (g3.fr.free hp) upd_same (dpAll_mono (g2.f.trans g3.f) (cut_dp z2))
/-- list + list -/
theorem xl_cat {xs ys : List PyData} (h1 : XL X e env xs) (h2 : XL X e2 env ys) (hz : xs.length + ys.length ≤ sizeLine) : XL X (.BinOp e .Add e2 pos) env (xs ++ ys) := fun F0 H0 F σ H E Q q => by
  refine e_of (pe_op op_cat e_w e_w) (h1 _ _ F σ H E _ fun p vs F1 H1 g1 n1 n2 e1 p1 => ?_)
  refine h2 _ _ F1 σ H1 (E.grow g1) _ fun r us F2 H2 g2 m1 m2 e2 p2 => ?_
  refine ⟨p, r, vs, us, rfl, rfl, g2.h _ _ e1, e2, by rw [dpAll_len p1, dpAll_len p2]; exact hz, fun t ht => ?_⟩
  exact q t _ F2 _ ((g1.trans g2).trans (Gro.own g2.fr ht)) ((g1.trans g2).h.free ht) (g2.fr.free ht) upd_same (dpAll_append (dpAll_mono g2.f p1) p2)
end
end FR

namespace FR
open PySem PySem.Spec PyProof.Rows L2

/-! ## the same by names: N and env written out -/
/-- what stands at a name -/
inductive AtN : List Str → AEnv → Nat → Str → AV → Prop
  | here {x N l v} : AtN (x :: N) (some v :: l) 0 x v
  | there {x y N a l v i} : AtN N l i x v → AtN (y :: N) (a :: l) (i + 1) x v
/-- a name is stored -/
inductive SetN : List Str → AEnv → Nat → Str → Option AV → AEnv → Prop
  | here {x N a l v} : SetN (x :: N) (a :: l) 0 x v (v :: l)
  | there {x y N a l v i l'} : SetN N l i x v l' → SetN (y :: N) (a :: l) (i + 1) x v (a :: l')
theorem AtN.get : ∀ {N : List Str} {env : AEnv} {i : Nat} {x : Str} {v : AV}, AtN N env i x v → env[i]? = some (some v) ∧ N[i]? = some x
  | _, _, _, _, _, .here => ⟨rfl, rfl⟩
  | _, _, _, _, _, .there h => by
    obtain ⟨a, b⟩ := h.get
    exact ⟨by simpa using a, by simpa using b⟩
theorem SetN.get : ∀ {N : List Str} {env env' : AEnv} {i : Nat} {x : Str} {v : Option AV}, SetN N env i x v env' → env.set i v = env' ∧ N[i]? = some x
  | _, _, _, _, _, _, .here => ⟨rfl, rfl⟩
  | _, _, _, _, _, _, .there h => by
    obtain ⟨a, b⟩ := h.get
    exact ⟨by simpa using a, by simpa using b⟩
section
variable {X : Cx} {e e2 e3 tg iter elt : Expr} {es ifs : List Expr} {scope : Scope} {st : Stmt} {ss body : List Stmt} {env env' : AEnv} {d d1 d2 : PyData} {A : AE} {pos p p2 : Pos} {N : List Str} {i j : Nat} {x : Str}
theorem n_var (hN : X.N = N) (h : AtN N env i x (.d d)) (hs : Vis X.env.scope x := by first | exact Or.inl rfl | exact Or.inr (Or.inl rfl) | exact Or.inr (Or.inr rfl))
    (hd : (x == ("__debug__" : Str)) = false := by decide) (hc : (x == ("__classdict__" : Str)) = false := by decide) : XD X (.Name x pos) env d := by
  subst hN; exact xd_var h.get.1 h.get.2 hs hd hc
theorem n_varP {φ : Hp → V → Prop} {hφ} (hN : X.N = N) (h : AtN N env i x (.p φ hφ)) (hs : Vis X.env.scope x := by first | exact Or.inl rfl | exact Or.inr (Or.inl rfl) | exact Or.inr (Or.inr rfl))
    (hd : (x == ("__debug__" : Str)) = false := by decide) (hc : (x == ("__classdict__" : Str)) = false := by decide) : XP X (.Name x pos) env φ := by
  subst hN; exact xp_var h.get.1 h.get.2 hs hd hc
theorem n_set (h : XD X e env d) (hN : X.N = N) (hnd : N.Nodup) (hst : SetN N env i x (some (.d d)) env') (hn : A.nx env') (hx : Loc X.env.scope x := by first | exact .inl rfl | exact .inr rfl)
    (hs : swapsWith e (some (.Name x p)) pos.line X.env = pure false := by rfl) (hf : X.fn x = true ∨ X.env.scope.names.lookup x = some .local := by first | exact .inl rfl | exact .inr rfl) : XS X (.Assign [.Name x p] e pos) env A := by
  subst hN; exact xs_set h (by rw [hst.get.1]; exact hn) hnd hst.get.2 hx hs hf
theorem n_setP {φ : Hp → V → Prop} (hφ : ∀ H H' v, Same H H' → φ H v → φ H' v) (h : XP X e env φ) (hN : X.N = N) (hnd : N.Nodup) (hst : SetN N env i x (some (.p φ hφ)) env') (hn : A.nx env') (hx : Loc X.env.scope x := by first | exact .inl rfl | exact .inr rfl)
    (hs : swapsWith e (some (.Name x p)) pos.line X.env = pure false := by rfl) (hf : X.fn x = true ∨ X.env.scope.names.lookup x = some .local := by first | exact .inl rfl | exact .inr rfl) : XS X (.Assign [.Name x p] e pos) env A := by
  subst hN; exact xs_setP hφ h (by rw [hst.get.1]; exact hn) hnd hst.get.2 hx hs hf
theorem n_setL {xs : List PyData} (h : XL X e env xs) (hN : X.N = N) (hnd : N.Nodup) (hst : SetN N env i x (some (.l xs)) env') (hn : A.nx env') (hx : Loc X.env.scope x := by first | exact .inl rfl | exact .inr rfl)
    (hs : swapsWith e (some (.Name x p)) pos.line X.env = pure false := by rfl) (hf : X.fn x = true ∨ X.env.scope.names.lookup x = some .local := by first | exact .inl rfl | exact .inr rfl) : XS X (.Assign [.Name x p] e pos) env A := by
  subst hN; exact xs_setL h (by rw [hst.get.1]; exact hn) hnd hst.get.2 hx hs hf
theorem n_aug {op : Operator} {r : TIp} (hN : X.N = N) (hat : AtN N env i x (.d d1)) (h : XD X e env d2) (ho : PIp X op r) (hr : OpD X.K r d1 d2 d) (hnd : N.Nodup) (hst : SetN N env j x (some (.d d)) env') (hn : A.nx env') (hx : Loc X.env.scope x := by first | exact .inl rfl | exact .inr rfl)
    (hf : X.fn x = true ∨ X.env.scope.names.lookup x = some .local := by first | exact .inl rfl | exact .inr rfl) : XS X (.AugAssign (.Name x p) op e pos) env A := by
  subst hN
  have e : i = j := nodup_ix hnd hat.get.2 hst.get.2
  subst e
  exact xs_aug hat.get.1 h ho hr (by rw [hst.get.1]; exact hn) hnd hst.get.2 hx hf
theorem n_augAdd {a b : Int} (hN : X.N = N) (hat : AtN N env i x (.d (.int a))) (h : XD X e env (.int b)) (hnd : N.Nodup) (hst : SetN N env j x (some (.d (.int (a + b)))) env') (hn : A.nx env') (hx : Loc X.env.scope x := by first | exact .inl rfl | exact .inr rfl)
    (hf : X.fn x = true ∨ X.env.scope.names.lookup x = some .local := by first | exact .inl rfl | exact .inr rfl) : XS X (.AugAssign (.Name x p) .Add e pos) env A :=
  n_aug hN hat h ip_add (fun F H v w fr p1 p2 Q q => ⟨a, b, dI p1, dI p2, q _ F H (Gro.refl fr) (.int _)⟩) hnd hst hn hx hf
theorem n_augSub {a b : Int} (hN : X.N = N) (hat : AtN N env i x (.d (.int a))) (h : XD X e env (.int b)) (hnd : N.Nodup) (hst : SetN N env j x (some (.d (.int (a - b)))) env') (hn : A.nx env') (hx : Loc X.env.scope x := by first | exact .inl rfl | exact .inr rfl)
    (hf : X.fn x = true ∨ X.env.scope.names.lookup x = some .local := by first | exact .inl rfl | exact .inr rfl) : XS X (.AugAssign (.Name x p) .Sub e pos) env A :=
  n_aug hN hat h ip_sub (fun F H v w fr p1 p2 Q q => ⟨a, b, dI p1, dI p2, q _ F H (Gro.refl fr) (.int _)⟩) hnd hst hn hx hf
theorem n_append {xs : List PyData} {apos cpos : Pos} (hN : X.N = N) (hat : AtN N env i x (.l xs)) (h : XD X e env d) (hz : xs.length < sizeLine) (hst : SetN N env j x (some (.l (xs ++ [d]))) env') (hnd : N.Nodup) (hn : A.nx env') (hs : Vis X.env.scope x := by first | exact Or.inl rfl | exact Or.inr (Or.inl rfl) | exact Or.inr (Or.inr rfl))
    (hd : (x == ("__debug__" : Str)) = false := by decide) (hc : (x == ("__classdict__" : Str)) = false := by decide)
    (hbase : attributeBase (.Name x p) "append" X.env (eval (.Name x p) X.env) = eval (.Name x p) X.env := by rfl)
    (hfew : ((backTo cpos (starEach [e] X.env)).all (fun x => !x.1) && (backToKw cpos (keywordEach [] X.env)).all (fun x => x.1.isSome)
      && decide ([e].length + ([] : List Keyword).length + (if ([] : List Keyword).isEmpty then 0 else 1) < 30)) = true := by rfl)
    (hline : (apos.endLine == cpos.line) = true := by rfl) (hsta : starEach [e] X.env = (false, eval e X.env) :: starEach [] X.env := by rfl) (hplain : (backTo cpos (starEach [] X.env)).any (·.1) = false := by rfl)
    (hsw : swapsWith (.Call (.Attribute (.Name x p) "append" apos) [e] [] cpos) none pos.line X.env = pure false := by rfl) :
    XS X (.Expr (.Call (.Attribute (.Name x p) "append" apos) [e] [] cpos) pos) env A := by
  subst hN
  have e : i = j := nodup_ix hnd hat.get.2 hst.get.2
  subst e
  exact xs_append hat.get.1 h hz (by rw [hst.get.1]; exact hn) hat.get.2 hs hd hc hbase hfew hline hsta hplain hsw
theorem n_gname {js : List Nat} (hN : X.N = N) (hnd : N.Nodup) (hst : SetN N env i x (some (.d d)) env') (hx : Loc X.env.scope x := by first | exact .inl rfl | exact .inr rfl)
    (hf : X.fn x = true ∨ X.env.scope.names.lookup x = some .local := by first | exact .inl rfl | exact .inr rfl) (hj : i ∈ js := by simp) : XG X (.Name x p) js env d env' := by
  subst hN
  have := hst.get.1
  subst this
  exact xg_name hnd hst.get.2 hx hf hj
theorem n_lenO {xs : List PyData} {pn : Pos} (hN : X.N = N) (hat : AtN N env i x (.l xs)) (hm : X.mg "len" = none) (hs : Vis X.env.scope x := by first | exact Or.inl rfl | exact Or.inr (Or.inl rfl) | exact Or.inr (Or.inr rfl))
    (hd : (x == ("__debug__" : Str)) = false := by decide) (hc : (x == ("__classdict__" : Str)) = false := by decide) (hg : Gl X "len" := by rfl) (hst : starEach [.Name x pn] X.env = (false, eval (.Name x pn) X.env) :: starEach [] X.env := by rfl) (hpl : (backTo pos (starEach [] X.env)).any (·.1) = false := by rfl) :
    XD X (.Call (.Name "len" p) [.Name x pn] [] pos) env (.int xs.length) := by
  subst hN; exact xd_lenO hat.get.1 hm hat.get.2 hs hd hc hg hst hpl
theorem n_ixO {xs : List PyData} {k : Int} {pn : Pos} (hN : X.N = N) (hat : AtN N env i x (.l xs)) (h2 : XD X e2 env (.int k)) (hj : atI xs k = some d) (hs : Vis X.env.scope x := by first | exact Or.inl rfl | exact Or.inr (Or.inl rfl) | exact Or.inr (Or.inr rfl))
    (hd : (x == ("__debug__" : Str)) = false := by decide) (hc : (x == ("__classdict__" : Str)) = false := by decide) (hp : PlainIx e2 := by exact fun _ _ => rfl) : XD X (.Subscript (.Name x pn) e2 pos) env d := by
  subst hN; exact xd_ixO hat.get.1 h2 hj hat.get.2 hs hd hc hp
/-- a list of one's own is data from now on -/
theorem n_freeze (x : Str) {xs : List PyData} (hN : X.N = N) (hnd : N.Nodup) (hat : AtN N env i x (.l xs)) (hst : SetN N env j x (some (.d (.list xs))) env') (h : XB X ss env' A) : XB X ss env A := by
  have e : i = j := nodup_ix hnd hat.get.2 hst.get.2
  subst e
  exact xb_freeze i hat.get.1 (by rw [hst.get.1]; exact h)
/-! ### for name in .. -/
theorem n_for {n : Nat} {it : Nat → PyData} (hN : X.N = N) (hnd : N.Nodup) (hi : XI X (.Name x p) iter env n it) (Iv : Nat → AEnv → Prop) (h0 : Iv 0 env)
    (hs : ∀ i env', i < n → Iv i env' → ∃ env2, SetN N env' j x (some (.d (it i))) env2 ∧ XB X body env2 { nx := Iv (i + 1), ct := Iv (i + 1), bk := A.nx, rt := A.rt }) (hd : ∀ env', Iv n env' → A.nx env') (hx : Loc X.env.scope x := by first | exact .inl rfl | exact .inr rfl)
    (hf : X.fn x = true ∨ X.env.scope.names.lookup x = some .local := by first | exact .inl rfl | exact .inr rfl)
    (hp : PassesOwn (model X.prog X.w) X.A X.env X.xe := by exact PassesOwn.never) (hc : X.calm = true := by rfl) (hfs : ∀ x, foldedSetIterable iter X.env x = pure x := by intro _; rfl) : XS X (.For (.Name x p) iter body [] pos) env A :=
  xs_for (js := [j]) hi Iv h0 (fun i env' hin hI => let ⟨env2, a, b⟩ := hs i env' hin hI; ⟨env2, n_gname hN hnd a hx hf, b⟩) hd hp hc hfs
/-! ### comprehensions whose target is a name -/
theorem wipe_set1 {env env' : AEnv} {j : Nat} {v : Option AV} (h : env.set j v = env') : (wipeE env [j]).set j v = env' := by
  show ((wipeE env []).set j none).set j v = env'
  show (env.set j none).set j v = env'
  rw [List.set_set]; exact h
section
variable {n : Nat} {it : Nat → PyData} {f : Nat → PyData} {b : Nat → Bool}
theorem n_comp {S : Scope} (hN : X.N = N) (hnd : N.Nodup) (hi : XI X (.Name x p2) iter env n it) (j : Nat) (okc : blkC N S scope [(x, j)] = true)
    (hb : ∀ i, i < n → ∃ env2, SetN N env j x (some (.d (it i))) env2 ∧ (∀ s Hb C cl fp, XD (blkX X scope s Hb C cl fp) elt env2 (f i))) (hz : n ≤ sizeLine)
    (hS : X.env.scope = S := by rfl)
    (hx : L2.Loc (relabel scope X.env) x := by first | exact .inl rfl | exact .inr rfl) (hf : (scope.names.lookup x == some .cell) = true ∨ (relabel scope X.env).names.lookup x = some .local := by first | exact .inr rfl | exact .inl rfl)
    (hc : X.calm = true := by rfl) (hfs : ∀ x, foldedSetIterable iter X.env x = pure x := by intro _; rfl) :
    XL X (.ListComp elt [⟨.Name x p2, iter, [], 0⟩] scope pos) env ((List.range n).map f) := by
  subst hN hS
  refine xl_comp hi hnd [(x, j)] (blkOk_by okc) (fun i hin => ?_) hz hc hfs
  obtain ⟨env2, h1, h2⟩ := hb i hin
  have := wipe_set1 h1.get.1
  subst this
  refine ⟨_, fun s Hb C cl fp => ?_, h2⟩
  exact xg_name hnd h1.get.2 hx hf
theorem n_compIf {S : Scope} {c : Expr} (hN : X.N = N) (hnd : N.Nodup) (hi : XI X (.Name x p2) iter env n it) (j : Nat) (okc : blkC N S scope [(x, j)] = true)
    (hb : ∀ i, i < n → ∃ env2, SetN N env j x (some (.d (it i))) env2 ∧ (∀ s Hb C cl fp, XT (blkX X scope s Hb C cl fp) c env2 (b i)) ∧ (b i = true → ∀ s Hb C cl fp, XD (blkX X scope s Hb C cl fp) elt env2 (f i))) (hz : n ≤ sizeLine)
    (hS : X.env.scope = S := by rfl)
    (hx : L2.Loc (relabel scope X.env) x := by first | exact .inl rfl | exact .inr rfl) (hf : (scope.names.lookup x == some .cell) = true ∨ (relabel scope X.env).names.lookup x = some .local := by first | exact .inr rfl | exact .inl rfl)
    (hc : X.calm = true := by rfl) (hfs : ∀ x, foldedSetIterable iter X.env x = pure x := by intro _; rfl) :
    XL X (.ListComp elt [⟨.Name x p2, iter, [c], 0⟩] scope pos) env (((List.range n).filter b).map f) := by
  subst hN hS
  refine xl_compIf hi hnd [(x, j)] (blkOk_by okc) (fun i hin => ?_) hz hc hfs
  obtain ⟨env2, h1, h2, h3⟩ := hb i hin
  have := wipe_set1 h1.get.1
  subst this
  exact ⟨_, fun s Hb C cl fp => xg_name hnd h1.get.2 hx hf, h2, h3⟩
theorem n_setComp {S : Scope} {k : Nat} {y : Str} {env3 : AEnv} (hN : X.N = N) (hnd : N.Nodup) (hi : XI X (.Name x p2) iter env n it) (j : Nat) (okc : blkC N S scope [(x, j)] = true)
    (hb : ∀ i, i < n → ∃ env2, SetN N env j x (some (.d (it i))) env2 ∧ (∀ s Hb C cl fp, XD (blkX X scope s Hb C cl fp) elt env2 (f i))) (hz : n ≤ sizeLine)
    (hst : SetN N env k y (some (.l ((List.range n).map f))) env3) (hn : A.nx env3) {p3 p4 : Pos} (hS : X.env.scope = S := by rfl) (hyl : X.env.scope.names.lookup y = some .local := by rfl)
    (hsw : swapsWith (.ListComp elt [⟨.Name x p2, iter, [], 0⟩] scope pos) (some (.Name y p3)) p4.line X.env = pure true := by exact sw_true rfl rfl rfl (by decide +kernel))
    (hx : L2.Loc (relabel scope X.env) x := by first | exact .inl rfl | exact .inr rfl) (hf : (scope.names.lookup x == some .cell) = true ∨ (relabel scope X.env).names.lookup x = some .local := by first | exact .inr rfl | exact .inl rfl)
    (hc : X.calm = true := by rfl) (hfs : ∀ x, foldedSetIterable iter X.env x = pure x := by intro _; rfl) :
    XS X (.Assign [.Name y p3] (.ListComp elt [⟨.Name x p2, iter, [], 0⟩] scope pos) p4) env A := by
  subst hN hS
  refine xs_setComp hi hnd [(x, j)] (blkOk_by okc) (fun i hin => ?_) hz (by rw [hst.get.1]; exact hn) hst.get.2 hyl hsw hc hfs
  obtain ⟨env2, h1, h2⟩ := hb i hin
  have := wipe_set1 h1.get.1
  subst this
  exact ⟨_, fun s Hb C cl fp => xg_name hnd h1.get.2 hx hf, h2⟩
theorem n_setCompIf {S : Scope} {k : Nat} {y : Str} {c : Expr} {env3 : AEnv} (hN : X.N = N) (hnd : N.Nodup) (hi : XI X (.Name x p2) iter env n it) (j : Nat) (okc : blkC N S scope [(x, j)] = true)
    (hb : ∀ i, i < n → ∃ env2, SetN N env j x (some (.d (it i))) env2 ∧ (∀ s Hb C cl fp, XT (blkX X scope s Hb C cl fp) c env2 (b i)) ∧ (b i = true → ∀ s Hb C cl fp, XD (blkX X scope s Hb C cl fp) elt env2 (f i))) (hz : n ≤ sizeLine)
    (hst : SetN N env k y (some (.l (((List.range n).filter b).map f))) env3) (hn : A.nx env3) {p3 p4 : Pos} (hS : X.env.scope = S := by rfl) (hyl : X.env.scope.names.lookup y = some .local := by rfl)
    (hsw : swapsWith (.ListComp elt [⟨.Name x p2, iter, [c], 0⟩] scope pos) (some (.Name y p3)) p4.line X.env = pure true := by exact sw_true rfl rfl rfl (by decide +kernel))
    (hx : L2.Loc (relabel scope X.env) x := by first | exact .inl rfl | exact .inr rfl) (hf : (scope.names.lookup x == some .cell) = true ∨ (relabel scope X.env).names.lookup x = some .local := by first | exact .inr rfl | exact .inl rfl)
    (hc : X.calm = true := by rfl) (hfs : ∀ x, foldedSetIterable iter X.env x = pure x := by intro _; rfl) :
    XS X (.Assign [.Name y p3] (.ListComp elt [⟨.Name x p2, iter, [c], 0⟩] scope pos) p4) env A := by
  subst hN hS
  refine xs_setCompIf hi hnd [(x, j)] (blkOk_by okc) (fun i hin => ?_) hz (by rw [hst.get.1]; exact hn) hst.get.2 hyl hsw hc hfs
  obtain ⟨env2, h1, h2, h3⟩ := hb i hin
  have := wipe_set1 h1.get.1
  subst this
  exact ⟨_, fun s Hb C cl fp => xg_name hnd h1.get.2 hx hf, h2, h3⟩
end

end

/-! ### sorted of texts, below 64 -/
def leS (a b : Str) : Bool := !ltCps b.cps.toList a.cps.toList
theorem leS_iff (a b : Str) : leS a b = true ↔ a.cps.toList ≤ b.cps.toList := by
  unfold leS
  rw [ltCps_eq]
  simp only [Bool.not_eq_true', decide_eq_false_iff_not, List.not_lt]
theorem leS_trans (a b c : Str) (h1 : leS a b = true) (h2 : leS b c = true) : leS a c = true :=
  (leS_iff a c).mpr (List.le_trans ((leS_iff a b).mp h1) ((leS_iff b c).mp h2))
theorem leS_total (a b : Str) : (leS a b || leS b a) = true := by
  rw [Bool.or_eq_true, leS_iff, leS_iff]
  exact List.le_total _ _
theorem leS_anti (a b : Str) (h1 : leS a b = true) (h2 : leS b a = true) : a = b := by
  have := List.le_antisymm ((leS_iff a b).mp h1) ((leS_iff b a).mp h2)
  cases a; cases b
  simp at this
  rw [this]
def srtS (xs : List Str) : List Str := xs.mergeSort leS
theorem rising_pair : ∀ (r : List Str) (p : Str), risingS p r = true → (p :: r).Pairwise (fun a b => leS a b = true)
  | [], p, _ => by simp
  | x :: r, p, h => by
    unfold risingS at h
    rw [Bool.and_eq_true] at h
    have ih := rising_pair r x h.2
    refine List.pairwise_cons.mpr ⟨fun y hy => ?_, ih⟩
    rcases List.mem_cons.mp hy with rfl | hy
    · exact h.1
    · exact leS_trans _ _ _ h.1 ((List.pairwise_cons.mp ih).1 y hy)
theorem sorted_pair : ∀ (ys : List Str), sortedS ys = true → ys.Pairwise (fun a b => leS a b = true)
  | [], _ => List.Pairwise.nil
  | x :: r, h => rising_pair r x h
theorem srtS_pair (xs : List Str) : (srtS xs).Pairwise (fun a b => leS a b = true) := List.pairwise_mergeSort (fun a b c h1 h2 => leS_trans a b c h1 h2) leS_total xs
theorem srtS_perm (xs : List Str) : (srtS xs).Perm xs := List.mergeSort_perm xs leS
theorem srtS_unique {xs ys : List Str} (hp : ys.Perm xs) (hs : ys.Pairwise (fun a b => leS a b = true)) : ys = srtS xs :=
  List.Perm.eq_of_pairwise (fun a b _ _ h1 h2 => leS_anti a b h1 h2) hs (srtS_pair xs) (hp.trans (srtS_perm xs).symm)
theorem srtS_length (xs : List Str) : (srtS xs).length = xs.length := (srtS_perm xs).length_eq
section
variable {X : Cx} {e : Expr} {env : AEnv} {pos p : Pos}
theorem xl_sortedS {ss : List Str} (h : XD X e env (.list (ss.map .str))) (hz : ss.length < 64) (hm : X.mg "sorted" = none) (hg : Gl X "sorted" := by rfl) (hs : starEach [e] X.env = (false, eval e X.env) :: starEach [] X.env := by rfl) (hpl : (backTo pos (starEach [] X.env)).any (·.1) = false := by rfl) :
    XL X (.Call (.Name "sorted" p) [e] [] pos) env ((srtS ss).map .str) := fun F0 H0 F σ H E Q q => by
  refine e_of (pe_callB cr_sortedS hg hm (by decide +kernel) a_w (by decide) (by decide) hs hpl) (xa1 h hs _ _ F σ H E _ fun vs F1 H1 g1 p1 => ?_)
  obtain ⟨v, rfl, hv⟩ := d1' p1
  obtain ⟨a, us, rfl, h1, h2⟩ := dL hv
  have e1 := dpAll_strs h2
  subst e1
  refine ⟨a, ss, rfl, g1.fr.seq h1, hz, fun ys r hp hsrt hr => ?_⟩
  have e2 : ys = srtS ss := srtS_unique hp (sorted_pair ys hsrt)
  subst e2
  exact q r _ F1 _ (g1.trans (Gro.own g1.fr hr)) (g1.h.free hr) (g1.fr.free hr) upd_same (dpAll_ofStrs _)
end
end FR

namespace FR
open PySem PySem.Spec PyProof.Rows L2

/-! ## operators whatever the data -/
inductive AddD : PyData → PyData → PyData → Prop
  | int {i j} : AddD (.int i) (.int j) (.int (i + j))
  | str {a b} (h : a.length + b.length ≤ sizeLine) : AddD (.str a) (.str b) (.str (a ++ b))
/-- x in a list or tuple of flat data -/
def flatD : PyData → Bool
  | .none => true
  | .bool _ => true
  | .int _ => true
  | .str _ => true
  | _ => false
def eqF : PyData → PyData → Bool
  | .none, .none => true
  | .bool a, .bool b => a == b
  | .bool a, .int b => (if a then 1 else 0) == b
  | .int a, .bool b => a == (if b then 1 else 0)
  | .int a, .int b => a == b
  | .str a, .str b => a == b
  | _, _ => false
def inF (x : PyData) (xs : List PyData) : Bool := xs.any fun y => eqF y x
inductive CmpD : CmpOp → PyData → PyData → Bool → Prop
  | ltI {i j} : CmpD .Lt (.int i) (.int j) (decide (i < j))
  | leI {i j} : CmpD .LtE (.int i) (.int j) (decide (i ≤ j))
  | gtI {i j} : CmpD .Gt (.int i) (.int j) (decide (j < i))
  | geI {i j} : CmpD .GtE (.int i) (.int j) (decide (j ≤ i))
  | eqI {i j} : CmpD .Eq (.int i) (.int j) (decide (i = j))
  | neI {i j} : CmpD .NotEq (.int i) (.int j) (!decide (i = j))
  | eqS {i j} : CmpD .Eq (.str i) (.str j) (decide (i = j))
  | neS {i j} : CmpD .NotEq (.str i) (.str j) (!decide (i = j))
  | eqB {i j} : CmpD .Eq (.bool i) (.bool j) (decide (i = j))
  | neB {i j} : CmpD .NotEq (.bool i) (.bool j) (!decide (i = j))
  | ltS {i j} : CmpD .Lt (.str i) (.str j) (decide (i.cps.toList < j.cps.toList))
  | isN {d} : CmpD .Is d .none (isNonD d)
  | notN {d} : CmpD .IsNot d .none (!isNonD d)
  | inL {d ds} (h1 : flatD d = true) (h2 : ds.all flatD = true) : CmpD .In d (.list ds) (inF d ds)
  | inT {d ds} (h1 : flatD d = true) (h2 : ds.all flatD = true) : CmpD .In d (.tuple ds) (inF d ds)
  | notInL {d ds} (h1 : flatD d = true) (h2 : ds.all flatD = true) : CmpD .NotIn d (.list ds) (!inF d ds)
  | notInT {d ds} (h1 : flatD d = true) (h2 : ds.all flatD = true) : CmpD .NotIn d (.tuple ds) (!inF d ds)
  | inS {c z} : CmpD .In (.str ⟨#[c]⟩) (.str z) (decide (c ∈ z.cps.toList))
  | notInS {c z} : CmpD .NotIn (.str ⟨#[c]⟩) (.str z) (!decide (c ∈ z.cps.toList))
  | eqD {d1 d2} (h1 : SeqAt.shaped d1 = true) (h2 : SeqAt.shaped d2 = true) : CmpD .Eq d1 d2 (PyData.eqv d1 d2)
  | neD {d1 d2} (h1 : SeqAt.shaped d1 = true) (h2 : SeqAt.shaped d2 = true) : CmpD .NotEq d1 d2 (!PyData.eqv d1 d2)
inductive IxD : PyData → Int → PyData → Prop
  | l {ds i d} (h : atI ds i = some d) : IxD (.list ds) i d
  | t {ds i d} (h : atI ds i = some d) : IxD (.tuple ds) i d
  | s {z : Str} {i c} (hz : z.length ≤ sizeLine) (h : atI z.cps.toList i = some c) : IxD (.str z) i (.str ⟨#[c]⟩)
inductive LenD : PyData → Nat → Prop
  | l {ds} : LenD (.list ds) ds.length
  | t {ds} : LenD (.tuple ds) ds.length
  | s {z : Str} (hz : z.length ≤ sizeLine) : LenD (.str z) z.length
inductive TruD : PyData → Bool → Prop
  | non : TruD .none false
  | bl {b} : TruD (.bool b) b
  | int {i} : TruD (.int i) (i != 0)
  | str {z : Str} (hz : z.length ≤ sizeLine) : TruD (.str z) ((z.length : Int) != 0)
  | l {ds} : TruD (.list ds) (!ds.isEmpty)
  | t {ds} : TruD (.tuple ds) (!ds.isEmpty)
theorem flat_dp {K : PySem.W.Frag} {F : Hp} {v : V} {d : PyData} (h : Dp K F v d) : flatV v = flatD d := by
  cases h <;> rfl
theorem flat_dpAll {K : PySem.W.Frag} {F : Hp} : ∀ {vs : List V} {ds : List PyData}, DpAll K F vs ds → vs.all flatV = ds.all flatD
  | _, _, .nil => rfl
  | _, _, .cons a b => by rw [List.all_cons, List.all_cons, flat_dp a, flat_dpAll b]
theorem eq_dp {K : PySem.W.Frag} {F : Hp} {v w : V} {d d' : PyData} (h : Dp K F v d) (h' : Dp K F w d') (f1 : flatD d = true) (f2 : flatD d' = true) : eqV v w = eqF d d' := by
  cases h <;> cases h' <;> first | rfl | (simp [flatD] at f1; done) | (simp [flatD] at f2; done)
theorem in_dp {K : PySem.W.Frag} {F : Hp} {v : V} {d : PyData} (h : Dp K F v d) (f : flatD d = true) : ∀ {vs : List V} {ds : List PyData}, DpAll K F vs ds → ds.all flatD = true → inV v vs = inF d ds
  | _, _, .nil, _ => rfl
  | _, _, .cons a b, g => by
    rw [List.all_cons, Bool.and_eq_true] at g
    have ih := in_dp h f b g.2
    unfold inV inF at ih ⊢
    rw [List.any_cons, List.any_cons, eq_dp a h g.1 f, ih]
section
variable {X : Cx} {e e2 e3 tg iter elt : Expr} {es ifs : List Expr} {st : Stmt} {ss body : List Stmt} {env env' : AEnv} {d d1 d2 : PyData} {A : AE} {pos p p2 p3 p4 : Pos} {N : List Str} {i j : Nat} {x : Str} {k : Nat}
theorem g_add (h1 : XD X e env d1) (h2 : XD X e2 env d2) (h : AddD d1 d2 d) : XD X (.BinOp e .Add e2 pos) env d := by
  cases h with
  | int => exact xd_add h1 h2
  | str h => exact xd_cat h1 h2 h
theorem opd_in {K : PySem.W.Frag} {neg : Bool} {b : Bool} {ds : List PyData} (hd : ∀ F H v, Same F H → Dp K F v d2 → ∃ a vs, v = .ref a ∧ (SqL K H a vs ∨ SqT K H a vs) ∧ DpAll K F vs ds) (h1 : flatD d1 = true) (h2 : ds.all flatD = true) (hb : (if neg then !inF d1 ds else inF d1 ds) = b) : OpD K (rIn K neg) d1 d2 (.bool b) :=
  fun F H v w fr p1 p2 Q q => by
    obtain ⟨a, vs, rfl, z1, z2⟩ := hd F H w fr p2
    exact ⟨a, vs, rfl, z1, by rw [flat_dp p1]; exact h1, by rw [flat_dpAll z2]; exact h2, by rw [in_dp p1 h1 z2 h2, hb]; exact q _ F H (Gro.refl fr) (.bl _)⟩
theorem hd_l {K : PySem.W.Frag} {ds : List PyData} : ∀ F H v, Same F H → Dp K F v (.list ds) → ∃ a vs, v = .ref a ∧ (SqL K H a vs ∨ SqT K H a vs) ∧ DpAll K F vs ds := fun F H v fr p => let ⟨a, vs, e, z1, z2⟩ := dL p; ⟨a, vs, e, .inl (fr.seq z1), z2⟩
theorem hd_t {K : PySem.W.Frag} {ds : List PyData} : ∀ F H v, Same F H → Dp K F v (.tuple ds) → ∃ a vs, v = .ref a ∧ (SqL K H a vs ∨ SqT K H a vs) ∧ DpAll K F vs ds := fun F H v fr p => let ⟨a, vs, e, z1, z2⟩ := dT p; ⟨a, vs, e, .inr (seqT_mono fr z1), z2⟩
theorem cmp_r {op : CmpOp} {b : Bool} (hr : Room k X.A) (h : CmpD op d1 d2 b) : ∃ r, OpR X (compareOp op) r ∧ OpD X.K r d1 d2 (.bool b) := by
  cases h with
  | ltI => exact ⟨_, op_lt, opd_I0 fun _ => .bl _⟩
  | leI => exact ⟨_, op_le, opd_I0 fun _ => .bl _⟩
  | gtI => exact ⟨_, op_gt, opd_I0 fun _ => .bl _⟩
  | geI => exact ⟨_, op_ge, opd_I0 fun _ => .bl _⟩
  | eqI => exact ⟨_, op_eq, opd_eq (fun _ _ => dI) (fun _ _ => dI) rfl dec_int⟩
  | neI => exact ⟨_, op_ne, opd_ne (fun _ _ => dI) (fun _ _ => dI) rfl (by rw [dec_int])⟩
  | eqS => exact ⟨_, op_eq, opd_eq (fun _ _ => dS) (fun _ _ => dS) rfl dec_str⟩
  | neS => exact ⟨_, op_ne, opd_ne (fun _ _ => dS) (fun _ _ => dS) rfl (by rw [dec_str])⟩
  | eqB => exact ⟨_, op_eq, opd_eq (fun _ _ => dB) (fun _ _ => dB) rfl dec_bl⟩
  | neB => exact ⟨_, op_ne, opd_ne (fun _ _ => dB) (fun _ _ => dB) rfl (by rw [dec_bl])⟩
  | ltS => exact ⟨_, op_lt_str, fun F H v w fr p1 p2 Q q => ⟨_, _, dS p1, dS p2, q _ F H (Gro.refl fr) (.bl _)⟩⟩
  | isN => exact ⟨_, op_isN, fun F H v w fr p1 p2 Q q => ⟨dN p2, by rw [dp_non p1]; exact q _ F H (Gro.refl fr) (.bl _)⟩⟩
  | notN => exact ⟨_, op_notN, fun F H v w fr p1 p2 Q q => ⟨dN p2, by rw [dp_non p1]; exact q _ F H (Gro.refl fr) (.bl _)⟩⟩
  | inL h1 h2 => exact ⟨_, op_in_seq, opd_in hd_l h1 h2 rfl⟩
  | inT h1 h2 => exact ⟨_, op_in_seq, opd_in hd_t h1 h2 rfl⟩
  | notInL h1 h2 => exact ⟨_, op_notIn_seq, opd_in hd_l h1 h2 rfl⟩
  | notInT h1 h2 => exact ⟨_, op_notIn_seq, opd_in hd_t h1 h2 rfl⟩
  | inS => exact ⟨_, op_in_sign, fun F H v w fr p1 p2 Q q => ⟨_, _, dS p1, dS p2, q _ F H (Gro.refl fr) (.bl _)⟩⟩
  | notInS => exact ⟨_, op_notIn_sign, fun F H v w fr p1 p2 Q q => ⟨_, _, dS p1, dS p2, q _ F H (Gro.refl fr) (.bl _)⟩⟩
  | eqD s1 s2 => exact ⟨_, op_eqD hr.units, fun F H v w fr p1 p2 Q q => ⟨d1, d2, dp_mono fr p1, dp_mono fr p2, s1, s2, q _ F H (Gro.refl fr) (.bl _)⟩⟩
  | neD s1 s2 => exact ⟨_, op_neD hr.units, fun F H v w fr p1 p2 Q q => ⟨d1, d2, dp_mono fr p1, dp_mono fr p2, s1, s2, q _ F H (Gro.refl fr) (.bl _)⟩⟩
theorem g_cmp {op : CmpOp} {b : Bool} (hr : Room k X.A) (h1 : XD X e env d1) (h2 : XD X e2 env d2) (h : CmpD op d1 d2 b) (hm : behindInMarks op e2 = false := by first | exact nomark _ | rfl) : XD X (.Compare e [op] [e2] pos) env (.bool b) := by
  obtain ⟨r, ho, hd⟩ := cmp_r hr h
  exact x2 (pe_cmpR ho e_w e_w hm) h1 h2 hd
theorem g_cmpT {op : CmpOp} {b : Bool} (hr : Room k X.A) (h1 : XD X e env d1) (h2 : XD X e2 env d2) (h : CmpD op d1 d2 b) (hm : behindInMarks op e2 = false := by first | exact nomark _ | rfl) : XT X (.Compare e [op] [e2] pos) env b := by
  obtain ⟨r, ho, hd⟩ := cmp_r hr h
  exact cmpT (op := op) (pt_cmpR ho e_w e_w hm) h1 h2 hd
/-- a < b < c and its kin -/
theorem g_chain {op op' : CmpOp} {a b : Bool} {d3 : PyData} (hr : Room k X.A) (h1 : XD X e env d1) (h2 : XD X e2 env d2) (h : CmpD op d1 d2 a) (h3 : XD X e3 env d3) (h' : CmpD op' d2 d3 b)
    (hp : ∀ r r', OpR X (compareOp op) r → OpR X (compareOp op') r' → PT X (.Compare e [op, op'] [e2, e3] pos) (tTest (tChain r r' (wE X e) (wE X e2) (wE X e3)))) : XT X (.Compare e [op, op'] [e2, e3] pos) env (a && b) := by
  obtain ⟨r, ho, hd⟩ := cmp_r hr h
  obtain ⟨r', ho', hd'⟩ := cmp_r hr h'
  intro F0 H0 F σ H E Q q
  refine t_of (hp r r' ho ho') ?_
  refine h1 _ _ F σ H E _ fun v F1 H1 g1 p1 => ?_
  refine h2 _ _ F1 σ H1 (E.grow g1) _ fun w F2 H2 g2 p2 => ?_
  refine hd F2 H2 v w g2.fr (dp_mono g2.f p1) p2 _ fun u F3 H3 g3 p3 => ⟨a, dB p3, ?_⟩
  have gA := (g1.trans g2).trans g3
  cases a with
  | true =>
    refine iteT (h3 _ _ F3 σ H3 (E.grow gA) _ fun y F4 H4 g4 p4 => ?_)
    exact hd' F4 H4 w y g4.fr (dp_mono (g3.f.trans g4.f) p2) p4 _ fun z F5 H5 g5 p5 => ⟨b, dB p5, q F5 H5 ((gA.trans g4).trans g5)⟩
  | false => exact iteF ⟨false, rfl, q F3 H3 gA⟩
theorem g_ix {n : Int} (h1 : XD X e env d1) (h2 : XD X e2 env (.int n)) (h : IxD d1 n d) (hp : PlainIx e2 := by exact fun _ _ => rfl) : XD X (.Subscript e e2 pos) env d := by
  cases h with
  | l h => exact xd_ixL h1 h2 h hp
  | t h => exact xd_ixT h1 h2 h hp
  | s hz h => exact xd_ixS h1 h2 hz h hp
theorem g_len {n : Nat} (h1 : XD X e env d1) (h : LenD d1 n) (hm : X.mg "len" = none) (hg : Gl X "len" := by rfl) (hs : starEach [e] X.env = (false, eval e X.env) :: starEach [] X.env := by rfl) (hpl : (backTo pos (starEach [] X.env)).any (·.1) = false := by rfl) :
    XD X (.Call (.Name "len" p) [e] [] pos) env (.int n) := by
  cases h with
  | l => exact xd_lenL h1 hm hg hs hpl
  | t => exact xd_lenT h1 hm hg hs hpl
  | s hz => exact xd_lenS h1 hz hm hg hs hpl
theorem g_tru {b : Bool} (h1 : XD X e env d1) (h : TruD d1 b) (he : ∀ whole, isTrue e X.env whole = (do let v ← whole; standAt e.pos; holding [v] (truthy v)) := by intro _; rfl) : XT X e env b := by
  intro F0 H0 F σ H E Q q
  refine t_of (pt_truth e_w he) (h1 _ _ F σ H E _ fun v F1 H1 g1 p1 => ?_)
  cases h with
  | non => rw [dN p1]; exact ⟨_, rfl, q F1 H1 g1⟩
  | bl => rw [dB p1]; exact ⟨_, rfl, q F1 H1 g1⟩
  | int => rw [dI p1]; exact ⟨_, rfl, q F1 H1 g1⟩
  | str hz => rw [dS p1]; exact ⟨_, ⟨hz, rfl⟩, q F1 H1 g1⟩
  | l =>
    rename_i ds
    obtain ⟨a, vs, rfl, z1, z2⟩ := dL p1
    have e1 : vs.isEmpty = ds.isEmpty := by cases z2 <;> rfl
    exact ⟨!vs.isEmpty, .inl ⟨vs, g1.fr.seq z1, rfl⟩, by rw [e1]; exact q F1 H1 g1⟩
  | t =>
    rename_i ds
    obtain ⟨a, vs, rfl, z1, z2⟩ := dT p1
    have e1 : vs.isEmpty = ds.isEmpty := by cases z2 <;> rfl
    exact ⟨!vs.isEmpty, .inr (.inl ⟨vs, seqT_mono g1.fr z1, rfl⟩), by rw [e1]; exact q F1 H1 g1⟩
/-- the truth of a list of one's own -/
theorem n_truO {xs : List PyData} (hN : X.N = N) (hat : AtN N env i x (.l xs)) (hs : Vis X.env.scope x := by first | exact Or.inl rfl | exact Or.inr (Or.inl rfl) | exact Or.inr (Or.inr rfl))
    (hd : (x == ("__debug__" : Str)) = false := by decide) (hc : (x == ("__classdict__" : Str)) = false := by decide) (he : ∀ whole, isTrue (.Name x p) X.env whole = (do let v ← whole; standAt (Expr.Name x p).pos; holding [v] (truthy v)) := by intro _; rfl) : XT X (.Name x p) env (!xs.isEmpty) := by
  subst hN
  intro F0 H0 F σ H E Q q
  obtain ⟨v, s1, a, vs, rfl, z1, z2⟩ := E.slot i _ hat.get.1
  refine t_of (pt_truth (pe_var hat.get.2 hs hd hc) he) ⟨_, s1, _, .inl ⟨vs, .inl (.inl z1), rfl⟩, ?_⟩
  have : vs.isEmpty = xs.isEmpty := by cases z2 <;> rfl
  rw [this]; exact q F H E.rfl'

/-! ## isinstance of a built-in class -/
def tyD : PyData → String
  | .none => "NoneType"
  | .bool _ => "bool"
  | .int _ => "int"
  | .str _ => "str"
  | .list _ => "list"
  | .tuple _ => "tuple"
  | .dict _ => "dict"
theorem tyx_dp {K : PySem.W.Frag} {F H : Hp} {v : V} {d : PyData} (fr : Same F H) (h : Dp K F v d) : TyX K H v (.type (tyD d)) := by
  cases h with
  | non => exact .base .non
  | bl b => exact .base (.bl b)
  | int i => exact .base (.int i)
  | str z => exact .base (.str z)
  | lst h _ =>
    rcases h with (z | ⟨o, z⟩) | ⟨o, its, n, z, c, _⟩
    · exact .base (.lst (fr _ _ z))
    · exact .base (.frz (fr _ _ z))
    · exact .kList z c
  | tup h _ =>
    rcases h with (z | ⟨o, z⟩) | ⟨o, its, n, z, c, _⟩
    · exact .base (.tup (fr _ _ z))
    · exact .fTuple (fr _ _ z)
    · exact .kTuple z c
theorem g_isi {T : Str} {t : String} {b : Bool} (h1 : XD X e env d1) (hk : kitB (tyD d1) t = some b) (hm : X.mg "isinstance" = none) (hT : X.mg T = none) (hv : bootBuiltins T = some (.type t) := by decide +kernel) (hg : Gl X "isinstance" := by rfl) (hgT : Gl X T := by rfl)
    (hn : T ≠ "__name__" := by decide) (hdb : (T == ("__debug__" : Str)) = false := by decide)
    (hs : starEach [e, .Name T p2] X.env = (false, eval e X.env) :: starEach [.Name T p2] X.env := by rfl) (hs2 : starEach [.Name T p2] X.env = (false, eval (.Name T p2) X.env) :: starEach [] X.env := by rfl) (hpl : (backTo pos (starEach [.Name T p2] X.env)).any (·.1) = false := by rfl) :
    XD X (.Call (.Name "isinstance" p) [e, .Name T p2] [] pos) env (.bool b) := fun F0 H0 F σ H E Q q => by
  refine e_of (pe_callB call_isi hg hm (by decide +kernel) (pa_cons e_w (pa_cons (pe_bltn (v := .ty t) hgT hT hv rfl hn hdb) pa_nil hs2) hs) (by decide) (by decide) hs hpl) ?_
  refine h1 _ _ F σ H E _ fun v F1 H1 g1 p1 => ?_
  exact ⟨v, .ty t, .type (tyD d1), .type t, b, rfl, .ty t, tyx_dp g1.fr p1, kit_ty hk, q _ F1 H1 g1 (.bl b)⟩

theorem boot_str' : bootBuiltins "str" = some (.type "str") := by decide +kernel
theorem boot_int' : bootBuiltins "int" = some (.type "int") := by decide +kernel
theorem boot_tuple' : bootBuiltins "tuple" = some (.type "tuple") := by decide +kernel
theorem boot_list' : bootBuiltins "list" = some (.type "list") := by decide +kernel
theorem boot_bool' : bootBuiltins "bool" = some (.type "bool") := by decide +kernel
theorem kb_ss : kitB "str" "str" = some true := by decide +kernel
theorem kb_tt : kitB "tuple" "tuple" = some true := by decide +kernel
theorem kb_ii : kitB "int" "int" = some true := by decide +kernel
theorem kb_ib : kitB "int" "bool" = some false := by decide +kernel
theorem kb_bb : kitB "bool" "bool" = some true := by decide +kernel
theorem kb_ll : kitB "list" "list" = some true := by decide +kernel
section
variable {b : Bool} {T : Str} {t : String}
theorem g_isi' (h1 : XD X e env d1) (hk : kitB (tyD d1) t = some b) (hm : X.mg "isinstance" = none) (hT : X.mg T = none) (hv : bootBuiltins T = some (.type t)) (hn : T ≠ "__name__") (hdb : (T == ("__debug__" : Str)) = false) (hg : Gl X "isinstance" := by rfl) (hgT : Gl X T := by rfl)
    (hs : starEach [e, .Name T p2] X.env = (false, eval e X.env) :: starEach [.Name T p2] X.env := by rfl) (hs2 : starEach [.Name T p2] X.env = (false, eval (.Name T p2) X.env) :: starEach [] X.env := by rfl) (hpl : (backTo pos (starEach [.Name T p2] X.env)).any (·.1) = false := by rfl) :
    XD X (.Call (.Name "isinstance" p) [e, .Name T p2] [] pos) env (.bool b) := g_isi h1 hk hm hT hv hg hgT hn hdb hs hs2 hpl
end
theorem nn_str : ("str" : Str) ≠ "__name__" := by decide
theorem nn_tuple : ("tuple" : Str) ≠ "__name__" := by decide
theorem nn_int : ("int" : Str) ≠ "__name__" := by decide
theorem nn_bool : ("bool" : Str) ≠ "__name__" := by decide
theorem nn_list : ("list" : Str) ≠ "__name__" := by decide
theorem nd_str : (("str" : Str) == ("__debug__" : Str)) = false := by decide
theorem nd_tuple : (("tuple" : Str) == ("__debug__" : Str)) = false := by decide
theorem nd_int : (("int" : Str) == ("__debug__" : Str)) = false := by decide
theorem nd_bool : (("bool" : Str) == ("__debug__" : Str)) = false := by decide
theorem nd_list : (("list" : Str) == ("__debug__" : Str)) = false := by decide

/-! ## a text backwards -/
def revS (z : Str) : Str := ⟨z.cps.toList.reverse.toArray⟩
theorem revS_len (z : Str) : (revS z).length = z.length := by simp [revS, Str.length]
def tRevS (te : TE) : TE := fun σ H Q => te σ H fun x H1 => ∃ z, x = .str z ∧ z.length ≤ sizeLine ∧ Q (.str (revS z)) H1
theorem pe_revS {te : TE} {kk : Nat} {p1 : Pos} (he : PE X e te) : PE X (.Subscript e (.Slice none none (some (.UnaryOp .USub (.Constant (.int 1) kk p1) p2)) p3) pos) (tRevS te) := by
  refine ⟨fun pins s σ H Q I h => ?_⟩
  refine Subscript_ (thn (he.run pins s σ H _ I h) fun v s1 ⟨x, H1, I1, r1, q1⟩ => ?_)
  obtain ⟨z, rfl, hz, q⟩ := q1
  obtain ⟨t, rfl⟩ := r1
  have hst : PO X (some (.UnaryOp .USub (.Constant (.int 1) kk p1) p2)) (tPart (tUn (rU fun i => .int (-i)) (tC (.int 1)))) := po_some (pe_un un_neg pe_int)
  refine wpAny_Slice (thn (po_none.run pins s1 σ H1 (fun o H2 => o = none ∧ H2 = H1) I1 ⟨rfl, rfl⟩) fun vl s2 ⟨l, H2, I2, pl, el, e2⟩ => ?_)
  subst el e2
  refine thn (po_none.run pins s2 σ H2 (fun o H3 => o = none ∧ H3 = H2) I2 ⟨rfl, rfl⟩) fun vu s3 ⟨u, H3, I3, pu, eu, e3⟩ => ?_
  subst eu e3
  refine thn (hst.run pins s3 σ H3 (fun o H4 => o = some (-1) ∧ H4 = H3) I3 ⟨1, rfl, -1, rfl, rfl, rfl⟩) fun vs s4 ⟨o, H4, I4, ps, eo, e4⟩ => ?_
  subst eo e4
  obtain ⟨l', hl, e5⟩ := IsPart.raw pl
  obtain ⟨u', hu, e6⟩ := IsPart.raw pu
  obtain ⟨w', hw, e7⟩ := IsPart.raw ps
  have l0 : l' = none := by cases l' with
    | none => rfl
    | some y => simp at e5
  have u0 : u' = none := by cases u' with
    | none => rfl
    | some y => simp at e6
  obtain ⟨tw, w0⟩ : ∃ tw, w' = some (-1, tw) := by
    cases w' with
    | none => simp at e7
    | some y => obtain ⟨y1, y2⟩ := y; simp at e7; exact ⟨y2, by rw [e7]⟩
  subst l0 u0 w0 hl hu hw
  have hsl : (s4.heap.push { cls := .type "slice", data := .fields #[partValue none, partValue none, partValue (some (-1, tw))] }).IsSlice s4.heap.objs.size none none (some (-1, tw)) := ⟨_, Heap.get?_push_size _ rfl, rfl, rfl⟩
  have I5 : L2.Inv X pins σ H4 { s4 with heap := s4.heap.push { cls := .type "slice", data := .fields #[partValue none, partValue none, partValue (some (-1, tw))] } } := I4.kept (t' := s4.toks) fun b ob q => Heap.get?_push_of_some _ q
  show wpAny (model X.prog X.w) X.A (subscriptTail e (.Slice none none (some (.UnaryOp .USub (.Constant (.int 1) kk p1) p2)) p3) (.str z t) (.ref s4.heap.objs.size)) (EP X pins σ Q) X.xe { s4 with heap := s4.heap.push { cls := .type "slice", data := .fields #[partValue none, partValue none, partValue (some (-1, tw))] } }
  refine tail_any (ops := [.str z t, .ref s4.heap.objs.size]) (typeIs_str _ _ _) F.slot_str_getitem.lookup ?_ (by with_unfolding_all rfl)
  refine wpAny_getItem_str_slice hsl rfl ?_
  have e8 : (⟨((slicePicked z none none (some (-1, tw))).filterMap (z.cps[·]?)).toArray⟩ : Str) = revS z := by
    have h1 : ((slicePicked z none none (some (-1, tw))).filterMap (z.cps[·]?)) = z.cps.toList.reverse := by
      show ((Builtin.Str.strSliceIndices none none (-1) z.length).filterMap (z.cps[·]?)) = _
      rw [picked_rev, filterMap_get _ _ (fun i hi => by
        obtain ⟨k, hk, rfl⟩ := List.mem_map.mp hi
        have := List.mem_range.mp hk
        show _ < z.length
        omega), List.map_map]
      apply List.ext_getElem
      · simp [Str.length]
      · intro i a b
        simp [Str.length] at a b ⊢
        have hb : z.cps.size - 1 - i < z.cps.size := by omega
        rw [Array.getElem?_eq_getElem hb]
        rfl
    unfold revS
    rw [h1]
  have e9 : sliceMade z t none none (some (-1, tw)) = .str (revS z) := by
    unfold sliceMade
    rw [if_neg (by simp), e8]
  rw [e9]
  exact ⟨by rw [revS_len]; exact hz, .str _, H4, I5.tok _, ⟨_, rfl⟩, q⟩
theorem g_rev {z : Str} {kk : Nat} {p1 : Pos} (h : XD X e env (.str z)) (hz : z.length ≤ sizeLine) : XD X (.Subscript e (.Slice none none (some (.UnaryOp .USub (.Constant (.int 1) kk p1) p2)) p3) pos) env (.str (revS z)) := fun F0 H0 F σ H E Q q =>
  e_of (pe_revS e_w) (h _ _ F σ H E _ fun v F1 H1 g1 p1 => ⟨z, dS p1, hz, q _ F1 H1 g1 (.str _)⟩)

/-! ## text * number -/
def repS (z : Str) (n : Nat) : Str := ⟨(List.replicate n z.cps.toList).flatten.toArray⟩
theorem foldl_arr : ∀ (l : List (Array Nat)) (a : Array Nat), (l.foldl (· ++ ·) a).toList = a.toList ++ (l.map (·.toList)).flatten
  | [], a => by simp
  | x :: r, a => by
    rw [List.foldl_cons, foldl_arr r (a ++ x)]; simp
theorem repS_eq (z : Str) (n : Nat) : (⟨(List.replicate n z.cps).foldl (· ++ ·) #[]⟩ : Str) = repS z n := by
  unfold repS
  congr 1
  apply Array.toList_inj.mp
  rw [foldl_arr]
  simp
theorem repS_len (z : Str) (n : Nat) : (repS z n).length = n * z.length := by
  simp [repS, Str.length]
def rMulS : R2 := fun x y H Q => ∃ z n, x = .str z ∧ y = .int n ∧ -100000 ≤ n ∧ n ≤ 100000 ∧ z.length * n.toNat ≤ sizeLine ∧ Q (.str (repS z n.toNat)) H
theorem op_mulS : OpR X (binaryOp .Mult) rMulS := by
  intro pins s σ H x y v u Q I rx ry h
  obtain ⟨z, n, rfl, rfl, h1, h2, hz, q⟩ := h
  obtain ⟨t, rfl⟩ := rx
  obtain ⟨t', rfl⟩ := ry
  have hsl := sizeLine_eq
  by_cases n1 : n < 1
  · refine PySem.P.mul_str_none n1 (by omega) ⟨.str _, H, I.tok _, ⟨_, rfl⟩, ?_⟩
    rw [show n.toNat = 0 by omega] at q
    exact q
  refine PySem.P.mul_str ?_ (fun _ _ => ?_) (fun _ _ => ?_) ?_
  · rw [decide_eq_false (by omega), decide_eq_false (by omega)]; rfl
  · have h3 : (z.length : Int) ≤ (2 ^ 63 - 1) / n := by
      rw [Int.le_ediv_iff_mul_le (by omega)]
      have h4 : (z.length : Int) * n = ((z.length * n.toNat : Nat) : Int) := by
        rw [Int.natCast_mul, Int.toNat_of_nonneg (by omega)]
      rw [h4]
      omega
    omega
  · exact decide_eq_false (by omega)
  · rw [if_neg n1]
    by_cases c : (n == 1 || z.length == 0) = true
    · rw [if_pos c]
      have e : repS z n.toNat = z := by
        rw [Bool.or_eq_true, beq_iff_eq, beq_iff_eq] at c
        rcases c with c | c
        · subst c; simp [repS]
        · have : z.cps = #[] := Array.eq_empty_of_size_eq_zero c
          cases z; simp at this; subst this
          simp [repS]
      rw [e] at q
      exact ⟨.str z, H, I, ⟨t, rfl⟩, q⟩
    · rw [if_neg c, repS_eq]
      exact ⟨by rw [repS_len, Nat.mul_comm]; exact hz, .str _, H, I.tok _, ⟨_, rfl⟩, q⟩
theorem g_mulS {z : Str} {n : Int} (h1 : XD X e env (.str z)) (h2 : XD X e2 env (.int n)) (hn : -100000 ≤ n ∧ n ≤ 100000) (hz : z.length * n.toNat ≤ sizeLine) : XD X (.BinOp e .Mult e2 pos) env (.str (repS z n.toNat)) :=
  x2 (pe_op op_mulS e_w e_w) h1 h2 fun F H v w fr p1 p2 Q q => ⟨z, n, dS p1, dI p2, hn.1, hn.2, hz, q _ F H (Gro.refl fr) (.str _)⟩
/-! ## list + list, both read -/
def rCatQ (K : PySem.W.Frag) : R2 := fun x y H Q => ∃ l b xs zs, x = .ref l ∧ y = .ref b ∧ SqL K H l xs ∧ SqL K H b zs ∧ xs.length + zs.length ≤ sizeLine ∧ ∀ p, H p = none → Q (.ref p) (upd H p (.lst (xs ++ zs)))
theorem op_catQ : OpR X (binaryOp .Add) (rCatQ X.K) := by
  intro pins s σ H x y v u Q I rx ry h
  obtain ⟨l, b, xs, zs, rfl, rfl, hH, hB, hz, q⟩ := h
  cases rx
  cases ry
  obtain ⟨its, r, ⟨o1, n1, e1, c1, _, d1⟩, hl⟩ := I.list hH
  obtain ⟨its2, r2, ⟨o2, n2, e2, c2, _, d2⟩, hl2⟩ := I.list hB
  obtain ⟨cls, dd, data, sl⟩ := o1
  obtain ⟨cls2, dd2, data2, sl2⟩ := o2
  simp only at c1 d1 c2 d2
  subst c1 d1 c2 d2
  have q1 := r.length
  have q2 := r2.length
  have ea : its.toArray ++ its2.toArray = (its ++ its2).toArray := by simp
  refine concat_meets ⟨_, e1, rfl⟩ ⟨_, e2, rfl⟩ noFill_list_add seq_list_add PySem.F.slot_list_add PySem.F.entry_list_add (PySem.F.args_list_add_2 _ _) (list_addW l b its.toArray its2.toArray n1 n2 dd dd2 sl sl2 (by simp; omega)) ⟨e1, e2, ?_⟩
  rw [ea]
  exact ⟨.ref _, _, I.lnew (t' := s.toks) (r.append r2) (by rw [List.length_append]; omega), rfl, q _ I.fresh⟩
theorem xl_catD {xs ys : List PyData} (h1 : XD X e env (.list xs)) (h2 : XD X e2 env (.list ys)) (hz : xs.length + ys.length ≤ sizeLine) : XL X (.BinOp e .Add e2 pos) env (xs ++ ys) := fun F0 H0 F σ H E Q q => by
  refine e_of (pe_op op_catQ e_w e_w) (h1 _ _ F σ H E _ fun v F1 H1 g1 p1 => ?_)
  refine h2 _ _ F1 σ H1 (E.grow g1) _ fun w F2 H2 g2 p2 => ?_
  obtain ⟨a, vs, rfl, z1, z2⟩ := dL p1
  obtain ⟨b, us, rfl, y1, y2⟩ := dL p2
  refine ⟨a, b, vs, us, rfl, rfl, (g2.f.trans g2.fr).seq z1, g2.fr.seq y1, by rw [dpAll_len z2, dpAll_len y2]; exact hz, fun t ht => ?_⟩
  exact q t _ F2 _ ((g1.trans g2).trans (Gro.own g2.fr ht)) ((g1.trans g2).h.free ht) (g2.fr.free ht) upd_same (dpAll_append (dpAll_mono g2.f z2) y2)
/-- y = f(..), any of its answers -/
theorem n_setAny {y x : Str} {C : Cn} {env' : PyData → AEnv} {p0 p9 : Pos} (D : DefOk X.prog X.w X.K X.mg X.base x k C) (hr : Room k X.A) (c : C.ι) (ha : XA X (e :: es) env (C.args c)) (hp : C.ok c) (hN : X.N = N) (hnd : N.Nodup) (hst : ∀ r, SetN N env i y (some (.d r)) (env' r)) (hn : ∀ r, C.post c r → A.nx (env' r))
    (hyy : L2.Loc X.env.scope y := by first | exact .inl rfl | exact .inr rfl)
    (hs : swapsWith (.Call (.Name x p) (e :: es) [] p9) (some (.Name y p2)) p0.line X.env = pure false := by rfl) (hf : X.fn y = true ∨ X.env.scope.names.lookup y = some .local := by first | exact .inl rfl | exact .inr rfl) (hg : Gl X x := by rfl) (hdb : (x == ("__debug__" : Str)) = false := by decide)
    (he : starEach (e :: es) X.env = (false, eval e X.env) :: starEach es X.env := by rfl) (hpl : (backTo p9 (starEach es X.env)).any (·.1) = false := by rfl) (hx : Passes CX0 X E0 := by exact pass0) : XS X (.Assign [.Name y p2] (.Call (.Name x p) (e :: es) [] p9) p0) env A := fun F0 H0 F σ H D' E l => by
  subst hN
  obtain ⟨f, fd, ps, FO, hm, kp, bd⟩ := D.ex
  refine s_of (ps_set hnd (hst .none).get.2 hyy (pe_call FO hr hg hm kp bd .nil hx a_w hdb he hpl) hs hf) (ha _ _ F σ H E _ fun vs F1 H1 g1 p1 => ?_)
  rw [List.append_nil]
  exact ⟨F1, c, g1.fr, p1, hp, fun r v F2 H2 hr g2 p2 => l.nx _ F2 _ H2 ((E.grow (g1.trans g2)).set (av := .d r) p2 rfl) (by rw [(hst r).get.1]; exact hn r hr)⟩
/-! ## tests whose answer is known -/
theorem xs_ifF {b : Bool} {a c : List Stmt} (h : XT X e env b) (hb : b = false) (h2 : XB X c env A) : XS X (.If e a c pos) env A :=
  xs_if h (fun q => by rw [hb] at q; cases q) (fun _ => h2)
theorem xs_ifT {b : Bool} {a c : List Stmt} (h : XT X e env b) (hb : b = true) (h1 : XB X a env A) : XS X (.If e a c pos) env A :=
  xs_if h (fun _ => h1) (fun q => by rw [hb] at q; cases q)
theorem xl_to {xs ys : List PyData} (h : XL X e env xs) (he : xs = ys) : XL X e env ys := he ▸ h
end
end FR

namespace My
open PySem PySem.Spec PyProof.Rows L2 FR
def topS (i : Nat) : Stmt := PySem.Challenge.pw_fromruns_k15_runs_of_corners.main.body.getD i (.Pass ⟨0, 0, 0, 0⟩)
abbrev s_three_runs : Stmt := topS 1
theorem sc_three_runs : FnScope ["corner", "u", "z", "v", "w", "x"] ["corner"] (defScope s_three_runs) := ⟨rfl, rfl, rfl, by decide +kernel, rfl, by decide +kernel, by decide +kernel⟩
abbrev s_fourth_run : Stmt := topS 2
theorem sc_fourth_run : FnScope ["corner"] ["corner"] (defScope s_fourth_run) := ⟨rfl, rfl, rfl, by decide +kernel, rfl, by decide +kernel, by decide +kernel⟩
abbrev s_law_cell : Stmt := topS 4
theorem sc_law_cell : FnScope ["script", "k"] ["script", "k"] (defScope s_law_cell) := ⟨rfl, rfl, rfl, by decide +kernel, rfl, by decide +kernel, by decide +kernel⟩
abbrev s_law_draws : Stmt := topS 5
theorem sc_law_draws : FnScope ["cell", "count", "rest", "digits", "seed", "draws", "k", "mixed"] ["cell", "count"] (defScope s_law_draws) := ⟨rfl, rfl, rfl, by decide +kernel, rfl, by decide +kernel, by decide +kernel⟩
abbrev s_law_is_run : Stmt := topS 6
theorem sc_law_is_run : FnScope ["value", "letter"] ["value"] (defScope s_law_is_run) := ⟨rfl, rfl, rfl, by decide +kernel, rfl, by decide +kernel, by decide +kernel⟩
abbrev s_law_letters : Stmt := topS 7
theorem sc_law_letters : FnScope ["draw", "count", "start", "step", "k"] ["draw", "count"] (defScope s_law_letters) := ⟨rfl, rfl, rfl, by decide +kernel, rfl, by decide +kernel, by decide +kernel⟩
abbrev s_law_word : Stmt := topS 8
theorem sc_law_word : FnScope ["draw", "letters", "longest", "size", "rest", "word", "k"] ["draw", "letters", "longest"] (defScope s_law_word) := ⟨rfl, rfl, rfl, by decide +kernel, rfl, by decide +kernel, by decide +kernel⟩
abbrev s_law : Stmt := topS 9
theorem sc_law : FnScope ["script", "draws", "letters", "turn", "parts", "corner", "told", "due", "last", "at", "part", "run"] ["script"] (defScope s_law) := ⟨rfl, rfl, rfl, by decide +kernel, rfl, by decide +kernel, by decide +kernel⟩
structure Bi (mg : Str → Option Value) : Prop where
  z_len : mg "len" = none
  z_abs : mg "abs" = none
  z_int : mg "int" = none
  z_range : mg "range" = none
  z_isinstance : mg "isinstance" = none
  z_str : mg "str" = none
  z_all : mg "all" = none
  z_sorted : mg "sorted" = none
  z_tuple : mg "tuple" = none
/-! ### tactic words: "fr x": an expression, a test, arguments, and what they ask; "fr set": a name's store -/
local macro_rules | `(tactic| walk_at "fr at") => `(tactic| (solve | (repeat (first | with_reducible exact AtN.here | with_reducible apply AtN.there))))
local macro_rules | `(tactic| walk_at "fr st") => `(tactic| (solve | (repeat (first | with_reducible exact SetN.here | with_reducible apply SetN.there))))
local macro_rules | `(tactic| walk_at "fr side") => `(tactic| first | omega | exact Or.inl ⟨by decide, by decide⟩ | exact Or.inr ⟨by decide, by decide⟩ | (constructor <;> decide) | decide | (constructor <;> omega) | skip)
local macro_rules | `(tactic| walk_at "fr item") => `(tactic| first | rfl | skip)
local macro_rules | `(tactic| walk_at "fr rel") => `(tactic| first
  | with_reducible exact AddD.int | ((with_reducible refine' AddD.str ?_) <;> walk_at "fr side")
  | with_reducible exact CmpD.ltI | with_reducible exact CmpD.leI | with_reducible exact CmpD.gtI | with_reducible exact CmpD.geI | with_reducible exact CmpD.eqI | with_reducible exact CmpD.neI
  | with_reducible exact CmpD.eqS | with_reducible exact CmpD.neS | with_reducible exact CmpD.eqB | with_reducible exact CmpD.neB | with_reducible exact CmpD.ltS | with_reducible exact CmpD.isN | with_reducible exact CmpD.notN
  | with_reducible exact CmpD.inS | with_reducible exact CmpD.notInS
  | (with_reducible refine' CmpD.inL ?_ ?_) | (with_reducible refine' CmpD.inT ?_ ?_) | (with_reducible refine' CmpD.notInL ?_ ?_) | (with_reducible refine' CmpD.notInT ?_ ?_)
  | (with_reducible refine' CmpD.eqD ?_ ?_) | (with_reducible refine' CmpD.neD ?_ ?_)
  | ((with_reducible refine' IxD.l ?_) <;> walk_at "fr item") | ((with_reducible refine' IxD.t ?_) <;> walk_at "fr item") | ((with_reducible refine' IxD.s ?_ ?_) <;> walk_at "fr side")
  | with_reducible exact LenD.l | with_reducible exact LenD.t | ((with_reducible refine' LenD.s ?_) <;> walk_at "fr side")
  | with_reducible exact TruD.bl | with_reducible exact TruD.int | with_reducible exact TruD.l | with_reducible exact TruD.t | with_reducible exact TruD.non | ((with_reducible refine' TruD.str ?_) <;> walk_at "fr side"))
local macro_rules | `(tactic| walk_at "fr mv") => `(tactic| first | with_reducible show List Str | with_reducible show Nat | with_reducible show Int | with_reducible show PyData | with_reducible show Str | with_reducible show Bool | with_reducible show List PyData | with_reducible show AEnv | with_reducible show Option Int | with_reducible show Option AV)
local macro_rules | `(tactic| walk_at "fr know") => `(tactic| first
  | ((with_reducible show (_ : List Str) = _); assumption) | ((with_reducible show (_ : Option Value) = none); assumption) | ((with_reducible show Room _ _); assumption)
  | ((with_reducible show kitB _ _ = _); first | exact kb_ss | exact kb_tt | exact kb_ii | exact kb_ib | exact kb_bb | exact kb_ll | decide +kernel)
  | ((with_reducible show AtN _ _ _ _ _); walk_at "fr at") | ((with_reducible show SetN _ _ _ _ _ _); walk_at "fr st") | walk_at "fr mv")
local macro_rules | `(tactic| walk_at "fr call") => `(tactic| fail "no def is known")
local macro_rules | `(tactic| walk_at "fr xd") => `(tactic| first
  | ((with_reducible show XD _ (.Name _ _) _ _); (refine' n_var ?_ ?_) <;> walk_at "fr know")
  | ((with_reducible show XD _ (.Constant _ _ _) _ _); first | with_reducible exact xd_int | with_reducible exact xd_str | with_reducible exact xd_bl | with_reducible exact xd_non | exact xd_int | exact xd_str)
  | ((with_reducible show XD _ (.BinOp _ _ _ _) _ _); first
      | ((with_reducible refine' g_add ?_ ?_ ?_) <;> walk_at "fr x")
      | ((with_reducible refine' xd_sub ?_ ?_) <;> walk_at "fr x")
      | ((with_reducible refine' xd_mul ?_ ?_ ?_) <;> walk_at "fr x")
      | ((with_reducible refine' xd_mod ?_ ?_ ?_) <;> walk_at "fr x")
      | ((with_reducible refine' xd_div ?_ ?_ ?_) <;> walk_at "fr x")
      | ((with_reducible refine' xd_pow ?_ ?_ ?_) <;> walk_at "fr x"))
  | ((with_reducible show XD _ (.Compare _ _ _ _) _ _); (refine' g_cmp ?_ ?_ ?_ ?_) <;> walk_at "fr x")
  | ((with_reducible show XD _ (.Subscript _ (.Slice _ _ _ _) _) _ _); first
      | ((with_reducible refine' xd_slS ?_ ?_ ?_ ?_) <;> walk_at "fr x")
      | ((refine' g_rev ?_ ?_) <;> walk_at "fr x"))
  | ((with_reducible show XD _ (.Subscript _ _ _) _ _); first
      | ((refine' n_ixO ?hNo ?aqo ?_ ?_); (case' hNo => assumption); (case' aqo => walk_at "fr at"); (all_goals (first | ((with_reducible show atI _ _ = _); walk_at "fr item") | walk_at "fr x")))
      | ((refine' g_ix ?_ ?_ ?_) <;> walk_at "fr x"))
  | ((with_reducible show XD _ (.Call _ _ _ _) _ _); first
      | walk_at "fr call"
      | ((with_reducible show XD _ (.Call (.Name (PySem.Str.ofString "len") _) _ _ _) _ _); (refine' n_lenO ?_ ?_ ?_) <;> walk_at "fr know")
      | ((with_reducible show XD _ (.Call (.Name (PySem.Str.ofString "len") _) _ _ _) _ _); (refine' g_len ?_ ?_ ?_) <;> walk_at "fr x")
      | ((with_reducible show XD _ (.Call (.Name (PySem.Str.ofString "int") _) _ _ _) _ _); (refine' xd_int1 ?_ ?_) <;> walk_at "fr x")
      | ((with_reducible show XD _ (.Call (.Name (PySem.Str.ofString "abs") _) _ _ _) _ _); (refine' xd_abs ?_ ?_) <;> walk_at "fr x")
      | ((with_reducible show XD _ (.Call (.Name (PySem.Str.ofString "isinstance") _) [_, .Name (PySem.Str.ofString "str") _] _ _) _ _); (refine' g_isi' ?_ ?_ ?_ ?_ boot_str' nn_str nd_str) <;> walk_at "fr x")
      | ((with_reducible show XD _ (.Call (.Name (PySem.Str.ofString "isinstance") _) [_, .Name (PySem.Str.ofString "tuple") _] _ _) _ _); (refine' g_isi' ?_ ?_ ?_ ?_ boot_tuple' nn_tuple nd_tuple) <;> walk_at "fr x")
      | ((with_reducible show XD _ (.Call (.Name (PySem.Str.ofString "isinstance") _) [_, .Name (PySem.Str.ofString "int") _] _ _) _ _); (refine' g_isi' ?_ ?_ ?_ ?_ boot_int' nn_int nd_int) <;> walk_at "fr x")
      | ((with_reducible show XD _ (.Call (.Name (PySem.Str.ofString "isinstance") _) [_, .Name (PySem.Str.ofString "bool") _] _ _) _ _); (refine' g_isi' ?_ ?_ ?_ ?_ boot_bool' nn_bool nd_bool) <;> walk_at "fr x")
      | ((with_reducible show XD _ (.Call (.Name (PySem.Str.ofString "isinstance") _) [_, .Name (PySem.Str.ofString "list") _] _ _) _ _); (refine' g_isi' ?_ ?_ ?_ ?_ boot_list' nn_list nd_list) <;> walk_at "fr x")
      | ((with_reducible show XD _ (.Call (.Name (PySem.Str.ofString "max") _) _ _ _) _ _); (refine' xd_max2 ?_ ?_) <;> walk_at "fr x")
      | ((with_reducible show XD _ (.Call (.Name (PySem.Str.ofString "min") _) _ _ _) _ _); (refine' xd_min2 ?_ ?_) <;> walk_at "fr x")
      | ((with_reducible show XD _ (.Call (.Name (PySem.Str.ofString "all") _) _ _ _) _ _); (refine' xd_all ?_ ?_) <;> walk_at "fr x")
      | ((with_reducible show XD _ (.Call (.Name (PySem.Str.ofString "any") _) _ _ _) _ _); (refine' xd_any ?_ ?_) <;> walk_at "fr x")
      | ((with_reducible show XD _ (.Call (.Name (PySem.Str.ofString "tuple") _) _ _ _) _ _); (refine' xd_tupleL ?_ ?_) <;> walk_at "fr x"))
  | ((with_reducible show XD _ (.UnaryOp _ _ _) _ _); first
      | ((with_reducible refine' xd_not ?_) <;> walk_at "fr x")
      | ((with_reducible refine' xd_neg ?_) <;> walk_at "fr x"))
  | ((with_reducible show XD _ (.BoolOp _ _ _) _ _); first
      | ((with_reducible refine' xd_one ?_) <;> walk_at "fr x")
      | ((with_reducible refine' xd_and ?_ (fun _ => ?_)) <;> walk_at "fr x")
      | ((with_reducible refine' xd_or ?_ (fun _ => ?_)) <;> walk_at "fr x"))
  | ((with_reducible show XD _ (.Tuple _ _ _) _ _); (refine' xd_tup ?_) <;> walk_at "fr x")
  | ((with_reducible show XD _ (.List _ _) _ _); (refine' xd_lst ?_) <;> walk_at "fr x")
  | skip)
local macro_rules | `(tactic| walk_at "fr xt") => `(tactic| first
  | ((with_reducible show XT _ (.Compare _ _ _ _) _ _); (refine' g_cmpT ?_ ?_ ?_ ?_) <;> walk_at "fr x")
  | ((with_reducible refine' xt_not ?_) <;> walk_at "fr x")
  | ((with_reducible show XT _ (.BoolOp _ _ _) _ _); (refine' XW.t ?_) <;> walk_at "fr x")
  | ((with_reducible show XT _ (.Name _ _) _ _); (refine' n_truO ?_ ?_) <;> walk_at "fr know")
  | ((refine' g_tru ?_ ?_) <;> walk_at "fr x")
  | skip)
local macro_rules | `(tactic| walk_at "fr x") => `(tactic| first
  | ((with_reducible show XD _ _ _ _); walk_at "fr xd")
  | ((with_reducible show XT _ _ _ _); walk_at "fr xt")
  | ((with_reducible show XA _ _ _ _); first | exact xa_nil | ((refine' xa_cons ?_ ?_) <;> walk_at "fr x"))
  | ((with_reducible show XO _ _ _ _); first | exact xo_none | ((refine' xo_some ?_) <;> walk_at "fr x"))
  | ((with_reducible show XW _ _ _ _); first
      | ((with_reducible refine' xw_and1 ?_) <;> walk_at "fr x") | ((with_reducible refine' xw_or1 ?_) <;> walk_at "fr x")
      | ((with_reducible refine' xw_and ?_ (fun _ => ?_)) <;> walk_at "fr x") | ((with_reducible refine' xw_or ?_ (fun _ => ?_)) <;> walk_at "fr x"))
  | walk_at "fr know" | walk_at "fr rel"
  | ((with_reducible show CMul _ _); walk_at "fr side") | ((with_reducible show CDiv _ _); walk_at "fr side") | ((with_reducible show CPow _ _); walk_at "fr side") | ((with_reducible show (_ : Int) < _); walk_at "fr side") | ((with_reducible show (_ : Nat) ≤ _); walk_at "fr side")
  | skip)
local macro_rules | `(tactic| walk_at "fr set") => `(tactic| (refine' xb_cons (n_set ?exp ?hN ?nd ?st ?nx); (case' exp => walk_at "fr e"); (case' hN => assumption); (case' nd => assumption); (case' st => walk_at "fr st")))
local macro_rules | `(tactic| walk_at "fr e") => `(tactic| (walk_at "fr x"; all_goals skip))
theorem strs_at {ls : List Str} {j : Int} (h : 0 ≤ j ∧ j < (ls.length : Int)) : atI (ls.map PyData.str) j = some (.str (ls.getD j.toNat ⟨#[]⟩)) := by
  have e : j = ((j.toNat : Nat) : Int) := by omega
  have hj : j.toNat < ls.length := by omega
  generalize j.toNat = n at e hj
  subst e
  refine atI_nat ?_
  rw [List.getElem?_map, List.getD_eq_getElem?_getD, List.getElem?_eq_getElem hj]; rfl
theorem getD_mem {ls : List Str} {j : Nat} {z : Str} (h : j < ls.length) : ls.getD j z ∈ ls := by
  rw [List.getD_eq_getElem?_getD, List.getElem?_eq_getElem h]; exact List.getElem_mem h
theorem getD_memD {ls : List PyData} {j : Nat} {z : PyData} (h : j < ls.length) : ls.getD j z ∈ ls := by
  rw [List.getD_eq_getElem?_getD, List.getElem?_eq_getElem h]; exact List.getElem_mem h
theorem ints_at {ns : List Int} {j : Int} (h : 0 ≤ j ∧ j < (ns.length : Int)) : atI (ns.map PyData.int) j = some (.int (ns.getD j.toNat 0)) := by
  have e : j = ((j.toNat : Nat) : Int) := by omega
  have hj : j.toNat < ns.length := by omega
  generalize j.toNat = n at e hj
  subst e
  refine atI_nat ?_
  rw [List.getElem?_map, List.getD_eq_getElem?_getD, List.getElem?_eq_getElem hj]; rfl
theorem emod_in (a : Int) {n : Nat} (h : 0 < n) : 0 ≤ a % (n : Int) ∧ a % (n : Int) < (n : Int) := ⟨Int.emod_nonneg _ (by omega), Int.emod_lt_of_pos _ (by omega)⟩
theorem len_app (a b : Str) : (a ++ b).length = a.length + b.length := by
  show (a.cps ++ b.cps).size = _
  rw [Array.size_append]; rfl
theorem atI_of {α : Type} {xs : List α} {j : Int} {n : Nat} {v : α} (e : j = (n : Int)) (h : xs[n]? = some v) : atI xs j = some v := by subst e; exact atI_nat h
theorem str_len (z : Str) : z.cps.toList.length = z.length := by simp [Str.length]
def alphaS : Str := "abcdefghijklmnopqrstuvwxyz"
theorem alpha_at : ∀ i : Nat, i < 26 → alphaS.cps.toList[i]? = some (97 + i) := by decide +kernel
theorem alpha_ix {x : Int} (h0 : 0 ≤ x) (h1 : x < 26) : atI alphaS.cps.toList x = some (97 + x.toNat) := by
  have e : x = ((x.toNat : Nat) : Int) := by omega
  rw [e, Int.toNat_natCast]
  exact atI_nat (alpha_at _ (by omega))
theorem alpha_len : alphaS.length ≤ sizeLine := by decide +kernel
/-- a run: letters a to z -/
def isRun (z : Str) : Prop := ∀ c ∈ z.cps.toList, 97 ≤ c ∧ c ≤ 122
theorem isRun_app {a b : Str} (ha : isRun a) (hb : isRun b) : isRun (a ++ b) := by
  intro c hc
  have : (a ++ b).cps.toList = a.cps.toList ++ b.cps.toList := by show (a.cps ++ b.cps).toList = _; simp
  rw [this, List.mem_append] at hc
  exact hc.elim (ha c) (hb c)
theorem alpha_mem : ∀ c : Nat, c < 123 → 97 ≤ c → c ∈ alphaS.cps.toList := by decide +kernel
theorem isRun_rep {z : Str} (h : isRun z) (n : Nat) : isRun (repS z n) := by
  intro c hc
  have : (repS z n).cps.toList = (List.replicate n z.cps.toList).flatten := by simp [repS]
  rw [this] at hc
  obtain ⟨l, h1, h2⟩ := List.mem_flatten.mp hc
  rw [List.eq_of_mem_replicate h1] at h2
  exact h c h2
theorem isRun_cut {z : Str} (h : isRun z) (a b : Option Int) : isRun (cutS z a b) := by
  intro c hc
  have h2 : c ∈ (z.cps.toList.drop (HT.sIx z.length 0 a)).take (HT.sIx z.length z.length b - HT.sIx z.length 0 a) := by simpa [cutS] using hc
  exact h c (List.mem_of_mem_drop (List.mem_of_mem_take h2))
theorem ok_run {z : Str} (h : isRun z) : PyData.strOk z = true := by
  unfold PyData.strOk
  rw [Array.all_eq_true]
  intro i hi
  have := h z.cps[i] (by simp)
  exact decide_eq_true (by omega)
def cellI (ns : List Int) (k : Nat) : Int := if h : k < ns.length then ns[k] else 5 * k + 3
def absI (c : Int) : Int := if c < 0 then -c else c
theorem absI_nonneg (c : Int) : 0 ≤ absI c := by unfold absI; split <;> omega
def mix1 (seed : Int) (k : Nat) : Int := (seed * 48271 + ((k : Int) + 1) * 69621 + 11) % 2147483647
def mix2 (seed : Int) (k : Nat) : Int := (mix1 seed k * mix1 seed k + 40692 * ((k : Int) + 3)) % 2147483399
def drawStep (seed : Int) (digits : Bool) (k : Nat) (p : Int × List Int) : Int × List Int :=
  if (digits && decide (0 < p.1)) = true then (p.1 / 5040, p.2 ++ [p.1 % 5040]) else (p.1, p.2 ++ [mix2 seed k / 64 % 5040])
def drawsN (c : Int) : Nat → Int × List Int
  | 0 => (absI c, [])
  | n + 1 => drawStep (absI c) (decide ((10 : Int) ^ 18 ≤ absI c)) n (drawsN c n)
def draws (c : Int) (n : Nat) : List Int := (drawsN c n).2
theorem drawsN_length (c : Int) : ∀ n : Nat, (drawsN c n).2.length = n
  | 0 => rfl
  | n + 1 => by
    show (drawStep _ _ n (drawsN c n)).2.length = n + 1
    unfold drawStep
    split <;> simp [drawsN_length c n]
theorem draws_length (c : Int) (n : Nat) : (draws c n).length = n := drawsN_length c n
theorem drawsN_mem (c : Int) : ∀ (n : Nat) (x : Int), x ∈ (drawsN c n).2 → 0 ≤ x ∧ x < 5040
  | 0, x, h => by cases h
  | n + 1, x, h => by
    have h' : x ∈ (drawStep (absI c) (decide ((10 : Int) ^ 18 ≤ absI c)) n (drawsN c n)).2 := h
    unfold drawStep at h'
    split at h' <;> (simp only [List.mem_append, List.mem_singleton] at h'; rcases h' with h' | h'; exact drawsN_mem c n x h'; omega)
theorem draws_get (c : Int) (n i : Nat) (h : i < n) : ∃ x, (draws c n)[i]? = some x ∧ 0 ≤ x ∧ x < 5040 := by
  have hl : i < (draws c n).length := by rw [draws_length]; exact h
  exact ⟨(draws c n)[i], List.getElem?_eq_getElem hl, drawsN_mem c n _ (List.getElem_mem hl)⟩
def drw (c : Int) (n i : Nat) : Int := (draws c n).getD i 0
theorem drw_get (c : Int) {n i : Nat} (h : i < n) : (draws c n)[i]? = some (drw c n i) := by
  obtain ⟨x, e, _⟩ := draws_get c n i h
  rw [e]; unfold drw; rw [List.getD_eq_getElem?_getD, e]; rfl
theorem drw_bnd (c : Int) {n i : Nat} (h : i < n) : 0 ≤ drw c n i ∧ drw c n i < 5040 := by
  obtain ⟨x, e, b⟩ := draws_get c n i h
  have : drw c n i = x := by unfold drw; rw [List.getD_eq_getElem?_getD, e]; rfl
  rw [this]; exact b
theorem drw_at (c : Int) {n i : Nat} (h : i < n) : atI ((draws c n).map PyData.int) (i : Int) = some (.int (drw c n i)) := by
  refine atI_nat ?_
  rw [List.getElem?_map, drw_get c h]; rfl
def drwZ (c : Int) (n : Nat) (j : Int) : Int := drw c n j.toNat
theorem drwZ_at {c : Int} {n : Nat} {j : Int} (h : 0 ≤ j ∧ j < (n : Int)) : atI ((draws c n).map PyData.int) j = some (.int (drwZ c n j)) := by
  have e : j = ((j.toNat : Nat) : Int) := by omega
  unfold drwZ
  rw [e, Int.toNat_natCast]
  exact drw_at c (by omega)
theorem drwZ_bnd (c : Int) {n : Nat} {j : Int} (h : 0 ≤ j ∧ j < (n : Int)) : 0 ≤ drwZ c n j ∧ drwZ c n j < 5040 := drw_bnd c (by omega)
local macro_rules | `(tactic| walk_at "fr item") => `(tactic| ((with_reducible show atI (List.map PyData.int (draws _ _)) _ = _); first | exact drwZ_at (by decide) | exact drwZ_at (by omega)))
def lcode (draw : Int) (k : Nat) : Nat := 97 + ((draw % 26 + (1 + draw / 26 % 12) * (k : Int)) % 26).toNat
def lettersOf (draw : Int) (count : Nat) : List Str := srtS ((List.range count).map fun k => (⟨#[lcode draw k]⟩ : Str))
theorem lettersOf_length (draw : Int) (count : Nat) : (lettersOf draw count).length = count := by
  unfold lettersOf; rw [srtS_length, List.length_map, List.length_range]
theorem lettersOf_mem {draw : Int} {count : Nat} {z : Str} (h : z ∈ lettersOf draw count) : ∃ c : Nat, z = ⟨#[c]⟩ ∧ 97 ≤ c ∧ c ≤ 122 := by
  have h' := (srtS_perm _).mem_iff.mp h
  obtain ⟨k, _, rfl⟩ := List.mem_map.mp h'
  refine ⟨_, rfl, ?_, ?_⟩
  · unfold lcode; omega
  · unfold lcode
    have : ((draw % 26 + (1 + draw / 26 % 12) * (k : Int)) % 26) < 26 := Int.emod_lt_of_pos _ (by decide)
    omega
def wordStep (ls : List Str) (k : Nat) (p : Str × Int) : Str × Int := (p.1 ++ ls.getD (p.2 % (ls.length : Int)).toNat ⟨#[]⟩, p.2 / (ls.length : Int) + 37 * ((k : Int) + 1))
def wordN (ls : List Str) (r : Int) : Nat → Str × Int
  | 0 => (⟨#[]⟩, r)
  | n + 1 => wordStep ls n (wordN ls r n)
def wordOf (dr : Int) (ls : List Str) (lg : Nat) : Str := (wordN ls (dr / ((lg : Int) + 1)) (dr % ((lg : Int) + 1)).toNat).1
theorem wordN_ok {ls : List Str} (hl : 0 < ls.length) (hls : ∀ z ∈ ls, ∃ c : Nat, z = ⟨#[c]⟩ ∧ 97 ≤ c ∧ c ≤ 122) {r : Int} (hr : 0 ≤ r) : ∀ n : Nat, (wordN ls r n).1.length = n ∧ isRun (wordN ls r n).1 ∧ 0 ≤ (wordN ls r n).2
  | 0 => ⟨rfl, (fun c hc => by cases hc), hr⟩
  | n + 1 => by
    obtain ⟨h1, h2, h3⟩ := wordN_ok hl hls hr n
    have hj := emod_in (wordN ls r n).2 hl
    obtain ⟨k, hk, hk2, hk3⟩ := hls _ (getD_mem (z := ⟨#[]⟩) (show ((wordN ls r n).2 % (ls.length : Int)).toNat < ls.length by omega))
    refine ⟨?_, ?_, ?_⟩
    · show ((wordN ls r n).1 ++ _).length = n + 1
      rw [len_app, hk, h1]; rfl
    · show isRun ((wordN ls r n).1 ++ _)
      rw [hk]
      refine isRun_app h2 ?_
      intro c hc
      simp at hc; subst hc; exact ⟨hk2, hk3⟩
    · show 0 ≤ (wordN ls r n).2 / (ls.length : Int) + 37 * ((n : Int) + 1)
      have := Int.ediv_nonneg h3 (show (0 : Int) ≤ (ls.length : Int) by omega)
      omega
theorem wordOf_ok {ls : List Str} (hl : 0 < ls.length) (hls : ∀ z ∈ ls, ∃ c : Nat, z = ⟨#[c]⟩ ∧ 97 ≤ c ∧ c ≤ 122) {dr : Int} (hd : 0 ≤ dr) (lg : Nat) : (wordOf dr ls lg).length ≤ lg ∧ isRun (wordOf dr ls lg) := by
  obtain ⟨h1, h2, _⟩ := wordN_ok hl hls (Int.ediv_nonneg hd (show (0 : Int) ≤ (lg : Int) + 1 by omega)) (dr % ((lg : Int) + 1)).toNat
  have := Int.emod_lt_of_pos dr (show (0 : Int) < (lg : Int) + 1 by omega)
  exact ⟨by unfold wordOf; rw [h1]; omega, h2⟩
theorem eqv_strs : ∀ xs : List Str, PyData.eqvAll (xs.map .str) (xs.map .str) = true
  | [] => rfl
  | x :: r => by
    show (PyData.eqv (.str x) (.str x) && PyData.eqvAll (r.map .str) (r.map .str)) = true
    rw [eqv_strs r]
    show (x == x && true) = true
    simp
theorem five {α : Type} {xs : List α} (h : xs.length = 5) : ∃ a b c d e, xs = [a, b, c, d, e] := by
  match xs, h with
  | [a, b, c, d, e], _ => exact ⟨a, b, c, d, e, rfl⟩
theorem cut90 (z : Str) : (cutS z none (some 90)).length ≤ 90 := by
  unfold cutS
  rw [show (90 : Int) = ((90 : Nat) : Int) from rfl, HT.sIx_nat]
  show (List.toArray _).size ≤ 90
  rw [List.size_toArray, List.length_take]
  omega
theorem shaped3 {a b c : Str} (h1 : isRun a) (h2 : isRun b) (h3 : isRun c) : SeqAt.shaped (.tuple [.str a, .str b, .str c]) = true := by
  unfold SeqAt.shaped
  rw [Bool.and_eq_true]
  constructor
  · simp [PyData.canLay0, PyData.canLayAll0, ok_run h1, ok_run h2, ok_run h3]
  · simp [PyData.depth, PyData.depthAll]
def C_three_runs : Cn where
  ι := Str × Str × Str × Str × Str
  n := 1
  args := fun i => [.tuple [.str i.1, .str i.2.1, .str i.2.2.1, .str i.2.2.2.1, .str i.2.2.2.2]]
  ok := fun i => i.1.length ≤ 100 ∧ i.2.1.length ≤ 100 ∧ i.2.2.1.length ≤ 100 ∧ i.2.2.2.1.length ≤ 100 ∧ i.2.2.2.2.length ≤ 100
  post := fun i r => r = .tuple [.str (i.1 ++ i.2.2.1 ++ i.2.2.2.1), .str (i.2.1 ++ i.2.2.1 ++ i.2.2.2.1), .str (i.1 ++ i.2.2.1 ++ i.2.2.2.2)]
  hl := fun _ => rfl
def C_fourth_run : Cn where
  ι := Str × Str × Str × Str × Str
  n := 1
  args := fun i => [.tuple [.str i.1, .str i.2.1, .str i.2.2.1, .str i.2.2.2.1, .str i.2.2.2.2]]
  ok := fun i => i.1.length ≤ 100 ∧ i.2.1.length ≤ 100 ∧ i.2.2.1.length ≤ 100 ∧ i.2.2.2.1.length ≤ 100 ∧ i.2.2.2.2.length ≤ 100
  post := fun i r => r = .str (i.2.1 ++ i.2.2.1 ++ i.2.2.2.2)
  hl := fun _ => rfl
def C_law_cell : Cn where
  ι := List Int × Nat
  n := 2
  args := fun i => [.list (i.1.map .int), .int i.2]
  ok := fun i => i.1.length ≤ 63 ∧ i.2 ≤ 1000
  post := fun i r => r = .int (cellI i.1 i.2)
  hl := fun _ => rfl
def C_law_draws : Cn where
  ι := Int × Nat
  n := 2
  args := fun i => [.int i.1, .int i.2]
  ok := fun i => i.2 ≤ 5000
  post := fun i r => r = .list ((draws i.1 i.2).map .int)
  hl := fun _ => rfl
def C_law_is_run : Cn where
  ι := Str
  n := 1
  args := fun z => [.str z]
  ok := fun z => z.length ≤ 1000 ∧ isRun z
  post := fun z r => r = .bool true
  hl := fun _ => rfl
def C_law_letters : Cn where
  ι := Int × Nat
  n := 2
  args := fun i => [.int i.1, .int i.2]
  ok := fun i => 0 ≤ i.1 ∧ i.2 < 64
  post := fun i r => r = .list ((lettersOf i.1 i.2).map .str)
  hl := fun _ => rfl
def C_law_word : Cn where
  ι := Int × List Str × Nat
  n := 3
  args := fun i => [.int i.1, .list (i.2.1.map .str), .int i.2.2]
  ok := fun i => 0 ≤ i.1 ∧ (0 < i.2.1.length ∧ i.2.1.length ≤ 100) ∧ i.2.2 ≤ 1000 ∧ ∀ z ∈ i.2.1, ∃ c : Nat, z = ⟨#[c]⟩ ∧ 97 ≤ c ∧ c ≤ 122
  post := fun i r => r = .str (wordOf i.1 i.2.1 i.2.2)
  hl := fun _ => rfl
section
variable {P : Program} {w : World} {K : PySem.W.Frag} {mg : Str → Option Value} {base : Heap}
set_option maxHeartbeats 4000000 in
theorem ok_three_runs {f : Addr} {fd : FuncData} (F : Fun K "three_runs" "three_runs" s_three_runs f fd) (B : L2.Binds K fd ["corner"] []) (g : mg "three_runs" = some (.ref f)) (T : Bi mg) : DefOk P w K mg base "three_runs" 1 C_three_runs := by
  obtain ⟨z_len, z_abs, z_int, z_range, z_isinstance, z_str, z_all, z_sorted, z_tuple⟩ := T
  refine defOk_mk F B g sc_three_runs ?_
  intro cdv A outer s H E hr hN nd ii hok
  obtain ⟨u, z, v, w', x⟩ := ii
  obtain ⟨h1, h2, h3, h4, h5⟩ := hok
  simp only at h1 h2 h3 h4 h5
  have hs := sizeLine_eq
  show XB _ _ [some (.d (.tuple [.str u, .str z, .str v, .str w', .str x])), none, none, none, none, none] _
  refine xb_cons (xs_asg (js := [1, 2, 3, 4, 5]) (d := .tuple [.str u, .str z, .str v, .str w', .str x]) (by walk_at "fr e") (xg_tup rfl (xgs_cons (n_gname hN nd (by walk_at "fr st")) (xgs_cons (n_gname hN nd (by walk_at "fr st")) (xgs_cons (n_gname hN nd (by walk_at "fr st")) (xgs_cons (n_gname hN nd (by walk_at "fr st")) (xgs_cons (n_gname hN nd (by walk_at "fr st")) xgs_nil)))))) ?_)
  refine xb_cons (xs_ret (d := .tuple [.str (u ++ v ++ w'), .str (z ++ v ++ w'), .str (u ++ v ++ x)]) ?_ rfl)
  have e1 := len_app u v
  have e2 := len_app z v
  walk_at "fr e"
set_option maxHeartbeats 4000000 in
theorem ok_fourth_run {f : Addr} {fd : FuncData} (F : Fun K "fourth_run" "fourth_run" s_fourth_run f fd) (B : L2.Binds K fd ["corner"] []) (g : mg "fourth_run" = some (.ref f)) (T : Bi mg) : DefOk P w K mg base "fourth_run" 1 C_fourth_run := by
  obtain ⟨z_len, z_abs, z_int, z_range, z_isinstance, z_str, z_all, z_sorted, z_tuple⟩ := T
  refine defOk_mk F B g sc_fourth_run ?_
  intro cdv A outer s H E hr hN nd ii hok
  obtain ⟨u, z, v, w', x⟩ := ii
  obtain ⟨h1, h2, h3, h4, h5⟩ := hok
  simp only at h1 h2 h3 h4 h5
  have hs := sizeLine_eq
  have e2 := len_app z v
  show XB _ _ [some (.d (.tuple [.str u, .str z, .str v, .str w', .str x]))] _
  refine xb_cons (xs_ret (d := .str (z ++ v ++ x)) ?_ rfl)
  walk_at "fr e"
set_option maxHeartbeats 4000000 in
theorem ok_law_cell {f : Addr} {fd : FuncData} (F : Fun K "_law_cell" "_law_cell" s_law_cell f fd) (B : L2.Binds K fd ["script", "k"] []) (g : mg "_law_cell" = some (.ref f)) (T : Bi mg) : DefOk P w K mg base "_law_cell" 1 C_law_cell := by
  obtain ⟨z_len, z_abs, z_int, z_range, z_isinstance, z_str, z_all, z_sorted, z_tuple⟩ := T
  refine defOk_mk F B g sc_law_cell ?_
  intro cdv A outer s H E hr hN nd ii hok
  obtain ⟨ns, k⟩ := ii
  obtain ⟨h1, h2⟩ := hok
  show XB _ _ [some (.d (.list (ns.map .int))), some (.d (.int k))] _
  refine xb_cons ?_
  refine' xs_if ?t ?h1 ?h2
  case' t => walk_at "fr e"
  case h1 =>
    intro h
    have hk : k < ns.length := by have := of_decide_eq_true h; simp at this; omega
    refine xb_cons ?_
    refine xs_ret (d := .int (cellI ns k)) ?_ rfl
    walk_at "fr e"
    refine atI_nat ?_
    rw [List.getElem?_map, List.getElem?_eq_getElem hk]; simp [cellI, hk]
  case h2 =>
    intro h
    have hk : ¬ k < ns.length := by have := of_decide_eq_false h; simp at this; omega
    refine xb_nil (xb_cons ?_)
    refine xs_ret (d := .int (5 * k + 3)) ?_ ?_
    · walk_at "fr e"
    · show _ = _
      simp [cellI, hk]
set_option maxHeartbeats 4000000 in
theorem ok_law_draws {f : Addr} {fd : FuncData} (F : Fun K "_law_draws" "_law_draws" s_law_draws f fd) (B : L2.Binds K fd ["cell", "count"] []) (g : mg "_law_draws" = some (.ref f)) (T : Bi mg) : DefOk P w K mg base "_law_draws" 1 C_law_draws := by
  obtain ⟨z_len, z_abs, z_int, z_range, z_isinstance, z_str, z_all, z_sorted, z_tuple⟩ := T
  refine defOk_mk F B g sc_law_draws ?_
  intro cdv A outer s H E hr hN nd ii hok
  obtain ⟨c, n⟩ := ii
  have hn : n ≤ 5000 := hok
  show XB _ _ [some (.d (.int c)), some (.d (.int n)), none, none, none, none, none, none] _
  walk_at "fr set"
  case nx =>
  rw [show (if c < 0 then -c else c) = absI c from rfl]
  walk_at "fr set"
  case nx =>
  walk_at "fr set"
  case nx =>
  refine xb_cons (n_setL (xl_lst xa_nil) hN nd (by walk_at "fr st") ?_)
  refine xb_cons (n_for (j := 6) hN nd (xi_rng1 (j := (n : Int)) (by walk_at "fr e") (by constructor <;> omega) z_range)
    (fun i env => ∃ a b, env = [some (.d (.int c)), some (.d (.int n)), some (.d (.int (drawsN c i).1)), some (.d (.bool (decide ((10 : Int) ^ 18 ≤ absI c)))), some (.d (.int (absI c))), some (.l ((drawsN c i).2.map .int)), a, b]) ⟨none, none, rfl⟩ ?_ ?_)
  · rintro i env' hi ⟨a, b, rfl⟩
    have hlen : (List.map PyData.int (drawsN c i).2).length < sizeLine := by rw [List.length_map, drawsN_length, sizeLine_eq]; omega
    refine ⟨_, by walk_at "fr st", xb_cons ?_⟩
    refine' xs_if ?t ?h1 ?h2
    case' t => walk_at "fr e"
    case h1 =>
      intro h
      refine xb_cons (n_append hN (by walk_at "fr at") (by walk_at "fr e") hlen (by walk_at "fr st") nd ?_)
      walk_at "fr set"
      case nx =>
      have e : drawsN c (i + 1) = ((drawsN c i).1 / 5040, (drawsN c i).2 ++ [(drawsN c i).1 % 5040]) := by
        show drawStep _ _ i (drawsN c i) = _
        unfold drawStep
        rw [if_pos h]
      refine xb_nil (xb_nil ?_)
      simp only [e, List.map_append, List.map_cons, List.map_nil]
      exact ⟨_, _, rfl⟩
    case h2 =>
      intro h
      walk_at "fr set"
      case nx =>
      have hm : 0 ≤ mix1 (absI c) i ∧ mix1 (absI c) i < 2147483647 := by unfold mix1; omega
      have hC : CMul (mix1 (absI c) i) (mix1 (absI c) i) := .inl ⟨by omega, by omega⟩
      have e0 : (absI c * 48271 + (0 + (i : Int) + 1) * 69621 + 11) % 2147483647 = mix1 (absI c) i := by unfold mix1; rw [Int.zero_add]
      rw [e0]
      walk_at "fr set"
      case nx =>
      refine xb_cons (n_append hN (by walk_at "fr at") (by walk_at "fr e") hlen (by walk_at "fr st") nd ?_)
      have e : drawsN c (i + 1) = ((drawsN c i).1, (drawsN c i).2 ++ [mix2 (absI c) i / 64 % 5040]) := by
        show drawStep _ _ i (drawsN c i) = _
        unfold drawStep
        rw [if_neg (by rw [h]; exact Bool.false_ne_true)]
      refine xb_nil (xb_nil ?_)
      simp only [e, List.map_append, List.map_cons, List.map_nil, mix2, Int.zero_add]
      exact ⟨_, _, rfl⟩
  · rintro env' ⟨a, b, rfl⟩
    rw [Int.toNat_natCast]
    refine n_freeze "draws" hN nd (by walk_at "fr at") (by walk_at "fr st") (xb_cons ?_)
    refine xs_ret (d := .list ((drawsN c n).2.map .int)) ?_ rfl
    walk_at "fr e"
set_option maxHeartbeats 4000000 in
theorem ok_law_is_run {f : Addr} {fd : FuncData} (F : Fun K "_law_is_run" "_law_is_run" s_law_is_run f fd) (B : L2.Binds K fd ["value"] []) (g : mg "_law_is_run" = some (.ref f)) (T : Bi mg) : DefOk P w K mg base "_law_is_run" 1 C_law_is_run := by
  obtain ⟨z_len, z_abs, z_int, z_range, z_isinstance, z_str, z_all, z_sorted, z_tuple⟩ := T
  refine defOk_mk F B g sc_law_is_run ?_
  intro cdv A outer s H E hr hN nd ii hok
  obtain ⟨z, rfl⟩ : ∃ z : Str, z = ii := ⟨ii, rfl⟩
  obtain ⟨hz, hru⟩ := hok
  show XB _ _ [some (.d (.str z)), none] _
  refine xb_cons (xs_ret (d := .bool true) ((xd_and (a := true) (b := true) (by walk_at "fr e") fun _ => xd_one ?_).is rfl) rfl)
  refine (xd_all (bs := (List.range z.cps.size).map fun _ => true) (XL.dat (xl_to (n_comp (S := defScope s_law_is_run) (it := fun i => .str ⟨#[z.cps.getD i 0]⟩) (n := z.cps.size) (f := fun _ => .bool true) hN nd (xi_str (by walk_at "fr e")) 1 (by decide +kernel) (fun i hi => ⟨_, by walk_at "fr st", fun s Hb C cl fp => ?_⟩) (by rw [sizeLine_eq]; have : z.cps.size ≤ 1000 := hz; omega)) (by rw [List.map_map]; rfl))) z_all).is (by congr 1; rw [List.all_eq_true]; intro b hb; obtain ⟨_, _, rfl⟩ := List.mem_map.mp hb; rfl)
  have hm : z.cps.getD i 0 ∈ z.cps.toList := by
    have : z.cps.getD i 0 = z.cps[i] := by simp [Array.getD, hi]
    rw [this]; simp
  have hc := hru _ hm
  refine (g_cmp hr (d1 := .str ⟨#[z.cps.getD i 0]⟩) (d2 := .str alphaS) (by walk_at "fr e") (by walk_at "fr e") CmpD.inS).is (by rw [decide_eq_true (alpha_mem _ (by omega) hc.1)])
set_option maxHeartbeats 4000000 in
theorem ok_law_letters {f : Addr} {fd : FuncData} (F : Fun K "_law_letters" "_law_letters" s_law_letters f fd) (B : L2.Binds K fd ["draw", "count"] []) (g : mg "_law_letters" = some (.ref f)) (T : Bi mg) : DefOk P w K mg base "_law_letters" 1 C_law_letters := by
  obtain ⟨z_len, z_abs, z_int, z_range, z_isinstance, z_str, z_all, z_sorted, z_tuple⟩ := T
  refine defOk_mk F B g sc_law_letters ?_
  intro cdv A outer s H E hr hN nd ii hok
  obtain ⟨draw, n⟩ := ii
  obtain ⟨h0, hn⟩ := hok
  have h0 : 0 ≤ draw := h0
  have hn : n < 64 := hn
  show XB _ _ [some (.d (.int draw)), some (.d (.int n)), none, none, none] _
  walk_at "fr set"
  case nx =>
  walk_at "fr set"
  case nx =>
  refine xb_cons (xs_ret (d := .list ((lettersOf draw n).map .str)) ?_ rfl)
  refine (xl_sortedS (ss := (List.range n).map fun k => (⟨#[lcode draw k]⟩ : Str)) (XL.dat (xl_to (n_comp (S := defScope s_law_letters) (it := fun i => .int (0 + (i : Int))) (n := n) (f := fun k => .str ⟨#[lcode draw k]⟩) hN nd (xi_rng1 (j := (n : Int)) (by walk_at "fr e") (by constructor <;> omega) z_range) 4 (by decide +kernel) (fun i hi => ⟨_, by walk_at "fr st", fun s Hb C cl fp => ?_⟩) (by rw [sizeLine_eq]; omega)) (by rw [List.map_map]; rfl))) (by rw [List.length_map, List.length_range]; exact hn) z_sorted).dat
  walk_at "fr e"
  rw [Int.zero_add]
  exact alpha_ix (Int.emod_nonneg _ (by decide)) (Int.emod_lt_of_pos _ (by decide))
set_option maxHeartbeats 4000000 in
theorem ok_law_word {f : Addr} {fd : FuncData} (F : Fun K "_law_word" "_law_word" s_law_word f fd) (B : L2.Binds K fd ["draw", "letters", "longest"] []) (g : mg "_law_word" = some (.ref f)) (T : Bi mg) : DefOk P w K mg base "_law_word" 1 C_law_word := by
  obtain ⟨z_len, z_abs, z_int, z_range, z_isinstance, z_str, z_all, z_sorted, z_tuple⟩ := T
  refine defOk_mk F B g sc_law_word ?_
  intro cdv A outer s H E hr hN nd ii hok
  obtain ⟨dr, ls, lg⟩ := ii
  obtain ⟨h0, ⟨hl0, hl1⟩, hlg, hls⟩ := hok
  simp only at h0 hl0 hl1 hlg hls
  have hs := sizeLine_eq
  show XB _ _ [some (.d (.int dr)), some (.d (.list (ls.map .str))), some (.d (.int lg)), none, none, none, none] _
  have hsz := emod_in dr (n := lg + 1) (by omega)
  refine xb_cons (n_set (d := .int (dr % ((lg : Int) + 1))) (by walk_at "fr e") hN nd (by walk_at "fr st") ?_)
  refine xb_cons (n_set (d := .int (dr / ((lg : Int) + 1))) (by walk_at "fr e") hN nd (by walk_at "fr st") ?_)
  walk_at "fr set"
  case nx =>
  have hq : 0 ≤ dr / ((lg : Int) + 1) := Int.ediv_nonneg h0 (by omega)
  have e1 : ((lg + 1 : Nat) : Int) = (lg : Int) + 1 := rfl
  have hw : C_law_word.post (dr, ls, lg) = fun r => r = .str ((wordN ls (dr / ((lg : Int) + 1)) (dr % ((lg : Int) + 1)).toNat).1) := rfl
  rw [hw]
  rw [e1] at hsz
  generalize dr % ((lg : Int) + 1) = sz at hsz
  generalize dr / ((lg : Int) + 1) = q0 at hq
  refine xb_cons (n_for (j := 6) hN nd (xi_rng1 (j := sz) (by walk_at "fr e") (by constructor <;> omega) z_range)
    (fun i env => ∃ (b : Option AV), env = [some (.d (.int dr)), some (.d (.list (ls.map .str))), some (.d (.int lg)), some (.d (.int sz)), some (.d (.int (wordN ls q0 i).2)), some (.d (.str (wordN ls q0 i).1)), b]) ⟨none, rfl⟩ ?_ ?_)
  · rintro i env' hi ⟨b, rfl⟩
    refine ⟨_, by walk_at "fr st", ?_⟩
    obtain ⟨h1, h2, h3⟩ := wordN_ok hl0 hls hq i
    have hstep : wordN ls q0 (i + 1) = wordStep ls i (wordN ls q0 i) := rfl
    rw [hstep]
    unfold wordStep
    generalize (wordN ls q0 i).1 = z at h1 h2
    generalize (wordN ls q0 i).2 = r at h3
    have hj := emod_in r hl0
    have hmem := getD_mem (z := ⟨#[]⟩) (show (r % (ls.length : Int)).toNat < ls.length by omega)
    obtain ⟨k, hk, hk2, hk3⟩ := hls _ hmem
    have hk1 : (ls.getD (r % (ls.length : Int)).toNat ⟨#[]⟩).length = 1 := by rw [hk]; rfl
    refine xb_cons (n_set (d := .str (z ++ ls.getD (r % (ls.length : Int)).toNat ⟨#[]⟩)) ?_ hN nd (by walk_at "fr st") ?_)
    · walk_at "fr e"
      · rw [List.length_map]; omega
      · rw [List.length_map]; exact strs_at hj
    refine xb_cons (n_set (d := .int (r / (ls.length : Int) + 37 * ((i : Int) + 1))) ?_ hN nd (by walk_at "fr st") ?_)
    · rw [Int.zero_add]
      have : ((ls.map PyData.str).length : Int) = ls.length := by rw [List.length_map]
      rw [← this]
      walk_at "fr e"
    exact xb_nil ⟨_, rfl⟩
  · rintro env' ⟨b, rfl⟩
    exact xb_cons (xs_ret (d := .str (wordN ls q0 sz.toNat).1) (by walk_at "fr e") rfl)
set_option maxHeartbeats 4000000 in
theorem ok_law {f : Addr} {fd : FuncData} (F : Fun K "law" "law" s_law f fd) (T : Bi mg) (D_law_draws : DefOk P w K mg base "_law_draws" 1 C_law_draws) (D_law_letters : DefOk P w K mg base "_law_letters" 1 C_law_letters) (D_law_cell : DefOk P w K mg base "_law_cell" 1 C_law_cell) (D_three_runs : DefOk P w K mg base "three_runs" 1 C_three_runs) (D_fourth_run : DefOk P w K mg base "fourth_run" 1 C_fourth_run) (D_law_word : DefOk P w K mg base "_law_word" 1 C_law_word) (D_law_is_run : DefOk P w K mg base "_law_is_run" 1 C_law_is_run) : FnOk P w K mg base CX0 2 f fd ["script"] (SpD K C_law) := by
  obtain ⟨z_len, z_abs, z_int, z_range, z_isinstance, z_str, z_all, z_sorted, z_tuple⟩ := T
  refine lawOk_mk F sc_law ?_
  intro cdv A outer s H E hr hN nd ii hok
  obtain ⟨ns, rfl⟩ : ∃ ns : List Int, ns = ii := ⟨ii, rfl⟩
  have hns : ns.length ≤ 63 := hok
  have hs := sizeLine_eq
  show XB _ _ [some (.d (.list (ns.map .int))), none, none, none, none, none, none, none, none, none, none, none] _
  refine xb_cons (n_set (xd_call D_law_draws hr (i := (cellI ns 0, 3)) (d := .list ((draws (cellI ns 0) 3).map .int)) (xa_cons (xd_call D_law_cell hr (i := (ns, 0)) (d := .int (cellI ns 0)) (by walk_at "fr e") ⟨hns, by show 0 ≤ 1000; decide⟩ (fun _ h => h)) (by walk_at "fr e")) (by show 3 ≤ 5000; decide) (fun _ h => h)) hN nd (by walk_at "fr st") ?_)
  generalize cellI ns 0 = c
  have d0 := drwZ_bnd c (n := 3) (j := 0) (by decide)
  have d1 := drwZ_bnd c (n := 3) (j := 1) (by decide)
  have hmenu : ∀ n : Nat, n < 6 → ∃ m : Nat, atI [PyData.int 2, .int 1, .int 3, .int 2, .int 4, .int 6] ((n : Nat) : Int) = some (.int m) ∧ 1 ≤ m ∧ m ≤ 6 := by
    intro n hn
    match n, hn with
    | 0, _ => exact ⟨2, rfl, by decide, by decide⟩
    | 1, _ => exact ⟨1, rfl, by decide, by decide⟩
    | 2, _ => exact ⟨3, rfl, by decide, by decide⟩
    | 3, _ => exact ⟨2, rfl, by decide, by decide⟩
    | 4, _ => exact ⟨4, rfl, by decide, by decide⟩
    | 5, _ => exact ⟨6, rfl, by decide, by decide⟩
  obtain ⟨m, hm, hm1, hm2⟩ := hmenu (drwZ c 3 1 % 6).toNat (by omega)
  rw [Int.toNat_of_nonneg (by omega)] at hm
  refine xb_cons (n_set (xd_call D_law_letters hr (i := (drwZ c 3 0, m)) (d := .list ((lettersOf (drwZ c 3 0) m).map .str)) (xa_cons (by walk_at "fr e") (xa_cons (d := .int m) (xd_ixT (i := drwZ c 3 1 % 6) (by walk_at "fr e") (by walk_at "fr e") hm) xa_nil)) ⟨d0.1, by show m < 64; omega⟩ (fun _ h => h)) hN nd (by walk_at "fr st") ?_)
  have hll : (lettersOf (drwZ c 3 0) m).length = m := lettersOf_length _ _
  have hlm : ∀ z ∈ lettersOf (drwZ c 3 0) m, ∃ k : Nat, z = ⟨#[k]⟩ ∧ 97 ≤ k ∧ k ≤ 122 := fun z hz => lettersOf_mem hz
  generalize lettersOf (drwZ c 3 0) m = ls at hll hlm
  refine xb_cons (n_for (j := 3) hN nd (xi_rng1 (j := 3) (by walk_at "fr e") (by decide) z_range)
    (fun i env => ∃ a3 a4 a5 a6 a7 a8, env = [some (.d (.list (ns.map .int))), some (.d (.list ((draws c 3).map .int))), some (.d (.list (ls.map .str))), a3, a4, a5, a6, a7, a8, none, none, none]) ⟨_, _, _, _, _, _, rfl⟩ ?_ ?_)
  · rintro i env' hi ⟨a3, a4, a5, a6, a7, a8, rfl⟩
    refine ⟨_, by walk_at "fr st", ?_⟩
    rw [Int.zero_add]
    have hi3 : i < 3 := hi
    refine xb_cons (n_set (xd_call D_law_draws hr (i := (cellI ns (1 + i), 5)) (d := .list ((draws (cellI ns (1 + i)) 5).map .int)) (xa_cons (xd_call D_law_cell hr (i := (ns, 1 + i)) (d := .int (cellI ns (1 + i))) (xa_cons (by walk_at "fr e") (xa_cons (XD.is (d := .int (1 + (i : Int))) (by walk_at "fr e") (by congr 1)) xa_nil)) ⟨hns, by show 1 + i ≤ 1000; omega⟩ (fun _ h => h)) (by walk_at "fr e")) (by show 5 ≤ 5000; decide) (fun _ h => h)) hN nd (by walk_at "fr st") ?_)
    generalize cellI ns (1 + i) = c2
    have hsc : defScope s_law = (defScope s_law) := rfl
    have hword : ∀ k : Nat, k < 5 → (wordOf (drwZ c2 5 (0 + (k : Int))) ls 5).length ≤ 5 ∧ isRun (wordOf (drwZ c2 5 (0 + (k : Int))) ls 5) := fun k hk => wordOf_ok (by omega) hlm (drwZ_bnd c2 (n := 5) (j := 0 + (k : Int)) (by omega)).1 5
    refine xb_cons (n_set (d := .tuple ((List.range 5).map fun k : Nat => .str (wordOf (drwZ c2 5 (0 + (k : Int))) ls 5))) ?_ hN nd (by walk_at "fr st") ?_)
    · refine xd_tupleL (XL.dat (n_comp (S := defScope s_law) (it := fun k => .int (0 + (k : Int))) (n := 5) hN nd (xi_rng1 (j := 5) (by walk_at "fr e") (by decide) z_range) 9 (by decide +kernel) (fun k hk => ⟨_, by walk_at "fr st", fun s Hb C cl fp => ?_⟩) (by rw [hs]; decide))) z_tuple
      have hb := drwZ_bnd c2 (n := 5) (j := 0 + (k : Int)) (by omega)
      exact xd_call D_law_word hr (i := (drwZ c2 5 (0 + (k : Int)), ls, 5)) (xa_cons (by walk_at "fr e") (xa_cons (by walk_at "fr e") (xa_cons (by walk_at "fr e") xa_nil))) ⟨hb.1, ⟨by show 0 < ls.length; omega, by show ls.length ≤ 100; omega⟩, by show 5 ≤ 1000; decide, hlm⟩ (fun _ h => h)
    obtain ⟨u, z, v, w', x, hfive, hbs⟩ : ∃ u z v w' x : Str, (List.range 5).map (fun k : Nat => PyData.str (wordOf (drwZ c2 5 (0 + (k : Int))) ls 5)) = [.str u, .str z, .str v, .str w', .str x] ∧ (∀ y ∈ [u, z, v, w', x], y.length ≤ 5 ∧ isRun y) := by
      refine ⟨_, _, _, _, _, rfl, ?_⟩
      intro y hy
      simp only [List.mem_cons, List.not_mem_nil, or_false] at hy
      rcases hy with rfl | rfl | rfl | rfl | rfl
      · exact hword 0 (by decide)
      · exact hword 1 (by decide)
      · exact hword 2 (by decide)
      · exact hword 3 (by decide)
      · exact hword 4 (by decide)
    rw [hfive]
    refine xb_cut (M := fun env => ∃ u z v w' x : Str, (∀ y ∈ [u, z, v, w', x], y.length ≤ 90 ∧ isRun y) ∧ env = [some (.d (.list (ns.map .int))), some (.d (.list ((draws c 3).map .int))), some (.d (.list (ls.map .str))), some (.d (.int i)), some (.d (.list ((draws c2 5).map .int))), some (.d (.tuple [.str u, .str z, .str v, .str w', .str x])), a6, a7, a8, none, none, none]) ?_ ?_
    · refine' xs_if ?t ?h1 ?h2
      case' t => walk_at "fr e"
      case h1 =>
        intro _
        have hcut : ∀ y ∈ [u, z, v, w', x], (cutS (repS y 90) none (some 90)).length ≤ 90 ∧ isRun (cutS (repS y 90) none (some 90)) := fun y hy => ⟨cut90 _, isRun_cut (isRun_rep (hbs y hy).2 90) _ _⟩
        refine xb_cons (n_set (d := .tuple ((List.range 5).map fun k : Nat => .str (cutS (repS ([u, z, v, w', x].getD k ⟨#[]⟩) 90) none (some 90)))) ?_ hN nd (by walk_at "fr st") (xb_nil ?_))
        · refine xd_tupleL (XL.dat (n_comp (S := defScope s_law) (n := 5) (it := fun k => [PyData.str u, .str z, .str v, .str w', .str x].getD k .none) hN nd (xi_tup (ds := [PyData.str u, .str z, .str v, .str w', .str x]) (by walk_at "fr e")) 10 (by decide +kernel) (fun k hk => ?_) (by rw [hs]; decide))) z_tuple
          have hk2 : [PyData.str u, .str z, .str v, .str w', .str x].getD k .none = .str ([u, z, v, w', x].getD k ⟨#[]⟩) := by
            match k, hk with
            | 0, _ => rfl
            | 1, _ => rfl
            | 2, _ => rfl
            | 3, _ => rfl
            | 4, _ => rfl
          have hy := hbs _ (getD_mem (z := ⟨#[]⟩) (show k < [u, z, v, w', x].length from hk))
          show ∃ env2, SetN _ _ _ _ (some (.d ([PyData.str u, .str z, .str v, .str w', .str x].getD k .none))) env2 ∧ _
          rw [hk2]
          generalize [u, z, v, w', x].getD k ⟨#[]⟩ = y at hy
          refine ⟨_, by walk_at "fr st", fun s Hb C cl fp => ?_⟩
          have hrl : (repS y 90).length ≤ sizeLine := by rw [repS_len]; omega
          exact xd_slS (g_mulS (n := 90) (by walk_at "fr e") (by walk_at "fr e") (by decide) (by show y.length * 90 ≤ sizeLine; omega)) xo_none (xo_some (by walk_at "fr e")) hrl
        · exact ⟨_, _, _, _, _, fun y hy => by
            simp only [List.mem_cons, List.not_mem_nil, or_false] at hy
            rcases hy with rfl | rfl | rfl | rfl | rfl
            · exact hcut u (by simp)
            · exact hcut z (by simp)
            · exact hcut v (by simp)
            · exact hcut w' (by simp)
            · exact hcut x (by simp), rfl⟩
      case h2 =>
        intro _
        exact xb_nil ⟨u, z, v, w', x, fun y hy => ⟨Nat.le_trans (hbs y hy).1 (by decide), (hbs y hy).2⟩, rfl⟩
    rintro env' ⟨u, z, v, w', x, hb, rfl⟩
    have bu := hb u (by simp)
    have bz := hb z (by simp)
    have bv := hb v (by simp)
    have bw := hb w' (by simp)
    have bx := hb x (by simp)
    have hok5 : u.length ≤ 100 ∧ z.length ≤ 100 ∧ v.length ≤ 100 ∧ w'.length ≤ 100 ∧ x.length ≤ 100 := ⟨by omega, by omega, by omega, by omega, by omega⟩
    have l1 := len_app u v
    have l2 := len_app z v
    have l3 := len_app (u ++ v) w'
    have l4 := len_app (z ++ v) w'
    have l5 := len_app (u ++ v) x
    have l6 := len_app (z ++ v) x
    refine xb_cons (n_set (xd_call D_three_runs hr (i := (u, z, v, w', x)) (d := .tuple [.str (u ++ v ++ w'), .str (z ++ v ++ w'), .str (u ++ v ++ x)]) (by walk_at "fr e") hok5 (fun _ h => h)) hN nd (by walk_at "fr st") ?_)
    refine xb_cons (n_set (d := .tuple [.str (u ++ v ++ w'), .str (z ++ v ++ w'), .str (u ++ v ++ x)]) (by walk_at "fr e") hN nd (by walk_at "fr st") ?_)
    have hrun : ∀ y ∈ [u ++ v ++ w', z ++ v ++ w', u ++ v ++ x], y.length ≤ 1000 ∧ isRun y := by
      intro y hy
      simp only [List.mem_cons, List.not_mem_nil, or_false] at hy
      rcases hy with rfl | rfl | rfl
      · exact ⟨by omega, isRun_app (isRun_app bu.2 bv.2) bw.2⟩
      · exact ⟨by omega, isRun_app (isRun_app bz.2 bv.2) bw.2⟩
      · exact ⟨by omega, isRun_app (isRun_app bu.2 bv.2) bx.2⟩
    have hsh := shaped3 (hrun (u ++ v ++ w') List.mem_cons_self).2 (hrun _ (List.mem_cons_of_mem _ (List.mem_cons_self))).2 (hrun _ (List.mem_cons_of_mem _ (List.mem_cons_of_mem _ (List.mem_cons_self)))).2
    refine xb_cons (xs_ifF (XW.t (xw_or (a := false) (XT.is (xt_not (b := true) (xt_val (by walk_at "fr e"))) rfl) fun _ => xw_or (a := false) (XT.is (g_cmpT hr (d1 := .tuple [.str (u ++ v ++ w'), .str (z ++ v ++ w'), .str (u ++ v ++ x)]) (d2 := .tuple [.str (u ++ v ++ w'), .str (z ++ v ++ w'), .str (u ++ v ++ x)]) (by walk_at "fr e") (by walk_at "fr e") (CmpD.neD hsh hsh)) (by simp [PyData.eqv, PyData.eqvAll])) fun _ => xw_or1 (b := false) (XT.is (xt_not (b := true) (xt_val ?_)) rfl))) rfl (xb_nil ?_))
    · refine (xd_all (bs := (List.range 3).map fun _ => true) (XL.dat (xl_to (n_comp (S := defScope s_law) (it := fun k => [PyData.str (u ++ v ++ w'), .str (z ++ v ++ w'), .str (u ++ v ++ x)].getD k .none) (n := 3) (f := fun _ => .bool true) hN nd (xi_tup (ds := [PyData.str (u ++ v ++ w'), .str (z ++ v ++ w'), .str (u ++ v ++ x)]) (by walk_at "fr e")) 11 (by decide +kernel) (fun k hk => ?_) (by rw [hs]; decide)) (by rw [List.map_map]; rfl))) z_all).is (by rfl)
      have hk2 : [PyData.str (u ++ v ++ w'), .str (z ++ v ++ w'), .str (u ++ v ++ x)].getD k .none = .str ([u ++ v ++ w', z ++ v ++ w', u ++ v ++ x].getD k ⟨#[]⟩) := by
        match k, hk with
        | 0, _ => rfl
        | 1, _ => rfl
        | 2, _ => rfl
      have hy := hrun _ (getD_mem (z := ⟨#[]⟩) (show k < [u ++ v ++ w', z ++ v ++ w', u ++ v ++ x].length from hk))
      show ∃ env2, SetN _ _ _ _ (some (.d ([PyData.str (u ++ v ++ w'), .str (z ++ v ++ w'), .str (u ++ v ++ x)].getD k .none))) env2 ∧ _
      rw [hk2]
      generalize [u ++ v ++ w', z ++ v ++ w', u ++ v ++ x].getD k ⟨#[]⟩ = y at hy
      refine ⟨_, by walk_at "fr st", fun s Hb C cl fp => ?_⟩
      exact xd_call D_law_is_run hr (i := y) (by walk_at "fr e") hy (fun _ h => h)
    refine xb_cons (n_set (xd_call D_fourth_run hr (i := (u, z, v, w', x)) (d := .str (z ++ v ++ x)) (by walk_at "fr e") hok5 (fun _ h => h)) hN nd (by walk_at "fr st") ?_)
    refine xb_cons (xs_ifF (XW.t (xw_or (a := false) (XT.is (xt_not (b := true) (xt_val (xd_call D_law_is_run hr (i := z ++ v ++ x) (by walk_at "fr e") ⟨by omega, isRun_app (isRun_app bz.2 bv.2) bx.2⟩ (fun _ h => h)))) rfl) fun _ => xw_or1 (b := false) (XT.is (g_cmpT hr (d1 := .str (z ++ v ++ x)) (d2 := .str (z ++ v ++ x)) (by walk_at "fr e") (by walk_at "fr e") CmpD.neS) (by simp)))) rfl (xb_nil (xb_nil ?_)))
    exact ⟨_, _, _, _, _, _, rfl⟩
  · rintro env' ⟨a3, a4, a5, a6, a7, a8, rfl⟩
    exact xb_cons (xs_ret (d := .bool true) (by walk_at "fr e") rfl)
end
theorem all_mk {l : PySem.W.OpenLaw} {w : World} {K : PySem.W.Frag} {h : Heap} {mg : Str → Option Value} {fa f0 f1 f2 f3 f4 f5 f6 f7 : Addr} (X : K.In h) (G : h.Ns mainGlobals mg) (hfa : mg "law" = some (.ref fa))
    {od0 an0 od1 an1 od2 an2 od3 an3 od4 an4 od5 an5 od6 an6 od7 an7 : Option Addr} {sl0 sl1 sl2 sl3 sl4 sl5 sl6 sl7 : Array (Option Value)} {oc0 kV0 dc0 pm0 cd0 ct0 oc1 kV1 dc1 pm1 cd1 ct1 oc2 kV2 dc2 pm2 cd2 ct2 oc3 kV3 dc3 pm3 cd3 ct3 oc4 kV4 dc4 pm4 cd4 ct4 oc5 kV5 dc5 pm5 cd5 ct5 oc6 kV6 dc6 pm6 cd6 ct6 oc7 kV7 dc7 pm7 cd7 ct7 : Value}
    (a0 : PySem.W.nsIn K mainGlobals "three_runs" = some (some (.ref f0))) (l0 : K.lookup f0 = some ⟨oc0, od0, .func (PySem.W.fnOf "three_runs" "three_runs" (defArgs s_three_runs) (defBody s_three_runs) (defScope s_three_runs) .none kV0 dc0 pm0 an0 cd0 ct0), sl0⟩) (c0 : PySem.W.codeIn K cd0 "three_runs" = true) (k0 : PySem.W.keepIn K (.ref f0) = true)
    (a1 : PySem.W.nsIn K mainGlobals "fourth_run" = some (some (.ref f1))) (l1 : K.lookup f1 = some ⟨oc1, od1, .func (PySem.W.fnOf "fourth_run" "fourth_run" (defArgs s_fourth_run) (defBody s_fourth_run) (defScope s_fourth_run) .none kV1 dc1 pm1 an1 cd1 ct1), sl1⟩) (c1 : PySem.W.codeIn K cd1 "fourth_run" = true) (k1 : PySem.W.keepIn K (.ref f1) = true)
    (a2 : PySem.W.nsIn K mainGlobals "_law_cell" = some (some (.ref f2))) (l2 : K.lookup f2 = some ⟨oc2, od2, .func (PySem.W.fnOf "_law_cell" "_law_cell" (defArgs s_law_cell) (defBody s_law_cell) (defScope s_law_cell) .none kV2 dc2 pm2 an2 cd2 ct2), sl2⟩) (c2 : PySem.W.codeIn K cd2 "_law_cell" = true) (k2 : PySem.W.keepIn K (.ref f2) = true)
    (a3 : PySem.W.nsIn K mainGlobals "_law_draws" = some (some (.ref f3))) (l3 : K.lookup f3 = some ⟨oc3, od3, .func (PySem.W.fnOf "_law_draws" "_law_draws" (defArgs s_law_draws) (defBody s_law_draws) (defScope s_law_draws) .none kV3 dc3 pm3 an3 cd3 ct3), sl3⟩) (c3 : PySem.W.codeIn K cd3 "_law_draws" = true) (k3 : PySem.W.keepIn K (.ref f3) = true)
    (a4 : PySem.W.nsIn K mainGlobals "_law_is_run" = some (some (.ref f4))) (l4 : K.lookup f4 = some ⟨oc4, od4, .func (PySem.W.fnOf "_law_is_run" "_law_is_run" (defArgs s_law_is_run) (defBody s_law_is_run) (defScope s_law_is_run) .none kV4 dc4 pm4 an4 cd4 ct4), sl4⟩) (c4 : PySem.W.codeIn K cd4 "_law_is_run" = true) (k4 : PySem.W.keepIn K (.ref f4) = true)
    (a5 : PySem.W.nsIn K mainGlobals "_law_letters" = some (some (.ref f5))) (l5 : K.lookup f5 = some ⟨oc5, od5, .func (PySem.W.fnOf "_law_letters" "_law_letters" (defArgs s_law_letters) (defBody s_law_letters) (defScope s_law_letters) .none kV5 dc5 pm5 an5 cd5 ct5), sl5⟩) (c5 : PySem.W.codeIn K cd5 "_law_letters" = true) (k5 : PySem.W.keepIn K (.ref f5) = true)
    (a6 : PySem.W.nsIn K mainGlobals "_law_word" = some (some (.ref f6))) (l6 : K.lookup f6 = some ⟨oc6, od6, .func (PySem.W.fnOf "_law_word" "_law_word" (defArgs s_law_word) (defBody s_law_word) (defScope s_law_word) .none kV6 dc6 pm6 an6 cd6 ct6), sl6⟩) (c6 : PySem.W.codeIn K cd6 "_law_word" = true) (k6 : PySem.W.keepIn K (.ref f6) = true)
    (a7 : PySem.W.nsIn K mainGlobals "law" = some (some (.ref f7))) (l7 : K.lookup f7 = some ⟨oc7, od7, .func (PySem.W.fnOf "law" "law" (defArgs s_law) (defBody s_law) (defScope s_law) .none kV7 dc7 pm7 an7 cd7 ct7), sl7⟩) (c7 : PySem.W.codeIn K cd7 "law" = true) (k7 : PySem.W.keepIn K (.ref f7) = true)
    (z_len : PySem.W.nsIn K mainGlobals "len" = some none) (z_abs : PySem.W.nsIn K mainGlobals "abs" = some none) (z_int : PySem.W.nsIn K mainGlobals "int" = some none) (z_range : PySem.W.nsIn K mainGlobals "range" = some none) (z_isinstance : PySem.W.nsIn K mainGlobals "isinstance" = some none) (z_str : PySem.W.nsIn K mainGlobals "str" = some none) (z_all : PySem.W.nsIn K mainGlobals "all" = some none) (z_sorted : PySem.W.nsIn K mainGlobals "sorted" = some none) (z_tuple : PySem.W.nsIn K mainGlobals "tuple" = some none) :
    ∃ fd : FuncData, (∀ (s : Shared) (v : Value), BindsTo s fd ⟨[v], []⟩ [("script", v)]) ∧ ∀ base : Heap, K.In base → base.Ns mainGlobals mg → FnOk l.prog w K mg base CX0 2 fa fd ["script"] (SpD K C_law) := by
  have e := hfa.symm.trans (PySem.W.mg_of X G a7)
  cases e
  have T : Bi mg := ⟨PySem.W.mg_none_of X G z_len, PySem.W.mg_none_of X G z_abs, PySem.W.mg_none_of X G z_int, PySem.W.mg_none_of X G z_range, PySem.W.mg_none_of X G z_isinstance, PySem.W.mg_none_of X G z_str, PySem.W.mg_none_of X G z_all, PySem.W.mg_none_of X G z_sorted, PySem.W.mg_none_of X G z_tuple⟩
  have F0 := fun_mk (st := s_three_runs) l0 c0 k0
  have F1 := fun_mk (st := s_fourth_run) l1 c1 k1
  have F2 := fun_mk (st := s_law_cell) l2 c2 k2
  have F3 := fun_mk (st := s_law_draws) l3 c3 k3
  have F4 := fun_mk (st := s_law_is_run) l4 c4 k4
  have F5 := fun_mk (st := s_law_letters) l5 c5 k5
  have F6 := fun_mk (st := s_law_word) l6 c6 k6
  have F7 := fun_mk (st := s_law) l7 c7 k7
  have b0 := F0.binds (ps := ["corner"]) fun _ _ _ _ _ _ us hl => match us, hl with | [_], _ => rfl
  have b1 := F1.binds (ps := ["corner"]) fun _ _ _ _ _ _ us hl => match us, hl with | [_], _ => rfl
  have b2 := F2.binds (ps := ["script", "k"]) fun _ _ _ _ _ _ us hl => match us, hl with | [_, _], _ => rfl
  have b3 := F3.binds (ps := ["cell", "count"]) fun _ _ _ _ _ _ us hl => match us, hl with | [_, _], _ => rfl
  have b4 := F4.binds (ps := ["value"]) fun _ _ _ _ _ _ us hl => match us, hl with | [_], _ => rfl
  have b5 := F5.binds (ps := ["draw", "count"]) fun _ _ _ _ _ _ us hl => match us, hl with | [_, _], _ => rfl
  have b6 := F6.binds (ps := ["draw", "letters", "longest"]) fun _ _ _ _ _ _ us hl => match us, hl with | [_, _, _], _ => rfl
  refine ⟨PySem.W.fnOf "law" "law" (defArgs s_law) (defBody s_law) (defScope s_law) .none kV7 dc7 pm7 an7 cd7 ct7, fun s v => .of_eq rfl, fun base _ _ => ?_⟩
  have D_three_runs := ok_three_runs (P := l.prog) (w := w) (base := base) F0 b0 (PySem.W.mg_of X G a0) T 
  have D_fourth_run := ok_fourth_run (P := l.prog) (w := w) (base := base) F1 b1 (PySem.W.mg_of X G a1) T 
  have D_law_cell := ok_law_cell (P := l.prog) (w := w) (base := base) F2 b2 (PySem.W.mg_of X G a2) T 
  have D_law_draws := ok_law_draws (P := l.prog) (w := w) (base := base) F3 b3 (PySem.W.mg_of X G a3) T 
  have D_law_is_run := ok_law_is_run (P := l.prog) (w := w) (base := base) F4 b4 (PySem.W.mg_of X G a4) T 
  have D_law_letters := ok_law_letters (P := l.prog) (w := w) (base := base) F5 b5 (PySem.W.mg_of X G a5) T 
  have D_law_word := ok_law_word (P := l.prog) (w := w) (base := base) F6 b6 (PySem.W.mg_of X G a6) T 
  exact ok_law F7 T D_law_draws D_law_letters D_law_cell D_three_runs D_fourth_run D_law_word D_law_is_run
end My
open PySem PySem.W PyProof.Rows in
set_option maxRecDepth 100000 in
set_option maxHeartbeats 0 in
theorem PySem.Challenge.cw_fromruns_k15_runs_of_corners_holds : PySem.Challenge.rw_fromruns_k15_runs_of_corners.Holds := by
  w_on; o_law; k_head; (case hw => w_witness2)
  k_fill
  refine L2.walk_of (l := PySem.Challenge.rw_fromruns_k15_runs_of_corners) (n := 63) (k := 2) (x := "script") (CX := fun _ => L2.CX0) (sp := fun w => FR.SpD _ FR.C_law) rfl (by decide) rfl ⟨rfl, by decide, by decide⟩ (fun w h Y => PySem.W.kIn_of Y) ?F (fun _ _ a ns hl _ hS => FR.law_end hl hS fun _ => rfl) (fun _ _ _ _ _ h => h)
  case F =>
    intro w mg fa h KX G hmg
    refine' My.all_mk KX G hmg ?a0 ?l0 ?c0 ?k0 ?a1 ?l1 ?c1 ?k1 ?a2 ?l2 ?c2 ?k2 ?a3 ?l3 ?c3 ?k3 ?a4 ?l4 ?c4 ?k4 ?a5 ?l5 ?c5 ?k5 ?a6 ?l6 ?c6 ?k6 ?a7 ?l7 ?c7 ?k7 ?z_len ?z_abs ?z_int ?z_range ?z_isinstance ?z_str ?z_all ?z_sorted ?z_tuple
    (case a0 => k_is)
    (case l0 => k_is)
    (case c0 => k_is)
    (case k0 => k_is)
    (case a1 => k_is)
    (case l1 => k_is)
    (case c1 => k_is)
    (case k1 => k_is)
    (case a2 => k_is)
    (case l2 => k_is)
    (case c2 => k_is)
    (case k2 => k_is)
    (case a3 => k_is)
    (case l3 => k_is)
    (case c3 => k_is)
    (case k3 => k_is)
    (case a4 => k_is)
    (case l4 => k_is)
    (case c4 => k_is)
    (case k4 => k_is)
    (case a5 => k_is)
    (case l5 => k_is)
    (case c5 => k_is)
    (case k5 => k_is)
    (case a6 => k_is)
    (case l6 => k_is)
    (case c6 => k_is)
    (case k6 => k_is)
    (case a7 => k_is)
    (case l7 => k_is)
    (case c7 => k_is)
    (case k7 => k_is)
    (case z_len => k_is)
    (case z_abs => k_is)
    (case z_int => k_is)
    (case z_range => k_is)
    (case z_isinstance => k_is)
    (case z_str => k_is)
    (case z_all => k_is)
    (case z_sorted => k_is)
    (case z_tuple => k_is)
