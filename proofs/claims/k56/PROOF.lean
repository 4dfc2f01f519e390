import PyProof.Rows.All
import Wide.All
import OpenK.AllK
import Wide.FinOn
import HandS.ForMost
import PyProof.Rows.StrRev
import HandS.IsInst
import HandS.Style
import PyProof.StrOps2
import HandS.SetFor
import HandS.SetTxt0
import HandS.SortKw
import KE.SortData
import KE.SortKeyHeap
import HandS.TupAny
import KE.DataCmp
import HandS.Star
import HandS.TryOnly
import HandS.TupMul
import PySem.Challenge.RW_fromruns_k56_judged_derivations
set_option Elab.async false
set_option linter.all false
set_option maxRecDepth 100000
set_option maxHeartbeats 4000000
namespace FR
open PySem PySem.Spec PyProof.Rows L2

/-! ## growing heaps: F the frame (what is fixed), H all -/
structure Gro (F H F' H' : Hp) : Prop where
  f : Same F F'
  h : Same H H'
  fr : Same F' H'
  sep : ∀ a, H a ≠ none → F a = none → F' a = none
theorem Gro.refl {F H : Hp} (fr : Same F H) : Gro F H F H := ⟨Same.refl F, Same.refl H, fr, fun _ _ h => h⟩
theorem Gro.trans {F H F1 H1 F2 H2 : Hp} (a : Gro F H F1 H1) (b : Gro F1 H1 F2 H2) : Gro F H F2 H2 :=
  ⟨a.f.trans b.f, a.h.trans b.h, b.fr, fun x hx fx => b.sep x (by
    cases q : H x with
    | none => exact absurd q hx
    | some o => rw [a.h x o q]; exact fun z => nomatch z) (a.sep x hx fx)⟩
theorem same_new {H : Hp} {p : Addr} {o : HO} (h : H p = none) : Same H (upd H p o) := fun a u e => by
  rw [upd_ne (ne_of_none e h)]
  exact e
theorem Gro.new {F H : Hp} (fr : Same F H) {p : Addr} {o : HO} (h : H p = none) : Gro F H (upd F p o) (upd H p o) := by
  refine ⟨same_new (fr.free h), same_new h, fun a u e => ?_, fun a ha fa => ?_⟩
  · by_cases e1 : a = p
    · subst e1; rw [upd_same] at e ⊢; exact e
    · rw [upd_ne e1] at e ⊢; exact fr a u e
  · have e1 : a ≠ p := fun z => ha (z ▸ h)
    rw [upd_ne e1]; exact fa
/-- a new object of one's own -/
theorem Gro.own {F H : Hp} (fr : Same F H) {p : Addr} {o : HO} (h : H p = none) : Gro F H F (upd H p o) :=
  ⟨Same.refl F, same_new h, fr.trans (same_new h), fun _ _ z => z⟩

/-! ## data -/
mutual
theorem dp_mono {K : PySem.W.Frag} {H H' : Hp} (e : Same H H') : ∀ {v : V} {d : PyData}, Dp K H v d → Dp K H' v d
  | _, _, .non => .non
  | _, _, .bl b => .bl b
  | _, _, .int i => .int i
  | _, _, .str x => .str x
  | _, _, .lst h hs => .lst (e.seq h) (dpAll_mono e hs)
  | _, _, .tup h hs => .tup (by
      rcases h with (h | ⟨o, h⟩) | h
      · exact .inl (.inl (e _ _ h))
      · exact .inl (.inr ⟨o, e _ _ h⟩)
      · exact .inr h) (dpAll_mono e hs)
theorem dpAll_mono {K : PySem.W.Frag} {H H' : Hp} (e : Same H H') : ∀ {vs : List V} {ds : List PyData}, DpAll K H vs ds → DpAll K H' vs ds
  | _, _, .nil => .nil
  | _, _, .cons h t => .cons (dp_mono e h) (dpAll_mono e t)
end
theorem dpAll_len {K : PySem.W.Frag} {H : Hp} : ∀ {vs : List V} {ds : List PyData}, DpAll K H vs ds → vs.length = ds.length
  | _, _, .nil => rfl
  | _, _, .cons _ t => congrArg (· + 1) (dpAll_len t)
theorem dpAll_get {K : PySem.W.Frag} {H : Hp} : ∀ {vs : List V} {ds : List PyData} {i : Nat} {d : PyData}, DpAll K H vs ds → ds[i]? = some d → ∃ v, vs[i]? = some v ∧ Dp K H v d
  | _, _, _, _, .nil, e => by simp at e
  | _, _, 0, _, .cons h _, e => by simp at e; subst e; exact ⟨_, rfl, h⟩
  | _, _, i + 1, _, .cons _ t, e => by
    obtain ⟨v, h1, h2⟩ := dpAll_get (i := i) t (by simpa using e)
    exact ⟨v, by simpa using h1, h2⟩
theorem dpAll_getV {K : PySem.W.Frag} {H : Hp} : ∀ {vs : List V} {ds : List PyData} {i : Nat} {v : V}, DpAll K H vs ds → vs[i]? = some v → ∃ d, ds[i]? = some d ∧ Dp K H v d
  | _, _, _, _, .nil, e => by simp at e
  | _, _, 0, _, .cons h _, e => by simp at e; subst e; exact ⟨_, rfl, h⟩
  | _, _, i + 1, _, .cons _ t, e => by
    obtain ⟨v, h1, h2⟩ := dpAll_getV (i := i) t (by simpa using e)
    exact ⟨v, by simpa using h1, h2⟩
theorem dpAll_append {K : PySem.W.Frag} {H : Hp} : ∀ {vs ws : List V} {ds es : List PyData}, DpAll K H vs ds → DpAll K H ws es → DpAll K H (vs ++ ws) (ds ++ es)
  | _, _, _, _, .nil, b => b
  | _, _, _, _, .cons h t, b => .cons h (dpAll_append t b)
theorem dpAll_set {K : PySem.W.Frag} {H : Hp} {v : V} {d : PyData} (h : Dp K H v d) : ∀ {vs : List V} {ds : List PyData} {i : Nat}, DpAll K H vs ds → DpAll K H (vs.set i v) (ds.set i d)
  | _, _, _, .nil => .nil
  | _, _, 0, .cons _ t => .cons h t
  | _, _, i + 1, .cons a t => .cons a (dpAll_set h t)
theorem dpAll_take {K : PySem.W.Frag} {H : Hp} : ∀ {vs : List V} {ds : List PyData} (n : Nat), DpAll K H vs ds → DpAll K H (vs.take n) (ds.take n)
  | _, _, 0, _ => by simp; exact .nil
  | _, _, _ + 1, .nil => .nil
  | _, _, n + 1, .cons a t => .cons a (dpAll_take n t)
theorem dpAll_drop {K : PySem.W.Frag} {H : Hp} : ∀ {vs : List V} {ds : List PyData} (n : Nat), DpAll K H vs ds → DpAll K H (vs.drop n) (ds.drop n)
  | _, _, 0, t => t
  | _, _, _ + 1, .nil => .nil
  | _, _, n + 1, .cons _ t => dpAll_drop n t
theorem dpAll_ints {K : PySem.W.Frag} {H : Hp} : ∀ {vs : List V} {ns : List Int}, DpAll K H vs (ns.map .int) → vs = ns.map V.int
  | _, [], .nil => rfl
  | _, _ :: _, .cons (.int _) t => congrArg _ (dpAll_ints t)
theorem dpAll_strs {K : PySem.W.Frag} {H : Hp} : ∀ {vs : List V} {ns : List Str}, DpAll K H vs (ns.map .str) → vs = ns.map V.str
  | _, [], .nil => rfl
  | _, _ :: _, .cons (.str _) t => congrArg _ (dpAll_strs t)
theorem dpAll_bls {K : PySem.W.Frag} {H : Hp} : ∀ {vs : List V} {ns : List Bool}, DpAll K H vs (ns.map .bool) → vs = ns.map V.bl
  | _, [], .nil => rfl
  | _, _ :: _, .cons (.bl _) t => congrArg _ (dpAll_bls t)
theorem dpAll_ofInts {K : PySem.W.Frag} {H : Hp} : ∀ (ns : List Int), DpAll K H (ns.map V.int) (ns.map .int)
  | [] => .nil
  | _ :: r => .cons (.int _) (dpAll_ofInts r)
theorem dpAll_ofStrs {K : PySem.W.Frag} {H : Hp} : ∀ (ns : List Str), DpAll K H (ns.map V.str) (ns.map .str)
  | [] => .nil
  | _ :: r => .cons (.str _) (dpAll_ofStrs r)

/-! ## what a slot holds -/
inductive AV where
  /-- data that stays -/
  | d (x : PyData)
  /-- a list of one's own -/
  | l (xs : List PyData)
  /-- a dict of one's own, keys ints and texts; keys tuples -/
  | k (kvs : List (Key × PyData))
  | t (kvs : List (List Key × PyData))
  /-- any thing of which something holds that stays -/
  | p (φ : Hp → V → Prop) (hφ : ∀ H H' v, Same H H' → φ H v → φ H' v)
def AV.owned : AV → Bool
  | .l _ => true
  | .k _ => true
  | .t _ => true
  | _ => false
abbrev AEnv := List (Option AV)
abbrev KvD {κ : Type} (K : PySem.W.Frag) (F : Hp) : List (κ × V) → List (κ × PyData) → Prop := Paired fun p q => p.1 = q.1 ∧ Dp K F p.2 q.2
def AvOk (K : PySem.W.Frag) (F H : Hp) (v : V) : AV → Prop
  | .d x => Dp K F v x
  | .l xs => ∃ a vs, v = .ref a ∧ H a = some (.lst vs) ∧ DpAll K F vs xs
  | .k kvs => ∃ a us, v = .ref a ∧ H a = some (.dK us) ∧ KvD K F us kvs
  | .t kvs => ∃ a us, v = .ref a ∧ H a = some (.dT us) ∧ KvD K F us kvs
  | .p φ _ => φ F v
theorem kvD_mono {κ : Type} {K : PySem.W.Frag} {F F' : Hp} (e : Same F F') : ∀ {us : List (κ × V)} {kvs : List (κ × PyData)}, KvD K F us kvs → KvD K F' us kvs
  | _, _, .nil => .nil
  | _, _, .cons h t => .cons ⟨h.1, dp_mono e h.2⟩ (kvD_mono e t)
theorem AvOk.gro {K : PySem.W.Frag} {F H F' H' : Hp} {v : V} (g : Gro F H F' H') : ∀ {av : AV}, AvOk K F H v av → AvOk K F' H' v av
  | .d _, h => dp_mono g.f h
  | .l _, ⟨a, vs, e, h, t⟩ => ⟨a, vs, e, g.h _ _ h, dpAll_mono g.f t⟩
  | .k _, ⟨a, vs, e, h, t⟩ => ⟨a, vs, e, g.h _ _ h, kvD_mono g.f t⟩
  | .t _, ⟨a, vs, e, h, t⟩ => ⟨a, vs, e, g.h _ _ h, kvD_mono g.f t⟩
  | .p _ hφ, h => hφ _ _ _ g.f h

structure EnvAt (K : PySem.W.Frag) (F0 H0 F : Hp) (σ : L2.St) (H : Hp) (env : AEnv) : Prop where
  gro : Gro F0 H0 F H
  len : σ.length = env.length
  slot : ∀ (i : Nat) (av : AV), env[i]? = some (some av) → ∃ v : V, σ[i]? = some (some v) ∧ AvOk K F H v av
  mine : ∀ (i : Nat) (av : AV) (a : Addr), env[i]? = some (some av) → av.owned = true → σ[i]? = some (some (.ref a)) → H0 a = none ∧ F a = none ∧ H a ≠ none
  apart : ∀ (i j : Nat) (av aw : AV) (a : Addr), env[i]? = some (some av) → env[j]? = some (some aw) → av.owned = true → aw.owned = true → σ[i]? = some (some (.ref a)) → σ[j]? = some (some (.ref a)) → i = j
section
variable {K : PySem.W.Frag} {F0 H0 F F' : Hp} {σ : L2.St} {H H' : Hp} {env : AEnv}
theorem EnvAt.grow (e : EnvAt K F0 H0 F σ H env) (g : Gro F H F' H') : EnvAt K F0 H0 F' σ H' env where
  gro := e.gro.trans g
  len := e.len
  slot := fun i av h => let ⟨v, a, b⟩ := e.slot i av h; ⟨v, a, b.gro g⟩
  mine := fun i av a h o s => by
    obtain ⟨z1, z2, z3⟩ := e.mine i av a h o s
    refine ⟨z1, g.sep a z3 z2, ?_⟩
    cases q : H a with
    | none => exact absurd q z3
    | some u => rw [g.h a u q]; exact fun z => nomatch z
  apart := e.apart
theorem set_get {α : Type} {l : List (Option α)} {i j : Nat} {x : Option α} {y : α} (h : (l.set i x)[j]? = some (some y)) : (i = j ∧ x = some y) ∨ (i ≠ j ∧ l[j]? = some (some y)) := by
  by_cases e : i = j
  · subst e
    rw [List.getElem?_set_self'] at h
    cases q : l[i]? with
    | none => rw [q] at h; cases h
    | some z => rw [q] at h; exact .inl ⟨rfl, Option.some.inj h⟩
  · rw [List.getElem?_set_ne e] at h
    exact .inr ⟨e, h⟩
/-- a slot is stored: data (or a thing that stays) -/
theorem EnvAt.set (e : EnvAt K F0 H0 F σ H env) {i : Nat} {v : V} {av : AV} (h : AvOk K F H v av) (ho : av.owned = false) : EnvAt K F0 H0 F (σ.set i (some v)) H (env.set i (some av)) where
  gro := e.gro
  len := by rw [List.length_set, List.length_set]; exact e.len
  slot := fun j aw q => by
    rcases set_get q with ⟨rfl, qx⟩ | ⟨n, q⟩
    · cases qx
      refine ⟨v, ?_, h⟩
      have hi : i < (env.set i (some av)).length := (List.getElem?_eq_some_iff.mp ‹_›).1
      rw [List.length_set, ← e.len] at hi
      exact List.getElem?_set_self hi
    · obtain ⟨u, a, b⟩ := e.slot j aw q
      exact ⟨u, by rw [List.getElem?_set_ne n]; exact a, b⟩
  mine := fun j aw a q o s => by
    rcases set_get q with ⟨rfl, qx⟩ | ⟨n, q⟩
    · cases qx; rw [ho] at o; cases o
    · rw [List.getElem?_set_ne n] at s
      exact e.mine j aw a q o s
  apart := fun j k aw ax a q1 q2 o1 o2 s1 s2 => by
    rcases set_get q1 with ⟨rfl, q1x⟩ | ⟨n1, q1⟩
    · cases q1x; rw [ho] at o1; cases o1
    rcases set_get q2 with ⟨rfl, q2x⟩ | ⟨n2, q2⟩
    · cases q2x; rw [ho] at o2; cases o2
    rw [List.getElem?_set_ne n1] at s1
    rw [List.getElem?_set_ne n2] at s2
    exact e.apart j k aw ax a q1 q2 o1 o2 s1 s2
/-- a slot is stored: a new thing of one's own (it stands in H, not in F, and no other slot owns it) -/
theorem EnvAt.setOwn (e : EnvAt K F0 H0 F σ H env) {i : Nat} {a : Addr} {av : AV} (h : AvOk K F H (.ref a) av) (h0 : H0 a = none) (hF : F a = none) (hH : H a ≠ none)
    (hn : ∀ (j : Nat) (aw : AV), i ≠ j → env[j]? = some (some aw) → aw.owned = true → σ[j]? ≠ some (some (.ref a))) : EnvAt K F0 H0 F (σ.set i (some (.ref a))) H (env.set i (some av)) where
  gro := e.gro
  len := by rw [List.length_set, List.length_set]; exact e.len
  slot := fun j aw q => by
    rcases set_get q with ⟨rfl, qx⟩ | ⟨n, q⟩
    · cases qx
      refine ⟨_, ?_, h⟩
      have hi : i < (env.set i (some av)).length := (List.getElem?_eq_some_iff.mp ‹_›).1
      rw [List.length_set, ← e.len] at hi
      exact List.getElem?_set_self hi
    · obtain ⟨u, a, b⟩ := e.slot j aw q
      exact ⟨u, by rw [List.getElem?_set_ne n]; exact a, b⟩
  mine := fun j aw b q o s => by
    rcases set_get q with ⟨rfl, qx⟩ | ⟨n, q⟩
    · rcases set_get s with ⟨_, s⟩ | ⟨n, _⟩
      · cases s; exact ⟨h0, hF, hH⟩
      · exact absurd rfl n
    · rw [List.getElem?_set_ne n] at s
      exact e.mine j aw b q o s
  apart := fun j k aw ax b q1 q2 o1 o2 s1 s2 => by
    rcases set_get q1 with ⟨rfl, q1x⟩ | ⟨n1, q1⟩
    · rcases set_get q2 with ⟨rfl, q2x⟩ | ⟨n2, q2⟩
      · rfl
      · rcases set_get s1 with ⟨_, s1⟩ | ⟨z, _⟩
        · cases s1
          rw [List.getElem?_set_ne n2] at s2
          exact absurd s2 (hn k ax n2 q2 o2)
        · exact absurd rfl z
    · rcases set_get q2 with ⟨rfl, q2x⟩ | ⟨n2, q2⟩
      · rcases set_get s2 with ⟨_, s2⟩ | ⟨z, _⟩
        · cases s2
          rw [List.getElem?_set_ne n1] at s1
          exact absurd s1 (hn j aw n1 q1 o1)
        · exact absurd rfl z
      · rw [List.getElem?_set_ne n1] at s1
        rw [List.getElem?_set_ne n2] at s2
        exact e.apart j k aw ax b q1 q2 o1 o2 s1 s2
/-- a thing of one's own (in slot i) is changed -/
theorem EnvAt.change (e : EnvAt K F0 H0 F σ H env) {i : Nat} {a : Addr} {av av' : AV} {o : HO} (hi : env[i]? = some (some av)) (ho : av.owned = true) (hs : σ[i]? = some (some (.ref a)))
    (h : AvOk K F (upd H a o) (.ref a) av') : EnvAt K F0 H0 F σ (upd H a o) (env.set i (some av')) := by
  obtain ⟨z1, z2, z3⟩ := e.mine i av a hi ho hs
  refine ⟨⟨e.gro.f, fun b u q => ?_, fun b u q => ?_, fun b q1 q2 => e.gro.sep b q1 q2⟩, by rw [List.length_set]; exact e.len, fun j aw q => ?_, fun j aw b q o' s => ?_, fun j k aw ax b q1 q2 o1 o2 s1 s2 => ?_⟩
  · rw [upd_ne (fun z => by rw [z, z1] at q; cases q)]; exact e.gro.h b u q
  · rw [upd_ne (fun z => by rw [z, z2] at q; cases q)]; exact e.gro.fr b u q
  · rcases set_get q with ⟨rfl, qx⟩ | ⟨n, q⟩
    · cases qx; exact ⟨_, hs, h⟩
    · obtain ⟨u, s, b⟩ := e.slot j aw q
      refine ⟨u, s, ?_⟩
      have other : ∀ c, u = .ref c → aw.owned = true → c ≠ a := fun c hc ow z => by
        subst hc; subst z
        exact n (e.apart i j av aw c hi q ho ow hs s)
      cases aw with
      | d x => exact b
      | l xs => obtain ⟨c, vs, e1, e2, e3⟩ := b; exact ⟨c, vs, e1, by rw [upd_ne (other c e1 rfl)]; exact e2, e3⟩
      | k xs => obtain ⟨c, vs, e1, e2, e3⟩ := b; exact ⟨c, vs, e1, by rw [upd_ne (other c e1 rfl)]; exact e2, e3⟩
      | t xs => obtain ⟨c, vs, e1, e2, e3⟩ := b; exact ⟨c, vs, e1, by rw [upd_ne (other c e1 rfl)]; exact e2, e3⟩
      | p φ hφ => exact b
  · have bne : b ≠ a ∨ b = a := by by_cases z : b = a <;> simp [z]
    rcases set_get q with ⟨rfl, qx⟩ | ⟨n, q⟩
    · rw [hs] at s; cases s
      exact ⟨z1, z2, by rw [upd_same]; exact fun z => nomatch z⟩
    · obtain ⟨y1, y2, y3⟩ := e.mine j aw b q o' s
      refine ⟨y1, y2, ?_⟩
      rcases bne with z | z
      · rw [upd_ne z]; exact y3
      · rw [z, upd_same]; exact fun z => nomatch z
  · have q1' : ∃ ay, env[j]? = some (some ay) ∧ ay.owned = true := by
      rcases set_get q1 with ⟨rfl, _⟩ | ⟨n, q1⟩
      · exact ⟨av, hi, ho⟩
      · exact ⟨aw, q1, o1⟩
    have q2' : ∃ ay, env[k]? = some (some ay) ∧ ay.owned = true := by
      rcases set_get q2 with ⟨rfl, _⟩ | ⟨n, q2⟩
      · exact ⟨av, hi, ho⟩
      · exact ⟨ax, q2, o2⟩
    obtain ⟨b1, c1, d1⟩ := q1'
    obtain ⟨b2, c2, d2⟩ := q2'
    exact e.apart j k b1 b2 b c1 c2 d1 d2 s1 s2
/-- forgetting a slot -/
theorem EnvAt.forget (e : EnvAt K F0 H0 F σ H env) {env' : AEnv} (hl : env'.length = env.length) (h : ∀ (i : Nat) (av : AV), env'[i]? = some (some av) → env[i]? = some (some av)) : EnvAt K F0 H0 F σ H env' :=
  ⟨e.gro, by rw [hl]; exact e.len, fun i av q => e.slot i av (h i av q), fun i av a q => e.mine i av a (h i av q), fun i j av aw a q1 q2 => e.apart i j av aw a (h i av q1) (h j aw q2)⟩
/-- a list of one's own is data from now on -/
theorem EnvAt.freeze (e : EnvAt K F0 H0 F σ H env) {i : Nat} {xs : List PyData} (hi : env[i]? = some (some (.l xs))) : ∃ F', EnvAt K F0 H0 F' σ H (env.set i (some (.d (.list xs)))) ∧ Same F F' := by
  obtain ⟨v, hs, a, vs, rfl, ha, hv⟩ := e.slot i _ hi
  obtain ⟨z1, z2, z3⟩ := e.mine i _ a hi rfl hs
  have sF : Same F (upd F a (.lst vs)) := same_new z2
  refine ⟨upd F a (.lst vs), ⟨⟨e.gro.f.trans sF, e.gro.h, fun b u q => ?_, fun b q1 q2 => ?_⟩, by rw [List.length_set]; exact e.len, fun j aw q => ?_, fun j aw b q o' s => ?_, fun j k aw ax b q1 q2 o1 o2 s1 s2 => ?_⟩, sF⟩
  · by_cases e1 : b = a
    · subst e1; rw [upd_same] at q; cases q; exact ha
    · rw [upd_ne e1] at q; exact e.gro.fr b u q
  · have e1 : b ≠ a := fun z => q1 (z ▸ z1)
    rw [upd_ne e1]; exact e.gro.sep b q1 q2
  · rcases set_get q with ⟨rfl, qx⟩ | ⟨n, q⟩
    · cases qx
      exact ⟨_, hs, .lst (.inl (.inl upd_same)) (dpAll_mono sF hv)⟩
    · obtain ⟨u, s, b⟩ := e.slot j aw q
      refine ⟨u, s, ?_⟩
      cases aw with
      | d x => exact dp_mono sF b
      | l xs => obtain ⟨c, vs, e1, e2, e3⟩ := b; exact ⟨c, vs, e1, e2, dpAll_mono sF e3⟩
      | k xs => obtain ⟨c, vs, e1, e2, e3⟩ := b; exact ⟨c, vs, e1, e2, kvD_mono sF e3⟩
      | t xs => obtain ⟨c, vs, e1, e2, e3⟩ := b; exact ⟨c, vs, e1, e2, kvD_mono sF e3⟩
      | p φ hφ => exact hφ _ _ _ sF b
  · rcases set_get q with ⟨rfl, qx⟩ | ⟨n, q⟩
    · cases qx; cases o'
    · obtain ⟨y1, y2, y3⟩ := e.mine j aw b q o' s
      refine ⟨y1, ?_, y3⟩
      rw [upd_ne (fun z => by subst z; exact n (e.apart i j _ aw b hi q rfl o' hs s))]
      exact y2
  · rcases set_get q1 with ⟨rfl, q1x⟩ | ⟨n1, q1⟩
    · cases q1x; cases o1
    rcases set_get q2 with ⟨rfl, q2x⟩ | ⟨n2, q2⟩
    · cases q2x; cases o2
    exact e.apart j k aw ax b q1 q2 o1 o2 s1 s2
/-- the start of a def -/
theorem env_start {N : List Str} {vs : List V} {ds : List PyData} (fr : Same F H) (h : DpAll K F vs ds) (hl : ds.length ≤ N.length) :
    EnvAt K F H F (L2.start N vs) H (ds.map (fun d => some (.d d)) ++ List.replicate (N.length - ds.length) none) := by
  have hv := dpAll_len h
  have key : ∀ i (av : AV), (ds.map (fun d => some (AV.d d)) ++ List.replicate (N.length - ds.length) none)[i]? = some (some av) → ∃ d, ds[i]? = some d ∧ av = .d d := fun i av q => by
    by_cases hi : i < ds.length
    · rw [List.getElem?_append_left (by simpa using hi), List.getElem?_map, List.getElem?_eq_getElem hi] at q
      exact ⟨_, List.getElem?_eq_getElem hi, by simp at q; exact q.symm⟩
    · rw [List.getElem?_append_right (by simpa using hi), List.getElem?_replicate] at q
      split at q <;> cases q
  refine ⟨Gro.refl fr, ?_, fun i av q => ?_, fun i av a q o => ?_, fun i j av aw a q1 q2 o1 => ?_⟩
  · unfold L2.start
    simp only [List.length_append, List.length_map, List.length_replicate, hv]
  · obtain ⟨d, e1, rfl⟩ := key i av q
    obtain ⟨v, e2, e3⟩ := dpAll_get h e1
    refine ⟨v, ?_, e3⟩
    unfold L2.start
    rw [List.getElem?_append_left (by simpa using (List.getElem?_eq_some_iff.mp e2).1), List.getElem?_map, e2]
    rfl
  · obtain ⟨d, _, rfl⟩ := key i av q; cases o
  · obtain ⟨d, _, rfl⟩ := key i av q1; cases o1
end
end FR

namespace FR
open PySem PySem.Spec PyProof.Rows L2

/-! ## the canonical readings -/
structure wE (X : Cx) (e : Expr) (σ : L2.St) (H : Hp) (Q : VK) : Prop where
  run : ∀ pins s, Inv X pins σ H s → wpAny (model X.prog X.w) X.A (eval e X.env) (EP X pins σ Q) X.xe s
structure wT (X : Cx) (e : Expr) (σ : L2.St) (H : Hp) (Q : Bool → Hp → Prop) : Prop where
  run : ∀ pins s, Inv X pins σ H s → wpAny (model X.prog X.w) X.A (isTrue e X.env (eval e X.env)) (TP X pins σ Q) X.xe s
structure wW (X : Cx) (e : Expr) (σ : L2.St) (H : Hp) (Q : Bool → Hp → Prop) : Prop where
  run : ∀ whole pins s, Inv X pins σ H s → wpAny (model X.prog X.w) X.A (isTrue e X.env whole) (TP X pins σ Q) X.xe s
structure wA (X : Cx) (es : List Expr) (σ : L2.St) (H : Hp) (Q : List V → Hp → Prop) : Prop where
  run : ∀ pos pins s, Inv X pins σ H s → wpAny (model X.prog X.w) X.A (spliced (backTo pos (starEach es X.env))) (AP X pins σ Q) X.xe s
structure wS (X : Cx) (st : Stmt) (D : Ends) (σ : L2.St) (H : Hp) : Prop where
  run : ∀ pins s, Inv X pins σ H s → wpAny (model X.prog X.w) X.A (exec st X.env) (SP X pins D) X.xe s
structure wB (X : Cx) (st : List Stmt) (D : Ends) (σ : L2.St) (H : Hp) : Prop where
  run : ∀ pins s, Inv X pins σ H s → wpAny (model X.prog X.w) X.A (execs st X.env) (SP X pins D) X.xe s
structure wI (X : Cx) (tg iter : Expr) (σ : L2.St) (H : Hp) (R : It → Hp → Prop) : Prop where
  run : ∀ pins s, Inv X pins σ H s →
  wpAny (model X.prog X.w) X.A (eval iter X.env) (fun v s1 => wpAny (model X.prog X.w) X.A (pyIter v) (PIE X pins σ tg R) X.xe s1) X.xe s
section
variable {X : Cx} {e tg : Expr} {es : List Expr} {st : Stmt} {ss : List Stmt} {te : TE} {tt : TT} {ta : TA} {ts : TS} {ti : TI} {σ : L2.St} {H : Hp}
theorem e_w : PE X e (wE X e) := ⟨fun pins s σ H Q I h => h.run pins s I⟩
theorem t_w : PT X e (wT X e) := ⟨fun pins s σ H Q I h => h.run pins s I⟩
theorem w_w : PW X e (wW X e) := ⟨fun wh pins s σ H Q I h => h.run wh pins s I⟩
theorem a_w : PA X es (wA X es) := ⟨fun pos pins s σ H Q I h => h.run pos pins s I⟩
theorem s_w : PS X st (wS X st) := ⟨fun pins s σ H D I h => h.run pins s I⟩
theorem b_w : PSs X ss (wB X ss) := ⟨fun pins s σ H D I h => h.run pins s I⟩
theorem i_w : PI X tg e (wI X tg e) := ⟨fun pins s σ H R I h => h.run pins s I⟩
theorem e_of (h : PE X e te) {Q : VK} (q : te σ H Q) : wE X e σ H Q := ⟨fun pins s I => h.run pins s σ H Q I q⟩
theorem t_of (h : PT X e tt) {Q : Bool → Hp → Prop} (q : tt σ H Q) : wT X e σ H Q := ⟨fun pins s I => h.run pins s σ H Q I q⟩
theorem w_of (h : PW X e tt) {Q : Bool → Hp → Prop} (q : tt σ H Q) : wW X e σ H Q := ⟨fun wh pins s I => h.run wh pins s σ H Q I q⟩
theorem a_of (h : PA X es ta) {Q : List V → Hp → Prop} (q : ta σ H Q) : wA X es σ H Q := ⟨fun pos pins s I => h.run pos pins s σ H Q I q⟩
theorem s_of (h : PS X st ts) {D : Ends} (q : ts D σ H) : wS X st D σ H := ⟨fun pins s I => h.run pins s σ H D I q⟩
theorem b_of (h : PSs X ss ts) {D : Ends} (q : ts D σ H) : wB X ss D σ H := ⟨fun pins s I => h.run pins s σ H D I q⟩
theorem i_of (h : PI X tg e ti) {R : It → Hp → Prop} (q : ti σ H R) : wI X tg e σ H R := ⟨fun pins s I => h.run pins s σ H R I q⟩
end

/-! ## judgements over data -/
def XD (X : Cx) (e : Expr) (env : AEnv) (d : PyData) : Prop :=
  ∀ F0 H0 F σ H, EnvAt X.K F0 H0 F σ H env → ∀ Q : VK, (∀ v F' H', Gro F H F' H' → Dp X.K F' v d → Q v H') → wE X e σ H Q
/-- a value of which something holds that stays (no data) -/
def XP (X : Cx) (e : Expr) (env : AEnv) (φ : Hp → V → Prop) : Prop :=
  ∀ F0 H0 F σ H, EnvAt X.K F0 H0 F σ H env → ∀ Q : VK, (∀ v F' H', Gro F H F' H' → φ F' v → Q v H') → wE X e σ H Q
/-- a new list, nobody else's -/
def XL (X : Cx) (e : Expr) (env : AEnv) (xs : List PyData) : Prop :=
  ∀ F0 H0 F σ H, EnvAt X.K F0 H0 F σ H env → ∀ Q : VK, (∀ p vs F' H', Gro F H F' H' → H p = none → F' p = none → H' p = some (.lst vs) → DpAll X.K F' vs xs → Q (.ref p) H') → wE X e σ H Q
def XT (X : Cx) (e : Expr) (env : AEnv) (b : Bool) : Prop :=
  ∀ F0 H0 F σ H, EnvAt X.K F0 H0 F σ H env → ∀ Q : Bool → Hp → Prop, (∀ F' H', Gro F H F' H' → Q b H') → wT X e σ H Q
def XW (X : Cx) (e : Expr) (env : AEnv) (b : Bool) : Prop :=
  ∀ F0 H0 F σ H, EnvAt X.K F0 H0 F σ H env → ∀ Q : Bool → Hp → Prop, (∀ F' H', Gro F H F' H' → Q b H') → wW X e σ H Q
def XA (X : Cx) (es : List Expr) (env : AEnv) (ds : List PyData) : Prop :=
  ∀ F0 H0 F σ H, EnvAt X.K F0 H0 F σ H env → ∀ Q : List V → Hp → Prop, (∀ vs F' H', Gro F H F' H' → DpAll X.K F' vs ds → Q vs H') → wA X es σ H Q
/-- what is wanted behind a statement -/
structure AE where
  nx : AEnv → Prop
  rt : PyData → Prop
  bk : AEnv → Prop := fun _ => False
  ct : AEnv → Prop := fun _ => False
structure Lk (K : PySem.W.Frag) (F0 H0 : Hp) (A : AE) (D : Ends) : Prop where
  nx : ∀ env F σ H, EnvAt K F0 H0 F σ H env → A.nx env → D.nx σ H
  rt : ∀ v d F H, Gro F0 H0 F H → Dp K F v d → A.rt d → D.rt v H
  bk : ∀ env F σ H, EnvAt K F0 H0 F σ H env → A.bk env → D.bk σ H
  ct : ∀ env F σ H, EnvAt K F0 H0 F σ H env → A.ct env → D.ct σ H
def XS (X : Cx) (st : Stmt) (env : AEnv) (A : AE) : Prop := ∀ F0 H0 F σ H D, EnvAt X.K F0 H0 F σ H env → Lk X.K F0 H0 A D → wS X st D σ H
def XB (X : Cx) (ss : List Stmt) (env : AEnv) (A : AE) : Prop := ∀ F0 H0 F σ H D, EnvAt X.K F0 H0 F σ H env → Lk X.K F0 H0 A D → wB X ss D σ H

section
variable {X : Cx} {e e2 e3 tg : Expr} {es : List Expr} {st : Stmt} {ss : List Stmt} {env : AEnv} {d d1 d2 : PyData} {A : AE} {pos p p2 : Pos}

theorem EnvAt.fr {K : PySem.W.Frag} {F0 H0 F : Hp} {σ : L2.St} {H : Hp} {env : AEnv} (E : EnvAt K F0 H0 F σ H env) : Same F H := E.gro.fr
theorem EnvAt.rfl' {K : PySem.W.Frag} {F0 H0 F : Hp} {σ : L2.St} {H : Hp} {env : AEnv} (E : EnvAt K F0 H0 F σ H env) : Gro F H F H := Gro.refl E.fr

/-! ### names, constants -/
theorem xd_var {i : Nat} {x : Str} (hv : env[i]? = some (some (.d d))) (hN : X.N[i]? = some x := by rfl) (hs : Vis X.env.scope x := by first | exact Or.inl rfl | exact Or.inr (Or.inl rfl) | exact Or.inr (Or.inr rfl))
    (hd : (x == ("__debug__" : Str)) = false := by decide) (hc : (x == ("__classdict__" : Str)) = false := by decide) : XD X (.Name x pos) env d := by
  intro F0 H0 F σ H E Q q
  obtain ⟨v, h1, h2⟩ := E.slot i _ hv
  exact e_of (pe_var hN hs hd hc) ⟨v, h1, q v F H E.rfl' h2⟩
theorem xp_var {i : Nat} {x : Str} {φ : Hp → V → Prop} {hφ} (hv : env[i]? = some (some (.p φ hφ))) (hN : X.N[i]? = some x := by rfl) (hs : Vis X.env.scope x := by first | exact Or.inl rfl | exact Or.inr (Or.inl rfl) | exact Or.inr (Or.inr rfl))
    (hd : (x == ("__debug__" : Str)) = false := by decide) (hc : (x == ("__classdict__" : Str)) = false := by decide) : XP X (.Name x pos) env φ := by
  intro F0 H0 F σ H E Q q
  obtain ⟨v, h1, h2⟩ := E.slot i _ hv
  exact e_of (pe_var hN hs hd hc) ⟨v, h1, q v F H E.rfl' h2⟩
theorem xd_int {i j} : XD X (.Constant (.int i) j pos) env (.int i) := fun F0 H0 F σ H E Q q => e_of pe_int (q _ F H E.rfl' (.int i))
theorem xd_bl {b j} : XD X (.Constant (.bool b) j pos) env (.bool b) := fun F0 H0 F σ H E Q q => e_of pe_bl (q _ F H E.rfl' (.bl b))
theorem xd_non {j} : XD X (.Constant .none j pos) env .none := fun F0 H0 F σ H E Q q => e_of pe_non (q _ F H E.rfl' .non)
theorem xd_str {x j} : XD X (.Constant (.str x) j pos) env (.str x) := fun F0 H0 F σ H E Q q => e_of pe_str (q _ F H E.rfl' (.str x))
theorem XD.is (h : XD X e env d) (h' : d = d2) : XD X e env d2 := h' ▸ h

/-! ### operators -/
/-- what an operator does on data -/
def OpD (K : PySem.W.Frag) (r : R2) (d1 d2 d : PyData) : Prop := ∀ F H v w, Same F H → Dp K F v d1 → Dp K F w d2 → ∀ Q : VK, (∀ u F' H', Gro F H F' H' → Dp K F' u d → Q u H') → r v w H Q
def UnD (K : PySem.W.Frag) (r : V → Hp → VK → Prop) (d1 d : PyData) : Prop := ∀ F H v, Same F H → Dp K F v d1 → ∀ Q : VK, (∀ u F' H', Gro F H F' H' → Dp K F' u d → Q u H') → r v H Q
theorem x2 {r : R2} (hp : PE X e3 (tOp r (wE X e) (wE X e2))) (h1 : XD X e env d1) (h2 : XD X e2 env d2) (hr : OpD X.K r d1 d2 d) : XD X e3 env d := by
  intro F0 H0 F σ H E Q q
  refine e_of hp ?_
  refine h1 _ _ F σ H E _ fun v F1 H1 g1 p1 => ?_
  refine h2 _ _ F1 σ H1 (E.grow g1) _ fun w F2 H2 g2 p2 => ?_
  exact hr F2 H2 v w g2.fr (dp_mono g2.f p1) p2 Q fun u F3 H3 g3 p3 => q u F3 H3 ((g1.trans g2).trans g3) p3
theorem x1 {r : V → Hp → VK → Prop} (hp : PE X e3 (tUn r (wE X e))) (h1 : XD X e env d1) (hr : UnD X.K r d1 d) : XD X e3 env d := by
  intro F0 H0 F σ H E Q q
  refine e_of hp ?_
  refine h1 _ _ F σ H E _ fun v F1 H1 g1 p1 => ?_
  exact hr F1 H1 v g1.fr p1 Q fun u F3 H3 g3 p3 => q u F3 H3 (g1.trans g3) p3
theorem dI {K : PySem.W.Frag} {F : Hp} {v : V} {i : Int} (h : Dp K F v (.int i)) : v = .int i := by cases h; rfl
theorem dS {K : PySem.W.Frag} {F : Hp} {v : V} {i : Str} (h : Dp K F v (.str i)) : v = .str i := by cases h; rfl
theorem dB {K : PySem.W.Frag} {F : Hp} {v : V} {i : Bool} (h : Dp K F v (.bool i)) : v = .bl i := by cases h; rfl
theorem dN {K : PySem.W.Frag} {F : Hp} {v : V} (h : Dp K F v .none) : v = .non := by cases h; rfl
theorem dL {K : PySem.W.Frag} {F : Hp} {v : V} {xs : List PyData} (h : Dp K F v (.list xs)) : ∃ a vs, v = .ref a ∧ SqL K F a vs ∧ DpAll K F vs xs := by cases h with | lst h t => exact ⟨_, _, rfl, h, t⟩
theorem dT {K : PySem.W.Frag} {F : Hp} {v : V} {xs : List PyData} (h : Dp K F v (.tuple xs)) : ∃ a vs, v = .ref a ∧ SqT K F a vs ∧ DpAll K F vs xs := by cases h with | tup h t => exact ⟨_, _, rfl, h, t⟩
theorem opd_I0 {K : PySem.W.Frag} {g : Int → Int → V} {i j : Int} {d : PyData} (h : ∀ F, Dp K F (g i j) d) : OpD K (rI0 g) (.int i) (.int j) d :=
  fun F H v w fr p1 p2 Q q => ⟨i, j, dI p1, dI p2, q _ F H (Gro.refl fr) (h F)⟩
theorem opd_I {K : PySem.W.Frag} {C : Int → Int → Prop} {g : Int → Int → V} {i j : Int} {d : PyData} (hc : C i j) (h : ∀ F, Dp K F (g i j) d) : OpD K (rI C g) (.int i) (.int j) d :=
  fun F H v w fr p1 p2 Q q => ⟨i, j, dI p1, dI p2, hc, q _ F H (Gro.refl fr) (h F)⟩
theorem xd_add {i j : Int} (h1 : XD X e env (.int i)) (h2 : XD X e2 env (.int j)) : XD X (.BinOp e .Add e2 pos) env (.int (i + j)) := x2 (pe_op op_add e_w e_w) h1 h2 (opd_I0 fun _ => .int _)
theorem xd_sub {i j : Int} (h1 : XD X e env (.int i)) (h2 : XD X e2 env (.int j)) : XD X (.BinOp e .Sub e2 pos) env (.int (i - j)) := x2 (pe_op op_sub e_w e_w) h1 h2 (opd_I0 fun _ => .int _)
theorem xd_mul {i j : Int} (h1 : XD X e env (.int i)) (h2 : XD X e2 env (.int j)) (hc : CMul i j) : XD X (.BinOp e .Mult e2 pos) env (.int (i * j)) := x2 (pe_op op_mul e_w e_w) h1 h2 (opd_I hc fun _ => .int _)
theorem xd_div {i j : Int} (h1 : XD X e env (.int i)) (h2 : XD X e2 env (.int j)) (hc : CDiv i j) : XD X (.BinOp e .FloorDiv e2 pos) env (.int (i / j)) := x2 (pe_op op_fdiv e_w e_w) h1 h2 (opd_I hc fun _ => .int _)
theorem xd_mod {i j : Int} (h1 : XD X e env (.int i)) (h2 : XD X e2 env (.int j)) (hc : 0 < j) : XD X (.BinOp e .Mod e2 pos) env (.int (i % j)) := x2 (pe_op op_mod e_w e_w) h1 h2 (opd_I hc fun _ => .int _)
theorem xd_pow {i j : Int} (h1 : XD X e env (.int i)) (h2 : XD X e2 env (.int j)) (hc : CPow i j) : XD X (.BinOp e .Pow e2 pos) env (.int (i ^ j.toNat)) := x2 (pe_op op_pow e_w e_w) h1 h2 (opd_I hc fun _ => .int _)
theorem xd_neg {i : Int} (h1 : XD X e env (.int i)) : XD X (.UnaryOp .USub e pos) env (.int (-i)) := x1 (pe_un un_neg e_w) h1 fun F H v fr p1 Q q => ⟨i, dI p1, q _ F H (Gro.refl fr) (.int _)⟩
theorem xd_cat {a b : Str} (h1 : XD X e env (.str a)) (h2 : XD X e2 env (.str b)) (hz : a.length + b.length ≤ sizeLine) : XD X (.BinOp e .Add e2 pos) env (.str (a ++ b)) :=
  x2 (pe_op op_add_str e_w e_w) h1 h2 fun F H v w fr p1 p2 Q q => ⟨a, b, dS p1, dS p2, hz, q _ F H (Gro.refl fr) (.str _)⟩
/-! ### comparisons -/
theorem xd_lt {i j : Int} (h1 : XD X e env (.int i)) (h2 : XD X e2 env (.int j)) : XD X (.Compare e [.Lt] [e2] pos) env (.bool (decide (i < j))) := x2 (pe_cmpR op_lt e_w e_w (nomark _)) h1 h2 (opd_I0 fun _ => .bl _)
theorem xd_le {i j : Int} (h1 : XD X e env (.int i)) (h2 : XD X e2 env (.int j)) : XD X (.Compare e [.LtE] [e2] pos) env (.bool (decide (i ≤ j))) := x2 (pe_cmpR op_le e_w e_w (nomark _)) h1 h2 (opd_I0 fun _ => .bl _)
theorem xd_gt {i j : Int} (h1 : XD X e env (.int i)) (h2 : XD X e2 env (.int j)) : XD X (.Compare e [.Gt] [e2] pos) env (.bool (decide (j < i))) := x2 (pe_cmpR op_gt e_w e_w (nomark _)) h1 h2 (opd_I0 fun _ => .bl _)
theorem xd_ge {i j : Int} (h1 : XD X e env (.int i)) (h2 : XD X e2 env (.int j)) : XD X (.Compare e [.GtE] [e2] pos) env (.bool (decide (j ≤ i))) := x2 (pe_cmpR op_ge e_w e_w (nomark _)) h1 h2 (opd_I0 fun _ => .bl _)
theorem opd_eq {K : PySem.W.Frag} {x y : V} {b : Bool} (hx : ∀ F v, Dp K F v d1 → v = x) (hy : ∀ F v, Dp K F v d2 → v = y) (hs : scal x y = true) (hb : decide (x = y) = b) : OpD K rEq d1 d2 (.bool b) :=
  fun F H v w fr p1 p2 Q q => ⟨by rw [hx F v p1, hy F w p2]; exact hs, by rw [hx F v p1, hy F w p2, hb]; exact q _ F H (Gro.refl fr) (.bl _)⟩
theorem opd_ne {K : PySem.W.Frag} {x y : V} {b : Bool} (hx : ∀ F v, Dp K F v d1 → v = x) (hy : ∀ F v, Dp K F v d2 → v = y) (hs : scal x y = true) (hb : (!decide (x = y)) = b) : OpD K rNe d1 d2 (.bool b) :=
  fun F H v w fr p1 p2 Q q => ⟨by rw [hx F v p1, hy F w p2]; exact hs, by rw [hx F v p1, hy F w p2, hb]; exact q _ F H (Gro.refl fr) (.bl _)⟩
theorem dec_int {i j : Int} : decide (V.int i = V.int j) = decide (i = j) := by
  by_cases h : i = j
  · subst h; simp
  · rw [decide_eq_false h]; exact decide_eq_false fun z => h (by injection z)
theorem dec_str {i j : Str} : decide (V.str i = V.str j) = decide (i = j) := by
  by_cases h : i = j
  · subst h; simp
  · rw [decide_eq_false h]; exact decide_eq_false fun z => h (by injection z)
theorem dec_bl {i j : Bool} : decide (V.bl i = V.bl j) = decide (i = j) := by
  by_cases h : i = j
  · subst h; simp
  · rw [decide_eq_false h]; exact decide_eq_false fun z => h (by injection z)
theorem xd_eqI {i j : Int} (h1 : XD X e env (.int i)) (h2 : XD X e2 env (.int j)) : XD X (.Compare e [.Eq] [e2] pos) env (.bool (decide (i = j))) :=
  x2 (pe_cmpR op_eq e_w e_w (nomark _)) h1 h2 (opd_eq (fun _ _ => dI) (fun _ _ => dI) rfl dec_int)
theorem xd_eqS {i j : Str} (h1 : XD X e env (.str i)) (h2 : XD X e2 env (.str j)) : XD X (.Compare e [.Eq] [e2] pos) env (.bool (decide (i = j))) :=
  x2 (pe_cmpR op_eq e_w e_w (nomark _)) h1 h2 (opd_eq (fun _ _ => dS) (fun _ _ => dS) rfl dec_str)
theorem xd_eqB {i j : Bool} (h1 : XD X e env (.bool i)) (h2 : XD X e2 env (.bool j)) : XD X (.Compare e [.Eq] [e2] pos) env (.bool (decide (i = j))) :=
  x2 (pe_cmpR op_eq e_w e_w (nomark _)) h1 h2 (opd_eq (fun _ _ => dB) (fun _ _ => dB) rfl dec_bl)
theorem xd_neI {i j : Int} (h1 : XD X e env (.int i)) (h2 : XD X e2 env (.int j)) : XD X (.Compare e [.NotEq] [e2] pos) env (.bool (!decide (i = j))) :=
  x2 (pe_cmpR op_ne e_w e_w (nomark _)) h1 h2 (opd_ne (fun _ _ => dI) (fun _ _ => dI) rfl (by rw [dec_int]))
theorem xd_neS {i j : Str} (h1 : XD X e env (.str i)) (h2 : XD X e2 env (.str j)) : XD X (.Compare e [.NotEq] [e2] pos) env (.bool (!decide (i = j))) :=
  x2 (pe_cmpR op_ne e_w e_w (nomark _)) h1 h2 (opd_ne (fun _ _ => dS) (fun _ _ => dS) rfl (by rw [dec_str]))
theorem xd_neB {i j : Bool} (h1 : XD X e env (.bool i)) (h2 : XD X e2 env (.bool j)) : XD X (.Compare e [.NotEq] [e2] pos) env (.bool (!decide (i = j))) :=
  x2 (pe_cmpR op_ne e_w e_w (nomark _)) h1 h2 (opd_ne (fun _ _ => dB) (fun _ _ => dB) rfl (by rw [dec_bl]))
/-- == of data at any depth -/
theorem xd_eqD (hu : X.A.units + 64 < cLine) (h1 : XD X e env d1) (h2 : XD X e2 env d2) (s1 : SeqAt.shaped d1 = true) (s2 : SeqAt.shaped d2 = true) : XD X (.Compare e [.Eq] [e2] pos) env (.bool (PyData.eqv d1 d2)) :=
  x2 (pe_cmpR (op_eqD hu) e_w e_w (nomark _)) h1 h2 fun F H v w fr p1 p2 Q q => ⟨d1, d2, dp_mono fr p1, dp_mono fr p2, s1, s2, q _ F H (Gro.refl fr) (.bl _)⟩
theorem xd_neD (hu : X.A.units + 64 < cLine) (h1 : XD X e env d1) (h2 : XD X e2 env d2) (s1 : SeqAt.shaped d1 = true) (s2 : SeqAt.shaped d2 = true) : XD X (.Compare e [.NotEq] [e2] pos) env (.bool (!PyData.eqv d1 d2)) :=
  x2 (pe_cmpR (op_neD hu) e_w e_w (nomark _)) h1 h2 fun F H v w fr p1 p2 Q q => ⟨d1, d2, dp_mono fr p1, dp_mono fr p2, s1, s2, q _ F H (Gro.refl fr) (.bl _)⟩
def isNonD : PyData → Bool
  | .none => true
  | _ => false
theorem dp_non {K : PySem.W.Frag} {F : Hp} {v : V} (h : Dp K F v d) : decide (v = .non) = isNonD d := by
  cases h <;> simp [isNonD]
theorem xd_isN {j} (h1 : XD X e env d) : XD X (.Compare e [.Is] [.Constant .none j p] pos) env (.bool (isNonD d)) :=
  x2 (pe_cmpR op_isN e_w e_w (nomark _)) h1 xd_non fun F H v w fr p1 p2 Q q => ⟨dN p2, by rw [dp_non p1]; exact q _ F H (Gro.refl fr) (.bl _)⟩
theorem xd_notN {j} (h1 : XD X e env d) : XD X (.Compare e [.IsNot] [.Constant .none j p] pos) env (.bool (!isNonD d)) :=
  x2 (pe_cmpR op_notN e_w e_w (nomark _)) h1 xd_non fun F H v w fr p1 p2 Q q => ⟨dN p2, by rw [dp_non p1]; exact q _ F H (Gro.refl fr) (.bl _)⟩

/-! ### tests -/
theorem xt_val {b : Bool} (h : XD X e env (.bool b)) (he : ∀ whole, isTrue e X.env whole = (do let v ← whole; standAt e.pos; holding [v] (truthy v)) := by intro _; rfl) : XT X e env b := by
  intro F0 H0 F σ H E Q q
  refine t_of (pt_val e_w he) ?_
  refine h _ _ F σ H E _ fun v F1 H1 g1 p1 => ?_
  exact ⟨b, dB p1, q F1 H1 g1⟩
theorem cmpT {op : CmpOp} {r : R2} (hp : PT X e3 (tTest (tOp r (wE X e) (wE X e2)))) (h1 : XD X e env d1) (h2 : XD X e2 env d2) {b : Bool} (hr : OpD X.K r d1 d2 (.bool b)) : XT X e3 env b := by
  intro F0 H0 F σ H E Q q
  refine t_of hp ?_
  refine h1 _ _ F σ H E _ fun v F1 H1 g1 p1 => ?_
  refine h2 _ _ F1 σ H1 (E.grow g1) _ fun w F2 H2 g2 p2 => ?_
  exact hr F2 H2 v w g2.fr (dp_mono g2.f p1) p2 _ fun u F3 H3 g3 p3 => ⟨b, dB p3, q F3 H3 ((g1.trans g2).trans g3)⟩
theorem xt_lt {i j : Int} (h1 : XD X e env (.int i)) (h2 : XD X e2 env (.int j)) : XT X (.Compare e [.Lt] [e2] pos) env (decide (i < j)) := cmpT (op := .Lt) (pt_cmpR op_lt e_w e_w (nomark _)) h1 h2 (opd_I0 fun _ => .bl _)
theorem xt_le {i j : Int} (h1 : XD X e env (.int i)) (h2 : XD X e2 env (.int j)) : XT X (.Compare e [.LtE] [e2] pos) env (decide (i ≤ j)) := cmpT (op := .Lt) (pt_cmpR op_le e_w e_w (nomark _)) h1 h2 (opd_I0 fun _ => .bl _)
theorem xt_gt {i j : Int} (h1 : XD X e env (.int i)) (h2 : XD X e2 env (.int j)) : XT X (.Compare e [.Gt] [e2] pos) env (decide (j < i)) := cmpT (op := .Lt) (pt_cmpR op_gt e_w e_w (nomark _)) h1 h2 (opd_I0 fun _ => .bl _)
theorem xt_ge {i j : Int} (h1 : XD X e env (.int i)) (h2 : XD X e2 env (.int j)) : XT X (.Compare e [.GtE] [e2] pos) env (decide (j ≤ i)) := cmpT (op := .Lt) (pt_cmpR op_ge e_w e_w (nomark _)) h1 h2 (opd_I0 fun _ => .bl _)
theorem xt_eqI {i j : Int} (h1 : XD X e env (.int i)) (h2 : XD X e2 env (.int j)) : XT X (.Compare e [.Eq] [e2] pos) env (decide (i = j)) :=
  cmpT (op := .Lt) (pt_cmpR op_eq e_w e_w (nomark _)) h1 h2 (opd_eq (fun _ _ => dI) (fun _ _ => dI) rfl dec_int)
theorem xt_eqS {i j : Str} (h1 : XD X e env (.str i)) (h2 : XD X e2 env (.str j)) : XT X (.Compare e [.Eq] [e2] pos) env (decide (i = j)) :=
  cmpT (op := .Lt) (pt_cmpR op_eq e_w e_w (nomark _)) h1 h2 (opd_eq (fun _ _ => dS) (fun _ _ => dS) rfl dec_str)
theorem xt_eqB {i j : Bool} (h1 : XD X e env (.bool i)) (h2 : XD X e2 env (.bool j)) : XT X (.Compare e [.Eq] [e2] pos) env (decide (i = j)) :=
  cmpT (op := .Lt) (pt_cmpR op_eq e_w e_w (nomark _)) h1 h2 (opd_eq (fun _ _ => dB) (fun _ _ => dB) rfl dec_bl)
theorem xt_neI {i j : Int} (h1 : XD X e env (.int i)) (h2 : XD X e2 env (.int j)) : XT X (.Compare e [.NotEq] [e2] pos) env (!decide (i = j)) :=
  cmpT (op := .Lt) (pt_cmpR op_ne e_w e_w (nomark _)) h1 h2 (opd_ne (fun _ _ => dI) (fun _ _ => dI) rfl (by rw [dec_int]))
theorem xt_neS {i j : Str} (h1 : XD X e env (.str i)) (h2 : XD X e2 env (.str j)) : XT X (.Compare e [.NotEq] [e2] pos) env (!decide (i = j)) :=
  cmpT (op := .Lt) (pt_cmpR op_ne e_w e_w (nomark _)) h1 h2 (opd_ne (fun _ _ => dS) (fun _ _ => dS) rfl (by rw [dec_str]))
theorem xt_neB {i j : Bool} (h1 : XD X e env (.bool i)) (h2 : XD X e2 env (.bool j)) : XT X (.Compare e [.NotEq] [e2] pos) env (!decide (i = j)) :=
  cmpT (op := .Lt) (pt_cmpR op_ne e_w e_w (nomark _)) h1 h2 (opd_ne (fun _ _ => dB) (fun _ _ => dB) rfl (by rw [dec_bl]))
theorem xt_eqD (hu : X.A.units + 64 < cLine) (h1 : XD X e env d1) (h2 : XD X e2 env d2) (s1 : SeqAt.shaped d1 = true) (s2 : SeqAt.shaped d2 = true) : XT X (.Compare e [.Eq] [e2] pos) env (PyData.eqv d1 d2) :=
  cmpT (op := .Lt) (pt_cmpR (op_eqD hu) e_w e_w (nomark _)) h1 h2 fun F H v w fr p1 p2 Q q => ⟨d1, d2, dp_mono fr p1, dp_mono fr p2, s1, s2, q _ F H (Gro.refl fr) (.bl _)⟩
theorem xt_neD (hu : X.A.units + 64 < cLine) (h1 : XD X e env d1) (h2 : XD X e2 env d2) (s1 : SeqAt.shaped d1 = true) (s2 : SeqAt.shaped d2 = true) : XT X (.Compare e [.NotEq] [e2] pos) env (!PyData.eqv d1 d2) :=
  cmpT (op := .Lt) (pt_cmpR (op_neD hu) e_w e_w (nomark _)) h1 h2 fun F H v w fr p1 p2 Q q => ⟨d1, d2, dp_mono fr p1, dp_mono fr p2, s1, s2, q _ F H (Gro.refl fr) (.bl _)⟩
theorem xt_isN {j} (h1 : XD X e env d) : XT X (.Compare e [.Is] [.Constant .none j p] pos) env (isNonD d) :=
  cmpT (op := .Lt) (pt_cmpR op_isN e_w e_w (nomark _)) h1 xd_non fun F H v w fr p1 p2 Q q => ⟨dN p2, by rw [dp_non p1]; exact q _ F H (Gro.refl fr) (.bl _)⟩
theorem xt_notN {j} (h1 : XD X e env d) : XT X (.Compare e [.IsNot] [.Constant .none j p] pos) env (!isNonD d) :=
  cmpT (op := .Lt) (pt_cmpR op_notN e_w e_w (nomark _)) h1 xd_non fun F H v w fr p1 p2 Q q => ⟨dN p2, by rw [dp_non p1]; exact q _ F H (Gro.refl fr) (.bl _)⟩
theorem xt_not {b : Bool} (h : XT X e env b) : XT X (.UnaryOp .Not e pos) env (!b) := fun F0 H0 F σ H E Q q =>
  t_of (pt_not t_w) (h _ _ F σ H E _ fun F1 H1 g => q F1 H1 g)
theorem xw_and1 {b : Bool} (h : XT X e env b) : XW X (.BoolOp .And [e] pos) env b := fun F0 H0 F σ H E Q q => w_of (pw_and1 t_w) (h _ _ F σ H E _ q)
theorem xw_or1 {b : Bool} (h : XT X e env b) : XW X (.BoolOp .Or [e] pos) env b := fun F0 H0 F σ H E Q q => w_of (pw_or1 t_w) (h _ _ F σ H E _ q)
theorem xw_and {a b : Bool} (h1 : XT X e env a) (h2 : a = true → XW X (.BoolOp .And (e2 :: es) pos) env b) : XW X (.BoolOp .And (e :: e2 :: es) pos) env (a && b) := by
  intro F0 H0 F σ H E Q q
  refine w_of (pw_and t_w w_w) (h1 _ _ F σ H E _ fun F1 H1 g1 => ?_)
  cases a with
  | true => exact iteT (h2 rfl _ _ F1 σ H1 (E.grow g1) _ fun F2 H2 g2 => q F2 H2 (g1.trans g2))
  | false => exact iteF (q F1 H1 g1)
theorem xw_or {a b : Bool} (h1 : XT X e env a) (h2 : a = false → XW X (.BoolOp .Or (e2 :: es) pos) env b) : XW X (.BoolOp .Or (e :: e2 :: es) pos) env (a || b) := by
  intro F0 H0 F σ H E Q q
  refine w_of (pw_or t_w w_w) (h1 _ _ F σ H E _ fun F1 H1 g1 => ?_)
  cases a with
  | false => exact iteF (h2 rfl _ _ F1 σ H1 (E.grow g1) _ fun F2 H2 g2 => q F2 H2 (g1.trans g2))
  | true => exact iteT (q F1 H1 g1)
theorem XW.t {b : Bool} (h : XW X e env b) : XT X e env b := fun F0 H0 F σ H E Q q => t_of w_w.pt (h _ _ F σ H E _ q)
theorem XT.is {a b : Bool} (h : XT X e env a) (q : a = b) : XT X e env b := q ▸ h
/-! ### and, or, not as values of bools; if-else -/
theorem xd_one {op} (h : XD X e env d) : XD X (.BoolOp op [e] pos) env d := fun F0 H0 F σ H E Q q => e_of (pe_one e_w) (h _ _ F σ H E Q q)
theorem xd_and {a b : Bool} (h1 : XD X e env (.bool a)) (h2 : a = true → XD X (.BoolOp .And (e2 :: es) pos) env (.bool b)) : XD X (.BoolOp .And (e :: e2 :: es) pos) env (.bool (a && b)) := by
  intro F0 H0 F σ H E Q q
  refine e_of (pe_and e_w e_w) (h1 _ _ F σ H E _ fun v F1 H1 g1 p1 => ⟨a, dB p1, ?_⟩)
  cases a with
  | true => exact iteT (h2 rfl _ _ F1 σ H1 (E.grow g1) _ fun u F2 H2 g2 p2 => q u F2 H2 (g1.trans g2) p2)
  | false => exact iteF (q _ F1 H1 g1 (.bl _))
theorem xd_or {a b : Bool} (h1 : XD X e env (.bool a)) (h2 : a = false → XD X (.BoolOp .Or (e2 :: es) pos) env (.bool b)) : XD X (.BoolOp .Or (e :: e2 :: es) pos) env (.bool (a || b)) := by
  intro F0 H0 F σ H E Q q
  refine e_of (pe_or e_w e_w) (h1 _ _ F σ H E _ fun v F1 H1 g1 p1 => ⟨a, dB p1, ?_⟩)
  cases a with
  | false => exact iteF (h2 rfl _ _ F1 σ H1 (E.grow g1) _ fun u F2 H2 g2 p2 => q u F2 H2 (g1.trans g2) p2)
  | true => exact iteT (q _ F1 H1 g1 (.bl _))
theorem xd_not {a : Bool} (h1 : XD X e env (.bool a)) : XD X (.UnaryOp .Not e pos) env (.bool (!a)) := fun F0 H0 F σ H E Q q =>
  e_of (pe_not e_w) (h1 _ _ F σ H E _ fun v F1 H1 g1 p1 => ⟨a, dB p1, q _ F1 H1 g1 (.bl _)⟩)
theorem xd_ifx {b : Bool} {c : Expr} (h : XT X c env b) (h1 : b = true → XD X e env d1) (h2 : b = false → XD X e2 env d2) : XD X (.IfExp c e e2 pos) env (if b = true then d1 else d2) := by
  intro F0 H0 F σ H E Q q
  refine e_of (pe_ifExp t_w e_w e_w) (h _ _ F σ H E _ fun F1 H1 g1 => ?_)
  cases b with
  | true => exact iteT (h1 rfl _ _ F1 σ H1 (E.grow g1) _ fun u F2 H2 g2 p2 => q u F2 H2 (g1.trans g2) p2)
  | false => exact iteF (h2 rfl _ _ F1 σ H1 (E.grow g1) _ fun u F2 H2 g2 p2 => q u F2 H2 (g1.trans g2) p2)

/-! ### arguments, displays -/
theorem xa_nil : XA X [] env [] := fun F0 H0 F σ H E Q q => a_of pa_nil (q [] F H E.rfl' .nil)
theorem xa_cons {ds : List PyData} (h : XD X e env d) (hr : XA X es env ds) (hs : starEach (e :: es) X.env = (false, eval e X.env) :: starEach es X.env := by rfl) : XA X (e :: es) env (d :: ds) := by
  intro F0 H0 F σ H E Q q
  refine a_of (pa_cons e_w a_w hs) ?_
  refine h _ _ F σ H E _ fun v F1 H1 g1 p1 => ?_
  exact hr _ _ F1 σ H1 (E.grow g1) _ fun vs F2 H2 g2 p2 => q _ F2 H2 (g1.trans g2) (.cons (dp_mono g2.f p1) p2)
theorem xd_tup {ds : List PyData} {j} (h : XA X es env ds) (hz : ds.length ≤ sizeLine := by first | decide | (simp only [List.length_cons, List.length_nil]; decide)) : XD X (.Tuple es j pos) env (.tuple ds) := by
  intro F0 H0 F σ H E Q q
  refine e_of (pe_tup a_w) (h _ _ F σ H E _ fun vs F1 H1 g1 p1 => ⟨by rw [dpAll_len p1]; exact hz, fun p hp => ?_⟩)
  have g := Gro.new (o := .tup vs) g1.fr hp
  exact q _ _ _ (g1.trans g) (.tup (.inl (.inl upd_same)) (dpAll_mono g.f p1))
theorem xl_lst {ds : List PyData} (h : XA X es env ds) (hz : ds.length ≤ sizeLine := by first | decide | (simp only [List.length_cons, List.length_nil]; decide)) : XL X (.List es pos) env ds := by
  intro F0 H0 F σ H E Q q
  refine e_of (pe_lst a_w) (h _ _ F σ H E _ fun vs F1 H1 g1 p1 => ⟨by rw [dpAll_len p1]; exact hz, fun p hp => ?_⟩)
  exact q p vs F1 _ (g1.trans (Gro.own g1.fr hp)) (g1.h.free hp) (g1.fr.free hp) upd_same p1
theorem XL.dat {ds : List PyData} (h : XL X e env ds) : XD X e env (.list ds) := by
  intro F0 H0 F σ H E Q q
  refine h _ _ F σ H E _ fun p vs F1 H1 g1 hp fp h1 p1 => ?_
  have s1 : Same F1 (upd F1 p (.lst vs)) := same_new fp
  refine q _ (upd F1 p (.lst vs)) H1 ⟨g1.f.trans s1, g1.h, fun b u z => ?_, fun b z1 z2 => ?_⟩ (.lst (.inl (.inl upd_same)) (dpAll_mono s1 p1))
  · by_cases e1 : b = p
    · subst e1; rw [upd_same] at z; cases z; exact h1
    · rw [upd_ne e1] at z; exact g1.fr b u z
  · have e1 : b ≠ p := fun z => z1 (z ▸ hp)
    rw [upd_ne e1]; exact g1.sep b z1 z2
theorem xd_lst {ds : List PyData} (h : XA X es env ds) (hz : ds.length ≤ sizeLine := by first | decide | (simp only [List.length_cons, List.length_nil]; decide)) : XD X (.List es pos) env (.list ds) := XL.dat (xl_lst h hz)
end
end FR

namespace FR
open PySem PySem.Spec PyProof.Rows L2

/-! ## statements -/
section
variable {X : Cx} {e e2 e3 tg iter : Expr} {es : List Expr} {st : Stmt} {ss body : List Stmt} {env : AEnv} {d d1 d2 : PyData} {A : AE} {pos p p2 : Pos}

theorem Lk.then {K : PySem.W.Frag} {F0 H0 : Hp} {A : AE} {D : Ends} (l : Lk K F0 H0 A D) {N : AEnv → Prop} {M : L2.St → Hp → Prop} (h : ∀ env F σ H, EnvAt K F0 H0 F σ H env → N env → M σ H) : Lk K F0 H0 { A with nx := N } { D with nx := M } :=
  ⟨h, l.rt, l.bk, l.ct⟩
theorem xb_nil (h : A.nx env) : XB X [] env A := fun F0 H0 F σ H D E l => b_of pss_nil (l.nx env F σ H E h)
theorem xb_cons (h : XS X st env { A with nx := fun env' => XB X ss env' A }) : XB X (st :: ss) env A := fun F0 H0 F σ H D E l =>
  b_of (pss_cons s_w b_w) (h F0 H0 F σ H { D with nx := wB X ss D } E (l.then fun env' F' σ' H' E' q => q F0 H0 F' σ' H' D E' l))
/-- a block by its middle -/
theorem xb_cut {M : AEnv → Prop} (h : XS X st env { A with nx := M }) (k : ∀ env', M env' → XB X ss env' A) : XB X (st :: ss) env A := fun F0 H0 F σ H D E l =>
  b_of (pss_cons s_w b_w) (h F0 H0 F σ H { D with nx := wB X ss D } E (l.then fun env' F' σ' H' E' q => k env' q F0 H0 F' σ' H' D E' l))
theorem xb_weak {env' : AEnv} (h : XB X ss env' A) (hl : env'.length = env.length := by rfl) (w : ∀ (i : Nat) (av : AV), env'[i]? = some (some av) → env[i]? = some (some av)) : XB X ss env A := fun F0 H0 F σ H D E l =>
  h F0 H0 F σ H D (E.forget hl w) l
theorem xb_freeze (i : Nat) {xs : List PyData} (hi : env[i]? = some (some (.l xs))) (h : XB X ss (env.set i (some (.d (.list xs)))) A) : XB X ss env A := fun F0 H0 F σ H D E l => by
  obtain ⟨F', E', _⟩ := E.freeze hi
  exact h F0 H0 F' σ H D E' l
theorem xs_ret (h : XD X e env d) (hr : A.rt d) : XS X (.Return (some e) pos) env A := fun F0 H0 F σ H D E l =>
  s_of (ps_ret e_w) (h _ _ F σ H E _ fun v F1 H1 g1 p1 => l.rt v d F1 H1 (E.gro.trans g1) p1 hr)
theorem xs_retN (hr : A.rt .none) : XS X (.Return none pos) env A := fun F0 H0 F σ H D E l => s_of ps_retN (l.rt _ _ F H E.gro .non hr)
theorem xs_if {b : Bool} {a c : List Stmt} (h : XT X e env b) (h1 : b = true → XB X a env A) (h2 : b = false → XB X c env A) : XS X (.If e a c pos) env A := fun F0 H0 F σ H D E l => by
  refine s_of (ps_if t_w b_w b_w) (h _ _ F σ H E _ fun F1 H1 g1 => ?_)
  cases b with
  | true => exact iteT (h1 rfl F0 H0 F1 σ H1 D (E.grow g1) l)
  | false => exact iteF (h2 rfl F0 H0 F1 σ H1 D (E.grow g1) l)
theorem xs_pass (h : A.nx env) : XS X (.Pass pos) env A := fun F0 H0 F σ H D E l => s_of ps_pass (l.nx env F σ H E h)
theorem xs_break (h : A.bk env) : XS X (.Break pos) env A := fun F0 H0 F σ H D E l => s_of ps_break (l.bk env F σ H E h)
theorem xs_cont (h : A.ct env) : XS X (.Continue pos) env A := fun F0 H0 F σ H D E l => s_of ps_continue (l.ct env F σ H E h)
theorem xs_drop (h : XD X e env d) (hn : A.nx env) (hs : swapsWith e none pos.line X.env = pure false := by rfl) : XS X (.Expr e pos) env A := fun F0 H0 F σ H D E l =>
  s_of (ps_expr e_w hs) (h _ _ F σ H E _ fun v F1 H1 g1 p1 => l.nx env F1 σ H1 (E.grow g1) hn)
/-- name = data -/
theorem xs_set {i : Nat} {x : Str} (h : XD X e env d) (hn : A.nx (env.set i (some (.d d)))) (hN : X.N.Nodup) (hi : X.N[i]? = some x := by rfl) (hx : Loc X.env.scope x := by first | exact .inl rfl | exact .inr rfl)
    (hs : swapsWith e (some (.Name x p)) pos.line X.env = pure false := by rfl) (hf : X.fn x = true ∨ X.env.scope.names.lookup x = some .local := by first | exact .inl rfl | exact .inr rfl) : XS X (.Assign [.Name x p] e pos) env A := fun F0 H0 F σ H D E l =>
  s_of (ps_set hN hi hx e_w hs hf) (h _ _ F σ H E _ fun v F1 H1 g1 p1 => l.nx _ F1 _ H1 ((E.grow g1).set (av := .d d) p1 rfl) hn)
theorem xs_setP {i : Nat} {x : Str} {φ : Hp → V → Prop} (hφ : ∀ H H' v, Same H H' → φ H v → φ H' v) (h : XP X e env φ) (hn : A.nx (env.set i (some (.p φ hφ)))) (hN : X.N.Nodup) (hi : X.N[i]? = some x := by rfl) (hx : Loc X.env.scope x := by first | exact .inl rfl | exact .inr rfl)
    (hs : swapsWith e (some (.Name x p)) pos.line X.env = pure false := by rfl) (hf : X.fn x = true ∨ X.env.scope.names.lookup x = some .local := by first | exact .inl rfl | exact .inr rfl) : XS X (.Assign [.Name x p] e pos) env A := fun F0 H0 F σ H D E l =>
  s_of (ps_set hN hi hx e_w hs hf) (h _ _ F σ H E _ fun v F1 H1 g1 p1 => l.nx _ F1 _ H1 ((E.grow g1).set (av := .p φ hφ) p1 rfl) hn)
theorem EnvAt.notNew {K : PySem.W.Frag} {F0 H0 F : Hp} {σ : L2.St} {H : Hp} {env : AEnv} (E : EnvAt K F0 H0 F σ H env) {a : Addr} (h : H a = none) : ∀ (j : Nat) (aw : AV), env[j]? = some (some aw) → aw.owned = true → σ[j]? ≠ some (some (.ref a)) := fun j aw q o s =>
  absurd h (E.mine j aw a q o s).2.2
/-- name = a new list, one's own -/
theorem xs_setL {i : Nat} {x : Str} {xs : List PyData} (h : XL X e env xs) (hn : A.nx (env.set i (some (.l xs)))) (hN : X.N.Nodup) (hi : X.N[i]? = some x := by rfl) (hx : Loc X.env.scope x := by first | exact .inl rfl | exact .inr rfl)
    (hs : swapsWith e (some (.Name x p)) pos.line X.env = pure false := by rfl) (hf : X.fn x = true ∨ X.env.scope.names.lookup x = some .local := by first | exact .inl rfl | exact .inr rfl) : XS X (.Assign [.Name x p] e pos) env A := fun F0 H0 F σ H D E l => by
  refine s_of (ps_set hN hi hx e_w hs hf) (h _ _ F σ H E _ fun a vs F1 H1 g1 n1 n2 e1 p1 => ?_)
  refine l.nx _ F1 _ H1 ((E.grow g1).setOwn (av := .l xs) ⟨a, vs, rfl, e1, p1⟩ (E.gro.h.free n1) n2 (by rw [e1]; exact fun z => nomatch z) fun j aw _ q o => ?_) hn
  exact E.notNew n1 j aw q o
/-- name op= data -/
theorem xs_aug {i : Nat} {x : Str} {op : Operator} {r : TIp} (hv : env[i]? = some (some (.d d1))) (h : XD X e env d2) (ho : PIp X op r) (hr : OpD X.K r d1 d2 d) (hn : A.nx (env.set i (some (.d d)))) (hN : X.N.Nodup) (hi : X.N[i]? = some x := by rfl) (hx : Loc X.env.scope x := by first | exact .inl rfl | exact .inr rfl)
    (hf : X.fn x = true ∨ X.env.scope.names.lookup x = some .local := by first | exact .inl rfl | exact .inr rfl) : XS X (.AugAssign (.Name x p) op e pos) env A := fun F0 H0 F σ H D E l => by
  obtain ⟨v, s1, pv⟩ := E.slot i _ hv
  refine s_of (ps_aug hN hi hx e_w ho hf) ⟨v, s1, h _ _ F σ H E _ fun w F1 H1 g1 p1 => ?_⟩
  exact hr F1 H1 v w g1.fr (dp_mono g1.f pv) p1 _ fun u F2 H2 g2 p2 => l.nx _ F2 _ H2 ((E.grow (g1.trans g2)).set (av := .d d) p2 rfl) hn
/-- xs.append(e), xs one's own -/
theorem xs_append {i : Nat} {x : Str} {xs : List PyData} {apos cpos : Pos} (hv : env[i]? = some (some (.l xs))) (h : XD X e env d) (hz : xs.length < sizeLine) (hn : A.nx (env.set i (some (.l (xs ++ [d]))))) (hN : X.N[i]? = some x := by rfl) (hs : Vis X.env.scope x := by first | exact Or.inl rfl | exact Or.inr (Or.inl rfl) | exact Or.inr (Or.inr rfl))
    (hd : (x == ("__debug__" : Str)) = false := by decide) (hc : (x == ("__classdict__" : Str)) = false := by decide)
    (hbase : attributeBase (.Name x p) "append" X.env (eval (.Name x p) X.env) = eval (.Name x p) X.env := by rfl)
    (hfew : ((backTo cpos (starEach [e] X.env)).all (fun x => !x.1) && (backToKw cpos (keywordEach [] X.env)).all (fun x => x.1.isSome)
      && decide ([e].length + ([] : List Keyword).length + (if ([] : List Keyword).isEmpty then 0 else 1) < 30)) = true := by rfl)
    (hline : (apos.endLine == cpos.line) = true := by rfl) (hst : starEach [e] X.env = (false, eval e X.env) :: starEach [] X.env := by rfl) (hplain : (backTo cpos (starEach [] X.env)).any (·.1) = false := by rfl)
    (hsw : swapsWith (.Call (.Attribute (.Name x p) "append" apos) [e] [] cpos) none pos.line X.env = pure false := by rfl) :
    XS X (.Expr (.Call (.Attribute (.Name x p) "append" apos) [e] [] cpos) pos) env A := fun F0 H0 F σ H D E l => by
  obtain ⟨v, s1, a, vs, ea, h1, h2⟩ := E.slot i _ hv
  cases ea
  refine s_of (ps_expr (pe_bm PySem.F.plainAttrs_list PySem.F.slot_list_append PySem.F.type_list_append mt_append (pe_var hN hs hd hc) (pa_cons e_w pa_nil hst) hbase hfew hline hst hplain) hsw) ?_
  refine ⟨_, s1, .inl ⟨rfl, _, .inl (.inl h1)⟩, ?_⟩
  refine h _ _ F σ H E _ fun w F1 H1 g1 p1 => ?_
  refine ⟨a, vs, w, rfl, rfl, g1.h _ _ h1, by rw [dpAll_len h2]; exact hz, ?_⟩
  have E1 := E.grow g1
  exact l.nx _ F1 σ _ (E1.change (av' := .l (xs ++ [d])) hv rfl s1 ⟨a, _, rfl, upd_same, dpAll_append (dpAll_mono g1.f h2) (.cons p1 .nil)⟩) hn

/-! ## targets -/
structure wG (X : Cx) (tg : Expr) (v : V) (σ : L2.St) (H : Hp) (Q : L2.St → Hp → Prop) : Prop where
  run : ∀ pins s u, Inv X pins σ H s → RelV v u → wpAny (model X.prog X.w) X.A (assign tg X.env u) (fun _ s' => ∃ σ' H', Inv X pins σ' H' s' ∧ Q σ' H') X.xe s
theorem g_w : PG X tg (wG X tg) := ⟨fun pins s σ H v u Q I r h => h.run pins s u I r⟩
theorem g_of {t : TG} (h : PG X tg t) {v : V} {σ : L2.St} {H : Hp} {Q : L2.St → Hp → Prop} (q : t v σ H Q) : wG X tg v σ H Q := ⟨fun pins s u I r => h.run pins s σ H v u Q I r q⟩
/-- data stored in a target, the slots js alone touched -/
def XG (X : Cx) (tg : Expr) (js : List Nat) (env : AEnv) (d : PyData) (env' : AEnv) : Prop :=
  ∀ F0 H0 F σ H v, EnvAt X.K F0 H0 F σ H env → Dp X.K F v d → ∀ Q : L2.St → Hp → Prop, (∀ σ' F' H', Gro F H F' H' → EnvAt X.K F0 H0 F' σ' H' env' → (∀ j, j ∉ js → σ'[j]? = σ[j]?) ∧ σ'.length = σ.length → Q σ' H') → wG X tg v σ H Q
theorem xg_name {i : Nat} {x : Str} {js : List Nat} (hN : X.N.Nodup) (hi : X.N[i]? = some x := by rfl) (hx : Loc X.env.scope x := by first | exact .inl rfl | exact .inr rfl)
    (hf : X.fn x = true ∨ X.env.scope.names.lookup x = some .local := by first | exact .inl rfl | exact .inr rfl) (hj : i ∈ js := by simp) : XG X (.Name x p) js env d (env.set i (some (.d d))) := fun F0 H0 F σ H v E h Q q =>
  g_of (pg_name hN hi hx hf) (q _ F H E.rfl' (E.set (av := .d d) h rfl) ⟨fun j n => List.getElem?_set_ne (fun z => n (by rw [← z]; exact hj)), List.length_set⟩)
/-- several targets -/
def XGs (X : Cx) (tgs : List Expr) (js : List Nat) (env : AEnv) (ds : List PyData) (env' : AEnv) : Prop :=
  ∃ ts : TGs, PGs X tgs ts ∧ ∀ F0 H0 F σ H vs, EnvAt X.K F0 H0 F σ H env → DpAll X.K F vs ds → ∀ Q : L2.St → Hp → Prop, (∀ σ' F' H', Gro F H F' H' → EnvAt X.K F0 H0 F' σ' H' env' → (∀ j, j ∉ js → σ'[j]? = σ[j]?) ∧ σ'.length = σ.length → Q σ' H') → ts vs σ H Q
theorem xgs_nil {js : List Nat} : XGs X [] js env [] env := ⟨_, pgs_nil, fun F0 H0 F σ H vs E h Q q => by
  cases h
  exact ⟨rfl, q σ F H E.rfl' E ⟨fun _ _ => rfl, rfl⟩⟩⟩
theorem xgs_cons {js : List Nat} {env1 env2 : AEnv} {ds : List PyData} (h1 : XG X e js env d env1) (h2 : XGs X es js env1 ds env2) (hs : (assignEach (e :: es) X.env).map (·.2) = assign e X.env :: (assignEach es X.env).map (·.2) := by rfl) :
    XGs X (e :: es) js env (d :: ds) env2 := by
  obtain ⟨ts, hp, ht⟩ := h2
  refine ⟨_, pgs_cons g_w hp hs, fun F0 H0 F σ H vs E h Q q => ?_⟩
  cases h with
  | cons ha hb =>
    refine ⟨_, _, rfl, h1 F0 H0 F σ H _ E ha _ fun σ1 F1 H1 g1 E1 k1 => ?_⟩
    exact ht F0 H0 F1 σ1 H1 _ E1 (dpAll_mono g1.f hb) Q fun σ2 F2 H2 g2 E2 k2 => q σ2 F2 H2 (g1.trans g2) E2 ⟨fun j n => (k2.1 j n).trans (k1.1 j n), k2.2.trans k1.2⟩
theorem xg_tup {js : List Nat} {env2 : AEnv} {ds : List PyData} {k : Nat} (hc : X.calm = true) (h : XGs X es js env ds env2) (hn : (assignEach es X.env).length = ds.length := by rfl) (hst : (assignEach es X.env).findIdx? (·.1) = none := by rfl) :
    XG X (.Tuple es k p) js env (.tuple ds) env2 := fun F0 H0 F σ H v E hd Q q => by
  obtain ⟨ts, hp, ht⟩ := h
  obtain ⟨a, vs, rfl, h1, h2⟩ := dT hd
  refine g_of (pg_tup hc hp hn hst) ⟨a, vs, rfl, ?_, dpAll_len h2, ht F0 H0 F σ H vs E h2 Q q⟩
  rcases h1 with (z | ⟨o, z⟩) | z
  · exact .inl (.inl (E.fr _ _ z))
  · exact .inl (.inr ⟨o, E.fr _ _ z⟩)
  · exact .inr z
theorem xs_asg {js : List Nat} {env2 : AEnv} (h : XD X e env d) (hg : XG X tg js env d env2) (hn : A.nx env2) (hs : swapsWithSole [tg] e pos.line X.env = pure false := by rfl) (hw : swappedStores [tg] e X.env = pure none := by rfl)
    (h1 : (assignEach [tg] X.env).map (·.2) = [assign tg X.env] := by rfl) : XS X (.Assign [tg] e pos) env A := fun F0 H0 F σ H D E l =>
  s_of (ps_asg e_w g_w hs hw h1) (h _ _ F σ H E _ fun v F1 H1 g1 p1 => hg F0 H0 F1 σ H1 v (E.grow g1) p1 _ fun σ2 F2 H2 g2 E2 _ => l.nx _ F2 σ2 H2 E2 hn)

/-! ## walks -/
/-- an iterator gives n things, each data (where F is so) -/
def ItD (K : PySem.W.Frag) (F1 : Hp) (J : It) (n : Nat) (it : Nat → PyData) : Prop :=
  ∀ F H, Same F1 F → Same F H → (∀ i, i < n → J.go i H ∧ ∀ x H', J.yld i H x H' → ∃ F', Gro F H F' H' ∧ Dp K F' x (it i)) ∧ J.stop n H
def XI (X : Cx) (tg iter : Expr) (env : AEnv) (n : Nat) (it : Nat → PyData) : Prop :=
  ∀ F0 H0 F σ H, EnvAt X.K F0 H0 F σ H env → ∀ R : It → Hp → Prop, (∀ J F1 H1, Gro F H F1 H1 → ItD X.K F1 J n it → R J H1) → wI X tg iter σ H R
theorem seqT_mono {K : PySem.W.Frag} {H H' : Hp} {a : Addr} {xs : List V} (e : Same H H') (h : SqT K H a xs) : SqT K H' a xs := by
  rcases h with (z | ⟨o, z⟩) | z
  · exact .inl (.inl (e _ _ z))
  · exact .inl (.inr ⟨o, e _ _ z⟩)
  · exact .inr z
theorem seqL_inj {K : PySem.W.Frag} {H : Hp} {a : Addr} {xs ys : List V} (h : H a = some (.lst xs)) (h' : SqL K H a ys) (hk : K.lookup a = none) : xs = ys := by
  rcases h' with (z | ⟨o, z⟩) | ⟨o, its, n, z, _⟩
  · rw [h] at z; cases z; rfl
  · rw [h] at z; cases z
  · rw [hk] at z; cases z
theorem getD_of {α : Type} {xs : List α} {i : Nat} {x z : α} (h : xs[i]? = some x) : xs.getD i z = x := by
  rw [List.getD_eq_getElem?_getD, h]; rfl
theorem xi_list {ds : List PyData} (h : XD X iter env (.list ds)) : XI X tg iter env ds.length (fun i => ds.getD i .none) := fun F0 H0 F σ H E R q => by
  refine i_of (pi_list e_w) (h _ _ F σ H E _ fun v F1 H1 g1 p1 => ?_)
  obtain ⟨a, vs, rfl, h1, h2⟩ := dL p1
  refine ⟨a, rfl, ⟨vs, g1.fr.seq h1⟩, q _ F1 H1 g1 fun F2 H2 s1 s2 => ⟨fun i hi => ?_, ⟨vs, (s1.trans s2).seq h1, Nat.le_of_eq (dpAll_len h2)⟩⟩⟩
  have hi' : i < vs.length := by rw [dpAll_len h2]; exact hi
  refine ⟨⟨vs, vs[i], (s1.trans s2).seq h1, List.getElem?_eq_getElem hi'⟩, fun x H' ⟨e1, e2⟩ => ⟨F2, by rw [e1]; exact Gro.refl s2, ?_⟩⟩
  obtain ⟨d, hd, hp⟩ := dpAll_getV h2 (e2 vs ((s1.trans s2).seq h1))
  have e3 : ds.getD i .none = d := getD_of hd
  show Dp X.K F2 x (ds.getD i .none)
  rw [e3]
  exact dp_mono s1 hp
theorem xi_tup {ds : List PyData} (h : XD X iter env (.tuple ds)) : XI X tg iter env ds.length (fun i => ds.getD i .none) := fun F0 H0 F σ H E R q => by
  refine i_of (pi_tup e_w) (h _ _ F σ H E _ fun v F1 H1 g1 p1 => ?_)
  obtain ⟨a, vs, rfl, h1, h2⟩ := dT p1
  refine ⟨a, rfl, ⟨vs, seqT_mono g1.fr h1⟩, q _ F1 H1 g1 fun F2 H2 s1 s2 => ⟨fun i hi => ?_, ⟨vs, seqT_mono (s1.trans s2) h1, Nat.le_of_eq (dpAll_len h2)⟩⟩⟩
  have hi' : i < vs.length := by rw [dpAll_len h2]; exact hi
  refine ⟨⟨vs, vs[i], seqT_mono (s1.trans s2) h1, List.getElem?_eq_getElem hi'⟩, fun x H' ⟨e1, e2⟩ => ⟨F2, by rw [e1]; exact Gro.refl s2, ?_⟩⟩
  obtain ⟨d, hd, hp⟩ := dpAll_getV h2 (e2 vs (seqT_mono (s1.trans s2) h1))
  have e3 : ds.getD i .none = d := getD_of hd
  show Dp X.K F2 x (ds.getD i .none)
  rw [e3]
  exact dp_mono s1 hp
theorem itd_rng {K : PySem.W.Frag} {F1 : Hp} {lo : Int} {n : Nat} : ItD K F1 (Itr lo n) n (fun i => .int (lo + i)) := fun F H s1 s2 =>
  ⟨fun i hi => ⟨hi, fun x H' ⟨e1, e2⟩ => ⟨F, by rw [e1]; exact Gro.refl s2, by rw [e2]; exact .int _⟩⟩, Nat.le_refl n⟩
theorem xi_rng1 {j : Int} (h : XD X e env (.int j)) (hb : -(2 ^ 62) ≤ j ∧ j < 2 ^ 62) (hm : X.mg "range" = none) (hg : Gl X "range" := by rfl) (hs : starEach [e] X.env = [(false, eval e X.env)] := by rfl) :
    XI X tg (.Call (.Name "range" p) [e] [] pos) env j.toNat (fun i => .int (0 + (i : Int))) := fun F0 H0 F σ H E R q =>
  i_of (pi_range1 hg hm (pa_cons e_w pa_nil hs) hs) (h _ _ F σ H E _ fun v F1 H1 g1 p1 => ⟨j, by rw [dI p1], hb.1, hb.2, q _ F1 H1 g1 itd_rng⟩)
theorem xi_rng2 {i j : Int} (h : XD X e env (.int i)) (h' : XD X e2 env (.int j)) (hb : -(2 ^ 62) ≤ i ∧ i < 2 ^ 62 ∧ -(2 ^ 62) ≤ j ∧ j < 2 ^ 62) (hm : X.mg "range" = none) (hg : Gl X "range" := by rfl)
    (hs : starEach [e, e2] X.env = [(false, eval e X.env), (false, eval e2 X.env)] := by rfl) (hs2 : starEach [e2] X.env = [(false, eval e2 X.env)] := by rfl) :
    XI X tg (.Call (.Name "range" p) [e, e2] [] pos) env (j - i).toNat (fun k => .int (i + (k : Int))) := fun F0 H0 F σ H E R q =>
  i_of (pi_range2 hg hm (pa_cons e_w (pa_cons e_w pa_nil hs2) (by rw [hs, hs2])) hs hs2) (h _ _ F σ H E _ fun v F1 H1 g1 p1 => h' _ _ F1 σ H1 (E.grow g1) _ fun w F2 H2 g2 p2 =>
    ⟨i, j, by rw [dI p1, dI p2], hb, q _ F2 H2 (g1.trans g2) itd_rng⟩)
theorem xi_str {z : Str} (h : XD X iter env (.str z)) : XI X tg iter env z.cps.size (fun i => .str ⟨#[z.cps.getD i 0]⟩) := fun F0 H0 F σ H E R q => by
  refine i_of (pi_str e_w) (h _ _ F σ H E _ fun v F1 H1 g1 p1 => ⟨z, dS p1, q _ F1 H1 g1 fun F2 H2 s1 s2 => ⟨fun i hi => ⟨hi, fun x H' ⟨e1, c, e2, e3⟩ => ⟨F2, by rw [e1]; exact Gro.refl s2, ?_⟩⟩, Nat.le_refl _⟩⟩)
  have : z.cps.getD i 0 = c := by simp [Array.getD_eq_getD_getElem?, e2]
  show Dp X.K F2 x (.str ⟨#[z.cps.getD i 0]⟩)
  rw [e3, this]
  exact .str _

/-- the entry moved to here -/
def joinH (H0 F : Hp) : Hp := fun b => match F b with
  | some o => some o
  | none => H0 b
theorem join_of {H0 F : Hp} {b : Addr} {o : HO} (h : joinH H0 F b = some o) : F b = some o ∨ (F b = none ∧ H0 b = some o) := by
  unfold joinH at h
  cases q : F b with
  | none => rw [q] at h; exact .inr ⟨rfl, h⟩
  | some u => rw [q] at h; exact .inl h
theorem join_none {H0 F : Hp} {b : Addr} (h1 : F b = none) (h2 : H0 b = none) : joinH H0 F b = none := by
  unfold joinH; rw [h1]; exact h2
theorem join_none' {H0 F : Hp} {b : Addr} (h : joinH H0 F b = none) : F b = none ∧ H0 b = none := by
  unfold joinH at h
  cases q : F b with
  | none => rw [q] at h; exact ⟨rfl, h⟩
  | some u => rw [q] at h; cases h
theorem EnvAt.rebase {K : PySem.W.Frag} {F0 H0 F : Hp} {σ : L2.St} {H : Hp} {env : AEnv} (E : EnvAt K F0 H0 F σ H env) : EnvAt K F (joinH H0 F) F σ H env where
  gro := ⟨Same.refl F, fun b o h => (join_of h).elim (E.fr b o) fun ⟨_, z⟩ => E.gro.h b o z, E.fr, fun a h1 h2 => h2⟩
  len := E.len
  slot := E.slot
  mine := fun i av a q o s => by
    obtain ⟨z1, z2, z3⟩ := E.mine i av a q o s
    exact ⟨join_none z2 z1, z2, z3⟩
  apart := E.apart
theorem gro_unbase {F0 H0 F H F' H' : Hp} (g0 : Gro F0 H0 F H) (g : Gro F (joinH H0 F) F' H') : Gro F0 H0 F' H' := by
  refine ⟨g0.f.trans g.f, fun b o h => ?_, g.fr, fun a h1 h2 => ?_⟩
  · cases q : F b with
    | none => exact g.h b o (by unfold joinH; rw [q]; exact h)
    | some u =>
      have e1 := g0.h b o h
      have e2 := g0.fr b u q
      rw [e1] at e2
      cases e2
      exact g.h b o (by unfold joinH; rw [q])
  · have e1 := g0.sep a h1 h2
    exact g.sep a (fun z => h1 (join_none' z).2) e1
theorem EnvAt.unbase {K : PySem.W.Frag} {F0 H0 F F' : Hp} {σ σ' : L2.St} {H H' : Hp} {env env' : AEnv} (E : EnvAt K F0 H0 F σ H env) (E' : EnvAt K F (joinH H0 F) F' σ' H' env') : EnvAt K F0 H0 F' σ' H' env' ∧ Same F F' :=
  ⟨⟨gro_unbase E.gro E'.gro, E'.len, E'.slot, fun i av a q o s => by
    obtain ⟨z1, z2, z3⟩ := E'.mine i av a q o s
    exact ⟨(join_none' z1).2, z2, z3⟩, E'.apart⟩, E'.gro.f⟩
/-- a block, what was fixed ahead of it stays fixed -/
theorem XB.run (h : XB X ss env A) {F0 H0 F H : Hp} {σ : L2.St} {D : Ends} (E : EnvAt X.K F0 H0 F σ H env)
    (nx : ∀ env' F' σ' H', EnvAt X.K F0 H0 F' σ' H' env' → Same F F' → A.nx env' → D.nx σ' H') (rt : ∀ v d F' H', Gro F0 H0 F' H' → Dp X.K F' v d → A.rt d → D.rt v H')
    (bk : ∀ env' F' σ' H', EnvAt X.K F0 H0 F' σ' H' env' → Same F F' → A.bk env' → D.bk σ' H') (ct : ∀ env' F' σ' H', EnvAt X.K F0 H0 F' σ' H' env' → Same F F' → A.ct env' → D.ct σ' H') : wB X ss D σ H :=
  h F (joinH H0 F) F σ H D E.rebase ⟨fun env' F' σ' H' E' q => let ⟨a, b⟩ := E.unbase E'; nx env' F' σ' H' a b q, fun v d F' H' g p q => rt v d F' H' (gro_unbase E.gro g) p q,
    fun env' F' σ' H' E' q => let ⟨a, b⟩ := E.unbase E'; bk env' F' σ' H' a b q, fun env' F' σ' H' E' q => let ⟨a, b⟩ := E.unbase E'; ct env' F' σ' H' a b q⟩

/-- for target in iter: body -/
theorem xs_for {n : Nat} {it : Nat → PyData} {js : List Nat} (hi : XI X tg iter env n it) (Iv : Nat → AEnv → Prop) (h0 : Iv 0 env)
    (hs : ∀ i env', i < n → Iv i env' → ∃ env2, XG X tg js env' (it i) env2 ∧ XB X body env2 { nx := Iv (i + 1), ct := Iv (i + 1), bk := A.nx, rt := A.rt }) (hd : ∀ env', Iv n env' → A.nx env')
    (hp : PassesOwn (model X.prog X.w) X.A X.env X.xe := by exact PassesOwn.never) (hc : X.calm = true := by rfl) (hfs : ∀ x, foldedSetIterable iter X.env x = pure x := by intro _; rfl) : XS X (.For tg iter body [] pos) env A := fun F0 H0 F σ H D E l => by
  refine s_of (ps_for hp hc i_w g_w b_w hfs) (hi _ _ F σ H E _ fun J F1 H1 g1 hJ => ?_)
  refine ⟨fun i m σ' H' => i + m = n ∧ ∃ F' env', EnvAt X.K F0 H0 F' σ' H' env' ∧ Same F1 F' ∧ Iv i env', ⟨n, Nat.zero_add n, F1, env, E.grow g1, Same.refl F1, h0⟩, fun i m σ' H' hW => ?_⟩
  obtain ⟨em, F', env', E', s', q'⟩ := hW
  by_cases hin : i < n
  · obtain ⟨hgo, hy⟩ := (hJ F' H' s' E'.fr).1 i hin
    refine .inr ⟨hgo, fun σ2 H2 => ∃ F2 env2, EnvAt X.K F0 H0 F2 σ2 H2 env2 ∧ Same F1 F2 ∧ Iv (i + 1) env2, fun σ2 H2 ⟨F2, env2, E2, s2, q2⟩ => ⟨m - 1, by omega, by omega, F2, env2, E2, s2, q2⟩, fun x H2 hx => ?_⟩
    obtain ⟨F2, g2, p2⟩ := hy x H2 hx
    obtain ⟨env2, hg, hb⟩ := hs i env' hin q'
    refine hg F0 H0 F2 σ' H2 x (E'.grow g2) p2 _ fun σ3 F3 H3 g3 E3 _ => ?_
    have s3 : Same F1 F3 := s'.trans (g2.f.trans g3.f)
    exact hb.run E3 (fun env4 F4 σ4 H4 E4 s4 q4 => ⟨F4, env4, E4, s3.trans s4, q4⟩) (fun v d F4 H4 g4 p4 q4 => l.rt v d F4 H4 g4 p4 q4)
      (fun env4 F4 σ4 H4 E4 s4 q4 => l.nx env4 F4 σ4 H4 E4 q4) (fun env4 F4 σ4 H4 E4 s4 q4 => ⟨F4, env4, E4, s3.trans s4, q4⟩)
  · have e : i = n := by omega
    subst e
    exact .inl ⟨(hJ F' H' s' E'.fr).2, l.nx env' F' σ' H' E' (hd env' q')⟩
/-- while test: body; Iv by a measure -/
theorem xs_while {Iv : Nat → AEnv → Prop} (m0 : Nat) (h0 : Iv m0 env)
    (hs : ∀ m env', Iv m env' → ∃ b, XT X e env' b ∧ (b = true → XB X body env' { nx := fun env2 => ∃ m', m' < m ∧ Iv m' env2, ct := fun env2 => ∃ m', m' < m ∧ Iv m' env2, bk := A.nx, rt := A.rt }) ∧ (b = false → A.nx env'))
    (hp : PassesOwn (model X.prog X.w) X.A X.env X.xe := by exact PassesOwn.never) : XS X (.While e body [] pos) env A := fun F0 H0 F σ H D E l => by
  refine s_of (ps_while hp t_w b_w) ⟨fun m σ' H' => ∃ F' env', EnvAt X.K F0 H0 F' σ' H' env' ∧ Iv m env', ⟨m0, F, env, E, h0⟩, fun m σ' H' hW => ?_⟩
  obtain ⟨F', env', E', q'⟩ := hW
  obtain ⟨b, hb, h1, h2⟩ := hs m env' q'
  refine hb F0 H0 F' σ' H' E' _ fun F1 H1 g1 => ?_
  have E1 := E'.grow g1
  cases b with
  | true =>
    refine iteT ⟨fun σ2 H2 => ∃ m', m' < m ∧ ∃ F2 env2, EnvAt X.K F0 H0 F2 σ2 H2 env2 ∧ Iv m' env2, fun σ2 H2 q => q, ?_⟩
    exact h1 rfl F0 H0 F1 σ' H1 _ E1 ⟨fun env2 F2 σ2 H2 E2 ⟨m', hm, q⟩ => ⟨m', hm, F2, env2, E2, q⟩, l.rt, l.nx, fun env2 F2 σ2 H2 E2 ⟨m', hm, q⟩ => ⟨m', hm, F2, env2, E2, q⟩⟩
  | false => exact iteF (l.nx env' F1 σ' H1 E1 (h2 rfl))
end
end FR

namespace FR
open PySem PySem.Spec PyProof.Rows L2

/-! ## comprehensions -/
def wipeE (env : AEnv) : List Nat → AEnv
  | [] => env
  | v :: vs => (wipeE env vs).set v none
theorem wipeE_length (env : AEnv) : ∀ vs : List Nat, (wipeE env vs).length = env.length
  | [] => rfl
  | v :: vs => by unfold wipeE; rw [List.length_set, wipeE_length env vs]
theorem wipeE_some {env : AEnv} {i : Nat} {x : AV} : ∀ {vs : List Nat}, (wipeE env vs)[i]? = some (some x) → env[i]? = some (some x) ∧ i ∉ vs
  | [], h => ⟨h, by simp⟩
  | v :: vs, h => by
    unfold wipeE at h
    rcases set_get h with ⟨_, z⟩ | ⟨n, z⟩
    · cases z
    · obtain ⟨h1, h2⟩ := wipeE_some z
      exact ⟨h1, by simp only [List.mem_cons, not_or]; exact ⟨fun e => n e.symm, h2⟩⟩
theorem wipe_in {σ : L2.St} {i : Nat} : ∀ {vs : List Nat}, i ∈ vs → i < σ.length → (wipe σ vs)[i]? = some none
  | [], h, _ => by simp at h
  | v :: vs, h, hl => by
    unfold wipe
    by_cases e : v = i
    · subst e; exact List.getElem?_set_self (by rw [wipe_length]; exact hl)
    · rw [List.getElem?_set_ne e]
      exact wipe_in ((List.mem_cons.mp h).resolve_left fun z => e z.symm) hl
theorem wipe_again {σ σ2 : L2.St} {vs : List Nat} (h : ∀ j, j ∉ vs → σ2[j]? = (wipe σ vs)[j]?) (hl : σ2.length = (wipe σ vs).length) : wipe σ2 vs = wipe σ vs := by
  apply List.ext_getElem?
  intro j
  by_cases hj : j ∈ vs
  · by_cases hs : j < σ.length
    · rw [wipe_in hj hs, wipe_in hj (by rw [hl, wipe_length]; exact hs)]
    · rw [List.getElem?_eq_none (by rw [wipe_length, hl, wipe_length]; omega), List.getElem?_eq_none (by rw [wipe_length]; omega)]
  · rw [wipe_out hj, h j hj]
theorem EnvAt.wipe {K : PySem.W.Frag} {F0 H0 F : Hp} {σ : L2.St} {H : Hp} {env : AEnv} (E : EnvAt K F0 H0 F σ H env) (vs : List Nat) : EnvAt K F0 H0 F (wipe σ vs) H (wipeE env vs) where
  gro := E.gro
  len := by rw [wipe_length, wipeE_length]; exact E.len
  slot := fun i av q => by
    obtain ⟨a, b⟩ := wipeE_some q
    rw [wipe_out b]
    exact E.slot i av a
  mine := fun i av c q o s => by
    obtain ⟨a, b⟩ := wipeE_some q
    rw [wipe_out b] at s
    exact E.mine i av c a o s
  apart := fun i j av aw c q1 q2 o1 o2 s1 s2 => by
    obtain ⟨a1, b1⟩ := wipeE_some q1
    obtain ⟨a2, b2⟩ := wipeE_some q2
    rw [wipe_out b1] at s1
    rw [wipe_out b2] at s2
    exact E.apart i j av aw c a1 a2 o1 o2 s1 s2
/-- a block's context -/
abbrev blkX (X : Cx) (scope : Scope) (s : Shared) (Hb : Hp) (C : Addr) (cl : List (Str × Addr)) (fp : List Addr) : Cx := X.blk s Hb scope (compEnvC scope cl C X.env) fp
def uG (X : Cx) (scope : Scope) (tg : Expr) : TG := fun v σ H Q => ∀ s Hb C cl fp, wG (blkX X scope s Hb C cl fp) tg v σ H Q
def uT (X : Cx) (scope : Scope) (e : Expr) : TT := fun σ H Q => ∀ s Hb C cl fp, wT (blkX X scope s Hb C cl fp) e σ H Q
def uE (X : Cx) (scope : Scope) (e : Expr) : TE := fun σ H Q => ∀ s Hb C cl fp, wE (blkX X scope s Hb C cl fp) e σ H Q
def minusH (H : Hp) (D : Addr) : Hp := fun b => if b = D then none else H b
theorem minus_upd {H : Hp} {D : Addr} {o : HO} (h : H D = some o) : H = upd (minusH H D) D o := by
  funext b
  unfold upd minusH
  by_cases e : b = D
  · subst e; simp [h]
  · simp [e]
theorem minus_at {H : Hp} {D : Addr} : minusH H D D = none := by unfold minusH; simp
theorem minus_ne {H : Hp} {D b : Addr} (h : b ≠ D) : minusH H D b = H b := by unfold minusH; simp [h]
section
variable {X : Cx} {e e2 e3 tg iter elt : Expr} {es ifs : List Expr} {scope : Scope} {own : List (Str × Nat)} {st : Stmt} {ss body : List Stmt} {env : AEnv} {d d1 d2 : PyData} {A : AE} {pos p p2 : Pos}
theorem lc_read {tt : TT} {n : Nat} {it : Nat → PyData} {b : Nat → Bool} {f : Nat → PyData} {F0 H0 F : Hp} {σ : L2.St} {H : Hp} (hi : XI X tg iter env n it) (E : EnvAt X.K F0 H0 F σ H env)
    (hb : ∀ i, i < n → ∃ env2, (∀ s Hb C cl fp, XG (blkX X scope s Hb C cl fp) tg (own.map (·.2)) (wipeE env (own.map (·.2))) (it i) env2) ∧
      (∀ F σ H, EnvAt X.K F0 H0 F σ H env2 → ∀ Q : Bool → Hp → Prop, (∀ F' H', Gro F H F' H' → Q (b i) H') → tt σ H Q) ∧ (b i = true → ∀ s Hb C cl fp, XD (blkX X scope s Hb C cl fp) elt env2 (f i)))
    (hz : n ≤ sizeLine) {Q : VK} (q : ∀ p vs F' H', Gro F H F' H' → H p = none → F' p = none → H' p = some (.lst vs) → DpAll X.K F' vs (((List.range n).filter b).map f) → Q (.ref p) H') :
    tLc (wI X tg iter) (uG X scope tg) tt (uE X scope elt) (own.map (·.2)) σ H Q := by
  refine hi _ _ F σ H E _ fun J F1 H1 g1 hJ => ?_
  intro D hD
  refine ⟨fun i m H' => i + m = n ∧ ∃ F' G acc, Gro F H F' G ∧ Same F1 F' ∧ G D = none ∧ H' = upd G D (.lst acc) ∧ DpAll X.K F' acc (((List.range i).filter b).map f) ∧ acc.length ≤ i,
    ⟨n, Nat.zero_add n, F1, H1, [], g1, Same.refl F1, hD, rfl, .nil, Nat.le_refl 0⟩, fun i m H' hW => ?_⟩
  obtain ⟨em, F', G, acc, g', s', hG, rfl, hacc, hal⟩ := hW
  have frU : Same F' (upd G D (.lst acc)) := (Gro.own (o := .lst acc) g'.fr hG).fr
  have hHD : H D = none := g1.h.free hD
  have gU : Gro F H F' (upd G D (.lst acc)) := g'.trans (Gro.own g'.fr hG)
  by_cases hin : i < n
  · obtain ⟨hgo, hy⟩ := (hJ F' _ s' frU).1 i hin
    refine .inr ⟨hgo, fun H2 => ∃ F2 G2 acc2, Gro F H F2 G2 ∧ Same F1 F2 ∧ G2 D = none ∧ H2 = upd G2 D (.lst acc2) ∧ DpAll X.K F2 acc2 (((List.range (i + 1)).filter b).map f) ∧ acc2.length ≤ i + 1,
      fun H2 h2 => ⟨m - 1, by omega, by omega, h2⟩, fun x H2 hx => ?_⟩
    obtain ⟨F2, g2, p2⟩ := hy x H2 hx
    obtain ⟨env2, hg, ht, hel⟩ := hb i hin
    have E2 : EnvAt X.K F0 H0 F2 (wipe σ (own.map (·.2))) H2 (wipeE env (own.map (·.2))) := (E.grow (gU.trans g2)).wipe _
    have e2D : H2 D = some (.lst acc) := g2.h _ _ upd_same
    -- from a growth to the next state of the loop
    have step : ∀ F3 H3, Gro F2 H2 F3 H3 → ∃ G3, Gro F H F3 G3 ∧ G3 D = none ∧ H3 = upd G3 D (.lst acc) ∧ Same F1 F3 := fun F3 H3 g3 => by
      have gA := (gU.trans g2).trans g3
      have F3D : F3 D = none := (g2.trans g3).sep D (by rw [upd_same]; exact fun z => nomatch z) (g'.fr.free hG)
      refine ⟨minusH H3 D, ⟨gA.f, fun c o h => ?_, fun c o h => ?_, gA.sep⟩, minus_at, minus_upd (g3.h _ _ e2D), s'.trans (g2.f.trans g3.f)⟩
      · rw [minus_ne (fun z => by rw [z, hHD] at h; cases h)]; exact gA.h c o h
      · rw [minus_ne (fun z => by rw [z, F3D] at h; cases h)]; exact gA.fr c o h
    intro s Hb C cl fp
    refine hg s Hb C cl fp F0 H0 F2 _ H2 x E2 p2 _ fun σ3 F3 H3 g3 E3 k3 => ?_
    refine ⟨wipe_again k3.1 k3.2, ht F3 σ3 H3 E3 _ fun F4 H4 g4 => ?_⟩
    have rng : ((List.range (i + 1)).filter b).map f = ((List.range i).filter b).map f ++ (if b i = true then [f i] else []) := by
      rw [List.range_succ, List.filter_append, List.map_append]
      congr 1
      cases hbb : b i <;> simp [List.filter, hbb]
    cases hbi : b i with
    | true =>
      refine iteT fun s Hb C cl fp => ?_
      refine hel hbi s Hb C cl fp F0 H0 F4 σ3 H4 (E3.grow g4) _ fun y F5 H5 g5 p5 => ?_
      obtain ⟨G5, a1, a2, a3, a4⟩ := step F5 H5 ((g3.trans g4).trans g5)
      refine ⟨acc, by rw [a3]; exact upd_same, Nat.lt_of_le_of_lt hal (Nat.lt_of_lt_of_le hin hz), F5, G5, acc ++ [y], a1, a4, a2, by rw [a3, upd_upd], ?_, by rw [List.length_append, List.length_singleton]; omega⟩
      rw [rng, hbi, if_pos rfl]
      exact dpAll_append (dpAll_mono (g2.f.trans ((g3.f.trans g4.f).trans g5.f)) hacc) (.cons p5 .nil)
    | false =>
      obtain ⟨G5, a1, a2, a3, a4⟩ := step F4 H4 (g3.trans g4)
      refine iteF ⟨F4, G5, acc, a1, a4, a2, a3, ?_, Nat.le_succ_of_le hal⟩
      rw [rng, hbi, if_neg Bool.false_ne_true, List.append_nil]
      exact dpAll_mono (g2.f.trans (g3.f.trans g4.f)) hacc
  · have e : i = n := by omega
    subst e
    exact .inl ⟨(hJ F' _ s' frU).2, q D acc F' _ gU hHD (g'.fr.free hG) upd_same hacc⟩

theorem range_all {α : Type} (n : Nat) (f : Nat → α) : ((List.range n).filter fun _ => true).map f = (List.range n).map f := by rw [List.filter_eq_self.mpr fun _ _ => rfl]
section
variable {n : Nat} {it : Nat → PyData} {f : Nat → PyData} {b : Nat → Bool}
/-- [elt for tg in iter] -/
theorem xl_comp (hi : XI X tg iter env n it) (hN : X.N.Nodup) (own : List (Str × Nat)) (ok : BlkOk X.N X.env.scope scope own)
    (hb : ∀ i, i < n → ∃ env2, (∀ s Hb C cl fp, XG (blkX X scope s Hb C cl fp) tg (own.map (·.2)) (wipeE env (own.map (·.2))) (it i) env2) ∧ (∀ s Hb C cl fp, XD (blkX X scope s Hb C cl fp) elt env2 (f i)))
    (hz : n ≤ sizeLine) (hc : X.calm = true := by rfl) (hfs : ∀ x, foldedSetIterable iter X.env x = pure x := by intro _; rfl) :
    XL X (.ListComp elt [⟨tg, iter, [], 0⟩] scope pos) env ((List.range n).map f) := fun F0 H0 F σ H E Q q => by
  refine e_of (pe_lc (te := uE X scope elt) (g := uG X scope tg) (tt := tYes) hc hN i_w ok (fun s Hb C cl fp => ⟨fun pins s' σ' H' v u Q' I r h => (h s Hb C cl fp).run pins s' u I r⟩) (fun _ _ _ _ _ => pts_nil) (fun s Hb C cl fp => ⟨fun pins s' σ' H' Q' I h => (h s Hb C cl fp).run pins s' I⟩) hfs) ?_
  refine lc_read (b := fun _ => true) (f := f) hi E (fun i hin => ?_) hz (by rw [range_all]; exact q)
  obtain ⟨env2, h1, h2⟩ := hb i hin
  exact ⟨env2, h1, fun F σ H E Q q => q F H E.rfl', fun _ => h2⟩
/-- [elt for tg in iter if c] -/
theorem xl_compIf {c : Expr} (hi : XI X tg iter env n it) (hN : X.N.Nodup) (own : List (Str × Nat)) (ok : BlkOk X.N X.env.scope scope own)
    (hb : ∀ i, i < n → ∃ env2, (∀ s Hb C cl fp, XG (blkX X scope s Hb C cl fp) tg (own.map (·.2)) (wipeE env (own.map (·.2))) (it i) env2) ∧ (∀ s Hb C cl fp, XT (blkX X scope s Hb C cl fp) c env2 (b i)) ∧ (b i = true → ∀ s Hb C cl fp, XD (blkX X scope s Hb C cl fp) elt env2 (f i)))
    (hz : n ≤ sizeLine) (hc : X.calm = true := by rfl) (hfs : ∀ x, foldedSetIterable iter X.env x = pure x := by intro _; rfl) :
    XL X (.ListComp elt [⟨tg, iter, [c], 0⟩] scope pos) env (((List.range n).filter b).map f) := fun F0 H0 F σ H E Q q => by
  refine e_of (pe_lc (te := uE X scope elt) (g := uG X scope tg) (tt := uT X scope c) hc hN i_w ok (fun s Hb C cl fp => ⟨fun pins s' σ' H' v u Q' I r h => (h s Hb C cl fp).run pins s' u I r⟩) (fun s Hb C cl fp => pts_one ⟨fun pins s' σ' H' Q' I h => (h s Hb C cl fp).run pins s' I⟩) (fun s Hb C cl fp => ⟨fun pins s' σ' H' Q' I h => (h s Hb C cl fp).run pins s' I⟩) hfs) ?_
  refine lc_read (b := b) (f := f) hi E (fun i hin => ?_) hz q
  obtain ⟨env2, h1, h2, h3⟩ := hb i hin
  exact ⟨env2, h1, fun F σ H E Q q s Hb C cl fp => h2 s Hb C cl fp F0 H0 F σ H E Q q, h3⟩
/-- name = [elt for tg in iter] (own), = [elt for tg in iter if c] (own) -/
theorem xs_setComp {k : Nat} {y : Str} (hi : XI X tg iter env n it) (hN : X.N.Nodup) (own : List (Str × Nat)) (ok : BlkOk X.N X.env.scope scope own)
    (hb : ∀ i, i < n → ∃ env2, (∀ s Hb C cl fp, XG (blkX X scope s Hb C cl fp) tg (own.map (·.2)) (wipeE env (own.map (·.2))) (it i) env2) ∧ (∀ s Hb C cl fp, XD (blkX X scope s Hb C cl fp) elt env2 (f i)))
    (hz : n ≤ sizeLine) (hn : A.nx (env.set k (some (.l ((List.range n).map f))))) (hy : X.N[k]? = some y := by rfl) (hyl : X.env.scope.names.lookup y = some .local := by rfl)
    (hsw : swapsWith (.ListComp elt [⟨tg, iter, [], 0⟩] scope pos) (some (.Name y p2)) p.line X.env = pure true := by exact sw_true rfl rfl rfl (by decide +kernel)) (hc : X.calm = true := by rfl) (hfs : ∀ x, foldedSetIterable iter X.env x = pure x := by intro _; rfl) :
    XS X (.Assign [.Name y p2] (.ListComp elt [⟨tg, iter, [], 0⟩] scope pos) p) env A := fun F0 H0 F σ H D E l => by
  refine s_of (ps_setLc (te := uE X scope elt) (g := uG X scope tg) (tt := tYes) hc hN hy hyl hsw i_w ok (fun s Hb C cl fp => ⟨fun pins s' σ' H' v u Q' I r h => (h s Hb C cl fp).run pins s' u I r⟩) (fun _ _ _ _ _ => pts_nil) (fun s Hb C cl fp => ⟨fun pins s' σ' H' Q' I h => (h s Hb C cl fp).run pins s' I⟩) hfs) ?_
  show tLc _ _ _ _ _ σ H (fun x H1 => gName k x σ H1 D.nx)
  refine lc_read (b := fun _ => true) (f := f) hi E (fun i hin => ?_) hz fun a vs F1 H1 g1 n1 n2 e1 p1 => ?_
  · obtain ⟨env2, h1, h2⟩ := hb i hin
    exact ⟨env2, h1, fun F σ H E Q q => q F H E.rfl', fun _ => h2⟩
  · rw [range_all] at p1
    exact l.nx _ F1 _ H1 ((E.grow g1).setOwn (av := .l _) ⟨a, vs, rfl, e1, p1⟩ (E.gro.h.free n1) n2 (by rw [e1]; exact fun z => nomatch z) fun j aw _ q o => E.notNew n1 j aw q o) hn
theorem xs_setCompIf {k : Nat} {y : Str} {c : Expr} (hi : XI X tg iter env n it) (hN : X.N.Nodup) (own : List (Str × Nat)) (ok : BlkOk X.N X.env.scope scope own)
    (hb : ∀ i, i < n → ∃ env2, (∀ s Hb C cl fp, XG (blkX X scope s Hb C cl fp) tg (own.map (·.2)) (wipeE env (own.map (·.2))) (it i) env2) ∧ (∀ s Hb C cl fp, XT (blkX X scope s Hb C cl fp) c env2 (b i)) ∧ (b i = true → ∀ s Hb C cl fp, XD (blkX X scope s Hb C cl fp) elt env2 (f i)))
    (hz : n ≤ sizeLine) (hn : A.nx (env.set k (some (.l (((List.range n).filter b).map f))))) (hy : X.N[k]? = some y := by rfl) (hyl : X.env.scope.names.lookup y = some .local := by rfl)
    (hsw : swapsWith (.ListComp elt [⟨tg, iter, [c], 0⟩] scope pos) (some (.Name y p2)) p.line X.env = pure true := by exact sw_true rfl rfl rfl (by decide +kernel)) (hc : X.calm = true := by rfl) (hfs : ∀ x, foldedSetIterable iter X.env x = pure x := by intro _; rfl) :
    XS X (.Assign [.Name y p2] (.ListComp elt [⟨tg, iter, [c], 0⟩] scope pos) p) env A := fun F0 H0 F σ H D E l => by
  refine s_of (ps_setLc (te := uE X scope elt) (g := uG X scope tg) (tt := uT X scope c) hc hN hy hyl hsw i_w ok (fun s Hb C cl fp => ⟨fun pins s' σ' H' v u Q' I r h => (h s Hb C cl fp).run pins s' u I r⟩) (fun s Hb C cl fp => pts_one ⟨fun pins s' σ' H' Q' I h => (h s Hb C cl fp).run pins s' I⟩) (fun s Hb C cl fp => ⟨fun pins s' σ' H' Q' I h => (h s Hb C cl fp).run pins s' I⟩) hfs) ?_
  show tLc _ _ _ _ _ σ H (fun x H1 => gName k x σ H1 D.nx)
  refine lc_read (b := b) (f := f) hi E (fun i hin => ?_) hz fun a vs F1 H1 g1 n1 n2 e1 p1 => ?_
  · obtain ⟨env2, h1, h2, h3⟩ := hb i hin
    exact ⟨env2, h1, fun F σ H E Q q s Hb C cl fp => h2 s Hb C cl fp F0 H0 F σ H E Q q, h3⟩
  · exact l.nx _ F1 _ H1 ((E.grow g1).setOwn (av := .l _) ⟨a, vs, rfl, e1, p1⟩ (E.gro.h.free n1) n2 (by rw [e1]; exact fun z => nomatch z) fun j aw _ q o => E.notNew n1 j aw q o) hn
end

/-! ## calls of defs -/
/-- a def's contract: its arguments by an index, what a caller must show, the answers -/
structure Cn where
  ι : Type
  n : Nat
  args : ι → List PyData
  ok : ι → Prop
  post : ι → PyData → Prop
  hl : ∀ i, (args i).length = n
def SpD (K : PySem.W.Frag) (C : Cn) : Sp := fun vs H Q _ => ∃ F i, Same F H ∧ DpAll K F vs (C.args i) ∧ C.ok i ∧ ∀ r v F' H', C.post i r → Gro F H F' H' → Dp K F' v r → Q v H'
structure DefOk (P : Program) (w : World) (K : PySem.W.Frag) (mg : Str → Option Value) (base : Heap) (x : Str) (k : Nat) (C : Cn) : Prop where
  ex : ∃ f fd ps, FnOk P w K mg base CX0 k f fd ps (SpD K C) ∧ mg x = some (.ref f) ∧ PySem.W.keepIn K (.ref f) = true ∧ Binds K fd ps []
theorem DefOk.mono {P : Program} {w : World} {K : PySem.W.Frag} {mg : Str → Option Value} {base : Heap} {x : Str} {j k : Nat} {C : Cn} (D : DefOk P w K mg base x j C) (h : j ≤ k) : DefOk P w K mg base x k C :=
  let ⟨f, fd, ps, a, b⟩ := D.ex; ⟨f, fd, ps, a.mono h, b⟩
section
variable {x : Str} {k : Nat} {C : Cn}
theorem xd_call (D : DefOk X.prog X.w X.K X.mg X.base x k C) (hr : Room k X.A) (i : C.ι) (ha : XA X (e :: es) env (C.args i)) (hp : C.ok i) (hd : ∀ r, C.post i r → r = d) (hg : Gl X x := by rfl) (hdb : (x == ("__debug__" : Str)) = false := by decide)
    (he : starEach (e :: es) X.env = (false, eval e X.env) :: starEach es X.env := by rfl) (hpl : (backTo pos (starEach es X.env)).any (·.1) = false := by rfl) (hx : Passes CX0 X E0 := by exact pass0) : XD X (.Call (.Name x p) (e :: es) [] pos) env d := fun F0 H0 F σ H E Q q => by
  obtain ⟨f, fd, ps, FO, hm, kp, bd⟩ := D.ex
  refine e_of (pe_call FO hr hg hm kp bd .nil hx a_w hdb he hpl) (ha _ _ F σ H E _ fun vs F1 H1 g1 p1 => ?_)
  rw [List.append_nil]
  exact ⟨F1, i, g1.fr, p1, hp, fun r v F2 H2 hr g2 p2 => q v F2 H2 (g1.trans g2) (hd r hr ▸ p2)⟩
/-- a def's call with any of several answers, then the rest -/
theorem xs_setAny {i : Nat} {y : Str} (D : DefOk X.prog X.w X.K X.mg X.base x k C) (hr : Room k X.A) (c : C.ι) (ha : XA X (e :: es) env (C.args c)) (hp : C.ok c) (hn : ∀ r, C.post c r → A.nx (env.set i (some (.d r)))) (hN : X.N.Nodup) (hi : X.N[i]? = some y := by rfl) (hyy : L2.Loc X.env.scope y := by first | exact .inl rfl | exact .inr rfl)
    (hs : swapsWith (.Call (.Name x p) (e :: es) [] pos) (some (.Name y p2)) p.line X.env = pure false := by rfl) (hf : X.fn y = true ∨ X.env.scope.names.lookup y = some .local := by first | exact .inl rfl | exact .inr rfl) (hg : Gl X x := by rfl) (hdb : (x == ("__debug__" : Str)) = false := by decide)
    (he : starEach (e :: es) X.env = (false, eval e X.env) :: starEach es X.env := by rfl) (hpl : (backTo pos (starEach es X.env)).any (·.1) = false := by rfl) (hx : Passes CX0 X E0 := by exact pass0) : XS X (.Assign [.Name y p2] (.Call (.Name x p) (e :: es) [] pos) p) env A := fun F0 H0 F σ H D' E l => by
  obtain ⟨f, fd, ps, FO, hm, kp, bd⟩ := D.ex
  refine s_of (ps_set hN hi hyy (pe_call FO hr hg hm kp bd .nil hx a_w hdb he hpl) hs hf) (ha _ _ F σ H E _ fun vs F1 H1 g1 p1 => ?_)
  rw [List.append_nil]
  exact ⟨F1, c, g1.fr, p1, hp, fun r v F2 H2 hr g2 p2 => l.nx _ F2 _ H2 ((E.grow (g1.trans g2)).set (av := .d r) p2 rfl) (hn r hr)⟩
end
/-- a def by its body -/
theorem fnOk_data {P : Program} {w : World} {K : PySem.W.Frag} {mg : Str → Option Value} {base : Heap} {x qual : Str} {st : Stmt} {f : Addr} {fd : FuncData} {N ps : List Str} {k : Nat} {C : Cn} (F : Fun K x qual st f fd) (S : FnScope N ps (defScope st))
    (hl : C.n = ps.length)
    (hb : ∀ (cdv : Value) (A : Around) (outer : List Env) (s : Shared) (H : Hp) (E : XK), Room k (A.deeper (envOfC qual (defScope st) s.heap.objs.size f cdv)) → ∀ i, C.ok i →
      XB (cxOf CX0 P w K mg base N qual (defScope st) f cdv A outer s H E).nox (defBody st) ((C.args i).map (fun d => some (.d d)) ++ List.replicate (N.length - (C.args i).length) none) { nx := fun _ => C.post i .none, rt := C.post i }) :
    FnOk P w K mg base CX0 (k + 1) f fd ps (SpD K C) := by
  have hps : ps.length ≤ N.length := by have := congrArg List.length S.pre; rw [List.length_take] at this; omega
  refine F.ok S (fun vs H Q E h => ?_) fun cdv A outer s H vs Q E hr h => ?_
  · obtain ⟨F', i, _, h2, h3, _⟩ := h
    rw [dpAll_len h2, C.hl]; exact hl
  · obtain ⟨F', i, h1, h2, h3, q⟩ := h
    refine ⟨_, b_w, ?_⟩
    refine hb cdv A outer s H E hr i h3 F' H F' (L2.start N vs) H _ (env_start h1 h2 (by rw [C.hl, hl]; exact hps)) ⟨fun env' F2 σ2 H2 E2 z => q _ _ F2 H2 z E2.gro .non, fun v d F2 H2 g p z => q d v F2 H2 z g p, fun _ _ _ _ _ z => z.elim, fun _ _ _ _ _ z => z.elim⟩
theorem defOk_mk {P : Program} {w : World} {K : PySem.W.Frag} {mg : Str → Option Value} {base : Heap} {x qual : Str} {st : Stmt} {f : Addr} {fd : FuncData} {N ps : List Str} {k : Nat} {C : Cn} (F : Fun K x qual st f fd) (B : Binds K fd ps []) (g : mg x = some (.ref f)) (S : FnScope N ps (defScope st))
    (hb : ∀ (cdv : Value) (A : Around) (outer : List Env) (s : Shared) (H : Hp) (E : XK), Room k (A.deeper (envOfC qual (defScope st) s.heap.objs.size f cdv)) → (cxOf CX0 P w K mg base N qual (defScope st) f cdv A outer s H E).nox.N = N → N.Nodup → ∀ i, C.ok i →
      XB (cxOf CX0 P w K mg base N qual (defScope st) f cdv A outer s H E).nox (defBody st) ((C.args i).map (fun d => some (.d d)) ++ List.replicate (N.length - (C.args i).length) none) { nx := fun _ => C.post i .none, rt := C.post i })
    (hl : C.n = ps.length := by rfl) : DefOk P w K mg base x (k + 1) C := ⟨f, fd, ps, fnOk_data F S hl (fun cdv A outer s H E hr => hb cdv A outer s H E hr rfl S.nd), g, F.kp, B⟩
theorem lawOk_mk {P : Program} {w : World} {K : PySem.W.Frag} {mg : Str → Option Value} {base : Heap} {x qual : Str} {st : Stmt} {f : Addr} {fd : FuncData} {N ps : List Str} {k : Nat} {C : Cn} (F : Fun K x qual st f fd) (S : FnScope N ps (defScope st))
    (hb : ∀ (cdv : Value) (A : Around) (outer : List Env) (s : Shared) (H : Hp) (E : XK), Room k (A.deeper (envOfC qual (defScope st) s.heap.objs.size f cdv)) → (cxOf CX0 P w K mg base N qual (defScope st) f cdv A outer s H E).nox.N = N → N.Nodup → ∀ i, C.ok i →
      XB (cxOf CX0 P w K mg base N qual (defScope st) f cdv A outer s H E).nox (defBody st) ((C.args i).map (fun d => some (.d d)) ++ List.replicate (N.length - (C.args i).length) none) { nx := fun _ => C.post i .none, rt := C.post i })
    (hl : C.n = ps.length := by rfl) : FnOk P w K mg base CX0 (k + 1) f fd ps (SpD K C) := fnOk_data F S hl (fun cdv A outer s H E hr => hb cdv A outer s H E hr rfl S.nd)
/-- the law's own contract: of every script it tells True -/
def C_law : Cn where
  ι := List Int
  n := 1
  args := fun ns => [.list (ns.map .int)]
  ok := fun ns => ns.length ≤ 63
  post := fun _ r => r = .bool true
  hl := fun _ => rfl
theorem law_end {K : PySem.W.Frag} {H : Hp} {a : Addr} {ns : List Int} (hl : ns.length ≤ 63) (hS : SqL K H a (ns.map V.int)) {Q : VK} {E : XK} (q : ∀ H', Q (.bl true) H') : SpD K C_law [.ref a] H Q E :=
  ⟨H, ns, Same.refl H, .cons (.lst hS (dpAll_ofInts ns)) .nil, hl, fun r v F' H' hr g p => by subst hr; cases p; exact q H'⟩

/-! ## built-ins -/
def CaD (K : PySem.W.Frag) (r : List V → Hp → VK → Prop) (ds : List PyData) (d : PyData) : Prop := ∀ F H vs, Same F H → DpAll K F vs ds → ∀ Q : VK, (∀ u F' H', Gro F H F' H' → Dp K F' u d → Q u H') → r vs H Q
theorem xcb {r : List V → Hp → VK → Prop} {ds : List PyData} (hp : PE X e3 (tCB r (wA X es))) (ha : XA X es env ds) (hr : CaD X.K r ds d) : XD X e3 env d := fun F0 H0 F σ H E Q q =>
  e_of hp (ha _ _ F σ H E _ fun vs F1 H1 g1 p1 => hr F1 H1 vs g1.fr p1 Q fun u F2 H2 g2 p2 => q u F2 H2 (g1.trans g2) p2)
theorem d1' {K : PySem.W.Frag} {F : Hp} {vs : List V} {d : PyData} (h : DpAll K F vs [d]) : ∃ v, vs = [v] ∧ Dp K F v d := by
  cases h with | cons a b => cases b; exact ⟨_, rfl, a⟩
theorem d2' {K : PySem.W.Frag} {F : Hp} {vs : List V} {d d' : PyData} (h : DpAll K F vs [d, d']) : ∃ v w, vs = [v, w] ∧ Dp K F v d ∧ Dp K F w d' := by
  cases h with | cons a b => obtain ⟨w, rfl, c⟩ := d1' b; exact ⟨_, w, rfl, a, c⟩
theorem xa1 (h : XD X e env d) (hs : starEach [e] X.env = (false, eval e X.env) :: starEach [] X.env := by rfl) : XA X [e] env [d] := xa_cons h xa_nil hs
section
variable (hst : starEach [e] X.env = (false, eval e X.env) :: starEach [] X.env) (hpl : (backTo pos (starEach [] X.env)).any (·.1) = false)
theorem xd_lenL {ds : List PyData} (h : XD X e env (.list ds)) (hm : X.mg "len" = none) (hg : Gl X "len" := by rfl) (hs : starEach [e] X.env = (false, eval e X.env) :: starEach [] X.env := by rfl) (hpl : (backTo pos (starEach [] X.env)).any (·.1) = false := by rfl) :
    XD X (.Call (.Name "len" p) [e] [] pos) env (.int ds.length) := xcb (pe_callB call_len_seq hg hm PySem.boot_len a_w (by decide) (by decide) hs hpl) (xa1 h hs) fun F H vs fr p Q q => by
  obtain ⟨v, rfl, hv⟩ := d1' p
  obtain ⟨a, us, rfl, h1, h2⟩ := dL hv
  exact ⟨a, us, rfl, .inl (fr.seq h1), by rw [dpAll_len h2]; exact q _ F H (Gro.refl fr) (.int _)⟩
theorem xd_lenT {ds : List PyData} (h : XD X e env (.tuple ds)) (hm : X.mg "len" = none) (hg : Gl X "len" := by rfl) (hs : starEach [e] X.env = (false, eval e X.env) :: starEach [] X.env := by rfl) (hpl : (backTo pos (starEach [] X.env)).any (·.1) = false := by rfl) :
    XD X (.Call (.Name "len" p) [e] [] pos) env (.int ds.length) := xcb (pe_callB call_len_seq hg hm PySem.boot_len a_w (by decide) (by decide) hs hpl) (xa1 h hs) fun F H vs fr p Q q => by
  obtain ⟨v, rfl, hv⟩ := d1' p
  obtain ⟨a, us, rfl, h1, h2⟩ := dT hv
  exact ⟨a, us, rfl, .inr (seqT_mono fr h1), by rw [dpAll_len h2]; exact q _ F H (Gro.refl fr) (.int _)⟩
theorem xd_lenS {z : Str} (h : XD X e env (.str z)) (hz : z.length ≤ sizeLine) (hm : X.mg "len" = none) (hg : Gl X "len" := by rfl) (hs : starEach [e] X.env = (false, eval e X.env) :: starEach [] X.env := by rfl) (hpl : (backTo pos (starEach [] X.env)).any (·.1) = false := by rfl) :
    XD X (.Call (.Name "len" p) [e] [] pos) env (.int z.length) := xcb (pe_callB call_len_str hg hm PySem.boot_len a_w (by decide) (by decide) hs hpl) (xa1 h hs) fun F H vs fr p Q q => by
  obtain ⟨v, rfl, hv⟩ := d1' p
  exact ⟨z, by rw [dS hv], hz, q _ F H (Gro.refl fr) (.int _)⟩
theorem xd_abs {i : Int} (h : XD X e env (.int i)) (hm : X.mg "abs" = none) (hg : Gl X "abs" := by rfl) (hs : starEach [e] X.env = (false, eval e X.env) :: starEach [] X.env := by rfl) (hpl : (backTo pos (starEach [] X.env)).any (·.1) = false := by rfl) :
    XD X (.Call (.Name "abs" p) [e] [] pos) env (.int (if i < 0 then -i else i)) := xcb (pe_callB call_abs hg hm (by decide +kernel) a_w (by decide) (by decide) hs hpl) (xa1 h hs) fun F H vs fr p Q q => by
  obtain ⟨v, rfl, hv⟩ := d1' p
  exact ⟨i, by rw [dI hv], q _ F H (Gro.refl fr) (.int _)⟩
theorem xd_int1 {i : Int} (h : XD X e env (.int i)) (hm : X.mg "int" = none) (hg : Gl X "int" := by rfl) (hs : starEach [e] X.env = (false, eval e X.env) :: starEach [] X.env := by rfl) (hpl : (backTo pos (starEach [] X.env)).any (·.1) = false := by rfl) :
    XD X (.Call (.Name "int" p) [e] [] pos) env (.int i) := xcb (pe_callTy call_int1 hg hm (by decide +kernel) a_w (by decide) (by decide) hs hpl) (xa1 h hs) fun F H vs fr p Q q => by
  obtain ⟨v, rfl, hv⟩ := d1' p
  exact .inl ⟨i, by rw [dI hv], q _ F H (Gro.refl fr) (.int _)⟩
theorem xd_max2 {i j : Int} (h : XA X [e, e2] env [.int i, .int j]) (hm : X.mg "max" = none) (hg : Gl X "max" := by rfl) (hc : X.calm = true := by rfl) (hs : starEach [e, e2] X.env = (false, eval e X.env) :: starEach [e2] X.env := by rfl) (hpl : (backTo pos (starEach [e2] X.env)).any (·.1) = false := by rfl) :
    XD X (.Call (.Name "max" p) [e, e2] [] pos) env (.int (if j > i then j else i)) := xcb (pe_callB (call_max2 hc) hg hm (by decide +kernel) a_w (by decide) (by decide) hs hpl) h fun F H vs fr p Q q => by
  obtain ⟨v, w, rfl, hv, hw⟩ := d2' p
  exact ⟨i, j, by rw [dI hv, dI hw], q _ F H (Gro.refl fr) (.int _)⟩
theorem xd_min2 {i j : Int} (h : XA X [e, e2] env [.int i, .int j]) (hm : X.mg "min" = none) (hg : Gl X "min" := by rfl) (hc : X.calm = true := by rfl) (hs : starEach [e, e2] X.env = (false, eval e X.env) :: starEach [e2] X.env := by rfl) (hpl : (backTo pos (starEach [e2] X.env)).any (·.1) = false := by rfl) :
    XD X (.Call (.Name "min" p) [e, e2] [] pos) env (.int (if j < i then j else i)) := xcb (pe_callB (call_min2 hc) hg hm (by decide +kernel) a_w (by decide) (by decide) hs hpl) h fun F H vs fr p Q q => by
  obtain ⟨v, w, rfl, hv, hw⟩ := d2' p
  exact ⟨i, j, by rw [dI hv, dI hw], q _ F H (Gro.refl fr) (.int _)⟩
theorem xd_all {bs : List Bool} (h : XD X e env (.list (bs.map .bool))) (hm : X.mg "all" = none) (hg : Gl X "all" := by rfl) (hc : X.calm = true := by rfl) (hs : starEach [e] X.env = (false, eval e X.env) :: starEach [] X.env := by rfl) (hpl : (backTo pos (starEach [] X.env)).any (·.1) = false := by rfl) :
    XD X (.Call (.Name "all" p) [e] [] pos) env (.bool (bs.all id)) := xcb (pe_callB (cr_all hc) hg hm (by decide +kernel) a_w (by decide) (by decide) hs hpl) (xa1 h hs) fun F H vs fr p Q q => by
  obtain ⟨v, rfl, hv⟩ := d1' p
  obtain ⟨a, us, rfl, h1, h2⟩ := dL hv
  exact ⟨a, bs, rfl, by rw [← dpAll_bls h2]; exact fr.seq h1, q _ F H (Gro.refl fr) (.bl _)⟩
theorem xd_any {bs : List Bool} (h : XD X e env (.list (bs.map .bool))) (hm : X.mg "any" = none) (hg : Gl X "any" := by rfl) (hc : X.calm = true := by rfl) (hs : starEach [e] X.env = (false, eval e X.env) :: starEach [] X.env := by rfl) (hpl : (backTo pos (starEach [] X.env)).any (·.1) = false := by rfl) :
    XD X (.Call (.Name "any" p) [e] [] pos) env (.bool (bs.any id)) := xcb (pe_callB (cr_any hc) hg hm (by decide +kernel) a_w (by decide) (by decide) hs hpl) (xa1 h hs) fun F H vs fr p Q q => by
  obtain ⟨v, rfl, hv⟩ := d1' p
  obtain ⟨a, us, rfl, h1, h2⟩ := dL hv
  exact ⟨a, bs, rfl, by rw [← dpAll_bls h2]; exact fr.seq h1, q _ F H (Gro.refl fr) (.bl _)⟩
theorem xd_sum {ns : List Int} (h : XD X e env (.list (ns.map .int))) (hm : X.mg "sum" = none) (hg : Gl X "sum" := by rfl) (hc : X.calm = true := by rfl) (hs : starEach [e] X.env = (false, eval e X.env) :: starEach [] X.env := by rfl) (hpl : (backTo pos (starEach [] X.env)).any (·.1) = false := by rfl) :
    XD X (.Call (.Name "sum" p) [e] [] pos) env (.int ns.sum) := xcb (pe_callB (cr_sum hc) hg hm (by decide +kernel) a_w (by decide) (by decide) hs hpl) (xa1 h hs) fun F H vs fr p Q q => by
  obtain ⟨v, rfl, hv⟩ := d1' p
  obtain ⟨a, us, rfl, h1, h2⟩ := dL hv
  exact ⟨a, ns, rfl, by rw [← dpAll_ints h2]; exact fr.seq h1, q _ F H (Gro.refl fr) (.int _)⟩
/-- tuple(list) -/
theorem xd_tupleL {ds : List PyData} (h : XD X e env (.list ds)) (hm : X.mg "tuple" = none) (hg : Gl X "tuple" := by rfl) (hs : starEach [e] X.env = (false, eval e X.env) :: starEach [] X.env := by rfl) (hpl : (backTo pos (starEach [] X.env)).any (·.1) = false := by rfl) :
    XD X (.Call (.Name "tuple" p) [e] [] pos) env (.tuple ds) := xcb (pe_callTy call_tuple_of hg hm (by decide +kernel) a_w (by decide) (by decide) hs hpl) (xa1 h hs) fun F H vs fr p Q q => by
  obtain ⟨v, rfl, hv⟩ := d1' p
  obtain ⟨a, us, rfl, h1, h2⟩ := dL hv
  refine ⟨a, us, rfl, .inl ⟨fr.seq h1, fun l hl => ?_⟩⟩
  have g := Gro.new (o := .tup us) fr hl
  exact q _ _ _ g (.tup (.inl (.inl upd_same)) (dpAll_mono g.f h2))
theorem xd_listT {ds : List PyData} (h : XD X e env (.tuple ds)) (hm : X.mg "list" = none) (hg : Gl X "list" := by rfl) (hs : starEach [e] X.env = (false, eval e X.env) :: starEach [] X.env := by rfl) (hpl : (backTo pos (starEach [] X.env)).any (·.1) = false := by rfl) :
    XD X (.Call (.Name "list" p) [e] [] pos) env (.list ds) := xcb (pe_callTy call_list_of hg hm (by decide +kernel) a_w (by decide) (by decide) hs hpl) (xa1 h hs) fun F H vs fr p Q q => by
  obtain ⟨v, rfl, hv⟩ := d1' p
  obtain ⟨a, us, rfl, h1, h2⟩ := dT hv
  refine ⟨a, us, rfl, .inr (seqT_mono fr h1), fun l hl => ?_⟩
  have g := Gro.new (o := .lst us) fr hl
  exact q _ _ _ g (.lst (.inl (.inl upd_same)) (dpAll_mono g.f h2))
end

/-! ## items, slices -/
theorem atI_dp {K : PySem.W.Frag} {F : Hp} {vs : List V} {ds : List PyData} {i : Int} (h : DpAll K F vs ds) (e : atI ds i = some d) : ∃ v, atI vs i = some v ∧ Dp K F v d := by
  unfold atI at e ⊢
  rw [dpAll_len h]
  cases q : ixN ds.length i with
  | none => rw [q] at e; cases e
  | some j =>
    rw [q] at e
    exact dpAll_get h e
theorem xd_ixL {ds : List PyData} {i : Int} (h1 : XD X e env (.list ds)) (h2 : XD X e2 env (.int i)) (hi : atI ds i = some d) (hp : PlainIx e2 := by exact fun _ _ => rfl) : XD X (.Subscript e e2 pos) env d :=
  x2 (pe_ix ix_list e_w e_w hp) h1 h2 fun F H v w fr p1 p2 Q q => by
    obtain ⟨a, us, rfl, z1, z2⟩ := dL p1
    obtain ⟨u, y1, y2⟩ := atI_dp z2 hi
    exact ⟨a, us, i, u, rfl, dI p2, fr.seq z1, y1, q _ F H (Gro.refl fr) y2⟩
theorem xd_ixT {ds : List PyData} {i : Int} (h1 : XD X e env (.tuple ds)) (h2 : XD X e2 env (.int i)) (hi : atI ds i = some d) (hp : PlainIx e2 := by exact fun _ _ => rfl) : XD X (.Subscript e e2 pos) env d :=
  x2 (pe_ix ix_tup e_w e_w hp) h1 h2 fun F H v w fr p1 p2 Q q => by
    obtain ⟨a, us, rfl, z1, z2⟩ := dT p1
    obtain ⟨u, y1, y2⟩ := atI_dp z2 hi
    exact ⟨a, us, i, u, rfl, dI p2, seqT_mono fr z1, y1, q _ F H (Gro.refl fr) y2⟩
theorem xd_ixS {z : Str} {i : Int} {c : Nat} (h1 : XD X e env (.str z)) (h2 : XD X e2 env (.int i)) (hz : z.length ≤ sizeLine) (hi : atI z.cps.toList i = some c) (hp : PlainIx e2 := by exact fun _ _ => rfl) : XD X (.Subscript e e2 pos) env (.str ⟨#[c]⟩) :=
  x2 (pe_ix ix_str e_w e_w hp) h1 h2 fun F H v w fr p1 p2 Q q => ⟨z, i, c, dS p1, dI p2, hz, hi, q _ F H (Gro.refl fr) (.str _)⟩
/-- of a list of one's own -/
theorem xd_lenO {i : Nat} {x : Str} {xs : List PyData} {pn : Pos} (hv : env[i]? = some (some (.l xs))) (hm : X.mg "len" = none) (hN : X.N[i]? = some x := by rfl) (hs : Vis X.env.scope x := by first | exact Or.inl rfl | exact Or.inr (Or.inl rfl) | exact Or.inr (Or.inr rfl))
    (hd : (x == ("__debug__" : Str)) = false := by decide) (hc : (x == ("__classdict__" : Str)) = false := by decide) (hg : Gl X "len" := by rfl) (hst : starEach [.Name x pn] X.env = (false, eval (.Name x pn) X.env) :: starEach [] X.env := by rfl) (hpl : (backTo pos (starEach [] X.env)).any (·.1) = false := by rfl) :
    XD X (.Call (.Name "len" p) [.Name x pn] [] pos) env (.int xs.length) := fun F0 H0 F σ H E Q q => by
  obtain ⟨v, s1, a, vs, rfl, h1, h2⟩ := E.slot i _ hv
  refine e_of (pe_callB call_len_seq hg hm PySem.boot_len (pa_cons (pe_var hN hs hd hc) pa_nil hst) (by decide) (by decide) hst hpl) ?_
  exact ⟨_, s1, a, vs, rfl, .inl (.inl (.inl h1)), by rw [dpAll_len h2]; exact q _ F H E.rfl' (.int _)⟩
theorem xd_ixO {i : Nat} {x : Str} {xs : List PyData} {j : Int} {pn : Pos} (hv : env[i]? = some (some (.l xs))) (h2 : XD X e2 env (.int j)) (hj : atI xs j = some d) (hN : X.N[i]? = some x := by rfl) (hs : Vis X.env.scope x := by first | exact Or.inl rfl | exact Or.inr (Or.inl rfl) | exact Or.inr (Or.inr rfl))
    (hd : (x == ("__debug__" : Str)) = false := by decide) (hc : (x == ("__classdict__" : Str)) = false := by decide) (hp : PlainIx e2 := by exact fun _ _ => rfl) : XD X (.Subscript (.Name x pn) e2 pos) env d := fun F0 H0 F σ H E Q q => by
  obtain ⟨v, s1, a, vs, rfl, z1, z2⟩ := E.slot i _ hv
  refine e_of (pe_ix ix_list (pe_var hN hs hd hc) e_w hp) ⟨_, s1, h2 _ _ F σ H E _ fun w F1 H1 g1 p1 => ?_⟩
  obtain ⟨u, y1, y2⟩ := atI_dp z2 hj
  exact ⟨a, vs, j, u, rfl, dI p1, .inl (.inl (g1.h _ _ z1)), y1, q _ F1 H1 g1 (dp_mono g1.f y2)⟩
/-- slices: the parts -/
def XO (X : Cx) (e : Option Expr) (env : AEnv) (o : Option Int) : Prop :=
  ∃ t, PO X e t ∧ ∀ F0 H0 F σ H, EnvAt X.K F0 H0 F σ H env → ∀ Q : Option Int → Hp → Prop, (∀ F' H', Gro F H F' H' → Q o H') → t σ H Q
theorem xo_none : XO X none env none := ⟨_, po_none, fun F0 H0 F σ H E Q q => q F H E.rfl'⟩
theorem xo_some {i : Int} (h : XD X e env (.int i)) : XO X (some e) env (some i) := ⟨_, po_some e_w, fun F0 H0 F σ H E Q q => h _ _ F σ H E _ fun v F1 H1 g1 p1 => ⟨i, dI p1, q F1 H1 g1⟩⟩
theorem xd_slS {z : Str} {lo hi : Option Expr} {l u : Option Int} (h : XD X e env (.str z)) (hl : XO X lo env l) (hu : XO X hi env u) (hz : z.length ≤ sizeLine) : XD X (.Subscript e (.Slice lo hi none p2) pos) env (.str (cutS z l u)) := fun F0 H0 F σ H E Q q => by
  obtain ⟨tl, pl, ql⟩ := hl
  obtain ⟨tu, pu, qu⟩ := hu
  refine e_of (pe_slice sl_str e_w pl pu) (h _ _ F σ H E _ fun v F1 H1 g1 p1 => ?_)
  refine ql _ _ F1 σ H1 (E.grow g1) _ fun F2 H2 g2 => ?_
  refine qu _ _ F2 σ H2 (E.grow (g1.trans g2)) _ fun F3 H3 g3 => ?_
  exact ⟨z, dS p1, hz, q _ F3 H3 ((g1.trans g2).trans g3) (.str _)⟩
def cutD (xs : List PyData) (lo hi : Option Int) : List PyData := (xs.drop (HT.sIx xs.length 0 lo)).take (HT.sIx xs.length xs.length hi - HT.sIx xs.length 0 lo)
theorem cut_dp {K : PySem.W.Frag} {F : Hp} {vs : List V} {ds : List PyData} {lo hi : Option Int} (h : DpAll K F vs ds) : DpAll K F (cutV vs lo hi) (cutD ds lo hi) := by
  unfold cutV cutD
  rw [dpAll_len h]
  exact dpAll_take _ (dpAll_drop _ h)
theorem xl_slL {ds : List PyData} {lo hi : Option Expr} {l u : Option Int} (h : XD X e env (.list ds)) (hl : XO X lo env l) (hu : XO X hi env u) : XL X (.Subscript e (.Slice lo hi none p2) pos) env (cutD ds l u) := fun F0 H0 F σ H E Q q => by
  obtain ⟨tl, pl, ql⟩ := hl
  obtain ⟨tu, pu, qu⟩ := hu
  refine e_of (pe_slice sl_list e_w pl pu) (h _ _ F σ H E _ fun v F1 H1 g1 p1 => ?_)
  refine ql _ _ F1 σ H1 (E.grow g1) _ fun F2 H2 g2 => ?_
  refine qu _ _ F2 σ H2 (E.grow (g1.trans g2)) _ fun F3 H3 g3 => ?_
  obtain ⟨a, us, rfl, z1, z2⟩ := dL p1
  have gA := (g1.trans g2).trans g3
  have z3 : Same F1 H3 := (g2.f.trans g3.f).trans g3.fr
  refine ⟨a, us, rfl, z3.seq z1, fun p hp => ?_⟩
  exact q p _ F3 _ (gA.trans (Gro.own g3.fr hp)) (gA.h.free hp) (g3.fr.free hp) upd_same (dpAll_mono (g2.f.trans g3.f) (cut_dp z2))
/-- list + list -/
theorem xl_cat {xs ys : List PyData} (h1 : XL X e env xs) (h2 : XL X e2 env ys) (hz : xs.length + ys.length ≤ sizeLine) : XL X (.BinOp e .Add e2 pos) env (xs ++ ys) := fun F0 H0 F σ H E Q q => by
  refine e_of (pe_op op_cat e_w e_w) (h1 _ _ F σ H E _ fun p vs F1 H1 g1 n1 n2 e1 p1 => ?_)
  refine h2 _ _ F1 σ H1 (E.grow g1) _ fun r us F2 H2 g2 m1 m2 e2 p2 => ?_
  refine ⟨p, r, vs, us, rfl, rfl, g2.h _ _ e1, e2, by rw [dpAll_len p1, dpAll_len p2]; exact hz, fun t ht => ?_⟩
  exact q t _ F2 _ ((g1.trans g2).trans (Gro.own g2.fr ht)) ((g1.trans g2).h.free ht) (g2.fr.free ht) upd_same (dpAll_append (dpAll_mono g2.f p1) p2)
end
end FR

namespace FR
open PySem PySem.Spec PyProof.Rows L2

/-! ## the same by names: N and env written out -/
/-- what stands at a name -/
inductive AtN : List Str → AEnv → Nat → Str → AV → Prop
  | here {x N l v} : AtN (x :: N) (some v :: l) 0 x v
  | there {x y N a l v i} : AtN N l i x v → AtN (y :: N) (a :: l) (i + 1) x v
/-- a name is stored -/
inductive SetN : List Str → AEnv → Nat → Str → Option AV → AEnv → Prop
  | here {x N a l v} : SetN (x :: N) (a :: l) 0 x v (v :: l)
  | there {x y N a l v i l'} : SetN N l i x v l' → SetN (y :: N) (a :: l) (i + 1) x v (a :: l')
theorem AtN.get : ∀ {N : List Str} {env : AEnv} {i : Nat} {x : Str} {v : AV}, AtN N env i x v → env[i]? = some (some v) ∧ N[i]? = some x
  | _, _, _, _, _, .here => ⟨rfl, rfl⟩
  | _, _, _, _, _, .there h => by
    obtain ⟨a, b⟩ := h.get
    exact ⟨by simpa using a, by simpa using b⟩
theorem SetN.get : ∀ {N : List Str} {env env' : AEnv} {i : Nat} {x : Str} {v : Option AV}, SetN N env i x v env' → env.set i v = env' ∧ N[i]? = some x
  | _, _, _, _, _, _, .here => ⟨rfl, rfl⟩
  | _, _, _, _, _, _, .there h => by
    obtain ⟨a, b⟩ := h.get
    exact ⟨by simpa using a, by simpa using b⟩
section
variable {X : Cx} {e e2 e3 tg iter elt : Expr} {es ifs : List Expr} {scope : Scope} {st : Stmt} {ss body : List Stmt} {env env' : AEnv} {d d1 d2 : PyData} {A : AE} {pos p p2 : Pos} {N : List Str} {i j : Nat} {x : Str}
theorem n_var (hN : X.N = N) (h : AtN N env i x (.d d)) (hs : Vis X.env.scope x := by first | exact Or.inl rfl | exact Or.inr (Or.inl rfl) | exact Or.inr (Or.inr rfl))
    (hd : (x == ("__debug__" : Str)) = false := by decide) (hc : (x == ("__classdict__" : Str)) = false := by decide) : XD X (.Name x pos) env d := by
  subst hN; exact xd_var h.get.1 h.get.2 hs hd hc
theorem n_varP {φ : Hp → V → Prop} {hφ} (hN : X.N = N) (h : AtN N env i x (.p φ hφ)) (hs : Vis X.env.scope x := by first | exact Or.inl rfl | exact Or.inr (Or.inl rfl) | exact Or.inr (Or.inr rfl))
    (hd : (x == ("__debug__" : Str)) = false := by decide) (hc : (x == ("__classdict__" : Str)) = false := by decide) : XP X (.Name x pos) env φ := by
  subst hN; exact xp_var h.get.1 h.get.2 hs hd hc
theorem n_set (h : XD X e env d) (hN : X.N = N) (hnd : N.Nodup) (hst : SetN N env i x (some (.d d)) env') (hn : A.nx env') (hx : Loc X.env.scope x := by first | exact .inl rfl | exact .inr rfl)
    (hs : swapsWith e (some (.Name x p)) pos.line X.env = pure false := by rfl) (hf : X.fn x = true ∨ X.env.scope.names.lookup x = some .local := by first | exact .inl rfl | exact .inr rfl) : XS X (.Assign [.Name x p] e pos) env A := by
  subst hN; exact xs_set h (by rw [hst.get.1]; exact hn) hnd hst.get.2 hx hs hf
theorem n_setP {φ : Hp → V → Prop} (hφ : ∀ H H' v, Same H H' → φ H v → φ H' v) (h : XP X e env φ) (hN : X.N = N) (hnd : N.Nodup) (hst : SetN N env i x (some (.p φ hφ)) env') (hn : A.nx env') (hx : Loc X.env.scope x := by first | exact .inl rfl | exact .inr rfl)
    (hs : swapsWith e (some (.Name x p)) pos.line X.env = pure false := by rfl) (hf : X.fn x = true ∨ X.env.scope.names.lookup x = some .local := by first | exact .inl rfl | exact .inr rfl) : XS X (.Assign [.Name x p] e pos) env A := by
  subst hN; exact xs_setP hφ h (by rw [hst.get.1]; exact hn) hnd hst.get.2 hx hs hf
theorem n_setL {xs : List PyData} (h : XL X e env xs) (hN : X.N = N) (hnd : N.Nodup) (hst : SetN N env i x (some (.l xs)) env') (hn : A.nx env') (hx : Loc X.env.scope x := by first | exact .inl rfl | exact .inr rfl)
    (hs : swapsWith e (some (.Name x p)) pos.line X.env = pure false := by rfl) (hf : X.fn x = true ∨ X.env.scope.names.lookup x = some .local := by first | exact .inl rfl | exact .inr rfl) : XS X (.Assign [.Name x p] e pos) env A := by
  subst hN; exact xs_setL h (by rw [hst.get.1]; exact hn) hnd hst.get.2 hx hs hf
theorem n_aug {op : Operator} {r : TIp} (hN : X.N = N) (hat : AtN N env i x (.d d1)) (h : XD X e env d2) (ho : PIp X op r) (hr : OpD X.K r d1 d2 d) (hnd : N.Nodup) (hst : SetN N env j x (some (.d d)) env') (hn : A.nx env') (hx : Loc X.env.scope x := by first | exact .inl rfl | exact .inr rfl)
    (hf : X.fn x = true ∨ X.env.scope.names.lookup x = some .local := by first | exact .inl rfl | exact .inr rfl) : XS X (.AugAssign (.Name x p) op e pos) env A := by
  subst hN
  have e : i = j := nodup_ix hnd hat.get.2 hst.get.2
  subst e
  exact xs_aug hat.get.1 h ho hr (by rw [hst.get.1]; exact hn) hnd hst.get.2 hx hf
theorem n_augAdd {a b : Int} (hN : X.N = N) (hat : AtN N env i x (.d (.int a))) (h : XD X e env (.int b)) (hnd : N.Nodup) (hst : SetN N env j x (some (.d (.int (a + b)))) env') (hn : A.nx env') (hx : Loc X.env.scope x := by first | exact .inl rfl | exact .inr rfl)
    (hf : X.fn x = true ∨ X.env.scope.names.lookup x = some .local := by first | exact .inl rfl | exact .inr rfl) : XS X (.AugAssign (.Name x p) .Add e pos) env A :=
  n_aug hN hat h ip_add (fun F H v w fr p1 p2 Q q => ⟨a, b, dI p1, dI p2, q _ F H (Gro.refl fr) (.int _)⟩) hnd hst hn hx hf
theorem n_augSub {a b : Int} (hN : X.N = N) (hat : AtN N env i x (.d (.int a))) (h : XD X e env (.int b)) (hnd : N.Nodup) (hst : SetN N env j x (some (.d (.int (a - b)))) env') (hn : A.nx env') (hx : Loc X.env.scope x := by first | exact .inl rfl | exact .inr rfl)
    (hf : X.fn x = true ∨ X.env.scope.names.lookup x = some .local := by first | exact .inl rfl | exact .inr rfl) : XS X (.AugAssign (.Name x p) .Sub e pos) env A :=
  n_aug hN hat h ip_sub (fun F H v w fr p1 p2 Q q => ⟨a, b, dI p1, dI p2, q _ F H (Gro.refl fr) (.int _)⟩) hnd hst hn hx hf
theorem n_append {xs : List PyData} {apos cpos : Pos} (hN : X.N = N) (hat : AtN N env i x (.l xs)) (h : XD X e env d) (hz : xs.length < sizeLine) (hst : SetN N env j x (some (.l (xs ++ [d]))) env') (hnd : N.Nodup) (hn : A.nx env') (hs : Vis X.env.scope x := by first | exact Or.inl rfl | exact Or.inr (Or.inl rfl) | exact Or.inr (Or.inr rfl))
    (hd : (x == ("__debug__" : Str)) = false := by decide) (hc : (x == ("__classdict__" : Str)) = false := by decide)
    (hbase : attributeBase (.Name x p) "append" X.env (eval (.Name x p) X.env) = eval (.Name x p) X.env := by rfl)
    (hfew : ((backTo cpos (starEach [e] X.env)).all (fun x => !x.1) && (backToKw cpos (keywordEach [] X.env)).all (fun x => x.1.isSome)
      && decide ([e].length + ([] : List Keyword).length + (if ([] : List Keyword).isEmpty then 0 else 1) < 30)) = true := by rfl)
    (hline : (apos.endLine == cpos.line) = true := by rfl) (hsta : starEach [e] X.env = (false, eval e X.env) :: starEach [] X.env := by rfl) (hplain : (backTo cpos (starEach [] X.env)).any (·.1) = false := by rfl)
    (hsw : swapsWith (.Call (.Attribute (.Name x p) "append" apos) [e] [] cpos) none pos.line X.env = pure false := by rfl) :
    XS X (.Expr (.Call (.Attribute (.Name x p) "append" apos) [e] [] cpos) pos) env A := by
  subst hN
  have e : i = j := nodup_ix hnd hat.get.2 hst.get.2
  subst e
  exact xs_append hat.get.1 h hz (by rw [hst.get.1]; exact hn) hat.get.2 hs hd hc hbase hfew hline hsta hplain hsw
theorem n_gname {js : List Nat} (hN : X.N = N) (hnd : N.Nodup) (hst : SetN N env i x (some (.d d)) env') (hx : Loc X.env.scope x := by first | exact .inl rfl | exact .inr rfl)
    (hf : X.fn x = true ∨ X.env.scope.names.lookup x = some .local := by first | exact .inl rfl | exact .inr rfl) (hj : i ∈ js := by simp) : XG X (.Name x p) js env d env' := by
  subst hN
  have := hst.get.1
  subst this
  exact xg_name hnd hst.get.2 hx hf hj
theorem n_lenO {xs : List PyData} {pn : Pos} (hN : X.N = N) (hat : AtN N env i x (.l xs)) (hm : X.mg "len" = none) (hs : Vis X.env.scope x := by first | exact Or.inl rfl | exact Or.inr (Or.inl rfl) | exact Or.inr (Or.inr rfl))
    (hd : (x == ("__debug__" : Str)) = false := by decide) (hc : (x == ("__classdict__" : Str)) = false := by decide) (hg : Gl X "len" := by rfl) (hst : starEach [.Name x pn] X.env = (false, eval (.Name x pn) X.env) :: starEach [] X.env := by rfl) (hpl : (backTo pos (starEach [] X.env)).any (·.1) = false := by rfl) :
    XD X (.Call (.Name "len" p) [.Name x pn] [] pos) env (.int xs.length) := by
  subst hN; exact xd_lenO hat.get.1 hm hat.get.2 hs hd hc hg hst hpl
theorem n_ixO {xs : List PyData} {k : Int} {pn : Pos} (hN : X.N = N) (hat : AtN N env i x (.l xs)) (h2 : XD X e2 env (.int k)) (hj : atI xs k = some d) (hs : Vis X.env.scope x := by first | exact Or.inl rfl | exact Or.inr (Or.inl rfl) | exact Or.inr (Or.inr rfl))
    (hd : (x == ("__debug__" : Str)) = false := by decide) (hc : (x == ("__classdict__" : Str)) = false := by decide) (hp : PlainIx e2 := by exact fun _ _ => rfl) : XD X (.Subscript (.Name x pn) e2 pos) env d := by
  subst hN; exact xd_ixO hat.get.1 h2 hj hat.get.2 hs hd hc hp
/-- a list of one's own is data from now on -/
theorem n_freeze (x : Str) {xs : List PyData} (hN : X.N = N) (hnd : N.Nodup) (hat : AtN N env i x (.l xs)) (hst : SetN N env j x (some (.d (.list xs))) env') (h : XB X ss env' A) : XB X ss env A := by
  have e : i = j := nodup_ix hnd hat.get.2 hst.get.2
  subst e
  exact xb_freeze i hat.get.1 (by rw [hst.get.1]; exact h)
/-! ### for name in .. -/
theorem n_for {n : Nat} {it : Nat → PyData} (hN : X.N = N) (hnd : N.Nodup) (hi : XI X (.Name x p) iter env n it) (Iv : Nat → AEnv → Prop) (h0 : Iv 0 env)
    (hs : ∀ i env', i < n → Iv i env' → ∃ env2, SetN N env' j x (some (.d (it i))) env2 ∧ XB X body env2 { nx := Iv (i + 1), ct := Iv (i + 1), bk := A.nx, rt := A.rt }) (hd : ∀ env', Iv n env' → A.nx env') (hx : Loc X.env.scope x := by first | exact .inl rfl | exact .inr rfl)
    (hf : X.fn x = true ∨ X.env.scope.names.lookup x = some .local := by first | exact .inl rfl | exact .inr rfl)
    (hp : PassesOwn (model X.prog X.w) X.A X.env X.xe := by exact PassesOwn.never) (hc : X.calm = true := by rfl) (hfs : ∀ x, foldedSetIterable iter X.env x = pure x := by intro _; rfl) : XS X (.For (.Name x p) iter body [] pos) env A :=
  xs_for (js := [j]) hi Iv h0 (fun i env' hin hI => let ⟨env2, a, b⟩ := hs i env' hin hI; ⟨env2, n_gname hN hnd a hx hf, b⟩) hd hp hc hfs
/-! ### comprehensions whose target is a name -/
theorem wipe_set1 {env env' : AEnv} {j : Nat} {v : Option AV} (h : env.set j v = env') : (wipeE env [j]).set j v = env' := by
  show ((wipeE env []).set j none).set j v = env'
  show (env.set j none).set j v = env'
  rw [List.set_set]; exact h
section
variable {n : Nat} {it : Nat → PyData} {f : Nat → PyData} {b : Nat → Bool}
theorem n_comp {S : Scope} (hN : X.N = N) (hnd : N.Nodup) (hi : XI X (.Name x p2) iter env n it) (j : Nat) (okc : blkC N S scope [(x, j)] = true)
    (hb : ∀ i, i < n → ∃ env2, SetN N env j x (some (.d (it i))) env2 ∧ (∀ s Hb C cl fp, XD (blkX X scope s Hb C cl fp) elt env2 (f i))) (hz : n ≤ sizeLine)
    (hS : X.env.scope = S := by rfl)
    (hx : L2.Loc (relabel scope X.env) x := by first | exact .inl rfl | exact .inr rfl) (hf : (scope.names.lookup x == some .cell) = true ∨ (relabel scope X.env).names.lookup x = some .local := by first | exact .inr rfl | exact .inl rfl)
    (hc : X.calm = true := by rfl) (hfs : ∀ x, foldedSetIterable iter X.env x = pure x := by intro _; rfl) :
    XL X (.ListComp elt [⟨.Name x p2, iter, [], 0⟩] scope pos) env ((List.range n).map f) := by
  subst hN hS
  refine xl_comp hi hnd [(x, j)] (blkOk_by okc) (fun i hin => ?_) hz hc hfs
  obtain ⟨env2, h1, h2⟩ := hb i hin
  have := wipe_set1 h1.get.1
  subst this
  refine ⟨_, fun s Hb C cl fp => ?_, h2⟩
  exact xg_name hnd h1.get.2 hx hf
theorem n_compIf {S : Scope} {c : Expr} (hN : X.N = N) (hnd : N.Nodup) (hi : XI X (.Name x p2) iter env n it) (j : Nat) (okc : blkC N S scope [(x, j)] = true)
    (hb : ∀ i, i < n → ∃ env2, SetN N env j x (some (.d (it i))) env2 ∧ (∀ s Hb C cl fp, XT (blkX X scope s Hb C cl fp) c env2 (b i)) ∧ (b i = true → ∀ s Hb C cl fp, XD (blkX X scope s Hb C cl fp) elt env2 (f i))) (hz : n ≤ sizeLine)
    (hS : X.env.scope = S := by rfl)
    (hx : L2.Loc (relabel scope X.env) x := by first | exact .inl rfl | exact .inr rfl) (hf : (scope.names.lookup x == some .cell) = true ∨ (relabel scope X.env).names.lookup x = some .local := by first | exact .inr rfl | exact .inl rfl)
    (hc : X.calm = true := by rfl) (hfs : ∀ x, foldedSetIterable iter X.env x = pure x := by intro _; rfl) :
    XL X (.ListComp elt [⟨.Name x p2, iter, [c], 0⟩] scope pos) env (((List.range n).filter b).map f) := by
  subst hN hS
  refine xl_compIf hi hnd [(x, j)] (blkOk_by okc) (fun i hin => ?_) hz hc hfs
  obtain ⟨env2, h1, h2, h3⟩ := hb i hin
  have := wipe_set1 h1.get.1
  subst this
  exact ⟨_, fun s Hb C cl fp => xg_name hnd h1.get.2 hx hf, h2, h3⟩
theorem n_setComp {S : Scope} {k : Nat} {y : Str} {env3 : AEnv} (hN : X.N = N) (hnd : N.Nodup) (hi : XI X (.Name x p2) iter env n it) (j : Nat) (okc : blkC N S scope [(x, j)] = true)
    (hb : ∀ i, i < n → ∃ env2, SetN N env j x (some (.d (it i))) env2 ∧ (∀ s Hb C cl fp, XD (blkX X scope s Hb C cl fp) elt env2 (f i))) (hz : n ≤ sizeLine)
    (hst : SetN N env k y (some (.l ((List.range n).map f))) env3) (hn : A.nx env3) {p3 p4 : Pos} (hS : X.env.scope = S := by rfl) (hyl : X.env.scope.names.lookup y = some .local := by rfl)
    (hsw : swapsWith (.ListComp elt [⟨.Name x p2, iter, [], 0⟩] scope pos) (some (.Name y p3)) p4.line X.env = pure true := by exact sw_true rfl rfl rfl (by decide +kernel))
    (hx : L2.Loc (relabel scope X.env) x := by first | exact .inl rfl | exact .inr rfl) (hf : (scope.names.lookup x == some .cell) = true ∨ (relabel scope X.env).names.lookup x = some .local := by first | exact .inr rfl | exact .inl rfl)
    (hc : X.calm = true := by rfl) (hfs : ∀ x, foldedSetIterable iter X.env x = pure x := by intro _; rfl) :
    XS X (.Assign [.Name y p3] (.ListComp elt [⟨.Name x p2, iter, [], 0⟩] scope pos) p4) env A := by
  subst hN hS
  refine xs_setComp hi hnd [(x, j)] (blkOk_by okc) (fun i hin => ?_) hz (by rw [hst.get.1]; exact hn) hst.get.2 hyl hsw hc hfs
  obtain ⟨env2, h1, h2⟩ := hb i hin
  have := wipe_set1 h1.get.1
  subst this
  exact ⟨_, fun s Hb C cl fp => xg_name hnd h1.get.2 hx hf, h2⟩
theorem n_setCompIf {S : Scope} {k : Nat} {y : Str} {c : Expr} {env3 : AEnv} (hN : X.N = N) (hnd : N.Nodup) (hi : XI X (.Name x p2) iter env n it) (j : Nat) (okc : blkC N S scope [(x, j)] = true)
    (hb : ∀ i, i < n → ∃ env2, SetN N env j x (some (.d (it i))) env2 ∧ (∀ s Hb C cl fp, XT (blkX X scope s Hb C cl fp) c env2 (b i)) ∧ (b i = true → ∀ s Hb C cl fp, XD (blkX X scope s Hb C cl fp) elt env2 (f i))) (hz : n ≤ sizeLine)
    (hst : SetN N env k y (some (.l (((List.range n).filter b).map f))) env3) (hn : A.nx env3) {p3 p4 : Pos} (hS : X.env.scope = S := by rfl) (hyl : X.env.scope.names.lookup y = some .local := by rfl)
    (hsw : swapsWith (.ListComp elt [⟨.Name x p2, iter, [c], 0⟩] scope pos) (some (.Name y p3)) p4.line X.env = pure true := by exact sw_true rfl rfl rfl (by decide +kernel))
    (hx : L2.Loc (relabel scope X.env) x := by first | exact .inl rfl | exact .inr rfl) (hf : (scope.names.lookup x == some .cell) = true ∨ (relabel scope X.env).names.lookup x = some .local := by first | exact .inr rfl | exact .inl rfl)
    (hc : X.calm = true := by rfl) (hfs : ∀ x, foldedSetIterable iter X.env x = pure x := by intro _; rfl) :
    XS X (.Assign [.Name y p3] (.ListComp elt [⟨.Name x p2, iter, [c], 0⟩] scope pos) p4) env A := by
  subst hN hS
  refine xs_setCompIf hi hnd [(x, j)] (blkOk_by okc) (fun i hin => ?_) hz (by rw [hst.get.1]; exact hn) hst.get.2 hyl hsw hc hfs
  obtain ⟨env2, h1, h2, h3⟩ := hb i hin
  have := wipe_set1 h1.get.1
  subst this
  exact ⟨_, fun s Hb C cl fp => xg_name hnd h1.get.2 hx hf, h2, h3⟩
end

end

/-! ### sorted of texts, below 64 -/
def leS (a b : Str) : Bool := !ltCps b.cps.toList a.cps.toList
theorem leS_iff (a b : Str) : leS a b = true ↔ a.cps.toList ≤ b.cps.toList := by
  unfold leS
  rw [ltCps_eq]
  simp only [Bool.not_eq_true', decide_eq_false_iff_not, List.not_lt]
theorem leS_trans (a b c : Str) (h1 : leS a b = true) (h2 : leS b c = true) : leS a c = true :=
  (leS_iff a c).mpr (List.le_trans ((leS_iff a b).mp h1) ((leS_iff b c).mp h2))
theorem leS_total (a b : Str) : (leS a b || leS b a) = true := by
  rw [Bool.or_eq_true, leS_iff, leS_iff]
  exact List.le_total _ _
theorem leS_anti (a b : Str) (h1 : leS a b = true) (h2 : leS b a = true) : a = b := by
  have := List.le_antisymm ((leS_iff a b).mp h1) ((leS_iff b a).mp h2)
  cases a; cases b
  simp at this
  rw [this]
def srtS (xs : List Str) : List Str := xs.mergeSort leS
theorem rising_pair : ∀ (r : List Str) (p : Str), risingS p r = true → (p :: r).Pairwise (fun a b => leS a b = true)
  | [], p, _ => by simp
  | x :: r, p, h => by
    unfold risingS at h
    rw [Bool.and_eq_true] at h
    have ih := rising_pair r x h.2
    refine List.pairwise_cons.mpr ⟨fun y hy => ?_, ih⟩
    rcases List.mem_cons.mp hy with rfl | hy
    · exact h.1
    · exact leS_trans _ _ _ h.1 ((List.pairwise_cons.mp ih).1 y hy)
theorem sorted_pair : ∀ (ys : List Str), sortedS ys = true → ys.Pairwise (fun a b => leS a b = true)
  | [], _ => List.Pairwise.nil
  | x :: r, h => rising_pair r x h
theorem srtS_pair (xs : List Str) : (srtS xs).Pairwise (fun a b => leS a b = true) := List.pairwise_mergeSort (fun a b c h1 h2 => leS_trans a b c h1 h2) leS_total xs
theorem srtS_perm (xs : List Str) : (srtS xs).Perm xs := List.mergeSort_perm xs leS
theorem srtS_unique {xs ys : List Str} (hp : ys.Perm xs) (hs : ys.Pairwise (fun a b => leS a b = true)) : ys = srtS xs :=
  List.Perm.eq_of_pairwise (fun a b _ _ h1 h2 => leS_anti a b h1 h2) hs (srtS_pair xs) (hp.trans (srtS_perm xs).symm)
theorem srtS_length (xs : List Str) : (srtS xs).length = xs.length := (srtS_perm xs).length_eq
section
variable {X : Cx} {e : Expr} {env : AEnv} {pos p : Pos}
theorem xl_sortedS {ss : List Str} (h : XD X e env (.list (ss.map .str))) (hz : ss.length < 64) (hm : X.mg "sorted" = none) (hg : Gl X "sorted" := by rfl) (hs : starEach [e] X.env = (false, eval e X.env) :: starEach [] X.env := by rfl) (hpl : (backTo pos (starEach [] X.env)).any (·.1) = false := by rfl) :
    XL X (.Call (.Name "sorted" p) [e] [] pos) env ((srtS ss).map .str) := fun F0 H0 F σ H E Q q => by
  refine e_of (pe_callB cr_sortedS hg hm (by decide +kernel) a_w (by decide) (by decide) hs hpl) (xa1 h hs _ _ F σ H E _ fun vs F1 H1 g1 p1 => ?_)
  obtain ⟨v, rfl, hv⟩ := d1' p1
  obtain ⟨a, us, rfl, h1, h2⟩ := dL hv
  have e1 := dpAll_strs h2
  subst e1
  refine ⟨a, ss, rfl, g1.fr.seq h1, hz, fun ys r hp hsrt hr => ?_⟩
  have e2 : ys = srtS ss := srtS_unique hp (sorted_pair ys hsrt)
  subst e2
  exact q r _ F1 _ (g1.trans (Gro.own g1.fr hr)) (g1.h.free hr) (g1.fr.free hr) upd_same (dpAll_ofStrs _)
end
end FR

namespace FR
open PySem PySem.Spec PyProof.Rows L2

/-! ## operators whatever the data -/
inductive AddD : PyData → PyData → PyData → Prop
  | int {i j} : AddD (.int i) (.int j) (.int (i + j))
  | str {a b} (h : a.length + b.length ≤ sizeLine) : AddD (.str a) (.str b) (.str (a ++ b))
/-- x in a list or tuple of flat data -/
def flatD : PyData → Bool
  | .none => true
  | .bool _ => true
  | .int _ => true
  | .str _ => true
  | _ => false
def eqF : PyData → PyData → Bool
  | .none, .none => true
  | .bool a, .bool b => a == b
  | .bool a, .int b => (if a then 1 else 0) == b
  | .int a, .bool b => a == (if b then 1 else 0)
  | .int a, .int b => a == b
  | .str a, .str b => a == b
  | _, _ => false
def inF (x : PyData) (xs : List PyData) : Bool := xs.any fun y => eqF y x
inductive CmpD : CmpOp → PyData → PyData → Bool → Prop
  | ltI {i j} : CmpD .Lt (.int i) (.int j) (decide (i < j))
  | leI {i j} : CmpD .LtE (.int i) (.int j) (decide (i ≤ j))
  | gtI {i j} : CmpD .Gt (.int i) (.int j) (decide (j < i))
  | geI {i j} : CmpD .GtE (.int i) (.int j) (decide (j ≤ i))
  | eqI {i j} : CmpD .Eq (.int i) (.int j) (decide (i = j))
  | neI {i j} : CmpD .NotEq (.int i) (.int j) (!decide (i = j))
  | eqS {i j} : CmpD .Eq (.str i) (.str j) (decide (i = j))
  | neS {i j} : CmpD .NotEq (.str i) (.str j) (!decide (i = j))
  | eqB {i j} : CmpD .Eq (.bool i) (.bool j) (decide (i = j))
  | neB {i j} : CmpD .NotEq (.bool i) (.bool j) (!decide (i = j))
  | ltS {i j} : CmpD .Lt (.str i) (.str j) (decide (i.cps.toList < j.cps.toList))
  | isN {d} : CmpD .Is d .none (isNonD d)
  | notN {d} : CmpD .IsNot d .none (!isNonD d)
  | inL {d ds} (h1 : flatD d = true) (h2 : ds.all flatD = true) : CmpD .In d (.list ds) (inF d ds)
  | inT {d ds} (h1 : flatD d = true) (h2 : ds.all flatD = true) : CmpD .In d (.tuple ds) (inF d ds)
  | notInL {d ds} (h1 : flatD d = true) (h2 : ds.all flatD = true) : CmpD .NotIn d (.list ds) (!inF d ds)
  | notInT {d ds} (h1 : flatD d = true) (h2 : ds.all flatD = true) : CmpD .NotIn d (.tuple ds) (!inF d ds)
  | inS {c z} : CmpD .In (.str ⟨#[c]⟩) (.str z) (decide (c ∈ z.cps.toList))
  | notInS {c z} : CmpD .NotIn (.str ⟨#[c]⟩) (.str z) (!decide (c ∈ z.cps.toList))
  | eqD {d1 d2} (h1 : SeqAt.shaped d1 = true) (h2 : SeqAt.shaped d2 = true) : CmpD .Eq d1 d2 (PyData.eqv d1 d2)
  | neD {d1 d2} (h1 : SeqAt.shaped d1 = true) (h2 : SeqAt.shaped d2 = true) : CmpD .NotEq d1 d2 (!PyData.eqv d1 d2)
inductive IxD : PyData → Int → PyData → Prop
  | l {ds i d} (h : atI ds i = some d) : IxD (.list ds) i d
  | t {ds i d} (h : atI ds i = some d) : IxD (.tuple ds) i d
  | s {z : Str} {i c} (hz : z.length ≤ sizeLine) (h : atI z.cps.toList i = some c) : IxD (.str z) i (.str ⟨#[c]⟩)
inductive LenD : PyData → Nat → Prop
  | l {ds} : LenD (.list ds) ds.length
  | t {ds} : LenD (.tuple ds) ds.length
  | s {z : Str} (hz : z.length ≤ sizeLine) : LenD (.str z) z.length
inductive TruD : PyData → Bool → Prop
  | non : TruD .none false
  | bl {b} : TruD (.bool b) b
  | int {i} : TruD (.int i) (i != 0)
  | str {z : Str} (hz : z.length ≤ sizeLine) : TruD (.str z) ((z.length : Int) != 0)
  | l {ds} : TruD (.list ds) (!ds.isEmpty)
  | t {ds} : TruD (.tuple ds) (!ds.isEmpty)
theorem flat_dp {K : PySem.W.Frag} {F : Hp} {v : V} {d : PyData} (h : Dp K F v d) : flatV v = flatD d := by
  cases h <;> rfl
theorem flat_dpAll {K : PySem.W.Frag} {F : Hp} : ∀ {vs : List V} {ds : List PyData}, DpAll K F vs ds → vs.all flatV = ds.all flatD
  | _, _, .nil => rfl
  | _, _, .cons a b => by rw [List.all_cons, List.all_cons, flat_dp a, flat_dpAll b]
theorem eq_dp {K : PySem.W.Frag} {F : Hp} {v w : V} {d d' : PyData} (h : Dp K F v d) (h' : Dp K F w d') (f1 : flatD d = true) (f2 : flatD d' = true) : eqV v w = eqF d d' := by
  cases h <;> cases h' <;> first | rfl | (simp [flatD] at f1; done) | (simp [flatD] at f2; done)
theorem in_dp {K : PySem.W.Frag} {F : Hp} {v : V} {d : PyData} (h : Dp K F v d) (f : flatD d = true) : ∀ {vs : List V} {ds : List PyData}, DpAll K F vs ds → ds.all flatD = true → inV v vs = inF d ds
  | _, _, .nil, _ => rfl
  | _, _, .cons a b, g => by
    rw [List.all_cons, Bool.and_eq_true] at g
    have ih := in_dp h f b g.2
    unfold inV inF at ih ⊢
    rw [List.any_cons, List.any_cons, eq_dp a h g.1 f, ih]
section
variable {X : Cx} {e e2 e3 tg iter elt : Expr} {es ifs : List Expr} {st : Stmt} {ss body : List Stmt} {env env' : AEnv} {d d1 d2 : PyData} {A : AE} {pos p p2 p3 p4 : Pos} {N : List Str} {i j : Nat} {x : Str} {k : Nat}
theorem g_add (h1 : XD X e env d1) (h2 : XD X e2 env d2) (h : AddD d1 d2 d) : XD X (.BinOp e .Add e2 pos) env d := by
  cases h with
  | int => exact xd_add h1 h2
  | str h => exact xd_cat h1 h2 h
theorem opd_in {K : PySem.W.Frag} {neg : Bool} {b : Bool} {ds : List PyData} (hd : ∀ F H v, Same F H → Dp K F v d2 → ∃ a vs, v = .ref a ∧ (SqL K H a vs ∨ SqT K H a vs) ∧ DpAll K F vs ds) (h1 : flatD d1 = true) (h2 : ds.all flatD = true) (hb : (if neg then !inF d1 ds else inF d1 ds) = b) : OpD K (rIn K neg) d1 d2 (.bool b) :=
  fun F H v w fr p1 p2 Q q => by
    obtain ⟨a, vs, rfl, z1, z2⟩ := hd F H w fr p2
    exact ⟨a, vs, rfl, z1, by rw [flat_dp p1]; exact h1, by rw [flat_dpAll z2]; exact h2, by rw [in_dp p1 h1 z2 h2, hb]; exact q _ F H (Gro.refl fr) (.bl _)⟩
theorem hd_l {K : PySem.W.Frag} {ds : List PyData} : ∀ F H v, Same F H → Dp K F v (.list ds) → ∃ a vs, v = .ref a ∧ (SqL K H a vs ∨ SqT K H a vs) ∧ DpAll K F vs ds := fun F H v fr p => let ⟨a, vs, e, z1, z2⟩ := dL p; ⟨a, vs, e, .inl (fr.seq z1), z2⟩
theorem hd_t {K : PySem.W.Frag} {ds : List PyData} : ∀ F H v, Same F H → Dp K F v (.tuple ds) → ∃ a vs, v = .ref a ∧ (SqL K H a vs ∨ SqT K H a vs) ∧ DpAll K F vs ds := fun F H v fr p => let ⟨a, vs, e, z1, z2⟩ := dT p; ⟨a, vs, e, .inr (seqT_mono fr z1), z2⟩
theorem cmp_r {op : CmpOp} {b : Bool} (hr : Room k X.A) (h : CmpD op d1 d2 b) : ∃ r, OpR X (compareOp op) r ∧ OpD X.K r d1 d2 (.bool b) := by
  cases h with
  | ltI => exact ⟨_, op_lt, opd_I0 fun _ => .bl _⟩
  | leI => exact ⟨_, op_le, opd_I0 fun _ => .bl _⟩
  | gtI => exact ⟨_, op_gt, opd_I0 fun _ => .bl _⟩
  | geI => exact ⟨_, op_ge, opd_I0 fun _ => .bl _⟩
  | eqI => exact ⟨_, op_eq, opd_eq (fun _ _ => dI) (fun _ _ => dI) rfl dec_int⟩
  | neI => exact ⟨_, op_ne, opd_ne (fun _ _ => dI) (fun _ _ => dI) rfl (by rw [dec_int])⟩
  | eqS => exact ⟨_, op_eq, opd_eq (fun _ _ => dS) (fun _ _ => dS) rfl dec_str⟩
  | neS => exact ⟨_, op_ne, opd_ne (fun _ _ => dS) (fun _ _ => dS) rfl (by rw [dec_str])⟩
  | eqB => exact ⟨_, op_eq, opd_eq (fun _ _ => dB) (fun _ _ => dB) rfl dec_bl⟩
  | neB => exact ⟨_, op_ne, opd_ne (fun _ _ => dB) (fun _ _ => dB) rfl (by rw [dec_bl])⟩
  | ltS => exact ⟨_, op_lt_str, fun F H v w fr p1 p2 Q q => ⟨_, _, dS p1, dS p2, q _ F H (Gro.refl fr) (.bl _)⟩⟩
  | isN => exact ⟨_, op_isN, fun F H v w fr p1 p2 Q q => ⟨dN p2, by rw [dp_non p1]; exact q _ F H (Gro.refl fr) (.bl _)⟩⟩
  | notN => exact ⟨_, op_notN, fun F H v w fr p1 p2 Q q => ⟨dN p2, by rw [dp_non p1]; exact q _ F H (Gro.refl fr) (.bl _)⟩⟩
  | inL h1 h2 => exact ⟨_, op_in_seq, opd_in hd_l h1 h2 rfl⟩
  | inT h1 h2 => exact ⟨_, op_in_seq, opd_in hd_t h1 h2 rfl⟩
  | notInL h1 h2 => exact ⟨_, op_notIn_seq, opd_in hd_l h1 h2 rfl⟩
  | notInT h1 h2 => exact ⟨_, op_notIn_seq, opd_in hd_t h1 h2 rfl⟩
  | inS => exact ⟨_, op_in_sign, fun F H v w fr p1 p2 Q q => ⟨_, _, dS p1, dS p2, q _ F H (Gro.refl fr) (.bl _)⟩⟩
  | notInS => exact ⟨_, op_notIn_sign, fun F H v w fr p1 p2 Q q => ⟨_, _, dS p1, dS p2, q _ F H (Gro.refl fr) (.bl _)⟩⟩
  | eqD s1 s2 => exact ⟨_, op_eqD hr.units, fun F H v w fr p1 p2 Q q => ⟨d1, d2, dp_mono fr p1, dp_mono fr p2, s1, s2, q _ F H (Gro.refl fr) (.bl _)⟩⟩
  | neD s1 s2 => exact ⟨_, op_neD hr.units, fun F H v w fr p1 p2 Q q => ⟨d1, d2, dp_mono fr p1, dp_mono fr p2, s1, s2, q _ F H (Gro.refl fr) (.bl _)⟩⟩
theorem g_cmp {op : CmpOp} {b : Bool} (hr : Room k X.A) (h1 : XD X e env d1) (h2 : XD X e2 env d2) (h : CmpD op d1 d2 b) (hm : behindInMarks op e2 = false := by first | exact nomark _ | rfl) : XD X (.Compare e [op] [e2] pos) env (.bool b) := by
  obtain ⟨r, ho, hd⟩ := cmp_r hr h
  exact x2 (pe_cmpR ho e_w e_w hm) h1 h2 hd
theorem g_cmpT {op : CmpOp} {b : Bool} (hr : Room k X.A) (h1 : XD X e env d1) (h2 : XD X e2 env d2) (h : CmpD op d1 d2 b) (hm : behindInMarks op e2 = false := by first | exact nomark _ | rfl) : XT X (.Compare e [op] [e2] pos) env b := by
  obtain ⟨r, ho, hd⟩ := cmp_r hr h
  exact cmpT (op := op) (pt_cmpR ho e_w e_w hm) h1 h2 hd
/-- a < b < c and its kin -/
theorem g_chain {op op' : CmpOp} {a b : Bool} {d3 : PyData} (hr : Room k X.A) (h1 : XD X e env d1) (h2 : XD X e2 env d2) (h : CmpD op d1 d2 a) (h3 : XD X e3 env d3) (h' : CmpD op' d2 d3 b)
    (hp : ∀ r r', OpR X (compareOp op) r → OpR X (compareOp op') r' → PT X (.Compare e [op, op'] [e2, e3] pos) (tTest (tChain r r' (wE X e) (wE X e2) (wE X e3)))) : XT X (.Compare e [op, op'] [e2, e3] pos) env (a && b) := by
  obtain ⟨r, ho, hd⟩ := cmp_r hr h
  obtain ⟨r', ho', hd'⟩ := cmp_r hr h'
  intro F0 H0 F σ H E Q q
  refine t_of (hp r r' ho ho') ?_
  refine h1 _ _ F σ H E _ fun v F1 H1 g1 p1 => ?_
  refine h2 _ _ F1 σ H1 (E.grow g1) _ fun w F2 H2 g2 p2 => ?_
  refine hd F2 H2 v w g2.fr (dp_mono g2.f p1) p2 _ fun u F3 H3 g3 p3 => ⟨a, dB p3, ?_⟩
  have gA := (g1.trans g2).trans g3
  cases a with
  | true =>
    refine iteT (h3 _ _ F3 σ H3 (E.grow gA) _ fun y F4 H4 g4 p4 => ?_)
    exact hd' F4 H4 w y g4.fr (dp_mono (g3.f.trans g4.f) p2) p4 _ fun z F5 H5 g5 p5 => ⟨b, dB p5, q F5 H5 ((gA.trans g4).trans g5)⟩
  | false => exact iteF ⟨false, rfl, q F3 H3 gA⟩
theorem g_ix {n : Int} (h1 : XD X e env d1) (h2 : XD X e2 env (.int n)) (h : IxD d1 n d) (hp : PlainIx e2 := by exact fun _ _ => rfl) : XD X (.Subscript e e2 pos) env d := by
  cases h with
  | l h => exact xd_ixL h1 h2 h hp
  | t h => exact xd_ixT h1 h2 h hp
  | s hz h => exact xd_ixS h1 h2 hz h hp
theorem g_len {n : Nat} (h1 : XD X e env d1) (h : LenD d1 n) (hm : X.mg "len" = none) (hg : Gl X "len" := by rfl) (hs : starEach [e] X.env = (false, eval e X.env) :: starEach [] X.env := by rfl) (hpl : (backTo pos (starEach [] X.env)).any (·.1) = false := by rfl) :
    XD X (.Call (.Name "len" p) [e] [] pos) env (.int n) := by
  cases h with
  | l => exact xd_lenL h1 hm hg hs hpl
  | t => exact xd_lenT h1 hm hg hs hpl
  | s hz => exact xd_lenS h1 hz hm hg hs hpl
theorem g_tru {b : Bool} (h1 : XD X e env d1) (h : TruD d1 b) (he : ∀ whole, isTrue e X.env whole = (do let v ← whole; standAt e.pos; holding [v] (truthy v)) := by intro _; rfl) : XT X e env b := by
  intro F0 H0 F σ H E Q q
  refine t_of (pt_truth e_w he) (h1 _ _ F σ H E _ fun v F1 H1 g1 p1 => ?_)
  cases h with
  | non => rw [dN p1]; exact ⟨_, rfl, q F1 H1 g1⟩
  | bl => rw [dB p1]; exact ⟨_, rfl, q F1 H1 g1⟩
  | int => rw [dI p1]; exact ⟨_, rfl, q F1 H1 g1⟩
  | str hz => rw [dS p1]; exact ⟨_, ⟨hz, rfl⟩, q F1 H1 g1⟩
  | l =>
    rename_i ds
    obtain ⟨a, vs, rfl, z1, z2⟩ := dL p1
    have e1 : vs.isEmpty = ds.isEmpty := by cases z2 <;> rfl
    exact ⟨!vs.isEmpty, .inl ⟨vs, g1.fr.seq z1, rfl⟩, by rw [e1]; exact q F1 H1 g1⟩
  | t =>
    rename_i ds
    obtain ⟨a, vs, rfl, z1, z2⟩ := dT p1
    have e1 : vs.isEmpty = ds.isEmpty := by cases z2 <;> rfl
    exact ⟨!vs.isEmpty, .inr (.inl ⟨vs, seqT_mono g1.fr z1, rfl⟩), by rw [e1]; exact q F1 H1 g1⟩
/-- the truth of a list of one's own -/
theorem n_truO {xs : List PyData} (hN : X.N = N) (hat : AtN N env i x (.l xs)) (hs : Vis X.env.scope x := by first | exact Or.inl rfl | exact Or.inr (Or.inl rfl) | exact Or.inr (Or.inr rfl))
    (hd : (x == ("__debug__" : Str)) = false := by decide) (hc : (x == ("__classdict__" : Str)) = false := by decide) (he : ∀ whole, isTrue (.Name x p) X.env whole = (do let v ← whole; standAt (Expr.Name x p).pos; holding [v] (truthy v)) := by intro _; rfl) : XT X (.Name x p) env (!xs.isEmpty) := by
  subst hN
  intro F0 H0 F σ H E Q q
  obtain ⟨v, s1, a, vs, rfl, z1, z2⟩ := E.slot i _ hat.get.1
  refine t_of (pt_truth (pe_var hat.get.2 hs hd hc) he) ⟨_, s1, _, .inl ⟨vs, .inl (.inl z1), rfl⟩, ?_⟩
  have : vs.isEmpty = xs.isEmpty := by cases z2 <;> rfl
  rw [this]; exact q F H E.rfl'

/-! ## isinstance of a built-in class -/
def tyD : PyData → String
  | .none => "NoneType"
  | .bool _ => "bool"
  | .int _ => "int"
  | .str _ => "str"
  | .list _ => "list"
  | .tuple _ => "tuple"
  | .dict _ => "dict"
theorem tyx_dp {K : PySem.W.Frag} {F H : Hp} {v : V} {d : PyData} (fr : Same F H) (h : Dp K F v d) : TyX K H v (.type (tyD d)) := by
  cases h with
  | non => exact .base .non
  | bl b => exact .base (.bl b)
  | int i => exact .base (.int i)
  | str z => exact .base (.str z)
  | lst h _ =>
    rcases h with (z | ⟨o, z⟩) | ⟨o, its, n, z, c, _⟩
    · exact .base (.lst (fr _ _ z))
    · exact .base (.frz (fr _ _ z))
    · exact .kList z c
  | tup h _ =>
    rcases h with (z | ⟨o, z⟩) | ⟨o, its, n, z, c, _⟩
    · exact .base (.tup (fr _ _ z))
    · exact .fTuple (fr _ _ z)
    · exact .kTuple z c
theorem g_isi {T : Str} {t : String} {b : Bool} (h1 : XD X e env d1) (hk : kitB (tyD d1) t = some b) (hm : X.mg "isinstance" = none) (hT : X.mg T = none) (hv : bootBuiltins T = some (.type t) := by decide +kernel) (hg : Gl X "isinstance" := by rfl) (hgT : Gl X T := by rfl)
    (hn : T ≠ "__name__" := by decide) (hdb : (T == ("__debug__" : Str)) = false := by decide)
    (hs : starEach [e, .Name T p2] X.env = (false, eval e X.env) :: starEach [.Name T p2] X.env := by rfl) (hs2 : starEach [.Name T p2] X.env = (false, eval (.Name T p2) X.env) :: starEach [] X.env := by rfl) (hpl : (backTo pos (starEach [.Name T p2] X.env)).any (·.1) = false := by rfl) :
    XD X (.Call (.Name "isinstance" p) [e, .Name T p2] [] pos) env (.bool b) := fun F0 H0 F σ H E Q q => by
  refine e_of (pe_callB call_isi hg hm (by decide +kernel) (pa_cons e_w (pa_cons (pe_bltn (v := .ty t) hgT hT hv rfl hn hdb) pa_nil hs2) hs) (by decide) (by decide) hs hpl) ?_
  refine h1 _ _ F σ H E _ fun v F1 H1 g1 p1 => ?_
  exact ⟨v, .ty t, .type (tyD d1), .type t, b, rfl, .ty t, tyx_dp g1.fr p1, kit_ty hk, q _ F1 H1 g1 (.bl b)⟩

theorem boot_str' : bootBuiltins "str" = some (.type "str") := by decide +kernel
theorem boot_int' : bootBuiltins "int" = some (.type "int") := by decide +kernel
theorem boot_tuple' : bootBuiltins "tuple" = some (.type "tuple") := by decide +kernel
theorem boot_list' : bootBuiltins "list" = some (.type "list") := by decide +kernel
theorem boot_bool' : bootBuiltins "bool" = some (.type "bool") := by decide +kernel
theorem kb_ss : kitB "str" "str" = some true := by decide +kernel
theorem kb_tt : kitB "tuple" "tuple" = some true := by decide +kernel
theorem kb_ii : kitB "int" "int" = some true := by decide +kernel
theorem kb_ib : kitB "int" "bool" = some false := by decide +kernel
theorem kb_bb : kitB "bool" "bool" = some true := by decide +kernel
theorem kb_ll : kitB "list" "list" = some true := by decide +kernel
section
variable {b : Bool} {T : Str} {t : String}
theorem g_isi' (h1 : XD X e env d1) (hk : kitB (tyD d1) t = some b) (hm : X.mg "isinstance" = none) (hT : X.mg T = none) (hv : bootBuiltins T = some (.type t)) (hn : T ≠ "__name__") (hdb : (T == ("__debug__" : Str)) = false) (hg : Gl X "isinstance" := by rfl) (hgT : Gl X T := by rfl)
    (hs : starEach [e, .Name T p2] X.env = (false, eval e X.env) :: starEach [.Name T p2] X.env := by rfl) (hs2 : starEach [.Name T p2] X.env = (false, eval (.Name T p2) X.env) :: starEach [] X.env := by rfl) (hpl : (backTo pos (starEach [.Name T p2] X.env)).any (·.1) = false := by rfl) :
    XD X (.Call (.Name "isinstance" p) [e, .Name T p2] [] pos) env (.bool b) := g_isi h1 hk hm hT hv hg hgT hn hdb hs hs2 hpl
end
theorem nn_str : ("str" : Str) ≠ "__name__" := by decide
theorem nn_tuple : ("tuple" : Str) ≠ "__name__" := by decide
theorem nn_int : ("int" : Str) ≠ "__name__" := by decide
theorem nn_bool : ("bool" : Str) ≠ "__name__" := by decide
theorem nn_list : ("list" : Str) ≠ "__name__" := by decide
theorem nd_str : (("str" : Str) == ("__debug__" : Str)) = false := by decide
theorem nd_tuple : (("tuple" : Str) == ("__debug__" : Str)) = false := by decide
theorem nd_int : (("int" : Str) == ("__debug__" : Str)) = false := by decide
theorem nd_bool : (("bool" : Str) == ("__debug__" : Str)) = false := by decide
theorem nd_list : (("list" : Str) == ("__debug__" : Str)) = false := by decide

/-! ## a text backwards -/
def revS (z : Str) : Str := ⟨z.cps.toList.reverse.toArray⟩
theorem revS_len (z : Str) : (revS z).length = z.length := by simp [revS, Str.length]
def tRevS (te : TE) : TE := fun σ H Q => te σ H fun x H1 => ∃ z, x = .str z ∧ z.length ≤ sizeLine ∧ Q (.str (revS z)) H1
theorem pe_revS {te : TE} {kk : Nat} {p1 : Pos} (he : PE X e te) : PE X (.Subscript e (.Slice none none (some (.UnaryOp .USub (.Constant (.int 1) kk p1) p2)) p3) pos) (tRevS te) := by
  refine ⟨fun pins s σ H Q I h => ?_⟩
  refine Subscript_ (thn (he.run pins s σ H _ I h) fun v s1 ⟨x, H1, I1, r1, q1⟩ => ?_)
  obtain ⟨z, rfl, hz, q⟩ := q1
  obtain ⟨t, rfl⟩ := r1
  have hst : PO X (some (.UnaryOp .USub (.Constant (.int 1) kk p1) p2)) (tPart (tUn (rU fun i => .int (-i)) (tC (.int 1)))) := po_some (pe_un un_neg pe_int)
  refine wpAny_Slice (thn (po_none.run pins s1 σ H1 (fun o H2 => o = none ∧ H2 = H1) I1 ⟨rfl, rfl⟩) fun vl s2 ⟨l, H2, I2, pl, el, e2⟩ => ?_)
  subst el e2
  refine thn (po_none.run pins s2 σ H2 (fun o H3 => o = none ∧ H3 = H2) I2 ⟨rfl, rfl⟩) fun vu s3 ⟨u, H3, I3, pu, eu, e3⟩ => ?_
  subst eu e3
  refine thn (hst.run pins s3 σ H3 (fun o H4 => o = some (-1) ∧ H4 = H3) I3 ⟨1, rfl, -1, rfl, rfl, rfl⟩) fun vs s4 ⟨o, H4, I4, ps, eo, e4⟩ => ?_
  subst eo e4
  obtain ⟨l', hl, e5⟩ := IsPart.raw pl
  obtain ⟨u', hu, e6⟩ := IsPart.raw pu
  obtain ⟨w', hw, e7⟩ := IsPart.raw ps
  have l0 : l' = none := by cases l' with
    | none => rfl
    | some y => simp at e5
  have u0 : u' = none := by cases u' with
    | none => rfl
    | some y => simp at e6
  obtain ⟨tw, w0⟩ : ∃ tw, w' = some (-1, tw) := by
    cases w' with
    | none => simp at e7
    | some y => obtain ⟨y1, y2⟩ := y; simp at e7; exact ⟨y2, by rw [e7]⟩
  subst l0 u0 w0 hl hu hw
  have hsl : (s4.heap.push { cls := .type "slice", data := .fields #[partValue none, partValue none, partValue (some (-1, tw))] }).IsSlice s4.heap.objs.size none none (some (-1, tw)) := ⟨_, Heap.get?_push_size _ rfl, rfl, rfl⟩
  have I5 : L2.Inv X pins σ H4 { s4 with heap := s4.heap.push { cls := .type "slice", data := .fields #[partValue none, partValue none, partValue (some (-1, tw))] } } := I4.kept (t' := s4.toks) fun b ob q => Heap.get?_push_of_some _ q
  show wpAny (model X.prog X.w) X.A (subscriptTail e (.Slice none none (some (.UnaryOp .USub (.Constant (.int 1) kk p1) p2)) p3) (.str z t) (.ref s4.heap.objs.size)) (EP X pins σ Q) X.xe { s4 with heap := s4.heap.push { cls := .type "slice", data := .fields #[partValue none, partValue none, partValue (some (-1, tw))] } }
  refine tail_any (ops := [.str z t, .ref s4.heap.objs.size]) (typeIs_str _ _ _) F.slot_str_getitem.lookup ?_ (by with_unfolding_all rfl)
  refine wpAny_getItem_str_slice hsl rfl ?_
  have e8 : (⟨((slicePicked z none none (some (-1, tw))).filterMap (z.cps[·]?)).toArray⟩ : Str) = revS z := by
    have h1 : ((slicePicked z none none (some (-1, tw))).filterMap (z.cps[·]?)) = z.cps.toList.reverse := by
      show ((Builtin.Str.strSliceIndices none none (-1) z.length).filterMap (z.cps[·]?)) = _
      rw [picked_rev, filterMap_get _ _ (fun i hi => by
        obtain ⟨k, hk, rfl⟩ := List.mem_map.mp hi
        have := List.mem_range.mp hk
        show _ < z.length
        omega), List.map_map]
      apply List.ext_getElem
      · simp [Str.length]
      · intro i a b
        simp [Str.length] at a b ⊢
        have hb : z.cps.size - 1 - i < z.cps.size := by omega
        rw [Array.getElem?_eq_getElem hb]
        rfl
    unfold revS
    rw [h1]
  have e9 : sliceMade z t none none (some (-1, tw)) = .str (revS z) := by
    unfold sliceMade
    rw [if_neg (by simp), e8]
  rw [e9]
  exact ⟨by rw [revS_len]; exact hz, .str _, H4, I5.tok _, ⟨_, rfl⟩, q⟩
theorem g_rev {z : Str} {kk : Nat} {p1 : Pos} (h : XD X e env (.str z)) (hz : z.length ≤ sizeLine) : XD X (.Subscript e (.Slice none none (some (.UnaryOp .USub (.Constant (.int 1) kk p1) p2)) p3) pos) env (.str (revS z)) := fun F0 H0 F σ H E Q q =>
  e_of (pe_revS e_w) (h _ _ F σ H E _ fun v F1 H1 g1 p1 => ⟨z, dS p1, hz, q _ F1 H1 g1 (.str _)⟩)

/-! ## text * number -/
def repS (z : Str) (n : Nat) : Str := ⟨(List.replicate n z.cps.toList).flatten.toArray⟩
theorem foldl_arr : ∀ (l : List (Array Nat)) (a : Array Nat), (l.foldl (· ++ ·) a).toList = a.toList ++ (l.map (·.toList)).flatten
  | [], a => by simp
  | x :: r, a => by
    rw [List.foldl_cons, foldl_arr r (a ++ x)]; simp
theorem repS_eq (z : Str) (n : Nat) : (⟨(List.replicate n z.cps).foldl (· ++ ·) #[]⟩ : Str) = repS z n := by
  unfold repS
  congr 1
  apply Array.toList_inj.mp
  rw [foldl_arr]
  simp
theorem repS_len (z : Str) (n : Nat) : (repS z n).length = n * z.length := by
  simp [repS, Str.length]
def rMulS : R2 := fun x y H Q => ∃ z n, x = .str z ∧ y = .int n ∧ -100000 ≤ n ∧ n ≤ 100000 ∧ z.length * n.toNat ≤ sizeLine ∧ Q (.str (repS z n.toNat)) H
theorem op_mulS : OpR X (binaryOp .Mult) rMulS := by
  intro pins s σ H x y v u Q I rx ry h
  obtain ⟨z, n, rfl, rfl, h1, h2, hz, q⟩ := h
  obtain ⟨t, rfl⟩ := rx
  obtain ⟨t', rfl⟩ := ry
  have hsl := sizeLine_eq
  by_cases n1 : n < 1
  · refine PySem.P.mul_str_none n1 (by omega) ⟨.str _, H, I.tok _, ⟨_, rfl⟩, ?_⟩
    rw [show n.toNat = 0 by omega] at q
    exact q
  refine PySem.P.mul_str ?_ (fun _ _ => ?_) (fun _ _ => ?_) ?_
  · rw [decide_eq_false (by omega), decide_eq_false (by omega)]; rfl
  · have h3 : (z.length : Int) ≤ (2 ^ 63 - 1) / n := by
      rw [Int.le_ediv_iff_mul_le (by omega)]
      have h4 : (z.length : Int) * n = ((z.length * n.toNat : Nat) : Int) := by
        rw [Int.natCast_mul, Int.toNat_of_nonneg (by omega)]
      rw [h4]
      omega
    omega
  · exact decide_eq_false (by omega)
  · rw [if_neg n1]
    by_cases c : (n == 1 || z.length == 0) = true
    · rw [if_pos c]
      have e : repS z n.toNat = z := by
        rw [Bool.or_eq_true, beq_iff_eq, beq_iff_eq] at c
        rcases c with c | c
        · subst c; simp [repS]
        · have : z.cps = #[] := Array.eq_empty_of_size_eq_zero c
          cases z; simp at this; subst this
          simp [repS]
      rw [e] at q
      exact ⟨.str z, H, I, ⟨t, rfl⟩, q⟩
    · rw [if_neg c, repS_eq]
      exact ⟨by rw [repS_len, Nat.mul_comm]; exact hz, .str _, H, I.tok _, ⟨_, rfl⟩, q⟩
theorem g_mulS {z : Str} {n : Int} (h1 : XD X e env (.str z)) (h2 : XD X e2 env (.int n)) (hn : -100000 ≤ n ∧ n ≤ 100000) (hz : z.length * n.toNat ≤ sizeLine) : XD X (.BinOp e .Mult e2 pos) env (.str (repS z n.toNat)) :=
  x2 (pe_op op_mulS e_w e_w) h1 h2 fun F H v w fr p1 p2 Q q => ⟨z, n, dS p1, dI p2, hn.1, hn.2, hz, q _ F H (Gro.refl fr) (.str _)⟩
/-! ## list + list, both read -/
def rCatQ (K : PySem.W.Frag) : R2 := fun x y H Q => ∃ l b xs zs, x = .ref l ∧ y = .ref b ∧ SqL K H l xs ∧ SqL K H b zs ∧ xs.length + zs.length ≤ sizeLine ∧ ∀ p, H p = none → Q (.ref p) (upd H p (.lst (xs ++ zs)))
theorem op_catQ : OpR X (binaryOp .Add) (rCatQ X.K) := by
  intro pins s σ H x y v u Q I rx ry h
  obtain ⟨l, b, xs, zs, rfl, rfl, hH, hB, hz, q⟩ := h
  cases rx
  cases ry
  obtain ⟨its, r, ⟨o1, n1, e1, c1, _, d1⟩, hl⟩ := I.list hH
  obtain ⟨its2, r2, ⟨o2, n2, e2, c2, _, d2⟩, hl2⟩ := I.list hB
  obtain ⟨cls, dd, data, sl⟩ := o1
  obtain ⟨cls2, dd2, data2, sl2⟩ := o2
  simp only at c1 d1 c2 d2
  subst c1 d1 c2 d2
  have q1 := r.length
  have q2 := r2.length
  have ea : its.toArray ++ its2.toArray = (its ++ its2).toArray := by simp
  refine concat_meets ⟨_, e1, rfl⟩ ⟨_, e2, rfl⟩ noFill_list_add seq_list_add PySem.F.slot_list_add PySem.F.entry_list_add (PySem.F.args_list_add_2 _ _) (list_addW l b its.toArray its2.toArray n1 n2 dd dd2 sl sl2 (by simp; omega)) ⟨e1, e2, ?_⟩
  rw [ea]
  exact ⟨.ref _, _, I.lnew (t' := s.toks) (r.append r2) (by rw [List.length_append]; omega), rfl, q _ I.fresh⟩
theorem xl_catD {xs ys : List PyData} (h1 : XD X e env (.list xs)) (h2 : XD X e2 env (.list ys)) (hz : xs.length + ys.length ≤ sizeLine) : XL X (.BinOp e .Add e2 pos) env (xs ++ ys) := fun F0 H0 F σ H E Q q => by
  refine e_of (pe_op op_catQ e_w e_w) (h1 _ _ F σ H E _ fun v F1 H1 g1 p1 => ?_)
  refine h2 _ _ F1 σ H1 (E.grow g1) _ fun w F2 H2 g2 p2 => ?_
  obtain ⟨a, vs, rfl, z1, z2⟩ := dL p1
  obtain ⟨b, us, rfl, y1, y2⟩ := dL p2
  refine ⟨a, b, vs, us, rfl, rfl, (g2.f.trans g2.fr).seq z1, g2.fr.seq y1, by rw [dpAll_len z2, dpAll_len y2]; exact hz, fun t ht => ?_⟩
  exact q t _ F2 _ ((g1.trans g2).trans (Gro.own g2.fr ht)) ((g1.trans g2).h.free ht) (g2.fr.free ht) upd_same (dpAll_append (dpAll_mono g2.f z2) y2)
/-- y = f(..), any of its answers -/
theorem n_setAny {y x : Str} {C : Cn} {env' : PyData → AEnv} {p0 p9 : Pos} (D : DefOk X.prog X.w X.K X.mg X.base x k C) (hr : Room k X.A) (c : C.ι) (ha : XA X (e :: es) env (C.args c)) (hp : C.ok c) (hN : X.N = N) (hnd : N.Nodup) (hst : ∀ r, SetN N env i y (some (.d r)) (env' r)) (hn : ∀ r, C.post c r → A.nx (env' r))
    (hyy : L2.Loc X.env.scope y := by first | exact .inl rfl | exact .inr rfl)
    (hs : swapsWith (.Call (.Name x p) (e :: es) [] p9) (some (.Name y p2)) p0.line X.env = pure false := by rfl) (hf : X.fn y = true ∨ X.env.scope.names.lookup y = some .local := by first | exact .inl rfl | exact .inr rfl) (hg : Gl X x := by rfl) (hdb : (x == ("__debug__" : Str)) = false := by decide)
    (he : starEach (e :: es) X.env = (false, eval e X.env) :: starEach es X.env := by rfl) (hpl : (backTo p9 (starEach es X.env)).any (·.1) = false := by rfl) (hx : Passes CX0 X E0 := by exact pass0) : XS X (.Assign [.Name y p2] (.Call (.Name x p) (e :: es) [] p9) p0) env A := fun F0 H0 F σ H D' E l => by
  subst hN
  obtain ⟨f, fd, ps, FO, hm, kp, bd⟩ := D.ex
  refine s_of (ps_set hnd (hst .none).get.2 hyy (pe_call FO hr hg hm kp bd .nil hx a_w hdb he hpl) hs hf) (ha _ _ F σ H E _ fun vs F1 H1 g1 p1 => ?_)
  rw [List.append_nil]
  exact ⟨F1, c, g1.fr, p1, hp, fun r v F2 H2 hr g2 p2 => l.nx _ F2 _ H2 ((E.grow (g1.trans g2)).set (av := .d r) p2 rfl) (by rw [(hst r).get.1]; exact hn r hr)⟩
/-! ## tests whose answer is known -/
theorem xs_ifF {b : Bool} {a c : List Stmt} (h : XT X e env b) (hb : b = false) (h2 : XB X c env A) : XS X (.If e a c pos) env A :=
  xs_if h (fun q => by rw [hb] at q; cases q) (fun _ => h2)
theorem xs_ifT {b : Bool} {a c : List Stmt} (h : XT X e env b) (hb : b = true) (h1 : XB X a env A) : XS X (.If e a c pos) env A :=
  xs_if h (fun _ => h1) (fun q => by rw [hb] at q; cases q)
theorem xl_to {xs ys : List PyData} (h : XL X e env xs) (he : xs = ys) : XL X e env ys := he ▸ h
end
end FR

namespace FR
open PySem PySem.Spec PyProof.Rows L2 PySem.Froz

/-! ## sets of texts: made of a list or a tuple, sorted -/
/-- the members that the first i texts give, the last new one ahead -/
def grpS (ss : List Str) : Nat → List Str
  | 0 => []
  | i + 1 => match ss[i]? with
    | some k => if k ∈ grpS ss i then grpS ss i else k :: grpS ss i
    | none => grpS ss i
def uniS (ss : List Str) : List Str := grpS ss ss.length
theorem grp_nodup (ss : List Str) : ∀ i, (grpS ss i).Nodup
  | 0 => List.nodup_nil
  | i + 1 => by
    unfold grpS
    split
    · split
      · exact grp_nodup ss i
      · rename_i k _ hk
        exact List.nodup_cons.mpr ⟨hk, grp_nodup ss i⟩
    · exact grp_nodup ss i
theorem grp_len (ss : List Str) : ∀ i, (grpS ss i).length ≤ i
  | 0 => Nat.le_refl 0
  | i + 1 => by
    have ih := grp_len ss i
    unfold grpS
    split
    · split
      · omega
      · rw [List.length_cons]; omega
    · omega
theorem grp_mem (ss : List Str) (x : Str) : ∀ i, x ∈ grpS ss i ↔ x ∈ ss.take i
  | 0 => by simp [grpS]
  | i + 1 => by
    have ih := grp_mem ss x i
    rw [List.take_add_one, List.mem_append]
    unfold grpS
    cases h : ss[i]? with
    | none => simp [ih]
    | some k =>
      by_cases c : k ∈ grpS ss i
      · simp only [c, if_true, ih, Option.toList_some, List.mem_singleton]
        exact ⟨Or.inl, fun q => q.elim id fun e => by rw [e, ← grp_mem ss k i]; exact c⟩
      · simp only [c, if_false, List.mem_cons, ih, Option.toList_some, List.not_mem_nil, or_false]
        exact Or.comm
theorem uni_nodup (ss : List Str) : (uniS ss).Nodup := grp_nodup ss _
theorem uni_mem (ss : List Str) (x : Str) : x ∈ uniS ss ↔ x ∈ ss := by
  unfold uniS
  rw [grp_mem, List.take_length]
theorem uni_len (ss : List Str) : (uniS ss).length ≤ ss.length := grp_len ss _

def txV (e : Int × Value) : Str := match e.2 with | .str x _ => x | _ => ⟨#[]⟩
/-- a table whose slots rise, walked as the world says -/
def Strolls (w : World) (t : SetTable) : Prop := Ris t.place.toList ∧ (w.params.followText "set-order" = true ∨ t.led = true)
theorem strolls_add {w : World} {h : Int} {v : Value} {D : SD} (q : Strolls w D.2.2) : Strolls w (addTx h v D).2.2 := by
  obtain ⟨es, ep, t⟩ := D
  have a1 := layNew_ris t es h v q.1
  have a2 := layNew_led t es h v
  unfold addTx tailTx
  dsimp only
  generalize layNew t es h v = Z at a1 a2 ⊢
  have a3 : Strolls w Z.2.1 := ⟨a1, q.2.imp id fun z => by rw [a2]; exact z⟩
  have a4 : Strolls w (if Z.2.1.plain = true then { Z.2.1 with plain := false } else Z.2.1) := by
    split
    · exact a3
    · exact a3
  generalize (if Z.2.1.plain = true then { Z.2.1 with plain := false } else Z.2.1) = t2 at a4 ⊢
  split
  · exact ⟨relayAll_ris _ _ _, a4.2.imp id fun z => by rw [relayAll_led]; exact z⟩
  · exact a4
theorem perm_add {h : Int} {v : Value} {D : SD} : (addTx h v D).1.toList.Perm ((h, v) :: D.1.toList) := by
  obtain ⟨es, ep, t⟩ := D
  have a1 := layNew_perm t es h v
  unfold addTx tailTx
  dsimp only
  generalize layNew t es h v = Z at a1 ⊢
  rw [Array.toList_push] at a1
  have a2 : Z.1.toList.Perm ((h, v) :: es.toList) := a1.trans (List.perm_append_singleton _ _)
  generalize (if Z.2.1.plain = true then { Z.2.1 with plain := false } else Z.2.1) = t2
  split
  · exact (relayAll_perm _ _ _).trans a2
  · exact a2
/-- the set of the texts l at a -/
def TxSet (P : Program) (w : World) (h : Heap) (a : Addr) (l : List Str) : Prop :=
  ∃ D : SD, h.get? a = some (sObj "set" D) ∧ TxOk P w D l ∧ Strolls w D.2.2 ∧ (D.1.toList.map txV).Perm l ∧ D.1.size < scanBound
theorem TxSet.keep {P : Program} {w : World} {h h' : Heap} {a : Addr} {l : List Str} (R : TxSet P w h a l) (k : ∀ o, h.get? a = some o → h'.get? a = some o) : TxSet P w h' a l :=
  let ⟨D, ho, r⟩ := R; ⟨D, k _ ho, r⟩
def TxObj (P : Program) (w : World) (a : Addr) (l : List Str) : HO := .ext fun h => TxSet P w h a l
theorem txObj_ok {P : Program} {w : World} {H : Hp} {h : Heap} {a : Addr} {l : List Str} (R : TxSet P w h a l) : ObjOk P w H h a (TxObj P w a l) :=
  ⟨R, ⟨_, R.choose_spec.1⟩, fun _ _ p k => TxSet.keep p k⟩
section
variable {P : Program} {w : World} {A : Around} {E : Value → Shared → Prop} {s : Shared}
/-- one text more -/
theorem tx_more {a : Addr} {l : List Str} {k : Str} {u : Tok} {Q : Bool → Shared → Prop} (R : TxSet P w s.heap a l) (hb : l.length + 1 < scanBound)
    (q : ∀ h' b, Heap.SameBut a s.heap h' → TxSet P w h' a (if k ∈ l then l else k :: l) → Q b { s with heap := h' }) : wpAny (model P w) A (setAddHashed a (.str k u) (hashStr w k)) Q E s := by
  obtain ⟨D, ho, F, st, pm, sb⟩ := R
  by_cases hk : k ∈ l
  · rw [if_pos hk] at q
    obtain ⟨es, ep, t⟩ := D
    have hd : (sObj "set" (es, ep, t)).data = .set es ep t := rfl
    have hel : ElemsOf (strKind P w) es.toList := F.el
    unfold setAddHashed setAddHashedIn
    refine wpAny_holding (wpAny_bind (wpAny_setState_of ho hd F.fit ?_))
    dsimp only; rw [byScan_of rfl sb hel]; simp only [↓reduceIte]
    unfold setAddByScan
    refine wpAny_bind (wpAny_bind (wpAny_rule (wpAny_bind (wpAny_setScan_of (knd := strKind P w) (k := k) (is_str k u) ho hd F.fit hel ?_))))
    cases hr : List.findIdx? (fun e => (strKind P w).is k e.2) es.toList with
    | none =>
      obtain ⟨e, he, z⟩ := (F.mem k).mp hk
      have := List.findIdx?_eq_none_iff.mp hr e he
      rw [z] at this; cases this
    | some j => dsimp only; exact wpAny_pure (wpAny_pure (q s.heap _ (Heap.SameBut.refl a s.heap) ⟨_, ho, F, st, pm, sb⟩))
  · rw [if_neg hk] at q
    have hF := add_ok (k := k) u F
    have hs : (addTx (hashStr w k) (.str k u) D).1.size < scanBound := by rw [show (addTx (hashStr w k) (.str k u) D).1.size = (k :: l).length from hF.sz]; exact hb
    refine add_x ho F hk hb (q _ _ (Heap.SameBut.update _ a _) ⟨_, get_upd _ ho rfl, hF, strolls_add st, ?_, hs⟩)
    exact (perm_add.map txV).trans (List.Perm.cons _ pm)
theorem tx_loop {I : Addr} {fp wr : List Addr} {G : Array GenState → Array GenState → Prop} {n : Nat} {Pv : Nat → Value → Prop} {St : Nat → Shared → Prop} {R : Result → Shared → Prop}
    (W : WalksS P w A.in1 I fp wr G n Pv St) (a : Addr) (ha : a ∉ fp) (ss : List Str) (hn : n = ss.length) (hb : ss.length + 1 < scanBound) (hv : ∀ i v, Pv i v → ∃ k t, ss[i]? = some k ∧ v = .str k t) :
    ∀ (m i : Nat) (s : Shared), n - i = m → i ≤ n → St i s → TxSet P w s.heap a (grpS ss i) →
      (∀ s', Moved (a :: wr) G s s' → TxSet P w s'.heap a (uniS ss) → R (.ok (.ret .none)) s') → codeAny (model P w) A (.builtin "set.update.loop" ⟨[.ref a, .ref I], []⟩) R s := by
  have aw : a ∉ wr := fun z => ha (W.sub _ z)
  have sub : ∀ b ∈ wr, b ∈ a :: wr := fun b z => .tail _ z
  intro m
  induction m with
  | zero =>
    intro i s hm hi hst T q
    obtain rfl : i = n := by omega
    refine codeAny_builtin PyProof.Rows.F.entry_set_update_loop ?_; rw [Around.under_plainId PyProof.Rows.F.plain_set_update_loop _]
    show wpAny _ A.in1 (pyNext (.ref I) >>= _) _ _ s
    refine wpAny_bind (W.done s _ _ hst fun s' mv => ?_); show wpAny _ A.in1 (ret Value.none) _ _ s'
    exact wpAny_pure (q s' (mv.mono sub) (by have := T.keep (h' := s'.heap) fun o e => mv.heap a o aw e; unfold uniS; rw [← hn]; exact this))
  | succ m ih =>
    intro i s hm hi hst T q
    have lt : i < n := by omega
    refine codeAny_builtin PyProof.Rows.F.entry_set_update_loop ?_; rw [Around.under_plainId PyProof.Rows.F.plain_set_update_loop _]
    show wpAny _ A.in1 (pyNext (.ref I) >>= _) _ _ s
    refine wpAny_bind (W.item i s _ _ lt hst fun v s' hP hst' mv => ?_)
    obtain ⟨k, t, hk, rfl⟩ := hv i v hP
    have T1 := T.keep (h' := s'.heap) fun o e => mv.heap a o aw e
    show wpAny _ A.in1 (holding [Value.str k t] (setAdd a (.str k t)) >>= _) _ _ s'
    refine wpAny_bind (wpAny_holding ?_); unfold setAdd
    refine wpAny_holding (wpAny_bind ((strKind P w).pyHash (k := k) (is_str k t) ?_))
    have gl := grp_len ss i
    refine tx_more (s := { s' with toks := s'.toks + 1 }) T1 (by omega) fun h' b sb T2 => ?_
    have e : grpS ss (i + 1) = if k ∈ grpS ss i then grpS ss i else k :: grpS ss i := by
      show (match ss[i]? with | some k => _ | none => _) = _
      rw [hk]
    rw [← e] at T2
    refine wpAny_pure ⟨plainId_quiet PyProof.Rows.F.plain_set_update_loop _, ih (i + 1) _ (by omega) lt (W.frame _ s' _ _ hst' (Nat.le_succ _) fun c hc o z => ?_) T2 fun s'' mv2 T3 => ?_⟩
    · rw [sb.2 c (fun y : c = a => ha (y ▸ hc))]; exact z
    · refine q s'' (Moved.trans W.gtrans ((mv.mono sub).then_heap (Nat.le_succ _) fun c o hc z => ?_) mv2) T3
      rw [sb.2 c (fun y : c = a => hc (y ▸ List.mem_cons_self))]; exact z
abbrev emptyS (w : World) : Obj := { cls := .type "set", dict := none, data := .set #[] 0 (.fresh 0 0 (!w.params.followText "set-order")) }
theorem tx_fresh {h : Heap} {a : Addr} {ss : List Str} (ho : h.get? a = some (emptyS w)) : TxSet P w h a (grpS ss 0) :=
  ⟨(#[], 0, .fresh 0 0 (!w.params.followText "set-order")), ho, TxOk.nil rfl, ⟨List.Pairwise.nil, by
    show _ ∨ (!w.params.followText "set-order") = true
    cases w.params.followText "set-order"
    · exact .inr rfl
    · exact .inl rfl⟩, List.Perm.nil, by show 0 < scanBound; unfold scanBound; omega⟩
theorem set_texts {l : Addr} {its : Array Value} {ss : List Str} {Q : Value → Shared → Prop} (hh : A.handled = none) (hl : s.heap.IsList l its ∨ s.heap.IsTuple l its) (hsz : its.size = ss.length)
    (hval : ∀ (i : Nat) (v : Value), its[i]? = some v → ∃ k t, ss[i]? = some k ∧ v = .str k t) (hb : ss.length + 1 < scanBound)
    (q : ∀ (h' : Heap) (tk : Nat), TxSet P w h' s.heap.objs.size (uniS ss) → (∀ b o, s.heap.get? b = some o → h'.get? b = some o) → Q (.ref s.heap.objs.size) { s with heap := h', toks := tk }) :
    wpAny (model P w) A (call (.type "set") [.ref l]) Q E s := by
  obtain ⟨mc, mt, hmro⟩ := PySem.F.called_set.mro
  have c1 := PySem.F.called_set.made; have c2 := PySem.F.called_set.sub
  refine wpAny_call (codeAny_of_tree ?_); show wpAny _ _ (callAny (.type "set") _) _ _ _
  refine wpAny_pure ⟨Code.quiet_builtin _ (by decide +kernel), codeAny_builtin PySem.F.entry_type_call ?_⟩; rw [Around.under_plain (weight_type_call_type "set" [.ref l] []) rfl]
  have c3 := PySem.F.called_set.notType; have c4 := PySem.F.called_set.canCreate; have c5 := PySem.F.typeCall_set_1 (.ref l)
  repeat (any_goals (first | assumption | wp_step))
  refine codeAny_mono (code_set_led1 (.ref l) (E := E) (Q₁ := fun ob s1 => ob = .ref s.heap.objs.size ∧ s1 = { s with heap := s.heap.push (emptyS w) }) ⟨rfl, rfl⟩) fun r s1 hr => ?_
  cases r with
  | error e => exact hr
  | ok fl =>
    cases fl with
    | ret ob =>
      obtain ⟨rfl, rfl⟩ := hr
      have hS : (s.heap.push (emptyS w)).get? s.heap.objs.size = some (emptyS w) := Heap.get?_push_size _ rfl
      have hT : Shared.TypeIs { s with heap := s.heap.push (emptyS w) } (.ref s.heap.objs.size) "set" := ⟨_, hS, rfl⟩
      have c6 := PySem.F.called_set.init.lookup; have c7 := PySem.F.called_set.init.bind (.ref s.heap.objs.size)
      repeat (any_goals (first | assumption | wp_step))
      refine codeAny_mono (codeAny_call_builtin (R := wants (fun r s2 => r = .none ∧ ∃ h' tk, s2 = { s with heap := h', toks := tk } ∧ TxSet P w h' s.heap.objs.size (uniS ss) ∧ (∀ b o, s.heap.get? b = some o → h'.get? b = some o)) E) PySem.F.called_set.init.plain PySem.F.entry_set_init (check_set_init_1 hT ?_)) fun r2 s2 hr2 => ?_
      · rcases hl with hl | hl
        · obtain ⟨ob, hob, hcl, nl, hdl⟩ := hl
          obtain ⟨ocls, odict, odata, oslots⟩ := ob
          simp only at hcl hdl
          subst hcl; subst hdl
          have old : l < s.heap.objs.size := Heap.lt_size hob
          have hob1 : (s.heap.push (emptyS w)).get? l = some { cls := .type "list", dict := odict, data := .seq its nl, slots := oslots } := Heap.get?_push_of_some _ hob
          have f1 := PySem.F.sub_list_set; have f2 := PySem.F.sub_list_frozenset; have f3 : (Value.type "list" == Value.type "dict") = false := by decide
          have hl1 : (s.heap.push (emptyS w)).IsList l its := ⟨_, hob1, rfl, nl, rfl⟩
          unfold Builtin.«set.__init__» noKeywords Builtin.Frozenset.updateFrom
          generalize hPI : pyIter = PI
          wp_walk
          subst hPI
          refine wpAny_pyIter_list hl1 (wpAny_bind (wpAny_runValue ?_))
          have hx : A.in1.in1.in1.handled = none := by simp [hh]
          have n1 : l ≠ (s.heap.push (emptyS w)).objs.size := by rw [Heap.size_push]; exact Nat.ne_of_lt (Nat.lt_succ_of_lt old)
          have n2 : s.heap.objs.size ∉ [(s.heap.push (emptyS w)).objs.size, l] := by
            rw [Heap.size_push]; simp only [List.mem_cons, List.not_mem_nil, or_false, not_or]; exact ⟨Nat.ne_of_lt (Nat.lt_succ_self _), Nat.ne_of_gt old⟩
          refine tx_loop ((Walks.list hx _ l n1 its).toS) s.heap.objs.size n2 ss hsz hb hval (its.size - 0) 0 _ (by omega) (Nat.zero_le _) ⟨⟨_, Heap.get?_push_size _ rfl, rfl, rfl⟩, (hl1.push _)⟩ (tx_fresh (Heap.get?_push_of_some _ hS)) ?_
          intro s' mv T
          obtain ⟨h', g', d', tk', os'⟩ := s'
          obtain rfl : g' = s.gens := mv.gens
          obtain rfl : d' = s.drawn := mv.drawn
          obtain rfl : os' = s.os := mv.os
          show wpAny _ _ _ _ _ _
          refine wpAny_pure ?_
          show wpAny _ _ (ret Value.none) _ _ _
          refine wpAny_pure ⟨rfl, h', tk', rfl, T, fun b o e => ?_⟩
          have lb : b < s.heap.objs.size := Heap.lt_size e
          refine mv.heap b o ?_ (Heap.get?_push_of_some _ (Heap.get?_push_of_some _ e))
          rw [Heap.size_push]; simp only [List.mem_cons, List.not_mem_nil, or_false, not_or]; exact ⟨Nat.ne_of_lt lb, Nat.ne_of_lt (Nat.lt_succ_of_lt lb)⟩
        · obtain ⟨ob, hob, hcl, nl, hdl⟩ := hl
          obtain ⟨ocls, odict, odata, oslots⟩ := ob
          simp only at hcl hdl
          subst hcl; subst hdl
          have old : l < s.heap.objs.size := Heap.lt_size hob
          have hob1 : (s.heap.push (emptyS w)).get? l = some { cls := .type "tuple", dict := odict, data := .seq its nl, slots := oslots } := Heap.get?_push_of_some _ hob
          have f1 := F.sub_tuple_set; have f2 := F.sub_tuple_frozenset; have f3 : (Value.type "tuple" == Value.type "dict") = false := by decide
          have hl1 : (s.heap.push (emptyS w)).IsTuple l its := ⟨_, hob1, rfl, nl, rfl⟩
          unfold Builtin.«set.__init__» noKeywords Builtin.Frozenset.updateFrom
          generalize hPI : pyIter = PI
          wp_walk
          subst hPI
          refine wpAny_pyIter_tuple hl1 (wpAny_bind (wpAny_runValue ?_))
          have hx : A.in1.in1.in1.handled = none := by simp [hh]
          have n1 : l ≠ (s.heap.push (emptyS w)).objs.size := by rw [Heap.size_push]; exact Nat.ne_of_lt (Nat.lt_succ_of_lt old)
          have n2 : s.heap.objs.size ∉ [(s.heap.push (emptyS w)).objs.size, l] := by
            rw [Heap.size_push]; simp only [List.mem_cons, List.not_mem_nil, or_false, not_or]; exact ⟨Nat.ne_of_lt (Nat.lt_succ_self _), Nat.ne_of_gt old⟩
          refine tx_loop ((Walks.tuple hx _ l n1 its).toS) s.heap.objs.size n2 ss hsz hb hval (its.size - 0) 0 _ (by omega) (Nat.zero_le _) ⟨⟨_, Heap.get?_push_size _ rfl, rfl, rfl⟩, (hl1.push _)⟩ (tx_fresh (Heap.get?_push_of_some _ hS)) ?_
          intro s' mv T
          obtain ⟨h', g', d', tk', os'⟩ := s'
          obtain rfl : g' = s.gens := mv.gens
          obtain rfl : d' = s.drawn := mv.drawn
          obtain rfl : os' = s.os := mv.os
          show wpAny _ _ _ _ _ _
          refine wpAny_pure ?_
          show wpAny _ _ (ret Value.none) _ _ _
          refine wpAny_pure ⟨rfl, h', tk', rfl, T, fun b o e => ?_⟩
          have lb : b < s.heap.objs.size := Heap.lt_size e
          refine mv.heap b o ?_ (Heap.get?_push_of_some _ (Heap.get?_push_of_some _ e))
          rw [Heap.size_push]; simp only [List.mem_cons, List.not_mem_nil, or_false, not_or]; exact ⟨Nat.ne_of_lt lb, Nat.ne_of_lt (Nat.lt_succ_of_lt lb)⟩
      · cases r2 with
        | error e => exact hr2
        | ok fl2 =>
          cases fl2 with
          | ret r =>
            obtain ⟨rfl, h', tk, rfl, T, kp⟩ := hr2
            repeat (any_goals (first | assumption | wp_step))
            exact q _ _ T kp
          | _ => exact hr2.elim
    | _ => exact hr.elim
end
end FR

namespace FR
open PySem PySem.Spec PyProof.Rows L2 PySem.Froz
/-! ### in the layer: set(texts), sorted of a set, sorted by length -/
def IsTx (v : Value) (x : Str) : Prop := ∃ t, v = .str x t
def ofV (v : Value) : Str := match v with | .str x _ => x | _ => ⟨#[]⟩
theorem isTx_all : ∀ {vs : List Value}, (∀ v ∈ vs, ∃ x t, v = .str x t) → PySem.W.EachIs IsTx vs (vs.map ofV)
  | [], _ => .nil
  | v :: r, h => by
    obtain ⟨x, t, rfl⟩ := h v List.mem_cons_self
    exact .cons ⟨t, rfl⟩ (isTx_all fun u hu => h u (List.mem_cons_of_mem _ hu))
theorem isTx_of : ∀ {xs : List Str} {us : List Value}, Vals (xs.map V.str) us → PySem.W.EachIs IsTx us xs
  | [], _, h => by cases h; exact .nil
  | x :: xs, _, h => by
    cases h with
    | cons h1 h2 => exact .cons h1 (isTx_of h2)
theorem isTx_vals : ∀ {us : List Value} {xs : List Str}, PySem.W.EachIs IsTx us xs → Vals (xs.map V.str) us
  | _, _, .nil => .nil
  | _, _, .cons h1 h2 => .cons h1 (isTx_vals h2)
theorem isTx_reads {h : Heap} : ∀ {us : List Value} {xs : List Str}, PySem.W.EachIs IsTx us xs → PySem.W.EachIs (fun v b => ∃ as, Reads h v (.str b) as) us xs := fun e => e.mono fun v b q => by
  obtain ⟨t, rfl⟩ := q
  exact ⟨[], .str _ _⟩
theorem alike_tx (xs : List Str) : PySem.W.AllAlike (xs.map .str) := PySem.W.AllAlike.of fun _ _ => by simp [PySem.W.alike]
theorem sortable_tx (xs : List Str) : PySem.W.Sortable (xs.map .str) := PySem.W.Sortable.others fun _ => ⟨(fun z => nomatch z), (fun _ z => nomatch z)⟩
theorem le_tx : PySem.W.dataLe false (fun b : Str => .str b) = leS := by
  rw [PySem.W.dataLe_str (fun b : Str => b)]
  funext a b
  rw [Bool.eq_iff_iff, leS_iff]
  exact decide_eq_true_iff
/-- by length, equal ones in their turn -/
def lenS (xs : List Str) : List Str := xs.mergeSort fun a b => decide (a.length ≤ b.length)
theorem le_len : PySem.W.dataLe false (fun b : Str => .int (b.length : Int)) = fun a b => decide (a.length ≤ b.length) := by
  rw [PySem.W.dataLe_int (fun b : Str => (b.length : Int))]
  funext a b
  rw [Bool.eq_iff_iff, decide_eq_true_iff, decide_eq_true_iff]
  omega
theorem lenS_perm (xs : List Str) : (lenS xs).Perm xs := List.mergeSort_perm xs _
section
variable {X : Cx}
def rSetTx (X : Cx) : List V → Hp → VK → Prop := fun xs H Q => ∃ (a : Addr) (ss : List Str), xs = [.ref a] ∧ (SqL X.K H a (ss.map .str) ∨ SqT X.K H a (ss.map .str)) ∧ ss.length + 1 < scanBound ∧
  ∀ p, H p = none → Q (.ref p) (upd H p (TxObj X.prog X.w p (uniS ss)))
theorem tx_items {its : List Value} {ss : List Str} (e : PySem.W.EachIs IsTx its ss) : ∀ (i : Nat) (v : Value), its.toArray[i]? = some v → ∃ k t, ss[i]? = some k ∧ v = .str k t := by
  induction e with
  | nil => intro i v h; simp at h
  | @cons v0 x0 vs xs h1 h2 ih =>
    intro i v h
    simp only [List.getElem?_toArray] at h ih
    cases i with
    | zero =>
      obtain ⟨t, q⟩ := h1
      have : v0 = v := by simpa using h
      exact ⟨_, t, rfl, by rw [← this]; exact q⟩
    | succ i => exact ih i v (by simpa using h)
theorem cr_setTx (hc : X.calm = true) : CallR X (.type "set") (rSetTx X) := by
  intro pins s σ H xs us Q I r h
  obtain ⟨a, ss, rfl, sq, hb, q⟩ := h
  rw [Vals.ref1 r]
  have main : ∀ its : List Value, Vals (ss.map V.str) its → (s.heap.IsList a its.toArray ∨ s.heap.IsTuple a its.toArray) → wpAny (model X.prog X.w) X.A (call (.type "set") [.ref a]) (EP X pins σ Q) X.xe s := fun its rv hl => by
    have hs : its.toArray.size = ss.length := by rw [List.size_toArray, ← rv.length, List.length_map]
    refine set_texts (I.ok.hd hc) hl hs (tx_items (isTx_of rv)) hb fun h' tk T kp => ?_
    exact ⟨.ref _, upd H s.heap.objs.size (TxObj X.prog X.w s.heap.objs.size (uniS ss)), I.laid (t' := tk) kp (Nat.le_refl _) (txObj_ok T), rfl, q _ (I.hok.fresh (Nat.le_refl _))⟩
  rcases sq with sq | sq
  · obtain ⟨its, rv, hl, hz⟩ := I.list sq
    exact main its rv (.inl hl.isList)
  · obtain ⟨its, rv, hl, hz⟩ := I.tuple sq
    exact main its rv (.inr hl)
def rSortedTx (X : Cx) : List V → Hp → VK → Prop := fun xs H Q => ∃ (a : Addr) (l : List Str), xs = [.ref a] ∧ H a = some (TxObj X.prog X.w a l) ∧ ∀ p, H p = none → Q (.ref p) (upd H p (.lst ((srtS l).map V.str)))
theorem tx_elem {P : Program} {w : World} {D : SD} {l : List Str} (F : TxOk P w D l) : ∀ v ∈ D.1.toList.map (·.2), ∃ x t, v = Value.str x t := by
  intro v hv
  obtain ⟨e, he, rfl⟩ := List.mem_map.mp hv
  obtain ⟨⟨k, hk, _⟩, _⟩ := F.el e he
  have hk' : Value.isStrOf k e.2 = true := hk
  cases h : e.2 with
  | str x t => exact ⟨x, t, rfl⟩
  | _ => rw [h] at hk'; simp [Value.isStrOf] at hk'
theorem cr_sortedTx (hc : X.calm = true) (hu : X.A.units + 64 < cLine) : CallR X (.builtin "sorted") (rSortedTx X) := by
  intro pins s σ H xs us Q I r h
  obtain ⟨a, l, rfl, ha, q⟩ := h
  rw [Vals.ref1 r]
  have R : TxSet X.prog X.w s.heap a l := (I.hok a _ ha).1
  obtain ⟨⟨es, ep, t⟩, ho, F, st, pm, sb⟩ := R
  refine Calls.call_function_entry kind_sorted plain_sorted entry_sorted (args_sorted1 _) ?_; unfold Builtin.«sorted»
  refine wpAny_bind (m := checkCount "sorted" 1 1 _) (wpAny_pure ?_)
  refine wpAny_bind (collect_set (A := X.A.in1) (I.ok.hd hc) ⟨_, ho, rfl, rfl⟩ F.fit sb st.1 st.2 fun s1 vs k1 hz g1 o1 pm1 => ?_)
  have hb : vs.length < scanBound := by rw [pm1.length_eq, List.length_map, Array.length_toList]; exact sb
  have hv : vs.length ≤ sizeLine := fits_of_scanBound hb
  have eTx := isTx_all (vs := vs) fun v hv => tx_elem F v (pm1.mem_iff.mp hv)
  have pml : (vs.map ofV).Perm l := (pm1.map ofV).trans (by rw [List.map_map]; exact pm)
  refine wpAny_bind (wpAny_newList ?_ hv)
  have hL : (s1.heap.push (seqObj "list" vs.toArray 0)).get? s1.heap.objs.size = some (seqObj "list" vs.toArray 0) := Heap.get?_push_size _ rfl
  refine wpAny_bind (wpAny_holding (PySem.W.list_sort_data (enc := fun b : Str => .str b) hL eTx (eTx.mono fun v b z => by obtain ⟨t, rfl⟩ := z; exact ⟨[], .str _ _, by simp⟩) (alike_tx _) (sortable_tx _) (by rw [List.length_map]; exact hv) (fun b _ => ?_) fun out lo eo => ?_))
  · show X.A.units + 1 + 1 + PyData.depth (.str b) < cLine
    rw [show PyData.depth (.str b) = 0 by simp [PyData.depth]]; omega
  rw [le_tx] at eo
  have e1 : (vs.map ofV).mergeSort leS = srtS l := srtS_unique ((List.mergeSort_perm _ _).trans pml) (srtS_pair (vs.map ofV))
  rw [e1] at eo
  obtain ⟨c, hcc⟩ := sortedHeap_at (vs := vs) (out := out.toArray) hL
  refine wpAny_pure ⟨_, rfl, ?_⟩
  have kp : ∀ b u, s.heap.get? b = some u → (sortedHeap (s1.heap.push (seqObj "list" vs.toArray 0)) s1.heap.objs.size vs out.toArray).get? b = some u := fun b u z => by
    have z1 := k1 b u z
    have lt := Heap.lt_size z1
    rw [sortedHeap_old (Nat.ne_of_lt lt) (by rw [size_push']; exact Nat.lt_succ_of_lt lt)]
    exact Heap.get?_push_of_some _ z1
  have hn : H s1.heap.objs.size = none := I.hok.fresh hz
  have hlen : ((srtS l).map V.str).length ≤ sizeLine := by
    rw [List.length_map, srtS_length, ← pml.length_eq, List.length_map]; exact hv
  have J := I.call' (s' := { s1 with heap := sortedHeap (s1.heap.push (seqObj "list" vs.toArray 0)) s1.heap.objs.size vs out.toArray }) (ch := []) o1 (Un.laid (o := .lst ((srtS l).map V.str)) kp hz hn)
    (I.hok.laid kp hz ⟨hlen, out, c, isTx_vals eo, hcc⟩) (by show AllBare s1.gens; rw [g1]; exact I.bare) (fun _ z => nomatch z)
  exact ⟨.ref _, _, J, rfl, q _ hn⟩
/-- sorted(e, key=len) of texts -/
def tSrtLen (X : Cx) (te : TE) : TE := fun σ H Q => te σ H fun x H1 => ∃ (a : Addr) (ss : List Str), x = .ref a ∧ SqL X.K H1 a (ss.map V.str) ∧ (∀ z ∈ ss, z.length ≤ sizeLine) ∧ ∀ p, H1 p = none → Q (.ref p) (upd H1 p (.lst ((lenS ss).map V.str)))
theorem pe_srtLen {e : Expr} {te : TE} {p p2 kpos pos : Pos} (hu : X.A.units + 64 < cLine) (he : PE X e te) (hm : X.mg "sorted" = none) (hm2 : X.mg "len" = none) (hg : Gl X "sorted" := by rfl) (hg2 : Gl X "len" := by rfl)
    (hst : backTo pos (starEach [e] X.env) = (false, eval e X.env) :: backTo pos (starEach [] X.env) := by rfl) (hpl : (backTo pos (starEach [e] X.env)).any (·.1) = false := by rfl) (hs : starEach [e] X.env = (false, eval e X.env) :: starEach [] X.env := by rfl) :
    PE X (.Call (.Name "sorted" p) [e] [⟨some "key", .Name "len" p2, kpos⟩] pos) (tSrtLen X te) := by
  refine ⟨fun pins s σ H Q I h => ?_⟩
  refine wpAny_Call_Name_kw (ld_blt I hg hm (show bootBuiltins "sorted" = some (.builtin "sorted") by decide +kernel) ?_ (by decide) (by decide))
  refine PyProof.Rows.callWith_kw (thn ((pa_cons he pa_nil hs).run pos pins s σ H (fun vs H1 => match vs with | [x] => ∃ (a : Addr) (ss : List Str), x = .ref a ∧ SqL X.K H1 a (ss.map V.str) ∧ (∀ z ∈ ss, z.length ≤ sizeLine) ∧ ∀ p, H1 p = none → Q (.ref p) (upd H1 p (.lst ((lenS ss).map V.str))) | _ => False) I ?_) fun us s1 ⟨vs, H1, I1, r1, z1⟩ => ?_) hst hpl (by rfl) (by rfl)
  · exact h
  · obtain ⟨x, rfl⟩ : ∃ x, vs = [x] := by
      match vs, z1 with
      | [x], _ => exact ⟨x, rfl⟩
    obtain ⟨a, ss, rfl, hsq, hsz, q⟩ := z1
    obtain rfl := Vals.ref1 r1
    show wpAny _ _ (evalAll ((do let v ← eval (.Name "len" p2) X.env; standAt pos; pure v) :: [])) _ _ s1
    refine wpAny_evalAll_cons (wpAny_bind (ld_blt I1 hg2 hm2 PySem.boot_len (wpAny_bind (wpAny_standAt (wpAny_pure (wpAny_evalAll_nil ?_)))) (by decide) (by decide)))
    obtain ⟨its, rv, hl, hz⟩ := I1.list hsq
    have eTx := isTx_of rv
    show wpAny _ _ (call (.builtin "sorted") [.ref a] [(Str.ofString "key", .builtin "len")]) _ _ s1
    rw [List.length_map] at hz
    refine PySem.W.sorted_key_data (b := false) (fun x : Str => .int (x.length : Int)) hl.isList eTx ?_ ?_ hz (fun x _ => ?_) (ksk_s1 _ _) (fun _ => ksk_l1 _ _) (fun _ => ksk_t4 _ _) (fun v x hR hx h tk _ => ?_) fun out c h' tk kp fr hp lo eo => ?_
    · exact PySem.W.AllAlike.of fun _ _ => by simp [PySem.W.alike]
    · exact PySem.W.Sortable.others fun _ => ⟨(fun z => nomatch z), (fun _ z => nomatch z)⟩
    · rw [show PyData.depth (.int (x.length : Int)) = 0 by simp [PyData.depth]]; omega
    · obtain ⟨t, rfl⟩ := hR
      have hx1 := hsz x hx
      rw [sizeLine_eq] at hx1
      exact PySem.P.len_str (by omega) ⟨h, _, rfl, fun _ _ z => z, .int _ _⟩
    · rw [le_len] at eo
      have hlen : ((lenS ss).map V.str).length ≤ sizeLine := by
        rw [List.length_map, (lenS_perm ss).length_eq]; exact hz
      exact ⟨.ref _, upd H1 (s1.heap.objs.size + 1) (.lst ((lenS ss).map V.str)), I1.laid (t' := tk) kp (Nat.le_succ _) ⟨hlen, out, c, isTx_vals eo, hp⟩, rfl, q _ (I1.hok.fresh (Nat.le_succ _))⟩

/-! by data -/
variable {e : Expr} {env : AEnv} {k : Nat} {p p2 p3 kpos pos pos2 : Pos} {ss : List Str}
theorem dpAll_txs {K : PySem.W.Frag} {F : Hp} {vs : List V} {ss : List Str} (h : DpAll K F vs (ss.map .str)) : vs = ss.map V.str := dpAll_strs h
/-- sorted(set(e)) of texts -/
theorem xl_srtSet (hr : Room k X.A) (h : XD X e env (.list (ss.map .str)) ∨ XD X e env (.tuple (ss.map .str))) (hz : ss.length + 1 < scanBound) (hm : X.mg "sorted" = none) (hm2 : X.mg "set" = none) (hg : Gl X "sorted" := by rfl) (hg2 : Gl X "set" := by rfl) (hc : X.calm = true := by rfl)
    (hs : starEach [e] X.env = (false, eval e X.env) :: starEach [] X.env := by rfl) (hpl : (backTo pos2 (starEach [] X.env)).any (·.1) = false := by rfl)
    (hs2 : starEach [.Call (.Name "set" p2) [e] [] pos2] X.env = (false, eval (.Call (.Name "set" p2) [e] [] pos2) X.env) :: starEach [] X.env := by rfl) (hpl2 : (backTo pos (starEach [] X.env)).any (·.1) = false := by rfl) :
    XL X (.Call (.Name "sorted" p) [.Call (.Name "set" p2) [e] [] pos2] [] pos) env ((srtS (uniS ss)).map .str) := fun F0 H0 F σ H E Q q => by
  refine e_of (pe_callB (cr_sortedTx hc hr.units) hg hm (by decide +kernel) (pa_cons (pe_callTy (cr_setTx hc) hg2 hm2 (by decide +kernel) (pa_cons e_w pa_nil hs) (by decide) (by decide) hs hpl) pa_nil hs2) (by decide) (by decide) hs2 hpl2) ?_
  have fin : ∀ (a : Addr) (F1 H1 : Hp), Gro F H F1 H1 → (SqL X.K H1 a (ss.map V.str) ∨ SqT X.K H1 a (ss.map V.str)) → rSetTx X [.ref a] H1 (fun y H2 => rSortedTx X [y] H2 Q) := fun a F1 H1 g1 sq =>
    ⟨a, ss, rfl, sq, hz, fun p hp => ⟨p, uniS ss, rfl, upd_same, fun p2 hp2 => by
      have g2 : Gro F1 H1 F1 (upd H1 p (TxObj X.prog X.w p (uniS ss))) := Gro.own g1.fr hp
      have g3 := (g1.trans g2)
      exact q p2 _ F1 _ (g3.trans (Gro.own g3.fr hp2)) (g3.h.free hp2) (g3.fr.free hp2) upd_same (dpAll_ofStrs _)⟩⟩
  rcases h with h | h
  · refine h _ _ F σ H E _ fun v F1 H1 g1 p1 => ?_
    obtain ⟨a, vs, rfl, z1, z2⟩ := dL p1
    have := dpAll_strs z2
    subst this
    exact fin a F1 H1 g1 (.inl (g1.fr.seq z1))
  · refine h _ _ F σ H E _ fun v F1 H1 g1 p1 => ?_
    obtain ⟨a, vs, rfl, z1, z2⟩ := dT p1
    have := dpAll_strs z2
    subst this
    exact fin a F1 H1 g1 (.inr (seqT_mono g1.fr z1))
/-- sorted(e, key=len) of texts -/
theorem xl_srtLen (hr : Room k X.A) (h : XL X e env (ss.map .str)) (hz : ∀ z ∈ ss, z.length ≤ sizeLine) (hm : X.mg "sorted" = none) (hm2 : X.mg "len" = none) (hg : Gl X "sorted" := by rfl) (hg2 : Gl X "len" := by rfl)
    (hst : backTo pos (starEach [e] X.env) = (false, eval e X.env) :: backTo pos (starEach [] X.env) := by rfl) (hpl : (backTo pos (starEach [e] X.env)).any (·.1) = false := by rfl) (hs : starEach [e] X.env = (false, eval e X.env) :: starEach [] X.env := by rfl) :
    XL X (.Call (.Name "sorted" p) [e] [⟨some "key", .Name "len" p2, kpos⟩] pos) env ((lenS ss).map .str) := fun F0 H0 F σ H E Q q => by
  refine e_of (pe_srtLen hr.units e_w hm hm2 hg hg2 hst hpl hs) ?_
  refine h _ _ F σ H E _ fun p vs F1 H1 g1 n1 n2 at1 d1 => ?_
  have := dpAll_strs d1
  subst this
  exact ⟨p, ss, rfl, SqL.of at1, hz, fun p2 hp2 => q p2 _ F1 _ (g1.trans (Gro.own g1.fr hp2)) (g1.h.free hp2) (g1.fr.free hp2) upd_same (dpAll_ofStrs _)⟩
end
/-- in order: by length, then as texts, each once -/
def ordS (ss : List Str) : List Str := lenS (srtS (uniS ss))
theorem ordS_mem (ss : List Str) (x : Str) : x ∈ ordS ss ↔ x ∈ ss := by
  unfold ordS
  rw [(lenS_perm _).mem_iff, (srtS_perm _).mem_iff, uni_mem]
theorem ordS_nodup (ss : List Str) : (ordS ss).Nodup := by
  unfold ordS
  rw [(lenS_perm _).nodup_iff, (srtS_perm _).nodup_iff]
  exact uni_nodup ss
theorem ordS_len (ss : List Str) : (ordS ss).length ≤ ss.length := by
  unfold ordS
  rw [(lenS_perm _).length_eq, (srtS_perm _).length_eq]
  exact uni_len ss
end FR

namespace FR
open PySem PySem.Spec PyProof.Rows L2

/-! ## mirrors: a def's reading as a function into Option -/
theorem obS {α β : Type} {m : Option α} {f : α → Option β} {r : β} (h : Option.bind m f = some r) : ∃ x, m = some x ∧ f x = some r := by
  cases m with
  | none => cases h
  | some x => exact ⟨x, rfl, h⟩
theorem ifT {α : Type} {c : Bool} {a b : Option α} {r : α} (h : (if c = true then a else b) = some r) (hc : c = true) : a = some r := by rw [if_pos hc] at h; exact h
theorem ifF {α : Type} {c : Bool} {a b : Option α} {r : α} (h : (if c = true then a else b) = some r) (hc : c = false) : b = some r := by rw [hc, if_neg Bool.false_ne_true] at h; exact h
inductive Ctl (σ ρ : Type) where
  | nx (s : σ)
  | bk (s : σ)
  | rt (r : ρ)
def loopM {α σ ρ : Type} (f : α → σ → Option (Ctl σ ρ)) : List α → σ → Option (Sum σ ρ)
  | [], s => some (.inl s)
  | x :: xs, s => match f x s with
    | none => none
    | some (.nx s') => loopM f xs s'
    | some (.bk s') => some (.inl s')
    | some (.rt r) => some (.inr r)
def whileM {σ ρ : Type} (c : σ → Option Bool) (f : σ → Option (Ctl σ ρ)) : Nat → σ → Option (Sum σ ρ)
  | 0, _ => none
  | n + 1, s => match c s with
    | none => none
    | some false => some (.inl s)
    | some true => match f s with
      | none => none
      | some (.nx s') => whileM c f n s'
      | some (.bk s') => some (.inl s')
      | some (.rt r) => some (.inr r)
def jn {σ ρ τ : Type} (c : Sum σ ρ) (k : σ → Option τ) (r : ρ → Option τ) : Option τ := match c with
  | .inl s => k s
  | .inr v => r v
theorem jnI {σ ρ τ : Type} {s : σ} {k : σ → Option τ} {r : ρ → Option τ} {x : τ} (h : jn (.inl s) k r = some x) : k s = some x := h
theorem jnR {σ ρ τ : Type} {v : ρ} {k : σ → Option τ} {r : ρ → Option τ} {x : τ} (h : jn (.inr v) k r = some x) : r v = some x := h
def iMod (a b : Int) : Option Int := if 0 < b then some (a % b) else none
def iDiv (a b : Int) : Option Int := if 0 < b ∧ b < 1073741824 then some (a / b) else none
def iMul (a b : Int) : Option Int := if (-(2 ^ 64) < a ∧ a < 2 ^ 64) ∨ (-(2 ^ 64) < b ∧ b < 2 ^ 64) then some (a * b) else none
def iPow (a b : Int) : Option Int := if 0 ≤ b ∧ b ≤ 1000000 ∧ a.natAbs < 2 ^ 64 then some (a ^ b.toNat) else none
def sAdd (a b : Str) : Option Str := if a.length + b.length ≤ sizeLine then some (a ++ b) else none
def sMul (a : Str) (n : Int) : Option Str := if (-100000 ≤ n ∧ n ≤ 100000) ∧ a.length * n.toNat ≤ sizeLine then some (repS a n.toNat) else none
def sLen (a : Str) : Option Int := if a.length ≤ sizeLine then some a.length else none
def sIx (z : Str) (i : Int) : Option Str := if z.length ≤ sizeLine then (atI z.cps.toList i).map fun c => ⟨#[c]⟩ else none
def sCut (z : Str) (l u : Option Int) : Option Str := if z.length ≤ sizeLine then some (cutS z l u) else none
def sRev (z : Str) : Option Str := if z.length ≤ sizeLine then some (revS z) else none
def lApp {α : Type} (xs : List α) (x : α) : Option (List α) := if xs.length < sizeLine then some (xs ++ [x]) else none
def lCat {α : Type} (xs ys : List α) : Option (List α) := if xs.length + ys.length ≤ sizeLine then some (xs ++ ys) else none
def rng1 (b : Int) : Option (List Int) := if -(2 ^ 62) ≤ b ∧ b < 2 ^ 62 then some ((List.range b.toNat).map fun i : Nat => (i : Int)) else none
def rng2 (a b : Int) : Option (List Int) := if -(2 ^ 62) ≤ a ∧ a < 2 ^ 62 ∧ -(2 ^ 62) ≤ b ∧ b < 2 ^ 62 then some ((List.range (b - a).toNat).map fun i : Nat => a + (i : Int)) else none
def chs (z : Str) : List Str := z.cps.toList.map fun c => ⟨#[c]⟩
def cutL {α : Type} (xs : List α) (lo hi : Option Int) : List α := (xs.drop (HT.sIx xs.length 0 lo)).take (HT.sIx xs.length xs.length hi - HT.sIx xs.length 0 lo)
def fits {α : Type} (xs : List α) : Bool := decide (xs.length ≤ sizeLine)
def compE {α β : Type} (f : α → Option β) : List α → Option (List β)
  | [] => some []
  | x :: xs => (f x).bind fun y => (compE f xs).bind fun ys => some (y :: ys)
def compM {α β : Type} (f : α → Option β) (xs : List α) : Option (List β) := if xs.length ≤ sizeLine then compE f xs else none
def compIE {α β : Type} (c : α → Option Bool) (f : α → Option β) : List α → Option (List β)
  | [] => some []
  | x :: xs => (c x).bind fun b => if b = true then (f x).bind fun y => (compIE c f xs).bind fun ys => some (y :: ys) else compIE c f xs
def compIM {α β : Type} (c : α → Option Bool) (f : α → Option β) (xs : List α) : Option (List β) := if xs.length ≤ sizeLine then compIE c f xs else none
/-- == of data -/
def eqD (a b : PyData) : Option Bool := if SeqAt.shaped a = true ∧ SeqAt.shaped b = true then some (PyData.eqv a b) else none
def srtM (xs : List Str) : Option (List Str) := if xs.length < 64 then some (srtS xs) else none
def srtSetM (xs : List Str) : Option (List Str) := if xs.length + 1 < 4096 then some (srtS (uniS xs)) else none
def srtLenM (xs : List Str) : Option (List Str) := if xs.all (fun z => decide (z.length ≤ sizeLine)) = true then some (lenS xs) else none

abbrev eI (i : Int) : PyData := .int i
abbrev eB (b : Bool) : PyData := .bool b
abbrev eS (z : Str) : PyData := .str z
abbrev eN (_ : Unit) : PyData := .none
abbrev eL {α : Type} (e : α → PyData) (xs : List α) : PyData := .list (xs.map e)
abbrev eV {α : Type} (e : α → PyData) (xs : List α) : PyData := .tuple (xs.map e)
abbrev eP2 {α β : Type} (e1 : α → PyData) (e2 : β → PyData) (p : α × β) : PyData := .tuple [e1 p.1, e2 p.2]
abbrev eP3 {α β γ : Type} (e1 : α → PyData) (e2 : β → PyData) (e3 : γ → PyData) (p : α × β × γ) : PyData := .tuple [e1 p.1, e2 p.2.1, e3 p.2.2]
abbrev eP4 {α β γ δ : Type} (e1 : α → PyData) (e2 : β → PyData) (e3 : γ → PyData) (e4 : δ → PyData) (p : α × β × γ × δ) : PyData := .tuple [e1 p.1, e2 p.2.1, e3 p.2.2.1, e4 p.2.2.2]
abbrev eP5 {α β γ δ ε : Type} (e1 : α → PyData) (e2 : β → PyData) (e3 : γ → PyData) (e4 : δ → PyData) (e5 : ε → PyData) (p : α × β × γ × δ × ε) : PyData := .tuple [e1 p.1, e2 p.2.1, e3 p.2.2.1, e4 p.2.2.2.1, e5 p.2.2.2.2]
abbrev eO {α : Type} (e : α → PyData) : Option α → PyData
  | none => .none
  | some x => e x
/-- env' knows no more than env -/
inductive Fg : AEnv → AEnv → Prop
  | nil : Fg [] []
  | keep {a l l'} : Fg l l' → Fg (a :: l) (a :: l')
  | drop {a l l'} : Fg l l' → Fg (none :: l) (a :: l')
theorem Fg.len : ∀ {l l' : AEnv}, Fg l l' → l.length = l'.length
  | _, _, .nil => rfl
  | _, _, .keep h => congrArg (· + 1) h.len
  | _, _, .drop h => congrArg (· + 1) h.len
theorem Fg.get : ∀ {l l' : AEnv}, Fg l l' → ∀ (i : Nat) (av : AV), l[i]? = some (some av) → l'[i]? = some (some av)
  | _, _, .nil, _, _, h => by simp at h
  | _, _, .keep _, 0, _, h => h
  | _, _, .keep g, i + 1, av, h => by simpa using g.get i av (by simpa using h)
  | _, _, .drop _, 0, _, h => by simp at h
  | _, _, .drop g, i + 1, av, h => by simpa using g.get i av (by simpa using h)
section
variable {X : Cx} {e e2 e3 tg iter elt : Expr} {es ifs : List Expr} {scope : Scope} {st : Stmt} {ss body : List Stmt} {env env' : AEnv} {d d1 d2 : PyData} {A : AE} {pos p p2 p3 p4 : Pos} {N : List Str} {i j : Nat} {x : Str} {k : Nat}
theorem xb_fg (g : Fg env' env) (h : XB X ss env' A) : XB X ss env A := xb_weak h g.len g.get
theorem XD.o {α : Type} {en : α → PyData} {v y : α} (h : XD X e env (en v)) (q : some v = some y) : XD X e env (en y) := by cases q; exact h
/-! ### operators -/
theorem xm_mod {a b v : Int} (h1 : XD X e env (.int a)) (h2 : XD X e2 env (.int b)) (q : iMod a b = some v) : XD X (.BinOp e .Mod e2 pos) env (.int v) := by
  unfold iMod at q
  split at q
  · rename_i hb; cases q; exact xd_mod h1 h2 hb
  · cases q
theorem xm_div {a b v : Int} (h1 : XD X e env (.int a)) (h2 : XD X e2 env (.int b)) (q : iDiv a b = some v) : XD X (.BinOp e .FloorDiv e2 pos) env (.int v) := by
  unfold iDiv at q
  split at q
  · rename_i hb; cases q; exact xd_div h1 h2 hb
  · cases q
theorem xm_mul {a b v : Int} (h1 : XD X e env (.int a)) (h2 : XD X e2 env (.int b)) (q : iMul a b = some v) : XD X (.BinOp e .Mult e2 pos) env (.int v) := by
  unfold iMul at q
  split at q
  · rename_i hb; cases q; exact xd_mul h1 h2 hb
  · cases q
theorem xm_pow {a b v : Int} (h1 : XD X e env (.int a)) (h2 : XD X e2 env (.int b)) (q : iPow a b = some v) : XD X (.BinOp e .Pow e2 pos) env (.int v) := by
  unfold iPow at q
  split at q
  · rename_i hb; cases q; exact xd_pow h1 h2 hb
  · cases q
theorem xm_sadd {a b v : Str} (h1 : XD X e env (.str a)) (h2 : XD X e2 env (.str b)) (q : sAdd a b = some v) : XD X (.BinOp e .Add e2 pos) env (.str v) := by
  unfold sAdd at q
  split at q
  · rename_i hb; cases q; exact xd_cat h1 h2 hb
  · cases q
theorem xm_smul {a v : Str} {n : Int} (h1 : XD X e env (.str a)) (h2 : XD X e2 env (.int n)) (q : sMul a n = some v) : XD X (.BinOp e .Mult e2 pos) env (.str v) := by
  unfold sMul at q
  split at q
  · rename_i hb; cases q; exact g_mulS h1 h2 hb.1 hb.2
  · cases q
theorem xm_slen {a : Str} {v : Int} (h : XD X e env (.str a)) (q : sLen a = some v) (hm : X.mg "len" = none) (hg : Gl X "len" := by rfl) (hs : starEach [e] X.env = (false, eval e X.env) :: starEach [] X.env := by rfl) (hpl : (backTo pos (starEach [] X.env)).any (·.1) = false := by rfl) :
    XD X (.Call (.Name "len" p) [e] [] pos) env (.int v) := by
  unfold sLen at q
  split at q
  · rename_i hb; cases q; exact xd_lenS h hb hm hg hs hpl
  · cases q
theorem xm_llen {α : Type} {en : α → PyData} {xs : List α} (h : XD X e env (.list (xs.map en))) (hm : X.mg "len" = none) (hg : Gl X "len" := by rfl) (hs : starEach [e] X.env = (false, eval e X.env) :: starEach [] X.env := by rfl) (hpl : (backTo pos (starEach [] X.env)).any (·.1) = false := by rfl) :
    XD X (.Call (.Name "len" p) [e] [] pos) env (.int (xs.length : Int)) := by
  have := xd_lenL (p := p) (pos := pos) h hm hg hs hpl
  rw [List.length_map] at this; exact this
theorem xm_vlen {α : Type} {en : α → PyData} {xs : List α} (h : XD X e env (.tuple (xs.map en))) (hm : X.mg "len" = none) (hg : Gl X "len" := by rfl) (hs : starEach [e] X.env = (false, eval e X.env) :: starEach [] X.env := by rfl) (hpl : (backTo pos (starEach [] X.env)).any (·.1) = false := by rfl) :
    XD X (.Call (.Name "len" p) [e] [] pos) env (.int (xs.length : Int)) := by
  have := xd_lenT (p := p) (pos := pos) h hm hg hs hpl
  rw [List.length_map] at this; exact this
theorem xm_olen {α : Type} {en : α → PyData} {xs : List α} {pn : Pos} (hN : X.N = N) (hat : AtN N env i x (.l (xs.map en))) (hm : X.mg "len" = none) (hs : Vis X.env.scope x := by first | exact Or.inl rfl | exact Or.inr (Or.inl rfl) | exact Or.inr (Or.inr rfl))
    (hd : (x == ("__debug__" : Str)) = false := by decide) (hc : (x == ("__classdict__" : Str)) = false := by decide) (hg : Gl X "len" := by rfl) (hst : starEach [.Name x pn] X.env = (false, eval (.Name x pn) X.env) :: starEach [] X.env := by rfl) (hpl : (backTo pos (starEach [] X.env)).any (·.1) = false := by rfl) :
    XD X (.Call (.Name "len" p) [.Name x pn] [] pos) env (.int (xs.length : Int)) := by
  have := n_lenO (p := p) (pos := pos) (pn := pn) hN hat hm hs hd hc hg hst hpl
  rw [List.length_map] at this; exact this
theorem atI_mapE {α : Type} {en : α → PyData} {xs : List α} {n : Int} {v : α} (q : atI xs n = some v) : atI (xs.map en) n = some (en v) := by
  unfold atI at q ⊢
  rw [List.length_map]
  cases h : ixN xs.length n with
  | none => rw [h] at q; cases q
  | some j =>
    rw [h] at q
    show (xs.map en)[j]? = _
    rw [List.getElem?_map]
    have q' : xs[j]? = some v := q
    rw [q']; rfl
theorem xm_lix {α : Type} {en : α → PyData} {xs : List α} {n : Int} {v : α} (h1 : XD X e env (.list (xs.map en))) (h2 : XD X e2 env (.int n)) (q : atI xs n = some v) (hp : PlainIx e2 := by exact fun _ _ => rfl) : XD X (.Subscript e e2 pos) env (en v) := xd_ixL h1 h2 (atI_mapE q) hp
theorem xm_vix {α : Type} {en : α → PyData} {xs : List α} {n : Int} {v : α} (h1 : XD X e env (.tuple (xs.map en))) (h2 : XD X e2 env (.int n)) (q : atI xs n = some v) (hp : PlainIx e2 := by exact fun _ _ => rfl) : XD X (.Subscript e e2 pos) env (en v) := xd_ixT h1 h2 (atI_mapE q) hp
theorem xm_oix {α : Type} {en : α → PyData} {xs : List α} {n : Int} {v : α} {pn : Pos} (hN : X.N = N) (hat : AtN N env i x (.l (xs.map en))) (h2 : XD X e2 env (.int n)) (q : atI xs n = some v) (hs : Vis X.env.scope x := by first | exact Or.inl rfl | exact Or.inr (Or.inl rfl) | exact Or.inr (Or.inr rfl))
    (hd : (x == ("__debug__" : Str)) = false := by decide) (hc : (x == ("__classdict__" : Str)) = false := by decide) (hp : PlainIx e2 := by exact fun _ _ => rfl) : XD X (.Subscript (.Name x pn) e2 pos) env (en v) := n_ixO hN hat h2 (atI_mapE q) hs hd hc hp
theorem xm_six {z : Str} {n : Int} {v : Str} (h1 : XD X e env (.str z)) (h2 : XD X e2 env (.int n)) (q : sIx z n = some v) (hp : PlainIx e2 := by exact fun _ _ => rfl) : XD X (.Subscript e e2 pos) env (.str v) := by
  unfold sIx at q
  split at q
  · rename_i hb
    cases h : atI z.cps.toList n with
    | none => rw [h] at q; cases q
    | some c => rw [h] at q; cases q; exact xd_ixS h1 h2 hb h hp
  · cases q
theorem xm_scut {z v : Str} {lo hi : Option Expr} {l u : Option Int} (h : XD X e env (.str z)) (hl : XO X lo env l) (hu : XO X hi env u) (q : sCut z l u = some v) : XD X (.Subscript e (.Slice lo hi none p2) pos) env (.str v) := by
  unfold sCut at q
  split at q
  · rename_i hb; cases q; exact xd_slS h hl hu hb
  · cases q
theorem xm_srev {z v : Str} {kk : Nat} {p1 : Pos} (h : XD X e env (.str z)) (q : sRev z = some v) : XD X (.Subscript e (.Slice none none (some (.UnaryOp .USub (.Constant (.int 1) kk p1) p2)) p3) pos) env (.str v) := by
  unfold sRev at q
  split at q
  · rename_i hb; cases q; exact g_rev h hb
  · cases q
theorem xm_lcat {α : Type} {en : α → PyData} {xs ys v : List α} (h1 : XD X e env (.list (xs.map en))) (h2 : XD X e2 env (.list (ys.map en))) (q : lCat xs ys = some v) : XL X (.BinOp e .Add e2 pos) env (v.map en) := by
  unfold lCat at q
  split at q
  · rename_i hb; cases q
    rw [List.map_append]
    exact xl_catD h1 h2 (by rw [List.length_map, List.length_map]; exact hb)
  · cases q
/-! ### statements -/
theorem nm_append {α : Type} {en : α → PyData} {xs v : List α} {y : α} {apos cpos : Pos} (hN : X.N = N) (hat : AtN N env i x (.l (xs.map en))) (h : XD X e env (en y)) (q : lApp xs y = some v) (hst : SetN N env j x (some (.l (v.map en))) env') (hnd : N.Nodup) (hn : A.nx env') (hs : Vis X.env.scope x := by first | exact Or.inl rfl | exact Or.inr (Or.inl rfl) | exact Or.inr (Or.inr rfl))
    (hd : (x == ("__debug__" : Str)) = false := by decide) (hc : (x == ("__classdict__" : Str)) = false := by decide)
    (hbase : attributeBase (.Name x p) "append" X.env (eval (.Name x p) X.env) = eval (.Name x p) X.env := by rfl)
    (hfew : ((backTo cpos (starEach [e] X.env)).all (fun x => !x.1) && (backToKw cpos (keywordEach [] X.env)).all (fun x => x.1.isSome)
      && decide ([e].length + ([] : List Keyword).length + (if ([] : List Keyword).isEmpty then 0 else 1) < 30)) = true := by rfl)
    (hline : (apos.endLine == cpos.line) = true := by rfl) (hsta : starEach [e] X.env = (false, eval e X.env) :: starEach [] X.env := by rfl) (hplain : (backTo cpos (starEach [] X.env)).any (·.1) = false := by rfl)
    (hsw : swapsWith (.Call (.Attribute (.Name x p) "append" apos) [e] [] cpos) none pos.line X.env = pure false := by rfl) :
    XS X (.Expr (.Call (.Attribute (.Name x p) "append" apos) [e] [] cpos) pos) env A := by
  unfold lApp at q
  split at q
  · rename_i hb; cases q
    rw [List.map_append] at hst
    exact n_append hN hat h (by rw [List.length_map]; exact hb) hst hnd hn hs hd hc hbase hfew hline hsta hplain hsw
  · cases q
/-! ### walks -/
theorem xi_to {n m : Nat} {it it' : Nat → PyData} (h : XI X tg iter env n it) (hn : n = m) (hi : ∀ i, i < n → it i = it' i) : XI X tg iter env m it' := by
  subst hn
  intro F0 H0 F σ H E R q
  refine h F0 H0 F σ H E R fun J F1 H1 g hJ => q J F1 H1 g fun F2 H2 s1 s2 => ?_
  obtain ⟨a, b⟩ := hJ F2 H2 s1 s2
  refine ⟨fun i hin => ?_, b⟩
  obtain ⟨c, d⟩ := a i hin
  exact ⟨c, fun x H' y => by rw [← hi i hin]; exact d x H' y⟩
/-- items -/
def XIt (X : Cx) (tg iter : Expr) (env : AEnv) (ds : List PyData) : Prop := XI X tg iter env ds.length fun i => ds.getD i .none
theorem it_list {α : Type} {en : α → PyData} {xs : List α} (h : XD X iter env (.list (xs.map en))) : XIt X tg iter env (xs.map en) := xi_list h
theorem it_tup {α : Type} {en : α → PyData} {xs : List α} (h : XD X iter env (.tuple (xs.map en))) : XIt X tg iter env (xs.map en) := xi_tup h
theorem it_str {z : Str} (h : XD X iter env (.str z)) : XIt X tg iter env ((chs z).map eS) := by
  refine xi_to (xi_str h) (by simp [chs]) fun i hi => ?_
  simp [chs, List.getD_eq_getElem?_getD, hi]
theorem it_rng1 {b : Int} {v : List Int} (h : XD X e env (.int b)) (q : rng1 b = some v) (hm : X.mg "range" = none) (hg : Gl X "range" := by rfl) (hs : starEach [e] X.env = [(false, eval e X.env)] := by rfl) : XIt X tg (.Call (.Name "range" p) [e] [] pos) env (v.map eI) := by
  unfold rng1 at q
  split at q
  · rename_i hb; cases q
    refine xi_to (xi_rng1 h hb hm hg hs) (by simp) fun i hi => ?_
    simp [List.getD_eq_getElem?_getD, hi]
  · cases q
theorem it_rng2 {a b : Int} {v : List Int} (h : XD X e env (.int a)) (h' : XD X e2 env (.int b)) (q : rng2 a b = some v) (hm : X.mg "range" = none) (hg : Gl X "range" := by rfl)
    (hs : starEach [e, e2] X.env = [(false, eval e X.env), (false, eval e2 X.env)] := by rfl) (hs2 : starEach [e2] X.env = [(false, eval e2 X.env)] := by rfl) : XIt X tg (.Call (.Name "range" p) [e, e2] [] pos) env (v.map eI) := by
  unfold rng2 at q
  split at q
  · rename_i hb; cases q
    refine xi_to (xi_rng2 h h' hb hm hg hs hs2) (by simp) fun i hi => ?_
    simp [List.getD_eq_getElem?_getD, hi]
  · cases q
/-! ### for -/
theorem nm_for {α σ ρ : Type} {items : List α} {en : α → PyData} {eR : ρ → PyData} {f : α → σ → Option (Ctl σ ρ)} {s0 : σ} {c : Sum σ ρ} {js : List Nat} {eX : σ → α → AEnv} (q : loopM f items s0 = some c) (eO : σ → AEnv)
    (hi : XIt X tg iter (eO s0) (items.map en)) (hg : ∀ s y, XG X tg js (eO s) (en y) (eX s y))
    (hb : ∀ y s r, f y s = some r → XB X body (eX s y) { nx := fun e => ∃ s', r = .nx s' ∧ e = eO s', ct := fun e => ∃ s', r = .nx s' ∧ e = eO s', bk := fun e => ∃ s', r = .bk s' ∧ e = eO s', rt := fun d => ∃ v, r = .rt v ∧ d = eR v })
    (hd : ∀ s, c = .inl s → A.nx (eO s)) (hr : ∀ v, c = .inr v → A.rt (eR v))
    (hp : PassesOwn (model X.prog X.w) X.A X.env X.xe := by exact PassesOwn.never) (hc : X.calm = true := by rfl) (hfs : ∀ x, foldedSetIterable iter X.env x = pure x := by intro _; rfl) : XS X (.For tg iter body [] pos) (eO s0) A := by
  refine xs_for (js := js) hi (fun i env' => ∃ s, env' = eO s ∧ loopM f (items.drop i) s = some c) ⟨s0, rfl, q⟩ ?_ ?_ hp hc hfs
  · rintro i env' hin ⟨s, rfl, hl⟩
    rw [List.length_map] at hin
    have e0 : (items.map en).getD i .none = en items[i] := by simp [List.getD_eq_getElem?_getD, hin]
    rw [e0]
    refine ⟨_, hg s _, ?_⟩
    rw [List.drop_eq_getElem_cons hin] at hl
    unfold loopM at hl
    cases hf : f items[i] s with
    | none => rw [hf] at hl; cases hl
    | some r =>
      rw [hf] at hl
      intro F0 H0 F σ H D E l
      refine hb _ _ _ hf F0 H0 F σ H D E ⟨fun env2 F2 σ2 H2 E2 ⟨s', e1, e2⟩ => ?_, fun v d F2 H2 g p ⟨w, e1, e2⟩ => ?_, fun env2 F2 σ2 H2 E2 ⟨s', e1, e2⟩ => ?_, fun env2 F2 σ2 H2 E2 ⟨s', e1, e2⟩ => ?_⟩
      · subst e1; exact l.nx env2 F2 σ2 H2 E2 ⟨s', e2, hl⟩
      · subst e1; subst e2; exact l.rt v _ F2 H2 g p (hr w (Option.some.inj hl).symm)
      · subst e1; subst e2; exact l.bk _ F2 σ2 H2 E2 (hd s' (Option.some.inj hl).symm)
      · subst e1; exact l.ct env2 F2 σ2 H2 E2 ⟨s', e2, hl⟩
  · rintro env' ⟨s, rfl, hl⟩
    rw [List.length_map, List.drop_length] at hl
    exact hd s (Option.some.inj hl).symm
theorem nm_while {σ ρ : Type} {eR : ρ → PyData} {cc : σ → Option Bool} {f : σ → Option (Ctl σ ρ)} {s0 : σ} {c : Sum σ ρ} {fuel : Nat} (q : whileM cc f fuel s0 = some c) (eO : σ → AEnv)
    (ht : ∀ s b, cc s = some b → XT X e (eO s) b)
    (hb : ∀ s r, cc s = some true → f s = some r → XB X body (eO s) { nx := fun e => ∃ s', r = .nx s' ∧ e = eO s', ct := fun e => ∃ s', r = .nx s' ∧ e = eO s', bk := fun e => ∃ s', r = .bk s' ∧ e = eO s', rt := fun d => ∃ v, r = .rt v ∧ d = eR v })
    (hd : ∀ s, c = .inl s → A.nx (eO s)) (hr : ∀ v, c = .inr v → A.rt (eR v))
    (hp : PassesOwn (model X.prog X.w) X.A X.env X.xe := by exact PassesOwn.never) : XS X (.While e body [] pos) (eO s0) A := by
  refine xs_while (Iv := fun m env' => ∃ s, env' = eO s ∧ whileM cc f m s = some c) fuel ⟨s0, rfl, q⟩ ?_ hp
  rintro m env' ⟨s, rfl, hl⟩
  cases m with
  | zero => cases hl
  | succ m =>
    unfold whileM at hl
    cases hcc : cc s with
    | none => rw [hcc] at hl; cases hl
    | some b =>
      rw [hcc] at hl
      refine ⟨b, ht s b hcc, fun hb1 => ?_, fun hb1 => ?_⟩
      · subst hb1
        cases hf : f s with
        | none => simp only [hf] at hl; cases hl
        | some r =>
          simp only [hf] at hl
          intro F0 H0 F σ H D E l
          refine hb _ _ hcc hf F0 H0 F σ H D E ⟨fun env2 F2 σ2 H2 E2 ⟨s', e1, e2⟩ => ?_, fun v d F2 H2 g p ⟨w, e1, e2⟩ => ?_, fun env2 F2 σ2 H2 E2 ⟨s', e1, e2⟩ => ?_, fun env2 F2 σ2 H2 E2 ⟨s', e1, e2⟩ => ?_⟩
          · subst e1; exact l.nx env2 F2 σ2 H2 E2 ⟨m, Nat.lt_succ_self m, s', e2, hl⟩
          · subst e1; subst e2; exact l.rt v _ F2 H2 g p (hr w (Option.some.inj hl).symm)
          · subst e1; subst e2; exact l.bk _ F2 σ2 H2 E2 (hd s' (Option.some.inj hl).symm)
          · subst e1; exact l.ct env2 F2 σ2 H2 E2 ⟨m, Nat.lt_succ_self m, s', e2, hl⟩
      · subst hb1
        exact hd s (Option.some.inj hl).symm
end
end FR

namespace FR
open PySem PySem.Spec PyProof.Rows L2

theorem compE_spec {α β : Type} {f : α → Option β} : ∀ {xs : List α} {ys : List β}, compE f xs = some ys → ys.length = xs.length ∧ ∀ i (h : i < xs.length), ∃ y, f xs[i] = some y ∧ ys[i]? = some y
  | [], ys, h => by cases h; exact ⟨rfl, fun i h => absurd h (Nat.not_lt_zero i)⟩
  | x :: xs, ys, h => by
    obtain ⟨y, hy, h⟩ := obS h
    obtain ⟨ys', hys, h⟩ := obS h
    cases h
    obtain ⟨a, b⟩ := compE_spec hys
    refine ⟨congrArg (· + 1) a, fun i hi => ?_⟩
    cases i with
    | zero => exact ⟨y, hy, rfl⟩
    | succ i =>
      obtain ⟨z, h1, h2⟩ := b i (Nat.lt_of_succ_lt_succ hi)
      exact ⟨z, h1, by simpa using h2⟩
theorem compM_spec {α β : Type} {f : α → Option β} {xs : List α} {ys : List β} (h : compM f xs = some ys) : xs.length ≤ sizeLine ∧ ys.length = xs.length ∧ ∀ i (h : i < xs.length), ∃ y, f xs[i] = some y ∧ ys[i]? = some y := by
  unfold compM at h
  split at h
  · rename_i hb; exact ⟨hb, compE_spec h⟩
  · cases h
theorem map_range {β : Type} (en : β → PyData) (ys : List β) : (List.range ys.length).map (fun i => (ys.map en).getD i .none) = ys.map en := by
  apply List.ext_getElem
  · simp
  · intro i a b
    simp at a
    simp [List.getD_eq_getElem?_getD, a]
/-- the same with tests -/
def flt {α β : Type} (c : α → Option Bool) (f : α → Option β) (en : β → PyData) (xs : List α) : List PyData := ((List.range xs.length).filter fun i => (xs[i]?.bind c) == some true).map fun i => match xs[i]?.bind f with
  | some y => en y
  | none => .none
theorem compIE_spec {α β : Type} {c : α → Option Bool} {f : α → Option β} (en : β → PyData) : ∀ {xs : List α} {ys : List β}, compIE c f xs = some ys → flt c f en xs = ys.map en ∧ ∀ i (h : i < xs.length), ∃ b, c xs[i] = some b ∧ (b = true → ∃ y, f xs[i] = some y)
  | [], ys, h => by cases h; exact ⟨rfl, fun i h => absurd h (Nat.not_lt_zero i)⟩
  | x :: xs, ys, h => by
    obtain ⟨b, hb, h⟩ := obS h
    have tail : flt c f en (x :: xs) = (if b = true then [match f x with | some y => en y | none => PyData.none] else []) ++ flt c f en xs := by
      unfold flt
      rw [List.length_cons, List.range_succ_eq_map, List.filter_cons, List.filter_map, ]
      cases b with
      | true =>
        have : (((x :: xs)[0]?.bind c) == some true) = true := by simp [hb]
        rw [if_pos this, List.map_cons, List.map_map]
        rfl
      | false =>
        have : ¬ (((x :: xs)[0]?.bind c) == some true) = true := by simp [hb]
        rw [if_neg this, List.map_map]
        rfl
    rw [tail]
    cases b with
    | true =>
      have h := ifT h rfl
      obtain ⟨y, hy, h⟩ := obS h
      obtain ⟨ys', hys, h⟩ := obS h
      cases h
      obtain ⟨a, b⟩ := compIE_spec en hys
      refine ⟨by rw [if_pos rfl, a, hy]; rfl, fun i hi => ?_⟩
      cases i with
      | zero => exact ⟨true, hb, fun _ => ⟨y, hy⟩⟩
      | succ i => exact b i (Nat.lt_of_succ_lt_succ hi)
    | false =>
      have h := ifF h rfl
      obtain ⟨a, b⟩ := compIE_spec en h
      refine ⟨by rw [if_neg Bool.false_ne_true, a]; rfl, fun i hi => ?_⟩
      cases i with
      | zero => exact ⟨false, hb, fun z => nomatch z⟩
      | succ i => exact b i (Nat.lt_of_succ_lt_succ hi)
def uI (X : Cx) (scope : Scope) (tg iter : Expr) : TI := fun σ H R => ∀ s Hb C cl fp, wI (blkX X scope s Hb C cl fp) tg iter σ H R
section
variable {X : Cx} {e e2 e3 tg iter elt tg1 iter1 : Expr} {es ifs : List Expr} {scope : Scope} {own : List (Str × Nat)} {st : Stmt} {ss body : List Stmt} {env env' wenv : AEnv} {d d1 d2 : PyData} {A : AE} {pos p p2 p3 p4 : Pos} {N : List Str} {i j : Nat} {x : Str} {k : Nat}
section
variable {α β : Type} {en : α → PyData} {eb : β → PyData} {f : α → Option β} {c : α → Option Bool} {xs : List α} {ys : List β} {S : Scope} {eX : α → AEnv}
theorem getD_en {i : Nat} (h : i < xs.length) : (xs.map en).getD i .none = en xs[i] := by simp [List.getD_eq_getElem?_getD, h]
theorem getD_ys {ys : List β} {i : Nat} {y : β} (h : ys[i]? = some y) : (ys.map eb).getD i .none = eb y := by simp [List.getD_eq_getElem?_getD, h]
theorem nm_comp (own : List (Str × Nat)) (q : compM f xs = some ys) (hN : X.N = N) (hnd : N.Nodup) (hi : XIt X tg iter env (xs.map en)) (okc : blkC N S scope own = true)
    (hg : ∀ y s Hb C cl fp, XG (blkX X scope s Hb C cl fp) tg (own.map (·.2)) wenv (en y) (eX y)) (hb : ∀ y r, f y = some r → ∀ s Hb C cl fp, XD (blkX X scope s Hb C cl fp) elt (eX y) (eb r))
    (hw : wipeE env (own.map (·.2)) = wenv := by rfl) (hS : X.env.scope = S := by rfl) (hc : X.calm = true := by rfl) (hfs : ∀ x, foldedSetIterable iter X.env x = pure x := by intro _; rfl) :
    XL X (.ListComp elt [⟨tg, iter, [], 0⟩] scope pos) env (ys.map eb) := by
  subst hN hS hw
  obtain ⟨hz, hl, hsp⟩ := compM_spec q
  rw [← map_range, hl]
  have hi' : XI X tg iter env xs.length (fun i => (xs.map en).getD i .none) := xi_to hi (by simp) fun _ _ => rfl
  refine xl_comp hi' hnd own (blkOk_by okc) (fun i hin => ?_) hz hc hfs
  obtain ⟨y, h1, h2⟩ := hsp i hin
  refine ⟨eX xs[i], fun s Hb C cl fp => ?_, fun s Hb C cl fp => ?_⟩
  · show XG _ _ _ _ ((xs.map en).getD i .none) _
    rw [getD_en hin]; exact hg _ s Hb C cl fp
  · show XD _ _ _ ((ys.map eb).getD i .none)
    rw [getD_ys h2]; exact hb _ _ h1 s Hb C cl fp
theorem nm_setComp {k : Nat} {y : Str} {env3 : AEnv} (own : List (Str × Nat)) (q : compM f xs = some ys) (hN : X.N = N) (hnd : N.Nodup) (hi : XIt X tg iter env (xs.map en)) (okc : blkC N S scope own = true)
    (hg : ∀ y s Hb C cl fp, XG (blkX X scope s Hb C cl fp) tg (own.map (·.2)) wenv (en y) (eX y)) (hb : ∀ y r, f y = some r → ∀ s Hb C cl fp, XD (blkX X scope s Hb C cl fp) elt (eX y) (eb r))
    (hst : SetN N env k y (some (.l (ys.map eb))) env3) (hn : A.nx env3)
    (hw : wipeE env (own.map (·.2)) = wenv := by rfl) (hS : X.env.scope = S := by rfl) (hyl : X.env.scope.names.lookup y = some .local := by rfl)
    (hsw : swapsWith (.ListComp elt [⟨tg, iter, [], 0⟩] scope pos) (some (.Name y p3)) p4.line X.env = pure true := by exact sw_true rfl rfl rfl (by decide +kernel)) (hc : X.calm = true := by rfl) (hfs : ∀ x, foldedSetIterable iter X.env x = pure x := by intro _; rfl) :
    XS X (.Assign [.Name y p3] (.ListComp elt [⟨tg, iter, [], 0⟩] scope pos) p4) env A := by
  subst hN hS hw
  obtain ⟨hz, hl, hsp⟩ := compM_spec q
  have hi' : XI X tg iter env xs.length (fun i => (xs.map en).getD i .none) := xi_to hi (by simp) fun _ _ => rfl
  refine xs_setComp (f := fun i => (ys.map eb).getD i .none) hi' hnd own (blkOk_by okc) (fun i hin => ?_) hz (by rw [← hl, map_range, hst.get.1]; exact hn) hst.get.2 hyl hsw hc hfs
  obtain ⟨y, h1, h2⟩ := hsp i hin
  refine ⟨eX xs[i], fun s Hb C cl fp => ?_, fun s Hb C cl fp => ?_⟩
  · show XG _ _ _ _ ((xs.map en).getD i .none) _
    rw [getD_en hin]; exact hg _ s Hb C cl fp
  · show XD _ _ _ ((ys.map eb).getD i .none)
    rw [getD_ys h2]; exact hb _ _ h1 s Hb C cl fp
theorem nm_compI {cnd : Expr} (own : List (Str × Nat)) (q : compIM c f xs = some ys) (hN : X.N = N) (hnd : N.Nodup) (hi : XIt X tg iter env (xs.map en)) (okc : blkC N S scope own = true)
    (hg : ∀ y s Hb C cl fp, XG (blkX X scope s Hb C cl fp) tg (own.map (·.2)) wenv (en y) (eX y)) (ht : ∀ y r, c y = some r → ∀ s Hb C cl fp, XT (blkX X scope s Hb C cl fp) cnd (eX y) r) (hb : ∀ y r, c y = some true → f y = some r → ∀ s Hb C cl fp, XD (blkX X scope s Hb C cl fp) elt (eX y) (eb r))
    (hw : wipeE env (own.map (·.2)) = wenv := by rfl) (hS : X.env.scope = S := by rfl) (hc : X.calm = true := by rfl) (hfs : ∀ x, foldedSetIterable iter X.env x = pure x := by intro _; rfl) :
    XL X (.ListComp elt [⟨tg, iter, [cnd], 0⟩] scope pos) env (ys.map eb) := by
  subst hN hS hw
  unfold compIM at q
  split at q
  case isFalse => cases q
  case isTrue hz =>
  obtain ⟨hl, hsp⟩ := compIE_spec eb q
  rw [← hl]
  have hi' : XI X tg iter env xs.length (fun i => (xs.map en).getD i .none) := xi_to hi (by simp) fun _ _ => rfl
  refine xl_compIf hi' hnd own (blkOk_by okc) (fun i hin => ?_) hz hc hfs
  obtain ⟨b, h1, h2⟩ := hsp i hin
  refine ⟨eX xs[i], fun s Hb C cl fp => ?_, fun s Hb C cl fp => ?_, fun hbt s Hb C cl fp => ?_⟩
  · show XG _ _ _ _ ((xs.map en).getD i .none) _
    rw [getD_en hin]; exact hg _ s Hb C cl fp
  · show XT _ _ _ ((xs[i]?.bind c) == some true)
    have : ((xs[i]?.bind c) == some true) = b := by rw [List.getElem?_eq_getElem hin]; show (c xs[i] == some true) = b; rw [h1]; cases b <;> rfl
    rw [this]; exact ht _ _ h1 s Hb C cl fp
  · have hbt' : ((xs[i]?.bind c) == some true) = true := hbt
    have hb2 : b = true := by rw [List.getElem?_eq_getElem hin] at hbt'; have z : (c xs[i] == some true) = true := hbt'; rw [h1] at z; cases b <;> simp_all
    obtain ⟨y, hy⟩ := h2 hb2
    have e1 : xs[i]?.bind f = some y := by rw [List.getElem?_eq_getElem hin]; exact hy
    show XD _ _ _ (match xs[i]?.bind f with | some y => eb y | none => .none)
    rw [e1]
    exact hb _ _ (by rw [h1, hb2]) hy s Hb C cl fp
theorem nm_setCompI {cnd : Expr} {k : Nat} {y : Str} {env3 : AEnv} (own : List (Str × Nat)) (q : compIM c f xs = some ys) (hN : X.N = N) (hnd : N.Nodup) (hi : XIt X tg iter env (xs.map en)) (okc : blkC N S scope own = true)
    (hg : ∀ y s Hb C cl fp, XG (blkX X scope s Hb C cl fp) tg (own.map (·.2)) wenv (en y) (eX y)) (ht : ∀ y r, c y = some r → ∀ s Hb C cl fp, XT (blkX X scope s Hb C cl fp) cnd (eX y) r) (hb : ∀ y r, c y = some true → f y = some r → ∀ s Hb C cl fp, XD (blkX X scope s Hb C cl fp) elt (eX y) (eb r))
    (hst : SetN N env k y (some (.l (ys.map eb))) env3) (hn : A.nx env3)
    (hw : wipeE env (own.map (·.2)) = wenv := by rfl) (hS : X.env.scope = S := by rfl) (hyl : X.env.scope.names.lookup y = some .local := by rfl)
    (hsw : swapsWith (.ListComp elt [⟨tg, iter, [cnd], 0⟩] scope pos) (some (.Name y p3)) p4.line X.env = pure true := by exact sw_true rfl rfl rfl (by decide +kernel)) (hc : X.calm = true := by rfl) (hfs : ∀ x, foldedSetIterable iter X.env x = pure x := by intro _; rfl) :
    XS X (.Assign [.Name y p3] (.ListComp elt [⟨tg, iter, [cnd], 0⟩] scope pos) p4) env A := by
  subst hN hS hw
  unfold compIM at q
  split at q
  case isFalse => cases q
  case isTrue hz =>
  obtain ⟨hl, hsp⟩ := compIE_spec eb q
  have hi' : XI X tg iter env xs.length (fun i => (xs.map en).getD i .none) := xi_to hi (by simp) fun _ _ => rfl
  refine xs_setCompIf (b := fun i => (xs[i]?.bind c) == some true) (f := fun i => match xs[i]?.bind f with | some y => eb y | none => .none) hi' hnd own (blkOk_by okc) (fun i hin => ?_) hz ?_ hst.get.2 hyl hsw hc hfs
  · obtain ⟨b, h1, h2⟩ := hsp i hin
    refine ⟨eX xs[i], fun s Hb C cl fp => ?_, fun s Hb C cl fp => ?_, fun hbt s Hb C cl fp => ?_⟩
    · show XG _ _ _ _ ((xs.map en).getD i .none) _
      rw [getD_en hin]; exact hg _ s Hb C cl fp
    · show XT _ _ _ ((xs[i]?.bind c) == some true)
      have : ((xs[i]?.bind c) == some true) = b := by rw [List.getElem?_eq_getElem hin]; show (c xs[i] == some true) = b; rw [h1]; cases b <;> rfl
      rw [this]; exact ht _ _ h1 s Hb C cl fp
    · have hbt' : ((xs[i]?.bind c) == some true) = true := hbt
      have hb2 : b = true := by rw [List.getElem?_eq_getElem hin] at hbt'; have z : (c xs[i] == some true) = true := hbt'; rw [h1] at z; cases b <;> simp_all
      obtain ⟨y, hy⟩ := h2 hb2
      have e1 : xs[i]?.bind f = some y := by rw [List.getElem?_eq_getElem hin]; exact hy
      show XD _ _ _ (match xs[i]?.bind f with | some y => eb y | none => .none)
      rw [e1]
      exact hb _ _ (by rw [h1, hb2]) hy s Hb C cl fp
  · have e := hl
    unfold flt at e
    rw [e, hst.get.1]; exact hn
end
/-! ### two clauses -/
theorem sh_step {F H F' G F3 H3 : Hp} {D : Addr} {acc : List V} (hHD : H D = none) (g' : Gro F H F' G) (hG : G D = none) (g3 : Gro F' (upd G D (.lst acc)) F3 H3) : Gro F H F3 (minusH H3 D) ∧ minusH H3 D D = none ∧ H3 = upd (minusH H3 D) D (.lst acc) := by
  have gU : Gro F H F' (upd G D (.lst acc)) := g'.trans (Gro.own g'.fr hG)
  have gA := gU.trans g3
  have F3D : F3 D = none := g3.sep D (by rw [upd_same]; exact fun z => nomatch z) (g'.fr.free hG)
  refine ⟨⟨gA.f, fun c o h => ?_, fun c o h => ?_, gA.sep⟩, minus_at, minus_upd (g3.h _ _ upd_same)⟩
  · rw [minus_ne (fun z => by rw [z, hHD] at h; cases h)]; exact gA.h c o h
  · rw [minus_ne (fun z => by rw [z, F3D] at h; cases h)]; exact gA.fr c o h
def noOwn (env : AEnv) : Bool := env.all fun a => match a with
  | some v => !v.owned
  | none => true
theorem noOwn_at {env : AEnv} (h : noOwn env = true) {i : Nat} {av : AV} (q : env[i]? = some (some av)) : av.owned = false := by
  have := (List.all_eq_true.mp h) (some av) (List.mem_of_getElem? q)
  simpa using this
theorem EnvAt.over {K : PySem.W.Frag} {F0 H0 F F' : Hp} {σ : L2.St} {H H' : Hp} {env : AEnv} (E : EnvAt K F0 H0 F σ H env) (ho : noOwn env = true) (g : Gro F0 H0 F' H') (s : Same F F') : EnvAt K F0 H0 F' σ H' env where
  gro := g
  len := E.len
  slot := fun i av q => by
    obtain ⟨v, a, b⟩ := E.slot i av q
    refine ⟨v, a, ?_⟩
    have hw := noOwn_at ho q
    cases av with
    | d x => exact dp_mono s b
    | p φ hφ => exact hφ _ _ _ s b
    | l xs => cases hw
    | k xs => cases hw
    | t xs => cases hw
  mine := fun i av a q o => by rw [noOwn_at ho q] at o; cases o
  apart := fun i j av aw a q1 q2 o => by rw [noOwn_at ho q1] at o; cases o
theorem yes_of {σ : L2.St} {H : Hp} {Q : Bool → Hp → Prop} (h : Q true H) : tYes σ H Q := h
theorem flat_take {β : Type} (en : β → PyData) : ∀ (yss : List (List β)), ((List.range yss.length).flatMap fun a => (List.range (yss.getD a []).length).map fun b => ((yss.getD a []).map en).getD b .none) = yss.flatten.map en := by
  intro yss
  have key : ∀ n, n ≤ yss.length → ((List.range n).flatMap fun a => (List.range (yss.getD a []).length).map fun b => ((yss.getD a []).map en).getD b .none) = (yss.take n).flatten.map en := by
    intro n
    induction n with
    | zero => intro _; simp
    | succ n ih =>
      intro h
      have hn : n < yss.length := by omega
      rw [List.range_succ, List.flatMap_append, ih (by omega), List.take_succ_eq_append_getElem hn, List.flatten_append, List.map_append]
      congr 1
      have e : yss.getD n [] = yss[n] := by simp [List.getD_eq_getElem?_getD, hn]
      simp only [List.flatMap_cons, List.flatMap_nil, List.append_nil, List.flatten_cons, List.flatten_nil]
      rw [e, map_range]
  have := key yss.length (Nat.le_refl _)
  rw [List.take_length] at this
  exact this
theorem flat_lt {β : Type} (yss : List (List β)) (en : β → PyData) {i j : Nat} (hi : i < yss.length) (hj : j < (yss.getD i []).length) : ((List.range i).flatMap (fun a => (List.range (yss.getD a []).length).map fun b => ((yss.getD a []).map en).getD b .none) ++ (List.range j).map (fun b => ((yss.getD i []).map en).getD b .none)).length < yss.flatten.length := by
  have e := flat_take en (yss.take i)
  have e2 : ((List.range i).flatMap (fun a => (List.range (yss.getD a []).length).map fun b => ((yss.getD a []).map en).getD b .none)).length = (yss.take i).flatten.length := by
    have e3 : ((List.range (yss.take i).length).flatMap fun a => (List.range ((yss.take i).getD a []).length).map fun b => (((yss.take i).getD a []).map en).getD b .none) = ((List.range i).flatMap (fun a => (List.range (yss.getD a []).length).map fun b => ((yss.getD a []).map en).getD b .none)) := by
      have hl : (yss.take i).length = i := by rw [List.length_take]; omega
      rw [hl]
      rw [List.flatMap_def, List.flatMap_def]
      congr 1
      apply List.map_congr_left
      intro a ha
      have ha := List.mem_range.mp ha
      have : (yss.take i).getD a [] = yss.getD a [] := by simp [List.getD_eq_getElem?_getD, ha]
      rw [this]
    rw [← e3, e, List.length_map]
  rw [List.length_append, e2, List.length_map, List.length_range]
  have e4 : yss = yss.take i ++ yss[i] :: yss.drop (i + 1) := by rw [← List.drop_eq_getElem_cons hi, List.take_append_drop]
  have e5 : yss.flatten.length = (yss.take i).flatten.length + (yss[i].length + (yss.drop (i + 1)).flatten.length) := by
    conv => lhs; rw [e4]
    rw [List.flatten_append, List.length_append, List.flatten_cons, List.length_append]
  have e6 : yss.getD i [] = yss[i] := by simp [List.getD_eq_getElem?_getD, hi]
  rw [e6] at hj
  omega
theorem lc2_read {n : Nat} {it : Nat → PyData} {n1 : Nat → Nat} {it1 : Nat → Nat → PyData} {f : Nat → Nat → PyData} {vs1 : List Nat} {F0 H0 F : Hp} {σ : L2.St} {H : Hp} (hi : XI X tg iter env n it) (E : EnvAt X.K F0 H0 F σ H env)
    (hb : ∀ i, i < n → ∃ env2, (∀ s Hb C cl fp, XG (blkX X scope s Hb C cl fp) tg (own.map (·.2)) (wipeE env (own.map (·.2))) (it i) env2) ∧ noOwn env2 = true ∧ (∀ s Hb C cl fp, XI (blkX X scope s Hb C cl fp) tg1 iter1 env2 (n1 i) (it1 i)) ∧
      ∀ j, j < n1 i → ∃ env3, (∀ s Hb C cl fp, XG (blkX X scope s Hb C cl fp) tg1 vs1 (wipeE env2 vs1) (it1 i j) env3) ∧ (∀ s Hb C cl fp, XD (blkX X scope s Hb C cl fp) elt env3 (f i j)))
    (hz : ∀ i j, i < n → j < n1 i → ((List.range i).flatMap (fun a => (List.range (n1 a)).map (f a)) ++ (List.range j).map (f i)).length < sizeLine)
    {Q : VK} (q : ∀ p vs F' H', Gro F H F' H' → H p = none → F' p = none → H' p = some (.lst vs) → DpAll X.K F' vs ((List.range n).flatMap fun a => (List.range (n1 a)).map (f a)) → Q (.ref p) H') :
    tLc2 (wI X tg iter) (uG X scope tg) tYes (uI X scope tg1 iter1) (uG X scope tg1) tYes (uE X scope elt) (own.map (·.2)) vs1 σ H Q := by
  refine hi _ _ F σ H E _ fun J F1 H1 g1 hJ => ?_
  intro D hD
  refine ⟨fun i m H' => i + m = n ∧ ∃ F' G acc, Gro F H F' G ∧ Same F1 F' ∧ G D = none ∧ H' = upd G D (.lst acc) ∧ DpAll X.K F' acc ((List.range i).flatMap fun a => (List.range (n1 a)).map (f a)),
    ⟨n, Nat.zero_add n, F1, H1, [], g1, Same.refl F1, hD, rfl, .nil⟩, fun i m H' hW => ?_⟩
  obtain ⟨em, F', G, acc, g', s', hG, rfl, hacc⟩ := hW
  have frU : Same F' (upd G D (.lst acc)) := (Gro.own (o := .lst acc) g'.fr hG).fr
  have hHD : H D = none := g1.h.free hD
  have gU : Gro F H F' (upd G D (.lst acc)) := g'.trans (Gro.own g'.fr hG)
  by_cases hin : i < n
  · obtain ⟨hgo, hy⟩ := (hJ F' _ s' frU).1 i hin
    refine .inr ⟨hgo, fun H2 => ∃ F2 G2 acc2, Gro F H F2 G2 ∧ Same F1 F2 ∧ G2 D = none ∧ H2 = upd G2 D (.lst acc2) ∧ DpAll X.K F2 acc2 ((List.range (i + 1)).flatMap fun a => (List.range (n1 a)).map (f a)),
      fun H2 h2 => ⟨m - 1, by omega, by omega, h2⟩, fun x H2 hx => ?_⟩
    obtain ⟨F2, g2, p2⟩ := hy x H2 hx
    obtain ⟨env2, hg, hno, hi1, hb1⟩ := hb i hin
    have E2 : EnvAt X.K F0 H0 F2 (wipe σ (own.map (·.2))) H2 (wipeE env (own.map (·.2))) := (E.grow (gU.trans g2)).wipe _
    intro s Hb C cl fp
    refine hg s Hb C cl fp F0 H0 F2 _ H2 x E2 p2 _ fun σ3 F3 H3 g3 E3 k3 => ?_
    refine ⟨wipe_again k3.1 k3.2, ?_⟩
    refine yes_of (iteT fun s Hb C cl fp => ?_)
    refine hi1 s Hb C cl fp F0 H0 F3 σ3 H3 E3 _ fun J1 F4 H4 g4 hJ1 => ?_
    obtain ⟨b1, b2, b3⟩ := sh_step hHD g' hG ((g2.trans g3).trans g4)
    have s4 : Same F1 F4 := s'.trans ((g2.f.trans g3.f).trans g4.f)
    refine ⟨fun j m1 H' => j + m1 = n1 i ∧ ∃ F' G acc', Gro F H F' G ∧ Same F4 F' ∧ G D = none ∧ H' = upd G D (.lst acc') ∧ DpAll X.K F' acc' ((List.range i).flatMap (fun a => (List.range (n1 a)).map (f a)) ++ (List.range j).map (f i)),
      ⟨n1 i, Nat.zero_add _, F4, _, acc, b1, Same.refl F4, b2, b3, by rw [List.range_zero, List.map_nil, List.append_nil]; exact dpAll_mono ((g2.f.trans g3.f).trans g4.f) hacc⟩, fun j m1 H' hW => ?_⟩
    obtain ⟨em1, F5, G5, acc5, g5, s5, hG5, rfl, hacc5⟩ := hW
    have gU5 : Gro F H F5 (upd G5 D (.lst acc5)) := g5.trans (Gro.own g5.fr hG5)
    by_cases hj : j < n1 i
    · obtain ⟨hgo1, hy1⟩ := (hJ1 F5 _ s5 gU5.fr).1 j hj
      refine .inr ⟨hgo1, fun H6 => ∃ F' G acc', Gro F H F' G ∧ Same F4 F' ∧ G D = none ∧ H6 = upd G D (.lst acc') ∧ DpAll X.K F' acc' ((List.range i).flatMap (fun a => (List.range (n1 a)).map (f a)) ++ (List.range (j + 1)).map (f i)),
        fun H6 h6 => ⟨m1 - 1, by omega, by omega, h6⟩, fun x1 H6 hx1 => ?_⟩
      obtain ⟨F6, g6, p6⟩ := hy1 x1 H6 hx1
      obtain ⟨env3, hg1, hel⟩ := hb1 j hj
      have E6 : EnvAt X.K F0 H0 F6 (wipe σ3 vs1) H6 (wipeE env2 vs1) := (E3.over hno (E.gro.trans (gU5.trans g6)) ((g4.f.trans s5).trans g6.f)).wipe _
      intro s Hb C cl fp
      refine hg1 s Hb C cl fp F0 H0 F6 _ H6 x1 E6 p6 _ fun σ7 F7 H7 g7 E7 k7 => ?_
      refine ⟨wipe_again k7.1 k7.2, ?_⟩
      refine yes_of (iteT fun s Hb C cl fp => ?_)
      refine hel s Hb C cl fp F0 H0 F7 σ7 H7 E7 _ fun y F8 H8 g8 p8 => ?_
      obtain ⟨c1, c2, c3⟩ := sh_step hHD g5 hG5 ((g6.trans g7).trans g8)
      refine ⟨acc5, by rw [c3]; exact upd_same, ?_, F8, _, acc5 ++ [y], c1, s5.trans ((g6.f.trans g7.f).trans g8.f), c2, by rw [c3, upd_upd]; congr 1; rw [← c3], ?_⟩
      · rw [dpAll_len hacc5]; exact hz i j hin hj
      · rw [List.range_succ, List.map_append, ← List.append_assoc]
        exact dpAll_append (dpAll_mono ((g6.f.trans g7.f).trans g8.f) hacc5) (.cons p8 .nil)
    · have e : j = n1 i := by omega
      subst e
      refine .inl ⟨(hJ1 F5 _ s5 gU5.fr).2, F5, G5, acc5, g5, s4.trans s5, hG5, rfl, ?_⟩
      rw [List.range_succ, List.flatMap_append]
      simpa using hacc5
  · have e : i = n := by omega
    subst e
    exact .inl ⟨(hJ F' _ s' frU).2, q D acc F' _ gU hHD (g'.fr.free hG) upd_same hacc⟩
end
/-- [elt for tg in iter for tg1 in iter1] -/
def comp2M {α β γ : Type} (B : α → Option (List β)) (f : α → β → Option γ) (xs : List α) : Option (List γ) := (compM (fun x => (B x).bind (compM (f x))) xs).bind fun yss => if yss.flatten.length ≤ sizeLine then some yss.flatten else none
section
variable {X : Cx} {elt tg iter tg1 iter1 : Expr} {scope : Scope} {env wenv : AEnv} {A : AE} {pos p2 p3 p4 : Pos} {N : List Str} {α β γ : Type} {en : α → PyData} {e1 : β → PyData} {eb : γ → PyData} {B : α → Option (List β)} {f : α → β → Option γ} {xs : List α} {ys : List γ} {S : Scope} {eX : α → AEnv} {eW : α → AEnv} {eY : α → β → AEnv}
theorem comp2_core (own : List (Str × Nat)) (vs1 : List Nat) (q : comp2M B f xs = some ys) (hi : XIt X tg iter env (xs.map en))
    (hg : ∀ y s Hb C cl fp, XG (blkX X scope s Hb C cl fp) tg (own.map (·.2)) (wipeE env (own.map (·.2))) (en y) (eX y)) (hno : ∀ y, noOwn (eX y) = true)
    (hi1 : ∀ y zs, B y = some zs → ∀ s Hb C cl fp, XIt (blkX X scope s Hb C cl fp) tg1 iter1 (eX y) (zs.map e1))
    (hg1 : ∀ y z s Hb C cl fp, XG (blkX X scope s Hb C cl fp) tg1 vs1 (wipeE (eX y) vs1) (e1 z) (eY y z)) (hb : ∀ y z r, f y z = some r → ∀ s Hb C cl fp, XD (blkX X scope s Hb C cl fp) elt (eY y z) (eb r))
    {F0 H0 F : Hp} {σ : L2.St} {H : Hp} (E : EnvAt X.K F0 H0 F σ H env) {Q : VK} (qq : ∀ p vs F' H', Gro F H F' H' → H p = none → F' p = none → H' p = some (.lst vs) → DpAll X.K F' vs (ys.map eb) → Q (.ref p) H') :
    tLc2 (wI X tg iter) (uG X scope tg) tYes (uI X scope tg1 iter1) (uG X scope tg1) tYes (uE X scope elt) (own.map (·.2)) vs1 σ H Q := by
  obtain ⟨yss, hy, q⟩ := obS q
  split at q
  case isFalse => cases q
  case isTrue hz =>
  cases q
  obtain ⟨_, hl, hsp⟩ := compM_spec hy
  have hi' : XI X tg iter env xs.length (fun i => (xs.map en).getD i .none) := xi_to hi (by simp) fun _ _ => rfl
  refine lc2_read (n1 := fun a => (yss.getD a []).length) (it1 := fun a b => ((((xs[a]?.bind B).getD []).map e1).getD b .none)) (f := fun a b => ((yss.getD a []).map eb).getD b .none) hi' E (fun i hin => ?_) (fun i j hi hj => Nat.lt_of_lt_of_le (flat_lt yss eb (by rw [hl]; exact hi) hj) hz) (by rw [← hl, flat_take]; exact qq)
  obtain ⟨row, h1, h2⟩ := hsp i hin
  obtain ⟨zs, hB, h1⟩ := obS h1
  obtain ⟨_, hrl, hrow⟩ := compM_spec h1
  have er : yss.getD i [] = row := by simp [List.getD_eq_getElem?_getD, h2]
  have eB : (xs[i]?.bind B).getD [] = zs := by rw [List.getElem?_eq_getElem hin]; show (B xs[i]).getD [] = zs; rw [hB]; rfl
  refine ⟨eX xs[i], fun s Hb C cl fp => ?_, hno _, fun s Hb C cl fp => ?_, fun j hj => ?_⟩
  · show XG _ _ _ _ ((xs.map en).getD i .none) _
    rw [getD_en hin]; exact hg _ s Hb C cl fp
  · have := hi1 _ _ hB s Hb C cl fp
    refine xi_to this (by rw [List.length_map, er, hrl]) fun b _ => ?_
    show _ = (((xs[i]?.bind B).getD []).map e1).getD b .none
    rw [eB]
  · rw [er, hrl] at hj
    obtain ⟨r, h3, h4⟩ := hrow j hj
    refine ⟨eY xs[i] zs[j], fun s Hb C cl fp => ?_, fun s Hb C cl fp => ?_⟩
    · show XG _ _ _ _ ((((xs[i]?.bind B).getD []).map e1).getD j .none) _
      rw [eB, getD_en hj]; exact hg1 _ _ s Hb C cl fp
    · show XD _ _ _ (((yss.getD i []).map eb).getD j .none)
      rw [er, getD_ys h4]; exact hb _ _ _ h3 s Hb C cl fp
theorem nm_comp2 (own : List (Str × Nat)) (vs1 : List Nat) (q : comp2M B f xs = some ys) (hN : X.N = N) (hnd : N.Nodup) (hi : XIt X tg iter env (xs.map en)) (okc : blkC N S scope own = true) (hv : ∀ i ∈ vs1, i ∈ own.map (·.2))
    (hg : ∀ y s Hb C cl fp, XG (blkX X scope s Hb C cl fp) tg (own.map (·.2)) wenv (en y) (eX y)) (hno : ∀ y, noOwn (eX y) = true)
    (hi1 : ∀ y zs, B y = some zs → ∀ s Hb C cl fp, XIt (blkX X scope s Hb C cl fp) tg1 iter1 (eX y) (zs.map e1))
    (hg1 : ∀ y z s Hb C cl fp, XG (blkX X scope s Hb C cl fp) tg1 vs1 (eW y) (e1 z) (eY y z)) (hb : ∀ y z r, f y z = some r → ∀ s Hb C cl fp, XD (blkX X scope s Hb C cl fp) elt (eY y z) (eb r))
    (hw : wipeE env (own.map (·.2)) = wenv := by rfl) (hw1 : ∀ y, wipeE (eX y) vs1 = eW y := by intro _; rfl) (hS : X.env.scope = S := by rfl) (hc : X.calm = true := by rfl) (hfs : ∀ x, foldedSetIterable iter X.env x = pure x := by intro _; rfl) (hfs1 : ∀ env x, foldedSetIterable iter1 env x = pure x := by intro _ _; rfl) :
    XL X (.ListComp elt [⟨tg, iter, [], 0⟩, ⟨tg1, iter1, [], 0⟩] scope pos) env (ys.map eb) := by
  subst hN hS hw
  intro F0 H0 F σ H E Q qq
  refine e_of (pe_lc2 (te := uE X scope elt) (g := uG X scope tg) (g1 := uG X scope tg1) (tt := tYes) (tt1 := tYes) (wi1 := uI X scope tg1 iter1) hc hnd i_w (blkOk_by okc) hv (fun s Hb C cl fp => ⟨fun pins s' σ' H' v u Q' I r h => (h s Hb C cl fp).run pins s' u I r⟩) (fun _ _ _ _ _ => pts_nil) (fun s Hb C cl fp => ⟨fun pins s' σ' H' R' I h => (h s Hb C cl fp).run pins s' I⟩) (fun s Hb C cl fp => ⟨fun pins s' σ' H' v u Q' I r h => (h s Hb C cl fp).run pins s' u I r⟩) (fun _ _ _ _ _ => pts_nil) (fun s Hb C cl fp => ⟨fun pins s' σ' H' Q' I h => (h s Hb C cl fp).run pins s' I⟩) hfs hfs1) ?_
  exact comp2_core own vs1 q hi hg hno hi1 (fun y z s Hb C cl fp => by rw [hw1 y]; exact hg1 y z s Hb C cl fp) hb E qq
theorem nm_setComp2 {k : Nat} {y : Str} {env3 : AEnv} (own : List (Str × Nat)) (vs1 : List Nat) (q : comp2M B f xs = some ys) (hN : X.N = N) (hnd : N.Nodup) (hi : XIt X tg iter env (xs.map en)) (okc : blkC N S scope own = true) (hv : ∀ i ∈ vs1, i ∈ own.map (·.2))
    (hg : ∀ y s Hb C cl fp, XG (blkX X scope s Hb C cl fp) tg (own.map (·.2)) wenv (en y) (eX y)) (hno : ∀ y, noOwn (eX y) = true)
    (hi1 : ∀ y zs, B y = some zs → ∀ s Hb C cl fp, XIt (blkX X scope s Hb C cl fp) tg1 iter1 (eX y) (zs.map e1))
    (hg1 : ∀ y z s Hb C cl fp, XG (blkX X scope s Hb C cl fp) tg1 vs1 (eW y) (e1 z) (eY y z)) (hb : ∀ y z r, f y z = some r → ∀ s Hb C cl fp, XD (blkX X scope s Hb C cl fp) elt (eY y z) (eb r))
    (hst : SetN N env k y (some (.l (ys.map eb))) env3) (hn : A.nx env3)
    (hw : wipeE env (own.map (·.2)) = wenv := by rfl) (hw1 : ∀ y, wipeE (eX y) vs1 = eW y := by intro _; rfl) (hS : X.env.scope = S := by rfl) (hyl : X.env.scope.names.lookup y = some .local := by rfl)
    (hsw : swapsWith (.ListComp elt [⟨tg, iter, [], 0⟩, ⟨tg1, iter1, [], 0⟩] scope pos) (some (.Name y p3)) p4.line X.env = pure true := by exact sw_true rfl rfl rfl (by decide +kernel)) (hc : X.calm = true := by rfl) (hfs : ∀ x, foldedSetIterable iter X.env x = pure x := by intro _; rfl) (hfs1 : ∀ env x, foldedSetIterable iter1 env x = pure x := by intro _ _; rfl) :
    XS X (.Assign [.Name y p3] (.ListComp elt [⟨tg, iter, [], 0⟩, ⟨tg1, iter1, [], 0⟩] scope pos) p4) env A := by
  subst hN hS hw
  intro F0 H0 F σ H D E l
  refine s_of (ps_setLc2 (te := uE X scope elt) (g := uG X scope tg) (g1 := uG X scope tg1) (tt := tYes) (tt1 := tYes) (wi1 := uI X scope tg1 iter1) hc hnd hst.get.2 hyl hsw i_w (blkOk_by okc) hv (fun s Hb C cl fp => ⟨fun pins s' σ' H' v u Q' I r h => (h s Hb C cl fp).run pins s' u I r⟩) (fun _ _ _ _ _ => pts_nil) (fun s Hb C cl fp => ⟨fun pins s' σ' H' R' I h => (h s Hb C cl fp).run pins s' I⟩) (fun s Hb C cl fp => ⟨fun pins s' σ' H' v u Q' I r h => (h s Hb C cl fp).run pins s' u I r⟩) (fun _ _ _ _ _ => pts_nil) (fun s Hb C cl fp => ⟨fun pins s' σ' H' Q' I h => (h s Hb C cl fp).run pins s' I⟩) hfs hfs1) ?_
  show tLc2 _ _ _ _ _ _ _ _ _ σ H (fun x H1 => gName k x σ H1 D.nx)
  refine comp2_core own vs1 q hi hg hno hi1 (fun y z s Hb C cl fp => by rw [hw1 y]; exact hg1 y z s Hb C cl fp) hb E fun a vs F1 H1 g1 n1 n2 e1' p1 => ?_
  have hn' : A.nx (env.set k (some (.l (ys.map eb)))) := by rw [hst.get.1]; exact hn
  exact l.nx _ F1 _ H1 ((E.grow g1).setOwn (av := .l _) ⟨a, vs, rfl, e1', p1⟩ (E.gro.h.free n1) n2 (by rw [e1']; exact fun z => nomatch z) fun j aw _ q o => E.notNew n1 j aw q o) hn'
end
end FR

namespace FR
open PySem PySem.Spec PyProof.Rows L2

/-! ## tuples backwards -/
section
variable {prog : Program} {w : World} {A : Around} {E : Value → Shared → Prop} {s : Shared}
theorem adjust_rev (n : Nat) : Builtin.Slice.sliceAdjust none none (-1) (n : Int) = ((n : Int) - 1, -1) := by
  unfold Builtin.Slice.sliceAdjust
  simp
theorem places_rev (n : Nat) : Builtin.Slice.slicePlaces ((n : Int) - 1) (-1) (-1) = n := by
  unfold Builtin.Slice.slicePlaces
  have h1 : ¬ ((-1 : Int) > 0) := by decide
  simp only [h1, if_false]
  have e : (- -1 : Int) = 1 := by decide
  simp only [e, Int.ediv_one]
  split <;> omega
theorem sliceApplied_rev {sl : Addr} {u : Tok} {n : Nat} {Q : Int × Int × Nat → Shared → Prop} (hs : s.heap.IsSliceOf sl .none .none (.int (-1) u))
    (h : Q ((n : Int) - 1, -1, n) s) : wpAny (model prog w) A (Builtin.Slice.sliceApplied (.ref sl) (pure (n : Int))) Q E s := by
  obtain ⟨os, hos, hcs, hds⟩ := id hs
  unfold Builtin.Slice.sliceApplied Builtin.Slice.sliceFields
  refine wpAny_bind (wpAny_bind (wpAny_field hos hds (x := .none) rfl (wpAny_bind (wpAny_field hos hds (x := .none) rfl (wpAny_bind (wpAny_field hos hds (x := .int (-1) u) rfl (wpAny_pure ?_)))))))
  refine wpAny_bind (slicePart_int ?_)
  show wpAny _ _ (if ((-1 : Int) == 0) = true then _ else _) _ _ s
  rw [if_neg (by decide)]
  refine wpAny_bind (slicePart_none (wpAny_bind (slicePart_none (wpAny_bind (wpAny_pure ?_)))))
  show wpAny _ _ (match Builtin.Slice.sliceAdjust none none (-1) (n : Int) with | (lo, hi) => pure (lo, (-1 : Int), Builtin.Slice.slicePlaces lo hi (-1))) _ _ s
  rw [adjust_rev]
  show wpAny _ _ (pure ((n : Int) - 1, (-1 : Int), Builtin.Slice.slicePlaces ((n : Int) - 1) (-1) (-1))) _ _ s
  rw [places_rev]
  exact wpAny_pure h
theorem filterMap_get2 {α β : Type} (f : α → Option β) (g : α → β) : ∀ (l : List α), (∀ a ∈ l, f a = some (g a)) → l.filterMap f = l.map g
  | [], _ => rfl
  | a :: l, h => by
    rw [List.filterMap_cons, h a List.mem_cons_self, List.map_cons, filterMap_get2 f g l fun b hb => h b (List.mem_cons_of_mem _ hb)]
theorem pick_rev (xs : Array Value) : ((List.range xs.size).filterMap fun (m : Nat) => xs[(((xs.size : Int) - 1) + (m : Int) * -1).toNat]?).toArray = xs.toList.reverse.toArray := by
  congr 1
  have h1 : (List.range xs.size).filterMap (fun (m : Nat) => xs[(((xs.size : Int) - 1) + (m : Int) * -1).toNat]?) = (List.range xs.size).map fun m => xs.toList.reverse.getD m .none := by
    refine filterMap_get2 _ _ _ fun m hm => ?_
    have hm := List.mem_range.mp hm
    have e1 : (((xs.size : Int) - 1) + (m : Int) * -1).toNat = xs.size - 1 - m := by omega
    rw [e1, Array.getElem?_eq_getElem (by omega)]
    simp [List.getD_eq_getElem?_getD, hm]
  rw [h1]
  apply List.ext_getElem
  · simp
  · intro i a b
    simp at a
    simp [List.getD_eq_getElem?_getD, a]
theorem getItem_tuple_rev {t sl : Addr} {items : Array Value} {u : Tok} {Q : Value → Shared → Prop} (ht : IsTup s.heap t items) (hs : s.heap.IsSliceOf sl .none .none (.int (-1) u))
    (h : Q (.ref s.heap.objs.size) { s with heap := s.heap.push { cls := .type "tuple", data := .seq items.toList.reverse.toArray } })
    (hsz : items.size ≤ sizeLine) : wpAny (model prog w) A (getItem (.ref t) (.ref sl)) Q E s := by
  have htake : sizeOk (.seq items.toList.reverse.toArray) := by
    show items.toList.reverse.toArray.size ≤ sizeLine
    simpa using hsz
  obtain ⟨os, hos, hcs, hds⟩ := id hs
  have hTs : s.TypeIs (.ref sl) "slice" := ⟨os, hos, hcs⟩
  unfold getItem
  try with_reducible refine wpAny_holding ?_
  first | refine wpAny_bind (wpAny_pure ?_) | skip
  refine wpAny_bind (wpAny_sequenceKey ht.typeIs (by decide) ?_)
  refine wpAny_bind (wpAny_callSpecial?_slot (name := Str.ofString "__getitem__") ht.typeIs PyProof.Rows.slot_tuple_getitem
    (wpAny_call_entry PyProof.Rows.slot_tuple_getitem ht.typeIs entry_tuple_getitem ?_ (args_tuple_getitem _ _)))
  show wpAny _ _ (Builtin.Tuple.tupleItemsOf (.ref t) >>= _) _ _ s
  refine wpAny_bind (tupleItemsOf_ ht ?_)
  refine wpAny_bind (wpAny_typeOf hTs ?_)
  rw [if_pos (by decide)]
  refine wpAny_bind (sliceApplied_rev hs ?_)
  have hno : ¬ (((((items.size : Int) - 1)) == 0 && (-1 : Int) == 1 && items.size == items.size) = true) := by
    simp
  show wpAny _ _ (if ((((items.size : Int) - 1)) == 0 && (-1 : Int) == 1 && items.size == items.size) = true then _ else _) _ _ s
  rw [if_neg hno, pick_rev]
  first
    | exact wpAny_bind (m := Builtin.Tuple.tupleExact _) (wpAny_newObj_type (wpAny_pure ⟨_, rfl, wpAny_pure h⟩) htake)
    | exact wpAny_bind (m := Builtin.Tuple.tupleExact _) (wpAny_newObj_type (wpAny_bind (wpAny_pure (wpAny_pure ⟨_, rfl, wpAny_pure h⟩))) htake)
    | exact wpAny_bind (wpAny_bind (m := Builtin.Tuple.tupleExact _) (wpAny_newObj_type (wpAny_pure (wpAny_pure ⟨_, rfl, wpAny_pure h⟩)) htake))
    | exact wpAny_bind (wpAny_bind (m := Builtin.Tuple.tupleExact _) (wpAny_newObj_type (wpAny_pure ⟨_, rfl, wpAny_pure h⟩) htake))
end
theorem vals_rev {xs : List V} {us : List Value} (r : Vals xs us) : Vals xs.reverse us.reverse := by
  induction r with
  | nil => exact .nil
  | cons h t ih => rw [List.reverse_cons, List.reverse_cons]; exact ih.append (.cons h .nil)
theorem dpAll_rev {K : PySem.W.Frag} {H : Hp} : ∀ {vs : List V} {ds : List PyData}, DpAll K H vs ds → DpAll K H vs.reverse ds.reverse
  | _, _, .nil => .nil
  | _, _, .cons h t => by rw [List.reverse_cons, List.reverse_cons]; exact dpAll_append (dpAll_rev t) (.cons h .nil)
section
variable {X : Cx} {e e2 tg iter : Expr} {es : List Expr} {env env' : AEnv} {d d1 d2 : PyData} {pos p p1 p2 p3 : Pos} {N : List Str} {i j k : Nat} {x : Str} {te : TE}
def tRevT (K : PySem.W.Frag) (te : TE) : TE := fun σ H Q => te σ H fun x H1 => ∃ a xs, x = .ref a ∧ SqT K H1 a xs ∧ ∀ p, H1 p = none → Q (.ref p) (upd H1 p (.tup xs.reverse))
theorem pe_revT {kk : Nat} (he : PE X e te) : PE X (.Subscript e (.Slice none none (some (.UnaryOp .USub (.Constant (.int 1) kk p1) p2)) p3) pos) (tRevT X.K te) := by
  refine ⟨fun pins s σ H Q I h => ?_⟩
  refine Subscript_ (thn (he.run pins s σ H _ I h) fun v s1 ⟨x, H1, I1, r1, q1⟩ => ?_)
  obtain ⟨a, xs, rfl, sq, q⟩ := q1
  cases r1
  have hst : PO X (some (.UnaryOp .USub (.Constant (.int 1) kk p1) p2)) (tPart (tUn (rU fun i => .int (-i)) (tC (.int 1)))) := po_some (pe_un un_neg pe_int)
  refine wpAny_Slice (thn (po_none.run pins s1 σ H1 (fun o H2 => o = none ∧ H2 = H1) I1 ⟨rfl, rfl⟩) fun vl s2 ⟨l, H2, I2, pl, el, e2⟩ => ?_)
  subst el e2
  refine thn (po_none.run pins s2 σ H2 (fun o H3 => o = none ∧ H3 = H2) I2 ⟨rfl, rfl⟩) fun vu s3 ⟨u, H3, I3, pu, eu, e3⟩ => ?_
  subst eu e3
  refine thn (hst.run pins s3 σ H3 (fun o H4 => o = some (-1) ∧ H4 = H3) I3 ⟨1, rfl, -1, rfl, rfl, rfl⟩) fun vs s4 ⟨o, H4, I4, ps, eo, e4⟩ => ?_
  subst eo e4
  cases pl
  cases pu
  cases ps with
  | int i tw =>
  have hsl : (s4.heap.push { cls := .type "slice", data := .fields #[.none, .none, .int (-1) tw] }).IsSliceOf s4.heap.objs.size .none .none (.int (-1) tw) := Heap.IsSliceOf.new ..
  have I5 : L2.Inv X pins σ H4 { s4 with heap := s4.heap.push { cls := .type "slice", data := .fields #[.none, .none, .int (-1) tw] } } := I4.kept (t' := s4.toks) fun b ob q => Heap.get?_push_of_some _ q
  show wpAny (model X.prog X.w) X.A (subscriptTail e (.Slice none none (some (.UnaryOp .USub (.Constant (.int 1) kk p1) p2)) p3) (.ref a) (.ref s4.heap.objs.size)) (EP X pins σ Q) X.xe { s4 with heap := s4.heap.push { cls := .type "slice", data := .fields #[.none, .none, .int (-1) tw] } }
  obtain ⟨its, r, ht, hz⟩ := I5.tuple sq
  refine tail_any (ops := [.ref a, .ref s4.heap.objs.size]) ht.typeIs PyProof.Rows.slot_tuple_getitem.lookup ?_ (by with_unfolding_all rfl)
  refine getItem_tuple_rev ht hsl ?_ (by rw [List.size_toArray, ← r.length]; exact hz)
  refine ⟨.ref _, _, I5.laid (t' := s4.toks) (o := .tup xs.reverse) (fun b ob q => Heap.get?_push_of_some _ q) (Nat.le_refl _) ?_, rfl, q _ (I5.hok.fresh (Nat.le_refl _))⟩
  exact ⟨by rw [List.length_reverse]; exact hz, _, vals_rev r, IsTup.new _ _⟩
theorem xm_vrev {α : Type} {en : α → PyData} {xs : List α} {kk : Nat} (h : XD X e env (.tuple (xs.map en))) : XD X (.Subscript e (.Slice none none (some (.UnaryOp .USub (.Constant (.int 1) kk p1) p2)) p3) pos) env (.tuple (xs.reverse.map en)) := fun F0 H0 F σ H E Q q =>
  e_of (pe_revT e_w) (h _ _ F σ H E _ fun v F1 H1 g1 p1 => by
    obtain ⟨a, vs, rfl, z1, z2⟩ := dT p1
    refine ⟨a, vs, rfl, seqT_mono g1.fr z1, fun p hp => ?_⟩
    have g := Gro.new (o := .tup vs.reverse) g1.fr hp
    rw [List.map_reverse] at q
    exact q _ _ _ (g1.trans g) (.tup (.inl (.inl upd_same)) (dpAll_mono g.f (dpAll_rev z2))))
/-- t[lo:hi] -/
theorem xm_vcut {α : Type} {en : α → PyData} {xs : List α} {lo hi : Option Expr} {l u : Option Int} (h : XD X e env (.tuple (xs.map en))) (hl : XO X lo env l) (hu : XO X hi env u) : XD X (.Subscript e (.Slice lo hi none p2) pos) env (.tuple ((cutL xs l u).map en)) := fun F0 H0 F σ H E Q q => by
  obtain ⟨tl, pl, ql⟩ := hl
  obtain ⟨tu, pu, qu⟩ := hu
  refine e_of (pe_slice sl_tupA e_w pl pu) (h _ _ F σ H E _ fun v F1 H1 g1 p1 => ?_)
  refine ql _ _ F1 σ H1 (E.grow g1) _ fun F2 H2 g2 => ?_
  refine qu _ _ F2 σ H2 (E.grow (g1.trans g2)) _ fun F3 H3 g3 => ?_
  obtain ⟨a, us, rfl, z1, z2⟩ := dT p1
  have gA := (g1.trans g2).trans g3
  have z3 : Same F1 H3 := (g2.f.trans g3.f).trans g3.fr
  have z4 := dpAll_mono (g2.f.trans g3.f) z2
  have e0 : (cutL xs l u).map en = cutD (xs.map en) l u := by
    unfold cutL cutD
    rw [List.length_map, List.map_take, List.map_drop]
  rw [e0] at q
  refine ⟨a, us, rfl, seqT_mono z3 z1, fun hw => ?_, fun hw p hp => ?_⟩
  · refine q _ F3 H3 gA ?_
    have e1 : cutD (xs.map en) l u = xs.map en := by
      have hl := dpAll_len z2
      rw [hl] at hw
      unfold cutD
      rw [hw.1, hw.2, List.drop_zero, Nat.sub_zero, List.take_length]
    rw [e1]
    exact .tup (seqT_mono (g2.f.trans g3.f) z1) z4
  · have g := Gro.new (o := .tup (cutV us l u)) g3.fr hp
    exact q _ _ _ (gA.trans g) (.tup (.inl (.inl upd_same)) (dpAll_mono g.f (cut_dp z4)))
theorem xm_lcut {α : Type} {en : α → PyData} {xs : List α} {lo hi : Option Expr} {l u : Option Int} (h : XD X e env (.list (xs.map en))) (hl : XO X lo env l) (hu : XO X hi env u) : XL X (.Subscript e (.Slice lo hi none p2) pos) env ((cutL xs l u).map en) := by
  have e0 : (cutL xs l u).map en = cutD (xs.map en) l u := by
    unfold cutL cutD
    rw [List.length_map, List.map_take, List.map_drop]
  rw [e0]; exact xl_slL h hl hu
/-- t + u -/
theorem xm_vcat {α : Type} {en : α → PyData} {xs ys v : List α} (h1 : XD X e env (.tuple (xs.map en))) (h2 : XD X e2 env (.tuple (ys.map en))) (q0 : lCat xs ys = some v) : XD X (.BinOp e .Add e2 pos) env (.tuple (v.map en)) := by
  unfold lCat at q0
  split at q0
  case isFalse => cases q0
  case isTrue hb =>
  cases q0
  rw [List.map_append]
  refine x2 (pe_op op_catA e_w e_w) h1 h2 fun F H v w fr p1 p2 Q q => ?_
  obtain ⟨a, vs, rfl, z1, z2⟩ := dT p1
  obtain ⟨b, us, rfl, y1, y2⟩ := dT p2
  have la := dpAll_len z2
  have lb := dpAll_len y2
  rw [List.length_map] at la lb
  refine ⟨a, b, vs, us, rfl, rfl, seqT_mono fr z1, seqT_mono fr y1, by rw [la, lb]; exact hb, fun hx => ?_, fun hx hy => ?_, fun hx hy p hp => ?_⟩
  · subst hx
    have : xs = [] := List.eq_nil_of_length_eq_zero la.symm
    subst this
    exact q _ F H (Gro.refl fr) p2
  · subst hy
    have : ys = [] := List.eq_nil_of_length_eq_zero lb.symm
    subst this
    rw [List.map_nil, List.append_nil] at q
    exact q _ F H (Gro.refl fr) p1
  · have g := Gro.new (o := .tup (vs ++ us)) fr hp
    exact q _ _ _ g (.tup (.inl (.inl upd_same)) (dpAll_mono g.f (dpAll_append z2 y2)))
/-! ## order of data -/
def rOrd (K : PySem.W.Frag) (g : PyData → PyData → Bool) : R2 := fun x y H Q => ∃ d e, Dp K H x d ∧ Dp K H y e ∧ PySem.W.alike d e = true ∧ d ≠ .none ∧ min d.depth e.depth ≤ 60 ∧ Q (.bl (g d e)) H
theorem op_ltO (hu : X.A.units + 64 < cLine) : OpR X (compareOp .Lt) (rOrd X.K fun d e => PySem.W.dataLt d e) := by
  intro pins s σ H x y v u Q I rx ry h
  obtain ⟨d, e, hd, he, sa, sn, sz, q⟩ := h
  obtain ⟨as, r1⟩ := Dp.reads I d x v hd rx
  obtain ⟨bs, r2⟩ := Dp.reads I e y u he ry
  exact PySem.W.lt_data r1 r2 sa sn (by omega) ⟨.bl _, H, I, rfl, q⟩
theorem op_gtO (hu : X.A.units + 64 < cLine) : OpR X (compareOp .Gt) (rOrd X.K fun d e => PySem.W.dataLt e d) := by
  intro pins s σ H x y v u Q I rx ry h
  obtain ⟨d, e, hd, he, sa, sn, sz, q⟩ := h
  obtain ⟨as, r1⟩ := Dp.reads I d x v hd rx
  obtain ⟨bs, r2⟩ := Dp.reads I e y u he ry
  exact PySem.W.gt_data r1 r2 sa sn (by omega) ⟨.bl _, H, I, rfl, q⟩
theorem op_leO (hu : X.A.units + 64 < cLine) : OpR X (compareOp .LtE) (rOrd X.K fun d e => !PySem.W.dataLt e d) := by
  intro pins s σ H x y v u Q I rx ry h
  obtain ⟨d, e, hd, he, sa, sn, sz, q⟩ := h
  obtain ⟨as, r1⟩ := Dp.reads I d x v hd rx
  obtain ⟨bs, r2⟩ := Dp.reads I e y u he ry
  exact PySem.W.le_data r1 r2 sa sn (by omega) ⟨.bl _, H, I, rfl, q⟩
theorem op_geO (hu : X.A.units + 64 < cLine) : OpR X (compareOp .GtE) (rOrd X.K fun d e => !PySem.W.dataLt d e) := by
  intro pins s σ H x y v u Q I rx ry h
  obtain ⟨d, e, hd, he, sa, sn, sz, q⟩ := h
  obtain ⟨as, r1⟩ := Dp.reads I d x v hd rx
  obtain ⟨bs, r2⟩ := Dp.reads I e y u he ry
  exact PySem.W.ge_data r1 r2 sa sn (by omega) ⟨.bl _, H, I, rfl, q⟩
/-- d < e where both are data of one kind -/
def ltD (d e : PyData) : Option Bool := if PySem.W.alike d e = true ∧ isNonD d = false ∧ min d.depth e.depth ≤ 60 then some (PySem.W.dataLt d e) else none
theorem nn_of {d : PyData} (h : isNonD d = false) : d ≠ .none := fun z => by subst z; cases h
/-- a text within a text -/
def isSub (c z : Str) : Bool := !(Builtin.Str.occurrences z c 0 z.length 1).isEmpty
/-- what a comparison tells, by data -/
inductive CmpQ : CmpOp → PyData → PyData → Bool → Prop
  | of {op a b c} (h : CmpD op a b c) : CmpQ op a b c
  | eq {a b c} (q : eqD a b = some c) : CmpQ .Eq a b c
  | ne {a b c} (q : eqD a b = some c) : CmpQ .NotEq a b (!c)
  | lt {a b c} (q : ltD a b = some c) : CmpQ .Lt a b c
  | gt {a b c} (q : ltD b a = some c) : CmpQ .Gt a b c
  | le {a b c} (q : ltD b a = some c) : CmpQ .LtE a b (!c)
  | ge {a b c} (q : ltD a b = some c) : CmpQ .GtE a b (!c)
  | inSub {c z} : CmpQ .In (.str c) (.str z) (isSub c z)
  | niSub {c z} : CmpQ .NotIn (.str c) (.str z) (!isSub c z)
theorem cmpq_r {op : CmpOp} {b : Bool} (hr : Room k X.A) (h : CmpQ op d1 d2 b) : ∃ r, OpR X (compareOp op) r ∧ OpD X.K r d1 d2 (.bool b) := by
  cases h with
  | of h => exact cmp_r hr h
  | inSub => exact ⟨_, op_in_str, fun F H v w fr p1 p2 Q q => ⟨_, _, dS p1, dS p2, q _ F H (Gro.refl fr) (.bl _)⟩⟩
  | niSub => exact ⟨_, op_notIn_str, fun F H v w fr p1 p2 Q q => ⟨_, _, dS p1, dS p2, q _ F H (Gro.refl fr) (.bl _)⟩⟩
  | eq q =>
    unfold eqD at q
    split at q
    · rename_i hb; cases q; exact cmp_r hr (.eqD hb.1 hb.2)
    · cases q
  | ne q =>
    unfold eqD at q
    split at q
    · rename_i hb; cases q; exact cmp_r hr (.neD hb.1 hb.2)
    · cases q
  | lt q =>
    unfold ltD at q
    split at q
    · rename_i hb; cases q
      exact ⟨_, op_ltO hr.units, fun F H v w fr p1 p2 Q q => ⟨d1, d2, dp_mono fr p1, dp_mono fr p2, hb.1, nn_of hb.2.1, hb.2.2, q _ F H (Gro.refl fr) (.bl _)⟩⟩
    · cases q
  | gt q =>
    unfold ltD at q
    split at q
    · rename_i hb; cases q
      refine ⟨_, op_gtO hr.units, fun F H v w fr p1 p2 Q q => ⟨d1, d2, dp_mono fr p1, dp_mono fr p2, by rw [PySem.W.alike_comm]; exact hb.1, ?_, by rw [Nat.min_comm]; exact hb.2.2, q _ F H (Gro.refl fr) (.bl _)⟩⟩
      exact PySem.W.ne_none_both hb.1 (nn_of hb.2.1)
    · cases q
  | le q =>
    unfold ltD at q
    split at q
    · rename_i hb; cases q
      refine ⟨_, op_leO hr.units, fun F H v w fr p1 p2 Q q => ⟨d1, d2, dp_mono fr p1, dp_mono fr p2, by rw [PySem.W.alike_comm]; exact hb.1, ?_, by rw [Nat.min_comm]; exact hb.2.2, q _ F H (Gro.refl fr) (.bl _)⟩⟩
      exact PySem.W.ne_none_both hb.1 (nn_of hb.2.1)
    · cases q
  | ge q =>
    unfold ltD at q
    split at q
    · rename_i hb; cases q
      exact ⟨_, op_geO hr.units, fun F H v w fr p1 p2 Q q => ⟨d1, d2, dp_mono fr p1, dp_mono fr p2, hb.1, nn_of hb.2.1, hb.2.2, q _ F H (Gro.refl fr) (.bl _)⟩⟩
    · cases q
theorem q_cmp {op : CmpOp} {b : Bool} (hr : Room k X.A) (h1 : XD X e env d1) (h2 : XD X e2 env d2) (h : CmpQ op d1 d2 b) (hm : behindInMarks op e2 = false := by first | exact nomark _ | rfl) : XD X (.Compare e [op] [e2] pos) env (.bool b) := by
  obtain ⟨r, ho, hd⟩ := cmpq_r hr h
  exact x2 (pe_cmpR ho e_w e_w hm) h1 h2 hd
theorem q_cmpT {op : CmpOp} {b : Bool} (hr : Room k X.A) (h1 : XD X e env d1) (h2 : XD X e2 env d2) (h : CmpQ op d1 d2 b) (hm : behindInMarks op e2 = false := by first | exact nomark _ | rfl) : XT X (.Compare e [op] [e2] pos) env b := by
  obtain ⟨r, ho, hd⟩ := cmpq_r hr h
  exact cmpT (op := op) (pt_cmpR ho e_w e_w hm) h1 h2 hd
/-! ### in -/
theorem inF_strs (z : Str) : ∀ xs : List Str, inF (.str z) (xs.map .str) = decide (z ∈ xs)
  | [] => by simp [inF]
  | x :: l => by
    have ih := inF_strs z l
    unfold inF at ih ⊢
    rw [List.map_cons, List.any_cons, ih]
    show ((x == z) || decide (z ∈ l)) = decide (z ∈ x :: l)
    rw [Bool.eq_iff_iff]
    simp only [Bool.or_eq_true, beq_iff_eq, decide_eq_true_eq, List.mem_cons]
    exact ⟨fun h => h.imp (fun e => e.symm) id, fun h => h.imp (fun e => e.symm) id⟩
theorem inF_ints (n : Int) : ∀ l : List Int, inF (.int n) (l.map .int) = decide (n ∈ l)
  | [] => by simp [inF]
  | x :: l => by
    have ih := inF_ints n l
    unfold inF at ih ⊢
    rw [List.map_cons, List.any_cons, ih]
    show ((x == n) || decide (n ∈ l)) = decide (n ∈ x :: l)
    rw [Bool.eq_iff_iff]
    simp only [Bool.or_eq_true, beq_iff_eq, decide_eq_true_eq, List.mem_cons]
    exact ⟨fun h => h.imp (fun e => e.symm) id, fun h => h.imp (fun e => e.symm) id⟩
theorem flat_strs (l : List Str) : (l.map PyData.str).all flatD = true := by
  rw [List.all_eq_true]; intro d hd; obtain ⟨k, _, rfl⟩ := List.mem_map.mp hd; rfl
theorem flat_ints (l : List Int) : (l.map PyData.int).all flatD = true := by
  rw [List.all_eq_true]; intro d hd; obtain ⟨k, _, rfl⟩ := List.mem_map.mp hd; rfl
theorem cq_inLS {z : Str} {xs : List Str} : CmpQ .In (.str z) (.list (xs.map .str)) (decide (z ∈ xs)) := by rw [← inF_strs]; exact .of (.inL rfl (flat_strs xs))
theorem cq_inVS {z : Str} {xs : List Str} : CmpQ .In (.str z) (.tuple (xs.map .str)) (decide (z ∈ xs)) := by rw [← inF_strs]; exact .of (.inT rfl (flat_strs xs))
theorem cq_niLS {z : Str} {xs : List Str} : CmpQ .NotIn (.str z) (.list (xs.map .str)) (!decide (z ∈ xs)) := by rw [← inF_strs]; exact .of (.notInL rfl (flat_strs xs))
theorem cq_niVS {z : Str} {xs : List Str} : CmpQ .NotIn (.str z) (.tuple (xs.map .str)) (!decide (z ∈ xs)) := by rw [← inF_strs]; exact .of (.notInT rfl (flat_strs xs))
theorem cq_inLI {z : Int} {xs : List Int} : CmpQ .In (.int z) (.list (xs.map .int)) (decide (z ∈ xs)) := by rw [← inF_ints]; exact .of (.inL rfl (flat_ints xs))
theorem cq_inVI {z : Int} {xs : List Int} : CmpQ .In (.int z) (.tuple (xs.map .int)) (decide (z ∈ xs)) := by rw [← inF_ints]; exact .of (.inT rfl (flat_ints xs))
theorem cq_niLI {z : Int} {xs : List Int} : CmpQ .NotIn (.int z) (.list (xs.map .int)) (!decide (z ∈ xs)) := by rw [← inF_ints]; exact .of (.notInL rfl (flat_ints xs))
theorem cq_niVI {z : Int} {xs : List Int} : CmpQ .NotIn (.int z) (.tuple (xs.map .int)) (!decide (z ∈ xs)) := by rw [← inF_ints]; exact .of (.notInT rfl (flat_ints xs))
/-- a letter in a text -/
def sIn (c z : Str) : Option Bool := match c.cps.toList with
  | [k] => some (decide (k ∈ z.cps.toList))
  | _ => none
theorem sIn_c {c z : Str} {b : Bool} (q : sIn c z = some b) : ∃ k, c = ⟨#[k]⟩ ∧ b = decide (k ∈ z.cps.toList) := by
  unfold sIn at q
  split at q
  · rename_i k hk
    cases q
    refine ⟨k, ?_, rfl⟩
    obtain ⟨⟨l⟩⟩ := c
    simp only at hk
    rw [hk]
  · cases q
theorem cq_inS {c z : Str} {b : Bool} (q : sIn c z = some b) : CmpQ .In (.str c) (.str z) b := by
  obtain ⟨k, rfl, rfl⟩ := sIn_c q
  exact .of .inS
theorem cq_niS {c z : Str} {b : Bool} (q : sIn c z = some b) : CmpQ .NotIn (.str c) (.str z) (!b) := by
  obtain ⟨k, rfl, rfl⟩ := sIn_c q
  exact .of .notInS
/-! ### and, or, if-else with parts that may fail -/
theorem xd_andM {a b : Bool} {mb : Option Bool} (h1 : XD X e env (.bool a)) (h2 : a = true → ∀ b', mb = some b' → XD X (.BoolOp .And (e2 :: es) pos) env (.bool b')) (q : (if a = true then mb else some false) = some b) : XD X (.BoolOp .And (e :: e2 :: es) pos) env (.bool b) := by
  cases a with
  | true => exact (xd_and (a := true) (b := b) h1 fun _ => h2 rfl b (ifT q rfl)).is rfl
  | false =>
    have := ifF q rfl
    cases this
    exact (xd_and (a := false) (b := false) h1 fun z => nomatch z).is rfl
theorem xd_orM {a b : Bool} {mb : Option Bool} (h1 : XD X e env (.bool a)) (h2 : a = false → ∀ b', mb = some b' → XD X (.BoolOp .Or (e2 :: es) pos) env (.bool b')) (q : (if a = true then some true else mb) = some b) : XD X (.BoolOp .Or (e :: e2 :: es) pos) env (.bool b) := by
  cases a with
  | false => exact (xd_or (a := false) (b := b) h1 fun _ => h2 rfl b (ifF q rfl)).is rfl
  | true =>
    have := ifT q rfl
    cases this
    exact (xd_or (a := true) (b := true) h1 fun z => nomatch z).is rfl
theorem xw_andM {a b : Bool} {mb : Option Bool} (h1 : XT X e env a) (h2 : a = true → ∀ b', mb = some b' → XW X (.BoolOp .And (e2 :: es) pos) env b') (q : (if a = true then mb else some false) = some b) : XW X (.BoolOp .And (e :: e2 :: es) pos) env b := by
  cases a with
  | true => exact xw_and (a := true) (b := b) h1 fun _ => h2 rfl b (ifT q rfl)
  | false =>
    have := ifF q rfl
    cases this
    exact xw_and (a := false) (b := false) h1 fun z => nomatch z
theorem xw_orM {a b : Bool} {mb : Option Bool} (h1 : XT X e env a) (h2 : a = false → ∀ b', mb = some b' → XW X (.BoolOp .Or (e2 :: es) pos) env b') (q : (if a = true then some true else mb) = some b) : XW X (.BoolOp .Or (e :: e2 :: es) pos) env b := by
  cases a with
  | false => exact xw_or (a := false) (b := b) h1 fun _ => h2 rfl b (ifF q rfl)
  | true =>
    have := ifT q rfl
    cases this
    exact xw_or (a := true) (b := true) h1 fun z => nomatch z
theorem xd_ifM {α : Type} {en : α → PyData} {b : Bool} {c : Expr} {m1 m2 : Option α} {v : α} (h : XT X c env b) (h1 : b = true → ∀ v, m1 = some v → XD X e env (en v)) (h2 : b = false → ∀ v, m2 = some v → XD X e2 env (en v)) (q : (if b = true then m1 else m2) = some v) : XD X (.IfExp c e e2 pos) env (en v) := by
  cases b with
  | true => exact (xd_ifx (b := true) (d1 := en v) (d2 := en v) h (fun _ => h1 rfl v (ifT q rfl)) fun z => nomatch z).is rfl
  | false => exact (xd_ifx (b := false) (d1 := en v) (d2 := en v) h (fun z => nomatch z) fun _ => h2 rfl v (ifF q rfl)).is rfl
/-! ### sorted -/
theorem xm_srt {xs v : List Str} (h : XD X e env (.list (xs.map .str))) (q : srtM xs = some v) (hm : X.mg "sorted" = none) (hg : Gl X "sorted" := by rfl) (hs : starEach [e] X.env = (false, eval e X.env) :: starEach [] X.env := by rfl) (hpl : (backTo pos (starEach [] X.env)).any (·.1) = false := by rfl) :
    XL X (.Call (.Name "sorted" p) [e] [] pos) env (v.map .str) := by
  unfold srtM at q
  split at q
  · rename_i hb; cases q; exact xl_sortedS h hb hm hg hs hpl
  · cases q
theorem xm_srtSet {pos2 : Pos} {xs v : List Str} (hr : Room k X.A) (h : XD X e env (.list (xs.map .str)) ∨ XD X e env (.tuple (xs.map .str))) (q : srtSetM xs = some v) (hm : X.mg "sorted" = none) (hm2 : X.mg "set" = none) (hg : Gl X "sorted" := by rfl) (hg2 : Gl X "set" := by rfl) (hc : X.calm = true := by rfl)
    (hs : starEach [e] X.env = (false, eval e X.env) :: starEach [] X.env := by rfl) (hpl : (backTo pos2 (starEach [] X.env)).any (·.1) = false := by rfl)
    (hs2 : starEach [.Call (.Name "set" p2) [e] [] pos2] X.env = (false, eval (.Call (.Name "set" p2) [e] [] pos2) X.env) :: starEach [] X.env := by rfl) (hpl2 : (backTo pos (starEach [] X.env)).any (·.1) = false := by rfl) :
    XL X (.Call (.Name "sorted" p) [.Call (.Name "set" p2) [e] [] pos2] [] pos) env (v.map .str) := by
  unfold srtSetM at q
  split at q
  · rename_i hb; cases q; exact xl_srtSet hr h hb hm hm2 hg hg2 hc hs hpl hs2 hpl2
  · cases q
theorem xm_srtLen {kpos : Pos} {xs v : List Str} (hr : Room k X.A) (h : XL X e env (xs.map .str)) (q : srtLenM xs = some v) (hm : X.mg "sorted" = none) (hm2 : X.mg "len" = none) (hg : Gl X "sorted" := by rfl) (hg2 : Gl X "len" := by rfl)
    (hst : backTo pos (starEach [e] X.env) = (false, eval e X.env) :: backTo pos (starEach [] X.env) := by rfl) (hpl : (backTo pos (starEach [e] X.env)).any (·.1) = false := by rfl) (hs : starEach [e] X.env = (false, eval e X.env) :: starEach [] X.env := by rfl) :
    XL X (.Call (.Name "sorted" p) [e] [⟨some "key", .Name "len" p2, kpos⟩] pos) env (v.map .str) := by
  unfold srtLenM at q
  split at q
  · rename_i hb; cases q
    exact xl_srtLen hr h (fun z hz => of_decide_eq_true (List.all_eq_true.mp hb z hz)) hm hm2 hg hg2 hst hpl hs
  · cases q
end
/-! ### no star: by what stands there -/
section
variable {es : List Expr} {env : Env} {a b c : Expr} {xs ys : List Expr} {x : Str} {p : Pos} {k : Nat}
theorem hs_Name : starEach (.Name x p :: es) env = (false, eval (.Name x p) env) :: starEach es env := rfl
theorem hs_Constant {v : Const} : starEach (.Constant v k p :: es) env = (false, eval (.Constant v k p) env) :: starEach es env := rfl
theorem hs_BinOp {o : Operator} : starEach (.BinOp a o b p :: es) env = (false, eval (.BinOp a o b p) env) :: starEach es env := rfl
theorem hs_UnaryOp {o : UnaryOp} : starEach (.UnaryOp o a p :: es) env = (false, eval (.UnaryOp o a p) env) :: starEach es env := rfl
theorem hs_BoolOp {o : BoolOp} : starEach (.BoolOp o xs p :: es) env = (false, eval (.BoolOp o xs p) env) :: starEach es env := rfl
theorem hs_Compare {o : List CmpOp} : starEach (.Compare a o xs p :: es) env = (false, eval (.Compare a o xs p) env) :: starEach es env := rfl
theorem hs_Call {kw : List Keyword} : starEach (.Call a xs kw p :: es) env = (false, eval (.Call a xs kw p) env) :: starEach es env := rfl
theorem hs_Subscript : starEach (.Subscript a b p :: es) env = (false, eval (.Subscript a b p) env) :: starEach es env := rfl
theorem hs_Tuple : starEach (.Tuple xs k p :: es) env = (false, eval (.Tuple xs k p) env) :: starEach es env := rfl
theorem hs_List : starEach (.List xs p :: es) env = (false, eval (.List xs p) env) :: starEach es env := rfl
theorem hs_IfExp : starEach (.IfExp a b c p :: es) env = (false, eval (.IfExp a b c p) env) :: starEach es env := rfl
theorem hs_ListComp {g : List Comprehension} {sc : Scope} : starEach (.ListComp a g sc p :: es) env = (false, eval (.ListComp a g sc p) env) :: starEach es env := rfl
theorem hs_Attribute : starEach (.Attribute a x p :: es) env = (false, eval (.Attribute a x p) env) :: starEach es env := rfl
end
end FR

namespace FR
open PySem PySem.Spec PyProof.Rows L2

/-! ## reckoning with mirrors -/
theorem bS {α β : Type} {m : Option α} {f : α → Option β} {x : α} {r : Option β} (h : m = some x) (k : f x = r) : Option.bind m f = r := by rw [h]; exact k
theorem loop_inv {α σ ρ : Type} {f : α → σ → Option (Ctl σ ρ)} (P : Nat → σ → Prop) (R : ρ → Prop) (Q : σ → Prop) : ∀ (xs : List α) (i0 : Nat) (s : σ), P i0 s →
    (∀ i (hi : i < xs.length) s, P (i0 + i) s → ∃ r, f xs[i] s = some r ∧ ((∃ s', r = .nx s' ∧ P (i0 + i + 1) s') ∨ (∃ s', r = .bk s' ∧ Q s') ∨ ∃ v, r = .rt v ∧ R v)) → (∀ s, P (i0 + xs.length) s → Q s) →
    ∃ c, loopM f xs s = some c ∧ ((∃ s', c = .inl s' ∧ Q s') ∨ ∃ v, c = .inr v ∧ R v)
  | [], i0, s, h, _, hq => ⟨_, rfl, .inl ⟨s, rfl, hq s h⟩⟩
  | x :: xs, i0, s, h, st, hq => by
    obtain ⟨r, hr, c⟩ := st 0 (Nat.zero_lt_succ _) s h
    have hr' : f x s = some r := hr
    rcases c with ⟨s', rfl, p⟩ | ⟨s', rfl, p⟩ | ⟨v, rfl, p⟩
    · obtain ⟨c, h1, h2⟩ := loop_inv P R Q xs (i0 + 1) s' p (fun i hi s p => by
        have := st (i + 1) (Nat.succ_lt_succ hi) s (by rw [show i0 + (i + 1) = i0 + 1 + i by omega]; exact p)
        rw [show i0 + (i + 1) + 1 = i0 + 1 + i + 1 by omega] at this
        exact this) (fun s p => hq s (by rw [List.length_cons, show i0 + (xs.length + 1) = i0 + 1 + xs.length by omega]; exact p))
      exact ⟨c, by unfold loopM; rw [hr']; exact h1, h2⟩
    · exact ⟨.inl s', by unfold loopM; rw [hr'], .inl ⟨s', rfl, p⟩⟩
    · exact ⟨.inr v, by unfold loopM; rw [hr'], .inr ⟨v, rfl, p⟩⟩
/-- a loop without break or return -/
theorem loop_nx {α σ ρ : Type} {f : α → σ → Option (Ctl σ ρ)} (P : Nat → σ → Prop) {xs : List α} {s : σ} (h0 : P 0 s) (st : ∀ i (hi : i < xs.length) s, P i s → ∃ s', f xs[i] s = some (.nx s') ∧ P (i + 1) s') : ∃ s', loopM f xs s = some (.inl s') ∧ P xs.length s' := by
  obtain ⟨c, h1, h2⟩ := loop_inv (f := f) P (fun _ => False) (P xs.length) xs 0 s h0 (fun i hi s p => by
    rw [Nat.zero_add] at p ⊢
    obtain ⟨s', a, b⟩ := st i hi s p
    exact ⟨_, a, .inl ⟨s', rfl, b⟩⟩) (fun s p => by rw [Nat.zero_add] at p; exact p)
  rcases h2 with ⟨s', rfl, p⟩ | ⟨v, _, f⟩
  · exact ⟨s', h1, p⟩
  · exact f.elim
/-- a loop's answer by a function -/
theorem loop_fold {α σ ρ : Type} {f : α → σ → Option (Ctl σ ρ)} (g : α → σ → σ) (P : σ → Prop) : ∀ (xs : List α) (s : σ), P s → (∀ x ∈ xs, ∀ s, P s → f x s = some (.nx (g x s)) ∧ P (g x s)) → loopM f xs s = some (.inl (xs.foldl (fun s x => g x s) s)) ∧ P (xs.foldl (fun s x => g x s) s)
  | [], s, h, _ => ⟨rfl, h⟩
  | x :: xs, s, h, st => by
    obtain ⟨a, b⟩ := st x List.mem_cons_self s h
    obtain ⟨c, d⟩ := loop_fold g P xs (g x s) b fun y hy => st y (List.mem_cons_of_mem _ hy)
    exact ⟨by unfold loopM; rw [a]; exact c, d⟩
theorem compE_map {α β : Type} {f : α → Option β} (g : α → β) : ∀ {xs : List α}, (∀ x ∈ xs, f x = some (g x)) → compE f xs = some (xs.map g)
  | [], _ => rfl
  | x :: xs, h => by
    unfold compE
    rw [h x List.mem_cons_self, compE_map g fun y hy => h y (List.mem_cons_of_mem _ hy)]; rfl
theorem compM_map {α β : Type} {f : α → Option β} (g : α → β) {xs : List α} (h : ∀ x ∈ xs, f x = some (g x)) (hz : xs.length ≤ 100000) : compM f xs = some (xs.map g) := by
  unfold compM
  rw [if_pos (by rw [sizeLine_eq]; omega), compE_map g h]
theorem compE_ex {α β : Type} {f : α → Option β} (Q : α → β → Prop) : ∀ {xs : List α}, (∀ x ∈ xs, ∃ y, f x = some y ∧ Q x y) → ∃ ys, compE f xs = some ys ∧ ys.length = xs.length ∧ ∀ y ∈ ys, ∃ x ∈ xs, Q x y
  | [], _ => ⟨[], rfl, rfl, fun y h => by cases h⟩
  | x :: xs, h => by
    obtain ⟨y, h1, h2⟩ := h x List.mem_cons_self
    obtain ⟨ys, h3, h4, h5⟩ := compE_ex Q (xs := xs) fun z hz => h z (List.mem_cons_of_mem _ hz)
    refine ⟨y :: ys, by unfold compE; rw [h1, h3]; rfl, congrArg (· + 1) h4, fun z hz => ?_⟩
    rcases List.mem_cons.mp hz with rfl | hz
    · exact ⟨x, List.mem_cons_self, h2⟩
    · obtain ⟨w, hw, q⟩ := h5 z hz; exact ⟨w, List.mem_cons_of_mem _ hw, q⟩
theorem compM_ex {α β : Type} {f : α → Option β} (Q : α → β → Prop) {xs : List α} (h : ∀ x ∈ xs, ∃ y, f x = some y ∧ Q x y) (hz : xs.length ≤ 100000) : ∃ ys, compM f xs = some ys ∧ ys.length = xs.length ∧ ∀ y ∈ ys, ∃ x ∈ xs, Q x y := by
  obtain ⟨ys, h1, h2⟩ := compE_ex Q h
  refine ⟨ys, ?_, h2⟩
  unfold compM
  rw [if_pos (by rw [sizeLine_eq]; omega), h1]
theorem compIM_filter {α β : Type} {c : α → Option Bool} {f : α → Option β} (b : α → Bool) (g : α → β) {xs : List α} (hc : ∀ x ∈ xs, c x = some (b x)) (hf : ∀ x ∈ xs, b x = true → f x = some (g x)) (hz : xs.length ≤ 100000) : compIM c f xs = some ((xs.filter b).map g) := by
  unfold compIM
  rw [if_pos (by rw [sizeLine_eq]; omega)]
  clear hz
  induction xs with
  | nil => rfl
  | cons x xs ih =>
    have ih := ih (fun y hy => hc y (List.mem_cons_of_mem _ hy)) (fun y hy => hf y (List.mem_cons_of_mem _ hy))
    unfold compIE
    rw [hc x List.mem_cons_self]
    show (if b x = true then _ else _) = _
    rw [List.filter_cons]
    cases hb : b x with
    | true => rw [if_pos rfl, if_pos rfl, hf x List.mem_cons_self hb, ih]; rfl
    | false => rw [if_neg Bool.false_ne_true, if_neg Bool.false_ne_true, ih]
theorem rng1_ok {b : Int} (h : b ≤ 1000000) (h0 : 0 ≤ b) : rng1 b = some ((List.range b.toNat).map fun i : Nat => (i : Int)) := by
  unfold rng1
  rw [if_pos (by constructor <;> omega)]
theorem rng2_ok {a b : Int} (h : -1000000 ≤ a ∧ a ≤ 1000000 ∧ -1000000 ≤ b ∧ b ≤ 1000000) : rng2 a b = some ((List.range (b - a).toNat).map fun i : Nat => a + (i : Int)) := by
  unfold rng2
  rw [if_pos (by refine ⟨?_, ?_, ?_, ?_⟩ <;> omega)]
theorem iMod_ok {a b : Int} (h : 0 < b) : iMod a b = some (a % b) := if_pos h
theorem iDiv_ok {a b : Int} (h : 0 < b) (h2 : b < 1073741824) : iDiv a b = some (a / b) := if_pos ⟨h, h2⟩
theorem iMul_ok {a b : Int} (h : (-(2 ^ 64) < a ∧ a < 2 ^ 64) ∨ (-(2 ^ 64) < b ∧ b < 2 ^ 64)) : iMul a b = some (a * b) := if_pos h
theorem sAdd_ok {a b : Str} (h : a.length + b.length ≤ 1000000) : sAdd a b = some (a ++ b) := if_pos (by rw [sizeLine_eq]; omega)
theorem sMul_ok {a : Str} {n : Int} (h : -100000 ≤ n ∧ n ≤ 100000) (h2 : a.length * n.toNat ≤ 1000000) : sMul a n = some (repS a n.toNat) := if_pos ⟨h, by rw [sizeLine_eq]; omega⟩
theorem sLen_ok {a : Str} (h : a.length ≤ 1000000) : sLen a = some (a.length : Int) := if_pos (by rw [sizeLine_eq]; omega)
theorem sCut_ok {z : Str} {l u : Option Int} (h : z.length ≤ 1000000) : sCut z l u = some (cutS z l u) := if_pos (by rw [sizeLine_eq]; omega)
theorem sRev_ok {z : Str} (h : z.length ≤ 1000000) : sRev z = some (revS z) := if_pos (by rw [sizeLine_eq]; omega)
theorem lApp_ok {α : Type} {xs : List α} {x : α} (h : xs.length ≤ 1000000) : lApp xs x = some (xs ++ [x]) := if_pos (by rw [sizeLine_eq]; omega)
theorem lCat_ok {α : Type} {xs ys : List α} (h : xs.length + ys.length ≤ 1000000) : lCat xs ys = some (xs ++ ys) := if_pos (by rw [sizeLine_eq]; omega)
theorem atI_ok {α : Type} {xs : List α} {i : Int} (h : 0 ≤ i ∧ i < (xs.length : Int)) (h' : i.toNat < xs.length := by omega) : atI xs i = some xs[i.toNat] := by
  have e : i = ((i.toNat : Nat) : Int) := by omega
  have := atI_nat (xs := xs) (List.getElem?_eq_getElem h')
  rw [← e] at this; exact this
theorem atI_ex {α : Type} {xs : List α} {i : Int} (h : 0 ≤ i ∧ i < (xs.length : Int)) : ∃ x, atI xs i = some x ∧ x ∈ xs := ⟨_, atI_ok h, List.getElem_mem _⟩
theorem sIx_ok {z : Str} {i : Int} (hz : z.length ≤ 1000000) (h : 0 ≤ i ∧ i < (z.length : Int)) : ∃ c, sIx z i = some ⟨#[c]⟩ ∧ c ∈ z.cps.toList := by
  have hl : z.cps.toList.length = z.length := by simp [Str.length]
  obtain ⟨c, h1, h2⟩ := atI_ex (xs := z.cps.toList) (i := i) (by rw [hl]; exact h)
  refine ⟨c, ?_, h2⟩
  unfold sIx
  rw [if_pos (by rw [sizeLine_eq]; omega), h1]; rfl
theorem srtM_ok {xs : List Str} (h : xs.length < 64) : srtM xs = some (srtS xs) := if_pos h
theorem srtSetM_ok {xs : List Str} (h : xs.length + 1 < 4096) : srtSetM xs = some (srtS (uniS xs)) := if_pos h
theorem srtLenM_ok {xs : List Str} (h : ∀ z ∈ xs, z.length ≤ 1000000) : srtLenM xs = some (lenS xs) := if_pos (List.all_eq_true.mpr fun z hz => decide_eq_true (by have := h z hz; rw [sizeLine_eq]; omega))
theorem sIn_ok {k : Nat} {z : Str} : sIn ⟨#[k]⟩ z = some (decide (k ∈ z.cps.toList)) := rfl
/-! ### texts -/
theorem len_app (a b : Str) : (a ++ b).length = a.length + b.length := by
  show (a.cps ++ b.cps).size = _
  rw [Array.size_append]; rfl
theorem str_len (z : Str) : z.cps.toList.length = z.length := by simp [Str.length]
def alphaS : Str := "abcdefghijklmnopqrstuvwxyz"
theorem alpha_len : alphaS.length = 26 := by decide +kernel
theorem alpha_all : alphaS.cps.toList.all (fun c => decide (97 ≤ c) && decide (c ≤ 122)) = true := by decide +kernel
theorem alpha_bnd {c : Nat} (h : c ∈ alphaS.cps.toList) : 97 ≤ c ∧ c ≤ 122 := by
  have := List.all_eq_true.mp alpha_all c h
  simpa using this
theorem alpha_mem : ∀ c : Nat, c < 123 → 97 ≤ c → c ∈ alphaS.cps.toList := by decide +kernel
/-- a run: letters a to z -/
def isRun (z : Str) : Prop := ∀ c ∈ z.cps.toList, 97 ≤ c ∧ c ≤ 122
theorem isRun_nil : isRun ⟨#[]⟩ := fun c h => by cases h
theorem isRun_app {a b : Str} (ha : isRun a) (hb : isRun b) : isRun (a ++ b) := by
  intro c hc
  have : (a ++ b).cps.toList = a.cps.toList ++ b.cps.toList := by show (a.cps ++ b.cps).toList = _; simp
  rw [this, List.mem_append] at hc
  exact hc.elim (ha c) (hb c)
theorem isRun_rep {z : Str} (h : isRun z) (n : Nat) : isRun (repS z n) := by
  intro c hc
  have : (repS z n).cps.toList = (List.replicate n z.cps.toList).flatten := by simp [repS]
  rw [this] at hc
  obtain ⟨l, h1, h2⟩ := List.mem_flatten.mp hc
  rw [List.eq_of_mem_replicate h1] at h2
  exact h c h2
theorem isRun_cut {z : Str} (h : isRun z) (a b : Option Int) : isRun (cutS z a b) := by
  intro c hc
  have h2 : c ∈ (z.cps.toList.drop (HT.sIx z.length 0 a)).take (HT.sIx z.length z.length b - HT.sIx z.length 0 a) := by simpa [cutS] using hc
  exact h c (List.mem_of_mem_drop (List.mem_of_mem_take h2))
theorem isRun_rev {z : Str} (h : isRun z) : isRun (revS z) := by
  intro c hc
  have : c ∈ z.cps.toList := by simpa [revS] using hc
  exact h c this
theorem isRun_one {k : Nat} (h : 97 ≤ k ∧ k ≤ 122) : isRun ⟨#[k]⟩ := fun c hc => by
  have : c = k := by simpa using hc
  subst this; exact h
theorem ok_run {z : Str} (h : isRun z) : PyData.strOk z = true := by
  unfold PyData.strOk
  rw [Array.all_eq_true]
  intro i hi
  have := h z.cps[i] (by simp)
  exact decide_eq_true (by omega)
theorem cutTo (z : Str) (n : Nat) : (cutS z none (some (n : Int))).length ≤ n := by
  unfold cutS
  rw [HT.sIx_nat]
  show (List.toArray _).size ≤ n
  rw [List.size_toArray, List.length_take]
  omega
theorem cutToI (z : Str) {n : Int} (h : 0 ≤ n) : ((cutS z none (some n)).length : Int) ≤ n := by
  have e : n = ((n.toNat : Nat) : Int) := by omega
  rw [e]
  have := cutTo z n.toNat
  omega
def Letters (ls : List Str) : Prop := ∀ z ∈ ls, ∃ c : Nat, z = ⟨#[c]⟩ ∧ 97 ≤ c ∧ c ≤ 122
theorem Letters.run {ls : List Str} (h : Letters ls) {z : Str} (hz : z ∈ ls) : z.length = 1 ∧ isRun z := by
  obtain ⟨c, rfl, hc⟩ := h z hz
  exact ⟨rfl, isRun_one hc⟩
/-- all letters of some runs -/
def sumL (rs : List Str) : Nat := (rs.map (·.length)).sum
theorem sumL_cons (z : Str) (rs : List Str) : sumL (z :: rs) = z.length + sumL rs := by unfold sumL; rw [List.map_cons, List.sum_cons]
theorem sumL_app (a b : List Str) : sumL (a ++ b) = sumL a + sumL b := by unfold sumL; rw [List.map_append, List.sum_append]
theorem len_sumL {rs : List Str} {z : Str} (h : z ∈ rs) : z.length ≤ sumL rs := by
  induction rs with
  | nil => cases h
  | cons x xs ih =>
    rw [sumL_cons]
    rcases List.mem_cons.mp h with rfl | h
    · omega
    · have := ih h; omega
theorem sumL_le {rs : List Str} {n : Nat} (h : ∀ z ∈ rs, z.length ≤ n) : sumL rs ≤ rs.length * n := by
  induction rs with
  | nil => simp [sumL]
  | cons x xs ih =>
    rw [sumL_cons, List.length_cons, Nat.succ_mul]
    have h1 := h x List.mem_cons_self
    have h2 := ih fun z hz => h z (List.mem_cons_of_mem _ hz)
    omega
/-- runs as they are drawn: at most n of them, at most m letters in all -/
structure Runs (rs : List Str) (n m : Nat) : Prop where
  num : rs.length ≤ n
  all : sumL rs ≤ m
  run : ∀ z ∈ rs, isRun z
theorem Runs.len {rs : List Str} {n m : Nat} (h : Runs rs n m) {z : Str} (hz : z ∈ rs) : z.length ≤ m := Nat.le_trans (len_sumL hz) h.all
/-! ### == of data -/
theorem eqvAll_refl {α : Type} {en : α → PyData} : ∀ (xs : List α), (∀ x ∈ xs, PyData.eqv (en x) (en x) = true) → PyData.eqvAll (xs.map en) (xs.map en) = true
  | [], _ => rfl
  | x :: r, h => by
    show (PyData.eqv (en x) (en x) && PyData.eqvAll (r.map en) (r.map en)) = true
    rw [h x List.mem_cons_self, eqvAll_refl r fun y hy => h y (List.mem_cons_of_mem _ hy)]; rfl
/-- data that may be laid: its texts are right -/
def okD (d : PyData) : Prop := SeqAt.shaped d = true
end FR

namespace FR
open PySem PySem.Spec PyProof.Rows L2

/-! ## shaped data; the order of runs -/
theorem lay_eS {z : Str} (h : isRun z) : PyData.canLay0 (eS z) = true := by simp [PyData.canLay0, ok_run h]
theorem layAll {α : Type} {en : α → PyData} : ∀ {xs : List α}, (∀ x ∈ xs, PyData.canLay0 (en x) = true) → PyData.canLayAll0 (xs.map en) = true
  | [], _ => by simp [PyData.canLayAll0]
  | x :: xs, h => by
    have ih := layAll (en := en) (xs := xs) fun y hy => h y (List.mem_cons_of_mem _ hy)
    simp [PyData.canLayAll0, h x List.mem_cons_self, ih]
theorem lay_eV {α : Type} {en : α → PyData} {xs : List α} (h : ∀ x ∈ xs, PyData.canLay0 (en x) = true) : PyData.canLay0 (eV en xs) = true := by
  simp only [PyData.canLay0]; exact layAll h
theorem lay_eL {α : Type} {en : α → PyData} {xs : List α} (h : ∀ x ∈ xs, PyData.canLay0 (en x) = true) : PyData.canLay0 (eL en xs) = true := by
  simp only [PyData.canLay0]; exact layAll h
theorem depAll {α : Type} {en : α → PyData} {n : Nat} : ∀ {xs : List α}, (∀ x ∈ xs, PyData.depth (en x) ≤ n) → PyData.depthAll (xs.map en) ≤ n
  | [], _ => by simp [PyData.depthAll]
  | x :: xs, h => by
    have ih := depAll (en := en) (n := n) (xs := xs) fun y hy => h y (List.mem_cons_of_mem _ hy)
    have := h x List.mem_cons_self
    simp only [List.map_cons, PyData.depthAll]; omega
theorem dep_eV {α : Type} {en : α → PyData} {xs : List α} {n : Nat} (h : ∀ x ∈ xs, PyData.depth (en x) ≤ n) : PyData.depth (eV en xs) ≤ n + 1 := by
  simp only [PyData.depth]; exact Nat.succ_le_succ (depAll h)
theorem dep_eL {α : Type} {en : α → PyData} {xs : List α} {n : Nat} (h : ∀ x ∈ xs, PyData.depth (en x) ≤ n) : PyData.depth (eL en xs) ≤ n + 1 := by
  simp only [PyData.depth]; exact Nat.succ_le_succ (depAll h)
theorem dep_eS (z : Str) : PyData.depth (eS z) ≤ 0 := by simp [PyData.depth]
theorem dep_eI (z : Int) : PyData.depth (eI z) ≤ 0 := by simp [PyData.depth]
theorem dep_eB (z : Bool) : PyData.depth (eB z) ≤ 0 := by simp [PyData.depth]
theorem shaped_of {d : PyData} (h : PyData.canLay0 d = true) (h2 : PyData.depth d ≤ 64) : SeqAt.shaped d = true := by
  unfold SeqAt.shaped
  rw [h, decide_eq_true h2]; rfl
theorem shaped_runs {rs : List Str} (h : ∀ z ∈ rs, isRun z) : SeqAt.shaped (eV eS rs) = true := shaped_of (lay_eV fun z hz => lay_eS (h z hz)) (Nat.le_trans (dep_eV (n := 0) fun z _ => dep_eS z) (by decide))
theorem shaped_runsL {rs : List Str} (h : ∀ z ∈ rs, isRun z) : SeqAt.shaped (eL eS rs) = true := shaped_of (lay_eL fun z hz => lay_eS (h z hz)) (Nat.le_trans (dep_eL (n := 0) fun z _ => dep_eS z) (by decide))
theorem eqv_eS (z : Str) : PyData.eqv (eS z) (eS z) = true := by show (z == z) = true; simp
theorem eqv_eV {α : Type} {en : α → PyData} {xs : List α} (h : ∀ x ∈ xs, PyData.eqv (en x) (en x) = true) : PyData.eqv (eV en xs) (eV en xs) = true := eqvAll_refl xs h
theorem eqv_eL {α : Type} {en : α → PyData} {xs : List α} (h : ∀ x ∈ xs, PyData.eqv (en x) (en x) = true) : PyData.eqv (eL en xs) (eL en xs) = true := eqvAll_refl xs h
theorem eqD_self {d : PyData} (h : SeqAt.shaped d = true) (e : PyData.eqv d d = true) : eqD d d = some true := by
  unfold eqD; rw [if_pos ⟨h, h⟩, e]
theorem eqD_runs {rs : List Str} (h : ∀ z ∈ rs, isRun z) : eqD (eV eS rs) (eV eS rs) = some true := eqD_self (shaped_runs h) (eqv_eV fun _ _ => eqv_eS _)
theorem eqD_runsL {rs : List Str} (h : ∀ z ∈ rs, isRun z) : eqD (eL eS rs) (eL eS rs) = some true := eqD_self (shaped_runsL h) (eqv_eL fun _ _ => eqv_eS _)
theorem shaped_three {a b c : List Str} (h1 : ∀ z ∈ a, isRun z) (h2 : ∀ z ∈ b, isRun z) (h3 : ∀ z ∈ c, isRun z) : SeqAt.shaped (eP3 (eV eS) (eV eS) (eV eS) (a, b, c)) = true := by
  refine shaped_of ?_ ?_
  · simp only [PyData.canLay0, PyData.canLayAll0]
    rw [layAll fun z hz => lay_eS (h1 z hz), layAll fun z hz => lay_eS (h2 z hz), layAll fun z hz => lay_eS (h3 z hz)]; rfl
  · have d1 := depAll (en := eS) (n := 0) (xs := a) fun z _ => dep_eS z
    have d2 := depAll (en := eS) (n := 0) (xs := b) fun z _ => dep_eS z
    have d3 := depAll (en := eS) (n := 0) (xs := c) fun z _ => dep_eS z
    simp only [PyData.depth, PyData.depthAll]
    omega
theorem eqD_three {a b c : List Str} (h1 : ∀ z ∈ a, isRun z) (h2 : ∀ z ∈ b, isRun z) (h3 : ∀ z ∈ c, isRun z) : eqD (eP3 (eV eS) (eV eS) (eV eS) (a, b, c)) (eP3 (eV eS) (eV eS) (eV eS) (a, b, c)) = some true := by
  refine eqD_self (shaped_three h1 h2 h3) ?_
  show (PyData.eqv (eV eS a) (eV eS a) && (PyData.eqv (eV eS b) (eV eS b) && (PyData.eqv (eV eS c) (eV eS c) && true))) = true
  rw [eqv_eV fun _ _ => eqv_eS _, eqv_eV fun _ _ => eqv_eS _, eqv_eV fun _ _ => eqv_eS _]; rfl
/-- a run stands ahead of another -/
def ltR (a b : Str) : Prop := a.length < b.length ∨ (a.length = b.length ∧ a.cps.toList < b.cps.toList)
theorem lt_pair (a b : Int) (x y : Str) : PySem.W.dataLt (.tuple [.int a, .str x]) (.tuple [.int b, .str y]) = if a = b then decide (x.cps.toList < y.cps.toList) else decide (a < b) := by
  rw [PySem.W.dataLt_tuple]
  by_cases h : a = b
  · subst h
    rw [if_pos rfl, PySem.W.dataLt_all_yes (by simp [PySem.W.alike]) (by show (a == a) = true; simp)]
    by_cases e : x = y
    · subst e
      rw [PySem.W.dataLt_all_yes (by simp [PySem.W.alike]) (by show (x == x) = true; simp)]
      rw [decide_eq_false (List.lt_irrefl _)]
      rfl
    · rw [PySem.W.dataLt_all_no (by simp [PySem.W.alike]) (by show (x == y) = false; simp [e]), PySem.W.dataLt_str]
  · rw [if_neg h, PySem.W.dataLt_all_no (by simp [PySem.W.alike]) (by show (a == b) = false; simp [h]), PySem.W.dataLt_int]
theorem ltD_pair (a b : Int) (x y : Str) : ltD (eP2 eI eS (a, x)) (eP2 eI eS (b, y)) = some (if a = b then decide (x.cps.toList < y.cps.toList) else decide (a < b)) := by
  unfold ltD
  rw [if_pos, lt_pair]
  refine ⟨by simp [PySem.W.alike, PySem.W.alikeAll], rfl, ?_⟩
  have : PyData.depth (.tuple [eI a, eS x]) ≤ 60 := by simp [PyData.depth, PyData.depthAll]
  exact Nat.le_trans (Nat.min_le_left _ _) this
theorem ltD_ltR {x y : Str} (h : ltR x y) : ltD (eP2 eI eS ((x.length : Int), x)) (eP2 eI eS ((y.length : Int), y)) = some true := by
  rw [ltD_pair]
  rcases h with h | ⟨h, h2⟩
  · rw [if_neg (by omega), decide_eq_true (by omega)]
  · rw [if_pos (by omega), decide_eq_true h2]
theorem two_sub {α : Type} {x y : α} : ∀ {l : List α}, l.Nodup → [x, y].Sublist l → [y, x].Sublist l → False
  | [], _, h, _ => by cases h
  | z :: l, nd, h1, h2 => by
    have hz := (List.nodup_cons.mp nd).1
    have nl := (List.nodup_cons.mp nd).2
    cases h1 with
    | cons _ h1 =>
      cases h2 with
      | cons _ h2 => exact two_sub nl h1 h2
      | cons_cons _ h2 => exact hz (h1.subset (by simp))
    | cons_cons _ h1 =>
      cases h2 with
      | cons _ h2 => exact hz (h2.subset (by simp))
      | cons_cons _ h2 => exact hz (h1.subset (by simp))
theorem srt_lt {l : List Str} (nd : l.Nodup) : (srtS l).Pairwise fun a b => a.cps.toList < b.cps.toList := by
  have h1 := srtS_pair l
  have h2 : (srtS l).Nodup := (srtS_perm l).nodup_iff.mpr nd
  refine (h1.and h2).imp fun {a b} h => ?_
  have := (leS_iff a b).mp h.1
  rcases List.le_iff_lt_or_eq.mp this with h3 | h3
  · exact h3
  · exact absurd (by cases a; cases b; simp at h3; rw [h3]) h.2
theorem ordS_pair (ss : List Str) : (ordS ss).Pairwise ltR := by
  have nd : (ordS ss).Nodup := ordS_nodup ss
  have hs := srt_lt (uni_nodup ss)
  rw [List.pairwise_iff_forall_sublist]
  intro x y hxy
  have trans : ∀ a b c : Str, decide (a.length ≤ b.length) = true → decide (b.length ≤ c.length) = true → decide (a.length ≤ c.length) = true := fun a b c h1 h2 => decide_eq_true (Nat.le_trans (of_decide_eq_true h1) (of_decide_eq_true h2))
  have total : ∀ a b : Str, (decide (a.length ≤ b.length) || decide (b.length ≤ a.length)) = true := fun a b => by
    rw [Bool.or_eq_true, decide_eq_true_eq, decide_eq_true_eq]; exact Nat.le_total _ _
  have hl : x.length ≤ y.length := by
    have hp : (lenS (srtS (uniS ss))).Pairwise fun a b => decide (a.length ≤ b.length) = true := List.pairwise_mergeSort trans total _
    exact of_decide_eq_true ((List.pairwise_iff_forall_sublist.mp hp) hxy)
  rcases Nat.lt_or_eq_of_le hl with h | h
  · exact .inl h
  · refine .inr ⟨h, ?_⟩
    have mx : x ∈ srtS (uniS ss) := (lenS_perm _).mem_iff.mp (hxy.subset (by simp))
    have my : y ∈ srtS (uniS ss) := (lenS_perm _).mem_iff.mp (hxy.subset (by simp))
    have ne : x ≠ y := fun e => by
      subst e
      exact two_sub nd hxy hxy
    have ndS : (srtS (uniS ss)).Nodup := (srtS_perm _).nodup_iff.mpr (uni_nodup ss)
    -- one of the two stands ahead
    have key : [x, y].Sublist (srtS (uniS ss)) ∨ [y, x].Sublist (srtS (uniS ss)) := by
      generalize srtS (uniS ss) = l at mx my
      clear hxy hs ndS
      induction l with
      | nil => cases mx
      | cons z l ih =>
        rcases List.mem_cons.mp mx with e1 | m1
        · rcases List.mem_cons.mp my with e2 | m2
          · exact absurd (e1.trans e2.symm) ne
          · subst e1; exact .inl (List.Sublist.cons_cons _ (List.singleton_sublist.mpr m2))
        · rcases List.mem_cons.mp my with e2 | m2
          · subst e2; exact .inr (List.Sublist.cons_cons _ (List.singleton_sublist.mpr m1))
          · exact (ih m1 m2).imp (fun h => h.cons _) (fun h => h.cons _)
    rcases key with k | k
    · exact (List.pairwise_iff_forall_sublist.mp hs) k
    · have := List.pair_sublist_mergeSort trans total (a := y) (b := x) (by rw [decide_eq_true_eq]; omega) k
      exact (two_sub nd hxy this).elim
theorem pair_next {R : Str → Str → Prop} {l : List Str} (h : l.Pairwise R) {i : Nat} (hi : i + 1 < l.length) : R (l[i]'(by omega)) l[i + 1] := by
  exact List.pairwise_iff_getElem.mp h i (i + 1) (by omega) hi (by omega)
end FR

namespace FR
open PySem PySem.Spec PyProof.Rows L2

/-! ## there is an answer, and it is so -/
def Ex {α : Type} (m : Option α) (Q : α → Prop) : Prop := ∃ v, m = some v ∧ Q v
theorem Ex.get {α : Type} {m : Option α} {Q : α → Prop} (h : Ex m Q) : ∃ v, m = some v ∧ Q v := h
theorem Ex.mono {α : Type} {m : Option α} {P Q : α → Prop} (h : Ex m P) (k : ∀ v, P v → Q v) : Ex m Q := let ⟨v, a, b⟩ := h; ⟨v, a, k v b⟩
theorem ex_some {α : Type} {v : α} {Q : α → Prop} (h : Q v) : Ex (some v) Q := ⟨v, rfl, h⟩
theorem ex_bind {α β : Type} {m : Option α} {f : α → Option β} {Q : β → Prop} {P : α → Prop} (h : Ex m P) (k : ∀ x, P x → Ex (f x) Q) : Ex (Option.bind m f) Q := by
  obtain ⟨x, rfl, p⟩ := h; exact k x p
theorem ex_is {α β : Type} {m : Option α} {f : α → Option β} {Q : β → Prop} {x : α} (h : m = some x) (k : Ex (f x) Q) : Ex (Option.bind m f) Q := by
  rw [h]; exact k
theorem ex_if {α : Type} {c : Bool} {a b : Option α} {Q : α → Prop} (h1 : c = true → Ex a Q) (h2 : c = false → Ex b Q) : Ex (if c = true then a else b) Q := by
  cases c with
  | true => rw [if_pos rfl]; exact h1 rfl
  | false => rw [if_neg Bool.false_ne_true]; exact h2 rfl
theorem ex_jl {σ ρ τ : Type} {s : σ} {k : σ → Option τ} {r : ρ → Option τ} {Q : τ → Prop} (h : Ex (k s) Q) : Ex (jn (.inl s) k r) Q := h
theorem ex_jr {σ ρ τ : Type} {v : ρ} {k : σ → Option τ} {r : ρ → Option τ} {Q : τ → Prop} (h : Ex (r v) Q) : Ex (jn (.inr v) k r) Q := h
/-- behind an if whose ways meet -/
theorem ex_jn {σ ρ τ : Type} {m : Option (Sum σ ρ)} {k : σ → Option τ} {r : ρ → Option τ} {Q : τ → Prop} (P : σ → Prop) (R : ρ → Prop) (h : Ex m fun c => (∃ s, c = .inl s ∧ P s) ∨ ∃ v, c = .inr v ∧ R v) (hk : ∀ s, P s → Ex (k s) Q) (hr : ∀ v, R v → Ex (r v) Q) : Ex (Option.bind m fun c => jn c k r) Q := by
  refine ex_bind h fun c hc => ?_
  rcases hc with ⟨s, rfl, p⟩ | ⟨v, rfl, p⟩
  · exact hk s p
  · exact hr v p
/-- the same where no way ends there -/
theorem ex_jn1 {σ ρ τ : Type} {m : Option (Sum σ ρ)} {k : σ → Option τ} {r : ρ → Option τ} {Q : τ → Prop} (P : σ → Prop) (h : Ex m fun c => ∃ s, c = .inl s ∧ P s) (hk : ∀ s, P s → Ex (k s) Q) : Ex (Option.bind m fun c => jn c k r) Q := by
  refine ex_bind h fun c ⟨s, e, p⟩ => ?_
  subst e; exact hk s p
/-- a loop: P holds ahead of each turn -/
theorem ex_loop {α σ ρ τ : Type} {f : α → σ → Option (Ctl σ ρ)} {xs : List α} {s : σ} {k : σ → Option τ} {r : ρ → Option τ} {Q : τ → Prop} (P : Nat → σ → Prop) (h0 : P 0 s)
    (st : ∀ i x s, xs[i]? = some x → P i s → Ex (f x s) fun c => ∃ s', c = .nx s' ∧ P (i + 1) s') (hk : ∀ s, P xs.length s → Ex (k s) Q) : Ex (Option.bind (loopM f xs s) fun c => jn c k r) Q := by
  obtain ⟨s', a, b⟩ := loop_nx (f := f) P (xs := xs) h0 fun i hi s p => by
    obtain ⟨c, h1, s', e, p'⟩ := st i xs[i] s (List.getElem?_eq_getElem hi) p
    subst e; exact ⟨s', h1, p'⟩
  rw [a]; exact hk s' b
/-- the same with ways out -/
theorem ex_loopX {α σ ρ τ : Type} {f : α → σ → Option (Ctl σ ρ)} {xs : List α} {s : σ} {k : σ → Option τ} {r : ρ → Option τ} {Q : τ → Prop} (P : Nat → σ → Prop) (B : σ → Prop) (R : ρ → Prop) (h0 : P 0 s)
    (st : ∀ i x s, xs[i]? = some x → P i s → Ex (f x s) fun c => (∃ s', c = .nx s' ∧ P (i + 1) s') ∨ (∃ s', c = .bk s' ∧ B s') ∨ ∃ v, c = .rt v ∧ R v) (hn : ∀ s, P xs.length s → B s) (hk : ∀ s, B s → Ex (k s) Q) (hr : ∀ v, R v → Ex (r v) Q) : Ex (Option.bind (loopM f xs s) fun c => jn c k r) Q := by
  obtain ⟨c, a, b⟩ := loop_inv (f := f) P R B xs 0 s h0 (fun i hi s p => by
    rw [Nat.zero_add] at p ⊢
    exact st i xs[i] s (List.getElem?_eq_getElem hi) p) (fun s p => hn s (by rw [Nat.zero_add] at p; exact p))
  rw [a]
  rcases b with ⟨s', rfl, p⟩ | ⟨v, rfl, p⟩
  · exact hk s' p
  · exact hr v p
section
variable {β : Type} {Q : β → Prop}
theorem ex_app {α : Type} {xs : List α} {x : α} {f : List α → Option β} (h : xs.length ≤ 1000000) (k : Ex (f (xs ++ [x])) Q) : Ex (Option.bind (lApp xs x) f) Q := ex_is (lApp_ok h) k
theorem ex_lcat {α : Type} {xs ys : List α} {f : List α → Option β} (h : xs.length + ys.length ≤ 1000000) (k : Ex (f (xs ++ ys)) Q) : Ex (Option.bind (lCat xs ys) f) Q := ex_is (lCat_ok h) k
theorem ex_mod {a b : Int} {f : Int → Option β} (h : 0 < b) (k : Ex (f (a % b)) Q) : Ex (Option.bind (iMod a b) f) Q := ex_is (iMod_ok h) k
theorem ex_div {a b : Int} {f : Int → Option β} (h : 0 < b) (h2 : b < 1073741824) (k : Ex (f (a / b)) Q) : Ex (Option.bind (iDiv a b) f) Q := ex_is (iDiv_ok h h2) k
theorem ex_mul {a b : Int} {f : Int → Option β} (h : (-(2 ^ 64) < a ∧ a < 2 ^ 64) ∨ (-(2 ^ 64) < b ∧ b < 2 ^ 64)) (k : Ex (f (a * b)) Q) : Ex (Option.bind (iMul a b) f) Q := ex_is (iMul_ok h) k
theorem ex_sadd {a b : Str} {f : Str → Option β} (h : a.length + b.length ≤ 1000000) (k : Ex (f (a ++ b)) Q) : Ex (Option.bind (sAdd a b) f) Q := ex_is (sAdd_ok h) k
theorem ex_smul {a : Str} {n : Int} {f : Str → Option β} (h : -100000 ≤ n ∧ n ≤ 100000) (h2 : a.length * n.toNat ≤ 1000000) (k : Ex (f (repS a n.toNat)) Q) : Ex (Option.bind (sMul a n) f) Q := ex_is (sMul_ok h h2) k
theorem ex_slen {a : Str} {f : Int → Option β} (h : a.length ≤ 1000000) (k : Ex (f (a.length : Int)) Q) : Ex (Option.bind (sLen a) f) Q := ex_is (sLen_ok h) k
theorem ex_scut {z : Str} {l u : Option Int} {f : Str → Option β} (h : z.length ≤ 1000000) (k : Ex (f (cutS z l u)) Q) : Ex (Option.bind (sCut z l u) f) Q := ex_is (sCut_ok h) k
theorem ex_srev {z : Str} {f : Str → Option β} (h : z.length ≤ 1000000) (k : Ex (f (revS z)) Q) : Ex (Option.bind (sRev z) f) Q := ex_is (sRev_ok h) k
theorem ex_rng1 {b : Int} {f : List Int → Option β} (h : 0 ≤ b) (h2 : b ≤ 1000000) (k : Ex (f ((List.range b.toNat).map fun i : Nat => (i : Int))) Q) : Ex (Option.bind (rng1 b) f) Q := ex_is (rng1_ok h2 h) k
theorem ex_rng2 {a b : Int} {f : List Int → Option β} (h : -1000000 ≤ a ∧ a ≤ 1000000 ∧ -1000000 ≤ b ∧ b ≤ 1000000) (k : Ex (f ((List.range (b - a).toNat).map fun i : Nat => a + (i : Int))) Q) : Ex (Option.bind (rng2 a b) f) Q := ex_is (rng2_ok h) k
theorem ex_at {α : Type} {xs : List α} {i : Int} {f : α → Option β} (h : 0 ≤ i ∧ i < (xs.length : Int)) (k : ∀ x, x ∈ xs → xs[i.toNat]? = some x → Ex (f x) Q) : Ex (Option.bind (atI xs i) f) Q := by
  have h' : i.toNat < xs.length := by omega
  exact ex_is (atI_ok h h') (k _ (List.getElem_mem h') (List.getElem?_eq_getElem h'))
theorem ex_comp {α γ : Type} {g : α → Option γ} {xs : List α} {f : List γ → Option β} (P : α → γ → Prop) (h : ∀ x ∈ xs, Ex (g x) (P x)) (hz : xs.length ≤ 100000) (k : ∀ ys, ys.length = xs.length → (∀ y ∈ ys, ∃ x ∈ xs, P x y) → Ex (f ys) Q) : Ex (Option.bind (compM g xs) f) Q := by
  obtain ⟨ys, h1, h2, h3⟩ := compM_ex P h hz
  exact ex_is h1 (k ys h2 h3)
theorem ex_compF {α γ : Type} {g : α → Option γ} {xs : List α} {f : List γ → Option β} (g' : α → γ) (h : ∀ x ∈ xs, g x = some (g' x)) (hz : xs.length ≤ 100000) (k : Ex (f (xs.map g')) Q) : Ex (Option.bind (compM g xs) f) Q := ex_is (compM_map g' h hz) k
theorem ex_id {α : Type} {v : α} {f : α → Option β} (k : Ex (f v) Q) : Ex (Option.bind (some v) f) Q := k
end
theorem compE_len {α β : Type} {f : α → Option β} {xs : List α} {ys : List β} (h : compE f xs = some ys) : ys.length = xs.length := (compE_spec h).1
theorem comp2M_flat {α β γ : Type} {B : α → Option (List β)} {f : α → β → Option γ} (b : α → List β) (g : α → β → γ) {xs : List α} (h : ∀ x ∈ xs, B x = some (b x) ∧ (b x).length ≤ 100000 ∧ ∀ y ∈ b x, f x y = some (g x y)) (hx : xs.length ≤ 100000) (hz : (xs.flatMap fun x => (b x).map (g x)).length ≤ 100000) : comp2M B f xs = some (xs.flatMap fun x => (b x).map (g x)) := by
  unfold comp2M
  rw [compM_map (fun x => (b x).map (g x)) (fun x hx => by
    obtain ⟨h1, h2, h3⟩ := h x hx
    rw [h1]
    exact compM_map (g x) h3 h2) hx]
  simp only [Option.bind_some]
  rw [← List.flatMap_def, if_pos (by rw [sizeLine_eq]; omega)]
theorem ex_comp2 {α β γ δ : Type} {Q : δ → Prop} {B : α → Option (List β)} {f : α → β → Option γ} {k : List γ → Option δ} (b : α → List β) (g : α → β → γ) {xs : List α} (h : ∀ x ∈ xs, B x = some (b x) ∧ (b x).length ≤ 100000 ∧ ∀ y ∈ b x, f x y = some (g x y)) (hx : xs.length ≤ 100000) (hz : (xs.flatMap fun x => (b x).map (g x)).length ≤ 100000) (hk : Ex (k (xs.flatMap fun x => (b x).map (g x))) Q) : Ex (Option.bind (comp2M B f xs) k) Q := ex_is (comp2M_flat b g h hx hz) hk
theorem take_mem {α : Type} {xs : List α} {i : Nat} {x y : α} (h : xs[i]? = some x) : y ∈ xs.take (i + 1) ↔ y ∈ xs.take i ∨ y = x := by
  rw [List.take_add_one, h, List.mem_append]; simp
theorem flatMap_len {α β : Type} (b : α → List β) (n : α → Nat) : ∀ (xs : List α), (∀ x ∈ xs, (b x).length ≤ n x) → (xs.flatMap b).length ≤ (xs.map n).sum
  | [], _ => by simp
  | x :: xs, h => by
    have h1 := h x List.mem_cons_self
    have h2 := flatMap_len b n xs fun y hy => h y (List.mem_cons_of_mem _ hy)
    rw [List.flatMap_cons, List.length_append, List.map_cons, List.sum_cons]; omega
theorem sumL_sub {xs ys : List Str} (h : xs.Sublist ys) : sumL xs ≤ sumL ys := by
  induction h with
  | slnil => exact Nat.le_refl _
  | cons x _ ih => rw [sumL_cons]; omega
  | cons_cons x _ ih => rw [sumL_cons, sumL_cons]; omega
theorem ordS_eq {xs ys : List Str} (h : ∀ z, z ∈ xs ↔ z ∈ ys) : ordS xs = ordS ys := by
  have p : (uniS xs).Perm (uniS ys) := by
    refine (List.perm_ext_iff_of_nodup (uni_nodup xs) (uni_nodup ys)).mpr fun z => ?_
    rw [uni_mem, uni_mem]; exact h z
  unfold ordS
  have e : srtS (uniS xs) = srtS (uniS ys) := srtS_unique ((srtS_perm _).trans p) (srtS_pair _)
  rw [e]
theorem compM_idx {α β : Type} {f : α → Option β} {xs : List α} (Q : Nat → β → Prop) (h : ∀ i x, xs[i]? = some x → Ex (f x) (Q i)) (hz : xs.length ≤ 100000) : ∃ ys, compM f xs = some ys ∧ ys.length = xs.length ∧ ∀ i y, ys[i]? = some y → Q i y := by
  suffices ∃ ys, compE f xs = some ys by
    obtain ⟨ys, hy⟩ := this
    have hm : compM f xs = some ys := by unfold compM; rw [if_pos (by rw [sizeLine_eq]; omega), hy]
    obtain ⟨hl, hs⟩ := compE_spec hy
    refine ⟨ys, hm, hl, fun i y g => ?_⟩
    have hi : i < xs.length := by rw [← hl]; exact (List.getElem?_eq_some_iff.mp g).1
    obtain ⟨y', h1, h2⟩ := hs i hi
    rw [g] at h2; cases h2
    obtain ⟨y2, h3, h4⟩ := h i xs[i] (List.getElem?_eq_getElem hi)
    rw [h1] at h3; cases h3; exact h4
  clear hz
  induction xs generalizing Q with
  | nil => exact ⟨[], rfl⟩
  | cons x xs ih =>
    obtain ⟨y, h1, _⟩ := h 0 x rfl
    obtain ⟨ys, h2⟩ := ih (fun i => Q (i + 1)) fun i z g => h (i + 1) z (by simpa using g)
    exact ⟨y :: ys, by unfold compE; rw [h1, h2]; rfl⟩
theorem rng_get {n i : Nat} {g : Nat → Int} {x : Int} (h : ((List.range n).map g)[i]? = some x) : i < n ∧ x = g i := by
  have hi : i < n := by
    have := (List.getElem?_eq_some_iff.mp h).1
    simpa using this
  rw [List.getElem?_map, List.getElem?_range hi] at h
  exact ⟨hi, (Option.some.inj h).symm⟩
theorem all_true {α : Type} {xs : List α} {g : α → Bool} (h : ∀ x ∈ xs, g x = true) : (xs.map g).all id = true := by
  rw [List.all_eq_true]
  intro b hb
  obtain ⟨x, hx, rfl⟩ := List.mem_map.mp hb
  exact h x hx
end FR

namespace FR
open PySem PySem.Spec PyProof.Rows L2

/-! ## more rules for mirrors -/
def un2 {α : Type} : List α → Option (α × α)
  | [a, b] => some (a, b)
  | _ => none
def un3 {α : Type} : List α → Option (α × α × α)
  | [a, b, c] => some (a, b, c)
  | _ => none
def un4 {α : Type} : List α → Option (α × α × α × α)
  | [a, b, c, d] => some (a, b, c, d)
  | _ => none
def un5 {α : Type} : List α → Option (α × α × α × α × α)
  | [a, b, c, d, e] => some (a, b, c, d, e)
  | _ => none
theorem un2_eq {α : Type} {xs : List α} {v : α × α} (q : un2 xs = some v) : xs = [v.1, v.2] := by
  unfold un2 at q; split at q
  · cases q; rfl
  · cases q
theorem un3_eq {α : Type} {xs : List α} {v : α × α × α} (q : un3 xs = some v) : xs = [v.1, v.2.1, v.2.2] := by
  unfold un3 at q; split at q
  · cases q; rfl
  · cases q
theorem un4_eq {α : Type} {xs : List α} {v : α × α × α × α} (q : un4 xs = some v) : xs = [v.1, v.2.1, v.2.2.1, v.2.2.2] := by
  unfold un4 at q; split at q
  · cases q; rfl
  · cases q
theorem un5_eq {α : Type} {xs : List α} {v : α × α × α × α × α} (q : un5 xs = some v) : xs = [v.1, v.2.1, v.2.2.1, v.2.2.2.1, v.2.2.2.2] := by
  unfold un5 at q; split at q
  · cases q; rfl
  · cases q
def idxM {α : Type} [DecidableEq α] (xs : List α) (x : α) : Option Int := (xs.findIdx? fun y => decide (y = x)).map fun j : Nat => (j : Int)
def maxM (xs : List Int) : Option Int := xs.max?
/-- no list inside -/
def noLst : PyData → Bool
  | .list _ => false
  | .dict _ => false
  | .tuple ds => go ds
  | _ => true
where go : List PyData → Bool
  | [] => true
  | d :: ds => noLst d && go ds
theorem noLst_go {α : Type} {en : α → PyData} (h : ∀ x, noLst (en x) = true) : ∀ xs : List α, noLst.go (xs.map en) = true
  | [] => rfl
  | x :: xs => by
    show (noLst (en x) && noLst.go (xs.map en)) = true
    rw [h x, noLst_go h xs]; rfl
theorem nl_I (x : Int) : noLst (eI x) = true := rfl
theorem nl_B (x : Bool) : noLst (eB x) = true := rfl
theorem nl_S (x : Str) : noLst (eS x) = true := rfl
theorem nl_N (x : Unit) : noLst (eN x) = true := rfl
theorem nl_V {α : Type} {en : α → PyData} (h : ∀ x, noLst (en x) = true) (xs : List α) : noLst (eV en xs) = true := noLst_go h xs
theorem nl_P2 {α β : Type} {e1 : α → PyData} {e2 : β → PyData} (h1 : ∀ x, noLst (e1 x) = true) (h2 : ∀ x, noLst (e2 x) = true) (p : α × β) : noLst (eP2 e1 e2 p) = true := by
  show (noLst (e1 p.1) && (noLst (e2 p.2) && true)) = true
  rw [h1, h2]; rfl
theorem nl_P3 {α β γ : Type} {e1 : α → PyData} {e2 : β → PyData} {e3 : γ → PyData} (h1 : ∀ x, noLst (e1 x) = true) (h2 : ∀ x, noLst (e2 x) = true) (h3 : ∀ x, noLst (e3 x) = true) (p : α × β × γ) : noLst (eP3 e1 e2 e3 p) = true := by
  show (noLst (e1 p.1) && (noLst (e2 p.2.1) && (noLst (e3 p.2.2) && true))) = true
  rw [h1, h2, h3]; rfl
theorem nl_O {α : Type} {en : α → PyData} (h : ∀ x, noLst (en x) = true) : ∀ o : Option α, noLst (eO en o) = true
  | none => rfl
  | some x => h x
def cutF (F : Hp) (a : Addr) : Hp := fun b => if b = a then none else F b
theorem cutF_ne {F : Hp} {a b : Addr} (h : b ≠ a) : cutF F a b = F b := by unfold cutF; rw [if_neg h]
mutual
/-- data without lists don't rest on a list's place -/
theorem dp_cut {K : PySem.W.Frag} {F : Hp} {a : Addr} {vs : List V} (ha : F a = some (.lst vs)) : ∀ {v : V} {d : PyData}, Dp K F v d → noLst d = true → Dp K (cutF F a) v d
  | _, _, .non, _ => .non
  | _, _, .bl b, _ => .bl b
  | _, _, .int i, _ => .int i
  | _, _, .str x, _ => .str x
  | _, _, .lst _ _, h => by cases h
  | _, _, .tup h hs, hn => .tup (by
      rcases h with (h | ⟨o, h⟩) | h
      · exact .inl (.inl (by rw [cutF_ne (fun e => by rw [e, ha] at h; cases h)]; exact h))
      · exact .inl (.inr ⟨o, by rw [cutF_ne (fun e => by rw [e, ha] at h; cases h)]; exact h⟩)
      · exact .inr h) (dpAll_cut ha hs hn)
theorem dpAll_cut {K : PySem.W.Frag} {F : Hp} {a : Addr} {vs : List V} (ha : F a = some (.lst vs)) : ∀ {us : List V} {ds : List PyData}, DpAll K F us ds → noLst.go ds = true → DpAll K (cutF F a) us ds
  | _, _, .nil, _ => .nil
  | _, _, .cons h t, hn => by
    have hn' := Bool.and_eq_true_iff.mp hn
    exact .cons (dp_cut ha h hn'.1) (dpAll_cut ha t hn'.2)
end
theorem gro_cut {F H F' H' F1 : Hp} {a : Addr} {vs : List V} (s : Same F F1) (hF : F a = none) (h1 : F1 = upd F a (.lst vs)) (g : Gro F1 H F' H') : Gro F H (cutF F' a) H' := by
  subst h1
  refine ⟨fun b o h => ?_, g.h, fun b o h => ?_, fun b h1 h2 => ?_⟩
  · have hb : b ≠ a := fun e => by rw [e, hF] at h; cases h
    rw [cutF_ne hb]; exact g.f b o (by rw [upd_ne hb]; exact h)
  · by_cases hb : b = a
    · subst hb; unfold cutF at h; rw [if_pos rfl] at h; cases h
    · rw [cutF_ne hb] at h; exact g.fr b o h
  · by_cases hb : b = a
    · subst hb; unfold cutF; rw [if_pos rfl]
    · rw [cutF_ne hb]; exact g.sep b h1 (by rw [upd_ne hb]; exact h2)
theorem EnvAt.freeze' {K : PySem.W.Frag} {F0 H0 F : Hp} {σ : L2.St} {H : Hp} {env : AEnv} (e : EnvAt K F0 H0 F σ H env) {i : Nat} {xs : List PyData} (hi : env[i]? = some (some (.l xs))) : ∃ a vs, F a = none ∧ EnvAt K F0 H0 (upd F a (.lst vs)) σ H (env.set i (some (.d (.list xs)))) := by
  obtain ⟨v, hs, a, vs, rfl, ha, hv⟩ := e.slot i _ hi
  obtain ⟨z1, z2, z3⟩ := e.mine i _ a hi rfl hs
  have sF : Same F (upd F a (.lst vs)) := same_new z2
  refine ⟨a, vs, z2, ⟨⟨e.gro.f.trans sF, e.gro.h, fun b u q => ?_, fun b q1 q2 => ?_⟩, by rw [List.length_set]; exact e.len, fun j aw q => ?_, fun j aw b q o' s => ?_, fun j k aw ax b q1 q2 o1 o2 s1 s2 => ?_⟩⟩
  · by_cases e1 : b = a
    · subst e1; rw [upd_same] at q; cases q; exact ha
    · rw [upd_ne e1] at q; exact e.gro.fr b u q
  · have e1 : b ≠ a := fun z => q1 (z ▸ z1)
    rw [upd_ne e1]; exact e.gro.sep b q1 q2
  · rcases set_get q with ⟨rfl, qx⟩ | ⟨n, q⟩
    · cases qx
      exact ⟨_, hs, .lst (.inl (.inl upd_same)) (dpAll_mono sF hv)⟩
    · obtain ⟨u, s, b⟩ := e.slot j aw q
      refine ⟨u, s, ?_⟩
      cases aw with
      | d x => exact dp_mono sF b
      | l xs => obtain ⟨c, vs, e1, e2, e3⟩ := b; exact ⟨c, vs, e1, e2, dpAll_mono sF e3⟩
      | k xs => obtain ⟨c, vs, e1, e2, e3⟩ := b; exact ⟨c, vs, e1, e2, kvD_mono sF e3⟩
      | t xs => obtain ⟨c, vs, e1, e2, e3⟩ := b; exact ⟨c, vs, e1, e2, kvD_mono sF e3⟩
      | p φ hφ => exact hφ _ _ _ sF b
  · rcases set_get q with ⟨rfl, qx⟩ | ⟨n, q⟩
    · cases qx; cases o'
    · obtain ⟨y1, y2, y3⟩ := e.mine j aw b q o' s
      refine ⟨y1, ?_, y3⟩
      rw [upd_ne (fun z => by subst z; exact n (e.apart i j _ aw b hi q rfl o' hs s))]
      exact y2
  · rcases set_get q1 with ⟨rfl, q1x⟩ | ⟨n1, q1⟩
    · cases q1x; cases o1
    rcases set_get q2 with ⟨rfl, q2x⟩ | ⟨n2, q2⟩
    · cases q2x; cases o2
    exact e.apart j k aw ax b q1 q2 o1 o2 s1 s2
section
variable {X : Cx} {e e2 e3 tg iter elt : Expr} {es : List Expr} {env env' : AEnv} {d d1 d2 d3 : PyData} {A : AE} {pos p p2 p3 cpos apos : Pos} {N : List Str} {i j : Nat} {x : Str} {k : Nat}
/-- a list of one's own is read as data, for one expression -/
theorem xd_lend {xs : List PyData} (hN : X.N = N) (hnd : N.Nodup) (hat : AtN N env i x (.l xs)) (hst : SetN N env j x (some (.d (.list xs))) env') (h : XD X e env' d) (hd : noLst d = true) : XD X e env d := by
  have ij : i = j := nodup_ix hnd hat.get.2 hst.get.2
  subst ij
  have hs := hst.get.1
  subst hs
  intro F0 H0 F σ H E Q q
  obtain ⟨a, vs, hF, E'⟩ := E.freeze' hat.get.1
  refine h F0 H0 _ σ H E' Q fun v F2 H2 g p => ?_
  have ha : F2 a = some (.lst vs) := g.f a _ upd_same
  exact q v (cutF F2 a) H2 (gro_cut (same_new hF) hF rfl g) (dp_cut ha p hd)
theorem xt_lend {xs : List PyData} {b : Bool} (hN : X.N = N) (hnd : N.Nodup) (hat : AtN N env i x (.l xs)) (hst : SetN N env j x (some (.d (.list xs))) env') (h : XT X e env' b) : XT X e env b := by
  have ij : i = j := nodup_ix hnd hat.get.2 hst.get.2
  subst ij
  have hs := hst.get.1
  subst hs
  intro F0 H0 F σ H E Q q
  obtain ⟨a, vs, hF, E'⟩ := E.freeze' hat.get.1
  exact h F0 H0 _ σ H E' Q fun F2 H2 g => q (cutF F2 a) H2 (gro_cut (same_new hF) hF rfl g)
/-- a name that may be None, where it is not -/
theorem xd_unO {α : Type} {en : α → PyData} {o : Option α} {v : α} (h : XD X e env (eO en o)) (q : o = some v) : XD X e env (en v) := by subst q; exact h
theorem xd_un2 {α : Type} {en : α → PyData} {xs : List α} {v : α × α} (h : XD X e env (.tuple (xs.map en))) (q : un2 xs = some v) : XD X e env (eP2 en en v) := by rw [un2_eq q] at h; exact h
theorem xd_un3 {α : Type} {en : α → PyData} {xs : List α} {v : α × α × α} (h : XD X e env (.tuple (xs.map en))) (q : un3 xs = some v) : XD X e env (eP3 en en en v) := by rw [un3_eq q] at h; exact h
theorem xd_un4 {α : Type} {en : α → PyData} {xs : List α} {v : α × α × α × α} (h : XD X e env (.tuple (xs.map en))) (q : un4 xs = some v) : XD X e env (eP4 en en en en v) := by rw [un4_eq q] at h; exact h
theorem xd_un5 {α : Type} {en : α → PyData} {xs : List α} {v : α × α × α × α × α} (h : XD X e env (.tuple (xs.map en))) (q : un5 xs = some v) : XD X e env (eP5 en en en en en v) := by rw [un5_eq q] at h; exact h
/-! ### truth -/
theorem xt_truL {α : Type} {en : α → PyData} {xs : List α} (h : XD X e env (.list (xs.map en))) (he : ∀ whole, isTrue e X.env whole = (do let v ← whole; standAt e.pos; holding [v] (truthy v)) := by intro _; rfl) : XT X e env (!xs.isEmpty) := by
  have := g_tru h .l he
  rw [List.isEmpty_map] at this; exact this
theorem xt_truV {α : Type} {en : α → PyData} {xs : List α} (h : XD X e env (.tuple (xs.map en))) (he : ∀ whole, isTrue e X.env whole = (do let v ← whole; standAt e.pos; holding [v] (truthy v)) := by intro _; rfl) : XT X e env (!xs.isEmpty) := by
  have := g_tru h .t he
  rw [List.isEmpty_map] at this; exact this
theorem xt_truI {i : Int} (h : XD X e env (.int i)) (he : ∀ whole, isTrue e X.env whole = (do let v ← whole; standAt e.pos; holding [v] (truthy v)) := by intro _; rfl) : XT X e env (i != 0) := g_tru h .int he
theorem xt_truS {z : Str} {v : Int} (h : XD X e env (.str z)) (q : sLen z = some v) (he : ∀ whole, isTrue e X.env whole = (do let v ← whole; standAt e.pos; holding [v] (truthy v)) := by intro _; rfl) : XT X e env (v != 0) := by
  unfold sLen at q
  split at q
  · rename_i hb; cases q; exact g_tru h (.str hb) he
  · cases q
theorem xt_truO {α : Type} {en : α → PyData} {xs : List α} {pn : Pos} (hN : X.N = N) (hat : AtN N env i x (.l (xs.map en))) (hs : Vis X.env.scope x := by first | exact Or.inl rfl | exact Or.inr (Or.inl rfl) | exact Or.inr (Or.inr rfl))
    (hd : (x == ("__debug__" : Str)) = false := by decide) (hc : (x == ("__classdict__" : Str)) = false := by decide) (he : ∀ whole, isTrue (.Name x p) X.env whole = (do let v ← whole; standAt (Expr.Name x p).pos; holding [v] (truthy v)) := by intro _; rfl) : XT X (.Name x p) env (!xs.isEmpty) := by
  have := n_truO (p := p) hN hat hs hd hc he
  rw [List.isEmpty_map] at this; exact this
/-! ### chains -/
theorem chainD {op op' : CmpOp} {a b : Bool} (hr : Room k X.A) (h1 : XD X e env d1) (h2 : XD X e2 env d2) (h3 : XD X e3 env d3) (h : CmpQ op d1 d2 a) (h' : CmpQ op' d2 d3 b) (hm : lastMarks [op, op'] [e2, e3] = false := by with_unfolding_all rfl) : XD X (.Compare e [op, op'] [e2, e3] pos) env (.bool (a && b)) := by
  obtain ⟨r, ho, hd⟩ := cmpq_r hr h
  obtain ⟨r', ho', hd'⟩ := cmpq_r hr h'
  intro F0 H0 F σ H E Q q
  refine e_of (pe_chain ho ho' e_w e_w e_w hm) ?_
  refine h1 _ _ F σ H E _ fun v F1 H1 g1 p1 => ?_
  refine h2 _ _ F1 σ H1 (E.grow g1) _ fun w F2 H2 g2 p2 => ?_
  refine hd F2 H2 v w g2.fr (dp_mono g2.f p1) p2 _ fun u F3 H3 g3 p3 => ⟨a, dB p3, ?_⟩
  have gA := (g1.trans g2).trans g3
  cases a with
  | true =>
    refine iteT (h3 _ _ F3 σ H3 (E.grow gA) _ fun y F4 H4 g4 p4 => ?_)
    exact hd' F4 H4 w y g4.fr (dp_mono (g3.f.trans g4.f) p2) p4 _ fun z F5 H5 g5 p5 => q z F5 H5 ((gA.trans g4).trans g5) p5
  | false => exact iteF (q _ F3 H3 gA (.bl _))
theorem chainT {op op' : CmpOp} {a b : Bool} (hr : Room k X.A) (h1 : XD X e env d1) (h2 : XD X e2 env d2) (h3 : XD X e3 env d3) (h : CmpQ op d1 d2 a) (h' : CmpQ op' d2 d3 b) (hm : lastMarks [op, op'] [e2, e3] = false := by with_unfolding_all rfl) : XT X (.Compare e [op, op'] [e2, e3] pos) env (a && b) := by
  obtain ⟨r, ho, hd⟩ := cmpq_r hr h
  obtain ⟨r', ho', hd'⟩ := cmpq_r hr h'
  intro F0 H0 F σ H E Q q
  refine t_of (pt_chain ho ho' e_w e_w e_w hm) ?_
  refine h1 _ _ F σ H E _ fun v F1 H1 g1 p1 => ?_
  refine h2 _ _ F1 σ H1 (E.grow g1) _ fun w F2 H2 g2 p2 => ?_
  refine hd F2 H2 v w g2.fr (dp_mono g2.f p1) p2 _ fun u F3 H3 g3 p3 => ⟨a, dB p3, ?_⟩
  have gA := (g1.trans g2).trans g3
  cases a with
  | true =>
    refine iteT (h3 _ _ F3 σ H3 (E.grow gA) _ fun y F4 H4 g4 p4 => ?_)
    exact hd' F4 H4 w y g4.fr (dp_mono (g3.f.trans g4.f) p2) p4 _ fun z F5 H5 g5 p5 => ⟨b, dB p5, q F5 H5 ((gA.trans g4).trans g5)⟩
  | false => exact iteF ⟨false, rfl, q F3 H3 gA⟩
/-! ### is None, is True -/
theorem nonD_eO {α : Type} {en : α → PyData} (h : ∀ x, isNonD (en x) = false) : ∀ o : Option α, isNonD (eO en o) = o.isNone
  | none => rfl
  | some x => h x
theorem cq_isN {α : Type} {en : α → PyData} {o : Option α} (h : ∀ x, isNonD (en x) = false) : CmpQ .Is (eO en o) .none o.isNone := by rw [← nonD_eO h]; exact .of .isN
theorem cq_notN {α : Type} {en : α → PyData} {o : Option α} (h : ∀ x, isNonD (en x) = false) : CmpQ .IsNot (eO en o) .none (!o.isNone) := by rw [← nonD_eO h]; exact .of .notN
theorem xd_isB {a b : Bool} (h1 : XD X e env (.bool a)) (h2 : XD X e2 env (.bool b)) : XD X (.Compare e [.Is] [e2] pos) env (.bool (decide (a = b))) :=
  x2 (pe_cmpR op_isBl e_w e_w (nomark _)) h1 h2 fun F H v w fr p1 p2 Q q => ⟨a, b, dB p1, dB p2, q _ F H (Gro.refl fr) (.bl _)⟩
theorem xt_isB {a b : Bool} (h1 : XD X e env (.bool a)) (h2 : XD X e2 env (.bool b)) : XT X (.Compare e [.Is] [e2] pos) env (decide (a = b)) :=
  cmpT (op := .Is) (pt_cmpR op_isBl e_w e_w (nomark _)) h1 h2 fun F H v w fr p1 p2 Q q => ⟨a, b, dB p1, dB p2, q _ F H (Gro.refl fr) (.bl _)⟩
theorem xt_notB {a b : Bool} (h1 : XD X e env (.bool a)) (h2 : XD X e2 env (.bool b)) : XT X (.Compare e [.IsNot] [e2] pos) env (!decide (a = b)) :=
  cmpT (op := .Is) (pt_cmpR op_notBl e_w e_w (nomark _)) h1 h2 fun F H v w fr p1 p2 Q q => ⟨a, b, dB p1, dB p2, q _ F H (Gro.refl fr) (.bl _)⟩
/-! ### max of a list, index in a list of texts -/
theorem xm_maxL {xs : List Int} {v : Int} (h : XD X e env (.list (xs.map .int))) (q0 : maxM xs = some v) (hm : X.mg "max" = none) (hg : Gl X "max" := by rfl) (hc : X.calm = true := by rfl) (hs : starEach [e] X.env = (false, eval e X.env) :: starEach [] X.env := by rfl) (hpl : (backTo pos (starEach [] X.env)).any (·.1) = false := by rfl) :
    XD X (.Call (.Name "max" p) [e] [] pos) env (.int v) := xcb (pe_callB (cr_max hc) hg hm (by decide +kernel) a_w (by decide) (by decide) hs hpl) (xa1 h hs) fun F H vs fr p Q q => by
  obtain ⟨w, rfl, hv⟩ := d1' p
  obtain ⟨a, us, rfl, h1, h2⟩ := dL hv
  have e1 := dpAll_ints h2
  subst e1
  have hne : 0 < xs.length := by
    cases xs with
    | nil => cases q0
    | cons y ys => simp
  refine ⟨a, xs, rfl, fr.seq h1, hne, fun m hm1 hm2 => ?_⟩
  have e2 : v = m := by
    have hv := List.max?_eq_some_iff.mp (show xs.max? = some v from q0)
    exact Int.le_antisymm (hm2 v hv.1) (hv.2 m hm1)
  subst e2
  exact q _ F H (Gro.refl fr) (.int _)
theorem idx_spec {α : Type} [DecidableEq α] {xs : List α} {x : α} {v : Int} (q : idxM xs x = some v) : ∃ j : Nat, v = (j : Int) ∧ xs[j]? = some x ∧ ∀ m z, m < j → xs[m]? = some z → z ≠ x := by
  unfold idxM at q
  cases h : xs.findIdx? fun y => decide (y = x) with
  | none => rw [h] at q; cases q
  | some j =>
    rw [h] at q
    cases q
    obtain ⟨h1, h2, h3⟩ := List.findIdx?_eq_some_iff_getElem.mp h
    refine ⟨j, rfl, by rw [List.getElem?_eq_getElem h1, of_decide_eq_true h2], fun m z hm hz e => ?_⟩
    have := h3 m hm
    rw [(List.getElem?_eq_some_iff.mp hz).2, e] at this
    simp at this
theorem xm_idxS {xs : List Str} {z : Str} {v : Int} (h : XD X e env (.list (xs.map .str))) (h2 : XD X e2 env (.str z)) (q0 : idxM xs z = some v) (hs : starEach [e2] X.env = (false, eval e2 X.env) :: starEach [] X.env)
    (hbase : attributeBase e "index" X.env (eval e X.env) = eval e X.env := by rfl)
    (hfew : ((backTo cpos (starEach [e2] X.env)).all (fun x => !x.1) && (backToKw cpos (keywordEach [] X.env)).all (fun x => x.1.isSome)
      && decide ([e2].length + ([] : List Keyword).length + (if ([] : List Keyword).isEmpty then 0 else 1) < 30)) = true := by rfl)
    (hline : (apos.endLine == cpos.line) = true := by rfl) (hplain : (backTo cpos (starEach [] X.env)).any (·.1) = false := by rfl) :
    XD X (.Call (.Attribute e "index" apos) [e2] [] cpos) env (.int v) := by
  intro F0 H0 F σ H E Q q
  refine e_of (pe_bm PySem.F.plainAttrs_list PySem.F.slot_list_index PySem.F.type_list_index mt_index e_w (pa_cons e_w pa_nil hs) hbase hfew hline hs hplain) ?_
  refine h _ _ F σ H E _ fun w F1 H1 g1 p1 => ?_
  obtain ⟨a, vs, rfl, z1, z2⟩ := dL p1
  have e1 := dpAll_strs z2
  subst e1
  refine ⟨?_, h2 _ _ F1 σ H1 (E.grow g1) _ fun u F2 H2 g2 p2 => ?_⟩
  · exact .inl ⟨rfl, _, g1.fr.seq z1⟩
  · obtain ⟨j, rfl, hj, hno⟩ := idx_spec q0
    rw [dS p2]
    refine ⟨a, xs.map V.str, .str z, j, .str z, rfl, rfl, (g2.f.trans g2.fr).seq z1, rfl, ?_, by rw [List.getElem?_map, hj]; rfl, by show (z == z) = true; simp, fun m z' hm hz => ?_, q _ F2 H2 (g1.trans g2) (.int _)⟩
    · rw [List.all_eq_true]; intro y hy; obtain ⟨t, _, rfl⟩ := List.mem_map.mp hy; rfl
    · rw [List.getElem?_map] at hz
      cases hx : xs[m]? with
      | none => rw [hx] at hz; cases hz
      | some t =>
        rw [hx] at hz; cases hz
        have := hno m t hm hx
        show (t == z) = false
        simp [this]
/-! ### a, b = x, y -/
theorem nm_par2 {y : Str} {a b : Expr} {env1 env2 : AEnv} {px py pt : Pos} {kt k2 : Nat} {pt2 : Pos} (hN : X.N = N) (hnd : N.Nodup) (h1 : SetN N env i x (some (.d d1)) env1) (h2 : SetN N env1 j y (some (.d d2)) env2) (ha : XA X [a, b] env [d1, d2]) (hn : A.nx env2) (hij : i ≠ j := by decide)
    (hx : X.env.scope.names.lookup x = some .local := by rfl) (hy : X.env.scope.names.lookup y = some .local := by rfl) (hc : X.calm = true := by rfl)
    (hw : swappedStores [.Tuple [.Name x px, .Name y py] kt pt] (.Tuple [a, b] k2 pt2) X.env = pure (some [x, y]) := by rfl)
    (hs : swapsWithSole [.Tuple [.Name x px, .Name y py] kt pt] (.Tuple [a, b] k2 pt2) pos.line X.env = pure false := by rfl) :
    XS X (.Assign [.Tuple [.Name x px, .Name y py] kt pt] (.Tuple [a, b] k2 pt2) pos) env A := by
  subst hN
  intro F0 H0 F σ H D E l
  refine s_of (ps_par hc hnd h1.get.2 h2.get.2 hij hx hy a_w hw hs) (ha _ _ F σ H E _ fun vs F1 H1 g1 p1 => ?_)
  obtain ⟨v, w, rfl, pv, pw⟩ := d2' p1
  refine ⟨v, w, rfl, l.nx _ F1 _ H1 (((E.grow g1).set (i := i) (av := .d d1) pv rfl).set (i := j) (av := .d d2) pw rfl) ?_⟩
  rw [h1.get.1, h2.get.1]; exact hn
theorem nm_par3 {y z : Str} {l : Nat} {a b c : Expr} {env1 env2 env3 : AEnv} {px py pz pt : Pos} {kt k2 : Nat} {pt2 : Pos} (hN : X.N = N) (hnd : N.Nodup) (h1 : SetN N env i x (some (.d d1)) env1) (h2 : SetN N env1 j y (some (.d d2)) env2) (h3 : SetN N env2 l z (some (.d d3)) env3) (ha : XA X [a, b, c] env [d1, d2, d3]) (hn : A.nx env3) (hij : i ≠ j := by decide) (hil : i ≠ l := by decide) (hjl : j ≠ l := by decide)
    (hx : X.env.scope.names.lookup x = some .local := by rfl) (hy : X.env.scope.names.lookup y = some .local := by rfl) (hz : X.env.scope.names.lookup z = some .local := by rfl) (hc : X.calm = true := by rfl)
    (hw : swappedStores [.Tuple [.Name x px, .Name y py, .Name z pz] kt pt] (.Tuple [a, b, c] k2 pt2) X.env = pure (some [x, y, z]) := by rfl)
    (hs : swapsWithSole [.Tuple [.Name x px, .Name y py, .Name z pz] kt pt] (.Tuple [a, b, c] k2 pt2) pos.line X.env = pure false := by rfl) :
    XS X (.Assign [.Tuple [.Name x px, .Name y py, .Name z pz] kt pt] (.Tuple [a, b, c] k2 pt2) pos) env A := by
  subst hN
  intro F0 H0 F σ H D E lk
  refine s_of (ps_par3 hc hnd h1.get.2 h2.get.2 h3.get.2 hij hil hjl hx hy hz a_w hw hs) (ha _ _ F σ H E _ fun vs F1 H1 g1 p1 => ?_)
  cases p1 with
  | cons pv p1 =>
    obtain ⟨w, t, rfl, pw, pt⟩ := d2' p1
    refine ⟨_, w, t, rfl, lk.nx _ F1 _ H1 ((((E.grow g1).set (i := i) (av := .d d1) pv rfl).set (i := j) (av := .d d2) pw rfl).set (i := l) (av := .d d3) pt rfl) ?_⟩
    rw [h1.get.1, h2.get.1, h3.get.1]; exact hn
/-! ### (*t, x); a, b, c = a list -/
theorem xa_starV {α : Type} {en : α → PyData} {xs : List α} {ds : List PyData} (h : XD X e env (.tuple (xs.map en))) (hr : XA X es env ds) (hs : starEach (.Starred e p :: es) X.env = (true, eval e X.env) :: starEach es X.env := by rfl) : XA X (.Starred e p :: es) env (xs.map en ++ ds) := fun F0 H0 F σ H E Q q => by
  refine a_of (StX.pa_star e_w a_w hs) (h _ _ F σ H E _ fun v F1 H1 g1 p1 => ?_)
  obtain ⟨a, vs, rfl, z1, z2⟩ := dT p1
  refine ⟨a, vs, rfl, .inl (seqT_mono g1.fr z1), hr _ _ F1 σ H1 (E.grow g1) _ fun us F2 H2 g2 p2 => ?_⟩
  exact q _ F2 H2 (g1.trans g2) (dpAll_append (dpAll_mono g2.f z2) p2)
theorem xa_starL {α : Type} {en : α → PyData} {xs : List α} {ds : List PyData} (h : XD X e env (.list (xs.map en))) (hr : XA X es env ds) (hs : starEach (.Starred e p :: es) X.env = (true, eval e X.env) :: starEach es X.env := by rfl) : XA X (.Starred e p :: es) env (xs.map en ++ ds) := fun F0 H0 F σ H E Q q => by
  refine a_of (StX.pa_star e_w a_w hs) (h _ _ F σ H E _ fun v F1 H1 g1 p1 => ?_)
  obtain ⟨a, vs, rfl, z1, z2⟩ := dL p1
  refine ⟨a, vs, rfl, .inr (g1.fr.seq z1), hr _ _ F1 σ H1 (E.grow g1) _ fun us F2 H2 g2 p2 => ?_⟩
  exact q _ F2 H2 (g1.trans g2) (dpAll_append (dpAll_mono g2.f z2) p2)
theorem xm_star {α : Type} {en : α → PyData} {xs ys v : List α} {kk : Nat} (h : XA X es env (xs.map en ++ ys.map en)) (q : lCat xs ys = some v) : XD X (.Tuple es kk pos) env (.tuple (v.map en)) := by
  unfold lCat at q
  split at q
  · rename_i hb; cases q
    rw [List.map_append]
    exact xd_tup h (by rw [List.length_append, List.length_map, List.length_map]; exact hb)
  · cases q
theorem xg_lst {js : List Nat} {env2 : AEnv} {ds : List PyData} {kk : Nat} (hc : X.calm = true) (h : XGs X es js env ds env2) (hn : (assignEach es X.env).length = ds.length := by rfl) (hst : (assignEach es X.env).findIdx? (·.1) = none := by rfl) :
    XG X (.Tuple es kk p) js env (.list ds) env2 := fun F0 H0 F σ H v E hd Q q => by
  obtain ⟨ts, hp, ht⟩ := h
  obtain ⟨a, vs, rfl, h1, h2⟩ := dL hd
  exact g_of (pg_lst hc hp hn hst) ⟨a, vs, rfl, E.fr.seq h1, dpAll_len h2, ht F0 H0 F σ H vs E h2 Q q⟩
abbrev eQ2 {α : Type} (en : α → PyData) (p : α × α) : PyData := .list [en p.1, en p.2]
abbrev eQ3 {α : Type} (en : α → PyData) (p : α × α × α) : PyData := .list [en p.1, en p.2.1, en p.2.2]
theorem xd_ul2 {α : Type} {en : α → PyData} {xs : List α} {v : α × α} (h : XD X e env (.list (xs.map en))) (q : un2 xs = some v) : XD X e env (eQ2 en v) := by rw [un2_eq q] at h; exact h
theorem xd_ul3 {α : Type} {en : α → PyData} {xs : List α} {v : α × α × α} (h : XD X e env (.list (xs.map en))) (q : un3 xs = some v) : XD X e env (eQ3 en v) := by rw [un3_eq q] at h; exact h
end
end FR

namespace FR
open PySem PySem.Spec PyProof.Rows L2
section
variable {X : Cx} {e e2 e3 tg : Expr} {es : List Expr} {st : Stmt} {ss : List Stmt} {env env' : AEnv} {d d1 d2 : PyData} {A : AE} {pos p p2 : Pos} {N : List Str} {i j : Nat} {x : Str}
theorem xl_listL {ds : List PyData} (h : XD X e env (.list ds)) (hm : X.mg "list" = none) (hg : Gl X "list" := by rfl) (hs : starEach [e] X.env = (false, eval e X.env) :: starEach [] X.env := by rfl) (hpl : (backTo pos (starEach [] X.env)).any (·.1) = false := by rfl) :
    XL X (.Call (.Name "list" p) [e] [] pos) env ds := fun F0 H0 F σ H E Q q => by
  refine e_of (pe_callTy call_list_of hg hm (by decide +kernel) a_w (by decide) (by decide) hs hpl) (xa1 h hs _ _ F σ H E _ fun vs F1 H1 g1 p1 => ?_)
  obtain ⟨v, rfl, hv⟩ := d1' p1
  obtain ⟨a, us, rfl, h1, h2⟩ := dL hv
  refine ⟨a, us, rfl, .inl (g1.fr.seq h1), fun l hl => ?_⟩
  exact q l us F1 _ (g1.trans (Gro.own g1.fr hl)) (g1.h.free hl) (g1.fr.free hl) upd_same h2
theorem xl_listT {ds : List PyData} (h : XD X e env (.tuple ds)) (hm : X.mg "list" = none) (hg : Gl X "list" := by rfl) (hs : starEach [e] X.env = (false, eval e X.env) :: starEach [] X.env := by rfl) (hpl : (backTo pos (starEach [] X.env)).any (·.1) = false := by rfl) :
    XL X (.Call (.Name "list" p) [e] [] pos) env ds := fun F0 H0 F σ H E Q q => by
  refine e_of (pe_callTy call_list_of hg hm (by decide +kernel) a_w (by decide) (by decide) hs hpl) (xa1 h hs _ _ F σ H E _ fun vs F1 H1 g1 p1 => ?_)
  obtain ⟨v, rfl, hv⟩ := d1' p1
  obtain ⟨a, us, rfl, h1, h2⟩ := dT hv
  refine ⟨a, us, rfl, .inr (seqT_mono g1.fr h1), fun l hl => ?_⟩
  exact q l us F1 _ (g1.trans (Gro.own g1.fr hl)) (g1.h.free hl) (g1.fr.free hl) upd_same h2
/-- xs[i] = e, xs one's own -/
theorem xs_setix {xs : List PyData} {n : Int} {m : Nat} {ie : Expr} {sp : Pos} (hv : env[i]? = some (some (.l xs))) (he : XD X e env d) (hie : XD X ie env (.int n)) (hj : L2.ixN xs.length n = some m) (hn : A.nx (env.set i (some (.l (xs.set m d))))) (hN : X.N[i]? = some x := by rfl) (hs : Vis X.env.scope x := by first | exact Or.inl rfl | exact Or.inr (Or.inl rfl) | exact Or.inr (Or.inr rfl))
    (hd : (x == ("__debug__" : Str)) = false := by decide) (hc : (x == ("__classdict__" : Str)) = false := by decide)
    (ha : ∀ v, assign (.Subscript (.Name x p) ie sp) X.env v = (do
      let ov ← holding [v] (eval (.Name x p) X.env)
      let iv ← holding [v, ov] (eval ie X.env)
      standAt sp
      holding [v, ov, iv] (setItem ov iv v)
      release [v, ov, iv] []) := by intro _; rfl)
    (hsw : swapsWithSole [.Subscript (.Name x p) ie sp] e pos.line X.env = pure false := by rfl) (hw : swappedStores [.Subscript (.Name x p) ie sp] e X.env = pure none := by rfl)
    (h1 : (assignEach [.Subscript (.Name x p) ie sp] X.env).map (·.2) = [assign (.Subscript (.Name x p) ie sp) X.env] := by rfl) :
    XS X (.Assign [.Subscript (.Name x p) ie sp] e pos) env A := fun F0 H0 F σ H D E l => by
  obtain ⟨v, s1, a, vs, ea, k1, k2⟩ := E.slot i _ hv
  cases ea
  refine s_of (ps_asg e_w (pg_sub (pe_var hN hs hd hc) e_w set_list ha) hsw hw h1) ?_
  refine he _ _ F σ H E _ fun w F1 H1 g1 p1 => ?_
  refine ⟨_, s1, ?_⟩
  refine hie _ _ F1 σ H1 (E.grow g1) _ fun u F2 H2 g2 p2 => ?_
  have hu := dI p2
  refine ⟨a, vs, n, m, rfl, hu, g2.h _ _ (g1.h _ _ k1), by rw [dpAll_len k2]; exact hj, ?_⟩
  exact l.nx _ F2 σ _ ((E.grow (g1.trans g2)).change (av' := .l (xs.set m d)) hv rfl s1 ⟨a, _, rfl, upd_same, dpAll_set (dp_mono g2.f p1) (dpAll_mono (g1.trans g2).f k2)⟩) hn
def lSet {α : Type} (xs : List α) (n : Int) (y : α) : Option (List α) := (L2.ixN xs.length n).map fun m => xs.set m y
theorem nm_setix {α : Type} {en : α → PyData} {xs v : List α} {y : α} {n : Int} {ie : Expr} {sp : Pos} (hN : X.N = N) (hat : AtN N env i x (.l (xs.map en))) (h : XD X e env (en y)) (hie : XD X ie env (.int n)) (q : lSet xs n y = some v) (hst : SetN N env j x (some (.l (v.map en))) env') (hnd : N.Nodup) (hn : A.nx env') (hs : Vis X.env.scope x := by first | exact Or.inl rfl | exact Or.inr (Or.inl rfl) | exact Or.inr (Or.inr rfl))
    (hd : (x == ("__debug__" : Str)) = false := by decide) (hc : (x == ("__classdict__" : Str)) = false := by decide)
    (ha : ∀ v, assign (.Subscript (.Name x p) ie sp) X.env v = (do
      let ov ← holding [v] (eval (.Name x p) X.env)
      let iv ← holding [v, ov] (eval ie X.env)
      standAt sp
      holding [v, ov, iv] (setItem ov iv v)
      release [v, ov, iv] []) := by intro _; rfl)
    (hsw : swapsWithSole [.Subscript (.Name x p) ie sp] e pos.line X.env = pure false := by rfl) (hw : swappedStores [.Subscript (.Name x p) ie sp] e X.env = pure none := by rfl)
    (h1 : (assignEach [.Subscript (.Name x p) ie sp] X.env).map (·.2) = [assign (.Subscript (.Name x p) ie sp) X.env] := by rfl) :
    XS X (.Assign [.Subscript (.Name x p) ie sp] e pos) env A := by
  subst hN
  have e0 : i = j := nodup_ix hnd hat.get.2 hst.get.2
  subst e0
  unfold lSet at q
  cases hm : L2.ixN xs.length n with
  | none => rw [hm] at q; cases q
  | some m =>
    rw [hm] at q; cases q
    refine xs_setix hat.get.1 h hie (m := m) (by rw [List.length_map]; exact hm) ?_ hat.get.2 hs hd hc ha hsw hw h1
    have := hst.get.1
    rw [List.map_set] at this
    rw [this]; exact hn
end
theorem tuple_mulE (l : Addr) (items : Array Value) (n : Nat) (x : Int) (sl : Array (Option Value)) (dd : Option Addr) (u : Tok) (c0 : (decide (x < -(2 ^ 63)) || decide (x ≥ 2 ^ 63)) = false) (c1 : items.isEmpty = true) :
    Meets (Builtin.«tuple.__mul__» ⟨[.ref l, .int x u], []⟩) (fun _ R s => s.heap.get? l = some { cls := .type "tuple", dict := dd, data := .seq items n, slots := sl } ∧
      R (.ok (.ret (Value.ref l))) s) :=
  .of_wp fun prog w A R s h => by
    obtain ⟨hp, g, d, tk, os⟩ := s
    obtain ⟨hl, h⟩ := h
    have f1 := AutoSeq1.idx_int
    wp_walk using wpAny_loadPart' hl
    repeat (first
      | (refine wpAny_ite_false (decide_eq_false (by rw [c0]; exact Bool.false_ne_true)) ?_; wp_walk using wpAny_loadPart' hl)
      | (refine wpAny_ite_true (decide_eq_true (by rw [c1]; rfl)) ?_; wp_walk using wpAny_loadPart' hl))
    exact ⟨_, rfl, h⟩
def rRepA (K : PySem.W.Frag) : R2 := fun x y H Q => ∃ l k xs, x = .ref l ∧ y = .int k ∧ SqT K H l xs ∧ 2 ≤ k ∧ k ≤ 1000 ∧ xs.length ≤ 1000 ∧ (xs = [] → Q (.ref l) H) ∧ ∀ p, H p = none → Q (.ref p) (upd H p (.tup (List.replicate k.toNat xs).flatten))
section
variable {X : Cx} {e e2 : Expr} {env : AEnv} {pos : Pos}
theorem op_repA : OpR X (binaryOp .Mult) (rRepA X.K) := by
  intro pins s σ H x y v u Q I rx ry h
  obtain ⟨l, k, xs, rfl, rfl, hT, h1, h2, hz, q0, q⟩ := h
  by_cases hne : xs = []
  · subst hne
    cases rx
    obtain ⟨t, rfl⟩ := ry
    obtain ⟨its, r, ⟨⟨cls, dd, data, sl⟩, ho, hc, n, hd⟩, hs⟩ := I.tuple hT
    simp only at hc hd
    subst hc hd
    have hle : its.length = 0 := by have := r.length; simpa using this.symm
    have hn : its = [] := List.eq_nil_of_length_eq_zero hle
    subst hn
    have c0 : (decide (k < -(2 ^ 63)) || decide (k ≥ 2 ^ 63)) = false := by
      rw [decide_eq_false (by omega), decide_eq_false (by omega)] <;> rfl
    refine wpAny_binaryOp_repeat_ref (T := "tuple") (U := "int") (by decide) ⟨_, ho, rfl⟩ (fun s' => typeIs_int s' k t) noFill_tuple_mul F.fills_int_mul F.slot_int_rmul repeat_tuple F.slot_int_index.lookup
      (call_meets F.slot_int_rmul (typeIs_int s k t) F.entry_int_rmul (F.args_int_rmul_2 _ _) (int_rmul_tuple k t l _ n dd sl)
        ⟨ho, rfl, ⟨_, ho, rfl⟩, call_meets F.slot_tuple_mul ⟨_, ho, rfl⟩ F.entry_tuple_mul (F.args_tuple_mul_2 _ _) (tuple_mulE l _ n k sl dd t c0 rfl) ⟨ho, ?_⟩⟩)
    exact ⟨.ref l, H, I, rfl, q0 rfl⟩
  · exact op_repT pins s σ H _ _ v u Q I rx ry ⟨l, k, xs, rfl, rfl, hT, hne, h1, h2, hz, q⟩
def vRep {α : Type} (xs : List α) (k : Int) : Option (List α) := if 2 ≤ k ∧ k ≤ 1000 ∧ xs.length ≤ 1000 then some (List.replicate k.toNat xs).flatten else none
theorem dpAll_rep {K : PySem.W.Frag} {F : Hp} {vs : List V} {ds : List PyData} (h : DpAll K F vs ds) : ∀ n, DpAll K F (List.replicate n vs).flatten (List.replicate n ds).flatten
  | 0 => .nil
  | n + 1 => by
    rw [List.replicate_succ, List.replicate_succ, List.flatten_cons, List.flatten_cons]
    exact dpAll_append h (dpAll_rep h n)
/-- t * k -/
theorem xm_vrep {α : Type} {en : α → PyData} {xs v : List α} {k : Int} (h1 : XD X e env (.tuple (xs.map en))) (h2 : XD X e2 env (.int k)) (q0 : vRep xs k = some v) : XD X (.BinOp e .Mult e2 pos) env (.tuple (v.map en)) := by
  unfold vRep at q0
  split at q0
  case isFalse => cases q0
  case isTrue hb =>
  cases q0
  have e0 : ((List.replicate k.toNat xs).flatten).map en = (List.replicate k.toNat (xs.map en)).flatten := by
    rw [List.map_flatten, List.map_replicate]
  rw [e0]
  refine x2 (pe_op op_repA e_w e_w) h1 h2 fun F H v w fr p1 p2 Q q => ?_
  obtain ⟨a, vs, rfl, z1, z2⟩ := dT p1
  have hw := dI p2
  have hl : vs.length = xs.length := by rw [dpAll_len z2, List.length_map]
  refine ⟨a, k, vs, rfl, hw, seqT_mono fr z1, hb.1, hb.2.1, by omega, fun e => ?_, fun t ht => ?_⟩
  · have : xs = [] := by
      subst e; exact List.eq_nil_of_length_eq_zero hl.symm
    subst this
    have e1 : (List.replicate k.toNat (([] : List α).map en)).flatten = [] := by simp
    rw [e1] at q
    exact q _ F H (Gro.refl fr) p1
  · have g := Gro.new (o := .tup (List.replicate k.toNat vs).flatten) fr ht
    exact q _ _ _ g (.tup (.inl (.inl upd_same)) (dpAll_mono g.f (dpAll_rep z2 _)))
end
end FR

namespace My
open PySem PySem.Spec PyProof.Rows L2 FR
def topS (i : Nat) : Stmt := PySem.Challenge.pw_fromruns_k56_judged_derivations.main.body.getD i (.Pass ⟨0, 0, 0, 0⟩)
abbrev s_last_letters : Stmt := topS 1
theorem sc_last_letters : FnScope ["run", "k"] ["run", "k"] (defScope s_last_letters) := ⟨rfl, rfl, rfl, by decide +kernel, rfl, by decide +kernel, by decide +kernel⟩
abbrev s_judge_derivation : Stmt := topS 3
theorem sc_judge_derivation : FnScope ["runs", "k", "lines", "run", "at"] ["runs", "k", "lines", "run"] (defScope s_judge_derivation) := ⟨rfl, rfl, rfl, by decide +kernel, rfl, by decide +kernel, by decide +kernel⟩
abbrev s_is_derived : Stmt := topS 4
theorem sc_is_derived : FnScope ["runs", "k", "lines", "at", "made", "reason", "one", "other", "long", "m", "n", "number"] ["runs", "k", "lines", "at"] (defScope s_is_derived) := ⟨rfl, rfl, rfl, by decide +kernel, rfl, by decide +kernel, by decide +kernel⟩
abbrev s_law_cell : Stmt := topS 6
theorem sc_law_cell : FnScope ["script", "k"] ["script", "k"] (defScope s_law_cell) := ⟨rfl, rfl, rfl, by decide +kernel, rfl, by decide +kernel, by decide +kernel⟩
abbrev s_law_draws : Stmt := topS 7
theorem sc_law_draws : FnScope ["cell", "count", "rest", "digits", "seed", "draws", "k", "mixed"] ["cell", "count"] (defScope s_law_draws) := ⟨rfl, rfl, rfl, by decide +kernel, rfl, by decide +kernel, by decide +kernel⟩
abbrev s_law_is_integer : Stmt := topS 8
theorem sc_law_is_integer : FnScope ["value"] ["value"] (defScope s_law_is_integer) := ⟨rfl, rfl, rfl, by decide +kernel, rfl, by decide +kernel, by decide +kernel⟩
abbrev s_law_is_run : Stmt := topS 9
theorem sc_law_is_run : FnScope ["value", "letter"] ["value"] (defScope s_law_is_run) := ⟨rfl, rfl, rfl, by decide +kernel, rfl, by decide +kernel, by decide +kernel⟩
abbrev s_law_letters : Stmt := topS 10
theorem sc_law_letters : FnScope ["draw", "count", "start", "step", "k"] ["draw", "count"] (defScope s_law_letters) := ⟨rfl, rfl, rfl, by decide +kernel, rfl, by decide +kernel, by decide +kernel⟩
abbrev s_law_word : Stmt := topS 11
theorem sc_law_word : FnScope ["draw", "letters", "longest", "size", "rest", "word", "k"] ["draw", "letters", "longest"] (defScope s_law_word) := ⟨rfl, rfl, rfl, by decide +kernel, rfl, by decide +kernel, by decide +kernel⟩
abbrev s_law_runs : Stmt := topS 12
theorem sc_law_runs : FnScope ["cell", "letters", "count", "longest", "draws", "parts", "runs", "r", "draw", "run", "middle", "k"] ["cell", "letters", "count", "longest"] (defScope s_law_runs) := ⟨rfl, rfl, rfl, by decide +kernel, rfl, by decide +kernel, by decide +kernel⟩
abbrev s_law_derives : Stmt := topS 13
theorem sc_law_derives : FnScope ["runs", "k", "lines", "run", "known", "line", "i", "j", "h", "m", "n", "number"] ["runs", "k", "lines", "run"] (defScope s_law_derives) := ⟨rfl, rfl, rfl, by decide +kernel, rfl, by decide +kernel, by decide +kernel⟩
abbrev s_law_k : Stmt := topS 14
theorem sc_law_k : FnScope ["draw"] ["draw"] (defScope s_law_k) := ⟨rfl, rfl, rfl, by decide +kernel, rfl, by decide +kernel, by decide +kernel⟩
abbrev s_law_seen : Stmt := topS 15
theorem sc_law_seen : FnScope ["script", "at", "count", "longest", "draws", "letters"] ["script", "at", "count", "longest"] (defScope s_law_seen) := ⟨rfl, rfl, rfl, by decide +kernel, rfl, by decide +kernel, by decide +kernel⟩
abbrev s_law_fit : Stmt := topS 16
theorem sc_law_fit : FnScope ["runs", "most", "kept", "left", "run"] ["runs", "most"] (defScope s_law_fit) := ⟨rfl, rfl, rfl, by decide +kernel, rfl, by decide +kernel, by decide +kernel⟩
abbrev s_law_long_runs : Stmt := topS 17
theorem sc_law_long_runs : FnScope ["cell", "letters", "draws", "kind", "base", "at", "first", "second", "third", "word", "head", "runs", "r", "rest"] ["cell", "letters"] (defScope s_law_long_runs) := ⟨rfl, rfl, rfl, by decide +kernel, rfl, by decide +kernel, by decide +kernel⟩
abbrev s_law_seen_any : Stmt := topS 18
theorem sc_law_seen_any : FnScope ["script", "at", "count", "longest", "seen"] ["script", "at", "count", "longest"] (defScope s_law_seen_any) := ⟨rfl, rfl, rfl, by decide +kernel, rfl, by decide +kernel, by decide +kernel⟩
abbrev s_law_drawn_line : Stmt := topS 19
theorem sc_law_drawn_line : FnScope ["known", "k", "draws", "i", "first", "found", "j", "n", "m", "corner", "new", "h", "ways"] ["known", "k", "draws"] (defScope s_law_drawn_line) := ⟨rfl, rfl, rfl, by decide +kernel, rfl, by decide +kernel, by decide +kernel⟩
abbrev s_law_own_lines : Stmt := topS 20
theorem sc_law_own_lines : FnScope ["runs", "k", "draws", "count", "longest", "lines", "at", "line", "run", "other"] ["runs", "k", "draws", "count", "longest"] (defScope s_law_own_lines) := ⟨rfl, rfl, rfl, by decide +kernel, rfl, by decide +kernel, by decide +kernel⟩
abbrev s_law_spoilt_number : Stmt := topS 21
theorem sc_law_spoilt_number : FnScope ["lines", "at", "k", "draws", "reason", "place", "value", "size", "more"] ["lines", "at", "k", "draws"] (defScope s_law_spoilt_number) := ⟨rfl, rfl, rfl, by decide +kernel, rfl, by decide +kernel, by decide +kernel⟩
abbrev s_law_near_line : Stmt := topS 22
theorem sc_law_near_line : FnScope ["lines", "k", "at", "other", "draws", "reason", "m", "place", "value"] ["lines", "k", "at", "other", "draws"] (defScope s_law_near_line) := ⟨rfl, rfl, rfl, by decide +kernel, rfl, by decide +kernel, by decide +kernel⟩
abbrev s_law_spoilt_lines : Stmt := topS 23
theorem sc_law_spoilt_lines : FnScope ["lines", "k", "letters", "draws", "at", "other", "line", "kind", "m", "after", "more"] ["lines", "k", "letters", "draws"] (defScope s_law_spoilt_lines) := ⟨rfl, rfl, rfl, by decide +kernel, rfl, by decide +kernel, by decide +kernel⟩
abbrev s_law_is_told : Stmt := topS 24
theorem sc_law_is_told : FnScope ["runs", "k", "lines", "run", "told"] ["runs", "k", "lines", "run"] (defScope s_law_is_told) := ⟨rfl, rfl, rfl, by decide +kernel, rfl, by decide +kernel, by decide +kernel⟩
abbrev s_law : Stmt := topS 25
theorem sc_law : FnScope ["script", "seen", "runs", "k", "draws", "good", "other", "near", "papers", "turn", "paper", "lines", "last"] ["script"] (defScope s_law) := ⟨rfl, rfl, rfl, by decide +kernel, rfl, by decide +kernel, by decide +kernel⟩
structure Bi (mg : Str → Option Value) : Prop where
  z_max : mg "max" = none
  z_len : mg "len" = none
  z_all : mg "all" = none
  z_range : mg "range" = none
  z_min : mg "min" = none
  z_abs : mg "abs" = none
  z_int : mg "int" = none
  z_isinstance : mg "isinstance" = none
  z_bool : mg "bool" = none
  z_str : mg "str" = none
  z_sorted : mg "sorted" = none
  z_tuple : mg "tuple" = none
  z_list : mg "list" = none
def m_law_cell (script_p : (List Int)) (k_p : Int) : Option Int :=
  if (decide (k_p < (script_p.length : Int))) = true then Option.bind (atI script_p k_p) fun v1 => some v1 else some (((5 : Int) * k_p) + (3 : Int))
def C_law_cell : Cn where
  ι := (List Int) × Int × Int
  n := 2
  args := fun i => [((eL eI) i.1), (eI i.2.1)]
  ok := fun i => m_law_cell i.1 i.2.1 = some i.2.2
  post := fun i r => r = (eI i.2.2)
  hl := fun _ => rfl
def m_law_draws (cell_p : Int) (count_p : Int) : Option (List Int) :=
  Option.bind (some (if cell_p < 0 then -cell_p else cell_p)) fun rest_1 => Option.bind (some (decide ((1000000000000000000 : Int) ≤ rest_1))) fun digits_3 => Option.bind (some rest_1) fun seed_5 => Option.bind (some ([] : List Int)) fun draws_7 => Option.bind (rng1 count_p) fun v9 => Option.bind (loopM (σ := ((List Int) × Int)) (ρ := Unit) (fun y10 s11 => Option.bind (α := Sum ((List Int) × Int) (Ctl ((List Int) × Int) Unit)) (if (digits_3 && (decide ((0 : Int) < s11.2))) = true then Option.bind (lApp s11.1 (s11.2 % (5040 : Int))) fun draws_13 => Option.bind (some (s11.2 / (5040 : Int))) fun rest_15 => some (Sum.inl (draws_13, rest_15)) else Option.bind (some ((((seed_5 * (48271 : Int)) + ((y10 + (1 : Int)) * (69621 : Int))) + (11 : Int)) % (2147483647 : Int))) fun mixed_17 => Option.bind (iMul mixed_17 mixed_17) fun v19 => Option.bind (some ((v19 + ((40692 : Int) * (y10 + (3 : Int)))) % (2147483399 : Int))) fun mixed_20 => Option.bind (lApp s11.1 ((mixed_20 / (64 : Int)) % (5040 : Int))) fun draws_22 => some (Sum.inl (draws_22, s11.2))) fun j12 => jn j12 (fun s12 => some (Ctl.nx (s12.1, s12.2))) (fun r0 => some r0)) v9 (draws_7, rest_1)) fun c24 => jn c24 (fun s24 => some s24.1) (fun r0 => none)
def C_law_draws : Cn where
  ι := Int × Int × (List Int)
  n := 2
  args := fun i => [(eI i.1), (eI i.2.1)]
  ok := fun i => m_law_draws i.1 i.2.1 = some i.2.2
  post := fun i r => r = ((eL eI) i.2.2)
  hl := fun _ => rfl
def m_law_letters (draw_p : Int) (count_p : Int) : Option (List Str) :=
  Option.bind (some (draw_p % (26 : Int))) fun start_1 => Option.bind (some ((1 : Int) + ((draw_p / (26 : Int)) % (12 : Int)))) fun step_3 => Option.bind (rng1 count_p) fun v5 => Option.bind (compM (fun y6 => Option.bind (iMul step_3 y6) fun v7 => Option.bind (sIx ("abcdefghijklmnopqrstuvwxyz" : Str) ((start_1 + v7) % (26 : Int))) fun v8 => some v8) v5) fun v9 => Option.bind (srtM v9) fun v10 => some v10
def C_law_letters : Cn where
  ι := Int × Int × (List Str)
  n := 2
  args := fun i => [(eI i.1), (eI i.2.1)]
  ok := fun i => m_law_letters i.1 i.2.1 = some i.2.2
  post := fun i r => r = ((eL eS) i.2.2)
  hl := fun _ => rfl
def m_law_word (draw_p : Int) (letters_p : (List Str)) (longest_p : Int) : Option Str :=
  Option.bind (iMod draw_p (longest_p + (1 : Int))) fun v1 => Option.bind (iDiv draw_p (longest_p + (1 : Int))) fun v4 => Option.bind (some ("" : Str)) fun word_7 => Option.bind (rng1 v1) fun v9 => Option.bind (loopM (σ := (Str × Int)) (ρ := Unit) (fun y10 s11 => Option.bind (iMod s11.2 (letters_p.length : Int)) fun v12 => Option.bind (atI letters_p v12) fun v13 => Option.bind (sAdd s11.1 v13) fun v14 => Option.bind (iDiv s11.2 (letters_p.length : Int)) fun v17 => Option.bind (some (v17 + ((37 : Int) * (y10 + (1 : Int))))) fun rest_18 => some (Ctl.nx (v14, rest_18))) v9 (word_7, v4)) fun c20 => jn c20 (fun s20 => some s20.1) (fun r0 => none)
def C_law_word : Cn where
  ι := Int × (List Str) × Int × Str
  n := 3
  args := fun i => [(eI i.1), ((eL eS) i.2.1), (eI i.2.2.1)]
  ok := fun i => m_law_word i.1 i.2.1 i.2.2.1 = some i.2.2.2
  post := fun i r => r = (eS i.2.2.2)
  hl := fun _ => rfl
def m_law_runs (cell_p : Int) (letters_p : (List Str)) (count_p : Int) (longest_p : Int) : Option (List Str) :=
  Option.bind (m_law_draws cell_p ((5 : Int) + ((4 : Int) * count_p))) fun v1 => Option.bind (rng1 (4 : Int)) fun v4 => Option.bind (compM (fun y5 => Option.bind (atI v1 ((1 : Int) + y5)) fun v6 => Option.bind (m_law_word v6 letters_p (2 : Int)) fun v7 => some v7) v4) fun v8 => Option.bind (some ([] : List Str)) fun runs_9 => Option.bind (atI v1 (0 : Int)) fun v11 => Option.bind (iMod v11 (count_p + (1 : Int))) fun v12 => Option.bind (rng1 v12) fun v13 => Option.bind (loopM (σ := ((List Str))) (ρ := Unit) (fun y14 s15 => Option.bind (atI v1 ((5 : Int) + ((4 : Int) * y14))) fun v16 => Option.bind (α := Sum (Str) (Ctl ((List Str)) Unit)) (if (decide ((v16 % (3 : Int)) = (0 : Int))) = true then Option.bind (atI v1 ((6 : Int) + ((4 : Int) * y14))) fun v20 => Option.bind (m_law_word v20 letters_p longest_p) fun v21 => some (Sum.inl (v21)) else Option.bind (α := Sum (Str) (Sum (Str) (Ctl ((List Str)) Unit))) (if (decide ((v16 % (3 : Int)) = (1 : Int))) = true then Option.bind (atI v1 ((7 : Int) + ((4 : Int) * y14))) fun v25 => Option.bind (atI v8 (v25 % (4 : Int))) fun v26 => Option.bind (atI v1 ((6 : Int) + ((4 : Int) * y14))) fun v29 => Option.bind (atI v8 (v29 % (4 : Int))) fun v30 => Option.bind (atI v1 ((8 : Int) + ((4 : Int) * y14))) fun v31 => Option.bind (sMul v26 (v31 % (4 : Int))) fun v32 => Option.bind (sAdd v30 v32) fun v33 => Option.bind (atI v1 ((8 : Int) + ((4 : Int) * y14))) fun v34 => Option.bind (atI v8 ((v34 / (4 : Int)) % (4 : Int))) fun v35 => Option.bind (sAdd v33 v35) fun v36 => some (Sum.inl (v36)) else Option.bind (atI v1 ((6 : Int) + ((4 : Int) * y14))) fun v39 => Option.bind (atI v8 (v39 % (4 : Int))) fun v40 => Option.bind (atI v1 ((7 : Int) + ((4 : Int) * y14))) fun v41 => Option.bind (m_law_word v41 letters_p (2 : Int)) fun v42 => Option.bind (sAdd v40 v42) fun v43 => Option.bind (atI v1 ((8 : Int) + ((4 : Int) * y14))) fun v44 => Option.bind (atI v8 (v44 % (4 : Int))) fun v45 => Option.bind (sAdd v43 v45) fun v46 => some (Sum.inl (v46))) fun j24 => jn j24 (fun s24 => some (Sum.inl (s24))) (fun r0 => some r0)) fun j19 => jn j19 (fun s19 => Option.bind (sCut s19 none (some longest_p)) fun v49 => Option.bind (lApp s15 v49) fun runs_50 => some (Ctl.nx (runs_50))) (fun r0 => some r0)) v13 (runs_9)) fun c52 => jn c52 (fun s52 => some s52) (fun r0 => none)
def C_law_runs : Cn where
  ι := Int × (List Str) × Int × Int × (List Str)
  n := 4
  args := fun i => [(eI i.1), ((eL eS) i.2.1), (eI i.2.2.1), (eI i.2.2.2.1)]
  ok := fun i => m_law_runs i.1 i.2.1 i.2.2.1 i.2.2.2.1 = some i.2.2.2.2
  post := fun i r => r = ((eV eS) i.2.2.2.2)
  hl := fun _ => rfl
def m_law_k (draw_p : Int) : Option Int :=
  if (decide ((draw_p % (12 : Int)) = (11 : Int))) = true then some ((draw_p / (12 : Int)) % (21 : Int)) else Option.bind (atI ([(0 : Int), (1 : Int), (1 : Int), (2 : Int), (2 : Int), (3 : Int), (0 : Int), (1 : Int), (2 : Int), (4 : Int), (3 : Int)] : List Int) (draw_p % (12 : Int))) fun v1 => some v1
def C_law_k : Cn where
  ι := Int × Int
  n := 1
  args := fun i => [(eI i.1)]
  ok := fun i => m_law_k i.1 = some i.2
  post := fun i r => r = (eI i.2)
  hl := fun _ => rfl
def m_law_seen (script_p : (List Int)) (at_p : Int) (count_p : Int) (longest_p : Int) : Option ((List Str) × (List Str) × Int) :=
  Option.bind (m_law_cell script_p at_p) fun v1 => Option.bind (m_law_draws v1 (3 : Int)) fun v2 => Option.bind (atI v2 (0 : Int)) fun v5 => Option.bind (atI v2 (1 : Int)) fun v6 => Option.bind (atI ([(2 : Int), (1 : Int), (3 : Int), (2 : Int), (3 : Int), (6 : Int)] : List Int) (v6 % (6 : Int))) fun v7 => Option.bind (m_law_letters v5 v7) fun v8 => Option.bind (m_law_cell script_p (at_p + (1 : Int))) fun v11 => Option.bind (m_law_runs v11 v8 count_p longest_p) fun v12 => Option.bind (atI v2 (2 : Int)) fun v13 => Option.bind (m_law_k v13) fun v14 => some (v8, v12, v14)
def C_law_seen : Cn where
  ι := (List Int) × Int × Int × Int × ((List Str) × (List Str) × Int)
  n := 4
  args := fun i => [((eL eI) i.1), (eI i.2.1), (eI i.2.2.1), (eI i.2.2.2.1)]
  ok := fun i => m_law_seen i.1 i.2.1 i.2.2.1 i.2.2.2.1 = some i.2.2.2.2
  post := fun i r => r = ((eP3 (eL eS) (eV eS) eI) i.2.2.2.2)
  hl := fun _ => rfl
def m_law_fit (runs_p : (List Str)) (most_p : Int) : Option (List Str) :=
  Option.bind (some ([] : List Str)) fun kept_1 => Option.bind (some most_p) fun left_3 => Option.bind (loopM (σ := ((List Str) × Int)) (ρ := Unit) (fun y5 s6 => Option.bind (sLen y5) fun v7 => if (decide (v7 ≤ s6.2)) = true then Option.bind (lApp s6.1 y5) fun kept_8 => Option.bind (sLen y5) fun v10 => Option.bind (some (s6.2 - v10)) fun left_11 => some (Ctl.nx (kept_8, left_11)) else some (Ctl.bk (s6.1, s6.2))) runs_p (kept_1, left_3)) fun c13 => jn c13 (fun s13 => some s13.1) (fun r0 => none)
def C_law_fit : Cn where
  ι := (List Str) × Int × (List Str)
  n := 2
  args := fun i => [((eL eS) i.1), (eI i.2.1)]
  ok := fun i => m_law_fit i.1 i.2.1 = some i.2.2
  post := fun i r => r = ((eV eS) i.2.2)
  hl := fun _ => rfl
def m_law_long_runs (cell_p : Int) (letters_p : (List Str)) : Option (List Str) :=
  Option.bind (m_law_draws cell_p (70 : Int)) fun v1 => Option.bind (atI v1 (0 : Int)) fun v4 => Option.bind (some (v4 % (4 : Int))) fun kind_5 => Option.bind (some ("" : Str)) fun base_7 => Option.bind (atI v1 (1 : Int)) fun v9 => Option.bind (rng1 ((60 : Int) - ((v9 / (8 : Int)) % (3 : Int)))) fun v10 => Option.bind (loopM (σ := (Str)) (ρ := Unit) (fun y11 s12 => Option.bind (atI v1 ((10 : Int) + y11)) fun v13 => Option.bind (iMod v13 (letters_p.length : Int)) fun v14 => Option.bind (atI letters_p v14) fun v15 => Option.bind (sAdd s12 v15) fun v16 => some (Ctl.nx (v16))) v10 (base_7)) fun c19 => jn c19 (fun s19 => Option.bind (if (decide (kind_5 = (0 : Int))) = true then Option.bind (atI v1 (1 : Int)) fun v20 => some (decide ((v20 % (8 : Int)) = (0 : Int))) else some false) fun v21 => if v21 = true then some ([s19] : List Str) else if (decide (kind_5 = (0 : Int))) = true then Option.bind (atI v1 (2 : Int)) fun v22 => Option.bind (sCut s19 none (some ((12 : Int) + (v22 % (9 : Int))))) fun v23 => Option.bind (atI v1 (3 : Int)) fun v26 => Option.bind (sLen v23) fun v27 => Option.bind (iMod v26 (v27 + (1 : Int))) fun v28 => Option.bind (sCut v23 none (some v28)) fun v29 => Option.bind (atI v1 (4 : Int)) fun v30 => Option.bind (sLen v23) fun v31 => Option.bind (iMod v30 (v31 + (1 : Int))) fun v32 => Option.bind (sCut v23 (some v32) none) fun v33 => Option.bind (sAdd v29 v33) fun v34 => Option.bind (atI v1 (5 : Int)) fun v37 => Option.bind (sLen v23) fun v38 => Option.bind (iMod v37 v38) fun v39 => Option.bind (sCut v23 (some v39) none) fun v40 => Option.bind (sAdd v40 v23) fun v41 => Option.bind (sCut v34 none (some (20 : Int))) fun v44 => Option.bind (sCut v41 none (some (20 : Int))) fun v45 => some ([v23, v44, v45] : List Str) else if (decide (kind_5 = (1 : Int))) = true then Option.bind (atI v1 (2 : Int)) fun v46 => Option.bind (m_law_word v46 letters_p (4 : Int)) fun v47 => Option.bind (atI letters_p (0 : Int)) fun v48 => Option.bind (sAdd v47 v48) fun v49 => Option.bind (atI v1 (3 : Int)) fun v52 => Option.bind (m_law_word v52 letters_p (3 : Int)) fun v53 => Option.bind (sMul v49 (60 : Int)) fun v56 => Option.bind (atI v1 (4 : Int)) fun v57 => Option.bind (sCut v56 none (some ((38 : Int) - (v57 % (9 : Int))))) fun v58 => Option.bind (sAdd v53 v58) fun v59 => Option.bind (atI v1 (5 : Int)) fun v60 => Option.bind (sMul v49 ((1 : Int) + (v60 % (3 : Int)))) fun v61 => Option.bind (sAdd v53 v61) fun v62 => some ([v59, v62] : List Str) else if (decide (kind_5 = (2 : Int))) = true then Option.bind (some ([] : List Str)) fun runs_63 => Option.bind (rng1 (4 : Int)) fun v65 => Option.bind (loopM (σ := ((List Str))) (ρ := Unit) (fun y66 s67 => Option.bind (atI v1 ((10 : Int) + ((4 : Int) * y66))) fun v68 => Option.bind (m_law_word v68 letters_p (3 : Int)) fun v69 => Option.bind (atI v1 ((11 : Int) + ((4 : Int) * y66))) fun v70 => Option.bind (iMod v70 (letters_p.length : Int)) fun v71 => Option.bind (atI letters_p v71) fun v72 => Option.bind (sAdd v69 v72) fun v73 => Option.bind (atI v1 ((12 : Int) + ((4 : Int) * y66))) fun v76 => Option.bind (m_law_word v76 letters_p (3 : Int)) fun v77 => Option.bind (sMul v73 (20 : Int)) fun v80 => Option.bind (atI v1 ((13 : Int) + ((4 : Int) * y66))) fun v81 => Option.bind (sCut v80 none (some ((8 : Int) + (v81 % (15 : Int))))) fun v82 => Option.bind (sAdd v82 v77) fun v83 => Option.bind (lApp s67 v83) fun runs_84 => some (Ctl.nx (runs_84))) v65 (runs_63)) fun c86 => jn c86 (fun s86 => Option.bind (m_law_fit s86 (60 : Int)) fun v87 => some v87) (fun r0 => none) else Option.bind (rng1 (59 : Int)) fun v88 => Option.bind (compM (fun y89 => Option.bind (atI v1 ((10 : Int) + y89)) fun v90 => Option.bind (atI v1 (5 : Int)) fun v91 => Option.bind (m_law_word v90 letters_p ((1 : Int) + (v91 % (4 : Int)))) fun v92 => some v92) v88) fun v93 => Option.bind (m_law_fit v93 (60 : Int)) fun v94 => some v94) (fun r0 => none)
def C_law_long_runs : Cn where
  ι := Int × (List Str) × (List Str)
  n := 2
  args := fun i => [(eI i.1), ((eL eS) i.2.1)]
  ok := fun i => m_law_long_runs i.1 i.2.1 = some i.2.2
  post := fun i r => r = ((eV eS) i.2.2)
  hl := fun _ => rfl
def m_law_seen_any (script_p : (List Int)) (at_p : Int) (count_p : Int) (longest_p : Int) : Option ((List Str) × (List Str) × Int) :=
  Option.bind (m_law_seen script_p at_p count_p longest_p) fun v1 => Option.bind (m_law_cell script_p at_p) fun v4 => Option.bind (m_law_draws v4 (4 : Int)) fun v5 => Option.bind (atI v5 (3 : Int)) fun v6 => if (decide ((v6 % (8 : Int)) = (3 : Int))) = true then Option.bind (m_law_cell script_p (at_p + (1 : Int))) fun v7 => Option.bind (m_law_long_runs v7 v1.1) fun v8 => some (v1.1, v8, v1.2.2) else some v1
def C_law_seen_any : Cn where
  ι := (List Int) × Int × Int × Int × ((List Str) × (List Str) × Int)
  n := 4
  args := fun i => [((eL eI) i.1), (eI i.2.1), (eI i.2.2.1), (eI i.2.2.2.1)]
  ok := fun i => m_law_seen_any i.1 i.2.1 i.2.2.1 i.2.2.2.1 = some i.2.2.2.2
  post := fun i r => r = ((eP3 (eL eS) (eV eS) eI) i.2.2.2.2)
  hl := fun _ => rfl
def m_law_drawn_line (known_p : (List Str)) (k_p : Int) (draws_p : (List Int)) : Option (Option (Str × (List Int))) :=
  Option.bind (atI draws_p (0 : Int)) fun v1 => Option.bind (iMod v1 (known_p.length : Int)) fun v2 => Option.bind (atI known_p v2) fun v5 => Option.bind (some ([] : List (Int × Int × Int))) fun found_8 => Option.bind (rng1 (known_p.length : Int)) fun v10 => Option.bind (loopM (σ := ((List (Int × Int × Int)))) (ρ := Unit) (fun y11 s12 => Option.bind (atI known_p y11) fun v13 => Option.bind (sLen v13) fun v14 => Option.bind (rng2 k_p (v14 + (1 : Int))) fun v15 => Option.bind (loopM (σ := ((List (Int × Int × Int)))) (ρ := Unit) (fun y16 s17 => Option.bind (sLen v5) fun v18 => Option.bind (atI known_p y11) fun v19 => Option.bind (sLen v19) fun v20 => Option.bind (some ((v18 - v20) + y16)) fun m_21 => Option.bind (if (decide (k_p ≤ m_21)) = true then Option.bind (atI known_p y11) fun v23 => Option.bind (sCut v23 (some y16) none) fun v24 => Option.bind (sCut v5 (some m_21) none) fun v25 => Option.bind (if (decide (v24 = v25)) = true then Option.bind (atI known_p y11) fun v26 => Option.bind (sCut v26 (some (y16 - k_p)) (some y16)) fun v27 => Option.bind (sCut v5 (some (m_21 - k_p)) (some m_21)) fun v28 => some (decide (v27 = v28)) else some false) fun v29 => some v29 else some false) fun v30 => Option.bind (α := Sum ((List (Int × Int × Int))) (Ctl ((List (Int × Int × Int))) Unit)) (if v30 = true then Option.bind (lApp s17 (y11, m_21, y16)) fun found_32 => some (Sum.inl (found_32)) else some (Sum.inl (s17))) fun j31 => jn j31 (fun s31 => some (Ctl.nx (s31))) (fun r0 => some r0)) v15 (s12)) fun c34 => jn c34 (fun s34 => some (Ctl.nx (s34))) (fun r0 => none)) v10 (found_8)) fun c35 => jn c35 (fun s35 => Option.bind (compIM (fun y36 => Option.bind (atI known_p y36.1) fun v37 => Option.bind (sCut v37 none (some y36.2.2)) fun v38 => Option.bind (sCut v5 none (some y36.2.1)) fun v39 => some (!decide (v38 = v39))) (fun y36 => some y36) s35) fun v40 => Option.bind (if (decide ((0 : Int) < (v40.length : Int))) = true then Option.bind (atI draws_p (2 : Int)) fun v41 => some (!decide ((v41 % (8 : Int)) = (0 : Int))) else some false) fun v42 => Option.bind (α := Sum ((List (Int × Int × Int))) (Option (Str × (List Int)))) (if v42 = true then Option.bind (some v40) fun found_44 => some (Sum.inl (found_44)) else some (Sum.inl (s35))) fun j43 => jn j43 (fun s43 => if (decide ((s43.length : Int) = (0 : Int))) = true then some (none : Option (Str × (List Int))) else Option.bind (atI draws_p (1 : Int)) fun v46 => Option.bind (iMod v46 (s43.length : Int)) fun v47 => Option.bind (atI s43 v47) fun v48 => Option.bind (some v48.2.1) fun m_51 => Option.bind (rng1 (known_p.length : Int)) fun v53 => Option.bind (compIM (fun y54 => Option.bind (atI known_p y54) fun v55 => Option.bind (sLen v55) fun v56 => Option.bind (if (decide (m_51 ≤ v56)) = true then Option.bind (atI known_p y54) fun v57 => Option.bind (sCut v57 none (some m_51)) fun v58 => Option.bind (sCut v5 none (some m_51)) fun v59 => some (decide (v58 = v59)) else some false) fun v60 => some v60) (fun y54 => some y54) v53) fun v61 => Option.bind (atI draws_p (2 : Int)) fun v62 => Option.bind (iMod (v62 / (8 : Int)) (v61.length : Int)) fun v63 => Option.bind (atI v61 v63) fun v64 => Option.bind (atI known_p v48.1) fun v67 => Option.bind (sCut v67 none (some v48.2.2)) fun v68 => Option.bind (atI known_p v64) fun v69 => Option.bind (sCut v69 (some m_51) none) fun v70 => Option.bind (sAdd v68 v70) fun v71 => some (some (v71, ([v2, v48.1, v64, m_51, v48.2.2] : List Int)))) (fun r0 => some r0)) (fun r0 => none)
def C_law_drawn_line : Cn where
  ι := (List Str) × Int × (List Int) × (Option (Str × (List Int)))
  n := 3
  args := fun i => [((eL eS) i.1), (eI i.2.1), ((eL eI) i.2.2.1)]
  ok := fun i => m_law_drawn_line i.1 i.2.1 i.2.2.1 = some i.2.2.2
  post := fun i r => r = ((eO (eP2 eS (eV eI))) i.2.2.2)
  hl := fun _ => rfl
def m_law_own_lines (runs_p : (List Str)) (k_p : Int) (draws_p : (List Int)) (count_p : Int) (longest_p : Int) : Option (List (Str × (List Int))) :=
  Option.bind (compM (fun y1 => some (y1, ([] : List Int))) runs_p) fun v2 => Option.bind (rng1 count_p) fun v3 => Option.bind (loopM (σ := ((List (Str × (List Int))))) (ρ := Unit) (fun y4 s5 => Option.bind (α := Sum ((List (Str × (List Int)))) (Ctl ((List (Str × (List Int)))) Unit)) (if (decide ((0 : Int) < (s5.length : Int))) = true then Option.bind (compM (fun y7 => some y7.1) s5) fun v8 => Option.bind (m_law_drawn_line v8 k_p (cutL draws_p (some ((3 : Int) * y4)) (some (((3 : Int) * y4) + (3 : Int))))) fun v9 => Option.bind (if (!v9.isNone) = true then Option.bind (v9) fun v12 => Option.bind (sLen v12.1) fun v13 => some (decide (v13 ≤ longest_p)) else some false) fun v14 => Option.bind (α := Sum ((List (Str × (List Int)))) (Sum ((List (Str × (List Int)))) (Ctl ((List (Str × (List Int)))) Unit))) (if v14 = true then Option.bind (v9) fun v16 => Option.bind (lApp s5 v16) fun lines_17 => some (Sum.inl (lines_17)) else some (Sum.inl (s5))) fun j15 => jn j15 (fun s15 => some (Sum.inl (s15))) (fun r0 => some r0) else some (Sum.inl (s5))) fun j6 => jn j6 (fun s6 => some (Ctl.nx (s6))) (fun r0 => some r0)) v3 (v2)) fun c19 => jn c19 (fun s19 => some s19) (fun r0 => none)
def C_law_own_lines : Cn where
  ι := (List Str) × Int × (List Int) × Int × Int × (List (Str × (List Int)))
  n := 5
  args := fun i => [((eV eS) i.1), (eI i.2.1), ((eL eI) i.2.2.1), (eI i.2.2.2.1), (eI i.2.2.2.2.1)]
  ok := fun i => m_law_own_lines i.1 i.2.1 i.2.2.1 i.2.2.2.1 i.2.2.2.2.1 = some i.2.2.2.2.2
  post := fun i r => r = ((eL (eP2 eS (eV eI))) i.2.2.2.2.2)
  hl := fun _ => rfl
def m_law_spoilt_number (lines_p : (List (Str × (List Int)))) (at_p : Int) (k_p : Int) (draws_p : (List Int)) : Option (Str × (List Int)) :=
  Option.bind (atI lines_p at_p) fun v1 => Option.bind (some v1.2) fun reason_2 => Option.bind (atI draws_p (0 : Int)) fun v4 => Option.bind (some (v4 % (5 : Int))) fun place_5 => Option.bind (atI reason_2 place_5) fun v7 => Option.bind (atI lines_p at_p) fun v10 => Option.bind (sLen v10.1) fun v11 => Option.bind (some ([(v7 + (1 : Int)), (v7 - (1 : Int)), at_p, (at_p + (1 : Int)), ((0 : Int) - (1 : Int)), (v11 + (1 : Int)), (k_p - (1 : Int)), (v7 + (100000000000000000000 : Int)), ((0 : Int) - v11), k_p] : List Int)) fun more_14 => Option.bind (atI lines_p at_p) fun v16 => Option.bind (atI draws_p (1 : Int)) fun v17 => Option.bind (atI more_14 (v17 % (10 : Int))) fun v18 => Option.bind (lCat (cutL reason_2 none (some place_5)) ([v18] : List Int)) fun v19 => Option.bind (lCat v19 (cutL reason_2 (some (place_5 + (1 : Int))) none)) fun v20 => some (v16.1, v20)
def C_law_spoilt_number : Cn where
  ι := (List (Str × (List Int))) × Int × Int × (List Int) × (Str × (List Int))
  n := 4
  args := fun i => [((eL (eP2 eS (eV eI))) i.1), (eI i.2.1), (eI i.2.2.1), ((eL eI) i.2.2.2.1)]
  ok := fun i => m_law_spoilt_number i.1 i.2.1 i.2.2.1 i.2.2.2.1 = some i.2.2.2.2
  post := fun i r => r = ((eP2 eS (eV eI)) i.2.2.2.2)
  hl := fun _ => rfl
def m_law_near_line (lines_p : (List (Str × (List Int)))) (k_p : Int) (at_p : Int) (other_p : Int) (draws_p : (List Int)) : Option (Str × (List Int)) :=
  Option.bind (atI lines_p at_p) fun v1 => Option.bind (some v1.2) fun reason_2 => Option.bind (if (!decide ((reason_2.length : Int) = (5 : Int))) = true then some true else Option.bind (atI draws_p (1 : Int)) fun v4 => some (decide ((v4 % (4 : Int)) = (0 : Int)))) fun v5 => Option.bind (α := Sum ((List Int)) (Str × (List Int))) (if v5 = true then Option.bind (atI draws_p (0 : Int)) fun v7 => Option.bind (some (k_p + (v7 % (3 : Int)))) fun m_8 => Option.bind (atI draws_p (1 : Int)) fun v10 => Option.bind (atI ([at_p, other_p] : List Int) ((v10 / (4 : Int)) % (2 : Int))) fun v11 => Option.bind (atI lines_p other_p) fun v12 => Option.bind (sLen v12.1) fun v13 => Option.bind (atI lines_p at_p) fun v14 => Option.bind (sLen v14.1) fun v15 => Option.bind (atI draws_p (0 : Int)) fun v16 => Option.bind (atI ([m_8, ((m_8 + v13) - v15)] : List Int) (v16 % (2 : Int))) fun v17 => Option.bind (some ([at_p, other_p, v11, m_8, v17] : List Int)) fun reason_18 => some (Sum.inl (reason_18)) else some (Sum.inl (reason_2))) fun j6 => jn j6 (fun s6 => Option.bind (atI draws_p (0 : Int)) fun v20 => Option.bind (some ((v20 / (8 : Int)) % (5 : Int))) fun place_21 => Option.bind (atI draws_p (1 : Int)) fun v23 => Option.bind (iMod (v23 / (8 : Int)) (lines_p.length : Int)) fun v24 => Option.bind (α := Sum (Int) (Str × (List Int))) (if (decide ((2 : Int) < place_21)) = true then Option.bind (atI draws_p (1 : Int)) fun v28 => Option.bind (some ((if (k_p - (1 : Int)) > (0 : Int) then (k_p - (1 : Int)) else (0 : Int)) + ((v28 / (8 : Int)) % (4 : Int)))) fun value_29 => some (Sum.inl (value_29)) else some (Sum.inl (v24))) fun j27 => jn j27 (fun s27 => Option.bind (lCat (cutL s6 none (some place_21)) ([s27] : List Int)) fun v31 => Option.bind (lCat v31 (cutL s6 (some (place_21 + (1 : Int))) none)) fun v32 => Option.bind (atI v32 (1 : Int)) fun v35 => Option.bind (atI lines_p v35) fun v36 => Option.bind (atI v32 (4 : Int)) fun v37 => Option.bind (sCut v36.1 none (some (if v37 > (0 : Int) then v37 else (0 : Int)))) fun v38 => Option.bind (atI v32 (2 : Int)) fun v39 => Option.bind (atI lines_p v39) fun v40 => Option.bind (atI v32 (3 : Int)) fun v41 => Option.bind (sCut v40.1 (some v41) none) fun v42 => Option.bind (sAdd v38 v42) fun v43 => some (v43, v32)) (fun r0 => some r0)) (fun r0 => some r0)
def C_law_near_line : Cn where
  ι := (List (Str × (List Int))) × Int × Int × Int × (List Int) × (Str × (List Int))
  n := 5
  args := fun i => [((eL (eP2 eS (eV eI))) i.1), (eI i.2.1), (eI i.2.2.1), (eI i.2.2.2.1), ((eL eI) i.2.2.2.2.1)]
  ok := fun i => m_law_near_line i.1 i.2.1 i.2.2.1 i.2.2.2.1 i.2.2.2.2.1 = some i.2.2.2.2.2
  post := fun i r => r = ((eP2 eS (eV eI)) i.2.2.2.2.2)
  hl := fun _ => rfl
def m_law_spoilt_lines (lines_p : (List (Str × (List Int)))) (k_p : Int) (letters_p : (List Str)) (draws_p : (List Int)) : Option (List (Str × (List Int))) :=
  if (decide ((lines_p.length : Int) = (0 : Int))) = true then Option.bind (atI letters_p (0 : Int)) fun v1 => Option.bind (atI draws_p (0 : Int)) fun v2 => Option.bind (atI ([([] : List Int), ([(0 : Int), (0 : Int), (0 : Int), k_p, k_p] : List Int)] : List (List Int)) (v2 % (2 : Int))) fun v3 => some ([(v1, v3)] : List (Str × (List Int))) else Option.bind (atI draws_p (1 : Int)) fun v4 => Option.bind (iMod v4 (lines_p.length : Int)) fun v5 => Option.bind (atI draws_p (2 : Int)) fun v8 => Option.bind (iMod v8 (lines_p.length : Int)) fun v9 => Option.bind (atI lines_p v5) fun v12 => Option.bind (atI draws_p (0 : Int)) fun v15 => Option.bind (some (v15 % (14 : Int))) fun kind_16 => Option.bind (α := Sum ((Str × (List Int))) (List (Str × (List Int)))) (if ((decide (kind_16 < (3 : Int))) && (decide ((v12.2.length : Int) = (5 : Int)))) = true then Option.bind (m_law_spoilt_number lines_p v5 k_p (cutL draws_p (some (3 : Int)) (some (5 : Int)))) fun v19 => some (Sum.inl (v19)) else if (decide (kind_16 < (5 : Int))) = true then Option.bind (sLen v12.1) fun v22 => Option.bind (sLen v12.1) fun v23 => Option.bind (atI draws_p (3 : Int)) fun v24 => Option.bind (atI ([k_p, v22, (k_p - (1 : Int)), (v23 + (1 : Int)), (0 : Int), ((0 : Int) - (1 : Int))] : List Int) (v24 % (6 : Int))) fun v25 => Option.bind (atI draws_p (4 : Int)) fun v28 => Option.bind (atI ([v25, v25, v25, (v25 + (1 : Int))] : List Int) (v28 % (4 : Int))) fun v29 => Option.bind (lCat lines_p ([(v12.1, ([v5, v5, v5, v25, v29] : List Int))] : List (Str × (List Int)))) fun v30 => some (Sum.inr v30) else if (decide ((9 : Int) < kind_16)) = true then Option.bind (m_law_near_line lines_p k_p v5 v9 (cutL draws_p (some (3 : Int)) (some (5 : Int)))) fun v31 => Option.bind (lCat lines_p ([v31] : List (Str × (List Int)))) fun v32 => some (Sum.inr v32) else if (decide (kind_16 = (5 : Int))) = true then Option.bind (some lines_p) fun after_33 => Option.bind (atI lines_p v9) fun v35 => Option.bind (lSet after_33 v5 v35) fun after_36 => Option.bind (lSet after_36 v9 v12) fun after_38 => some (Sum.inr after_38) else if (decide (kind_16 = (6 : Int))) = true then Option.bind (lCat (cutL lines_p none (some v5)) (cutL lines_p (some (v5 + (1 : Int))) none)) fun v40 => some (Sum.inr v40) else Option.bind (α := Sum ((Str × (List Int))) (Sum ((Str × (List Int))) (List (Str × (List Int))))) (if (decide (kind_16 = (7 : Int))) = true then Option.bind (lCat v12.2 ([(0 : Int)] : List Int)) fun v44 => Option.bind (vRep v12.2 (2 : Int)) fun v45 => Option.bind (atI draws_p (3 : Int)) fun v46 => Option.bind (atI ([([] : List Int), v44, (cutL v12.2 none (some (4 : Int))), ([(0 : Int), (0 : Int), (0 : Int), k_p, k_p] : List Int), v45] : List (List Int)) (v46 % (5 : Int))) fun v47 => Option.bind (some (v12.1, v47)) fun line_48 => some (Sum.inl (line_48)) else if (decide (kind_16 = (8 : Int))) = true then Option.bind (atI draws_p (4 : Int)) fun v50 => Option.bind (iMod v50 (letters_p.length : Int)) fun v51 => Option.bind (atI letters_p v51) fun v52 => Option.bind (sAdd v12.1 v52) fun v55 => Option.bind (sAdd v52 v12.1) fun v56 => Option.bind (sCut v12.1 (some (1 : Int)) none) fun v57 => Option.bind (sCut v12.1 none (some (-(1 : Int)))) fun v58 => Option.bind (sAdd v12.1 ("A" : Str)) fun v59 => Option.bind (atI draws_p (3 : Int)) fun v60 => Option.bind (atI ([v55, v56, v57, v58, v59, ("?" : Str)] : List Str) (v60 % (6 : Int))) fun v61 => Option.bind (some (v61, v12.2)) fun line_62 => some (Sum.inl (line_62)) else Option.bind (lCat (cutL lines_p none (some (v5 + (1 : Int)))) (cutL lines_p (some v5) none)) fun v64 => some (Sum.inr (Sum.inr v64))) fun j41 => jn j41 (fun s41 => some (Sum.inl (s41))) (fun r0 => some r0)) fun j18 => jn j18 (fun s18 => Option.bind (lCat (cutL lines_p none (some v5)) ([s18] : List (Str × (List Int)))) fun v65 => Option.bind (lCat v65 (cutL lines_p (some (v5 + (1 : Int))) none)) fun v66 => some v66) (fun r0 => some r0)
def C_law_spoilt_lines : Cn where
  ι := (List (Str × (List Int))) × Int × (List Str) × (List Int) × (List (Str × (List Int)))
  n := 4
  args := fun i => [((eL (eP2 eS (eV eI))) i.1), (eI i.2.1), ((eL eS) i.2.2.1), ((eL eI) i.2.2.2.1)]
  ok := fun i => m_law_spoilt_lines i.1 i.2.1 i.2.2.1 i.2.2.2.1 = some i.2.2.2.2
  post := fun i r => r = ((eL (eP2 eS (eV eI))) i.2.2.2.2)
  hl := fun _ => rfl
def m_law_is_run (value_p : Str) : Option Bool :=
  Option.bind (if true = true then Option.bind (compM (fun y1 => Option.bind (sIn y1 ("abcdefghijklmnopqrstuvwxyz" : Str)) fun v2 => some v2) (chs value_p)) fun v3 => some (v3.all id) else some false) fun v4 => some v4
def C_law_is_run : Cn where
  ι := Str × Bool
  n := 1
  args := fun i => [(eS i.1)]
  ok := fun i => m_law_is_run i.1 = some i.2
  post := fun i r => r = (eB i.2)
  hl := fun _ => rfl
def m_last_letters (run_p : Str) (k_p : Int) : Option Str :=
  Option.bind (sLen run_p) fun v1 => Option.bind (sCut run_p (some (if (v1 - k_p) > (0 : Int) then (v1 - k_p) else (0 : Int))) none) fun v2 => some v2
def C_last_letters : Cn where
  ι := Str × Int × Str
  n := 2
  args := fun i => [(eS i.1), (eI i.2.1)]
  ok := fun i => m_last_letters i.1 i.2.1 = some i.2.2
  post := fun i r => r = (eS i.2.2)
  hl := fun _ => rfl
def m_is_derived (runs_p : (List Str)) (k_p : Int) (lines_p : (List (Str × (List Int)))) (at_p : Int) : Option Bool :=
  Option.bind (atI lines_p at_p) fun v1 => Option.bind (some v1) fun t2 => if (!(!List.isEmpty t2.2)) = true then some (decide (t2.1 ∈ runs_p)) else Option.bind (if (!decide ((t2.2.length : Int) = (5 : Int))) = true then some true else Option.bind (compM (fun y4 => some ((decide ((0 : Int) ≤ y4)) && (decide (y4 < at_p)))) (cutL t2.2 none (some (3 : Int)))) fun v5 => some (!(v5.all id))) fun v6 => if v6 = true then some false else Option.bind (compM (fun y7 => Option.bind (atI lines_p y7) fun v8 => some v8.1) (cutL t2.2 none (some (3 : Int)))) fun v9 => Option.bind (un3 v9) fun v10 => Option.bind (un2 (cutL t2.2 (some (3 : Int)) none)) fun v11 => Option.bind (some v11) fun t12 => Option.bind (sLen v10.1) fun v14 => Option.bind (sLen v10.2.2) fun v15 => Option.bind (if ((decide (k_p ≤ t12.1)) && (decide (t12.1 ≤ (if v15 < v14 then v15 else v14)))) = true then Option.bind (sLen v10.2.1) fun v16 => some ((decide (k_p ≤ t12.2)) && (decide (t12.2 ≤ v16))) else some false) fun v17 => if (!v17) = true then some false else Option.bind (sCut v10.1 none (some t12.1)) fun v18 => Option.bind (m_last_letters v18 k_p) fun v19 => Option.bind (sCut v10.2.1 none (some t12.2)) fun v20 => Option.bind (m_last_letters v20 k_p) fun v21 => Option.bind (if (!decide (v19 = v21)) = true then some true else Option.bind (sCut v10.1 (some t12.1) none) fun v22 => Option.bind (sCut v10.2.1 (some t12.2) none) fun v23 => some (!decide (v22 = v23))) fun v24 => if v24 = true then some false else Option.bind (sCut v10.2.2 none (some t12.1)) fun v25 => Option.bind (sCut v10.1 none (some t12.1)) fun v26 => Option.bind (if (decide (v25 = v26)) = true then Option.bind (sCut v10.2.1 none (some t12.2)) fun v27 => Option.bind (sCut v10.2.2 (some t12.1) none) fun v28 => Option.bind (sAdd v27 v28) fun v29 => some (decide (t2.1 = v29)) else some false) fun v30 => some v30
def C_is_derived : Cn where
  ι := (List Str) × Int × (List (Str × (List Int))) × Int × Bool
  n := 4
  args := fun i => [((eV eS) i.1), (eI i.2.1), ((eV (eP2 eS (eV eI))) i.2.2.1), (eI i.2.2.2.1)]
  ok := fun i => m_is_derived i.1 i.2.1 i.2.2.1 i.2.2.2.1 = some i.2.2.2.2
  post := fun i r => r = (eB i.2.2.2.2)
  hl := fun _ => rfl
def m_judge_derivation (runs_p : (List Str)) (k_p : Int) (lines_p : (List (Str × (List Int)))) (run_p : Str) : Option Bool :=
  Option.bind (if (!(!List.isEmpty lines_p)) = true then some true else Option.bind (atI lines_p (-(1 : Int))) fun v1 => some (!decide (v1.1 = run_p))) fun v2 => if v2 = true then some false else Option.bind (rng1 (lines_p.length : Int)) fun v3 => Option.bind (compM (fun y4 => Option.bind (m_is_derived runs_p k_p lines_p y4) fun v5 => some v5) v3) fun v6 => some (v6.all id)
def C_judge_derivation : Cn where
  ι := (List Str) × Int × (List (Str × (List Int))) × Str × Bool
  n := 4
  args := fun i => [((eV eS) i.1), (eI i.2.1), ((eV (eP2 eS (eV eI))) i.2.2.1), (eS i.2.2.2.1)]
  ok := fun i => m_judge_derivation i.1 i.2.1 i.2.2.1 i.2.2.2.1 = some i.2.2.2.2
  post := fun i r => r = (eB i.2.2.2.2)
  hl := fun _ => rfl
def m_law_is_integer (value_p : Int) : Option Bool :=
  some (true && (!false))
def C_law_is_integer : Cn where
  ι := Int × Bool
  n := 1
  args := fun i => [(eI i.1)]
  ok := fun i => m_law_is_integer i.1 = some i.2
  post := fun i r => r = (eB i.2)
  hl := fun _ => rfl
def m_law_derives (runs_p : (List Str)) (k_p : Int) (lines_p : (List (Str × (List Int)))) (run_p : Str) : Option Bool :=
  if ((!true) || (decide ((lines_p.length : Int) = (0 : Int)))) = true then some false else Option.bind (some ([] : List Str)) fun known_1 => Option.bind (loopM (σ := ((List Str))) (ρ := Bool) (fun y3 s4 => Option.bind (if (!true) = true then some true else Option.bind (if (!decide ((2 : Int) = (2 : Int))) = true then some true else Option.bind (m_law_is_run y3.1) fun v5 => some ((!v5) || (!true))) fun v6 => some v6) fun v7 => if v7 = true then some (Ctl.rt false) else Option.bind (eqD ((eV eI) y3.2) ((eV eI) ([] : List Int))) fun v8 => Option.bind (α := Sum Unit (Ctl ((List Str)) Bool)) (if v8 = true then if (!decide (y3.1 ∈ runs_p)) = true then some (Sum.inr (Ctl.rt false)) else some (Sum.inl ()) else Option.bind (if (!decide ((y3.2.length : Int) = (5 : Int))) = true then some true else Option.bind (compM (fun y10 => Option.bind (m_law_is_integer y10) fun v11 => some (v11 && (decide ((0 : Int) ≤ y10)))) y3.2) fun v12 => some (!(v12.all id))) fun v13 => if v13 = true then some (Sum.inr (Ctl.rt false)) else Option.bind (atI y3.2 (0 : Int)) fun v14 => Option.bind (atI y3.2 (1 : Int)) fun v17 => Option.bind (atI y3.2 (2 : Int)) fun v20 => Option.bind (atI y3.2 (3 : Int)) fun v23 => Option.bind (atI y3.2 (4 : Int)) fun v26 => if ((decide ((s4.length : Int) ≤ v14)) || ((decide ((s4.length : Int) ≤ v17)) || (decide ((s4.length : Int) ≤ v20)))) = true then some (Sum.inr (Ctl.rt false)) else Option.bind (if (decide (v23 < k_p)) = true then some true else Option.bind (if (decide (v26 < k_p)) = true then some true else Option.bind (atI s4 v14) fun v29 => Option.bind (sLen v29) fun v30 => Option.bind (if (decide (v30 < v23)) = true then some true else Option.bind (atI s4 v20) fun v31 => Option.bind (sLen v31) fun v32 => Option.bind (if (decide (v32 < v23)) = true then some true else Option.bind (atI s4 v17) fun v33 => Option.bind (sLen v33) fun v34 => some (decide (v34 < v26))) fun v35 => some v35) fun v36 => some v36) fun v37 => some v37) fun v38 => if v38 = true then some (Sum.inr (Ctl.rt false)) else Option.bind (atI s4 v14) fun v39 => Option.bind (sCut v39 (some (v23 - k_p)) (some v23)) fun v40 => Option.bind (atI s4 v17) fun v41 => Option.bind (sCut v41 (some (v26 - k_p)) (some v26)) fun v42 => Option.bind (if (!decide (v40 = v42)) = true then some true else Option.bind (atI s4 v14) fun v43 => Option.bind (sCut v43 (some v23) none) fun v44 => Option.bind (atI s4 v17) fun v45 => Option.bind (sCut v45 (some v26) none) fun v46 => Option.bind (if (!decide (v44 = v46)) = true then some true else Option.bind (atI s4 v20) fun v47 => Option.bind (sCut v47 none (some v23)) fun v48 => Option.bind (atI s4 v14) fun v49 => Option.bind (sCut v49 none (some v23)) fun v50 => some (!decide (v48 = v50))) fun v51 => some v51) fun v52 => if v52 = true then some (Sum.inr (Ctl.rt false)) else Option.bind (atI s4 v17) fun v53 => Option.bind (sCut v53 none (some v26)) fun v54 => Option.bind (atI s4 v20) fun v55 => Option.bind (sCut v55 (some v23) none) fun v56 => Option.bind (sAdd v54 v56) fun v57 => if (!decide (y3.1 = v57)) = true then some (Sum.inr (Ctl.rt false)) else some (Sum.inl ())) fun j9 => jn j9 (fun s9 => Option.bind (lApp s4 y3.1) fun known_58 => some (Ctl.nx (known_58))) (fun r0 => some r0)) lines_p (known_1)) fun c60 => jn c60 (fun s60 => Option.bind (atI s60 (-(1 : Int))) fun v61 => some (decide (v61 = run_p))) (fun r0 => some r0)
def C_law_derives : Cn where
  ι := (List Str) × Int × (List (Str × (List Int))) × Str × Bool
  n := 4
  args := fun i => [((eV eS) i.1), (eI i.2.1), ((eV (eP2 eS (eV eI))) i.2.2.1), (eS i.2.2.2.1)]
  ok := fun i => m_law_derives i.1 i.2.1 i.2.2.1 i.2.2.2.1 = some i.2.2.2.2
  post := fun i r => r = (eB i.2.2.2.2)
  hl := fun _ => rfl
def m_law_is_told (runs_p : (List Str)) (k_p : Int) (lines_p : (List (Str × (List Int)))) (run_p : Str) : Option Bool :=
  Option.bind (m_judge_derivation runs_p k_p lines_p run_p) fun v1 => Option.bind (if true = true then Option.bind (m_law_derives runs_p k_p lines_p run_p) fun v4 => some (decide (v1 = v4)) else some false) fun v5 => some v5
def C_law_is_told : Cn where
  ι := (List Str) × Int × (List (Str × (List Int))) × Str × Bool
  n := 4
  args := fun i => [((eV eS) i.1), (eI i.2.1), ((eV (eP2 eS (eV eI))) i.2.2.1), (eS i.2.2.2.1)]
  ok := fun i => m_law_is_told i.1 i.2.1 i.2.2.1 i.2.2.2.1 = some i.2.2.2.2
  post := fun i r => r = (eB i.2.2.2.2)
  hl := fun _ => rfl
def m_law (script_p : (List Int)) : Option Bool :=
  Option.bind (m_law_seen_any script_p (0 : Int) (4 : Int) (8 : Int)) fun v1 => Option.bind (some (cutL v1.2.1 none (some (12 : Int)))) fun runs_4 => Option.bind (some v1.2.2) fun k_6 => Option.bind (m_law_cell script_p (2 : Int)) fun v8 => Option.bind (m_law_draws v8 (26 : Int)) fun v9 => Option.bind (m_law_own_lines runs_4 k_6 (cutL v9 none (some (24 : Int))) (8 : Int) (64 : Int)) fun v12 => Option.bind (atI v9 (24 : Int)) fun v15 => Option.bind (m_law_word v15 v1.1 (6 : Int)) fun v16 => Option.bind (atI v9 (25 : Int)) fun v19 => Option.bind (if (decide ((v19 % (2 : Int)) = (0 : Int))) = true then some (if (k_6 - (1 : Int)) > (0 : Int) then (k_6 - (1 : Int)) else (0 : Int)) else some (if (k_6 + (1 : Int)) < (20 : Int) then (k_6 + (1 : Int)) else (20 : Int))) fun v20 => Option.bind (some ([v12, ([] : List (Str × (List Int)))] : List (List (Str × (List Int))))) fun papers_23 => Option.bind (α := Sum ((List (List (Str × (List Int))))) Bool) (if (decide ((0 : Int) < (runs_4.length : Int))) = true then Option.bind (m_law_own_lines runs_4 k_6 (cutL v9 none (some (24 : Int))) (8 : Int) (400 : Int)) fun v26 => Option.bind (atI runs_4 (0 : Int)) fun v27 => Option.bind (lCat v26 ([(v27, ([] : List Int))] : List (Str × (List Int)))) fun v28 => Option.bind (lApp papers_23 v28) fun papers_29 => some (Sum.inl (papers_29)) else some (Sum.inl (papers_23))) fun j25 => jn j25 (fun s25 => Option.bind (rng1 (6 : Int)) fun v31 => Option.bind (loopM (σ := ((List (List (Str × (List Int)))))) (ρ := Unit) (fun y32 s33 => Option.bind (m_law_cell script_p ((3 : Int) + y32)) fun v34 => Option.bind (m_law_draws v34 (5 : Int)) fun v35 => Option.bind (m_law_spoilt_lines v12 k_6 v1.1 v35) fun v36 => Option.bind (lApp s33 v36) fun papers_37 => some (Ctl.nx (papers_37))) v31 (s25)) fun c39 => jn c39 (fun s39 => Option.bind (lCat s39 ([v12] : List (List (Str × (List Int))))) fun v40 => Option.bind (loopM (σ := Unit) (ρ := Bool) (fun y41 s42 => Option.bind (some y41) fun lines_43 => Option.bind (some v16) fun last_45 => Option.bind (if (decide ((0 : Int) < (lines_43.length : Int))) = true then Option.bind (atI lines_43 (-(1 : Int))) fun v47 => Option.bind (m_law_is_run v47.1) fun v48 => Option.bind (if v48 = true then Option.bind (atI lines_43 (-(1 : Int))) fun v49 => Option.bind (sLen v49.1) fun v50 => some (decide (v50 ≤ (64 : Int))) else some false) fun v51 => some v51 else some false) fun v52 => Option.bind (α := Sum (Str) (Ctl Unit Bool)) (if v52 = true then Option.bind (atI lines_43 (-(1 : Int))) fun v54 => Option.bind (some v54.1) fun last_55 => some (Sum.inl (last_55)) else some (Sum.inl (last_45))) fun j53 => jn j53 (fun s53 => Option.bind (m_law_is_told runs_4 k_6 lines_43 s53) fun v57 => Option.bind (if (!v57) = true then some true else Option.bind (m_law_is_told (List.reverse runs_4) k_6 lines_43 v16) fun v58 => some (!v58)) fun v59 => if v59 = true then some (Ctl.rt false) else Option.bind (m_law_is_told runs_4 v20 lines_43 s53) fun v60 => if (!v60) = true then some (Ctl.rt false) else some (Ctl.nx ())) (fun r0 => some r0)) v40 ()) fun c61 => jn c61 (fun s61 => some true) (fun r0 => some r0)) (fun r0 => none)) (fun r0 => some r0)
theorem cell_ok {ns : List Int} {k : Int} (h : 0 ≤ k) : Ex (m_law_cell ns k) fun _ => True := by
  unfold m_law_cell
  refine ex_if (fun hc => ?_) fun _ => ex_some trivial
  have hc := of_decide_eq_true hc
  exact ex_at ⟨h, hc⟩ fun x _ _ => ex_some trivial
def Drw (n : Int) (ds : List Int) : Prop := (ds.length : Int) = n ∧ ∀ x ∈ ds, 0 ≤ x ∧ x < 5040
theorem draws_ok {c n : Int} (h : 0 ≤ n ∧ n ≤ 5000) : Ex (m_law_draws c n) (Drw n) := by
  unfold m_law_draws
  have ha : 0 ≤ (if c < 0 then -c else c) := by split <;> omega
  generalize (if c < 0 then -c else c) = a at ha
  refine ex_id (ex_id (ex_id (ex_id ?_)))
  generalize (decide ((1000000000000000000 : Int) ≤ a)) = dg
  refine ex_rng1 h.1 (by omega) ?_
  refine ex_loop (fun i (s : List Int × Int) => s.1.length = i ∧ i ≤ n.toNat ∧ ∀ x ∈ s.1, 0 ≤ x ∧ x < 5040) ⟨rfl, Nat.zero_le _, fun x hx => by cases hx⟩ ?_ ?_
  · rintro i x ⟨ds, r⟩ hx ⟨p1, p2, p3⟩
    simp only at p1 p2 p3
    have hi : i < n.toNat := by
      have := (List.getElem?_eq_some_iff.mp hx).1
      simpa using this
    have app : ∀ x : Int, 0 ≤ x ∧ x < 5040 → ∀ y ∈ ds ++ [x], 0 ≤ y ∧ y < 5040 := fun x hx y hy => by
      rcases List.mem_append.mp hy with q | q
      · exact p3 y q
      · rw [List.mem_singleton] at q; subst q; exact hx
    refine ex_jn1 (fun s : List Int × Int => s.1.length = i + 1 ∧ ∀ x ∈ s.1, 0 ≤ x ∧ x < 5040) (ex_if (fun _ => ?_) fun _ => ?_) fun s p => ex_some ⟨_, rfl, p.1, hi, p.2⟩
    · exact ex_app (by simp only; omega) (ex_id (ex_some ⟨_, rfl, by simp [p1], app _ (by omega)⟩))
    · refine ex_id (ex_mul (.inl ⟨by omega, by omega⟩) (ex_id (ex_app (by simp only; omega) (ex_some ⟨_, rfl, by simp [p1], app _ (by omega)⟩))))
  · rintro ⟨ds, r⟩ ⟨p1, p2, p3⟩
    exact ex_some ⟨by simp only at p1 ⊢; rw [p1, List.length_map, List.length_range]; omega, p3⟩
theorem ex_drw {β : Type} {Q : β → Prop} {ds : List Int} {n i : Int} {f : Int → Option β} (h : Drw n ds) (hi : 0 ≤ i ∧ i < n) (k : ∀ x, 0 ≤ x ∧ x < 5040 → Ex (f x) Q) : Ex (Option.bind (atI ds i) f) Q :=
  ex_at (by rw [h.1]; exact hi) fun x hx _ => k x (h.2 x hx)
theorem letters_ok {d n : Int} (h : 0 ≤ n ∧ n < 64) : Ex (m_law_letters d n) fun ls => (ls.length : Int) = n ∧ Letters ls := by
  unfold m_law_letters
  refine ex_id (ex_id (ex_rng1 h.1 (by omega) ?_))
  refine ex_comp (fun (_ : Int) (y : Str) => ∃ c : Nat, y = ⟨#[c]⟩ ∧ 97 ≤ c ∧ c ≤ 122) (fun x _ => ?_) (by simp; omega) fun ys h2 h3 => ?_
  · refine ex_mul (.inl ⟨by omega, by omega⟩) ?_
    show Ex (Option.bind (sIx alphaS _) _) _
    obtain ⟨c, e, hc⟩ := sIx_ok (z := alphaS) (i := ((d % (26 : Int)) + (1 + d / 26 % 12) * x) % (26 : Int)) (by rw [alpha_len]; decide) (by rw [alpha_len]; constructor <;> omega)
    exact ex_is e (ex_some ⟨c, rfl, alpha_bnd hc⟩)
  · rw [List.length_map, List.length_range] at h2
    refine ex_is (srtM_ok (by omega)) (ex_some ⟨by rw [srtS_length]; omega, fun z hz => ?_⟩)
    obtain ⟨_, _, q⟩ := h3 z ((srtS_perm _).mem_iff.mp hz)
    exact q
structure Ltr (ls : List Str) : Prop where
  pos : 0 < ls.length
  few : ls.length ≤ 64
  ltr : Letters ls
theorem ex_ltr {β : Type} {Q : β → Prop} {ls : List Str} {a : Int} {f : Int → Option β} (h : Ltr ls) (k : ∀ j, 0 ≤ j ∧ j < (ls.length : Int) → Ex (f j) Q) : Ex (Option.bind (iMod a (ls.length : Int)) f) Q := by
  have := h.pos
  exact ex_mod (by omega) (k _ ⟨Int.emod_nonneg _ (by omega), Int.emod_lt_of_pos _ (by omega)⟩)
theorem word_ok {d lg : Int} {ls : List Str} (hl : Ltr ls) (hd : 0 ≤ d) (hg : 0 ≤ lg ∧ lg ≤ 1000) : Ex (m_law_word d ls lg) fun z => (z.length : Int) ≤ lg ∧ isRun z := by
  unfold m_law_word
  have h1 := hl.pos
  have h2 := hl.few
  refine ex_mod (by omega) (ex_div (by omega) (by omega) (ex_id ?_))
  have hm : 0 ≤ d % (lg + 1) ∧ d % (lg + 1) < lg + 1 := ⟨Int.emod_nonneg _ (by omega), Int.emod_lt_of_pos _ (by omega)⟩
  have hq : 0 ≤ d / (lg + 1) := Int.ediv_nonneg hd (by omega)
  generalize d % (lg + 1) = sz at hm
  generalize d / (lg + 1) = q0 at hq
  refine ex_rng1 hm.1 (by omega) ?_
  refine ex_loop (fun i (s : Str × Int) => s.1.length = i ∧ i ≤ sz.toNat ∧ isRun s.1 ∧ 0 ≤ s.2) ⟨rfl, Nat.zero_le _, isRun_nil, hq⟩ ?_ ?_
  · rintro i x ⟨z, r⟩ hx ⟨p1, p2, p3, p4⟩
    have hi : i < sz.toNat := by
      have := (List.getElem?_eq_some_iff.mp hx).1
      simpa using this
    have hx2 : x = (i : Int) := by simpa [hi] using hx.symm
    simp only at p1 p2 p3 p4
    refine ex_ltr hl fun j hj => ex_at hj fun y hy _ => ?_
    obtain ⟨w1, w2⟩ := hl.ltr.run hy
    have hq2 : 0 ≤ r / (ls.length : Int) := Int.ediv_nonneg p4 (by omega)
    exact ex_sadd (by simp only; omega) (ex_div (by omega) (by omega) (ex_id (ex_some ⟨_, rfl, by rw [len_app, p1, w1], hi, isRun_app p3 w2, by simp only; omega⟩)))
  · rintro ⟨z, r⟩ ⟨p1, p2, p3, p4⟩
    rw [List.length_map, List.length_range] at p1
    exact ex_some ⟨by simp only at p1 ⊢; omega, p3⟩
theorem sum_app1 {rs : List Str} {z : Str} : sumL (rs ++ [z]) = sumL rs + z.length := by
  rw [sumL_app, sumL_cons]; simp [sumL]
theorem runs_ok {c n lg : Int} {ls : List Str} (hl : Ltr ls) (hn : 0 ≤ n ∧ n ≤ 80) (hg : 0 ≤ lg ∧ lg ≤ 64) : Ex (m_law_runs c ls n lg) fun rs => (rs.length : Int) ≤ n ∧ ∀ z ∈ rs, (z.length : Int) ≤ lg ∧ isRun z := by
  unfold m_law_runs
  refine ex_bind (draws_ok (by omega)) fun ds hd => ?_
  refine ex_rng1 (by decide) (by decide) ?_
  refine ex_comp (fun (_ : Int) (z : Str) => (z.length : Int) ≤ 2 ∧ isRun z) (fun x hx => ?_) (by decide) fun ps hp hps => ?_
  · have hx4 : 0 ≤ x ∧ x < 4 := by
      obtain ⟨k, hk, rfl⟩ := List.mem_map.mp hx
      have := List.mem_range.mp hk
      have e : (4 : Int).toNat = 4 := rfl
      omega
    exact ex_drw hd (by omega) fun y hy => ex_bind (word_ok hl hy.1 (by decide)) fun z hz => ex_some hz
  · have hp4 : ps.length = 4 := hp
    have part : ∀ z ∈ ps, z.length ≤ 2 ∧ isRun z := fun z hz => by
      obtain ⟨_, _, a, b⟩ := hps z hz; exact ⟨by omega, b⟩
    refine ex_id (ex_drw hd (by omega) fun x0 h0 => ex_mod (by omega) ?_)
    have hm : 0 ≤ x0 % (n + 1) ∧ x0 % (n + 1) < n + 1 := ⟨Int.emod_nonneg _ (by omega), Int.emod_lt_of_pos _ (by omega)⟩
    generalize x0 % (n + 1) = cnt at hm
    refine ex_rng1 hm.1 (by omega) ?_
    refine ex_loop (fun i (rs : List Str) => rs.length = i ∧ i ≤ cnt.toNat ∧ ∀ z ∈ rs, (z.length : Int) ≤ lg ∧ isRun z) ⟨rfl, Nat.zero_le _, fun z hz => by cases hz⟩ ?_ ?_
    · rintro i x rs hx ⟨p1, p2, p3⟩
      have hi : i < cnt.toNat := by
        have := (List.getElem?_eq_some_iff.mp hx).1
        simpa using this
      have hx2 : x = (i : Int) := by simpa [hi] using hx.symm
      have prt : ∀ {β : Type} {Q : β → Prop} {f : Str → Option β} {a : Int}, (∀ z, z.length ≤ 2 ∧ isRun z → Ex (f z) Q) → Ex (Option.bind (atI ps (a % 4)) f) Q := fun {β Q f a} k => ex_at (by rw [hp4]; omega) fun z hz _ => k z (part z hz)
      refine ex_drw hd (by omega) fun d5 h5 => ?_
      refine ex_jn1 (fun z : Str => z.length ≤ 1000 ∧ isRun z) (ex_if (fun _ => ?_) fun _ => ?_) fun z hz => ?_
      · exact ex_drw hd (by omega) fun d6 h6 => ex_bind (word_ok hl h6.1 (by omega)) fun z hz => ex_some ⟨_, rfl, by omega, hz.2⟩
      · refine ex_jn1 (fun z : Str => z.length ≤ 1000 ∧ isRun z) (ex_if (fun _ => ?_) fun _ => ?_) fun z hz => ex_some ⟨_, rfl, hz⟩
        · refine ex_drw hd (by omega) fun d7 h7 => prt fun z7 q7 => ex_drw hd (by omega) fun d6 h6 => prt fun z6 q6 => ex_drw hd (by omega) fun d8 h8 => ?_
          have hr : z7.length * (d8 % 4).toNat ≤ 6 := Nat.mul_le_mul q7.1 (show (d8 % 4).toNat ≤ 3 by omega)
          have hr2 : (repS z7 (d8 % 4).toNat).length ≤ 6 := by rw [repS_len, Nat.mul_comm]; exact hr
          refine ex_smul (by omega) (by omega) (ex_sadd (by omega) (ex_drw hd (by omega) fun d8' h8' => prt fun z8 q8 => ex_sadd (by rw [len_app]; omega) (ex_some ⟨_, rfl, by rw [len_app, len_app]; omega, isRun_app (isRun_app q6.2 (isRun_rep q7.2 _)) q8.2⟩)))
        · refine ex_drw hd (by omega) fun d6 h6 => prt fun z6 q6 => ex_drw hd (by omega) fun d7 h7 => ex_bind (word_ok hl h7.1 (by decide)) fun z7 q7 => ex_sadd (by omega) (ex_drw hd (by omega) fun d8 h8 => prt fun z8 q8 => ex_sadd (by rw [len_app]; omega) (ex_some ⟨_, rfl, by rw [len_app, len_app]; omega, isRun_app (isRun_app q6.2 q7.2) q8.2⟩))
      · have hc := cutToI z hg.1
        refine ex_scut (by omega) (ex_app (by omega) (ex_some ⟨_, rfl, by simp [p1], hi, fun y hy => ?_⟩))
        rcases List.mem_append.mp hy with q | q
        · exact p3 y q
        · rw [List.mem_singleton] at q; subst q; exact ⟨hc, isRun_cut hz.2 _ _⟩
    · rintro rs ⟨p1, p2, p3⟩
      rw [List.length_map, List.length_range] at p1
      exact ex_some ⟨by omega, p3⟩
theorem fit_ok {rs : List Str} {most : Int} (h : ∀ z ∈ rs, z.length ≤ 1000 ∧ isRun z) (hn : rs.length ≤ 100000) (hm : 0 ≤ most ∧ most ≤ 1000) : Ex (m_law_fit rs most) fun out => Runs out rs.length most.toNat := by
  unfold m_law_fit
  refine ex_id (ex_id ?_)
  refine ex_loopX (fun i (s : List Str × Int) => s.1.length ≤ i ∧ (sumL s.1 : Int) + s.2 = most ∧ 0 ≤ s.2 ∧ ∀ z ∈ s.1, isRun z) (fun s => s.1.length ≤ rs.length ∧ (sumL s.1 : Int) ≤ most ∧ ∀ z ∈ s.1, isRun z) (fun _ => False) ⟨Nat.le_refl _, by simp [sumL], hm.1, fun z hz => by cases hz⟩ ?_ ?_ ?_ (fun _ f => f.elim)
  · rintro i z ⟨ks, left⟩ hz ⟨p1, p2, p3, p4⟩
    simp only at p1 p2 p3 p4
    have hi := (List.getElem?_eq_some_iff.mp hz).1
    have hmz := h z (List.mem_of_getElem? hz)
    refine ex_slen (by omega) (ex_if (fun hc => ?_) fun _ => ?_)
    · have hc := of_decide_eq_true hc
      simp only at hc
      refine ex_app (by simp only; omega) (ex_slen (by omega) (ex_id (ex_some (.inl ⟨_, rfl, by simp; omega, ?_, by simp only; omega, fun y hy => ?_⟩))))
      · simp only; rw [sumL_app, sumL_cons]; simp only [sumL, List.map_nil, List.sum_nil] at p2 ⊢; omega
      · rcases List.mem_append.mp hy with q | q
        · exact p4 y q
        · rw [List.mem_singleton] at q; subst q; exact hmz.2
    · exact ex_some (.inr (.inl ⟨_, rfl, by simp only; omega, by simp only; omega, p4⟩))
  · rintro ⟨ks, left⟩ ⟨p1, p2, p3, p4⟩
    exact ⟨p1, by simp only at p2 p3 ⊢; omega, p4⟩
  · rintro ⟨ks, left⟩ ⟨p1, p2, p3⟩
    exact ex_some ⟨p1, by simp only at p2 ⊢; omega, p3⟩
theorem is_run_ok {z : Str} (h : isRun z) (hz : z.length ≤ 1000) : m_law_is_run z = some true := by
  unfold m_law_is_run
  rw [if_pos rfl, compM_map (fun _ => true) (fun x hx => ?_) (by simp [chs]; have : z.cps.size = z.length := rfl; omega)]
  · simp only [Option.bind_some]
    rw [all_true fun _ _ => rfl]
  · obtain ⟨c, hc, rfl⟩ := List.mem_map.mp hx
    have := h c hc
    show Option.bind (sIn _ alphaS) _ = _
    rw [sIn_ok, decide_eq_true (alpha_mem c (by omega) this.1)]; rfl
theorem k_ok {d : Int} (h : 0 ≤ d) : Ex (m_law_k d) fun k => 0 ≤ k ∧ k ≤ 20 := by
  unfold m_law_k
  refine ex_if (fun _ => ex_some ⟨Int.emod_nonneg _ (by decide), by have := Int.emod_lt_of_pos (d / 12) (b := 21) (by decide); omega⟩) fun hc => ?_
  have hc := of_decide_eq_false hc
  refine ex_at (by simp only [List.length_cons, List.length_nil]; omega) fun x hx _ => ex_some ?_
  simp only [List.mem_cons, List.not_mem_nil, or_false] at hx
  omega
theorem runs_one {a : Str} {n : Nat} (h : isRun a) (hl : a.length ≤ n) : Runs [a] 80 n := ⟨by simp, by simp [sumL]; omega, fun z hz => by simp at hz; subst hz; exact h⟩
theorem long_ok {c : Int} {ls : List Str} (hl : Ltr ls) : Ex (m_law_long_runs c ls) fun rs => Runs rs 80 200 := by
  unfold m_law_long_runs
  refine ex_bind (draws_ok (by decide)) fun ds hd => ex_drw hd (by decide) fun d0 _ => ex_id (ex_id (ex_drw hd (by decide) fun d1 h1 => ?_))
  refine ex_rng1 (by omega) (by omega) ?_
  have h60 : 58 ≤ 60 - d1 / 8 % 3 ∧ 60 - d1 / 8 % 3 ≤ 60 := by omega
  generalize 60 - d1 / 8 % 3 = n60 at h60
  refine ex_loop (fun i (z : Str) => z.length = i ∧ i ≤ n60.toNat ∧ isRun z) ⟨rfl, Nat.zero_le _, isRun_nil⟩ ?_ ?_
  · rintro i x z hx ⟨p1, p2, p3⟩
    have hi : i < n60.toNat := by
      have := (List.getElem?_eq_some_iff.mp hx).1
      simpa using this
    have hx2 : x = (i : Int) := by simpa [hi] using hx.symm
    refine ex_drw hd (by omega) fun d _ => ex_ltr hl fun j hj => ex_at hj fun y hy _ => ?_
    obtain ⟨w1, w2⟩ := hl.ltr.run hy
    exact ex_sadd (by omega) (ex_some ⟨_, rfl, by rw [len_app, p1, w1], hi, isRun_app p3 w2⟩)
  rintro base ⟨p1, _, p3⟩
  rw [List.length_map, List.length_range] at p1
  refine ex_bind (P := fun _ => True) (ex_if (fun _ => ex_drw hd (by decide) fun _ _ => ex_some trivial) fun _ => ex_some trivial) fun b _ => ?_
  refine ex_if (fun _ => ex_some (runs_one p3 (by omega))) fun _ => ?_
  refine ex_if (fun _ => ?_) fun _ => ?_
  · refine ex_drw hd (by decide) fun d2 h2 => ex_scut (by omega) ?_
    have c1 := cutToI base (n := 12 + d2 % 9) (by omega)
    have r1 := isRun_cut p3 none (some (12 + d2 % 9))
    have l1 : (cutS base none (some (12 + d2 % 9))).length = (12 + d2 % 9).toNat := by
      unfold cutS
      rw [show (12 + d2 % 9 : Int) = (((12 + d2 % 9).toNat : Nat) : Int) by omega, HT.sIx_nat, HT.sIx_none]
      show (List.toArray _).size = _
      rw [List.size_toArray, List.length_take, List.length_drop, str_len]
      omega
    generalize cutS base none (some (12 + d2 % 9)) = first at c1 r1 l1
    have cl : ∀ a b, (cutS first a b).length ≤ 20 := fun a b => by have := cutS_length first a b; omega
    refine ex_drw hd (by decide) fun d3 _ => ex_slen (by omega) (ex_mod (by omega) (ex_scut (by omega) (ex_drw hd (by decide) fun d4 _ => ex_slen (by omega) (ex_mod (by omega) (ex_scut (by omega) ?_)))))
    have a1 := cl none (some (d3 % ((first.length : Int) + 1)))
    have a2 := cl (some (d4 % ((first.length : Int) + 1))) none
    refine ex_sadd (by omega) (ex_id (ex_drw hd (by decide) fun d5 _ => ex_slen (by omega) (ex_mod (by omega) (ex_scut (by omega) ?_))))
    have a3 := cl (some (d5 % (first.length : Int))) none
    refine ex_sadd (by omega) (ex_id (ex_scut (by rw [len_app]; omega) (ex_scut (by rw [len_app]; omega) (ex_some ⟨by simp, ?_, fun z hz => ?_⟩))))
    · have b1 := cutTo (cutS first none (some (d3 % ((first.length : Int) + 1))) ++ cutS first (some (d4 % ((first.length : Int) + 1))) none) 20
      have b2 := cutTo (cutS first (some (d5 % (first.length : Int))) none ++ first) 20
      simp only [sumL, List.map_cons, List.map_nil, List.sum_cons, List.sum_nil]
      have e20 : ((20 : Nat) : Int) = 20 := rfl
      rw [e20] at b1 b2
      omega
    · simp only [List.mem_cons, List.not_mem_nil, or_false] at hz
      rcases hz with rfl | rfl | rfl
      · exact r1
      · exact isRun_cut (isRun_app (isRun_cut r1 _ _) (isRun_cut r1 _ _)) _ _
      · exact isRun_cut (isRun_app (isRun_cut r1 _ _) r1) _ _
  refine ex_if (fun _ => ?_) fun _ => ?_
  · refine ex_drw hd (by decide) fun d2 h2 => ex_bind (word_ok hl h2.1 (by decide)) fun w hw => ex_at (by have := hl.pos; omega) fun y hy _ => ?_
    obtain ⟨w1, w2⟩ := hl.ltr.run hy
    refine ex_sadd (by omega) (ex_id (ex_drw hd (by decide) fun d3 h3 => ex_bind (word_ok hl h3.1 (by decide)) fun hdw hh => ?_))
    have lw : (w ++ y).length ≤ 5 := by rw [len_app]; omega
    have rw' := isRun_app hw.2 w2
    generalize w ++ y = word at lw rw'
    have m1 : word.length * (60 : Int).toNat ≤ 300 := Nat.mul_le_mul lw (Nat.le_refl 60)
    have m2 : (repS word (60 : Int).toNat).length ≤ 300 := by rw [repS_len, Nat.mul_comm]; exact m1
    refine ex_smul (by decide) (by omega) (ex_drw hd (by decide) fun d4 h4 => ex_scut (by omega) ?_)
    have c1 := cutToI (repS word (60 : Int).toNat) (n := 38 - d4 % 9) (by omega)
    refine ex_sadd (by omega) (ex_drw hd (by decide) fun d5 h5 => ?_)
    have m3 : word.length * (1 + d5 % 3).toNat ≤ 15 := Nat.mul_le_mul lw (show (1 + d5 % 3).toNat ≤ 3 by omega)
    have m4 : (repS word (1 + d5 % 3).toNat).length ≤ 15 := by rw [repS_len, Nat.mul_comm]; exact m3
    refine ex_smul (by omega) (by omega) (ex_sadd (by omega) (ex_some ⟨by simp, ?_, fun z hz => ?_⟩))
    · simp only [sumL, List.map_cons, List.map_nil, List.sum_cons, List.sum_nil]
      rw [len_app, len_app]
      omega
    · simp only [List.mem_cons, List.not_mem_nil, or_false] at hz
      rcases hz with rfl | rfl
      · exact isRun_app hh.2 (isRun_cut (isRun_rep rw' _) _ _)
      · exact isRun_app hh.2 (isRun_rep rw' _)
  refine ex_if (fun _ => ?_) fun _ => ?_
  · refine ex_id (ex_rng1 (by decide) (by decide) ?_)
    refine ex_loop (fun i (rs : List Str) => rs.length = i ∧ ∀ z ∈ rs, z.length ≤ 1000 ∧ isRun z) ⟨rfl, fun z hz => by cases hz⟩ ?_ ?_
    · rintro i x rs hx ⟨q1, q2⟩
      obtain ⟨hi, hx2⟩ := rng_get hx
      have hi : i < 4 := hi
      refine ex_drw hd (by omega) fun d _ => ex_bind (word_ok hl (by omega) (by decide)) fun w hw => ex_drw hd (by omega) fun d' _ => ex_ltr hl fun j hj => ex_at hj fun y hy _ => ?_
      obtain ⟨w1, w2⟩ := hl.ltr.run hy
      refine ex_sadd (by omega) (ex_id (ex_drw hd (by omega) fun d2 h2 => ex_bind (word_ok hl h2.1 (by decide)) fun rest hr => ?_))
      have lw : (w ++ y).length ≤ 4 := by rw [len_app]; omega
      have rw' := isRun_app hw.2 w2
      generalize w ++ y = word at lw rw'
      have m1 : word.length * (20 : Int).toNat ≤ 80 := Nat.mul_le_mul lw (Nat.le_refl 20)
      have m2 : (repS word (20 : Int).toNat).length ≤ 80 := by rw [repS_len, Nat.mul_comm]; exact m1
      refine ex_smul (by decide) (by omega) (ex_drw hd (by omega) fun d3 h3 => ex_scut (by omega) ?_)
      have c1 := cutS_length (repS word (20 : Int).toNat) none (some (8 + d3 % 15))
      refine ex_sadd (by omega) (ex_app (by omega) (ex_some ⟨_, rfl, by simp [q1], fun z hz => ?_⟩))
      rcases List.mem_append.mp hz with q | q
      · exact q2 z q
      · rw [List.mem_singleton] at q; subst q
        exact ⟨by rw [len_app]; omega, isRun_app (isRun_cut (isRun_rep rw' _) _ _) hr.2⟩
    · rintro rs ⟨q1, q2⟩
      have q1 : rs.length = 4 := q1
      exact ex_bind (fit_ok q2 (by omega) (by decide)) fun out ho => ex_some ⟨by have := ho.num; omega, Nat.le_trans ho.all (by decide), ho.run⟩
  · refine ex_rng1 (by decide) (by decide) ?_
    refine ex_comp (fun (_ : Int) (z : Str) => z.length ≤ 1000 ∧ isRun z) (fun x hx => ?_) (by decide) fun ys hy hys => ?_
    · have hx4 : 0 ≤ x ∧ x < 59 := by
        obtain ⟨k, hk, rfl⟩ := List.mem_map.mp hx
        have := List.mem_range.mp hk
        have e : (59 : Int).toNat = 59 := rfl
        omega
      exact ex_drw hd (by omega) fun y hy => ex_drw hd (by decide) fun d5 h5 => ex_bind (word_ok hl hy.1 (by omega)) fun z hz => ex_some ⟨by omega, hz.2⟩
    · have hy : ys.length = 59 := hy
      exact ex_bind (fit_ok (fun z hz => let ⟨_, _, q⟩ := hys z hz; q) (by omega) (by decide)) fun out ho => ex_some ⟨by have := ho.num; omega, Nat.le_trans ho.all (by decide), ho.run⟩
theorem last_ok {z : Str} {k : Int} (h : z.length ≤ 100000) : m_last_letters z k = some (cutS z (some (if ((z.length : Int) - k) > (0 : Int) then ((z.length : Int) - k) else (0 : Int))) none) := by
  unfold m_last_letters
  rw [sLen_ok (by omega)]
  simp only [Option.bind_some]
  rw [sCut_ok (by omega)]; rfl
theorem atI_last {α : Type} {xs : List α} (h : xs ≠ []) : atI xs (-1) = some (xs.getLast h) := by
  have hl : 0 < xs.length := List.length_pos_iff.mpr h
  unfold atI ixN
  rw [if_neg (by decide), if_pos (by omega)]
  have e : ((xs.length : Int) + -1).toNat = xs.length - 1 := by omega
  show xs[((xs.length : Int) + -1).toNat]? = _
  rw [e, List.getLast_eq_getElem, List.getElem?_eq_getElem (by omega)]
theorem cut_nat (z : Str) {a b : Nat} : cutS z (some (a : Int)) (some (b : Int)) = ⟨((z.cps.toList.drop (min a z.length)).take (min b z.length - min a z.length)).toArray⟩ := by
  unfold cutS; rw [HT.sIx_nat, HT.sIx_nat]
theorem cut_natN (z : Str) {b : Nat} : cutS z none (some (b : Int)) = ⟨(z.cps.toList.take (min b z.length)).toArray⟩ := by
  unfold cutS; rw [HT.sIx_nat, HT.sIx_none, List.drop_zero, Nat.sub_zero]
theorem cut_natL (z : Str) {a : Nat} : cutS z (some (a : Int)) none = ⟨(z.cps.toList.drop (min a z.length)).toArray⟩ := by
  unfold cutS; rw [HT.sIx_nat, HT.sIx_none]
  congr 2
  rw [List.take_of_length_le]
  simp [Str.length]
theorem cut_len {z : Str} {m : Int} (h : 0 ≤ m ∧ m ≤ (z.length : Int)) : ((cutS z none (some m)).length : Int) = m := by
  have e : m = ((m.toNat : Nat) : Int) := by omega
  rw [e, cut_natN]
  show ((List.toArray _).size : Int) = _
  rw [List.size_toArray, List.length_take, str_len]
  omega
theorem cut_lastK {z : Str} {k m : Int} (h : 0 ≤ k ∧ k ≤ m ∧ m ≤ (z.length : Int)) : cutS (cutS z none (some m)) (some (if (((cutS z none (some m)).length : Int) - k) > (0 : Int) then (((cutS z none (some m)).length : Int) - k) else (0 : Int))) none = cutS z (some (m - k)) (some m) := by
  rw [cut_len (by omega)]
  have e0 : (if m - k > 0 then m - k else 0) = m - k := by split <;> omega
  have e1 : m - k = (((m - k).toNat : Nat) : Int) := by omega
  have e2 : m = ((m.toNat : Nat) : Int) := by omega
  rw [e0, e1, cut_natL]
  have l1 := cut_len (z := z) (m := m) (by omega)
  rw [e2] at l1 ⊢
  rw [cut_nat]
  congr 2
  rw [cut_natN] at l1 ⊢
  have hl : (⟨(z.cps.toList.take (min m.toNat z.length)).toArray⟩ : Str).length = m.toNat := by
    show (List.toArray _).size = _
    rw [List.size_toArray, List.length_take, str_len]; omega
  rw [hl]
  show (List.take (min m.toNat z.length) z.cps.toList).drop _ = _
  rw [List.drop_take]
  congr 1
  · omega
  · congr 1; omega
theorem cutL_mem {α : Type} {xs : List α} {a b : Option Int} {x : α} (h : x ∈ cutL xs a b) : x ∈ xs := List.mem_of_mem_drop (List.mem_of_mem_take h)
theorem cutL_len {α : Type} (xs : List α) (a b : Option Int) : (cutL xs a b).length ≤ xs.length := by
  unfold cutL; rw [List.length_take, List.length_drop]; omega
theorem drw_cut {ds : List Int} {n a b : Int} (h : Drw n ds) (hab : 0 ≤ a ∧ a ≤ b ∧ b ≤ n) : Drw (b - a) (cutL ds (some a) (some b)) := by
  refine ⟨?_, fun x hx => h.2 x (cutL_mem hx)⟩
  have e1 : a = ((a.toNat : Nat) : Int) := by omega
  have e2 : b = ((b.toNat : Nat) : Int) := by omega
  have hl := h.1
  rw [e1, e2]
  unfold cutL
  rw [HT.sIx_nat, HT.sIx_nat, List.length_take, List.length_drop]
  omega
theorem drw_cut0 {ds : List Int} {n b : Int} (h : Drw n ds) (hb : 0 ≤ b ∧ b ≤ n) : Drw b (cutL ds none (some b)) := by
  refine ⟨?_, fun x hx => h.2 x (cutL_mem hx)⟩
  have e2 : b = ((b.toNat : Nat) : Int) := by omega
  have hl := h.1
  rw [e2]
  unfold cutL
  rw [HT.sIx_nat, HT.sIx_none, List.length_take, List.length_drop]
  omega
theorem seen_ok {ns : List Int} {a n lg : Int} (ha : 0 ≤ a) (hn : 0 ≤ n ∧ n ≤ 4) (hg : 0 ≤ lg ∧ lg ≤ 8) : Ex (m_law_seen ns a n lg) fun t => Ltr t.1 ∧ Runs t.2.1 4 32 ∧ (0 ≤ t.2.2 ∧ t.2.2 ≤ 20) := by
  unfold m_law_seen
  refine ex_bind (cell_ok ha) fun _ _ => ex_bind (draws_ok (by decide)) fun ds hd => ex_drw hd (by decide) fun x _ => ex_drw hd (by decide) fun y hy => ex_at (by simp only [List.length_cons, List.length_nil]; omega) fun m hm _ => ?_
  have hm : 1 ≤ m ∧ m ≤ 6 := by
    simp only [List.mem_cons, List.not_mem_nil, or_false] at hm
    omega
  refine ex_bind (letters_ok (by omega)) fun ls p => ?_
  have hl : Ltr ls := ⟨by omega, by omega, p.2⟩
  refine ex_bind (cell_ok (by omega)) fun _ _ => ex_bind (runs_ok hl (by omega) (by omega)) fun rs hr => ex_drw hd (by decide) fun z hz => ex_bind (k_ok hz.1) fun k hk => ex_some ⟨hl, ⟨by show rs.length ≤ 4; omega, ?_, fun w hw => (hr.2 w hw).2⟩, hk⟩
  have : sumL rs ≤ rs.length * 8 := sumL_le fun w hw => by have := (hr.2 w hw).1; omega
  have : rs.length ≤ 4 := by omega
  simp only; omega
theorem idx_ok {xs : List Str} {x : Str} (h : x ∈ xs) : ∃ v, idxM xs x = some v := by
  unfold idxM
  cases e : xs.findIdx? fun y => decide (y = x) with
  | none => have := List.findIdx?_eq_none_iff.mp e x h; simp at this
  | some j => exact ⟨_, rfl⟩
abbrev DLine := Str × List Int
structure DLines (ls : List DLine) : Prop where
  few : ls.length ≤ 1000
  len : ∀ l ∈ ls, l.1.length ≤ 1000
/-- a line of a derivation -/
def deriveP (runs : List Str) (k : Int) (known : List Str) : DLine → Prop
  | (z, []) => z ∈ runs
  | (z, [i, j, h, m, n]) => (0 ≤ i ∧ i < known.length ∧ 0 ≤ j ∧ j < known.length ∧ 0 ≤ h ∧ h < known.length) ∧ (k ≤ m ∧ m ≤ (known.getD i.toNat ⟨#[]⟩).length ∧ m ≤ (known.getD h.toNat ⟨#[]⟩).length ∧ k ≤ n ∧ n ≤ (known.getD j.toNat ⟨#[]⟩).length) ∧
      cutS (known.getD i.toNat ⟨#[]⟩) (some (m - k)) (some m) = cutS (known.getD j.toNat ⟨#[]⟩) (some (n - k)) (some n) ∧ cutS (known.getD i.toNat ⟨#[]⟩) (some m) none = cutS (known.getD j.toNat ⟨#[]⟩) (some n) none ∧
      cutS (known.getD h.toNat ⟨#[]⟩) none (some m) = cutS (known.getD i.toNat ⟨#[]⟩) none (some m) ∧ z = cutS (known.getD j.toNat ⟨#[]⟩) none (some n) ++ cutS (known.getD h.toNat ⟨#[]⟩) (some m) none
  | _ => False
def known (ls : List DLine) (i : Nat) : List Str := (ls.take i).map (·.1)
theorem known_get {ls : List DLine} {i a : Nat} (h : a < i) {l : DLine} (g : ls[a]? = some l) : (known ls i).getD a ⟨#[]⟩ = l.1 := by
  unfold known
  rw [List.getD_eq_getElem?_getD, List.getElem?_map, List.getElem?_take_of_lt h, g]; rfl
theorem known_len {ls : List DLine} {i : Nat} (h : i ≤ ls.length) : (known ls i).length = i := by
  unfold known; rw [List.length_map, List.length_take]; omega
theorem known_bnd {ls : List DLine} (h : DLines ls) (i : Nat) : ∀ z ∈ known ls i, z.length ≤ 1000 := by
  intro z hz
  obtain ⟨l, hl, rfl⟩ := List.mem_map.mp hz
  exact h.len l (List.mem_of_mem_take hl)
theorem empty_iff {xs : List Int} : (!(!List.isEmpty xs)) = true ↔ xs = [] := by cases xs <;> simp
theorem five {r : List Int} (h : r.length = 5) : ∃ i j h m n, r = [i, j, h, m, n] := by
  match r, h with
  | [i, j, h, m, n], _ => exact ⟨i, j, h, m, n, rfl⟩
theorem deriveP_no {runs : List Str} {k : Int} {kn : List Str} {z : Str} {r : List Int} (h0 : r ≠ []) (h4 : r.length ≠ 5) : ¬ deriveP runs k kn (z, r) := by
  match r, h0, h4 with
  | [a], _, _ => exact id
  | [a, b], _, _ => exact id
  | [a, b, c], _, _ => exact id
  | [a, b, c, d], _, _ => exact id
  | a :: b :: c :: d :: e :: f :: r, _, _ => exact id
theorem derived_ok {runs : List Str} {k : Int} {ls : List DLine} {a : Nat} {l : DLine} (hk : 0 ≤ k) (h : DLines ls) (g : ls[a]? = some l) : Ex (m_is_derived runs k ls a) fun b => b = true ↔ deriveP runs k (known ls a) l := by
  unfold m_is_derived
  have ha : a < ls.length := (List.getElem?_eq_some_iff.mp g).1
  refine ex_is (atI_nat g) (ex_id ?_)
  obtain ⟨z, r⟩ := l
  refine ex_if (fun hc => ?_) fun hc => ?_
  · have hc := empty_iff.mp hc
    simp only at hc; subst hc
    exact ex_some decide_eq_true_iff
  · have h0 : r ≠ [] := fun e => by subst e; simp at hc
    by_cases h4 : r.length = 5
    · obtain ⟨i, j, hh, m, n, rfl⟩ := five h4
      have kl := known_len (ls := ls) (i := a) (by omega)
      refine ex_is (x := !(((decide ((0 : Int) ≤ i)) && (decide (i < (a : Int)))) && (((decide ((0 : Int) ≤ j)) && (decide (j < (a : Int)))) && ((decide ((0 : Int) ≤ hh)) && (decide (hh < (a : Int))))))) ?_ ?_
      · rw [if_neg (by simp)]
        refine bS (x := [(decide ((0 : Int) ≤ i)) && (decide (i < (a : Int))), (decide ((0 : Int) ≤ j)) && (decide (j < (a : Int))), (decide ((0 : Int) ≤ hh)) && (decide (hh < (a : Int)))]) ?_ ?_
        · show compM _ [i, j, hh] = _
          exact compM_map (fun y => (decide ((0 : Int) ≤ y)) && (decide (y < (a : Int)))) (fun _ _ => rfl) (by simp)
        · simp
      · refine ex_if (fun hc => ex_some ?_) fun hc => ?_
        · constructor
          · intro f; cases f
          · rintro ⟨⟨p1, p2, p3, p4, p5, p6⟩, _⟩
            rw [kl] at p2 p4 p6
            simp [p1, p2, p3, p4, p5, p6] at hc
        · have hb : (0 ≤ i ∧ i < a) ∧ (0 ≤ j ∧ j < (a : Int)) ∧ 0 ≤ hh ∧ hh < (a : Int) := by simpa using hc
          obtain ⟨hi, hj, hhh⟩ := hb
          have look : ∀ x : Int, 0 ≤ x ∧ x < (a : Int) → ∃ l : DLine, l ∈ ls ∧ atI ls x = some l ∧ (known ls a).getD x.toNat ⟨#[]⟩ = l.1 := fun x hx => by
            have hx2 : x.toNat < ls.length := by omega
            exact ⟨_, List.getElem_mem hx2, atI_ok (by omega) hx2, known_get (by omega) (List.getElem?_eq_getElem hx2)⟩
          obtain ⟨li, mi, gi, ei⟩ := look i hi
          obtain ⟨lj, mj, gj, ej⟩ := look j hj
          obtain ⟨lh, mh, gh, eh⟩ := look hh hhh
          refine ex_is (x := [li.1, lj.1, lh.1]) ?_ ?_
          · show compM _ [i, j, hh] = _
            unfold compM
            rw [if_pos (by rw [sizeLine_eq]; simp)]
            simp only [compE, gi, gj, gh, Option.bind_some]
          refine ex_is (x := (li.1, lj.1, lh.1)) rfl (ex_is (x := (m, n)) rfl (ex_id ?_))
          have bi := h.len li mi
          have bj := h.len lj mj
          have bh := h.len lh mh
          simp only
          refine ex_slen (by omega) (ex_slen (by omega) ?_)
          refine ex_is (x := decide (k ≤ m ∧ m ≤ (li.1.length : Int) ∧ m ≤ (lh.1.length : Int) ∧ k ≤ n ∧ n ≤ (lj.1.length : Int))) ?_ ?_
          · have emin : m ≤ (if (lh.1.length : Int) < (li.1.length : Int) then (lh.1.length : Int) else (li.1.length : Int)) ↔ m ≤ (li.1.length : Int) ∧ m ≤ (lh.1.length : Int) := by split <;> omega
            by_cases c1 : k ≤ m ∧ m ≤ (if (lh.1.length : Int) < (li.1.length : Int) then (lh.1.length : Int) else (li.1.length : Int))
            · rw [if_pos (by rw [Bool.and_eq_true, decide_eq_true_iff, decide_eq_true_iff]; exact c1), sLen_ok (by omega)]
              simp only [Option.bind_some]
              congr 1
              rw [Bool.eq_iff_iff, Bool.and_eq_true, decide_eq_true_iff, decide_eq_true_iff, decide_eq_true_iff]
              have := emin.mp c1.2
              exact ⟨fun q => ⟨c1.1, this.1, this.2, q.1, q.2⟩, fun q => ⟨q.2.2.2.1, q.2.2.2.2⟩⟩
            · rw [if_neg (by rw [Bool.and_eq_true, decide_eq_true_iff, decide_eq_true_iff]; exact c1)]
              congr 1
              rw [eq_comm, decide_eq_false_iff_not]
              exact fun q => c1 ⟨q.1, emin.mpr ⟨q.2.1, q.2.2.1⟩⟩
          refine ex_if (fun hc => ex_some ?_) fun hc => ?_
          · constructor
            · intro f; cases f
            · rintro ⟨_, ⟨p1, p2, p3, p4, p5⟩, _⟩
              rw [ei] at p2; rw [eh] at p3; rw [ej] at p5
              simp [p1, p2, p3, p4, p5] at hc
          · have hm : k ≤ m ∧ m ≤ (li.1.length : Int) ∧ m ≤ (lh.1.length : Int) ∧ k ≤ n ∧ n ≤ (lj.1.length : Int) := by simpa using hc
            obtain ⟨m1, m2, m3, n1, n2⟩ := hm
            have c1 := cutS_length li.1 none (some m)
            have c2 := cutS_length lj.1 none (some n)
            have c3 := cutS_length lh.1 (some m) none
            refine ex_scut (by omega) (ex_is (last_ok (by omega)) (ex_scut (by omega) (ex_is (last_ok (by omega)) ?_)))
            rw [cut_lastK ⟨hk, m1, m2⟩, cut_lastK ⟨hk, n1, n2⟩]
            refine ex_is (x := !decide (cutS li.1 (some (m - k)) (some m) = cutS lj.1 (some (n - k)) (some n) ∧ cutS li.1 (some m) none = cutS lj.1 (some n) none)) ?_ ?_
            · by_cases q : cutS li.1 (some (m - k)) (some m) = cutS lj.1 (some (n - k)) (some n)
              · rw [if_neg (by simp [q]), sCut_ok (by omega), sCut_ok (by omega)]; simp [q]
              · rw [if_pos (by simp [q])]; simp [q]
            refine ex_if (fun hc2 => ex_some ?_) fun hc2 => ?_
            · constructor
              · intro f; cases f
              · rintro ⟨_, _, p1, p2, _⟩
                rw [ei, ej] at p1 p2
                simp [p1, p2] at hc2
            have hq : cutS li.1 (some (m - k)) (some m) = cutS lj.1 (some (n - k)) (some n) ∧ cutS li.1 (some m) none = cutS lj.1 (some n) none := by simpa using hc2
            refine ex_scut (by omega) (ex_scut (by omega) ?_)
            refine ex_is (x := decide (cutS lh.1 none (some m) = cutS li.1 none (some m) ∧ z = cutS lj.1 none (some n) ++ cutS lh.1 (some m) none)) ?_ (ex_some ?_)
            · by_cases q : cutS lh.1 none (some m) = cutS li.1 none (some m)
              · rw [if_pos (by simp [q]), sCut_ok (by omega), sCut_ok (by omega)]
                simp only [Option.bind_some]
                rw [sAdd_ok (by omega)]
                simp [q]
              · rw [if_neg (by simpa using q)]; simp [q]
            · rw [decide_eq_true_iff]
              show _ ↔ (_ ∧ _ ∧ _ ∧ _ ∧ _ ∧ _)
              rw [ei, ej, eh, kl]
              exact ⟨fun q => ⟨⟨hi.1, hi.2, hj.1, hj.2, hhh.1, hhh.2⟩, ⟨m1, m2, m3, n1, n2⟩, hq.1, hq.2, q.1, q.2⟩, fun q => q.2.2.2.2⟩
    · refine ex_is (x := true) ?_ (ex_if (fun _ => ex_some ⟨(fun f => nomatch f), fun q => absurd q (deriveP_no h0 h4)⟩) fun f => nomatch f)
      rw [if_pos]
      simp only [Bool.not_eq_true', decide_eq_false_iff_not]
      omega
/-- a derivation of the run -/
def derivP (runs : List Str) (k : Int) (ls : List DLine) (run : Str) : Prop := (∃ h : ls ≠ [], (ls.getLast h).1 = run) ∧ ∀ a l, ls[a]? = some l → deriveP runs k (known ls a) l
theorem judge_ok {runs : List Str} {k : Int} {ls : List DLine} {run : Str} (hk : 0 ≤ k) (h : DLines ls) : Ex (m_judge_derivation runs k ls run) fun b => b = true ↔ derivP runs k ls run := by
  unfold m_judge_derivation
  by_cases h0 : ls = []
  · subst h0
    refine ex_is (x := true) rfl (ex_if (fun _ => ex_some ⟨(fun f => nomatch f), fun ⟨⟨q, _⟩, _⟩ => absurd rfl q⟩) fun f => nomatch f)
  · refine ex_is (x := !decide ((ls.getLast h0).1 = run)) ?_ ?_
    · rw [if_neg (by cases ls <;> simp at h0 ⊢), atI_last h0]; rfl
    refine ex_if (fun hc => ex_some ⟨(fun f => nomatch f), fun ⟨⟨_, q⟩, _⟩ => by simp [q] at hc⟩) fun hc => ?_
    have hr : (ls.getLast h0).1 = run := by simpa using hc
    have few := h.few
    refine ex_rng1 (by omega) (by omega) ?_
    obtain ⟨bs, hb, hl, hs⟩ := compM_idx (f := fun y4 => Option.bind (m_is_derived runs k ls y4) fun v5 => some v5) (xs := (List.range (ls.length : Int).toNat).map fun i : Nat => (i : Int)) (Q := fun i b => ∀ l, ls[i]? = some l → (b = true ↔ deriveP runs k (known ls i) l)) (fun i x hx => by
      obtain ⟨hi, e⟩ := rng_get hx
      have hi : i < ls.length := by simpa using hi
      subst e
      refine ex_bind (derived_ok (runs := runs) (l := ls[i]) hk h (List.getElem?_eq_getElem hi)) fun b q => ex_some fun l hl => ?_
      rw [List.getElem?_eq_getElem hi] at hl; cases hl; exact q) (by simp; omega)
    refine ex_is hb (ex_some ?_)
    rw [List.length_map, List.length_range, Int.toNat_natCast] at hl
    rw [List.all_eq_true]
    constructor
    · intro q
      refine ⟨⟨h0, hr⟩, fun a l g => ?_⟩
      have ha : a < ls.length := (List.getElem?_eq_some_iff.mp g).1
      have hb2 : a < bs.length := by omega
      exact (hs a bs[a] (List.getElem?_eq_getElem hb2) l g).mp (q _ (List.getElem_mem hb2))
    · rintro ⟨_, q⟩ b hbm
      obtain ⟨a, ha, rfl⟩ := List.mem_iff_getElem.mp hbm
      have ha2 : a < ls.length := by omega
      exact (hs a bs[a] (List.getElem?_eq_getElem ha) ls[a] (List.getElem?_eq_getElem ha2)).mpr (q a _ (List.getElem?_eq_getElem ha2))
theorem eqD_nilI (xs : List Int) : eqD (eV eI xs) (eV eI []) = some (decide (xs = [])) := by
  have lay : ∀ ys : List Int, SeqAt.shaped (eV eI ys) = true := fun ys => shaped_of (lay_eV fun _ _ => by simp [PyData.canLay0]) (Nat.le_trans (dep_eV (n := 0) fun z _ => dep_eI z) (by decide))
  unfold eqD
  rw [if_pos ⟨lay xs, lay []⟩]
  cases xs with
  | nil => rfl
  | cons x xs => rfl
theorem is_run_dec {z : Str} (hz : z.length ≤ 1000) : Ex (m_law_is_run z) fun b => b = true ↔ isRun z := by
  unfold m_law_is_run
  rw [if_pos rfl, compM_map (fun y => (sIn y ("abcdefghijklmnopqrstuvwxyz" : Str)).getD false) (fun x hx => ?_) (by simp [chs]; have : z.cps.size = z.length := rfl; omega)]
  · refine ex_id (ex_id (ex_some ?_))
    rw [List.all_eq_true]
    constructor
    · intro q c hc
      have := q _ (List.mem_map_of_mem (List.mem_map_of_mem hc))
      exact alpha_bnd (of_decide_eq_true this)
    · intro h b hb
      obtain ⟨x, hx, rfl⟩ := List.mem_map.mp hb
      obtain ⟨c, hc, rfl⟩ := List.mem_map.mp hx
      have := h c hc
      exact decide_eq_true (alpha_mem c (by omega) this.1)
  · obtain ⟨c, hc, rfl⟩ := List.mem_map.mp hx
    rfl
theorem deriveP_run {runs : List Str} {k : Int} {kn : List Str} {l : DLine} (h1 : ∀ z ∈ runs, isRun z) (h2 : ∀ z ∈ kn, isRun z) (h : deriveP runs k kn l) : isRun l.1 := by
  obtain ⟨z, r⟩ := l
  by_cases h0 : r = []
  · subst h0; exact h1 z h
  by_cases h4 : r.length = 5
  · obtain ⟨i, j, hh, m, n, rfl⟩ := five h4
    obtain ⟨⟨i0, i1, j0, j1, e0, e1⟩, _, _, _, _, e⟩ := h
    have g : ∀ x : Int, 0 ≤ x → x < kn.length → isRun (kn.getD x.toNat ⟨#[]⟩) := fun x a b => by
      rw [List.getD_eq_getElem?_getD, List.getElem?_eq_getElem (by omega)]; exact h2 _ (List.getElem_mem _)
    show isRun z
    rw [e]; exact isRun_app (isRun_cut (g _ j0 j1) _ _) (isRun_cut (g _ e0 e1) _ _)
  · exact absurd h (deriveP_no h0 h4)
theorem derives_ok {runs : List Str} {k : Int} {ls : List DLine} {run : Str} (hk : 0 ≤ k) (h : DLines ls) (hz : (∀ l ∈ ls, isRun l.1) ∨ ∀ z ∈ runs, isRun z) : Ex (m_law_derives runs k ls run) fun b => b = true ↔ derivP runs k ls run := by
  unfold m_law_derives
  have few := h.few
  refine ex_if (fun hc => ex_some ?_) fun hc => ex_id ?_
  · have : ls = [] := by simpa using hc
    subst this
    exact ⟨(fun f => nomatch f), fun ⟨⟨q, _⟩, _⟩ => absurd rfl q⟩
  have h0 : ls ≠ [] := by simpa using hc
  refine ex_loopX (fun i (s : List Str) => s = known ls i ∧ (∀ z ∈ s, isRun z) ∧ ∀ a l, a < i → ls[a]? = some l → deriveP runs k (known ls a) l) (fun s => s = ls.map (·.1) ∧ ∀ a l, ls[a]? = some l → deriveP runs k (known ls a) l) (fun v => v = false ∧ ¬ ∀ a l, ls[a]? = some l → deriveP runs k (known ls a) l) ⟨rfl, (fun z hz => nomatch hz), fun a l ha => absurd ha (Nat.not_lt_zero a)⟩ ?_ ?_ ?_ ?_
  · rintro i l s g ⟨rfl, hkr, hp⟩
    have hi : i < ls.length := (List.getElem?_eq_some_iff.mp g).1
    have kl := known_len (ls := ls) (i := i) (by omega)
    have kb := known_bnd h i
    have hrun := h.len l (List.mem_of_getElem? g)
    have no : ¬ deriveP runs k (known ls i) l → (false = false ∧ ¬ ∀ a l, ls[a]? = some l → deriveP runs k (known ls a) l) := fun q => ⟨rfl, fun all => q (all i l g)⟩
    refine ex_bind (P := fun b => (b = true ∧ ¬ isRun l.1) ∨ (b = false ∧ isRun l.1)) ?_ fun b hb => ?_
    · rw [if_neg (by decide), if_neg (by simp)]
      refine ex_bind (P := fun b => (b = true ∧ ¬ isRun l.1) ∨ (b = false ∧ isRun l.1)) (ex_bind (is_run_dec hrun) fun v hv => ex_some ?_) fun v hv => ex_some hv
      cases v with
      | true => exact .inr ⟨rfl, hv.mp rfl⟩
      | false => exact .inl ⟨rfl, fun q => absurd (hv.mpr q) (by decide)⟩
    rcases hb with ⟨rfl, hn⟩ | ⟨rfl, hrn⟩
    · refine ex_if (fun _ => ex_some (.inr (.inr ⟨_, rfl, no fun q => hn ?_⟩))) fun f => nomatch f
      rcases hz with hz | hz
      · exact hz l (List.mem_of_getElem? g)
      · exact deriveP_run hz hkr q
    refine ex_if (fun f => nomatch f) fun _ => ?_
    refine ex_is (eqD_nilI _) ?_
    refine ex_jn (fun _ => deriveP runs k (known ls i) l) (fun c => ∃ v : Bool, c = .rt v ∧ v = false ∧ ¬ deriveP runs k (known ls i) l) ?_ ?_ ?_
    · obtain ⟨z, r⟩ := l
      refine ex_if (fun hc => ?_) fun hc => ?_
      · have hc : r = [] := by simpa using hc
        subst hc
        refine ex_if (fun hm => ex_some (.inr ⟨_, rfl, false, rfl, rfl, ?_⟩)) fun hm => ex_some (.inl ⟨_, rfl, ?_⟩)
        · have : z ∉ runs := by simpa using hm
          exact this
        · have : z ∈ runs := by simpa using hm
          exact this
      · have h0r : r ≠ [] := by simpa using hc
        by_cases h4 : r.length = 5
        · obtain ⟨a, b, c, m, n, rfl⟩ := five h4
          refine ex_is (x := !(decide (0 ≤ a) && (decide (0 ≤ b) && (decide (0 ≤ c) && (decide (0 ≤ m) && decide (0 ≤ n)))))) ?_ ?_
          · rw [if_neg (by simp)]
            refine bS (x := [decide (0 ≤ a), decide (0 ≤ b), decide (0 ≤ c), decide (0 ≤ m), decide (0 ≤ n)]) ?_ (by simp)
            exact compM_map (fun y => decide ((0 : Int) ≤ y)) (fun y _ => by simp [m_law_is_integer]) (by simp)
          refine ex_if (fun hc => ex_some (.inr ⟨_, rfl, false, rfl, rfl, ?_⟩)) fun hc => ?_
          · rintro ⟨⟨p1, _, p3, _, p5, _⟩, ⟨q1, _, _, q3, _⟩, _⟩
            have : 0 ≤ m := by omega
            have : 0 ≤ n := by omega
            simp [*] at hc
          · have hnn : 0 ≤ a ∧ 0 ≤ b ∧ 0 ≤ c ∧ 0 ≤ m ∧ 0 ≤ n := by simpa using hc
            obtain ⟨a0, b0, c0, m0, n0⟩ := hnn
            refine ex_is (x := a) rfl (ex_is (x := b) rfl (ex_is (x := c) rfl (ex_is (x := m) rfl (ex_is (x := n) rfl ?_))))
            refine ex_if (fun hc => ex_some (.inr ⟨_, rfl, false, rfl, rfl, ?_⟩)) fun hc => ?_
            · rintro ⟨⟨_, p2, _, p4, _, p6⟩, _⟩
              simp at hc; omega
            · have hab : a < (known ls i).length ∧ b < (known ls i).length ∧ c < (known ls i).length := by simpa using hc
              obtain ⟨ha, hb, hc3⟩ := hab
              have look : ∀ x : Int, 0 ≤ x → x < (known ls i).length → atI (known ls i) x = some ((known ls i).getD x.toNat ⟨#[]⟩) ∧ ((known ls i).getD x.toNat ⟨#[]⟩).length ≤ 1000 := fun x h0 h1 => by
                have e : (known ls i).getD x.toNat ⟨#[]⟩ = (known ls i)[x.toNat]'(by omega) := by rw [List.getD_eq_getElem?_getD, List.getElem?_eq_getElem (by omega)]; rfl
                exact ⟨by rw [atI_ok ⟨h0, h1⟩, e], by rw [e]; exact kb _ (List.getElem_mem _)⟩
              obtain ⟨ga, ma⟩ := look a a0 ha
              obtain ⟨gb, mb⟩ := look b b0 hb
              obtain ⟨gc, mc⟩ := look c c0 hc3
              generalize hA : (known ls i).getD a.toNat ⟨#[]⟩ = A at ga ma
              generalize hB : (known ls i).getD b.toNat ⟨#[]⟩ = Bz at gb mb
              generalize hC : (known ls i).getD c.toNat ⟨#[]⟩ = Cz at gc mc
              have LP : deriveP runs k (known ls i) (z, [a, b, c, m, n]) ↔ (k ≤ m ∧ m ≤ A.length ∧ m ≤ Cz.length ∧ k ≤ n ∧ n ≤ Bz.length) ∧ cutS A (some (m - k)) (some m) = cutS Bz (some (n - k)) (some n) ∧ cutS A (some m) none = cutS Bz (some n) none ∧ cutS Cz none (some m) = cutS A none (some m) ∧ z = cutS Bz none (some n) ++ cutS Cz (some m) none := by
                show (_ ∧ _ ∧ _ ∧ _ ∧ _ ∧ _) ↔ _
                rw [hA, hB, hC]
                exact ⟨fun q => q.2, fun q => ⟨⟨a0, ha, b0, hb, c0, hc3⟩, q⟩⟩
              refine ex_is (x := !decide (k ≤ m ∧ m ≤ (A.length : Int) ∧ m ≤ (Cz.length : Int) ∧ k ≤ n ∧ n ≤ (Bz.length : Int))) ?_ ?_
              · by_cases c1 : m < k
                · rw [if_pos (by simp [c1])]; simp; omega
                rw [if_neg (by simpa using c1)]
                by_cases c2 : n < k
                · rw [if_pos (by simp [c2])]; simp; omega
                rw [if_neg (by simpa using c2), ga]
                simp only [Option.bind_some]
                rw [sLen_ok (by omega)]
                simp only [Option.bind_some]
                by_cases c3 : (A.length : Int) < m
                · rw [if_pos (by simp [c3])]; simp; omega
                rw [if_neg (by simpa using c3), gc]
                simp only [Option.bind_some]
                rw [sLen_ok (by omega)]
                simp only [Option.bind_some]
                by_cases c4 : (Cz.length : Int) < m
                · rw [if_pos (by simp [c4])]; simp; omega
                rw [if_neg (by simpa using c4), gb]
                simp only [Option.bind_some]
                rw [sLen_ok (by omega)]
                simp only [Option.bind_some]
                congr 1
                rw [Bool.eq_iff_iff]
                simp
                omega
              refine ex_if (fun hc => ex_some (.inr ⟨_, rfl, false, rfl, rfl, fun q => ?_⟩)) fun hc => ?_
              · have q := (LP.mp q).1
                simp [q] at hc
              have hm : k ≤ m ∧ m ≤ (A.length : Int) ∧ m ≤ (Cz.length : Int) ∧ k ≤ n ∧ n ≤ (Bz.length : Int) := by simpa using hc
              refine ex_is ga (ex_scut (by omega) (ex_is gb (ex_scut (by omega) ?_)))
              refine ex_is (x := !decide (cutS A (some (m - k)) (some m) = cutS Bz (some (n - k)) (some n) ∧ cutS A (some m) none = cutS Bz (some n) none ∧ cutS Cz none (some m) = cutS A none (some m))) ?_ ?_
              · by_cases q : cutS A (some (m - k)) (some m) = cutS Bz (some (n - k)) (some n)
                · rw [if_neg (by simp [q]), ga]
                  simp only [Option.bind_some]
                  rw [sCut_ok (by omega), gb]
                  simp only [Option.bind_some]
                  rw [sCut_ok (by omega)]
                  simp only [Option.bind_some]
                  by_cases q2 : cutS A (some m) none = cutS Bz (some n) none
                  · rw [if_neg (by simp [q2]), gc]
                    simp only [Option.bind_some]
                    rw [sCut_ok (by omega)]
                    simp only [Option.bind_some]
                    rw [sCut_ok (by omega)]
                    simp [q, q2]
                  · rw [if_pos (by simp [q2])]; simp [q2]
                · rw [if_pos (by simp [q])]; simp [q]
              refine ex_if (fun hc => ex_some (.inr ⟨_, rfl, false, rfl, rfl, fun q => ?_⟩)) fun hc => ?_
              · have q := LP.mp q
                simp [q.2.1, q.2.2.1, q.2.2.2.1] at hc
              have hq : cutS A (some (m - k)) (some m) = cutS Bz (some (n - k)) (some n) ∧ cutS A (some m) none = cutS Bz (some n) none ∧ cutS Cz none (some m) = cutS A none (some m) := by simpa using hc
              have c1 := cutS_length Bz none (some n)
              have c2 := cutS_length Cz (some m) none
              refine ex_is gb (ex_scut (by omega) (ex_is gc (ex_scut (by omega) (ex_sadd (by omega) ?_))))
              refine ex_if (fun hz => ex_some (.inr ⟨_, rfl, false, rfl, rfl, fun q => ?_⟩)) fun hz => ex_some (.inl ⟨_, rfl, LP.mpr ⟨hm, hq.1, hq.2.1, hq.2.2, ?_⟩⟩)
              · have q := (LP.mp q).2.2.2.2
                simp [q] at hz
              · simpa using hz
        · refine ex_is (x := true) ?_ (ex_if (fun _ => ex_some (.inr ⟨_, rfl, false, rfl, rfl, deriveP_no h0r h4⟩)) fun f => nomatch f)
          rw [if_pos]
          simp only [Bool.not_eq_true', decide_eq_false_iff_not]
          omega
    · rintro - hl
      refine ex_app (by rw [kl]; omega) (ex_some (.inl ⟨_, rfl, ?_, fun z hz' => ?_, fun a l' ha g' => ?_⟩))
      · unfold known; rw [List.take_add_one, g, List.map_append]; rfl
      · rcases List.mem_append.mp hz' with q | q
        · exact hkr z q
        · rw [List.mem_singleton] at q; subst q; exact hrn
      · rcases Nat.lt_succ_iff_lt_or_eq.mp ha with q | q
        · exact hp a l' q g'
        · subst q; rw [g] at g'; cases g'; exact hl
    · rintro c ⟨v, rfl, rfl, hn⟩
      exact ex_some (.inr (.inr ⟨_, rfl, no hn⟩))
  · rintro s ⟨rfl, -, hp⟩
    exact ⟨by unfold known; rw [List.take_length], fun a l g => hp a l (List.getElem?_eq_some_iff.mp g).1 g⟩
  · rintro s ⟨rfl, hp⟩
    have hne : ls.map (·.1) ≠ [] := by simpa using h0
    refine ex_is (atI_last hne) (ex_some ?_)
    rw [decide_eq_true_iff, List.getLast_map]
    exact ⟨fun e => ⟨⟨h0, e⟩, hp⟩, fun ⟨⟨_, e⟩, _⟩ => e⟩
  · rintro v ⟨rfl, hn⟩
    exact ex_some ⟨(fun f => nomatch f), fun q => absurd q.2 hn⟩
def Rsn (b : Int) (r : List Int) : Prop := r = [] ∨ ∃ i j h m n, r = [i, j, h, m, n] ∧ (0 ≤ i ∧ i < b) ∧ (0 ≤ j ∧ j < b) ∧ (0 ≤ h ∧ h < b)
structure KL (n : Nat) (ls : List DLine) : Prop where
  few : ls.length ≤ n
  each : ∀ (i : Nat) (l : DLine), ls[i]? = some l → (l.1.length ≤ 400 ∧ isRun l.1) ∧ Rsn i l.2
theorem KL.mono {n m : Nat} {ls : List DLine} (h : KL n ls) (q : n ≤ m) : KL m ls := ⟨Nat.le_trans h.few q, h.each⟩
theorem KL.app {n : Nat} {ls : List DLine} {l : DLine} (h : KL n ls) (hl : l.1.length ≤ 400 ∧ isRun l.1) (hr : Rsn ls.length l.2) : KL (n + 1) (ls ++ [l]) := by
  refine ⟨by have := h.few; simp; omega, fun i l' g => ?_⟩
  rw [List.getElem?_append] at g
  split at g
  · exact h.each i l' g
  · rename_i hi
    have e : i - ls.length = 0 := by
      have := (List.getElem?_eq_some_iff.mp g).1
      simp at this; omega
    rw [e] at g
    cases g
    have : i = ls.length := by omega
    subst this
    exact ⟨hl, hr⟩
theorem KL.mem {n : Nat} {ls : List DLine} (h : KL n ls) {l : DLine} (m : l ∈ ls) : (l.1.length ≤ 400 ∧ isRun l.1) ∧ Rsn ls.length l.2 := by
  obtain ⟨i, hi, rfl⟩ := List.mem_iff_getElem.mp m
  obtain ⟨q, r⟩ := h.each i _ (List.getElem?_eq_getElem hi)
  refine ⟨q, ?_⟩
  rcases r with r | ⟨a, b, c, m, n, e, h1, h2, h3⟩
  · exact .inl r
  · exact .inr ⟨a, b, c, m, n, e, by omega, by omega, by omega⟩
theorem KL.dl {n : Nat} {ls : List DLine} (h : KL n ls) (hn : n ≤ 1000) : DLines ls := ⟨Nat.le_trans h.few hn, fun l m => by have := (h.mem m).1.1; omega⟩
theorem KL.cut {n : Nat} {ls : List DLine} (h : KL n ls) (x : Int) : KL n (cutL ls none (some x)) := by
  refine ⟨Nat.le_trans (cutL_len _ _ _) h.few, fun i l g => h.each i l ?_⟩
  unfold cutL at g
  rw [HT.sIx_none, List.drop_zero] at g
  rw [List.getElem?_take] at g
  split at g
  · exact g
  · cases g
theorem KL.nil (n : Nat) : KL n [] := ⟨Nat.zero_le _, fun i l g => by simp at g⟩
theorem upd5 {a b c m n x p : Int} (hp : 0 ≤ p ∧ p < 5) : cutL [a, b, c, m, n] none (some p) ++ [x] ++ cutL [a, b, c, m, n] (some (p + 1)) none = [if p = 0 then x else a, if p = 1 then x else b, if p = 2 then x else c, if p = 3 then x else m, if p = 4 then x else n] := by
  have : p = 0 ∨ p = 1 ∨ p = 2 ∨ p = 3 ∨ p = 4 := by omega
  rcases this with rfl | rfl | rfl | rfl | rfl <;> rfl
theorem near_ok {ls : List DLine} {k a o : Int} {ds : List Int} {n : Nat} (hL : KL n ls) (hn : n ≤ 100) (ha : 0 ≤ a ∧ a < (ls.length : Int)) (ho : 0 ≤ o ∧ o < (ls.length : Int)) (hd : Drw 2 ds) : Ex (m_law_near_line ls k a o ds) fun l => l.1.length ≤ 1000 ∧ isRun l.1 := by
  unfold m_law_near_line
  refine ex_at ha fun la mla gla => ex_id ?_
  have hla := hL.mem mla
  refine ex_bind (P := fun b => b = false → la.2.length = 5) (ex_if (fun _ => ex_some fun f => nomatch f) fun hc => ex_drw hd (by decide) fun _ _ => ex_some fun _ => ?_) fun b hb => ?_
  · have : (la.2.length : Int) = 5 := by simpa using hc
    omega
  refine ex_jn1 (fun r : List Int => ∃ i j h m n, r = [i, j, h, m, n] ∧ (0 ≤ j ∧ j < (ls.length : Int)) ∧ (0 ≤ h ∧ h < (ls.length : Int))) (ex_if (fun _ => ?_) fun hf => ?_) ?_
  · refine ex_drw hd (by decide) fun d0 _ => ex_id (ex_drw hd (by decide) fun d1 _ => ex_at (by simp only [List.length_cons, List.length_nil]; omega) fun x mx _ => ex_at ho fun lo mlo _ => ?_)
    have hlo := hL.mem mlo
    refine ex_slen (by omega) (ex_at ha fun la' mla' _ => ex_slen (by have := hL.mem mla'; omega) (ex_drw hd (by decide) fun d0' _ => ex_at (by simp only [List.length_cons, List.length_nil]; omega) fun y _ _ => ex_id (ex_some ⟨_, rfl, _, _, _, _, _, rfl, ho, ?_⟩)))
    simp only [List.mem_cons, List.not_mem_nil, or_false] at mx
    rcases mx with rfl | rfl
    · exact ha
    · exact ho
  · rcases hla.2 with e | ⟨i, j, h, m, n, e, _, h2, h3⟩
    · have := hb hf
      rw [e] at this; simp at this
    · exact ex_some ⟨_, rfl, i, j, h, m, n, e, h2, h3⟩
  rintro _ ⟨i, j, h, m, n', rfl, hj, hh⟩
  refine ex_drw hd (by decide) fun d0 _ => ex_id (ex_drw hd (by decide) fun d1 _ => ex_mod (by omega) ?_)
  have hp : 0 ≤ d0 / 8 % 5 ∧ d0 / 8 % 5 < 5 := by omega
  generalize d0 / 8 % 5 = p at hp
  have hv : 0 ≤ d1 / 8 % (ls.length : Int) ∧ d1 / 8 % (ls.length : Int) < ls.length := ⟨Int.emod_nonneg _ (by omega), Int.emod_lt_of_pos _ (by omega)⟩
  generalize d1 / 8 % (ls.length : Int) = v at hv
  refine ex_jn1 (fun x : Int => p ≤ 2 → 0 ≤ x ∧ x < (ls.length : Int)) (ex_if (fun hc => ?_) fun _ => ex_some ⟨_, rfl, fun _ => hv⟩) fun x hx => ?_
  · have hc := of_decide_eq_true hc
    exact ex_drw hd (by decide) fun _ _ => ex_id (ex_some ⟨_, rfl, fun q => by omega⟩)
  have c1 := cutL_len [i, j, h, m, n'] none (some p)
  have c2 := cutL_len [i, j, h, m, n'] (some (p + 1)) none
  simp only [List.length_cons, List.length_nil] at c1 c2
  refine ex_lcat (by simp; omega) (ex_lcat (by simp only [List.length_append, List.length_singleton]; omega) ?_)
  rw [upd5 hp]
  refine ex_is (x := if p = 1 then x else j) rfl ?_
  have h1 : 0 ≤ (if p = 1 then x else j) ∧ (if p = 1 then x else j) < (ls.length : Int) := by
    split
    · exact hx (by omega)
    · exact hj
  have h2 : 0 ≤ (if p = 2 then x else h) ∧ (if p = 2 then x else h) < (ls.length : Int) := by
    split
    · exact hx (by omega)
    · exact hh
  refine ex_at h1 fun l1 m1 _ => ex_is (x := if p = 4 then x else n') rfl ?_
  have q1 := (hL.mem m1).1
  generalize (if p = 4 then x else n') = w
  have c3 := cutS_length l1.1 none (some (if w > 0 then w else 0))
  refine ex_scut (by omega) (ex_is (x := if p = 2 then x else h) rfl (ex_at h2 fun l2 m2 _ => ex_is (x := if p = 3 then x else m) rfl ?_))
  have q2 := (hL.mem m2).1
  generalize (if p = 3 then x else m) = u
  have c4 := cutS_length l2.1 (some u) none
  exact ex_scut (by omega) (ex_sadd (by omega) (ex_some ⟨by simp only [len_app]; omega, isRun_app (isRun_cut q1.2 _ _) (isRun_cut q2.2 _ _)⟩))
theorem told_ok {rs : List Str} {k : Int} {ls : List DLine} {run : Str} (hk : 0 ≤ k) (h : DLines ls) (hr : ∀ z ∈ rs, isRun z) : m_law_is_told rs k ls run = some true := by
  obtain ⟨b1, e1, s1⟩ := judge_ok (runs := rs) (run := run) hk h
  obtain ⟨b2, e2, s2⟩ := derives_ok (runs := rs) (run := run) hk h (.inr hr)
  have : b1 = b2 := by rw [Bool.eq_iff_iff]; exact s1.trans s2.symm
  subst this
  unfold m_law_is_told
  refine bS e1 ?_
  rw [if_pos rfl]
  exact bS (bS e2 rfl) (by simp)
theorem seen_any_ok {ns : List Int} {a n lg : Int} (ha : 0 ≤ a) (hn : 0 ≤ n ∧ n ≤ 4) (hg : 0 ≤ lg ∧ lg ≤ 8) : Ex (m_law_seen_any ns a n lg) fun t => Ltr t.1 ∧ Runs t.2.1 80 200 ∧ (0 ≤ t.2.2 ∧ t.2.2 ≤ 20) := by
  unfold m_law_seen_any
  refine ex_bind (seen_ok ha hn hg) fun t ⟨hl, hr, hk⟩ => ex_bind (cell_ok ha) fun _ _ => ex_bind (draws_ok (by decide)) fun ds hd => ex_drw hd (by decide) fun _ _ => ex_if (fun _ => ?_) fun _ => ex_some ⟨hl, ⟨by have := hr.num; omega, Nat.le_trans hr.all (by decide), hr.run⟩, hk⟩
  exact ex_bind (cell_ok (by omega)) fun _ _ => ex_bind (long_ok hl) fun rs h => ex_some ⟨hl, h, hk⟩
theorem drawn_ok {kn : List Str} {k : Int} {ds : List Int} (h0 : 0 < kn.length) (hn : kn.length ≤ 32) (hl : ∀ z ∈ kn, z.length ≤ 400 ∧ isRun z) (hk : 0 ≤ k ∧ k ≤ 20) (hd : Drw 3 ds) : Ex (m_law_drawn_line kn k ds) fun o => ∀ l, o = some l → (l.1.length ≤ 800 ∧ isRun l.1) ∧ Rsn kn.length l.2 := by
  unfold m_law_drawn_line
  refine ex_drw hd (by decide) fun d0 _ => ex_mod (by omega) ?_
  have hi0 : 0 ≤ d0 % (kn.length : Int) ∧ d0 % (kn.length : Int) < kn.length := ⟨Int.emod_nonneg _ (by omega), Int.emod_lt_of_pos _ (by omega)⟩
  generalize d0 % (kn.length : Int) = i0 at hi0
  refine ex_at hi0 fun first mf gf => ?_
  have lf := (hl first mf).1
  refine ex_id (ex_rng1 (by omega) (by omega) ?_)
  let I : (Int × Int × Int) → Prop := fun p => (0 ≤ p.1 ∧ p.1 < (kn.length : Int)) ∧ p.2.1 ≤ (first.length : Int)
  refine ex_loop (fun i (s : List (Int × Int × Int)) => s.length ≤ i * 401 ∧ i ≤ kn.length ∧ ∀ p ∈ s, I p) ⟨Nat.zero_le _, Nat.zero_le _, fun p hp => by cases hp⟩ ?_ ?_
  · rintro i y s hy ⟨p1, p2, p3⟩
    obtain ⟨hi, e⟩ := rng_get hy
    rw [Int.toNat_natCast] at hi
    subst e
    refine ex_at (by omega) fun z mz gz => ?_
    have lz := (hl z mz).1
    rw [Int.toNat_natCast] at gz
    have hi16 : i * 401 ≤ 32 * 401 := Nat.mul_le_mul_right _ (by omega)
    refine ex_slen (by omega) (ex_rng2 (by omega) ?_)
    refine ex_loop (fun a (t : List (Int × Int × Int)) => t.length ≤ s.length + a ∧ a ≤ 401 ∧ ∀ p ∈ t, I p) ⟨by omega, Nat.zero_le _, p3⟩ ?_ ?_
    · rintro a x t hx ⟨q1, q2, q3⟩
      obtain ⟨ha, e⟩ := rng_get hx
      subst e
      have ha2 : a < 401 := by omega
      have ez := atI_nat gz
      refine ex_slen (by omega) (ex_is ez (ex_slen (by omega) (ex_id ?_)))
      have hm : (first.length : Int) - (z.length : Int) + (k + (a : Int)) ≤ first.length := by omega
      generalize (first.length : Int) - (z.length : Int) + (k + (a : Int)) = m at hm
      refine ex_bind (P := fun _ => True) ?_ fun b _ => ?_
      · refine ex_if (fun _ => ?_) fun _ => ex_some trivial
        refine ex_is ez (ex_scut (by omega) (ex_scut (by omega) ?_))
        refine ex_bind (P := fun _ => True) (ex_if (fun _ => ?_) fun _ => ex_some trivial) fun _ _ => ex_some trivial
        exact ex_is ez (ex_scut (by omega) (ex_scut (by omega) (ex_some trivial)))
      refine ex_jn1 (fun t' => t'.length ≤ t.length + 1 ∧ ∀ p ∈ t', I p) (ex_if (fun _ => ex_app (by omega) (ex_some ⟨_, rfl, by simp, fun p hp => ?_⟩)) fun _ => ex_some ⟨_, rfl, by omega, q3⟩) fun t' ht' => ex_some ⟨_, rfl, by have := ht'.1; omega, by omega, ht'.2⟩
      rcases List.mem_append.mp hp with q | q
      · exact q3 p q
      · rw [List.mem_singleton] at q; subst q
        exact ⟨⟨by simp only; omega, by simp only; omega⟩, hm⟩
    · rintro t ⟨q1, q2, q3⟩
      exact ex_some ⟨_, rfl, by rw [Nat.succ_mul]; omega, hi, q3⟩
  rintro s ⟨p1, p2, p3⟩
  have s1 : s.length ≤ 32 * 401 := Nat.le_trans p1 (Nat.mul_le_mul_right _ (by simp; omega))
  have look : ∀ x : Int, 0 ≤ x ∧ x < (kn.length : Int) → atI kn x = some (kn.getD x.toNat ⟨#[]⟩) ∧ kn.getD x.toNat ⟨#[]⟩ ∈ kn := fun x hx => by
    have hx2 : x.toNat < kn.length := by omega
    have e : kn.getD x.toNat ⟨#[]⟩ = kn[x.toNat] := by rw [List.getD_eq_getElem?_getD, List.getElem?_eq_getElem hx2]; rfl
    exact ⟨by rw [atI_ok hx hx2, e], by rw [e]; exact List.getElem_mem _⟩
  refine ex_is (compIM_filter (fun p => !decide (cutS (kn.getD p.1.toNat ⟨#[]⟩) none (some p.2.2) = cutS first none (some p.2.1))) (fun p => p) (fun p hp => ?_) (fun _ _ _ => rfl) (by omega)) ?_
  · obtain ⟨e, m⟩ := look p.1 (p3 p hp).1
    have := (hl _ m).1
    rw [e]
    simp only [Option.bind_some]
    rw [sCut_ok (by omega)]
    simp only [Option.bind_some]
    rw [sCut_ok (by omega)]; rfl
  rw [List.map_id']
  have hnew : ∀ p ∈ s.filter (fun p => !decide (cutS (kn.getD p.1.toNat ⟨#[]⟩) none (some p.2.2) = cutS first none (some p.2.1))), I p := fun p hp => p3 p (List.mem_filter.mp hp).1
  generalize s.filter (fun p => !decide (cutS (kn.getD p.1.toNat ⟨#[]⟩) none (some p.2.2) = cutS first none (some p.2.1))) = nw at hnew
  refine ex_bind (P := fun _ => True) (ex_if (fun _ => ex_drw hd (by decide) fun _ _ => ex_some trivial) fun _ => ex_some trivial) fun b _ => ?_
  refine ex_jn1 (fun s' : List (Int × Int × Int) => ∀ p ∈ s', I p) (ex_if (fun _ => ex_id (ex_some ⟨_, rfl, hnew⟩)) fun _ => ex_some ⟨_, rfl, p3⟩) fun s' ps => ?_
  refine ex_if (fun _ => ex_some fun l e => by cases e) fun hc => ?_
  have hs : 0 < s'.length := by have := of_decide_eq_false hc; omega
  refine ex_drw hd (by decide) fun d1 _ => ex_mod (by omega) (ex_at ⟨Int.emod_nonneg _ (by omega), Int.emod_lt_of_pos _ (by omega)⟩ fun t mt _ => ex_id ?_)
  obtain ⟨hj, hm⟩ := ps t mt
  refine ex_rng1 (by omega) (by omega) ?_
  refine ex_is (compIM_filter (fun h => decide (t.2.1 ≤ ((kn.getD h.toNat ⟨#[]⟩).length : Int)) && decide (cutS (kn.getD h.toNat ⟨#[]⟩) none (some t.2.1) = cutS first none (some t.2.1))) (fun h => h) (fun x hx => ?_) (fun _ _ _ => rfl) (by simp; omega)) ?_
  · obtain ⟨b, hb, rfl⟩ := List.mem_map.mp hx
    have hb := List.mem_range.mp hb
    obtain ⟨e, m⟩ := look (b : Int) (by omega)
    have := (hl _ m).1
    rw [e]
    simp only [Option.bind_some]
    rw [sLen_ok (by omega)]
    simp only [Option.bind_some]
    generalize kn.getD (b : Int).toNat ⟨#[]⟩ = Z at this
    by_cases q : t.2.1 ≤ (Z.length : Int)
    · rw [if_pos (decide_eq_true q), sCut_ok (by omega)]
      simp only [Option.bind_some]
      rw [sCut_ok (by omega)]; simp [q]
    · rw [if_neg (by simpa using q)]; simp [q]
  rw [List.map_id']
  have hw : ∀ h ∈ ((List.range (kn.length : Int).toNat).map fun i : Nat => (i : Int)).filter (fun h => decide (t.2.1 ≤ ((kn.getD h.toNat ⟨#[]⟩).length : Int)) && decide (cutS (kn.getD h.toNat ⟨#[]⟩) none (some t.2.1) = cutS first none (some t.2.1))), 0 ≤ h ∧ h < (kn.length : Int) := fun h hh => by
    obtain ⟨b, hb, rfl⟩ := List.mem_map.mp (List.mem_filter.mp hh).1
    have hb := List.mem_range.mp hb
    omega
  have hw0 : i0 ∈ ((List.range (kn.length : Int).toNat).map fun i : Nat => (i : Int)).filter (fun h => decide (t.2.1 ≤ ((kn.getD h.toNat ⟨#[]⟩).length : Int)) && decide (cutS (kn.getD h.toNat ⟨#[]⟩) none (some t.2.1) = cutS first none (some t.2.1))) := by
    refine List.mem_filter.mpr ⟨List.mem_map.mpr ⟨i0.toNat, List.mem_range.mpr (by omega), by omega⟩, ?_⟩
    have e : kn.getD i0.toNat ⟨#[]⟩ = first := by rw [List.getD_eq_getElem?_getD, gf]; rfl
    rw [e]; simp [hm]
  generalize ((List.range (kn.length : Int).toNat).map fun i : Nat => (i : Int)).filter (fun h => decide (t.2.1 ≤ ((kn.getD h.toNat ⟨#[]⟩).length : Int)) && decide (cutS (kn.getD h.toNat ⟨#[]⟩) none (some t.2.1) = cutS first none (some t.2.1))) = ways at hw hw0
  have hw1 : 0 < ways.length := List.length_pos_iff.mpr fun e => by rw [e] at hw0; cases hw0
  refine ex_drw hd (by decide) fun d2 _ => ex_mod (by omega) (ex_at ⟨Int.emod_nonneg _ (by omega), Int.emod_lt_of_pos _ (by omega)⟩ fun h mh _ => ?_)
  have hh := hw h mh
  refine ex_at hj fun z mz _ => ?_
  have lz := hl z mz
  have c1 := cutS_length z none (some t.2.2)
  refine ex_scut (by omega) (ex_at hh fun z2 mz2 _ => ?_)
  have lz2 := hl z2 mz2
  have c2 := cutS_length z2 (some t.2.1) none
  refine ex_scut (by omega) (ex_sadd (by omega) (ex_some fun l e => ?_))
  cases e
  exact ⟨⟨by rw [len_app]; omega, isRun_app (isRun_cut lz.2 _ _) (isRun_cut lz2.2 _ _)⟩, .inr ⟨_, _, _, _, _, rfl, hi0, hj, hh⟩⟩
theorem own_ok {rs : List Str} {k : Int} {ds : List Int} {most : Int} (hn : rs.length ≤ 12) (hl : ∀ z ∈ rs, z.length ≤ 400 ∧ isRun z) (hk : 0 ≤ k ∧ k ≤ 20) (hd : Drw 24 ds) (hm : 0 ≤ most ∧ most ≤ 400) : Ex (m_law_own_lines rs k ds 8 most) (KL (rs.length + 8)) := by
  unfold m_law_own_lines
  refine ex_compF (fun z => (z, ([] : List Int))) (fun _ _ => rfl) (by omega) (ex_rng1 (by decide) (by decide) ?_)
  refine ex_loop (fun i (s : List (Str × List Int)) => KL (rs.length + i) s ∧ i ≤ 8) ⟨⟨by simp, fun i l g => ?_⟩, Nat.zero_le _⟩ ?_ ?_
  · obtain ⟨z, hz, rfl⟩ := List.mem_map.mp (List.mem_of_getElem? g)
    exact ⟨hl z hz, .inl rfl⟩
  · rintro i y ls hy ⟨p2, p3⟩
    obtain ⟨hi, e⟩ := rng_get hy
    have hi : i < 8 := hi
    subst e
    have few := p2.few
    refine ex_jn1 (fun s : List (Str × List Int) => KL (rs.length + (i + 1)) s) (ex_if (fun hc => ?_) fun _ => ex_some ⟨_, rfl, p2.mono (by omega)⟩) fun s hs => ex_some ⟨_, rfl, hs, hi⟩
    have h0 : 0 < (ls.map (·.1)).length := by
      have := of_decide_eq_true hc
      rw [List.length_map]; omega
    have d3 : Drw 3 (cutL ds (some (3 * (i : Int))) (some (3 * (i : Int) + 3))) := by
      have := drw_cut hd (a := 3 * (i : Int)) (b := 3 * (i : Int) + 3) (by omega)
      rw [show (3 * (i : Int) + 3) - 3 * (i : Int) = 3 by omega] at this; exact this
    refine ex_compF (fun l : DLine => l.1) (fun _ _ => rfl) (by omega) ?_
    refine ex_bind (drawn_ok h0 (by rw [List.length_map]; omega) (fun z hz => by obtain ⟨l, hl', rfl⟩ := List.mem_map.mp hz; exact (p2.mem hl').1) hk d3) fun o ho => ?_
    refine ex_bind (P := fun b => b = true → ∃ l, o = some l ∧ (l.1.length : Int) ≤ most) (ex_if (fun hc => ?_) fun _ => ex_some fun f => nomatch f) fun b hb => ?_
    · cases o with
      | none => simp at hc
      | some l => exact ex_id (ex_slen (by have := (ho l rfl).1.1; omega) (ex_some fun h => ⟨l, rfl, of_decide_eq_true h⟩))
    refine ex_jn1 (fun s : List (Str × List Int) => KL (rs.length + (i + 1)) s) (ex_if (fun hc => ?_) fun _ => ex_some ⟨_, rfl, p2.mono (by omega)⟩) fun s hs => ex_some ⟨_, rfl, hs⟩
    obtain ⟨l, rfl, hlm⟩ := hb hc
    obtain ⟨h1, h2⟩ := ho _ rfl
    rw [List.length_map] at h2
    exact ex_id (ex_app (by omega) (ex_some ⟨_, rfl, p2.app ⟨by omega, h1.2⟩ h2⟩))
  · rintro ls ⟨p2, p3⟩
    exact ex_some p2
theorem number_ok {ls : List DLine} {a k : Int} {ds : List Int} {n : Nat} {l : DLine} (hL : KL n ls) (ha : 0 ≤ a ∧ a < (ls.length : Int)) (g : ls[a.toNat]? = some l) (h5 : l.2.length = 5) (hd : Drw 2 ds) : Ex (m_law_spoilt_number ls a k ds) fun l => l.1.length ≤ 1000 := by
  unfold m_law_spoilt_number
  refine ex_at ha fun l1 m1 g1 => ex_id ?_
  rw [g] at g1; cases g1
  have q1 := (hL.mem m1).1
  refine ex_drw hd (by decide) fun d0 _ => ex_id (ex_at (by omega) fun x _ _ => ex_at ha fun l2 m2 _ => ?_)
  have q2 := (hL.mem m2).1
  refine ex_slen (by omega) (ex_id (ex_at ha fun l3 m3 _ => ex_drw hd (by decide) fun d1 _ => ex_at (by simp only [List.length_cons, List.length_nil]; omega) fun y _ _ => ?_))
  have q3 := (hL.mem m3).1
  have c1 := cutL_len l.2 none (some (d0 % 5))
  have c2 := cutL_len l.2 (some (d0 % 5 + 1)) none
  exact ex_lcat (by simp; omega) (ex_lcat (by simp only [List.length_append, List.length_singleton]; omega) (ex_some (by show l3.1.length ≤ 1000; omega)))
theorem mem_set' {α : Type} {xs : List α} {i : Nat} {a b : α} (h : b ∈ xs.set i a) : b ∈ xs ∨ b = a := List.mem_or_eq_of_mem_set h
theorem ex_lset {α β : Type} {Q : β → Prop} {xs : List α} {i : Int} {y : α} {f : List α → Option β} (h : 0 ≤ i ∧ i < (xs.length : Int)) (k : ∀ v, v.length = xs.length → (∀ z ∈ v, z ∈ xs ∨ z = y) → Ex (f v) Q) : Ex (Option.bind (lSet xs i y) f) Q := by
  have e : lSet xs i y = some (xs.set i.toNat y) := by
    unfold lSet L2.ixN
    rw [if_pos h.1, if_pos h.2]; rfl
  exact ex_is e (k _ (by simp) fun z hz => mem_set' hz)
theorem spoilt_lines_ok {ls : List DLine} {k : Int} {ds : List Int} {lt : List Str} {n : Nat} (hL : KL n ls) (hn : n ≤ 100) (hd : Drw 5 ds) (ht : Ltr lt) : Ex (m_law_spoilt_lines ls k lt ds) DLines := by
  unfold m_law_spoilt_lines
  have hp := ht.pos
  have few := hL.few
  refine ex_if (fun _ => ex_at (by omega) fun z mz _ => ex_drw hd (by decide) fun d0 _ => ex_at (by simp only [List.length_cons, List.length_nil]; omega) fun r _ _ => ex_some ⟨by simp, fun l h => ?_⟩) fun hc => ?_
  · rw [List.mem_singleton] at h; subst h
    have := (ht.ltr.run mz).1
    simp only; omega
  have h0 : 0 < ls.length := by
    have := of_decide_eq_false hc
    omega
  have cl := fun a b => cutL_len ls a b
  have cm0 : ∀ {l : DLine}, l ∈ ls → l.1.length ≤ 1000 := fun h => by have := (hL.mem h).1.1; omega
  have cm : ∀ {a b : Option Int} {l : DLine}, l ∈ cutL ls a b → l.1.length ≤ 1000 := fun h => cm0 (cutL_mem h)
  have md : ∀ d : Int, 0 ≤ d % (ls.length : Int) ∧ d % (ls.length : Int) < ls.length := fun d => ⟨Int.emod_nonneg _ (by omega), Int.emod_lt_of_pos _ (by omega)⟩
  refine ex_drw hd (by decide) fun d1 _ => ex_mod (by omega) (ex_drw hd (by decide) fun d2 _ => ex_mod (by omega) ?_)
  have ha := md d1
  generalize d1 % (ls.length : Int) = a at ha
  have ho := md d2
  generalize d2 % (ls.length : Int) = o at ho
  refine ex_at ha fun line ml gl => ex_drw hd (by decide) fun d0 _ => ex_id ?_
  obtain ⟨⟨ll, lr⟩, lq⟩ := hL.mem ml
  have l5 : line.2.length ≤ 5 := by
    rcases lq with e | ⟨_, _, _, _, _, e, _⟩ <;> rw [e] <;> simp
  have c1 := cl none (some a)
  have c2 := cl (some (a + 1)) none
  have D2 : Drw 2 (cutL ds (some 3) (some 5)) := drw_cut hd (a := 3) (b := 5) (by decide)
  have fin : ∀ s : DLine, s.1.length ≤ 1000 → Ex (Option.bind (lCat (cutL ls none (some a)) [s]) fun v42 => Option.bind (lCat v42 (cutL ls (some (a + 1)) none)) fun v43 => some v43) DLines := fun s hs => by
    refine ex_lcat (by simp; omega) (ex_lcat (by simp; omega) (ex_some ⟨by simp; omega, fun l h => ?_⟩))
    rcases List.mem_append.mp h with h | h
    · rcases List.mem_append.mp h with h | h
      · exact cm h
      · rw [List.mem_singleton] at h; subst h; exact hs
    · exact cm h
  have more : ∀ s : DLine, s.1.length ≤ 1000 → DLines (ls ++ [s]) := fun s hs => ⟨by simp; omega, fun l h => by
    rcases List.mem_append.mp h with h | h
    · exact cm0 h
    · rw [List.mem_singleton] at h; subst h; exact hs⟩
  refine ex_jn (fun s : DLine => s.1.length ≤ 1000) DLines (ex_if (fun hc => ?_) fun _ => ex_if (fun _ => ?_) fun _ => ex_if (fun _ => ?_) fun _ => ex_if (fun _ => ?_) fun _ => ex_if (fun _ => ?_) fun _ => ?_) fin fun v hv => ex_some hv
  · have h5 : line.2.length = 5 := by
      rw [Bool.and_eq_true, decide_eq_true_iff, decide_eq_true_iff] at hc; omega
    exact ex_bind (number_ok hL ha gl h5 D2) fun l hl => ex_some (.inl ⟨_, rfl, hl⟩)
  · refine ex_slen (by omega) (ex_slen (by omega) (ex_drw hd (by decide) fun d3 _ => ex_at (by simp only [List.length_cons, List.length_nil]; omega) fun x _ _ => ex_drw hd (by decide) fun d4 _ => ex_at (by simp only [List.length_cons, List.length_nil]; omega) fun y _ _ => ?_))
    exact ex_lcat (by simp; omega) (ex_some (.inr ⟨_, rfl, more _ (by show line.1.length ≤ 1000; omega)⟩))
  · exact ex_bind (near_ok hL hn ha ho D2) fun l hl => ex_lcat (by simp; omega) (ex_some (.inr ⟨_, rfl, more _ hl.1⟩))
  · refine ex_id (ex_at ho fun l2 m2 _ => ex_lset ha fun v1 e1 s1 => ex_lset (by omega) fun v2 e2 s2 => ex_some (.inr ⟨_, rfl, by omega, fun l h => ?_⟩))
    rcases s2 l h with h | h
    · rcases s1 l h with h | h
      · exact cm0 h
      · subst h; exact cm0 m2
    · subst h; exact cm0 ml
  · refine ex_lcat (by omega) (ex_some (.inr ⟨_, rfl, by simp; omega, fun l h => ?_⟩))
    rcases List.mem_append.mp h with h | h
    · exact cm h
    · exact cm h
  refine ex_jn (fun s : DLine => s.1.length ≤ 1000) (fun c => ∃ v, c = .inr v ∧ DLines v) (ex_if (fun _ => ?_) fun _ => ex_if (fun _ => ?_) fun _ => ?_) (fun s hs => ex_some (.inl ⟨_, rfl, hs⟩)) fun c ⟨v, e, hv⟩ => ex_some (.inr ⟨v, e, hv⟩)
  · have ev : vRep line.2 2 = some (List.replicate 2 line.2).flatten := if_pos ⟨by decide, by decide, by omega⟩
    exact ex_lcat (by simp; omega) (ex_is ev (ex_drw hd (by decide) fun d3 _ => ex_at (by simp only [List.length_cons, List.length_nil]; omega) fun r _ _ => ex_id (ex_some (.inl ⟨_, rfl, by show line.1.length ≤ 1000; omega⟩))))
  · refine ex_drw hd (by decide) fun d4 _ => ex_ltr ht fun j hj => ex_at hj fun z mz _ => ?_
    have lz := (ht.ltr.run mz).1
    have lA : ("A" : Str).length = 1 := by decide +kernel
    have c3 := cutS_length line.1 (some 1) none
    have c4 := cutS_length line.1 none (some (-1))
    refine ex_sadd (by omega) (ex_sadd (by omega) (ex_scut (by omega) (ex_scut (by omega) (ex_sadd (by omega) (ex_drw hd (by decide) fun d3 _ => ex_at (by simp only [List.length_cons, List.length_nil]; omega) fun y my _ => ex_id (ex_some (.inl ⟨_, rfl, ?_⟩)))))))
    simp only [List.mem_cons, List.not_mem_nil, or_false] at my
    rcases my with rfl | rfl | rfl | rfl | rfl | rfl
    · simp only [len_app]; omega
    · simp only [len_app]; omega
    · simp only; omega
    · simp only; omega
    · simp only [len_app]; omega
    · show ("?" : Str).length ≤ 1000
      decide +kernel
  · have c5 := cl none (some (a + 1))
    have c6 := cl (some a) none
    refine ex_lcat (by omega) (ex_some (.inr ⟨_, rfl, _, rfl, by simp; omega, fun l h => ?_⟩))
    rcases List.mem_append.mp h with h | h
    · exact cm h
    · exact cm h
theorem law_true : ∀ ns : List Int, ns.length ≤ 63 → m_law ns = some true := by
  intro ns _
  suffices Ex (m_law ns) fun b => b = true by
    obtain ⟨b, h, rfl⟩ := this; exact h
  unfold m_law
  refine ex_bind (seen_any_ok (by decide) (by decide) (by decide)) fun t ⟨hl, hr, hk⟩ => ?_
  obtain ⟨lt, rs0, k⟩ := t
  simp only at hl hr hk
  refine ex_id (ex_id ?_)
  have hrl : (cutL rs0 none (some 12)).length ≤ 12 := by
    unfold cutL; rw [show (12 : Int) = ((12 : Nat) : Int) from rfl, HT.sIx_nat, HT.sIx_none, List.length_take, List.length_drop]; omega
  have hrs : ∀ z ∈ cutL rs0 none (some 12), z.length ≤ 400 ∧ isRun z := fun z hz => ⟨by have := hr.len (cutL_mem hz); omega, hr.run z (cutL_mem hz)⟩
  simp only
  generalize cutL rs0 none (some 12) = rs at hrl hrs
  have hrn : ∀ z ∈ rs, isRun z := fun z hz => (hrs z hz).2
  have hrv : ∀ z ∈ rs.reverse, isRun z := fun z hz => hrn z (List.mem_reverse.mp hz)
  refine ex_bind (cell_ok (by decide)) fun _ _ => ex_bind (draws_ok (by decide)) fun ds hd => ?_
  have D1 : Drw 24 (cutL ds none (some 24)) := drw_cut0 hd (by decide)
  refine ex_bind (own_ok hrl hrs hk D1 (by decide)) fun good hgood => ?_
  have hG : KL 20 good := hgood.mono (by omega)
  refine ex_drw hd (by decide) fun d24 h24 => ex_bind (word_ok hl h24.1 (by decide)) fun w _ => ex_drw hd (by decide) fun d25 _ => ?_
  refine ex_bind (P := fun x : Int => 0 ≤ x) (ex_if (fun _ => ex_some (by split <;> omega)) fun _ => ex_some (by split <;> omega)) fun nr hnr => ex_id ?_
  refine ex_jn1 (fun ps : List (List DLine) => ps.length ≤ 3 ∧ ∀ p ∈ ps, DLines p) (ex_if (fun hc => ?_) fun _ => ex_some ⟨_, rfl, by simp, fun p hp => ?_⟩) fun ps hps => ?_
  · have hc := of_decide_eq_true hc
    refine ex_bind (own_ok hrl hrs hk D1 (by decide)) fun longer hlong => ex_at (by omega) fun z mz _ => ?_
    have few := hlong.few
    refine ex_lcat (by simp; omega) (ex_app (by simp) (ex_some ⟨_, rfl, by simp, fun p hp => ?_⟩))
    simp only [List.mem_append, List.mem_cons, List.not_mem_nil, or_false] at hp
    rcases hp with (rfl | rfl) | rfl
    · exact hG.dl (by decide)
    · exact ⟨by simp, fun l h => by cases h⟩
    · exact (hlong.app (l := (z, [])) (hrs z mz) (.inl rfl)).dl (by omega)
  · simp only [List.mem_cons, List.not_mem_nil, or_false] at hp
    rcases hp with rfl | rfl
    · exact hG.dl (by decide)
    · exact ⟨by simp, fun l h => by cases h⟩
  refine ex_rng1 (by decide) (by decide) ?_
  refine ex_loop (fun i (s : List (List DLine)) => s.length ≤ 3 + i ∧ i ≤ 6 ∧ ∀ p ∈ s, DLines p) ⟨hps.1, by decide, hps.2⟩ ?_ ?_
  · rintro i y s hy ⟨p1, p2, p3⟩
    obtain ⟨hi, e⟩ := rng_get hy
    have hi : i < 6 := hi
    subst e
    refine ex_bind (cell_ok (by omega)) fun _ _ => ex_bind (draws_ok (by decide)) fun ds2 hd2 => ex_bind (spoilt_lines_ok hG (by decide) hd2 hl) fun sp hs => ex_app (by omega) (ex_some ⟨_, rfl, by simp; omega, hi, fun p hp => ?_⟩)
    rcases List.mem_append.mp hp with q | q
    · exact p3 p q
    · rw [List.mem_singleton] at q; subst q; exact hs
  rintro s ⟨p1, p2, p3⟩
  refine ex_lcat (by simp; simp at p1; omega) ?_
  refine ex_loop (fun _ _ => True) trivial ?_ fun _ _ => ex_some rfl
  rintro a one u ha -
  have hO : DLines one := by
    rcases List.mem_append.mp (List.mem_of_getElem? ha) with q | q
    · exact p3 one q
    · rw [List.mem_singleton] at q; subst q; exact hG.dl (by decide)
  refine ex_id (ex_id ?_)
  refine ex_bind (P := fun b => b = true → one ≠ []) (ex_if (fun hc => ?_) fun _ => ex_some fun f => nomatch f) fun b hb => ?_
  · have h0 : one ≠ [] := by
      have := of_decide_eq_true hc
      exact List.length_pos_iff.mp (by omega)
    have hlen := hO.len _ (List.getLast_mem h0)
    refine ex_is (atI_last h0) (ex_bind (is_run_dec hlen) fun v _ => ex_bind (P := fun _ => True) (ex_if (fun _ => ex_is (atI_last h0) (ex_slen (by omega) (ex_some trivial))) fun _ => ex_some trivial) fun _ _ => ex_some fun _ => h0)
  refine ex_jn1 (fun _ : Str => True) (ex_if (fun hc => ex_is (atI_last (hb hc)) (ex_id (ex_some ⟨_, rfl, trivial⟩))) fun _ => ex_some ⟨_, rfl, trivial⟩) fun last _ => ?_
  refine ex_is (told_ok hk.1 hO hrn) (ex_is (x := false) ?_ (ex_if (fun f => nomatch f) fun _ => ?_))
  · rw [if_neg (by decide), told_ok hk.1 hO hrv]; rfl
  exact ex_is (told_ok hnr hO hrn) (ex_if (fun f => nomatch f) fun _ => ex_some ⟨_, rfl, trivial⟩)
section
variable {P : Program} {w : World} {K : PySem.W.Frag} {mg : Str → Option Value} {base : Heap}
set_option maxHeartbeats 4000000 in
theorem ok_law_cell {f : Addr} {fd : FuncData} (F : Fun K "_law_cell" "_law_cell" s_law_cell f fd) (B : L2.Binds K fd ["script", "k"] []) (g : mg "_law_cell" = some (.ref f)) (T : Bi mg) : DefOk P w K mg base "_law_cell" 1 C_law_cell := by
  obtain ⟨z_max, z_len, z_all, z_range, z_min, z_abs, z_int, z_isinstance, z_bool, z_str, z_sorted, z_tuple, z_list⟩ := T
  refine defOk_mk F B g sc_law_cell ?_
  intro cdv A outer s H E hr hN nd ii hok
  obtain ⟨script_p, k_p, res⟩ := ii
  have h : m_law_cell script_p k_p = some res := hok
  unfold m_law_cell at h
  show XB _ _ [some (.d ((eL eI) script_p)), some (.d (eI k_p))] _
  refine xb_cons ?_
  refine xs_if (b := (decide (k_p < (script_p.length : Int)))) (q_cmpT hr (d1 := (eI k_p)) (d2 := (eI (script_p.length : Int))) (n_var hN (.there (.here))) (xm_llen (en := eI) (n_var hN (.here)) z_len) (.of CmpD.ltI)) (fun hc => ?_) (fun hc => ?_)
  · have h := ifT h hc
    obtain ⟨v1, q1, h⟩ := obS h
    refine xb_cons ?_
    refine xs_ret (d := (eI v1)) (xm_lix (en := eI) (xs := script_p) (n_var hN (.here)) (n_var hN (.there (.here))) q1) ?_
    obtain rfl := Option.some.inj h
    exact rfl
  · have h := ifF h hc
    refine xb_nil ?_
    refine xb_cons ?_
    refine xs_ret (d := (eI (((5 : Int) * k_p) + (3 : Int)))) (xd_add (xd_mul xd_int (n_var hN (.there (.here))) (Or.inl ⟨by decide, by decide⟩)) xd_int) ?_
    obtain rfl := Option.some.inj h
    exact rfl
set_option maxHeartbeats 4000000 in
theorem ok_law_draws {f : Addr} {fd : FuncData} (F : Fun K "_law_draws" "_law_draws" s_law_draws f fd) (B : L2.Binds K fd ["cell", "count"] []) (g : mg "_law_draws" = some (.ref f)) (T : Bi mg) : DefOk P w K mg base "_law_draws" 1 C_law_draws := by
  obtain ⟨z_max, z_len, z_all, z_range, z_min, z_abs, z_int, z_isinstance, z_bool, z_str, z_sorted, z_tuple, z_list⟩ := T
  refine defOk_mk F B g sc_law_draws ?_
  intro cdv A outer s H E hr hN nd ii hok
  obtain ⟨cell_p, count_p, res⟩ := ii
  have h : m_law_draws cell_p count_p = some res := hok
  unfold m_law_draws at h
  show XB _ _ [some (.d (eI cell_p)), some (.d (eI count_p)), none, none, none, none, none, none] _
  obtain ⟨rest_1, q2, h⟩ := obS h
  refine xb_cons ?_
  refine n_set (d := (eI rest_1)) (XD.o (en := eI) (v := (if cell_p < 0 then -cell_p else cell_p)) (xd_abs (xd_int1 (n_var hN (.here)) z_int) z_abs) q2) hN nd (.there (.there (.here))) ?_
  obtain ⟨digits_3, q4, h⟩ := obS h
  refine xb_cons ?_
  refine n_set (d := (eB digits_3)) (XD.o (en := eB) (v := (decide ((1000000000000000000 : Int) ≤ rest_1))) (q_cmp hr (d1 := (eI rest_1)) (d2 := (eI (1000000000000000000 : Int))) (n_var hN (.there (.there (.here)))) (XD.is (d2 := .int 1000000000000000000) (xd_pow xd_int xd_int ⟨by decide, by decide, by decide⟩) (congrArg PyData.int (by decide +kernel))) (.of CmpD.geI)) q4) hN nd (.there (.there (.there (.here)))) ?_
  obtain ⟨seed_5, q6, h⟩ := obS h
  refine xb_cons ?_
  refine n_set (d := (eI seed_5)) (XD.o (en := eI) (v := rest_1) (n_var hN (.there (.there (.here)))) q6) hN nd (.there (.there (.there (.there (.here))))) ?_
  obtain ⟨draws_7, q8, h⟩ := obS h
  refine xb_cons ?_
  refine n_setL (xs := List.map eI draws_7) (xl_to (xl_lst (ds := []) xa_nil (show (0 : Nat) ≤ sizeLine by decide)) (by cases q8; rfl)) hN nd (.there (.there (.there (.there (.there (.here)))))) ?_
  obtain ⟨v9, q9, h⟩ := obS h
  obtain ⟨c24, q24, h⟩ := obS h
  refine xb_cut (M := fun e => ∃ s11 : ((List Int) × Int), c24 = Sum.inl s11 ∧ e = [some (.d (eI cell_p)), some (.d (eI count_p)), some (.d (eI s11.2)), some (.d (eB digits_3)), some (.d (eI seed_5)), some (.l (List.map eI s11.1)), none, none]) (nm_for (s0 := (draws_7, rest_1)) (en := eI) (eR := eN) (js := [6]) (eX := fun s11 y10 => [some (.d (eI cell_p)), some (.d (eI count_p)), some (.d (eI s11.2)), some (.d (eB digits_3)), some (.d (eI seed_5)), some (.l (List.map eI s11.1)), some (.d (eI y10)), none]) q24 (fun s11 => [some (.d (eI cell_p)), some (.d (eI count_p)), some (.d (eI s11.2)), some (.d (eB digits_3)), some (.d (eI seed_5)), some (.l (List.map eI s11.1)), none, none]) (it_rng1 (n_var hN (.there (.here))) q9 z_range) (fun s11 y10 => (n_gname hN nd (.there (.there (.there (.there (.there (.there (.here))))))))) (fun y10 s11 r h => ?_) (fun s0 hs => ⟨s0, hs, rfl⟩) (fun r0 hs => ?_)) ?_
  · skip
    obtain ⟨j12, q12, h⟩ := obS h
    have hj12 := h
    refine xb_cut (M := fun e => ∃ s12 : ((List Int) × Int), j12 = Sum.inl s12 ∧ e = [some (.d (eI cell_p)), some (.d (eI count_p)), some (.d (eI s12.2)), some (.d (eB digits_3)), some (.d (eI seed_5)), some (.l (List.map eI s12.1)), some (.d (eI y10)), none]) (xs_if (b := (digits_3 && (decide ((0 : Int) < s11.2)))) (XW.t (xw_and (a := digits_3) (b := (decide ((0 : Int) < s11.2))) (xt_val (n_var hN (.there (.there (.there (.here)))))) fun _ => (xw_and1 (q_cmpT hr (d1 := (eI s11.2)) (d2 := (eI (0 : Int))) (n_var hN (.there (.there (.here)))) xd_int (.of CmpD.gtI))))) (fun hc => ?_) (fun hc => ?_)) ?_
    · have h := ifT q12 hc
      obtain ⟨draws_13, q14, h⟩ := obS h
      refine xb_cons ?_
      refine nm_append (en := eI) (y := (s11.2 % (5040 : Int))) hN (.there (.there (.there (.there (.there (.here)))))) (xd_mod (xd_int1 (n_var hN (.there (.there (.here)))) z_int) xd_int (by decide)) q14 (.there (.there (.there (.there (.there (.here)))))) nd ?_
      obtain ⟨rest_15, q16, h⟩ := obS h
      refine xb_cons ?_
      refine n_set (d := (eI rest_15)) (XD.o (en := eI) (v := (s11.2 / (5040 : Int))) (xd_div (n_var hN (.there (.there (.here)))) xd_int ⟨by decide, by decide⟩) q16) hN nd (.there (.there (.here))) ?_
      refine xb_nil ?_
      obtain rfl := Option.some.inj h
      exact ⟨_, rfl, rfl⟩
    · have h := ifF q12 hc
      obtain ⟨mixed_17, q18, h⟩ := obS h
      refine xb_cons ?_
      refine n_set (d := (eI mixed_17)) (XD.o (en := eI) (v := ((((seed_5 * (48271 : Int)) + ((y10 + (1 : Int)) * (69621 : Int))) + (11 : Int)) % (2147483647 : Int))) (xd_mod (xd_int1 (xd_add (xd_add (xd_mul (n_var hN (.there (.there (.there (.there (.here)))))) xd_int (Or.inr ⟨by decide, by decide⟩)) (xd_mul (xd_add (n_var hN (.there (.there (.there (.there (.there (.there (.here)))))))) xd_int) xd_int (Or.inr ⟨by decide, by decide⟩))) xd_int) z_int) xd_int (by decide)) q18) hN nd (.there (.there (.there (.there (.there (.there (.there (.here)))))))) ?_
      obtain ⟨v19, q19, h⟩ := obS h
      obtain ⟨mixed_20, q21, h⟩ := obS h
      refine xb_cons ?_
      refine n_set (d := (eI mixed_20)) (XD.o (en := eI) (v := ((v19 + ((40692 : Int) * (y10 + (3 : Int)))) % (2147483399 : Int))) (xd_mod (xd_int1 (xd_add (xm_mul (n_var hN (.there (.there (.there (.there (.there (.there (.there (.here))))))))) (n_var hN (.there (.there (.there (.there (.there (.there (.there (.here))))))))) q19) (xd_mul xd_int (xd_add (n_var hN (.there (.there (.there (.there (.there (.there (.here)))))))) xd_int) (Or.inl ⟨by decide, by decide⟩))) z_int) xd_int (by decide)) q21) hN nd (.there (.there (.there (.there (.there (.there (.there (.here)))))))) ?_
      obtain ⟨draws_22, q23, h⟩ := obS h
      refine xb_cons ?_
      refine nm_append (en := eI) (y := ((mixed_20 / (64 : Int)) % (5040 : Int))) hN (.there (.there (.there (.there (.there (.here)))))) (xd_mod (xd_int1 (xd_div (n_var hN (.there (.there (.there (.there (.there (.there (.there (.here))))))))) xd_int ⟨by decide, by decide⟩) z_int) xd_int (by decide)) q23 (.there (.there (.there (.there (.there (.here)))))) nd ?_
      refine xb_fg (.keep (.keep (.keep (.keep (.keep (.keep (.keep (.drop (Fg.nil))))))))) ?_
      refine xb_nil ?_
      obtain rfl := Option.some.inj h
      exact ⟨_, rfl, rfl⟩
    rintro _ ⟨s12, hs0, rfl⟩
    rw [hs0] at h
    have h := jnI h
    refine xb_fg (.keep (.keep (.keep (.keep (.keep (.keep (.drop (.keep (Fg.nil))))))))) ?_
    refine xb_nil ?_
    obtain rfl := Option.some.inj h
    exact ⟨_, rfl, rfl⟩
  · rw [hs] at h
    exact nomatch (jnR h)
  rintro _ ⟨s24, hs0, rfl⟩
  rw [hs0] at h
  have h := jnI h
  refine n_freeze "draws" hN nd (.there (.there (.there (.there (.there (.here)))))) (.there (.there (.there (.there (.there (.here)))))) ?_
  refine xb_cons ?_
  refine xs_ret (d := ((eL eI) s24.1)) (n_var hN (.there (.there (.there (.there (.there (.here))))))) ?_
  obtain rfl := Option.some.inj h
  exact rfl
set_option maxHeartbeats 4000000 in
theorem ok_law_letters {f : Addr} {fd : FuncData} (F : Fun K "_law_letters" "_law_letters" s_law_letters f fd) (B : L2.Binds K fd ["draw", "count"] []) (g : mg "_law_letters" = some (.ref f)) (T : Bi mg) : DefOk P w K mg base "_law_letters" 1 C_law_letters := by
  obtain ⟨z_max, z_len, z_all, z_range, z_min, z_abs, z_int, z_isinstance, z_bool, z_str, z_sorted, z_tuple, z_list⟩ := T
  refine defOk_mk F B g sc_law_letters ?_
  intro cdv A outer s H E hr hN nd ii hok
  obtain ⟨draw_p, count_p, res⟩ := ii
  have h : m_law_letters draw_p count_p = some res := hok
  unfold m_law_letters at h
  show XB _ _ [some (.d (eI draw_p)), some (.d (eI count_p)), none, none, none] _
  obtain ⟨start_1, q2, h⟩ := obS h
  refine xb_cons ?_
  refine n_set (d := (eI start_1)) (XD.o (en := eI) (v := (draw_p % (26 : Int))) (xd_mod (xd_int1 (n_var hN (.here)) z_int) xd_int (by decide)) q2) hN nd (.there (.there (.here))) ?_
  obtain ⟨step_3, q4, h⟩ := obS h
  refine xb_cons ?_
  refine n_set (d := (eI step_3)) (XD.o (en := eI) (v := ((1 : Int) + ((draw_p / (26 : Int)) % (12 : Int)))) (xd_add xd_int (xd_mod (xd_div (xd_int1 (n_var hN (.here)) z_int) xd_int ⟨by decide, by decide⟩) xd_int (by decide))) q4) hN nd (.there (.there (.there (.here)))) ?_
  obtain ⟨v5, q5, h⟩ := obS h
  obtain ⟨v9, q9, h⟩ := obS h
  obtain ⟨v10, q10, h⟩ := obS h
  refine xb_cons ?_
  refine xs_ret (d := ((eL eS) v10)) (XL.dat (xm_srt (XL.dat (nm_comp (S := defScope s_law_letters) (en := eI) (eb := eS) (eX := fun y6 => [some (.d (eI draw_p)), some (.d (eI count_p)), some (.d (eI start_1)), some (.d (eI step_3)), some (.d (eI y6))]) [(("k" : Str), 4)] q9 hN nd (it_rng1 (n_var hN (.there (.here))) q5 z_range) (by decide +kernel) (fun y6 s_ Hb C cl fp => (n_gname hN nd (.there (.there (.there (.there (.here))))))) (fun y6 r h s_ Hb C cl fp => by obtain ⟨v7, q7, h⟩ := obS h; obtain ⟨v8, q8, h⟩ := obS h; exact XD.o (en := eS) (v := v8) (xm_six xd_str (xd_mod (xd_add (n_var hN (.there (.there (.here)))) (xm_mul (n_var hN (.there (.there (.there (.here))))) (n_var hN (.there (.there (.there (.there (.here)))))) q7)) xd_int (by decide)) q8) h))) q10 z_sorted)) ?_
  obtain rfl := Option.some.inj h
  exact rfl
set_option maxHeartbeats 4000000 in
theorem ok_law_word {f : Addr} {fd : FuncData} (F : Fun K "_law_word" "_law_word" s_law_word f fd) (B : L2.Binds K fd ["draw", "letters", "longest"] []) (g : mg "_law_word" = some (.ref f)) (T : Bi mg) : DefOk P w K mg base "_law_word" 1 C_law_word := by
  obtain ⟨z_max, z_len, z_all, z_range, z_min, z_abs, z_int, z_isinstance, z_bool, z_str, z_sorted, z_tuple, z_list⟩ := T
  refine defOk_mk F B g sc_law_word ?_
  intro cdv A outer s H E hr hN nd ii hok
  obtain ⟨draw_p, letters_p, longest_p, res⟩ := ii
  have h : m_law_word draw_p letters_p longest_p = some res := hok
  unfold m_law_word at h
  show XB _ _ [some (.d (eI draw_p)), some (.d ((eL eS) letters_p)), some (.d (eI longest_p)), none, none, none, none] _
  obtain ⟨v1, q1, h⟩ := obS h
  refine xb_cons ?_
  refine n_set (d := (eI v1)) (xm_mod (xd_int1 (n_var hN (.here)) z_int) (xd_add (n_var hN (.there (.there (.here)))) xd_int) q1) hN nd (.there (.there (.there (.here)))) ?_
  obtain ⟨v4, q4, h⟩ := obS h
  refine xb_cons ?_
  refine n_set (d := (eI v4)) (xm_div (xd_int1 (n_var hN (.here)) z_int) (xd_add (n_var hN (.there (.there (.here)))) xd_int) q4) hN nd (.there (.there (.there (.there (.here))))) ?_
  obtain ⟨word_7, q8, h⟩ := obS h
  refine xb_cons ?_
  refine n_set (d := (eS word_7)) (XD.o (en := eS) (v := ("" : Str)) xd_str q8) hN nd (.there (.there (.there (.there (.there (.here)))))) ?_
  obtain ⟨v9, q9, h⟩ := obS h
  obtain ⟨c20, q20, h⟩ := obS h
  refine xb_cut (M := fun e => ∃ s11 : (Str × Int), c20 = Sum.inl s11 ∧ e = [some (.d (eI draw_p)), some (.d ((eL eS) letters_p)), some (.d (eI longest_p)), some (.d (eI v1)), some (.d (eI s11.2)), some (.d (eS s11.1)), none]) (nm_for (s0 := (word_7, v4)) (en := eI) (eR := eN) (js := [6]) (eX := fun s11 y10 => [some (.d (eI draw_p)), some (.d ((eL eS) letters_p)), some (.d (eI longest_p)), some (.d (eI v1)), some (.d (eI s11.2)), some (.d (eS s11.1)), some (.d (eI y10))]) q20 (fun s11 => [some (.d (eI draw_p)), some (.d ((eL eS) letters_p)), some (.d (eI longest_p)), some (.d (eI v1)), some (.d (eI s11.2)), some (.d (eS s11.1)), none]) (it_rng1 (n_var hN (.there (.there (.there (.here))))) q9 z_range) (fun s11 y10 => (n_gname hN nd (.there (.there (.there (.there (.there (.there (.here))))))))) (fun y10 s11 r h => ?_) (fun s0 hs => ⟨s0, hs, rfl⟩) (fun r0 hs => ?_)) ?_
  · skip
    obtain ⟨v12, q12, h⟩ := obS h
    obtain ⟨v13, q13, h⟩ := obS h
    obtain ⟨v14, q14, h⟩ := obS h
    refine xb_cons ?_
    refine n_set (d := (eS v14)) (xm_sadd (n_var hN (.there (.there (.there (.there (.there (.here))))))) (xm_lix (en := eS) (xs := letters_p) (n_var hN (.there (.here))) (xm_mod (xd_int1 (n_var hN (.there (.there (.there (.there (.here)))))) z_int) (xm_llen (en := eS) (n_var hN (.there (.here))) z_len) q12) q13) q14) hN nd (.there (.there (.there (.there (.there (.here)))))) ?_
    obtain ⟨v17, q17, h⟩ := obS h
    obtain ⟨rest_18, q19, h⟩ := obS h
    refine xb_cons ?_
    refine n_set (d := (eI rest_18)) (XD.o (en := eI) (v := (v17 + ((37 : Int) * (y10 + (1 : Int))))) (xd_add (xm_div (n_var hN (.there (.there (.there (.there (.here)))))) (xm_llen (en := eS) (n_var hN (.there (.here))) z_len) q17) (xd_mul xd_int (xd_add (n_var hN (.there (.there (.there (.there (.there (.there (.here)))))))) xd_int) (Or.inl ⟨by decide, by decide⟩))) q19) hN nd (.there (.there (.there (.there (.here))))) ?_
    refine xb_fg (.keep (.keep (.keep (.keep (.keep (.keep (.drop (Fg.nil)))))))) ?_
    refine xb_nil ?_
    obtain rfl := Option.some.inj h
    exact ⟨_, rfl, rfl⟩
  · rw [hs] at h
    exact nomatch (jnR h)
  rintro _ ⟨s20, hs0, rfl⟩
  rw [hs0] at h
  have h := jnI h
  refine xb_cons ?_
  refine xs_ret (d := (eS s20.1)) (n_var hN (.there (.there (.there (.there (.there (.here))))))) ?_
  obtain rfl := Option.some.inj h
  exact rfl
set_option maxHeartbeats 4000000 in
theorem ok_law_runs {f : Addr} {fd : FuncData} (F : Fun K "_law_runs" "_law_runs" s_law_runs f fd) (B : L2.Binds K fd ["cell", "letters", "count", "longest"] []) (g : mg "_law_runs" = some (.ref f)) (T : Bi mg) (D_law_draws : DefOk P w K mg base "_law_draws" 1 C_law_draws) (D_law_word : DefOk P w K mg base "_law_word" 1 C_law_word) : DefOk P w K mg base "_law_runs" 2 C_law_runs := by
  obtain ⟨z_max, z_len, z_all, z_range, z_min, z_abs, z_int, z_isinstance, z_bool, z_str, z_sorted, z_tuple, z_list⟩ := T
  refine defOk_mk F B g sc_law_runs ?_
  intro cdv A outer s H E hr hN nd ii hok
  obtain ⟨cell_p, letters_p, count_p, longest_p, res⟩ := ii
  have h : m_law_runs cell_p letters_p count_p longest_p = some res := hok
  unfold m_law_runs at h
  show XB _ _ [some (.d (eI cell_p)), some (.d ((eL eS) letters_p)), some (.d (eI count_p)), some (.d (eI longest_p)), none, none, none, none, none, none, none, none] _
  obtain ⟨v1, q1, h⟩ := obS h
  refine xb_cons ?_
  refine n_set (d := ((eL eI) v1)) (xd_call D_law_draws hr (i := (cell_p, ((5 : Int) + ((4 : Int) * count_p)), v1)) (d := ((eL eI) v1)) (xa_cons (d := (eI cell_p)) (n_var hN (.here)) (xa_cons (d := (eI ((5 : Int) + ((4 : Int) * count_p)))) (xd_add xd_int (xd_mul xd_int (n_var hN (.there (.there (.here)))) (Or.inl ⟨by decide, by decide⟩))) xa_nil hs_BinOp) hs_Name) q1 (fun _ h => h)) hN nd (.there (.there (.there (.there (.here))))) ?_
  obtain ⟨v4, q4, h⟩ := obS h
  obtain ⟨v8, q8, h⟩ := obS h
  refine xb_cons ?_
  refine nm_setComp (S := defScope s_law_runs) (en := eI) (eb := eS) (eX := fun y5 => [some (.d (eI cell_p)), some (.d ((eL eS) letters_p)), some (.d (eI count_p)), some (.d (eI longest_p)), some (.d ((eL eI) v1)), none, none, none, none, none, none, some (.d (eI y5))]) [(("k" : Str), 11)] q8 hN nd (it_rng1 xd_int q4 z_range) (by decide +kernel) (fun y5 s_ Hb C cl fp => (n_gname hN nd (.there (.there (.there (.there (.there (.there (.there (.there (.there (.there (.there (.here)))))))))))))) (fun y5 r h s_ Hb C cl fp => by obtain ⟨v6, q6, h⟩ := obS h; obtain ⟨v7, q7, h⟩ := obS h; exact XD.o (en := eS) (v := v7) (xd_call D_law_word hr (i := (v6, letters_p, (2 : Int), v7)) (d := (eS v7)) (xa_cons (d := (eI v6)) (xm_lix (en := eI) (xs := v1) (n_var hN (.there (.there (.there (.there (.here)))))) (xd_add xd_int (n_var hN (.there (.there (.there (.there (.there (.there (.there (.there (.there (.there (.there (.here)))))))))))))) q6) (xa_cons (d := ((eL eS) letters_p)) (n_var hN (.there (.here))) (xa_cons (d := (eI (2 : Int))) xd_int xa_nil hs_Constant) hs_Name) hs_Subscript) q7 (fun _ h => h)) h) (.there (.there (.there (.there (.there (.here)))))) ?_
  refine n_freeze "parts" hN nd (.there (.there (.there (.there (.there (.here)))))) (.there (.there (.there (.there (.there (.here)))))) ?_
  obtain ⟨runs_9, q10, h⟩ := obS h
  refine xb_cons ?_
  refine n_setL (xs := List.map eS runs_9) (xl_to (xl_lst (ds := []) xa_nil (show (0 : Nat) ≤ sizeLine by decide)) (by cases q10; rfl)) hN nd (.there (.there (.there (.there (.there (.there (.here))))))) ?_
  obtain ⟨v11, q11, h⟩ := obS h
  obtain ⟨v12, q12, h⟩ := obS h
  obtain ⟨v13, q13, h⟩ := obS h
  obtain ⟨c52, q52, h⟩ := obS h
  refine xb_cut (M := fun e => ∃ s15 : ((List Str)), c52 = Sum.inl s15 ∧ e = [some (.d (eI cell_p)), some (.d ((eL eS) letters_p)), some (.d (eI count_p)), some (.d (eI longest_p)), some (.d ((eL eI) v1)), some (.d ((eL eS) v8)), some (.l (List.map eS s15)), none, none, none, none, none]) (nm_for (s0 := (runs_9)) (en := eI) (eR := eN) (js := [7]) (eX := fun s15 y14 => [some (.d (eI cell_p)), some (.d ((eL eS) letters_p)), some (.d (eI count_p)), some (.d (eI longest_p)), some (.d ((eL eI) v1)), some (.d ((eL eS) v8)), some (.l (List.map eS s15)), some (.d (eI y14)), none, none, none, none]) q52 (fun s15 => [some (.d (eI cell_p)), some (.d ((eL eS) letters_p)), some (.d (eI count_p)), some (.d (eI longest_p)), some (.d ((eL eI) v1)), some (.d ((eL eS) v8)), some (.l (List.map eS s15)), none, none, none, none, none]) (it_rng1 (xm_mod (xm_lix (en := eI) (xs := v1) (n_var hN (.there (.there (.there (.there (.here)))))) xd_int q11) (xd_add (n_var hN (.there (.there (.here)))) xd_int) q12) q13 z_range) (fun s15 y14 => (n_gname hN nd (.there (.there (.there (.there (.there (.there (.there (.here)))))))))) (fun y14 s15 r h => ?_) (fun s0 hs => ⟨s0, hs, rfl⟩) (fun r0 hs => ?_)) ?_
  · skip
    obtain ⟨v16, q16, h⟩ := obS h
    refine xb_cons ?_
    refine n_set (d := (eI v16)) (xm_lix (en := eI) (xs := v1) (n_var hN (.there (.there (.there (.there (.here)))))) (xd_add xd_int (xd_mul xd_int (n_var hN (.there (.there (.there (.there (.there (.there (.there (.here))))))))) (Or.inl ⟨by decide, by decide⟩))) q16) hN nd (.there (.there (.there (.there (.there (.there (.there (.there (.here))))))))) ?_
    obtain ⟨j19, q19, h⟩ := obS h
    have hj19 := h
    refine xb_cut (M := fun e => ∃ s19 : (Str), j19 = Sum.inl s19 ∧ e = [some (.d (eI cell_p)), some (.d ((eL eS) letters_p)), some (.d (eI count_p)), some (.d (eI longest_p)), some (.d ((eL eI) v1)), some (.d ((eL eS) v8)), some (.l (List.map eS s15)), some (.d (eI y14)), some (.d (eI v16)), some (.d (eS s19)), none, none]) (xs_if (b := (decide ((v16 % (3 : Int)) = (0 : Int)))) (q_cmpT hr (d1 := (eI (v16 % (3 : Int)))) (d2 := (eI (0 : Int))) (xd_mod (n_var hN (.there (.there (.there (.there (.there (.there (.there (.there (.here)))))))))) xd_int (by decide)) xd_int (.of CmpD.eqI)) (fun hc => ?_) (fun hc => ?_)) ?_
    · have h := ifT q19 hc
      obtain ⟨v20, q20, h⟩ := obS h
      obtain ⟨v21, q21, h⟩ := obS h
      refine xb_cons ?_
      refine n_set (d := (eS v21)) (xd_call D_law_word hr (i := (v20, letters_p, longest_p, v21)) (d := (eS v21)) (xa_cons (d := (eI v20)) (xm_lix (en := eI) (xs := v1) (n_var hN (.there (.there (.there (.there (.here)))))) (xd_add xd_int (xd_mul xd_int (n_var hN (.there (.there (.there (.there (.there (.there (.there (.here))))))))) (Or.inl ⟨by decide, by decide⟩))) q20) (xa_cons (d := ((eL eS) letters_p)) (n_var hN (.there (.here))) (xa_cons (d := (eI longest_p)) (n_var hN (.there (.there (.there (.here))))) xa_nil hs_Name) hs_Name) hs_Subscript) q21 (fun _ h => h)) hN nd (.there (.there (.there (.there (.there (.there (.there (.there (.there (.here)))))))))) ?_
      refine xb_nil ?_
      obtain rfl := Option.some.inj h
      exact ⟨_, rfl, rfl⟩
    · have h := ifF q19 hc
      obtain ⟨j24, q24, h⟩ := obS h
      have hj24 := h
      refine xb_cut (M := fun e => ∃ s24 : (Str), j24 = Sum.inl s24 ∧ e = [some (.d (eI cell_p)), some (.d ((eL eS) letters_p)), some (.d (eI count_p)), some (.d (eI longest_p)), some (.d ((eL eI) v1)), some (.d ((eL eS) v8)), some (.l (List.map eS s15)), some (.d (eI y14)), some (.d (eI v16)), some (.d (eS s24)), none, none]) (xs_if (b := (decide ((v16 % (3 : Int)) = (1 : Int)))) (q_cmpT hr (d1 := (eI (v16 % (3 : Int)))) (d2 := (eI (1 : Int))) (xd_mod (n_var hN (.there (.there (.there (.there (.there (.there (.there (.there (.here)))))))))) xd_int (by decide)) xd_int (.of CmpD.eqI)) (fun hc => ?_) (fun hc => ?_)) ?_
      · have h := ifT q24 hc
        obtain ⟨v25, q25, h⟩ := obS h
        obtain ⟨v26, q26, h⟩ := obS h
        refine xb_cons ?_
        refine n_set (d := (eS v26)) (xm_lix (en := eS) (xs := v8) (n_var hN (.there (.there (.there (.there (.there (.here))))))) (xd_mod (xm_lix (en := eI) (xs := v1) (n_var hN (.there (.there (.there (.there (.here)))))) (xd_add xd_int (xd_mul xd_int (n_var hN (.there (.there (.there (.there (.there (.there (.there (.here))))))))) (Or.inl ⟨by decide, by decide⟩))) q25) xd_int (by decide)) q26) hN nd (.there (.there (.there (.there (.there (.there (.there (.there (.there (.there (.here))))))))))) ?_
        obtain ⟨v29, q29, h⟩ := obS h
        obtain ⟨v30, q30, h⟩ := obS h
        obtain ⟨v31, q31, h⟩ := obS h
        obtain ⟨v32, q32, h⟩ := obS h
        obtain ⟨v33, q33, h⟩ := obS h
        obtain ⟨v34, q34, h⟩ := obS h
        obtain ⟨v35, q35, h⟩ := obS h
        obtain ⟨v36, q36, h⟩ := obS h
        refine xb_cons ?_
        refine n_set (d := (eS v36)) (xm_sadd (xm_sadd (xm_lix (en := eS) (xs := v8) (n_var hN (.there (.there (.there (.there (.there (.here))))))) (xd_mod (xm_lix (en := eI) (xs := v1) (n_var hN (.there (.there (.there (.there (.here)))))) (xd_add xd_int (xd_mul xd_int (n_var hN (.there (.there (.there (.there (.there (.there (.there (.here))))))))) (Or.inl ⟨by decide, by decide⟩))) q29) xd_int (by decide)) q30) (xm_smul (n_var hN (.there (.there (.there (.there (.there (.there (.there (.there (.there (.there (.here)))))))))))) (xd_mod (xm_lix (en := eI) (xs := v1) (n_var hN (.there (.there (.there (.there (.here)))))) (xd_add xd_int (xd_mul xd_int (n_var hN (.there (.there (.there (.there (.there (.there (.there (.here))))))))) (Or.inl ⟨by decide, by decide⟩))) q31) xd_int (by decide)) q32) q33) (xm_lix (en := eS) (xs := v8) (n_var hN (.there (.there (.there (.there (.there (.here))))))) (xd_mod (xd_div (xm_lix (en := eI) (xs := v1) (n_var hN (.there (.there (.there (.there (.here)))))) (xd_add xd_int (xd_mul xd_int (n_var hN (.there (.there (.there (.there (.there (.there (.there (.here))))))))) (Or.inl ⟨by decide, by decide⟩))) q34) xd_int ⟨by decide, by decide⟩) xd_int (by decide)) q35) q36) hN nd (.there (.there (.there (.there (.there (.there (.there (.there (.there (.here)))))))))) ?_
        refine xb_fg (.keep (.keep (.keep (.keep (.keep (.keep (.keep (.keep (.keep (.keep (.drop (.keep (Fg.nil))))))))))))) ?_
        refine xb_nil ?_
        obtain rfl := Option.some.inj h
        exact ⟨_, rfl, rfl⟩
      · have h := ifF q24 hc
        obtain ⟨v39, q39, h⟩ := obS h
        obtain ⟨v40, q40, h⟩ := obS h
        obtain ⟨v41, q41, h⟩ := obS h
        obtain ⟨v42, q42, h⟩ := obS h
        obtain ⟨v43, q43, h⟩ := obS h
        obtain ⟨v44, q44, h⟩ := obS h
        obtain ⟨v45, q45, h⟩ := obS h
        obtain ⟨v46, q46, h⟩ := obS h
        refine xb_cons ?_
        refine n_set (d := (eS v46)) (xm_sadd (xm_sadd (xm_lix (en := eS) (xs := v8) (n_var hN (.there (.there (.there (.there (.there (.here))))))) (xd_mod (xm_lix (en := eI) (xs := v1) (n_var hN (.there (.there (.there (.there (.here)))))) (xd_add xd_int (xd_mul xd_int (n_var hN (.there (.there (.there (.there (.there (.there (.there (.here))))))))) (Or.inl ⟨by decide, by decide⟩))) q39) xd_int (by decide)) q40) (xd_call D_law_word hr (i := (v41, letters_p, (2 : Int), v42)) (d := (eS v42)) (xa_cons (d := (eI v41)) (xm_lix (en := eI) (xs := v1) (n_var hN (.there (.there (.there (.there (.here)))))) (xd_add xd_int (xd_mul xd_int (n_var hN (.there (.there (.there (.there (.there (.there (.there (.here))))))))) (Or.inl ⟨by decide, by decide⟩))) q41) (xa_cons (d := ((eL eS) letters_p)) (n_var hN (.there (.here))) (xa_cons (d := (eI (2 : Int))) xd_int xa_nil hs_Constant) hs_Name) hs_Subscript) q42 (fun _ h => h)) q43) (xm_lix (en := eS) (xs := v8) (n_var hN (.there (.there (.there (.there (.there (.here))))))) (xd_mod (xm_lix (en := eI) (xs := v1) (n_var hN (.there (.there (.there (.there (.here)))))) (xd_add xd_int (xd_mul xd_int (n_var hN (.there (.there (.there (.there (.there (.there (.there (.here))))))))) (Or.inl ⟨by decide, by decide⟩))) q44) xd_int (by decide)) q45) q46) hN nd (.there (.there (.there (.there (.there (.there (.there (.there (.there (.here)))))))))) ?_
        refine xb_nil ?_
        obtain rfl := Option.some.inj h
        exact ⟨_, rfl, rfl⟩
      rintro _ ⟨s24, hs0, rfl⟩
      rw [hs0] at h
      have h := jnI h
      refine xb_nil ?_
      obtain rfl := Option.some.inj h
      exact ⟨_, rfl, rfl⟩
    rintro _ ⟨s19, hs0, rfl⟩
    rw [hs0] at h
    have h := jnI h
    obtain ⟨v49, q49, h⟩ := obS h
    obtain ⟨runs_50, q51, h⟩ := obS h
    refine xb_cons ?_
    refine nm_append (en := eS) (y := v49) hN (.there (.there (.there (.there (.there (.there (.here))))))) (xm_scut (n_var hN (.there (.there (.there (.there (.there (.there (.there (.there (.there (.here))))))))))) xo_none (xo_some (n_var hN (.there (.there (.there (.here)))))) q49) q51 (.there (.there (.there (.there (.there (.there (.here))))))) nd ?_
    refine xb_fg (.keep (.keep (.keep (.keep (.keep (.keep (.keep (.drop (.drop (.drop (.keep (.keep (Fg.nil))))))))))))) ?_
    refine xb_nil ?_
    obtain rfl := Option.some.inj h
    exact ⟨_, rfl, rfl⟩
  · rw [hs] at h
    exact nomatch (jnR h)
  rintro _ ⟨s52, hs0, rfl⟩
  rw [hs0] at h
  have h := jnI h
  refine xb_cons ?_
  refine xs_ret (d := ((eV eS) s52)) (xd_lend hN nd (.there (.there (.there (.there (.there (.there (.here))))))) (.there (.there (.there (.there (.there (.there (.here))))))) (xd_tupleL (n_var hN (.there (.there (.there (.there (.there (.there (.here)))))))) z_tuple) ((nl_V nl_S) _)) ?_
  obtain rfl := Option.some.inj h
  exact rfl
set_option maxHeartbeats 4000000 in
theorem ok_law_k {f : Addr} {fd : FuncData} (F : Fun K "_law_k" "_law_k" s_law_k f fd) (B : L2.Binds K fd ["draw"] []) (g : mg "_law_k" = some (.ref f)) (T : Bi mg) : DefOk P w K mg base "_law_k" 1 C_law_k := by
  obtain ⟨z_max, z_len, z_all, z_range, z_min, z_abs, z_int, z_isinstance, z_bool, z_str, z_sorted, z_tuple, z_list⟩ := T
  refine defOk_mk F B g sc_law_k ?_
  intro cdv A outer s H E hr hN nd ii hok
  obtain ⟨draw_p, res⟩ := ii
  have h : m_law_k draw_p = some res := hok
  unfold m_law_k at h
  show XB _ _ [some (.d (eI draw_p))] _
  refine xb_cons ?_
  refine xs_if (b := (decide ((draw_p % (12 : Int)) = (11 : Int)))) (q_cmpT hr (d1 := (eI (draw_p % (12 : Int)))) (d2 := (eI (11 : Int))) (xd_mod (xd_int1 (n_var hN (.here)) z_int) xd_int (by decide)) xd_int (.of CmpD.eqI)) (fun hc => ?_) (fun hc => ?_)
  · have h := ifT h hc
    refine xb_cons ?_
    refine xs_ret (d := (eI ((draw_p / (12 : Int)) % (21 : Int)))) (xd_mod (xd_div (xd_int1 (n_var hN (.here)) z_int) xd_int ⟨by decide, by decide⟩) xd_int (by decide)) ?_
    obtain rfl := Option.some.inj h
    exact rfl
  · have h := ifF h hc
    refine xb_nil ?_
    obtain ⟨v1, q1, h⟩ := obS h
    refine xb_cons ?_
    refine xs_ret (d := (eI v1)) (xm_vix (en := eI) (xs := ([(0 : Int), (1 : Int), (1 : Int), (2 : Int), (2 : Int), (3 : Int), (0 : Int), (1 : Int), (2 : Int), (4 : Int), (3 : Int)] : List Int)) (xd_tup (ds := [(eI (0 : Int)), (eI (1 : Int)), (eI (1 : Int)), (eI (2 : Int)), (eI (2 : Int)), (eI (3 : Int)), (eI (0 : Int)), (eI (1 : Int)), (eI (2 : Int)), (eI (4 : Int)), (eI (3 : Int))]) (xa_cons (d := (eI (0 : Int))) xd_int (xa_cons (d := (eI (1 : Int))) xd_int (xa_cons (d := (eI (1 : Int))) xd_int (xa_cons (d := (eI (2 : Int))) xd_int (xa_cons (d := (eI (2 : Int))) xd_int (xa_cons (d := (eI (3 : Int))) xd_int (xa_cons (d := (eI (0 : Int))) xd_int (xa_cons (d := (eI (1 : Int))) xd_int (xa_cons (d := (eI (2 : Int))) xd_int (xa_cons (d := (eI (4 : Int))) xd_int (xa_cons (d := (eI (3 : Int))) xd_int xa_nil hs_Constant) hs_Constant) hs_Constant) hs_Constant) hs_Constant) hs_Constant) hs_Constant) hs_Constant) hs_Constant) hs_Constant) hs_Constant) (show (11 : Nat) ≤ sizeLine by decide)) (xd_mod (xd_int1 (n_var hN (.here)) z_int) xd_int (by decide)) q1) ?_
    obtain rfl := Option.some.inj h
    exact rfl
set_option maxHeartbeats 4000000 in
theorem ok_law_seen {f : Addr} {fd : FuncData} (F : Fun K "_law_seen" "_law_seen" s_law_seen f fd) (B : L2.Binds K fd ["script", "at", "count", "longest"] []) (g : mg "_law_seen" = some (.ref f)) (T : Bi mg) (D_law_cell : DefOk P w K mg base "_law_cell" 1 C_law_cell) (D_law_draws : DefOk P w K mg base "_law_draws" 1 C_law_draws) (D_law_letters : DefOk P w K mg base "_law_letters" 1 C_law_letters) (D_law_runs : DefOk P w K mg base "_law_runs" 2 C_law_runs) (D_law_k : DefOk P w K mg base "_law_k" 1 C_law_k) : DefOk P w K mg base "_law_seen" 3 C_law_seen := by
  obtain ⟨z_max, z_len, z_all, z_range, z_min, z_abs, z_int, z_isinstance, z_bool, z_str, z_sorted, z_tuple, z_list⟩ := T
  have D_law_cell := D_law_cell.mono (k := 2) (by decide)
  have D_law_draws := D_law_draws.mono (k := 2) (by decide)
  have D_law_letters := D_law_letters.mono (k := 2) (by decide)
  have D_law_k := D_law_k.mono (k := 2) (by decide)
  refine defOk_mk F B g sc_law_seen ?_
  intro cdv A outer s H E hr hN nd ii hok
  obtain ⟨script_p, at_p, count_p, longest_p, res⟩ := ii
  have h : m_law_seen script_p at_p count_p longest_p = some res := hok
  unfold m_law_seen at h
  show XB _ _ [some (.d ((eL eI) script_p)), some (.d (eI at_p)), some (.d (eI count_p)), some (.d (eI longest_p)), none, none] _
  obtain ⟨v1, q1, h⟩ := obS h
  obtain ⟨v2, q2, h⟩ := obS h
  refine xb_cons ?_
  refine n_set (d := ((eL eI) v2)) (xd_call D_law_draws hr (i := (v1, (3 : Int), v2)) (d := ((eL eI) v2)) (xa_cons (d := (eI v1)) (xd_call D_law_cell hr (i := (script_p, at_p, v1)) (d := (eI v1)) (xa_cons (d := ((eL eI) script_p)) (n_var hN (.here)) (xa_cons (d := (eI at_p)) (n_var hN (.there (.here))) xa_nil hs_Name) hs_Name) q1 (fun _ h => h)) (xa_cons (d := (eI (3 : Int))) xd_int xa_nil hs_Constant) hs_Call) q2 (fun _ h => h)) hN nd (.there (.there (.there (.there (.here))))) ?_
  obtain ⟨v5, q5, h⟩ := obS h
  obtain ⟨v6, q6, h⟩ := obS h
  obtain ⟨v7, q7, h⟩ := obS h
  obtain ⟨v8, q8, h⟩ := obS h
  refine xb_cons ?_
  refine n_set (d := ((eL eS) v8)) (xd_call D_law_letters hr (i := (v5, v7, v8)) (d := ((eL eS) v8)) (xa_cons (d := (eI v5)) (xm_lix (en := eI) (xs := v2) (n_var hN (.there (.there (.there (.there (.here)))))) xd_int q5) (xa_cons (d := (eI v7)) (xm_vix (en := eI) (xs := ([(2 : Int), (1 : Int), (3 : Int), (2 : Int), (3 : Int), (6 : Int)] : List Int)) (xd_tup (ds := [(eI (2 : Int)), (eI (1 : Int)), (eI (3 : Int)), (eI (2 : Int)), (eI (3 : Int)), (eI (6 : Int))]) (xa_cons (d := (eI (2 : Int))) xd_int (xa_cons (d := (eI (1 : Int))) xd_int (xa_cons (d := (eI (3 : Int))) xd_int (xa_cons (d := (eI (2 : Int))) xd_int (xa_cons (d := (eI (3 : Int))) xd_int (xa_cons (d := (eI (6 : Int))) xd_int xa_nil hs_Constant) hs_Constant) hs_Constant) hs_Constant) hs_Constant) hs_Constant) (show (6 : Nat) ≤ sizeLine by decide)) (xd_mod (xd_int1 (xm_lix (en := eI) (xs := v2) (n_var hN (.there (.there (.there (.there (.here)))))) xd_int q6) z_int) xd_int (by decide)) q7) xa_nil hs_Subscript) hs_Subscript) q8 (fun _ h => h)) hN nd (.there (.there (.there (.there (.there (.here)))))) ?_
  obtain ⟨v11, q11, h⟩ := obS h
  obtain ⟨v12, q12, h⟩ := obS h
  obtain ⟨v13, q13, h⟩ := obS h
  obtain ⟨v14, q14, h⟩ := obS h
  refine xb_cons ?_
  refine xs_ret (d := ((eP3 (eL eS) (eV eS) eI) (v8, v12, v14))) (xd_tup (ds := [((eL eS) v8), ((eV eS) v12), (eI v14)]) (xa_cons (d := ((eL eS) v8)) (n_var hN (.there (.there (.there (.there (.there (.here))))))) (xa_cons (d := ((eV eS) v12)) (xd_call D_law_runs hr (i := (v11, v8, count_p, longest_p, v12)) (d := ((eV eS) v12)) (xa_cons (d := (eI v11)) (xd_call D_law_cell hr (i := (script_p, (at_p + (1 : Int)), v11)) (d := (eI v11)) (xa_cons (d := ((eL eI) script_p)) (n_var hN (.here)) (xa_cons (d := (eI (at_p + (1 : Int)))) (xd_add (n_var hN (.there (.here))) xd_int) xa_nil hs_BinOp) hs_Name) q11 (fun _ h => h)) (xa_cons (d := ((eL eS) v8)) (n_var hN (.there (.there (.there (.there (.there (.here))))))) (xa_cons (d := (eI count_p)) (n_var hN (.there (.there (.here)))) (xa_cons (d := (eI longest_p)) (n_var hN (.there (.there (.there (.here))))) xa_nil hs_Name) hs_Name) hs_Name) hs_Call) q12 (fun _ h => h)) (xa_cons (d := (eI v14)) (xd_call D_law_k hr (i := (v13, v14)) (d := (eI v14)) (xa_cons (d := (eI v13)) (xm_lix (en := eI) (xs := v2) (n_var hN (.there (.there (.there (.there (.here)))))) xd_int q13) xa_nil hs_Subscript) q14 (fun _ h => h)) xa_nil hs_Call) hs_Call) hs_Name) (show (3 : Nat) ≤ sizeLine by decide)) ?_
  obtain rfl := Option.some.inj h
  exact rfl
set_option maxHeartbeats 4000000 in
theorem ok_law_fit {f : Addr} {fd : FuncData} (F : Fun K "_law_fit" "_law_fit" s_law_fit f fd) (B : L2.Binds K fd ["runs", "most"] []) (g : mg "_law_fit" = some (.ref f)) (T : Bi mg) : DefOk P w K mg base "_law_fit" 1 C_law_fit := by
  obtain ⟨z_max, z_len, z_all, z_range, z_min, z_abs, z_int, z_isinstance, z_bool, z_str, z_sorted, z_tuple, z_list⟩ := T
  refine defOk_mk F B g sc_law_fit ?_
  intro cdv A outer s H E hr hN nd ii hok
  obtain ⟨runs_p, most_p, res⟩ := ii
  have h : m_law_fit runs_p most_p = some res := hok
  unfold m_law_fit at h
  show XB _ _ [some (.d ((eL eS) runs_p)), some (.d (eI most_p)), none, none, none] _
  obtain ⟨kept_1, q2, h⟩ := obS h
  refine xb_cons ?_
  refine n_setL (xs := List.map eS kept_1) (xl_to (xl_lst (ds := []) xa_nil (show (0 : Nat) ≤ sizeLine by decide)) (by cases q2; rfl)) hN nd (.there (.there (.here))) ?_
  obtain ⟨left_3, q4, h⟩ := obS h
  refine xb_cons ?_
  refine n_set (d := (eI left_3)) (XD.o (en := eI) (v := most_p) (n_var hN (.there (.here))) q4) hN nd (.there (.there (.there (.here)))) ?_
  obtain ⟨c13, q13, h⟩ := obS h
  refine xb_cut (M := fun e => ∃ s6 : ((List Str) × Int), c13 = Sum.inl s6 ∧ e = [some (.d ((eL eS) runs_p)), some (.d (eI most_p)), some (.l (List.map eS s6.1)), some (.d (eI s6.2)), none]) (nm_for (s0 := (kept_1, left_3)) (en := eS) (eR := eN) (js := [4]) (eX := fun s6 y5 => [some (.d ((eL eS) runs_p)), some (.d (eI most_p)), some (.l (List.map eS s6.1)), some (.d (eI s6.2)), some (.d (eS y5))]) q13 (fun s6 => [some (.d ((eL eS) runs_p)), some (.d (eI most_p)), some (.l (List.map eS s6.1)), some (.d (eI s6.2)), none]) (it_list (en := eS) (n_var hN (.here))) (fun s6 y5 => (n_gname hN nd (.there (.there (.there (.there (.here))))))) (fun y5 s6 r h => ?_) (fun s0 hs => ⟨s0, hs, rfl⟩) (fun r0 hs => ?_)) ?_
  · skip
    obtain ⟨v7, q7, h⟩ := obS h
    refine xb_cons ?_
    refine xs_if (b := (decide (v7 ≤ s6.2))) (q_cmpT hr (d1 := (eI v7)) (d2 := (eI s6.2)) (xm_slen (n_var hN (.there (.there (.there (.there (.here)))))) q7 z_len) (n_var hN (.there (.there (.there (.here))))) (.of CmpD.leI)) (fun hc => ?_) (fun hc => ?_)
    · have h := ifT h hc
      obtain ⟨kept_8, q9, h⟩ := obS h
      refine xb_cons ?_
      refine nm_append (en := eS) (y := y5) hN (.there (.there (.here))) (n_var hN (.there (.there (.there (.there (.here)))))) q9 (.there (.there (.here))) nd ?_
      obtain ⟨v10, q10, h⟩ := obS h
      obtain ⟨left_11, q12, h⟩ := obS h
      refine xb_cons ?_
      refine n_set (d := (eI left_11)) (XD.o (en := eI) (v := (s6.2 - v10)) (xd_sub (n_var hN (.there (.there (.there (.here))))) (xm_slen (n_var hN (.there (.there (.there (.there (.here)))))) q10 z_len)) q12) hN nd (.there (.there (.there (.here)))) ?_
      refine xb_nil ?_
      refine xb_fg (.keep (.keep (.keep (.keep (.drop (Fg.nil)))))) ?_
      refine xb_nil ?_
      obtain rfl := Option.some.inj h
      exact ⟨_, rfl, rfl⟩
    · have h := ifF h hc
      refine xb_fg (.keep (.keep (.keep (.keep (.drop (Fg.nil)))))) ?_
      refine xb_cons ?_
      refine xs_break ?_
      obtain rfl := Option.some.inj h
      exact ⟨_, rfl, rfl⟩
  · rw [hs] at h
    exact nomatch (jnR h)
  rintro _ ⟨s13, hs0, rfl⟩
  rw [hs0] at h
  have h := jnI h
  refine xb_cons ?_
  refine xs_ret (d := ((eV eS) s13.1)) (xd_lend hN nd (.there (.there (.here))) (.there (.there (.here))) (xd_tupleL (n_var hN (.there (.there (.here)))) z_tuple) ((nl_V nl_S) _)) ?_
  obtain rfl := Option.some.inj h
  exact rfl
set_option maxHeartbeats 4000000 in
theorem ok_law_long_runs {f : Addr} {fd : FuncData} (F : Fun K "_law_long_runs" "_law_long_runs" s_law_long_runs f fd) (B : L2.Binds K fd ["cell", "letters"] []) (g : mg "_law_long_runs" = some (.ref f)) (T : Bi mg) (D_law_draws : DefOk P w K mg base "_law_draws" 1 C_law_draws) (D_law_word : DefOk P w K mg base "_law_word" 1 C_law_word) (D_law_fit : DefOk P w K mg base "_law_fit" 1 C_law_fit) : DefOk P w K mg base "_law_long_runs" 2 C_law_long_runs := by
  obtain ⟨z_max, z_len, z_all, z_range, z_min, z_abs, z_int, z_isinstance, z_bool, z_str, z_sorted, z_tuple, z_list⟩ := T
  refine defOk_mk F B g sc_law_long_runs ?_
  intro cdv A outer s H E hr hN nd ii hok
  obtain ⟨cell_p, letters_p, res⟩ := ii
  have h : m_law_long_runs cell_p letters_p = some res := hok
  unfold m_law_long_runs at h
  show XB _ _ [some (.d (eI cell_p)), some (.d ((eL eS) letters_p)), none, none, none, none, none, none, none, none, none, none, none, none] _
  obtain ⟨v1, q1, h⟩ := obS h
  refine xb_cons ?_
  refine n_set (d := ((eL eI) v1)) (xd_call D_law_draws hr (i := (cell_p, (70 : Int), v1)) (d := ((eL eI) v1)) (xa_cons (d := (eI cell_p)) (n_var hN (.here)) (xa_cons (d := (eI (70 : Int))) xd_int xa_nil hs_Constant) hs_Name) q1 (fun _ h => h)) hN nd (.there (.there (.here))) ?_
  obtain ⟨v4, q4, h⟩ := obS h
  obtain ⟨kind_5, q6, h⟩ := obS h
  refine xb_cons ?_
  refine n_set (d := (eI kind_5)) (XD.o (en := eI) (v := (v4 % (4 : Int))) (xd_mod (xd_int1 (xm_lix (en := eI) (xs := v1) (n_var hN (.there (.there (.here)))) xd_int q4) z_int) xd_int (by decide)) q6) hN nd (.there (.there (.there (.here)))) ?_
  obtain ⟨base_7, q8, h⟩ := obS h
  refine xb_cons ?_
  refine n_set (d := (eS base_7)) (XD.o (en := eS) (v := ("" : Str)) xd_str q8) hN nd (.there (.there (.there (.there (.here))))) ?_
  obtain ⟨v9, q9, h⟩ := obS h
  obtain ⟨v10, q10, h⟩ := obS h
  obtain ⟨c19, q19, h⟩ := obS h
  refine xb_cut (M := fun e => ∃ s12 : (Str), c19 = Sum.inl s12 ∧ e = [some (.d (eI cell_p)), some (.d ((eL eS) letters_p)), some (.d ((eL eI) v1)), some (.d (eI kind_5)), some (.d (eS s12)), none, none, none, none, none, none, none, none, none]) (nm_for (s0 := (base_7)) (en := eI) (eR := eN) (js := [5]) (eX := fun s12 y11 => [some (.d (eI cell_p)), some (.d ((eL eS) letters_p)), some (.d ((eL eI) v1)), some (.d (eI kind_5)), some (.d (eS s12)), some (.d (eI y11)), none, none, none, none, none, none, none, none]) q19 (fun s12 => [some (.d (eI cell_p)), some (.d ((eL eS) letters_p)), some (.d ((eL eI) v1)), some (.d (eI kind_5)), some (.d (eS s12)), none, none, none, none, none, none, none, none, none]) (it_rng1 (xd_sub xd_int (xd_mod (xd_div (xd_int1 (xm_lix (en := eI) (xs := v1) (n_var hN (.there (.there (.here)))) xd_int q9) z_int) xd_int ⟨by decide, by decide⟩) xd_int (by decide))) q10 z_range) (fun s12 y11 => (n_gname hN nd (.there (.there (.there (.there (.there (.here)))))))) (fun y11 s12 r h => ?_) (fun s0 hs => ⟨s0, hs, rfl⟩) (fun r0 hs => ?_)) ?_
  · skip
    obtain ⟨v13, q13, h⟩ := obS h
    obtain ⟨v14, q14, h⟩ := obS h
    obtain ⟨v15, q15, h⟩ := obS h
    obtain ⟨v16, q16, h⟩ := obS h
    refine xb_cons ?_
    refine n_set (d := (eS v16)) (xm_sadd (n_var hN (.there (.there (.there (.there (.here)))))) (xm_lix (en := eS) (xs := letters_p) (n_var hN (.there (.here))) (xm_mod (xd_int1 (xm_lix (en := eI) (xs := v1) (n_var hN (.there (.there (.here)))) (xd_add xd_int (n_var hN (.there (.there (.there (.there (.there (.here)))))))) q13) z_int) (xm_llen (en := eS) (n_var hN (.there (.here))) z_len) q14) q15) q16) hN nd (.there (.there (.there (.there (.here))))) ?_
    refine xb_fg (.keep (.keep (.keep (.keep (.keep (.drop (.keep (.keep (.keep (.keep (.keep (.keep (.keep (.keep (Fg.nil))))))))))))))) ?_
    refine xb_nil ?_
    obtain rfl := Option.some.inj h
    exact ⟨_, rfl, rfl⟩
  · rw [hs] at h
    exact nomatch (jnR h)
  rintro _ ⟨s19, hs0, rfl⟩
  rw [hs0] at h
  have h := jnI h
  obtain ⟨v21, q21, h⟩ := obS h
  refine xb_cons ?_
  refine xs_if (b := v21) (XW.t (xw_andM (a := (decide (kind_5 = (0 : Int)))) (q_cmpT hr (d1 := (eI kind_5)) (d2 := (eI (0 : Int))) (n_var hN (.there (.there (.there (.here))))) xd_int (.of CmpD.eqI)) (fun hc b' h => by obtain ⟨v20, q20, h⟩ := obS h; obtain rfl := Option.some.inj h; exact (xw_and1 (q_cmpT hr (d1 := (eI (v20 % (8 : Int)))) (d2 := (eI (0 : Int))) (xd_mod (xd_int1 (xm_lix (en := eI) (xs := v1) (n_var hN (.there (.there (.here)))) xd_int q20) z_int) xd_int (by decide)) xd_int (.of CmpD.eqI)))) q21)) (fun hc => ?_) (fun hc => ?_)
  · have h := ifT h hc
    refine xb_cons ?_
    refine xs_ret (d := ((eV eS) ([s19] : List Str))) (xd_tup (ds := [(eS s19)]) (xa_cons (d := (eS s19)) (n_var hN (.there (.there (.there (.there (.here)))))) xa_nil hs_Name) (show (1 : Nat) ≤ sizeLine by decide)) ?_
    obtain rfl := Option.some.inj h
    exact rfl
  · have h := ifF h hc
    refine xb_nil ?_
    refine xb_cons ?_
    refine xs_if (b := (decide (kind_5 = (0 : Int)))) (q_cmpT hr (d1 := (eI kind_5)) (d2 := (eI (0 : Int))) (n_var hN (.there (.there (.there (.here))))) xd_int (.of CmpD.eqI)) (fun hc => ?_) (fun hc => ?_)
    · have h := ifT h hc
      obtain ⟨v22, q22, h⟩ := obS h
      obtain ⟨v23, q23, h⟩ := obS h
      refine xb_cons ?_
      refine n_set (d := (eS v23)) (xm_scut (n_var hN (.there (.there (.there (.there (.here)))))) xo_none (xo_some (xd_add xd_int (xd_mod (xd_int1 (xm_lix (en := eI) (xs := v1) (n_var hN (.there (.there (.here)))) xd_int q22) z_int) xd_int (by decide)))) q23) hN nd (.there (.there (.there (.there (.there (.there (.here))))))) ?_
      obtain ⟨v26, q26, h⟩ := obS h
      obtain ⟨v27, q27, h⟩ := obS h
      obtain ⟨v28, q28, h⟩ := obS h
      obtain ⟨v29, q29, h⟩ := obS h
      obtain ⟨v30, q30, h⟩ := obS h
      obtain ⟨v31, q31, h⟩ := obS h
      obtain ⟨v32, q32, h⟩ := obS h
      obtain ⟨v33, q33, h⟩ := obS h
      obtain ⟨v34, q34, h⟩ := obS h
      refine xb_cons ?_
      refine n_set (d := (eS v34)) (xm_sadd (xm_scut (n_var hN (.there (.there (.there (.there (.there (.there (.here)))))))) xo_none (xo_some (xm_mod (xd_int1 (xm_lix (en := eI) (xs := v1) (n_var hN (.there (.there (.here)))) xd_int q26) z_int) (xd_add (xm_slen (n_var hN (.there (.there (.there (.there (.there (.there (.here)))))))) q27 z_len) xd_int) q28)) q29) (xm_scut (n_var hN (.there (.there (.there (.there (.there (.there (.here)))))))) (xo_some (xm_mod (xd_int1 (xm_lix (en := eI) (xs := v1) (n_var hN (.there (.there (.here)))) xd_int q30) z_int) (xd_add (xm_slen (n_var hN (.there (.there (.there (.there (.there (.there (.here)))))))) q31 z_len) xd_int) q32)) xo_none q33) q34) hN nd (.there (.there (.there (.there (.there (.there (.there (.here)))))))) ?_
      obtain ⟨v37, q37, h⟩ := obS h
      obtain ⟨v38, q38, h⟩ := obS h
      obtain ⟨v39, q39, h⟩ := obS h
      obtain ⟨v40, q40, h⟩ := obS h
      obtain ⟨v41, q41, h⟩ := obS h
      refine xb_cons ?_
      refine n_set (d := (eS v41)) (xm_sadd (xm_scut (n_var hN (.there (.there (.there (.there (.there (.there (.here)))))))) (xo_some (xm_mod (xd_int1 (xm_lix (en := eI) (xs := v1) (n_var hN (.there (.there (.here)))) xd_int q37) z_int) (xm_slen (n_var hN (.there (.there (.there (.there (.there (.there (.here)))))))) q38 z_len) q39)) xo_none q40) (n_var hN (.there (.there (.there (.there (.there (.there (.here)))))))) q41) hN nd (.there (.there (.there (.there (.there (.there (.there (.there (.here))))))))) ?_
      obtain ⟨v44, q44, h⟩ := obS h
      obtain ⟨v45, q45, h⟩ := obS h
      refine xb_cons ?_
      refine xs_ret (d := ((eV eS) ([v23, v44, v45] : List Str))) (xd_tup (ds := [(eS v23), (eS v44), (eS v45)]) (xa_cons (d := (eS v23)) (n_var hN (.there (.there (.there (.there (.there (.there (.here)))))))) (xa_cons (d := (eS v44)) (xm_scut (n_var hN (.there (.there (.there (.there (.there (.there (.there (.here))))))))) xo_none (xo_some xd_int) q44) (xa_cons (d := (eS v45)) (xm_scut (n_var hN (.there (.there (.there (.there (.there (.there (.there (.there (.here)))))))))) xo_none (xo_some xd_int) q45) xa_nil hs_Subscript) hs_Subscript) hs_Name) (show (3 : Nat) ≤ sizeLine by decide)) ?_
      obtain rfl := Option.some.inj h
      exact rfl
    · have h := ifF h hc
      refine xb_nil ?_
      refine xb_cons ?_
      refine xs_if (b := (decide (kind_5 = (1 : Int)))) (q_cmpT hr (d1 := (eI kind_5)) (d2 := (eI (1 : Int))) (n_var hN (.there (.there (.there (.here))))) xd_int (.of CmpD.eqI)) (fun hc => ?_) (fun hc => ?_)
      · have h := ifT h hc
        obtain ⟨v46, q46, h⟩ := obS h
        obtain ⟨v47, q47, h⟩ := obS h
        obtain ⟨v48, q48, h⟩ := obS h
        obtain ⟨v49, q49, h⟩ := obS h
        refine xb_cons ?_
        refine n_set (d := (eS v49)) (xm_sadd (xd_call D_law_word hr (i := (v46, letters_p, (4 : Int), v47)) (d := (eS v47)) (xa_cons (d := (eI v46)) (xm_lix (en := eI) (xs := v1) (n_var hN (.there (.there (.here)))) xd_int q46) (xa_cons (d := ((eL eS) letters_p)) (n_var hN (.there (.here))) (xa_cons (d := (eI (4 : Int))) xd_int xa_nil hs_Constant) hs_Name) hs_Subscript) q47 (fun _ h => h)) (xm_lix (en := eS) (xs := letters_p) (n_var hN (.there (.here))) xd_int q48) q49) hN nd (.there (.there (.there (.there (.there (.there (.there (.there (.there (.here)))))))))) ?_
        obtain ⟨v52, q52, h⟩ := obS h
        obtain ⟨v53, q53, h⟩ := obS h
        refine xb_cons ?_
        refine n_set (d := (eS v53)) (xd_call D_law_word hr (i := (v52, letters_p, (3 : Int), v53)) (d := (eS v53)) (xa_cons (d := (eI v52)) (xm_lix (en := eI) (xs := v1) (n_var hN (.there (.there (.here)))) xd_int q52) (xa_cons (d := ((eL eS) letters_p)) (n_var hN (.there (.here))) (xa_cons (d := (eI (3 : Int))) xd_int xa_nil hs_Constant) hs_Name) hs_Subscript) q53 (fun _ h => h)) hN nd (.there (.there (.there (.there (.there (.there (.there (.there (.there (.there (.here))))))))))) ?_
        obtain ⟨v56, q56, h⟩ := obS h
        obtain ⟨v57, q57, h⟩ := obS h
        obtain ⟨v58, q58, h⟩ := obS h
        obtain ⟨v59, q59, h⟩ := obS h
        obtain ⟨v60, q60, h⟩ := obS h
        obtain ⟨v61, q61, h⟩ := obS h
        obtain ⟨v62, q62, h⟩ := obS h
        refine xb_cons ?_
        refine xs_ret (d := ((eV eS) ([v59, v62] : List Str))) (xd_tup (ds := [(eS v59), (eS v62)]) (xa_cons (d := (eS v59)) (xm_sadd (n_var hN (.there (.there (.there (.there (.there (.there (.there (.there (.there (.there (.here)))))))))))) (xm_scut (xm_smul (n_var hN (.there (.there (.there (.there (.there (.there (.there (.there (.there (.here))))))))))) xd_int q56) xo_none (xo_some (xd_sub xd_int (xd_mod (xd_int1 (xm_lix (en := eI) (xs := v1) (n_var hN (.there (.there (.here)))) xd_int q57) z_int) xd_int (by decide)))) q58) q59) (xa_cons (d := (eS v62)) (xm_sadd (n_var hN (.there (.there (.there (.there (.there (.there (.there (.there (.there (.there (.here)))))))))))) (xm_smul (n_var hN (.there (.there (.there (.there (.there (.there (.there (.there (.there (.here))))))))))) (xd_add xd_int (xd_mod (xd_int1 (xm_lix (en := eI) (xs := v1) (n_var hN (.there (.there (.here)))) xd_int q60) z_int) xd_int (by decide))) q61) q62) xa_nil hs_BinOp) hs_BinOp) (show (2 : Nat) ≤ sizeLine by decide)) ?_
        obtain rfl := Option.some.inj h
        exact rfl
      · have h := ifF h hc
        refine xb_nil ?_
        refine xb_cons ?_
        refine xs_if (b := (decide (kind_5 = (2 : Int)))) (q_cmpT hr (d1 := (eI kind_5)) (d2 := (eI (2 : Int))) (n_var hN (.there (.there (.there (.here))))) xd_int (.of CmpD.eqI)) (fun hc => ?_) (fun hc => ?_)
        · have h := ifT h hc
          obtain ⟨runs_63, q64, h⟩ := obS h
          refine xb_cons ?_
          refine n_setL (xs := List.map eS runs_63) (xl_to (xl_lst (ds := []) xa_nil (show (0 : Nat) ≤ sizeLine by decide)) (by cases q64; rfl)) hN nd (.there (.there (.there (.there (.there (.there (.there (.there (.there (.there (.there (.here)))))))))))) ?_
          obtain ⟨v65, q65, h⟩ := obS h
          obtain ⟨c86, q86, h⟩ := obS h
          refine xb_cut (M := fun e => ∃ s67 : ((List Str)), c86 = Sum.inl s67 ∧ e = [some (.d (eI cell_p)), some (.d ((eL eS) letters_p)), some (.d ((eL eI) v1)), some (.d (eI kind_5)), some (.d (eS s19)), none, none, none, none, none, none, some (.l (List.map eS s67)), none, none]) (nm_for (s0 := (runs_63)) (en := eI) (eR := eN) (js := [12]) (eX := fun s67 y66 => [some (.d (eI cell_p)), some (.d ((eL eS) letters_p)), some (.d ((eL eI) v1)), some (.d (eI kind_5)), some (.d (eS s19)), none, none, none, none, none, none, some (.l (List.map eS s67)), some (.d (eI y66)), none]) q86 (fun s67 => [some (.d (eI cell_p)), some (.d ((eL eS) letters_p)), some (.d ((eL eI) v1)), some (.d (eI kind_5)), some (.d (eS s19)), none, none, none, none, none, none, some (.l (List.map eS s67)), none, none]) (it_rng1 xd_int q65 z_range) (fun s67 y66 => (n_gname hN nd (.there (.there (.there (.there (.there (.there (.there (.there (.there (.there (.there (.there (.here))))))))))))))) (fun y66 s67 r h => ?_) (fun s0 hs => ⟨s0, hs, rfl⟩) (fun r0 hs => ?_)) ?_
          · skip
            obtain ⟨v68, q68, h⟩ := obS h
            obtain ⟨v69, q69, h⟩ := obS h
            obtain ⟨v70, q70, h⟩ := obS h
            obtain ⟨v71, q71, h⟩ := obS h
            obtain ⟨v72, q72, h⟩ := obS h
            obtain ⟨v73, q73, h⟩ := obS h
            refine xb_cons ?_
            refine n_set (d := (eS v73)) (xm_sadd (xd_call D_law_word hr (i := (v68, letters_p, (3 : Int), v69)) (d := (eS v69)) (xa_cons (d := (eI v68)) (xm_lix (en := eI) (xs := v1) (n_var hN (.there (.there (.here)))) (xd_add xd_int (xd_mul xd_int (n_var hN (.there (.there (.there (.there (.there (.there (.there (.there (.there (.there (.there (.there (.here)))))))))))))) (Or.inl ⟨by decide, by decide⟩))) q68) (xa_cons (d := ((eL eS) letters_p)) (n_var hN (.there (.here))) (xa_cons (d := (eI (3 : Int))) xd_int xa_nil hs_Constant) hs_Name) hs_Subscript) q69 (fun _ h => h)) (xm_lix (en := eS) (xs := letters_p) (n_var hN (.there (.here))) (xm_mod (xd_int1 (xm_lix (en := eI) (xs := v1) (n_var hN (.there (.there (.here)))) (xd_add xd_int (xd_mul xd_int (n_var hN (.there (.there (.there (.there (.there (.there (.there (.there (.there (.there (.there (.there (.here)))))))))))))) (Or.inl ⟨by decide, by decide⟩))) q70) z_int) (xm_llen (en := eS) (n_var hN (.there (.here))) z_len) q71) q72) q73) hN nd (.there (.there (.there (.there (.there (.there (.there (.there (.there (.here)))))))))) ?_
            obtain ⟨v76, q76, h⟩ := obS h
            obtain ⟨v77, q77, h⟩ := obS h
            refine xb_cons ?_
            refine n_set (d := (eS v77)) (xd_call D_law_word hr (i := (v76, letters_p, (3 : Int), v77)) (d := (eS v77)) (xa_cons (d := (eI v76)) (xm_lix (en := eI) (xs := v1) (n_var hN (.there (.there (.here)))) (xd_add xd_int (xd_mul xd_int (n_var hN (.there (.there (.there (.there (.there (.there (.there (.there (.there (.there (.there (.there (.here)))))))))))))) (Or.inl ⟨by decide, by decide⟩))) q76) (xa_cons (d := ((eL eS) letters_p)) (n_var hN (.there (.here))) (xa_cons (d := (eI (3 : Int))) xd_int xa_nil hs_Constant) hs_Name) hs_Subscript) q77 (fun _ h => h)) hN nd (.there (.there (.there (.there (.there (.there (.there (.there (.there (.there (.there (.there (.there (.here)))))))))))))) ?_
            obtain ⟨v80, q80, h⟩ := obS h
            obtain ⟨v81, q81, h⟩ := obS h
            obtain ⟨v82, q82, h⟩ := obS h
            obtain ⟨v83, q83, h⟩ := obS h
            obtain ⟨runs_84, q85, h⟩ := obS h
            refine xb_cons ?_
            refine nm_append (en := eS) (y := v83) hN (.there (.there (.there (.there (.there (.there (.there (.there (.there (.there (.there (.here)))))))))))) (xm_sadd (xm_scut (xm_smul (n_var hN (.there (.there (.there (.there (.there (.there (.there (.there (.there (.here))))))))))) xd_int q80) xo_none (xo_some (xd_add xd_int (xd_mod (xd_int1 (xm_lix (en := eI) (xs := v1) (n_var hN (.there (.there (.here)))) (xd_add xd_int (xd_mul xd_int (n_var hN (.there (.there (.there (.there (.there (.there (.there (.there (.there (.there (.there (.there (.here)))))))))))))) (Or.inl ⟨by decide, by decide⟩))) q81) z_int) xd_int (by decide)))) q82) (n_var hN (.there (.there (.there (.there (.there (.there (.there (.there (.there (.there (.there (.there (.there (.here))))))))))))))) q83) q85 (.there (.there (.there (.there (.there (.there (.there (.there (.there (.there (.there (.here)))))))))))) nd ?_
            refine xb_fg (.keep (.keep (.keep (.keep (.keep (.keep (.keep (.keep (.keep (.drop (.keep (.keep (.drop (.drop (Fg.nil))))))))))))))) ?_
            refine xb_nil ?_
            obtain rfl := Option.some.inj h
            exact ⟨_, rfl, rfl⟩
          · rw [hs] at h
            exact nomatch (jnR h)
          rintro _ ⟨s86, hs0, rfl⟩
          rw [hs0] at h
          have h := jnI h
          obtain ⟨v87, q87, h⟩ := obS h
          refine xb_cons ?_
          refine xs_ret (d := ((eV eS) v87)) (xd_lend hN nd (.there (.there (.there (.there (.there (.there (.there (.there (.there (.there (.there (.here)))))))))))) (.there (.there (.there (.there (.there (.there (.there (.there (.there (.there (.there (.here)))))))))))) (xd_call D_law_fit hr (i := (s86, (60 : Int), v87)) (d := ((eV eS) v87)) (xa_cons (d := ((eL eS) s86)) (n_var hN (.there (.there (.there (.there (.there (.there (.there (.there (.there (.there (.there (.here))))))))))))) (xa_cons (d := (eI (60 : Int))) xd_int xa_nil hs_Constant) hs_Name) q87 (fun _ h => h)) ((nl_V nl_S) _)) ?_
          obtain rfl := Option.some.inj h
          exact rfl
        · have h := ifF h hc
          refine xb_nil ?_
          obtain ⟨v88, q88, h⟩ := obS h
          obtain ⟨v93, q93, h⟩ := obS h
          obtain ⟨v94, q94, h⟩ := obS h
          refine xb_cons ?_
          refine xs_ret (d := ((eV eS) v94)) (xd_call D_law_fit hr (i := (v93, (60 : Int), v94)) (d := ((eV eS) v94)) (xa_cons (d := ((eL eS) v93)) (XL.dat (nm_comp (S := defScope s_law_long_runs) (en := eI) (eb := eS) (eX := fun y89 => [some (.d (eI cell_p)), some (.d ((eL eS) letters_p)), some (.d ((eL eI) v1)), some (.d (eI kind_5)), some (.d (eS s19)), none, none, none, none, none, none, none, some (.d (eI y89)), none]) [(("r" : Str), 12)] q93 hN nd (it_rng1 xd_int q88 z_range) (by decide +kernel) (fun y89 s_ Hb C cl fp => (n_gname hN nd (.there (.there (.there (.there (.there (.there (.there (.there (.there (.there (.there (.there (.here))))))))))))))) (fun y89 r h s_ Hb C cl fp => by obtain ⟨v90, q90, h⟩ := obS h; obtain ⟨v91, q91, h⟩ := obS h; obtain ⟨v92, q92, h⟩ := obS h; exact XD.o (en := eS) (v := v92) (xd_call D_law_word hr (i := (v90, letters_p, ((1 : Int) + (v91 % (4 : Int))), v92)) (d := (eS v92)) (xa_cons (d := (eI v90)) (xm_lix (en := eI) (xs := v1) (n_var hN (.there (.there (.here)))) (xd_add xd_int (n_var hN (.there (.there (.there (.there (.there (.there (.there (.there (.there (.there (.there (.there (.here))))))))))))))) q90) (xa_cons (d := ((eL eS) letters_p)) (n_var hN (.there (.here))) (xa_cons (d := (eI ((1 : Int) + (v91 % (4 : Int))))) (xd_add xd_int (xd_mod (xd_int1 (xm_lix (en := eI) (xs := v1) (n_var hN (.there (.there (.here)))) xd_int q91) z_int) xd_int (by decide))) xa_nil hs_BinOp) hs_Name) hs_Subscript) q92 (fun _ h => h)) h))) (xa_cons (d := (eI (60 : Int))) xd_int xa_nil hs_Constant) hs_ListComp) q94 (fun _ h => h)) ?_
          obtain rfl := Option.some.inj h
          exact rfl
set_option maxHeartbeats 4000000 in
theorem ok_law_seen_any {f : Addr} {fd : FuncData} (F : Fun K "_law_seen_any" "_law_seen_any" s_law_seen_any f fd) (B : L2.Binds K fd ["script", "at", "count", "longest"] []) (g : mg "_law_seen_any" = some (.ref f)) (T : Bi mg) (D_law_seen : DefOk P w K mg base "_law_seen" 3 C_law_seen) (D_law_cell : DefOk P w K mg base "_law_cell" 1 C_law_cell) (D_law_draws : DefOk P w K mg base "_law_draws" 1 C_law_draws) (D_law_long_runs : DefOk P w K mg base "_law_long_runs" 2 C_law_long_runs) : DefOk P w K mg base "_law_seen_any" 4 C_law_seen_any := by
  obtain ⟨z_max, z_len, z_all, z_range, z_min, z_abs, z_int, z_isinstance, z_bool, z_str, z_sorted, z_tuple, z_list⟩ := T
  have D_law_cell := D_law_cell.mono (k := 3) (by decide)
  have D_law_draws := D_law_draws.mono (k := 3) (by decide)
  have D_law_long_runs := D_law_long_runs.mono (k := 3) (by decide)
  refine defOk_mk F B g sc_law_seen_any ?_
  intro cdv A outer s H E hr hN nd ii hok
  obtain ⟨script_p, at_p, count_p, longest_p, res⟩ := ii
  have h : m_law_seen_any script_p at_p count_p longest_p = some res := hok
  unfold m_law_seen_any at h
  show XB _ _ [some (.d ((eL eI) script_p)), some (.d (eI at_p)), some (.d (eI count_p)), some (.d (eI longest_p)), none] _
  obtain ⟨v1, q1, h⟩ := obS h
  refine xb_cons ?_
  refine n_set (d := ((eP3 (eL eS) (eV eS) eI) v1)) (xd_call D_law_seen hr (i := (script_p, at_p, count_p, longest_p, v1)) (d := ((eP3 (eL eS) (eV eS) eI) v1)) (xa_cons (d := ((eL eI) script_p)) (n_var hN (.here)) (xa_cons (d := (eI at_p)) (n_var hN (.there (.here))) (xa_cons (d := (eI count_p)) (n_var hN (.there (.there (.here)))) (xa_cons (d := (eI longest_p)) (n_var hN (.there (.there (.there (.here))))) xa_nil hs_Name) hs_Name) hs_Name) hs_Name) q1 (fun _ h => h)) hN nd (.there (.there (.there (.there (.here))))) ?_
  obtain ⟨v4, q4, h⟩ := obS h
  obtain ⟨v5, q5, h⟩ := obS h
  obtain ⟨v6, q6, h⟩ := obS h
  refine xb_cons ?_
  refine xs_if (b := (decide ((v6 % (8 : Int)) = (3 : Int)))) (q_cmpT hr (d1 := (eI (v6 % (8 : Int)))) (d2 := (eI (3 : Int))) (xd_mod (xd_int1 (xm_lix (en := eI) (xs := v5) (xd_call D_law_draws hr (i := (v4, (4 : Int), v5)) (d := ((eL eI) v5)) (xa_cons (d := (eI v4)) (xd_call D_law_cell hr (i := (script_p, at_p, v4)) (d := (eI v4)) (xa_cons (d := ((eL eI) script_p)) (n_var hN (.here)) (xa_cons (d := (eI at_p)) (n_var hN (.there (.here))) xa_nil hs_Name) hs_Name) q4 (fun _ h => h)) (xa_cons (d := (eI (4 : Int))) xd_int xa_nil hs_Constant) hs_Call) q5 (fun _ h => h)) xd_int q6) z_int) xd_int (by decide)) xd_int (.of CmpD.eqI)) (fun hc => ?_) (fun hc => ?_)
  · have h := ifT h hc
    obtain ⟨v7, q7, h⟩ := obS h
    obtain ⟨v8, q8, h⟩ := obS h
    refine xb_cons ?_
    refine xs_ret (d := ((eP3 (eL eS) (eV eS) eI) (v1.1, v8, v1.2.2))) (xd_tup (ds := [((eL eS) v1.1), ((eV eS) v8), (eI v1.2.2)]) (xa_cons (d := ((eL eS) v1.1)) (xd_ixT (n_var hN (.there (.there (.there (.there (.here)))))) xd_int rfl) (xa_cons (d := ((eV eS) v8)) (xd_call D_law_long_runs hr (i := (v7, v1.1, v8)) (d := ((eV eS) v8)) (xa_cons (d := (eI v7)) (xd_call D_law_cell hr (i := (script_p, (at_p + (1 : Int)), v7)) (d := (eI v7)) (xa_cons (d := ((eL eI) script_p)) (n_var hN (.here)) (xa_cons (d := (eI (at_p + (1 : Int)))) (xd_add (n_var hN (.there (.here))) xd_int) xa_nil hs_BinOp) hs_Name) q7 (fun _ h => h)) (xa_cons (d := ((eL eS) v1.1)) (xd_ixT (n_var hN (.there (.there (.there (.there (.here)))))) xd_int rfl) xa_nil hs_Subscript) hs_Call) q8 (fun _ h => h)) (xa_cons (d := (eI v1.2.2)) (xd_ixT (n_var hN (.there (.there (.there (.there (.here)))))) xd_int rfl) xa_nil hs_Subscript) hs_Call) hs_Subscript) (show (3 : Nat) ≤ sizeLine by decide)) ?_
    obtain rfl := Option.some.inj h
    exact rfl
  · have h := ifF h hc
    refine xb_nil ?_
    refine xb_cons ?_
    refine xs_ret (d := ((eP3 (eL eS) (eV eS) eI) v1)) (n_var hN (.there (.there (.there (.there (.here)))))) ?_
    obtain rfl := Option.some.inj h
    exact rfl
set_option maxHeartbeats 4000000 in
theorem ok_law_drawn_line {f : Addr} {fd : FuncData} (F : Fun K "_law_drawn_line" "_law_drawn_line" s_law_drawn_line f fd) (B : L2.Binds K fd ["known", "k", "draws"] []) (g : mg "_law_drawn_line" = some (.ref f)) (T : Bi mg) : DefOk P w K mg base "_law_drawn_line" 1 C_law_drawn_line := by
  obtain ⟨z_max, z_len, z_all, z_range, z_min, z_abs, z_int, z_isinstance, z_bool, z_str, z_sorted, z_tuple, z_list⟩ := T
  refine defOk_mk F B g sc_law_drawn_line ?_
  intro cdv A outer s H E hr hN nd ii hok
  obtain ⟨known_p, k_p, draws_p, res⟩ := ii
  have h : m_law_drawn_line known_p k_p draws_p = some res := hok
  unfold m_law_drawn_line at h
  show XB _ _ [some (.d ((eL eS) known_p)), some (.d (eI k_p)), some (.d ((eL eI) draws_p)), none, none, none, none, none, none, none, none, none, none] _
  obtain ⟨v1, q1, h⟩ := obS h
  obtain ⟨v2, q2, h⟩ := obS h
  refine xb_cons ?_
  refine n_set (d := (eI v2)) (xm_mod (xd_int1 (xm_lix (en := eI) (xs := draws_p) (n_var hN (.there (.there (.here)))) xd_int q1) z_int) (xm_llen (en := eS) (n_var hN (.here)) z_len) q2) hN nd (.there (.there (.there (.here)))) ?_
  obtain ⟨v5, q5, h⟩ := obS h
  refine xb_cons ?_
  refine n_set (d := (eS v5)) (xm_lix (en := eS) (xs := known_p) (n_var hN (.here)) (n_var hN (.there (.there (.there (.here))))) q5) hN nd (.there (.there (.there (.there (.here))))) ?_
  obtain ⟨found_8, q9, h⟩ := obS h
  refine xb_cons ?_
  refine n_setL (xs := List.map (eP3 eI eI eI) found_8) (xl_to (xl_lst (ds := []) xa_nil (show (0 : Nat) ≤ sizeLine by decide)) (by cases q9; rfl)) hN nd (.there (.there (.there (.there (.there (.here)))))) ?_
  obtain ⟨v10, q10, h⟩ := obS h
  obtain ⟨c35, q35, h⟩ := obS h
  refine xb_cut (M := fun e => ∃ s12 : ((List (Int × Int × Int))), c35 = Sum.inl s12 ∧ e = [some (.d ((eL eS) known_p)), some (.d (eI k_p)), some (.d ((eL eI) draws_p)), some (.d (eI v2)), some (.d (eS v5)), some (.l (List.map (eP3 eI eI eI) s12)), none, none, none, none, none, none, none]) (nm_for (s0 := (found_8)) (en := eI) (eR := eN) (js := [6]) (eX := fun s12 y11 => [some (.d ((eL eS) known_p)), some (.d (eI k_p)), some (.d ((eL eI) draws_p)), some (.d (eI v2)), some (.d (eS v5)), some (.l (List.map (eP3 eI eI eI) s12)), some (.d (eI y11)), none, none, none, none, none, none]) q35 (fun s12 => [some (.d ((eL eS) known_p)), some (.d (eI k_p)), some (.d ((eL eI) draws_p)), some (.d (eI v2)), some (.d (eS v5)), some (.l (List.map (eP3 eI eI eI) s12)), none, none, none, none, none, none, none]) (it_rng1 (xm_llen (en := eS) (n_var hN (.here)) z_len) q10 z_range) (fun s12 y11 => (n_gname hN nd (.there (.there (.there (.there (.there (.there (.here))))))))) (fun y11 s12 r h => ?_) (fun s0 hs => ⟨s0, hs, rfl⟩) (fun r0 hs => ?_)) ?_
  · skip
    obtain ⟨v13, q13, h⟩ := obS h
    obtain ⟨v14, q14, h⟩ := obS h
    obtain ⟨v15, q15, h⟩ := obS h
    obtain ⟨c34, q34, h⟩ := obS h
    refine xb_cut (M := fun e => ∃ s17 : ((List (Int × Int × Int))), c34 = Sum.inl s17 ∧ e = [some (.d ((eL eS) known_p)), some (.d (eI k_p)), some (.d ((eL eI) draws_p)), some (.d (eI v2)), some (.d (eS v5)), some (.l (List.map (eP3 eI eI eI) s17)), some (.d (eI y11)), none, none, none, none, none, none]) (nm_for (s0 := (s12)) (en := eI) (eR := eN) (js := [7]) (eX := fun s17 y16 => [some (.d ((eL eS) known_p)), some (.d (eI k_p)), some (.d ((eL eI) draws_p)), some (.d (eI v2)), some (.d (eS v5)), some (.l (List.map (eP3 eI eI eI) s17)), some (.d (eI y11)), some (.d (eI y16)), none, none, none, none, none]) q34 (fun s17 => [some (.d ((eL eS) known_p)), some (.d (eI k_p)), some (.d ((eL eI) draws_p)), some (.d (eI v2)), some (.d (eS v5)), some (.l (List.map (eP3 eI eI eI) s17)), some (.d (eI y11)), none, none, none, none, none, none]) (it_rng2 (n_var hN (.there (.here))) (xd_add (xm_slen (xm_lix (en := eS) (xs := known_p) (n_var hN (.here)) (n_var hN (.there (.there (.there (.there (.there (.there (.here)))))))) q13) q14 z_len) xd_int) q15 z_range) (fun s17 y16 => (n_gname hN nd (.there (.there (.there (.there (.there (.there (.there (.here)))))))))) (fun y16 s17 r h => ?_) (fun s0 hs => ⟨s0, hs, rfl⟩) (fun r0 hs => ?_)) ?_
    · skip
      obtain ⟨v18, q18, h⟩ := obS h
      obtain ⟨v19, q19, h⟩ := obS h
      obtain ⟨v20, q20, h⟩ := obS h
      obtain ⟨m_21, q22, h⟩ := obS h
      refine xb_cons ?_
      refine n_set (d := (eI m_21)) (XD.o (en := eI) (v := ((v18 - v20) + y16)) (xd_add (xd_sub (xm_slen (n_var hN (.there (.there (.there (.there (.here)))))) q18 z_len) (xm_slen (xm_lix (en := eS) (xs := known_p) (n_var hN (.here)) (n_var hN (.there (.there (.there (.there (.there (.there (.here)))))))) q19) q20 z_len)) (n_var hN (.there (.there (.there (.there (.there (.there (.there (.here)))))))))) q22) hN nd (.there (.there (.there (.there (.there (.there (.there (.there (.here))))))))) ?_
      obtain ⟨v30, q30, h⟩ := obS h
      obtain ⟨j31, q31, h⟩ := obS h
      have hj31 := h
      refine xb_cut (M := fun e => ∃ s31 : ((List (Int × Int × Int))), j31 = Sum.inl s31 ∧ e = [some (.d ((eL eS) known_p)), some (.d (eI k_p)), some (.d ((eL eI) draws_p)), some (.d (eI v2)), some (.d (eS v5)), some (.l (List.map (eP3 eI eI eI) s31)), some (.d (eI y11)), some (.d (eI y16)), some (.d (eI m_21)), none, none, none, none]) (xs_if (b := v30) (XW.t (xw_andM (a := (decide (k_p ≤ m_21))) (q_cmpT hr (d1 := (eI m_21)) (d2 := (eI k_p)) (n_var hN (.there (.there (.there (.there (.there (.there (.there (.there (.here)))))))))) (n_var hN (.there (.here))) (.of CmpD.geI)) (fun hc b' h => by obtain ⟨v23, q23, h⟩ := obS h; obtain ⟨v24, q24, h⟩ := obS h; obtain ⟨v25, q25, h⟩ := obS h; obtain ⟨v29, q29, h⟩ := obS h; obtain rfl := Option.some.inj h; exact (xw_andM (a := (decide (v24 = v25))) (q_cmpT hr (d1 := (eS v24)) (d2 := (eS v25)) (xm_scut (xm_lix (en := eS) (xs := known_p) (n_var hN (.here)) (n_var hN (.there (.there (.there (.there (.there (.there (.here)))))))) q23) (xo_some (n_var hN (.there (.there (.there (.there (.there (.there (.there (.here)))))))))) xo_none q24) (xm_scut (n_var hN (.there (.there (.there (.there (.here)))))) (xo_some (n_var hN (.there (.there (.there (.there (.there (.there (.there (.there (.here))))))))))) xo_none q25) (.of CmpD.eqS)) (fun hc b' h => by obtain ⟨v26, q26, h⟩ := obS h; obtain ⟨v27, q27, h⟩ := obS h; obtain ⟨v28, q28, h⟩ := obS h; obtain rfl := Option.some.inj h; exact (xw_and1 (q_cmpT hr (d1 := (eS v27)) (d2 := (eS v28)) (xm_scut (xm_lix (en := eS) (xs := known_p) (n_var hN (.here)) (n_var hN (.there (.there (.there (.there (.there (.there (.here)))))))) q26) (xo_some (xd_sub (n_var hN (.there (.there (.there (.there (.there (.there (.there (.here))))))))) (n_var hN (.there (.here))))) (xo_some (n_var hN (.there (.there (.there (.there (.there (.there (.there (.here)))))))))) q27) (xm_scut (n_var hN (.there (.there (.there (.there (.here)))))) (xo_some (xd_sub (n_var hN (.there (.there (.there (.there (.there (.there (.there (.there (.here)))))))))) (n_var hN (.there (.here))))) (xo_some (n_var hN (.there (.there (.there (.there (.there (.there (.there (.there (.here))))))))))) q28) (.of CmpD.eqS)))) q29)) q30)) (fun hc => ?_) (fun hc => ?_)) ?_
      · have h := ifT q31 hc
        obtain ⟨found_32, q33, h⟩ := obS h
        refine xb_cons ?_
        refine nm_append (en := (eP3 eI eI eI)) (y := (y11, m_21, y16)) hN (.there (.there (.there (.there (.there (.here)))))) (xd_tup (ds := [(eI y11), (eI m_21), (eI y16)]) (xa_cons (d := (eI y11)) (n_var hN (.there (.there (.there (.there (.there (.there (.here)))))))) (xa_cons (d := (eI m_21)) (n_var hN (.there (.there (.there (.there (.there (.there (.there (.there (.here)))))))))) (xa_cons (d := (eI y16)) (n_var hN (.there (.there (.there (.there (.there (.there (.there (.here))))))))) xa_nil hs_Name) hs_Name) hs_Name) (show (3 : Nat) ≤ sizeLine by decide)) q33 (.there (.there (.there (.there (.there (.here)))))) nd ?_
        refine xb_nil ?_
        obtain rfl := Option.some.inj h
        exact ⟨_, rfl, rfl⟩
      · have h := ifF q31 hc
        refine xb_nil ?_
        obtain rfl := Option.some.inj h
        exact ⟨_, rfl, rfl⟩
      rintro _ ⟨s31, hs0, rfl⟩
      rw [hs0] at h
      have h := jnI h
      refine xb_fg (.keep (.keep (.keep (.keep (.keep (.keep (.keep (.drop (.drop (.keep (.keep (.keep (.keep (Fg.nil)))))))))))))) ?_
      refine xb_nil ?_
      obtain rfl := Option.some.inj h
      exact ⟨_, rfl, rfl⟩
    · rw [hs] at h
      exact nomatch (jnR h)
    rintro _ ⟨s34, hs0, rfl⟩
    rw [hs0] at h
    have h := jnI h
    refine xb_fg (.keep (.keep (.keep (.keep (.keep (.keep (.drop (.keep (.keep (.keep (.keep (.keep (.keep (Fg.nil)))))))))))))) ?_
    refine xb_nil ?_
    obtain rfl := Option.some.inj h
    exact ⟨_, rfl, rfl⟩
  · rw [hs] at h
    exact nomatch (jnR h)
  rintro _ ⟨s35, hs0, rfl⟩
  rw [hs0] at h
  have h := jnI h
  refine n_freeze "found" hN nd (.there (.there (.there (.there (.there (.here)))))) (.there (.there (.there (.there (.there (.here)))))) ?_
  obtain ⟨v40, q40, h⟩ := obS h
  refine xb_cons ?_
  refine nm_setCompI (S := defScope s_law_drawn_line) (en := (eP3 eI eI eI)) (eb := (eP3 eI eI eI)) (eX := fun y36 => [some (.d ((eL eS) known_p)), some (.d (eI k_p)), some (.d ((eL eI) draws_p)), some (.d (eI v2)), some (.d (eS v5)), some (.d ((eL (eP3 eI eI eI)) s35)), none, none, none, some (.d ((eP3 eI eI eI) y36)), none, none, none]) [(("corner" : Str), 9)] q40 hN nd (it_list (en := (eP3 eI eI eI)) (n_var hN (.there (.there (.there (.there (.there (.here)))))))) (by decide +kernel) (fun y36 s_ Hb C cl fp => (n_gname hN nd (.there (.there (.there (.there (.there (.there (.there (.there (.there (.here)))))))))))) (fun y36 r h s_ Hb C cl fp => by obtain ⟨v37, q37, h⟩ := obS h; obtain ⟨v38, q38, h⟩ := obS h; obtain ⟨v39, q39, h⟩ := obS h; obtain rfl := Option.some.inj h; exact (q_cmpT hr (d1 := (eS v38)) (d2 := (eS v39)) (xm_scut (xm_lix (en := eS) (xs := known_p) (n_var hN (.here)) (xd_ixT (n_var hN (.there (.there (.there (.there (.there (.there (.there (.there (.there (.here))))))))))) xd_int rfl) q37) xo_none (xo_some (xd_ixT (n_var hN (.there (.there (.there (.there (.there (.there (.there (.there (.there (.here))))))))))) xd_int rfl)) q38) (xm_scut (n_var hN (.there (.there (.there (.there (.here)))))) xo_none (xo_some (xd_ixT (n_var hN (.there (.there (.there (.there (.there (.there (.there (.there (.there (.here))))))))))) xd_int rfl)) q39) (.of CmpD.neS))) (fun y36 r hcc h s_ Hb C cl fp => by exact XD.o (en := (eP3 eI eI eI)) (v := y36) (n_var hN (.there (.there (.there (.there (.there (.there (.there (.there (.there (.here))))))))))) h) (.there (.there (.there (.there (.there (.there (.there (.there (.there (.there (.here))))))))))) ?_
  refine n_freeze "new" hN nd (.there (.there (.there (.there (.there (.there (.there (.there (.there (.there (.here))))))))))) (.there (.there (.there (.there (.there (.there (.there (.there (.there (.there (.here))))))))))) ?_
  obtain ⟨v42, q42, h⟩ := obS h
  obtain ⟨j43, q43, h⟩ := obS h
  have hj43 := h
  refine xb_cut (M := fun e => ∃ s43 : ((List (Int × Int × Int))), j43 = Sum.inl s43 ∧ e = [some (.d ((eL eS) known_p)), some (.d (eI k_p)), some (.d ((eL eI) draws_p)), some (.d (eI v2)), some (.d (eS v5)), some (.d ((eL (eP3 eI eI eI)) s43)), none, none, none, none, some (.d ((eL (eP3 eI eI eI)) v40)), none, none]) (xs_if (b := v42) (XW.t (xw_andM (a := (decide ((0 : Int) < (v40.length : Int)))) (q_cmpT hr (d1 := (eI (v40.length : Int))) (d2 := (eI (0 : Int))) (xm_llen (en := (eP3 eI eI eI)) (n_var hN (.there (.there (.there (.there (.there (.there (.there (.there (.there (.there (.here)))))))))))) z_len) xd_int (.of CmpD.gtI)) (fun hc b' h => by obtain ⟨v41, q41, h⟩ := obS h; obtain rfl := Option.some.inj h; exact (xw_and1 (q_cmpT hr (d1 := (eI (v41 % (8 : Int)))) (d2 := (eI (0 : Int))) (xd_mod (xd_int1 (xm_lix (en := eI) (xs := draws_p) (n_var hN (.there (.there (.here)))) xd_int q41) z_int) xd_int (by decide)) xd_int (.of CmpD.neI)))) q42)) (fun hc => ?_) (fun hc => ?_)) ?_
  · have h := ifT q43 hc
    obtain ⟨found_44, q45, h⟩ := obS h
    refine xb_cons ?_
    refine n_set (d := ((eL (eP3 eI eI eI)) found_44)) (XD.o (en := (eL (eP3 eI eI eI))) (v := v40) (n_var hN (.there (.there (.there (.there (.there (.there (.there (.there (.there (.there (.here)))))))))))) q45) hN nd (.there (.there (.there (.there (.there (.here)))))) ?_
    refine xb_nil ?_
    obtain rfl := Option.some.inj h
    exact ⟨_, rfl, rfl⟩
  · have h := ifF q43 hc
    refine xb_nil ?_
    obtain rfl := Option.some.inj h
    exact ⟨_, rfl, rfl⟩
  rintro _ ⟨s43, hs0, rfl⟩
  rw [hs0] at h
  have h := jnI h
  refine xb_cons ?_
  refine xs_if (b := (decide ((s43.length : Int) = (0 : Int)))) (q_cmpT hr (d1 := (eI (s43.length : Int))) (d2 := (eI (0 : Int))) (xm_llen (en := (eP3 eI eI eI)) (n_var hN (.there (.there (.there (.there (.there (.here))))))) z_len) xd_int (.of CmpD.eqI)) (fun hc => ?_) (fun hc => ?_)
  · have h := ifT h hc
    refine xb_cons ?_
    refine xs_ret (d := ((eO (eP2 eS (eV eI))) (none : Option (Str × (List Int))))) xd_non ?_
    obtain rfl := Option.some.inj h
    exact rfl
  · have h := ifF h hc
    refine xb_nil ?_
    obtain ⟨v46, q46, h⟩ := obS h
    obtain ⟨v47, q47, h⟩ := obS h
    obtain ⟨v48, q48, h⟩ := obS h
    refine xb_cons ?_
    refine n_set (d := ((eP3 eI eI eI) v48)) (xm_lix (en := (eP3 eI eI eI)) (xs := s43) (n_var hN (.there (.there (.there (.there (.there (.here))))))) (xm_mod (xd_int1 (xm_lix (en := eI) (xs := draws_p) (n_var hN (.there (.there (.here)))) xd_int q46) z_int) (xm_llen (en := (eP3 eI eI eI)) (n_var hN (.there (.there (.there (.there (.there (.here))))))) z_len) q47) q48) hN nd (.there (.there (.there (.there (.there (.there (.there (.there (.there (.here)))))))))) ?_
    obtain ⟨m_51, q52, h⟩ := obS h
    refine xb_cons ?_
    refine n_set (d := (eI m_51)) (XD.o (en := eI) (v := v48.2.1) (xd_ixT (n_var hN (.there (.there (.there (.there (.there (.there (.there (.there (.there (.here))))))))))) xd_int rfl) q52) hN nd (.there (.there (.there (.there (.there (.there (.there (.there (.here))))))))) ?_
    obtain ⟨v53, q53, h⟩ := obS h
    obtain ⟨v61, q61, h⟩ := obS h
    refine xb_cons ?_
    refine nm_setCompI (S := defScope s_law_drawn_line) (en := eI) (eb := eI) (eX := fun y54 => [some (.d ((eL eS) known_p)), some (.d (eI k_p)), some (.d ((eL eI) draws_p)), some (.d (eI v2)), some (.d (eS v5)), some (.d ((eL (eP3 eI eI eI)) s43)), none, none, some (.d (eI m_51)), some (.d ((eP3 eI eI eI) v48)), some (.d ((eL (eP3 eI eI eI)) v40)), some (.d (eI y54)), none]) [(("h" : Str), 11)] q61 hN nd (it_rng1 (xm_llen (en := eS) (n_var hN (.here)) z_len) q53 z_range) (by decide +kernel) (fun y54 s_ Hb C cl fp => (n_gname hN nd (.there (.there (.there (.there (.there (.there (.there (.there (.there (.there (.there (.here)))))))))))))) (fun y54 r h s_ Hb C cl fp => by obtain ⟨v55, q55, h⟩ := obS h; obtain ⟨v56, q56, h⟩ := obS h; obtain ⟨v60, q60, h⟩ := obS h; obtain rfl := Option.some.inj h; exact (XW.t (xw_andM (a := (decide (m_51 ≤ v56))) (q_cmpT hr (d1 := (eI v56)) (d2 := (eI m_51)) (xm_slen (xm_lix (en := eS) (xs := known_p) (n_var hN (.here)) (n_var hN (.there (.there (.there (.there (.there (.there (.there (.there (.there (.there (.there (.here))))))))))))) q55) q56 z_len) (n_var hN (.there (.there (.there (.there (.there (.there (.there (.there (.here)))))))))) (.of CmpD.geI)) (fun hc b' h => by obtain ⟨v57, q57, h⟩ := obS h; obtain ⟨v58, q58, h⟩ := obS h; obtain ⟨v59, q59, h⟩ := obS h; obtain rfl := Option.some.inj h; exact (xw_and1 (q_cmpT hr (d1 := (eS v58)) (d2 := (eS v59)) (xm_scut (xm_lix (en := eS) (xs := known_p) (n_var hN (.here)) (n_var hN (.there (.there (.there (.there (.there (.there (.there (.there (.there (.there (.there (.here))))))))))))) q57) xo_none (xo_some (n_var hN (.there (.there (.there (.there (.there (.there (.there (.there (.here))))))))))) q58) (xm_scut (n_var hN (.there (.there (.there (.there (.here)))))) xo_none (xo_some (n_var hN (.there (.there (.there (.there (.there (.there (.there (.there (.here))))))))))) q59) (.of CmpD.eqS)))) q60))) (fun y54 r hcc h s_ Hb C cl fp => by exact XD.o (en := eI) (v := y54) (n_var hN (.there (.there (.there (.there (.there (.there (.there (.there (.there (.there (.there (.here))))))))))))) h) (.there (.there (.there (.there (.there (.there (.there (.there (.there (.there (.there (.there (.here))))))))))))) ?_
    refine n_freeze "ways" hN nd (.there (.there (.there (.there (.there (.there (.there (.there (.there (.there (.there (.there (.here))))))))))))) (.there (.there (.there (.there (.there (.there (.there (.there (.there (.there (.there (.there (.here))))))))))))) ?_
    obtain ⟨v62, q62, h⟩ := obS h
    obtain ⟨v63, q63, h⟩ := obS h
    obtain ⟨v64, q64, h⟩ := obS h
    refine xb_cons ?_
    refine n_set (d := (eI v64)) (xm_lix (en := eI) (xs := v61) (n_var hN (.there (.there (.there (.there (.there (.there (.there (.there (.there (.there (.there (.there (.here)))))))))))))) (xm_mod (xd_div (xd_int1 (xm_lix (en := eI) (xs := draws_p) (n_var hN (.there (.there (.here)))) xd_int q62) z_int) xd_int ⟨by decide, by decide⟩) (xm_llen (en := eI) (n_var hN (.there (.there (.there (.there (.there (.there (.there (.there (.there (.there (.there (.there (.here)))))))))))))) z_len) q63) q64) hN nd (.there (.there (.there (.there (.there (.there (.there (.there (.there (.there (.there (.here)))))))))))) ?_
    obtain ⟨v67, q67, h⟩ := obS h
    obtain ⟨v68, q68, h⟩ := obS h
    obtain ⟨v69, q69, h⟩ := obS h
    obtain ⟨v70, q70, h⟩ := obS h
    obtain ⟨v71, q71, h⟩ := obS h
    refine xb_cons ?_
    refine xs_ret (d := ((eO (eP2 eS (eV eI))) (some (v71, ([v2, v48.1, v64, m_51, v48.2.2] : List Int))))) (xd_tup (ds := [(eS v71), ((eV eI) ([v2, v48.1, v64, m_51, v48.2.2] : List Int))]) (xa_cons (d := (eS v71)) (xm_sadd (xm_scut (xm_lix (en := eS) (xs := known_p) (n_var hN (.here)) (xd_ixT (n_var hN (.there (.there (.there (.there (.there (.there (.there (.there (.there (.here))))))))))) xd_int rfl) q67) xo_none (xo_some (xd_ixT (n_var hN (.there (.there (.there (.there (.there (.there (.there (.there (.there (.here))))))))))) xd_int rfl)) q68) (xm_scut (xm_lix (en := eS) (xs := known_p) (n_var hN (.here)) (n_var hN (.there (.there (.there (.there (.there (.there (.there (.there (.there (.there (.there (.here))))))))))))) q69) (xo_some (n_var hN (.there (.there (.there (.there (.there (.there (.there (.there (.here))))))))))) xo_none q70) q71) (xa_cons (d := ((eV eI) ([v2, v48.1, v64, m_51, v48.2.2] : List Int))) (xd_tup (ds := [(eI v2), (eI v48.1), (eI v64), (eI m_51), (eI v48.2.2)]) (xa_cons (d := (eI v2)) (n_var hN (.there (.there (.there (.here))))) (xa_cons (d := (eI v48.1)) (xd_ixT (n_var hN (.there (.there (.there (.there (.there (.there (.there (.there (.there (.here))))))))))) xd_int rfl) (xa_cons (d := (eI v64)) (n_var hN (.there (.there (.there (.there (.there (.there (.there (.there (.there (.there (.there (.here))))))))))))) (xa_cons (d := (eI m_51)) (n_var hN (.there (.there (.there (.there (.there (.there (.there (.there (.here)))))))))) (xa_cons (d := (eI v48.2.2)) (xd_ixT (n_var hN (.there (.there (.there (.there (.there (.there (.there (.there (.there (.here))))))))))) xd_int rfl) xa_nil hs_Subscript) hs_Name) hs_Name) hs_Subscript) hs_Name) (show (5 : Nat) ≤ sizeLine by decide)) xa_nil hs_Tuple) hs_BinOp) (show (2 : Nat) ≤ sizeLine by decide)) ?_
    obtain rfl := Option.some.inj h
    exact rfl
set_option maxHeartbeats 4000000 in
theorem ok_law_own_lines {f : Addr} {fd : FuncData} (F : Fun K "_law_own_lines" "_law_own_lines" s_law_own_lines f fd) (B : L2.Binds K fd ["runs", "k", "draws", "count", "longest"] []) (g : mg "_law_own_lines" = some (.ref f)) (T : Bi mg) (D_law_drawn_line : DefOk P w K mg base "_law_drawn_line" 1 C_law_drawn_line) : DefOk P w K mg base "_law_own_lines" 2 C_law_own_lines := by
  obtain ⟨z_max, z_len, z_all, z_range, z_min, z_abs, z_int, z_isinstance, z_bool, z_str, z_sorted, z_tuple, z_list⟩ := T
  refine defOk_mk F B g sc_law_own_lines ?_
  intro cdv A outer s H E hr hN nd ii hok
  obtain ⟨runs_p, k_p, draws_p, count_p, longest_p, res⟩ := ii
  have h : m_law_own_lines runs_p k_p draws_p count_p longest_p = some res := hok
  unfold m_law_own_lines at h
  show XB _ _ [some (.d ((eV eS) runs_p)), some (.d (eI k_p)), some (.d ((eL eI) draws_p)), some (.d (eI count_p)), some (.d (eI longest_p)), none, none, none, none, none] _
  obtain ⟨v2, q2, h⟩ := obS h
  refine xb_cons ?_
  refine nm_setComp (S := defScope s_law_own_lines) (en := eS) (eb := (eP2 eS (eV eI))) (eX := fun y1 => [some (.d ((eV eS) runs_p)), some (.d (eI k_p)), some (.d ((eL eI) draws_p)), some (.d (eI count_p)), some (.d (eI longest_p)), none, none, none, some (.d (eS y1)), none]) [(("run" : Str), 8)] q2 hN nd (it_tup (en := eS) (n_var hN (.here))) (by decide +kernel) (fun y1 s_ Hb C cl fp => (n_gname hN nd (.there (.there (.there (.there (.there (.there (.there (.there (.here))))))))))) (fun y1 r h s_ Hb C cl fp => by exact XD.o (en := (eP2 eS (eV eI))) (v := (y1, ([] : List Int))) (xd_tup (ds := [(eS y1), ((eV eI) ([] : List Int))]) (xa_cons (d := (eS y1)) (n_var hN (.there (.there (.there (.there (.there (.there (.there (.there (.here)))))))))) (xa_cons (d := ((eV eI) ([] : List Int))) (xd_tup (ds := []) xa_nil (show (0 : Nat) ≤ sizeLine by decide)) xa_nil hs_Tuple) hs_Name) (show (2 : Nat) ≤ sizeLine by decide)) h) (.there (.there (.there (.there (.there (.here)))))) ?_
  obtain ⟨v3, q3, h⟩ := obS h
  obtain ⟨c19, q19, h⟩ := obS h
  refine xb_cut (M := fun e => ∃ s5 : ((List (Str × (List Int)))), c19 = Sum.inl s5 ∧ e = [some (.d ((eV eS) runs_p)), some (.d (eI k_p)), some (.d ((eL eI) draws_p)), some (.d (eI count_p)), some (.d (eI longest_p)), some (.l (List.map (eP2 eS (eV eI)) s5)), none, none, none, none]) (nm_for (s0 := (v2)) (en := eI) (eR := eN) (js := [6]) (eX := fun s5 y4 => [some (.d ((eV eS) runs_p)), some (.d (eI k_p)), some (.d ((eL eI) draws_p)), some (.d (eI count_p)), some (.d (eI longest_p)), some (.l (List.map (eP2 eS (eV eI)) s5)), some (.d (eI y4)), none, none, none]) q19 (fun s5 => [some (.d ((eV eS) runs_p)), some (.d (eI k_p)), some (.d ((eL eI) draws_p)), some (.d (eI count_p)), some (.d (eI longest_p)), some (.l (List.map (eP2 eS (eV eI)) s5)), none, none, none, none]) (it_rng1 (n_var hN (.there (.there (.there (.here))))) q3 z_range) (fun s5 y4 => (n_gname hN nd (.there (.there (.there (.there (.there (.there (.here))))))))) (fun y4 s5 r h => ?_) (fun s0 hs => ⟨s0, hs, rfl⟩) (fun r0 hs => ?_)) ?_
  · skip
    obtain ⟨j6, q6, h⟩ := obS h
    have hj6 := h
    refine xb_cut (M := fun e => ∃ s6 : ((List (Str × (List Int)))), j6 = Sum.inl s6 ∧ e = [some (.d ((eV eS) runs_p)), some (.d (eI k_p)), some (.d ((eL eI) draws_p)), some (.d (eI count_p)), some (.d (eI longest_p)), some (.l (List.map (eP2 eS (eV eI)) s6)), some (.d (eI y4)), none, none, none]) (xs_if (b := (decide ((0 : Int) < (s5.length : Int)))) (q_cmpT hr (d1 := (eI (s5.length : Int))) (d2 := (eI (0 : Int))) (xm_olen (en := (eP2 eS (eV eI))) hN (.there (.there (.there (.there (.there (.here)))))) z_len) xd_int (.of CmpD.gtI)) (fun hc => ?_) (fun hc => ?_)) ?_
    · have h := ifT q6 hc
      obtain ⟨v8, q8, h⟩ := obS h
      obtain ⟨v9, q9, h⟩ := obS h
      refine xb_cons ?_
      refine n_set (d := ((eO (eP2 eS (eV eI))) v9)) (xd_lend hN nd (.there (.there (.there (.there (.there (.here)))))) (.there (.there (.there (.there (.there (.here)))))) (xd_call D_law_drawn_line hr (i := (v8, k_p, (cutL draws_p (some ((3 : Int) * y4)) (some (((3 : Int) * y4) + (3 : Int)))), v9)) (d := ((eO (eP2 eS (eV eI))) v9)) (xa_cons (d := ((eL eS) v8)) (XL.dat (nm_comp (S := defScope s_law_own_lines) (en := (eP2 eS (eV eI))) (eb := eS) (eX := fun y7 => [some (.d ((eV eS) runs_p)), some (.d (eI k_p)), some (.d ((eL eI) draws_p)), some (.d (eI count_p)), some (.d (eI longest_p)), some (.d ((eL (eP2 eS (eV eI))) s5)), some (.d (eI y4)), none, none, some (.d ((eP2 eS (eV eI)) y7))]) [(("other" : Str), 9)] q8 hN nd (it_list (en := (eP2 eS (eV eI))) (n_var hN (.there (.there (.there (.there (.there (.here)))))))) (by decide +kernel) (fun y7 s_ Hb C cl fp => (n_gname hN nd (.there (.there (.there (.there (.there (.there (.there (.there (.there (.here)))))))))))) (fun y7 r h s_ Hb C cl fp => by exact XD.o (en := eS) (v := y7.1) (xd_ixT (n_var hN (.there (.there (.there (.there (.there (.there (.there (.there (.there (.here))))))))))) xd_int rfl) h))) (xa_cons (d := (eI k_p)) (n_var hN (.there (.here))) (xa_cons (d := ((eL eI) (cutL draws_p (some ((3 : Int) * y4)) (some (((3 : Int) * y4) + (3 : Int)))))) (XL.dat (xm_lcut (en := eI) (n_var hN (.there (.there (.here)))) (xo_some (xd_mul xd_int (n_var hN (.there (.there (.there (.there (.there (.there (.here)))))))) (Or.inl ⟨by decide, by decide⟩))) (xo_some (xd_add (xd_mul xd_int (n_var hN (.there (.there (.there (.there (.there (.there (.here)))))))) (Or.inl ⟨by decide, by decide⟩)) xd_int)))) xa_nil hs_Subscript) hs_Name) hs_ListComp) q9 (fun _ h => h)) ((nl_O (nl_P2 nl_S (nl_V nl_I))) _)) hN nd (.there (.there (.there (.there (.there (.there (.there (.here)))))))) ?_
      obtain ⟨v14, q14, h⟩ := obS h
      obtain ⟨j15, q15, h⟩ := obS h
      have hj15 := h
      refine xb_cut (M := fun e => ∃ s15 : ((List (Str × (List Int)))), j15 = Sum.inl s15 ∧ e = [some (.d ((eV eS) runs_p)), some (.d (eI k_p)), some (.d ((eL eI) draws_p)), some (.d (eI count_p)), some (.d (eI longest_p)), some (.l (List.map (eP2 eS (eV eI)) s15)), some (.d (eI y4)), some (.d ((eO (eP2 eS (eV eI))) v9)), none, none]) (xs_if (b := v14) (XW.t (xw_andM (a := (!v9.isNone)) (q_cmpT hr (d1 := ((eO (eP2 eS (eV eI))) v9)) (d2 := (eN ())) (n_var hN (.there (.there (.there (.there (.there (.there (.there (.here))))))))) xd_non (cq_notN (en := (eP2 eS (eV eI))) (fun _ => rfl))) (fun hc b' h => by obtain ⟨v12, q12, h⟩ := obS h; obtain ⟨v13, q13, h⟩ := obS h; obtain rfl := Option.some.inj h; exact (xw_and1 (q_cmpT hr (d1 := (eI v13)) (d2 := (eI longest_p)) (xm_slen (xd_ixT (xd_unO (en := (eP2 eS (eV eI))) (n_var hN (.there (.there (.there (.there (.there (.there (.there (.here))))))))) q12) xd_int rfl) q13 z_len) (n_var hN (.there (.there (.there (.there (.here)))))) (.of CmpD.leI)))) q14)) (fun hc => ?_) (fun hc => ?_)) ?_
      · have h := ifT q15 hc
        obtain ⟨v16, q16, h⟩ := obS h
        obtain ⟨lines_17, q18, h⟩ := obS h
        refine xb_cons ?_
        refine nm_append (en := (eP2 eS (eV eI))) (y := v16) hN (.there (.there (.there (.there (.there (.here)))))) (xd_unO (en := (eP2 eS (eV eI))) (n_var hN (.there (.there (.there (.there (.there (.there (.there (.here))))))))) q16) q18 (.there (.there (.there (.there (.there (.here)))))) nd ?_
        refine xb_nil ?_
        obtain rfl := Option.some.inj h
        exact ⟨_, rfl, rfl⟩
      · have h := ifF q15 hc
        refine xb_nil ?_
        obtain rfl := Option.some.inj h
        exact ⟨_, rfl, rfl⟩
      rintro _ ⟨s15, hs0, rfl⟩
      rw [hs0] at h
      have h := jnI h
      refine xb_fg (.keep (.keep (.keep (.keep (.keep (.keep (.keep (.drop (.keep (.keep (Fg.nil))))))))))) ?_
      refine xb_nil ?_
      obtain rfl := Option.some.inj h
      exact ⟨_, rfl, rfl⟩
    · have h := ifF q6 hc
      refine xb_nil ?_
      obtain rfl := Option.some.inj h
      exact ⟨_, rfl, rfl⟩
    rintro _ ⟨s6, hs0, rfl⟩
    rw [hs0] at h
    have h := jnI h
    refine xb_fg (.keep (.keep (.keep (.keep (.keep (.keep (.drop (.keep (.keep (.keep (Fg.nil))))))))))) ?_
    refine xb_nil ?_
    obtain rfl := Option.some.inj h
    exact ⟨_, rfl, rfl⟩
  · rw [hs] at h
    exact nomatch (jnR h)
  rintro _ ⟨s19, hs0, rfl⟩
  rw [hs0] at h
  have h := jnI h
  refine n_freeze "lines" hN nd (.there (.there (.there (.there (.there (.here)))))) (.there (.there (.there (.there (.there (.here)))))) ?_
  refine xb_cons ?_
  refine xs_ret (d := ((eL (eP2 eS (eV eI))) s19)) (n_var hN (.there (.there (.there (.there (.there (.here))))))) ?_
  obtain rfl := Option.some.inj h
  exact rfl
set_option maxHeartbeats 4000000 in
theorem ok_law_spoilt_number {f : Addr} {fd : FuncData} (F : Fun K "_law_spoilt_number" "_law_spoilt_number" s_law_spoilt_number f fd) (B : L2.Binds K fd ["lines", "at", "k", "draws"] []) (g : mg "_law_spoilt_number" = some (.ref f)) (T : Bi mg) : DefOk P w K mg base "_law_spoilt_number" 1 C_law_spoilt_number := by
  obtain ⟨z_max, z_len, z_all, z_range, z_min, z_abs, z_int, z_isinstance, z_bool, z_str, z_sorted, z_tuple, z_list⟩ := T
  refine defOk_mk F B g sc_law_spoilt_number ?_
  intro cdv A outer s H E hr hN nd ii hok
  obtain ⟨lines_p, at_p, k_p, draws_p, res⟩ := ii
  have h : m_law_spoilt_number lines_p at_p k_p draws_p = some res := hok
  unfold m_law_spoilt_number at h
  show XB _ _ [some (.d ((eL (eP2 eS (eV eI))) lines_p)), some (.d (eI at_p)), some (.d (eI k_p)), some (.d ((eL eI) draws_p)), none, none, none, none, none] _
  obtain ⟨v1, q1, h⟩ := obS h
  obtain ⟨reason_2, q3, h⟩ := obS h
  refine xb_cons ?_
  refine n_set (d := ((eV eI) reason_2)) (XD.o (en := (eV eI)) (v := v1.2) (xd_ixT (xm_lix (en := (eP2 eS (eV eI))) (xs := lines_p) (n_var hN (.here)) (n_var hN (.there (.here))) q1) xd_int rfl) q3) hN nd (.there (.there (.there (.there (.here))))) ?_
  obtain ⟨v4, q4, h⟩ := obS h
  obtain ⟨place_5, q6, h⟩ := obS h
  refine xb_cons ?_
  refine n_set (d := (eI place_5)) (XD.o (en := eI) (v := (v4 % (5 : Int))) (xd_mod (xd_int1 (xm_lix (en := eI) (xs := draws_p) (n_var hN (.there (.there (.there (.here))))) xd_int q4) z_int) xd_int (by decide)) q6) hN nd (.there (.there (.there (.there (.there (.here)))))) ?_
  obtain ⟨v7, q7, h⟩ := obS h
  refine xb_cons ?_
  refine n_set (d := (eI v7)) (xm_vix (en := eI) (xs := reason_2) (n_var hN (.there (.there (.there (.there (.here)))))) (n_var hN (.there (.there (.there (.there (.there (.here))))))) q7) hN nd (.there (.there (.there (.there (.there (.there (.here))))))) ?_
  obtain ⟨v10, q10, h⟩ := obS h
  obtain ⟨v11, q11, h⟩ := obS h
  refine xb_cons ?_
  refine n_set (d := (eI v11)) (xm_slen (xd_ixT (xm_lix (en := (eP2 eS (eV eI))) (xs := lines_p) (n_var hN (.here)) (n_var hN (.there (.here))) q10) xd_int rfl) q11 z_len) hN nd (.there (.there (.there (.there (.there (.there (.there (.here)))))))) ?_
  obtain ⟨more_14, q15, h⟩ := obS h
  refine xb_cons ?_
  refine n_set (d := ((eV eI) more_14)) (XD.o (en := (eV eI)) (v := ([(v7 + (1 : Int)), (v7 - (1 : Int)), at_p, (at_p + (1 : Int)), ((0 : Int) - (1 : Int)), (v11 + (1 : Int)), (k_p - (1 : Int)), (v7 + (100000000000000000000 : Int)), ((0 : Int) - v11), k_p] : List Int)) (xd_tup (ds := [(eI (v7 + (1 : Int))), (eI (v7 - (1 : Int))), (eI at_p), (eI (at_p + (1 : Int))), (eI ((0 : Int) - (1 : Int))), (eI (v11 + (1 : Int))), (eI (k_p - (1 : Int))), (eI (v7 + (100000000000000000000 : Int))), (eI ((0 : Int) - v11)), (eI k_p)]) (xa_cons (d := (eI (v7 + (1 : Int)))) (xd_add (n_var hN (.there (.there (.there (.there (.there (.there (.here)))))))) xd_int) (xa_cons (d := (eI (v7 - (1 : Int)))) (xd_sub (n_var hN (.there (.there (.there (.there (.there (.there (.here)))))))) xd_int) (xa_cons (d := (eI at_p)) (n_var hN (.there (.here))) (xa_cons (d := (eI (at_p + (1 : Int)))) (xd_add (n_var hN (.there (.here))) xd_int) (xa_cons (d := (eI ((0 : Int) - (1 : Int)))) (xd_sub xd_int xd_int) (xa_cons (d := (eI (v11 + (1 : Int)))) (xd_add (n_var hN (.there (.there (.there (.there (.there (.there (.there (.here))))))))) xd_int) (xa_cons (d := (eI (k_p - (1 : Int)))) (xd_sub (n_var hN (.there (.there (.here)))) xd_int) (xa_cons (d := (eI (v7 + (100000000000000000000 : Int)))) (xd_add (n_var hN (.there (.there (.there (.there (.there (.there (.here)))))))) (XD.is (d2 := .int 100000000000000000000) (xd_pow xd_int xd_int ⟨by decide, by decide, by decide⟩) (congrArg PyData.int (by decide +kernel)))) (xa_cons (d := (eI ((0 : Int) - v11))) (xd_sub xd_int (n_var hN (.there (.there (.there (.there (.there (.there (.there (.here)))))))))) (xa_cons (d := (eI k_p)) (n_var hN (.there (.there (.here)))) xa_nil hs_Name) hs_BinOp) hs_BinOp) hs_BinOp) hs_BinOp) hs_BinOp) hs_BinOp) hs_Name) hs_BinOp) hs_BinOp) (show (10 : Nat) ≤ sizeLine by decide)) q15) hN nd (.there (.there (.there (.there (.there (.there (.there (.there (.here))))))))) ?_
  obtain ⟨v16, q16, h⟩ := obS h
  obtain ⟨v17, q17, h⟩ := obS h
  obtain ⟨v18, q18, h⟩ := obS h
  obtain ⟨v19, q19, h⟩ := obS h
  obtain ⟨v20, q20, h⟩ := obS h
  refine xb_cons ?_
  refine xs_ret (d := ((eP2 eS (eV eI)) (v16.1, v20))) (xd_tup (ds := [(eS v16.1), ((eV eI) v20)]) (xa_cons (d := (eS v16.1)) (xd_ixT (xm_lix (en := (eP2 eS (eV eI))) (xs := lines_p) (n_var hN (.here)) (n_var hN (.there (.here))) q16) xd_int rfl) (xa_cons (d := ((eV eI) v20)) (xm_vcat (en := eI) (xm_vcat (en := eI) (xm_vcut (en := eI) (n_var hN (.there (.there (.there (.there (.here)))))) xo_none (xo_some (n_var hN (.there (.there (.there (.there (.there (.here))))))))) (xd_tup (ds := [(eI v18)]) (xa_cons (d := (eI v18)) (xm_vix (en := eI) (xs := more_14) (n_var hN (.there (.there (.there (.there (.there (.there (.there (.there (.here)))))))))) (xd_mod (xd_int1 (xm_lix (en := eI) (xs := draws_p) (n_var hN (.there (.there (.there (.here))))) xd_int q17) z_int) xd_int (by decide)) q18) xa_nil hs_Subscript) (show (1 : Nat) ≤ sizeLine by decide)) q19) (xm_vcut (en := eI) (n_var hN (.there (.there (.there (.there (.here)))))) (xo_some (xd_add (n_var hN (.there (.there (.there (.there (.there (.here))))))) xd_int)) xo_none) q20) xa_nil hs_BinOp) hs_Subscript) (show (2 : Nat) ≤ sizeLine by decide)) ?_
  obtain rfl := Option.some.inj h
  exact rfl
set_option maxHeartbeats 4000000 in
theorem ok_law_near_line {f : Addr} {fd : FuncData} (F : Fun K "_law_near_line" "_law_near_line" s_law_near_line f fd) (B : L2.Binds K fd ["lines", "k", "at", "other", "draws"] []) (g : mg "_law_near_line" = some (.ref f)) (T : Bi mg) : DefOk P w K mg base "_law_near_line" 1 C_law_near_line := by
  obtain ⟨z_max, z_len, z_all, z_range, z_min, z_abs, z_int, z_isinstance, z_bool, z_str, z_sorted, z_tuple, z_list⟩ := T
  refine defOk_mk F B g sc_law_near_line ?_
  intro cdv A outer s H E hr hN nd ii hok
  obtain ⟨lines_p, k_p, at_p, other_p, draws_p, res⟩ := ii
  have h : m_law_near_line lines_p k_p at_p other_p draws_p = some res := hok
  unfold m_law_near_line at h
  show XB _ _ [some (.d ((eL (eP2 eS (eV eI))) lines_p)), some (.d (eI k_p)), some (.d (eI at_p)), some (.d (eI other_p)), some (.d ((eL eI) draws_p)), none, none, none, none] _
  obtain ⟨v1, q1, h⟩ := obS h
  obtain ⟨reason_2, q3, h⟩ := obS h
  refine xb_cons ?_
  refine n_set (d := ((eV eI) reason_2)) (XD.o (en := (eV eI)) (v := v1.2) (xd_ixT (xm_lix (en := (eP2 eS (eV eI))) (xs := lines_p) (n_var hN (.here)) (n_var hN (.there (.there (.here)))) q1) xd_int rfl) q3) hN nd (.there (.there (.there (.there (.there (.here)))))) ?_
  obtain ⟨v5, q5, h⟩ := obS h
  obtain ⟨j6, q6, h⟩ := obS h
  have hj6 := h
  refine xb_cut (M := fun e => ∃ s6 : ((List Int)), j6 = Sum.inl s6 ∧ e = [some (.d ((eL (eP2 eS (eV eI))) lines_p)), some (.d (eI k_p)), some (.d (eI at_p)), some (.d (eI other_p)), some (.d ((eL eI) draws_p)), some (.d ((eV eI) s6)), none, none, none]) (xs_if (b := v5) (XW.t (xw_orM (a := (!decide ((reason_2.length : Int) = (5 : Int)))) (q_cmpT hr (d1 := (eI (reason_2.length : Int))) (d2 := (eI (5 : Int))) (xm_vlen (en := eI) (n_var hN (.there (.there (.there (.there (.there (.here))))))) z_len) xd_int (.of CmpD.neI)) (fun hc b' h => by obtain ⟨v4, q4, h⟩ := obS h; obtain rfl := Option.some.inj h; exact (xw_or1 (q_cmpT hr (d1 := (eI (v4 % (4 : Int)))) (d2 := (eI (0 : Int))) (xd_mod (xd_int1 (xm_lix (en := eI) (xs := draws_p) (n_var hN (.there (.there (.there (.there (.here)))))) xd_int q4) z_int) xd_int (by decide)) xd_int (.of CmpD.eqI)))) q5)) (fun hc => ?_) (fun hc => ?_)) ?_
  · have h := ifT q6 hc
    obtain ⟨v7, q7, h⟩ := obS h
    obtain ⟨m_8, q9, h⟩ := obS h
    refine xb_cons ?_
    refine n_set (d := (eI m_8)) (XD.o (en := eI) (v := (k_p + (v7 % (3 : Int)))) (xd_add (n_var hN (.there (.here))) (xd_mod (xd_int1 (xm_lix (en := eI) (xs := draws_p) (n_var hN (.there (.there (.there (.there (.here)))))) xd_int q7) z_int) xd_int (by decide))) q9) hN nd (.there (.there (.there (.there (.there (.there (.here))))))) ?_
    obtain ⟨v10, q10, h⟩ := obS h
    obtain ⟨v11, q11, h⟩ := obS h
    obtain ⟨v12, q12, h⟩ := obS h
    obtain ⟨v13, q13, h⟩ := obS h
    obtain ⟨v14, q14, h⟩ := obS h
    obtain ⟨v15, q15, h⟩ := obS h
    obtain ⟨v16, q16, h⟩ := obS h
    obtain ⟨v17, q17, h⟩ := obS h
    obtain ⟨reason_18, q19, h⟩ := obS h
    refine xb_cons ?_
    refine n_set (d := ((eV eI) reason_18)) (XD.o (en := (eV eI)) (v := ([at_p, other_p, v11, m_8, v17] : List Int)) (xd_tup (ds := [(eI at_p), (eI other_p), (eI v11), (eI m_8), (eI v17)]) (xa_cons (d := (eI at_p)) (n_var hN (.there (.there (.here)))) (xa_cons (d := (eI other_p)) (n_var hN (.there (.there (.there (.here))))) (xa_cons (d := (eI v11)) (xm_vix (en := eI) (xs := ([at_p, other_p] : List Int)) (xd_tup (ds := [(eI at_p), (eI other_p)]) (xa_cons (d := (eI at_p)) (n_var hN (.there (.there (.here)))) (xa_cons (d := (eI other_p)) (n_var hN (.there (.there (.there (.here))))) xa_nil hs_Name) hs_Name) (show (2 : Nat) ≤ sizeLine by decide)) (xd_mod (xd_div (xd_int1 (xm_lix (en := eI) (xs := draws_p) (n_var hN (.there (.there (.there (.there (.here)))))) xd_int q10) z_int) xd_int ⟨by decide, by decide⟩) xd_int (by decide)) q11) (xa_cons (d := (eI m_8)) (n_var hN (.there (.there (.there (.there (.there (.there (.here)))))))) (xa_cons (d := (eI v17)) (xm_vix (en := eI) (xs := ([m_8, ((m_8 + v13) - v15)] : List Int)) (xd_tup (ds := [(eI m_8), (eI ((m_8 + v13) - v15))]) (xa_cons (d := (eI m_8)) (n_var hN (.there (.there (.there (.there (.there (.there (.here)))))))) (xa_cons (d := (eI ((m_8 + v13) - v15))) (xd_sub (xd_add (n_var hN (.there (.there (.there (.there (.there (.there (.here)))))))) (xm_slen (xd_ixT (xm_lix (en := (eP2 eS (eV eI))) (xs := lines_p) (n_var hN (.here)) (n_var hN (.there (.there (.there (.here))))) q12) xd_int rfl) q13 z_len)) (xm_slen (xd_ixT (xm_lix (en := (eP2 eS (eV eI))) (xs := lines_p) (n_var hN (.here)) (n_var hN (.there (.there (.here)))) q14) xd_int rfl) q15 z_len)) xa_nil hs_BinOp) hs_Name) (show (2 : Nat) ≤ sizeLine by decide)) (xd_mod (xd_int1 (xm_lix (en := eI) (xs := draws_p) (n_var hN (.there (.there (.there (.there (.here)))))) xd_int q16) z_int) xd_int (by decide)) q17) xa_nil hs_Subscript) hs_Name) hs_Subscript) hs_Name) hs_Name) (show (5 : Nat) ≤ sizeLine by decide)) q19) hN nd (.there (.there (.there (.there (.there (.here)))))) ?_
    refine xb_fg (.keep (.keep (.keep (.keep (.keep (.keep (.drop (.keep (.keep (Fg.nil)))))))))) ?_
    refine xb_nil ?_
    obtain rfl := Option.some.inj h
    exact ⟨_, rfl, rfl⟩
  · have h := ifF q6 hc
    refine xb_nil ?_
    obtain rfl := Option.some.inj h
    exact ⟨_, rfl, rfl⟩
  rintro _ ⟨s6, hs0, rfl⟩
  rw [hs0] at h
  have h := jnI h
  obtain ⟨v20, q20, h⟩ := obS h
  obtain ⟨place_21, q22, h⟩ := obS h
  refine xb_cons ?_
  refine n_set (d := (eI place_21)) (XD.o (en := eI) (v := ((v20 / (8 : Int)) % (5 : Int))) (xd_mod (xd_div (xd_int1 (xm_lix (en := eI) (xs := draws_p) (n_var hN (.there (.there (.there (.there (.here)))))) xd_int q20) z_int) xd_int ⟨by decide, by decide⟩) xd_int (by decide)) q22) hN nd (.there (.there (.there (.there (.there (.there (.there (.here)))))))) ?_
  obtain ⟨v23, q23, h⟩ := obS h
  obtain ⟨v24, q24, h⟩ := obS h
  refine xb_cons ?_
  refine n_set (d := (eI v24)) (xm_mod (xd_div (xd_int1 (xm_lix (en := eI) (xs := draws_p) (n_var hN (.there (.there (.there (.there (.here)))))) xd_int q23) z_int) xd_int ⟨by decide, by decide⟩) (xm_llen (en := (eP2 eS (eV eI))) (n_var hN (.here)) z_len) q24) hN nd (.there (.there (.there (.there (.there (.there (.there (.there (.here))))))))) ?_
  obtain ⟨j27, q27, h⟩ := obS h
  have hj27 := h
  refine xb_cut (M := fun e => ∃ s27 : (Int), j27 = Sum.inl s27 ∧ e = [some (.d ((eL (eP2 eS (eV eI))) lines_p)), some (.d (eI k_p)), some (.d (eI at_p)), some (.d (eI other_p)), some (.d ((eL eI) draws_p)), some (.d ((eV eI) s6)), none, some (.d (eI place_21)), some (.d (eI s27))]) (xs_if (b := (decide ((2 : Int) < place_21))) (q_cmpT hr (d1 := (eI place_21)) (d2 := (eI (2 : Int))) (n_var hN (.there (.there (.there (.there (.there (.there (.there (.here))))))))) xd_int (.of CmpD.gtI)) (fun hc => ?_) (fun hc => ?_)) ?_
  · have h := ifT q27 hc
    obtain ⟨v28, q28, h⟩ := obS h
    obtain ⟨value_29, q30, h⟩ := obS h
    refine xb_cons ?_
    refine n_set (d := (eI value_29)) (XD.o (en := eI) (v := ((if (k_p - (1 : Int)) > (0 : Int) then (k_p - (1 : Int)) else (0 : Int)) + ((v28 / (8 : Int)) % (4 : Int)))) (xd_add (xd_max2 (xa_cons (d := (eI (0 : Int))) xd_int (xa_cons (d := (eI (k_p - (1 : Int)))) (xd_sub (n_var hN (.there (.here))) xd_int) xa_nil hs_BinOp) hs_Constant) z_max) (xd_mod (xd_div (xd_int1 (xm_lix (en := eI) (xs := draws_p) (n_var hN (.there (.there (.there (.there (.here)))))) xd_int q28) z_int) xd_int ⟨by decide, by decide⟩) xd_int (by decide))) q30) hN nd (.there (.there (.there (.there (.there (.there (.there (.there (.here))))))))) ?_
    refine xb_nil ?_
    obtain rfl := Option.some.inj h
    exact ⟨_, rfl, rfl⟩
  · have h := ifF q27 hc
    refine xb_nil ?_
    obtain rfl := Option.some.inj h
    exact ⟨_, rfl, rfl⟩
  rintro _ ⟨s27, hs0, rfl⟩
  rw [hs0] at h
  have h := jnI h
  obtain ⟨v31, q31, h⟩ := obS h
  obtain ⟨v32, q32, h⟩ := obS h
  refine xb_cons ?_
  refine n_set (d := ((eV eI) v32)) (xm_vcat (en := eI) (xm_vcat (en := eI) (xm_vcut (en := eI) (n_var hN (.there (.there (.there (.there (.there (.here))))))) xo_none (xo_some (n_var hN (.there (.there (.there (.there (.there (.there (.there (.here))))))))))) (xd_tup (ds := [(eI s27)]) (xa_cons (d := (eI s27)) (n_var hN (.there (.there (.there (.there (.there (.there (.there (.there (.here)))))))))) xa_nil hs_Name) (show (1 : Nat) ≤ sizeLine by decide)) q31) (xm_vcut (en := eI) (n_var hN (.there (.there (.there (.there (.there (.here))))))) (xo_some (xd_add (n_var hN (.there (.there (.there (.there (.there (.there (.there (.here))))))))) xd_int)) xo_none) q32) hN nd (.there (.there (.there (.there (.there (.here)))))) ?_
  obtain ⟨v35, q35, h⟩ := obS h
  obtain ⟨v36, q36, h⟩ := obS h
  obtain ⟨v37, q37, h⟩ := obS h
  obtain ⟨v38, q38, h⟩ := obS h
  obtain ⟨v39, q39, h⟩ := obS h
  obtain ⟨v40, q40, h⟩ := obS h
  obtain ⟨v41, q41, h⟩ := obS h
  obtain ⟨v42, q42, h⟩ := obS h
  obtain ⟨v43, q43, h⟩ := obS h
  refine xb_cons ?_
  refine xs_ret (d := ((eP2 eS (eV eI)) (v43, v32))) (xd_tup (ds := [(eS v43), ((eV eI) v32)]) (xa_cons (d := (eS v43)) (xm_sadd (xm_scut (xd_ixT (xm_lix (en := (eP2 eS (eV eI))) (xs := lines_p) (n_var hN (.here)) (xm_vix (en := eI) (xs := v32) (n_var hN (.there (.there (.there (.there (.there (.here))))))) xd_int q35) q36) xd_int rfl) xo_none (xo_some (xd_max2 (xa_cons (d := (eI (0 : Int))) xd_int (xa_cons (d := (eI v37)) (xm_vix (en := eI) (xs := v32) (n_var hN (.there (.there (.there (.there (.there (.here))))))) xd_int q37) xa_nil hs_Subscript) hs_Constant) z_max)) q38) (xm_scut (xd_ixT (xm_lix (en := (eP2 eS (eV eI))) (xs := lines_p) (n_var hN (.here)) (xm_vix (en := eI) (xs := v32) (n_var hN (.there (.there (.there (.there (.there (.here))))))) xd_int q39) q40) xd_int rfl) (xo_some (xm_vix (en := eI) (xs := v32) (n_var hN (.there (.there (.there (.there (.there (.here))))))) xd_int q41)) xo_none q42) q43) (xa_cons (d := ((eV eI) v32)) (n_var hN (.there (.there (.there (.there (.there (.here))))))) xa_nil hs_Name) hs_BinOp) (show (2 : Nat) ≤ sizeLine by decide)) ?_
  obtain rfl := Option.some.inj h
  exact rfl
set_option maxHeartbeats 4000000 in
theorem ok_law_spoilt_lines {f : Addr} {fd : FuncData} (F : Fun K "_law_spoilt_lines" "_law_spoilt_lines" s_law_spoilt_lines f fd) (B : L2.Binds K fd ["lines", "k", "letters", "draws"] []) (g : mg "_law_spoilt_lines" = some (.ref f)) (T : Bi mg) (D_law_spoilt_number : DefOk P w K mg base "_law_spoilt_number" 1 C_law_spoilt_number) (D_law_near_line : DefOk P w K mg base "_law_near_line" 1 C_law_near_line) : DefOk P w K mg base "_law_spoilt_lines" 2 C_law_spoilt_lines := by
  obtain ⟨z_max, z_len, z_all, z_range, z_min, z_abs, z_int, z_isinstance, z_bool, z_str, z_sorted, z_tuple, z_list⟩ := T
  refine defOk_mk F B g sc_law_spoilt_lines ?_
  intro cdv A outer s H E hr hN nd ii hok
  obtain ⟨lines_p, k_p, letters_p, draws_p, res⟩ := ii
  have h : m_law_spoilt_lines lines_p k_p letters_p draws_p = some res := hok
  unfold m_law_spoilt_lines at h
  show XB _ _ [some (.d ((eL (eP2 eS (eV eI))) lines_p)), some (.d (eI k_p)), some (.d ((eL eS) letters_p)), some (.d ((eL eI) draws_p)), none, none, none, none, none, none, none] _
  refine xb_cons ?_
  refine xs_if (b := (decide ((lines_p.length : Int) = (0 : Int)))) (q_cmpT hr (d1 := (eI (lines_p.length : Int))) (d2 := (eI (0 : Int))) (xm_llen (en := (eP2 eS (eV eI))) (n_var hN (.here)) z_len) xd_int (.of CmpD.eqI)) (fun hc => ?_) (fun hc => ?_)
  · have h := ifT h hc
    obtain ⟨v1, q1, h⟩ := obS h
    obtain ⟨v2, q2, h⟩ := obS h
    obtain ⟨v3, q3, h⟩ := obS h
    refine xb_cons ?_
    refine xs_ret (d := ((eL (eP2 eS (eV eI))) ([(v1, v3)] : List (Str × (List Int))))) (XL.dat (xl_lst (ds := [((eP2 eS (eV eI)) (v1, v3))]) (xa_cons (d := ((eP2 eS (eV eI)) (v1, v3))) (xd_tup (ds := [(eS v1), ((eV eI) v3)]) (xa_cons (d := (eS v1)) (xm_lix (en := eS) (xs := letters_p) (n_var hN (.there (.there (.here)))) xd_int q1) (xa_cons (d := ((eV eI) v3)) (xm_vix (en := (eV eI)) (xs := ([([] : List Int), ([(0 : Int), (0 : Int), (0 : Int), k_p, k_p] : List Int)] : List (List Int))) (xd_tup (ds := [((eV eI) ([] : List Int)), ((eV eI) ([(0 : Int), (0 : Int), (0 : Int), k_p, k_p] : List Int))]) (xa_cons (d := ((eV eI) ([] : List Int))) (xd_tup (ds := []) xa_nil (show (0 : Nat) ≤ sizeLine by decide)) (xa_cons (d := ((eV eI) ([(0 : Int), (0 : Int), (0 : Int), k_p, k_p] : List Int))) (xd_tup (ds := [(eI (0 : Int)), (eI (0 : Int)), (eI (0 : Int)), (eI k_p), (eI k_p)]) (xa_cons (d := (eI (0 : Int))) xd_int (xa_cons (d := (eI (0 : Int))) xd_int (xa_cons (d := (eI (0 : Int))) xd_int (xa_cons (d := (eI k_p)) (n_var hN (.there (.here))) (xa_cons (d := (eI k_p)) (n_var hN (.there (.here))) xa_nil hs_Name) hs_Name) hs_Constant) hs_Constant) hs_Constant) (show (5 : Nat) ≤ sizeLine by decide)) xa_nil hs_Tuple) hs_Tuple) (show (2 : Nat) ≤ sizeLine by decide)) (xd_mod (xd_int1 (xm_lix (en := eI) (xs := draws_p) (n_var hN (.there (.there (.there (.here))))) xd_int q2) z_int) xd_int (by decide)) q3) xa_nil hs_Subscript) hs_Subscript) (show (2 : Nat) ≤ sizeLine by decide)) xa_nil hs_Tuple) (show (1 : Nat) ≤ sizeLine by decide))) ?_
    obtain rfl := Option.some.inj h
    exact rfl
  · have h := ifF h hc
    refine xb_nil ?_
    obtain ⟨v4, q4, h⟩ := obS h
    obtain ⟨v5, q5, h⟩ := obS h
    refine xb_cons ?_
    refine n_set (d := (eI v5)) (xm_mod (xd_int1 (xm_lix (en := eI) (xs := draws_p) (n_var hN (.there (.there (.there (.here))))) xd_int q4) z_int) (xm_llen (en := (eP2 eS (eV eI))) (n_var hN (.here)) z_len) q5) hN nd (.there (.there (.there (.there (.here))))) ?_
    obtain ⟨v8, q8, h⟩ := obS h
    obtain ⟨v9, q9, h⟩ := obS h
    refine xb_cons ?_
    refine n_set (d := (eI v9)) (xm_mod (xd_int1 (xm_lix (en := eI) (xs := draws_p) (n_var hN (.there (.there (.there (.here))))) xd_int q8) z_int) (xm_llen (en := (eP2 eS (eV eI))) (n_var hN (.here)) z_len) q9) hN nd (.there (.there (.there (.there (.there (.here)))))) ?_
    obtain ⟨v12, q12, h⟩ := obS h
    refine xb_cons ?_
    refine n_set (d := ((eP2 eS (eV eI)) v12)) (xm_lix (en := (eP2 eS (eV eI))) (xs := lines_p) (n_var hN (.here)) (n_var hN (.there (.there (.there (.there (.here)))))) q12) hN nd (.there (.there (.there (.there (.there (.there (.here))))))) ?_
    obtain ⟨v15, q15, h⟩ := obS h
    obtain ⟨kind_16, q17, h⟩ := obS h
    refine xb_cons ?_
    refine n_set (d := (eI kind_16)) (XD.o (en := eI) (v := (v15 % (14 : Int))) (xd_mod (xd_int1 (xm_lix (en := eI) (xs := draws_p) (n_var hN (.there (.there (.there (.here))))) xd_int q15) z_int) xd_int (by decide)) q17) hN nd (.there (.there (.there (.there (.there (.there (.there (.here)))))))) ?_
    obtain ⟨j18, q18, h⟩ := obS h
    have hj18 := h
    refine xb_cut (M := fun e => ∃ s18 : ((Str × (List Int))), j18 = Sum.inl s18 ∧ e = [some (.d ((eL (eP2 eS (eV eI))) lines_p)), some (.d (eI k_p)), some (.d ((eL eS) letters_p)), some (.d ((eL eI) draws_p)), some (.d (eI v5)), some (.d (eI v9)), some (.d ((eP2 eS (eV eI)) s18)), some (.d (eI kind_16)), none, none, none]) (xs_if (b := ((decide (kind_16 < (3 : Int))) && (decide ((v12.2.length : Int) = (5 : Int))))) (XW.t (xw_and (a := (decide (kind_16 < (3 : Int)))) (b := (decide ((v12.2.length : Int) = (5 : Int)))) (q_cmpT hr (d1 := (eI kind_16)) (d2 := (eI (3 : Int))) (n_var hN (.there (.there (.there (.there (.there (.there (.there (.here))))))))) xd_int (.of CmpD.ltI)) fun _ => (xw_and1 (q_cmpT hr (d1 := (eI (v12.2.length : Int))) (d2 := (eI (5 : Int))) (xm_vlen (en := eI) (xd_ixT (n_var hN (.there (.there (.there (.there (.there (.there (.here)))))))) xd_int rfl) z_len) xd_int (.of CmpD.eqI))))) (fun hc => ?_) (fun hc => ?_)) ?_
    · have h := ifT q18 hc
      obtain ⟨v19, q19, h⟩ := obS h
      refine xb_cons ?_
      refine n_set (d := ((eP2 eS (eV eI)) v19)) (xd_call D_law_spoilt_number hr (i := (lines_p, v5, k_p, (cutL draws_p (some (3 : Int)) (some (5 : Int))), v19)) (d := ((eP2 eS (eV eI)) v19)) (xa_cons (d := ((eL (eP2 eS (eV eI))) lines_p)) (n_var hN (.here)) (xa_cons (d := (eI v5)) (n_var hN (.there (.there (.there (.there (.here)))))) (xa_cons (d := (eI k_p)) (n_var hN (.there (.here))) (xa_cons (d := ((eL eI) (cutL draws_p (some (3 : Int)) (some (5 : Int))))) (XL.dat (xm_lcut (en := eI) (n_var hN (.there (.there (.there (.here))))) (xo_some xd_int) (xo_some xd_int))) xa_nil hs_Subscript) hs_Name) hs_Name) hs_Name) q19 (fun _ h => h)) hN nd (.there (.there (.there (.there (.there (.there (.here))))))) ?_
      refine xb_nil ?_
      obtain rfl := Option.some.inj h
      exact ⟨_, rfl, rfl⟩
    · have h := ifF q18 hc
      refine xb_cons ?_
      refine xs_if (b := (decide (kind_16 < (5 : Int)))) (q_cmpT hr (d1 := (eI kind_16)) (d2 := (eI (5 : Int))) (n_var hN (.there (.there (.there (.there (.there (.there (.there (.here))))))))) xd_int (.of CmpD.ltI)) (fun hc => ?_) (fun hc => ?_)
      · have h := ifT h hc
        obtain ⟨v22, q22, h⟩ := obS h
        obtain ⟨v23, q23, h⟩ := obS h
        obtain ⟨v24, q24, h⟩ := obS h
        obtain ⟨v25, q25, h⟩ := obS h
        refine xb_cons ?_
        refine n_set (d := (eI v25)) (xm_vix (en := eI) (xs := ([k_p, v22, (k_p - (1 : Int)), (v23 + (1 : Int)), (0 : Int), ((0 : Int) - (1 : Int))] : List Int)) (xd_tup (ds := [(eI k_p), (eI v22), (eI (k_p - (1 : Int))), (eI (v23 + (1 : Int))), (eI (0 : Int)), (eI ((0 : Int) - (1 : Int)))]) (xa_cons (d := (eI k_p)) (n_var hN (.there (.here))) (xa_cons (d := (eI v22)) (xm_slen (xd_ixT (n_var hN (.there (.there (.there (.there (.there (.there (.here)))))))) xd_int rfl) q22 z_len) (xa_cons (d := (eI (k_p - (1 : Int)))) (xd_sub (n_var hN (.there (.here))) xd_int) (xa_cons (d := (eI (v23 + (1 : Int)))) (xd_add (xm_slen (xd_ixT (n_var hN (.there (.there (.there (.there (.there (.there (.here)))))))) xd_int rfl) q23 z_len) xd_int) (xa_cons (d := (eI (0 : Int))) xd_int (xa_cons (d := (eI ((0 : Int) - (1 : Int)))) (xd_sub xd_int xd_int) xa_nil hs_BinOp) hs_Constant) hs_BinOp) hs_BinOp) hs_Call) hs_Name) (show (6 : Nat) ≤ sizeLine by decide)) (xd_mod (xd_int1 (xm_lix (en := eI) (xs := draws_p) (n_var hN (.there (.there (.there (.here))))) xd_int q24) z_int) xd_int (by decide)) q25) hN nd (.there (.there (.there (.there (.there (.there (.there (.there (.here))))))))) ?_
        obtain ⟨v28, q28, h⟩ := obS h
        obtain ⟨v29, q29, h⟩ := obS h
        obtain ⟨v30, q30, h⟩ := obS h
        refine xb_cons ?_
        refine xs_ret (d := ((eL (eP2 eS (eV eI))) v30)) (XL.dat (xm_lcat (en := (eP2 eS (eV eI))) (n_var hN (.here)) (XL.dat (xl_lst (ds := [((eP2 eS (eV eI)) (v12.1, ([v5, v5, v5, v25, v29] : List Int)))]) (xa_cons (d := ((eP2 eS (eV eI)) (v12.1, ([v5, v5, v5, v25, v29] : List Int)))) (xd_tup (ds := [(eS v12.1), ((eV eI) ([v5, v5, v5, v25, v29] : List Int))]) (xa_cons (d := (eS v12.1)) (xd_ixT (n_var hN (.there (.there (.there (.there (.there (.there (.here)))))))) xd_int rfl) (xa_cons (d := ((eV eI) ([v5, v5, v5, v25, v29] : List Int))) (xd_tup (ds := [(eI v5), (eI v5), (eI v5), (eI v25), (eI v29)]) (xa_cons (d := (eI v5)) (n_var hN (.there (.there (.there (.there (.here)))))) (xa_cons (d := (eI v5)) (n_var hN (.there (.there (.there (.there (.here)))))) (xa_cons (d := (eI v5)) (n_var hN (.there (.there (.there (.there (.here)))))) (xa_cons (d := (eI v25)) (n_var hN (.there (.there (.there (.there (.there (.there (.there (.there (.here)))))))))) (xa_cons (d := (eI v29)) (xm_vix (en := eI) (xs := ([v25, v25, v25, (v25 + (1 : Int))] : List Int)) (xd_tup (ds := [(eI v25), (eI v25), (eI v25), (eI (v25 + (1 : Int)))]) (xa_cons (d := (eI v25)) (n_var hN (.there (.there (.there (.there (.there (.there (.there (.there (.here)))))))))) (xa_cons (d := (eI v25)) (n_var hN (.there (.there (.there (.there (.there (.there (.there (.there (.here)))))))))) (xa_cons (d := (eI v25)) (n_var hN (.there (.there (.there (.there (.there (.there (.there (.there (.here)))))))))) (xa_cons (d := (eI (v25 + (1 : Int)))) (xd_add (n_var hN (.there (.there (.there (.there (.there (.there (.there (.there (.here)))))))))) xd_int) xa_nil hs_BinOp) hs_Name) hs_Name) hs_Name) (show (4 : Nat) ≤ sizeLine by decide)) (xd_mod (xd_int1 (xm_lix (en := eI) (xs := draws_p) (n_var hN (.there (.there (.there (.here))))) xd_int q28) z_int) xd_int (by decide)) q29) xa_nil hs_Subscript) hs_Name) hs_Name) hs_Name) hs_Name) (show (5 : Nat) ≤ sizeLine by decide)) xa_nil hs_Tuple) hs_Subscript) (show (2 : Nat) ≤ sizeLine by decide)) xa_nil hs_Tuple) (show (1 : Nat) ≤ sizeLine by decide))) q30)) ?_
        obtain rfl := Option.some.inj h
        have h := jnR hj18
        obtain rfl := Option.some.inj h
        exact rfl
      · have h := ifF h hc
        refine xb_cons ?_
        refine xs_if (b := (decide ((9 : Int) < kind_16))) (q_cmpT hr (d1 := (eI kind_16)) (d2 := (eI (9 : Int))) (n_var hN (.there (.there (.there (.there (.there (.there (.there (.here))))))))) xd_int (.of CmpD.gtI)) (fun hc => ?_) (fun hc => ?_)
        · have h := ifT h hc
          obtain ⟨v31, q31, h⟩ := obS h
          obtain ⟨v32, q32, h⟩ := obS h
          refine xb_cons ?_
          refine xs_ret (d := ((eL (eP2 eS (eV eI))) v32)) (XL.dat (xm_lcat (en := (eP2 eS (eV eI))) (n_var hN (.here)) (XL.dat (xl_lst (ds := [((eP2 eS (eV eI)) v31)]) (xa_cons (d := ((eP2 eS (eV eI)) v31)) (xd_call D_law_near_line hr (i := (lines_p, k_p, v5, v9, (cutL draws_p (some (3 : Int)) (some (5 : Int))), v31)) (d := ((eP2 eS (eV eI)) v31)) (xa_cons (d := ((eL (eP2 eS (eV eI))) lines_p)) (n_var hN (.here)) (xa_cons (d := (eI k_p)) (n_var hN (.there (.here))) (xa_cons (d := (eI v5)) (n_var hN (.there (.there (.there (.there (.here)))))) (xa_cons (d := (eI v9)) (n_var hN (.there (.there (.there (.there (.there (.here))))))) (xa_cons (d := ((eL eI) (cutL draws_p (some (3 : Int)) (some (5 : Int))))) (XL.dat (xm_lcut (en := eI) (n_var hN (.there (.there (.there (.here))))) (xo_some xd_int) (xo_some xd_int))) xa_nil hs_Subscript) hs_Name) hs_Name) hs_Name) hs_Name) q31 (fun _ h => h)) xa_nil hs_Call) (show (1 : Nat) ≤ sizeLine by decide))) q32)) ?_
          obtain rfl := Option.some.inj h
          have h := jnR hj18
          obtain rfl := Option.some.inj h
          exact rfl
        · have h := ifF h hc
          refine xb_cons ?_
          refine xs_if (b := (decide (kind_16 = (5 : Int)))) (q_cmpT hr (d1 := (eI kind_16)) (d2 := (eI (5 : Int))) (n_var hN (.there (.there (.there (.there (.there (.there (.there (.here))))))))) xd_int (.of CmpD.eqI)) (fun hc => ?_) (fun hc => ?_)
          · have h := ifT h hc
            obtain ⟨after_33, q34, h⟩ := obS h
            refine xb_cons ?_
            refine n_setL (xs := List.map (eP2 eS (eV eI)) after_33) (xl_to (xl_listL (n_var hN (.here)) z_list) (by cases q34; rfl)) hN nd (.there (.there (.there (.there (.there (.there (.there (.there (.there (.here)))))))))) ?_
            obtain ⟨v35, q35, h⟩ := obS h
            obtain ⟨after_36, q37, h⟩ := obS h
            refine xb_cons ?_
            refine nm_setix (en := (eP2 eS (eV eI))) (y := v35) hN (.there (.there (.there (.there (.there (.there (.there (.there (.there (.here)))))))))) (xm_lix (en := (eP2 eS (eV eI))) (xs := lines_p) (n_var hN (.here)) (n_var hN (.there (.there (.there (.there (.there (.here))))))) q35) (n_var hN (.there (.there (.there (.there (.here)))))) q37 (.there (.there (.there (.there (.there (.there (.there (.there (.there (.here)))))))))) nd ?_
            obtain ⟨after_38, q39, h⟩ := obS h
            refine xb_cons ?_
            refine nm_setix (en := (eP2 eS (eV eI))) (y := v12) hN (.there (.there (.there (.there (.there (.there (.there (.there (.there (.here)))))))))) (n_var hN (.there (.there (.there (.there (.there (.there (.here)))))))) (n_var hN (.there (.there (.there (.there (.there (.here))))))) q39 (.there (.there (.there (.there (.there (.there (.there (.there (.there (.here)))))))))) nd ?_
            refine n_freeze "after" hN nd (.there (.there (.there (.there (.there (.there (.there (.there (.there (.here)))))))))) (.there (.there (.there (.there (.there (.there (.there (.there (.there (.here)))))))))) ?_
            refine xb_cons ?_
            refine xs_ret (d := ((eL (eP2 eS (eV eI))) after_38)) (n_var hN (.there (.there (.there (.there (.there (.there (.there (.there (.there (.here))))))))))) ?_
            obtain rfl := Option.some.inj h
            have h := jnR hj18
            obtain rfl := Option.some.inj h
            exact rfl
          · have h := ifF h hc
            refine xb_cons ?_
            refine xs_if (b := (decide (kind_16 = (6 : Int)))) (q_cmpT hr (d1 := (eI kind_16)) (d2 := (eI (6 : Int))) (n_var hN (.there (.there (.there (.there (.there (.there (.there (.here))))))))) xd_int (.of CmpD.eqI)) (fun hc => ?_) (fun hc => ?_)
            · have h := ifT h hc
              obtain ⟨v40, q40, h⟩ := obS h
              refine xb_cons ?_
              refine xs_ret (d := ((eL (eP2 eS (eV eI))) v40)) (XL.dat (xm_lcat (en := (eP2 eS (eV eI))) (XL.dat (xm_lcut (en := (eP2 eS (eV eI))) (n_var hN (.here)) xo_none (xo_some (n_var hN (.there (.there (.there (.there (.here))))))))) (XL.dat (xm_lcut (en := (eP2 eS (eV eI))) (n_var hN (.here)) (xo_some (xd_add (n_var hN (.there (.there (.there (.there (.here)))))) xd_int)) xo_none)) q40)) ?_
              obtain rfl := Option.some.inj h
              have h := jnR hj18
              obtain rfl := Option.some.inj h
              exact rfl
            · have h := ifF h hc
              obtain ⟨j41, q41, h⟩ := obS h
              have hj41 := h
              refine xb_cut (M := fun e => ∃ s41 : ((Str × (List Int))), j41 = Sum.inl s41 ∧ e = [some (.d ((eL (eP2 eS (eV eI))) lines_p)), some (.d (eI k_p)), some (.d ((eL eS) letters_p)), some (.d ((eL eI) draws_p)), some (.d (eI v5)), some (.d (eI v9)), some (.d ((eP2 eS (eV eI)) s41)), some (.d (eI kind_16)), none, none, none]) (xs_if (b := (decide (kind_16 = (7 : Int)))) (q_cmpT hr (d1 := (eI kind_16)) (d2 := (eI (7 : Int))) (n_var hN (.there (.there (.there (.there (.there (.there (.there (.here))))))))) xd_int (.of CmpD.eqI)) (fun hc => ?_) (fun hc => ?_)) ?_
              · have h := ifT q41 hc
                obtain ⟨v44, q44, h⟩ := obS h
                obtain ⟨v45, q45, h⟩ := obS h
                obtain ⟨v46, q46, h⟩ := obS h
                obtain ⟨v47, q47, h⟩ := obS h
                obtain ⟨line_48, q49, h⟩ := obS h
                refine xb_cons ?_
                refine n_set (d := ((eP2 eS (eV eI)) line_48)) (XD.o (en := (eP2 eS (eV eI))) (v := (v12.1, v47)) (xd_tup (ds := [(eS v12.1), ((eV eI) v47)]) (xa_cons (d := (eS v12.1)) (xd_ixT (n_var hN (.there (.there (.there (.there (.there (.there (.here)))))))) xd_int rfl) (xa_cons (d := ((eV eI) v47)) (xm_vix (en := (eV eI)) (xs := ([([] : List Int), v44, (cutL v12.2 none (some (4 : Int))), ([(0 : Int), (0 : Int), (0 : Int), k_p, k_p] : List Int), v45] : List (List Int))) (xd_tup (ds := [((eV eI) ([] : List Int)), ((eV eI) v44), ((eV eI) (cutL v12.2 none (some (4 : Int)))), ((eV eI) ([(0 : Int), (0 : Int), (0 : Int), k_p, k_p] : List Int)), ((eV eI) v45)]) (xa_cons (d := ((eV eI) ([] : List Int))) (xd_tup (ds := []) xa_nil (show (0 : Nat) ≤ sizeLine by decide)) (xa_cons (d := ((eV eI) v44)) (xm_vcat (en := eI) (xd_ixT (n_var hN (.there (.there (.there (.there (.there (.there (.here)))))))) xd_int rfl) (xd_tup (ds := [(eI (0 : Int))]) (xa_cons (d := (eI (0 : Int))) xd_int xa_nil hs_Constant) (show (1 : Nat) ≤ sizeLine by decide)) q44) (xa_cons (d := ((eV eI) (cutL v12.2 none (some (4 : Int))))) (xm_vcut (en := eI) (xd_ixT (n_var hN (.there (.there (.there (.there (.there (.there (.here)))))))) xd_int rfl) xo_none (xo_some xd_int)) (xa_cons (d := ((eV eI) ([(0 : Int), (0 : Int), (0 : Int), k_p, k_p] : List Int))) (xd_tup (ds := [(eI (0 : Int)), (eI (0 : Int)), (eI (0 : Int)), (eI k_p), (eI k_p)]) (xa_cons (d := (eI (0 : Int))) xd_int (xa_cons (d := (eI (0 : Int))) xd_int (xa_cons (d := (eI (0 : Int))) xd_int (xa_cons (d := (eI k_p)) (n_var hN (.there (.here))) (xa_cons (d := (eI k_p)) (n_var hN (.there (.here))) xa_nil hs_Name) hs_Name) hs_Constant) hs_Constant) hs_Constant) (show (5 : Nat) ≤ sizeLine by decide)) (xa_cons (d := ((eV eI) v45)) (xm_vrep (en := eI) (xd_ixT (n_var hN (.there (.there (.there (.there (.there (.there (.here)))))))) xd_int rfl) xd_int q45) xa_nil hs_BinOp) hs_Tuple) hs_Subscript) hs_BinOp) hs_Tuple) (show (5 : Nat) ≤ sizeLine by decide)) (xd_mod (xd_int1 (xm_lix (en := eI) (xs := draws_p) (n_var hN (.there (.there (.there (.here))))) xd_int q46) z_int) xd_int (by decide)) q47) xa_nil hs_Subscript) hs_Subscript) (show (2 : Nat) ≤ sizeLine by decide)) q49) hN nd (.there (.there (.there (.there (.there (.there (.here))))))) ?_
                refine xb_nil ?_
                obtain rfl := Option.some.inj h
                exact ⟨_, rfl, rfl⟩
              · have h := ifF q41 hc
                refine xb_cons ?_
                refine xs_if (b := (decide (kind_16 = (8 : Int)))) (q_cmpT hr (d1 := (eI kind_16)) (d2 := (eI (8 : Int))) (n_var hN (.there (.there (.there (.there (.there (.there (.there (.here))))))))) xd_int (.of CmpD.eqI)) (fun hc => ?_) (fun hc => ?_)
                · have h := ifT h hc
                  obtain ⟨v50, q50, h⟩ := obS h
                  obtain ⟨v51, q51, h⟩ := obS h
                  obtain ⟨v52, q52, h⟩ := obS h
                  refine xb_cons ?_
                  refine n_set (d := (eS v52)) (xm_lix (en := eS) (xs := letters_p) (n_var hN (.there (.there (.here)))) (xm_mod (xd_int1 (xm_lix (en := eI) (xs := draws_p) (n_var hN (.there (.there (.there (.here))))) xd_int q50) z_int) (xm_llen (en := eS) (n_var hN (.there (.there (.here)))) z_len) q51) q52) hN nd (.there (.there (.there (.there (.there (.there (.there (.there (.there (.there (.here))))))))))) ?_
                  obtain ⟨v55, q55, h⟩ := obS h
                  obtain ⟨v56, q56, h⟩ := obS h
                  obtain ⟨v57, q57, h⟩ := obS h
                  obtain ⟨v58, q58, h⟩ := obS h
                  obtain ⟨v59, q59, h⟩ := obS h
                  obtain ⟨v60, q60, h⟩ := obS h
                  obtain ⟨v61, q61, h⟩ := obS h
                  obtain ⟨line_62, q63, h⟩ := obS h
                  refine xb_cons ?_
                  refine n_set (d := ((eP2 eS (eV eI)) line_62)) (XD.o (en := (eP2 eS (eV eI))) (v := (v61, v12.2)) (xd_tup (ds := [(eS v61), ((eV eI) v12.2)]) (xa_cons (d := (eS v61)) (xm_vix (en := eS) (xs := ([v55, v56, v57, v58, v59, ("?" : Str)] : List Str)) (xd_tup (ds := [(eS v55), (eS v56), (eS v57), (eS v58), (eS v59), (eS ("?" : Str))]) (xa_cons (d := (eS v55)) (xm_sadd (xd_ixT (n_var hN (.there (.there (.there (.there (.there (.there (.here)))))))) xd_int rfl) (n_var hN (.there (.there (.there (.there (.there (.there (.there (.there (.there (.there (.here)))))))))))) q55) (xa_cons (d := (eS v56)) (xm_sadd (n_var hN (.there (.there (.there (.there (.there (.there (.there (.there (.there (.there (.here)))))))))))) (xd_ixT (n_var hN (.there (.there (.there (.there (.there (.there (.here)))))))) xd_int rfl) q56) (xa_cons (d := (eS v57)) (xm_scut (xd_ixT (n_var hN (.there (.there (.there (.there (.there (.there (.here)))))))) xd_int rfl) (xo_some xd_int) xo_none q57) (xa_cons (d := (eS v58)) (xm_scut (xd_ixT (n_var hN (.there (.there (.there (.there (.there (.there (.here)))))))) xd_int rfl) xo_none (xo_some (xd_neg xd_int)) q58) (xa_cons (d := (eS v59)) (xm_sadd (xd_ixT (n_var hN (.there (.there (.there (.there (.there (.there (.here)))))))) xd_int rfl) xd_str q59) (xa_cons (d := (eS ("?" : Str))) xd_str xa_nil hs_Constant) hs_BinOp) hs_Subscript) hs_Subscript) hs_BinOp) hs_BinOp) (show (6 : Nat) ≤ sizeLine by decide)) (xd_mod (xd_int1 (xm_lix (en := eI) (xs := draws_p) (n_var hN (.there (.there (.there (.here))))) xd_int q60) z_int) xd_int (by decide)) q61) (xa_cons (d := ((eV eI) v12.2)) (xd_ixT (n_var hN (.there (.there (.there (.there (.there (.there (.here)))))))) xd_int rfl) xa_nil hs_Subscript) hs_Subscript) (show (2 : Nat) ≤ sizeLine by decide)) q63) hN nd (.there (.there (.there (.there (.there (.there (.here))))))) ?_
                  refine xb_nil ?_
                  refine xb_fg (.keep (.keep (.keep (.keep (.keep (.keep (.keep (.keep (.keep (.keep (.drop (Fg.nil)))))))))))) ?_
                  refine xb_nil ?_
                  obtain rfl := Option.some.inj h
                  exact ⟨_, rfl, rfl⟩
                · have h := ifF h hc
                  obtain ⟨v64, q64, h⟩ := obS h
                  refine xb_cons ?_
                  refine xs_ret (d := ((eL (eP2 eS (eV eI))) v64)) (XL.dat (xm_lcat (en := (eP2 eS (eV eI))) (XL.dat (xm_lcut (en := (eP2 eS (eV eI))) (n_var hN (.here)) xo_none (xo_some (xd_add (n_var hN (.there (.there (.there (.there (.here)))))) xd_int)))) (XL.dat (xm_lcut (en := (eP2 eS (eV eI))) (n_var hN (.here)) (xo_some (n_var hN (.there (.there (.there (.there (.here))))))) xo_none)) q64)) ?_
                  obtain rfl := Option.some.inj h
                  have h := jnR hj41
                  obtain rfl := Option.some.inj h
                  have h := jnR hj18
                  obtain rfl := Option.some.inj h
                  exact rfl
              rintro _ ⟨s41, hs0, rfl⟩
              rw [hs0] at h
              have h := jnI h
              refine xb_nil ?_
              refine xb_nil ?_
              refine xb_nil ?_
              refine xb_nil ?_
              refine xb_nil ?_
              obtain rfl := Option.some.inj h
              exact ⟨_, rfl, rfl⟩
    rintro _ ⟨s18, hs0, rfl⟩
    rw [hs0] at h
    have h := jnI h
    obtain ⟨v65, q65, h⟩ := obS h
    obtain ⟨v66, q66, h⟩ := obS h
    refine xb_cons ?_
    refine xs_ret (d := ((eL (eP2 eS (eV eI))) v66)) (XL.dat (xm_lcat (en := (eP2 eS (eV eI))) (XL.dat (xm_lcat (en := (eP2 eS (eV eI))) (XL.dat (xm_lcut (en := (eP2 eS (eV eI))) (n_var hN (.here)) xo_none (xo_some (n_var hN (.there (.there (.there (.there (.here))))))))) (XL.dat (xl_lst (ds := [((eP2 eS (eV eI)) s18)]) (xa_cons (d := ((eP2 eS (eV eI)) s18)) (n_var hN (.there (.there (.there (.there (.there (.there (.here)))))))) xa_nil hs_Name) (show (1 : Nat) ≤ sizeLine by decide))) q65)) (XL.dat (xm_lcut (en := (eP2 eS (eV eI))) (n_var hN (.here)) (xo_some (xd_add (n_var hN (.there (.there (.there (.there (.here)))))) xd_int)) xo_none)) q66)) ?_
    obtain rfl := Option.some.inj h
    exact rfl
set_option maxHeartbeats 4000000 in
theorem ok_law_is_run {f : Addr} {fd : FuncData} (F : Fun K "_law_is_run" "_law_is_run" s_law_is_run f fd) (B : L2.Binds K fd ["value"] []) (g : mg "_law_is_run" = some (.ref f)) (T : Bi mg) : DefOk P w K mg base "_law_is_run" 1 C_law_is_run := by
  obtain ⟨z_max, z_len, z_all, z_range, z_min, z_abs, z_int, z_isinstance, z_bool, z_str, z_sorted, z_tuple, z_list⟩ := T
  refine defOk_mk F B g sc_law_is_run ?_
  intro cdv A outer s H E hr hN nd ii hok
  obtain ⟨value_p, res⟩ := ii
  have h : m_law_is_run value_p = some res := hok
  unfold m_law_is_run at h
  show XB _ _ [some (.d (eS value_p)), none] _
  obtain ⟨v4, q4, h⟩ := obS h
  refine xb_cons ?_
  refine xs_ret (d := (eB v4)) (xd_andM (a := true) (g_isi' (d1 := (eS value_p)) (n_var hN (.here)) kb_ss z_isinstance z_str boot_str' nn_str nd_str) (fun hc b' h => by obtain ⟨v3, q3, h⟩ := obS h; obtain rfl := Option.some.inj h; exact (xd_one (xd_all (bs := v3) (XL.dat (nm_comp (S := defScope s_law_is_run) (en := eS) (eb := eB) (eX := fun y1 => [some (.d (eS value_p)), some (.d (eS y1))]) [(("letter" : Str), 1)] q3 hN nd (it_str (n_var hN (.here))) (by decide +kernel) (fun y1 s_ Hb C cl fp => (n_gname hN nd (.there (.here)))) (fun y1 r h s_ Hb C cl fp => by obtain ⟨v2, q2, h⟩ := obS h; exact XD.o (en := eB) (v := v2) (q_cmp hr (d1 := (eS y1)) (d2 := (eS ("abcdefghijklmnopqrstuvwxyz" : Str))) (n_var hN (.there (.here))) xd_str (cq_inS q2)) h))) z_all))) q4) ?_
  obtain rfl := Option.some.inj h
  exact rfl
set_option maxHeartbeats 4000000 in
theorem ok_last_letters {f : Addr} {fd : FuncData} (F : Fun K "last_letters" "last_letters" s_last_letters f fd) (B : L2.Binds K fd ["run", "k"] []) (g : mg "last_letters" = some (.ref f)) (T : Bi mg) : DefOk P w K mg base "last_letters" 1 C_last_letters := by
  obtain ⟨z_max, z_len, z_all, z_range, z_min, z_abs, z_int, z_isinstance, z_bool, z_str, z_sorted, z_tuple, z_list⟩ := T
  refine defOk_mk F B g sc_last_letters ?_
  intro cdv A outer s H E hr hN nd ii hok
  obtain ⟨run_p, k_p, res⟩ := ii
  have h : m_last_letters run_p k_p = some res := hok
  unfold m_last_letters at h
  show XB _ _ [some (.d (eS run_p)), some (.d (eI k_p))] _
  obtain ⟨v1, q1, h⟩ := obS h
  obtain ⟨v2, q2, h⟩ := obS h
  refine xb_cons ?_
  refine xs_ret (d := (eS v2)) (xm_scut (n_var hN (.here)) (xo_some (xd_max2 (xa_cons (d := (eI (0 : Int))) xd_int (xa_cons (d := (eI (v1 - k_p))) (xd_sub (xm_slen (n_var hN (.here)) q1 z_len) (n_var hN (.there (.here)))) xa_nil hs_BinOp) hs_Constant) z_max)) xo_none q2) ?_
  obtain rfl := Option.some.inj h
  exact rfl
set_option maxHeartbeats 4000000 in
theorem ok_is_derived {f : Addr} {fd : FuncData} (F : Fun K "is_derived" "is_derived" s_is_derived f fd) (B : L2.Binds K fd ["runs", "k", "lines", "at"] []) (g : mg "is_derived" = some (.ref f)) (T : Bi mg) (D_last_letters : DefOk P w K mg base "last_letters" 1 C_last_letters) : DefOk P w K mg base "is_derived" 2 C_is_derived := by
  obtain ⟨z_max, z_len, z_all, z_range, z_min, z_abs, z_int, z_isinstance, z_bool, z_str, z_sorted, z_tuple, z_list⟩ := T
  refine defOk_mk F B g sc_is_derived ?_
  intro cdv A outer s H E hr hN nd ii hok
  obtain ⟨runs_p, k_p, lines_p, at_p, res⟩ := ii
  have h : m_is_derived runs_p k_p lines_p at_p = some res := hok
  unfold m_is_derived at h
  show XB _ _ [some (.d ((eV eS) runs_p)), some (.d (eI k_p)), some (.d ((eV (eP2 eS (eV eI))) lines_p)), some (.d (eI at_p)), none, none, none, none, none, none, none, none] _
  obtain ⟨v1, q1, h⟩ := obS h
  obtain ⟨t2, q3, h⟩ := obS h
  refine xb_cons ?_
  refine xs_asg (js := [4, 5]) (d := ((eP2 eS (eV eI)) t2)) (XD.o (en := (eP2 eS (eV eI))) (v := v1) (xm_vix (en := (eP2 eS (eV eI))) (xs := lines_p) (n_var hN (.there (.there (.here)))) (n_var hN (.there (.there (.there (.here))))) q1) q3) (xg_tup rfl (xgs_cons (n_gname hN nd (.there (.there (.there (.there (.here)))))) (xgs_cons (n_gname hN nd (.there (.there (.there (.there (.there (.here))))))) xgs_nil))) ?_
  refine xb_cons ?_
  refine xs_if (b := (!(!List.isEmpty t2.2))) (xt_not (xt_truV (en := eI) (n_var hN (.there (.there (.there (.there (.there (.here))))))))) (fun hc => ?_) (fun hc => ?_)
  · have h := ifT h hc
    refine xb_cons ?_
    refine xs_ret (d := (eB (decide (t2.1 ∈ runs_p)))) (q_cmp hr (d1 := (eS t2.1)) (d2 := ((eV eS) runs_p)) (n_var hN (.there (.there (.there (.there (.here)))))) (n_var hN (.here)) cq_inVS) ?_
    obtain rfl := Option.some.inj h
    exact rfl
  · have h := ifF h hc
    refine xb_nil ?_
    obtain ⟨v6, q6, h⟩ := obS h
    refine xb_cons ?_
    refine xs_if (b := v6) (XW.t (xw_orM (a := (!decide ((t2.2.length : Int) = (5 : Int)))) (q_cmpT hr (d1 := (eI (t2.2.length : Int))) (d2 := (eI (5 : Int))) (xm_vlen (en := eI) (n_var hN (.there (.there (.there (.there (.there (.here))))))) z_len) xd_int (.of CmpD.neI)) (fun hc b' h => by obtain ⟨v5, q5, h⟩ := obS h; obtain rfl := Option.some.inj h; exact (xw_or1 (xt_not (xt_val (xd_all (bs := v5) (XL.dat (nm_comp (S := defScope s_is_derived) (en := eI) (eb := eB) (eX := fun y4 => [some (.d ((eV eS) runs_p)), some (.d (eI k_p)), some (.d ((eV (eP2 eS (eV eI))) lines_p)), some (.d (eI at_p)), some (.d (eS t2.1)), some (.d ((eV eI) t2.2)), none, none, none, none, none, some (.d (eI y4))]) [(("number" : Str), 11)] q5 hN nd (it_tup (en := eI) (xm_vcut (en := eI) (n_var hN (.there (.there (.there (.there (.there (.here))))))) xo_none (xo_some xd_int))) (by decide +kernel) (fun y4 s_ Hb C cl fp => (n_gname hN nd (.there (.there (.there (.there (.there (.there (.there (.there (.there (.there (.there (.here)))))))))))))) (fun y4 r h s_ Hb C cl fp => by exact XD.o (en := eB) (v := ((decide ((0 : Int) ≤ y4)) && (decide (y4 < at_p)))) (chainD hr (d1 := (eI (0 : Int))) (d2 := (eI y4)) (d3 := (eI at_p)) xd_int (n_var hN (.there (.there (.there (.there (.there (.there (.there (.there (.there (.there (.there (.here))))))))))))) (n_var hN (.there (.there (.there (.here))))) (.of CmpD.leI) (.of CmpD.ltI)) h))) z_all))))) q6)) (fun hc => ?_) (fun hc => ?_)
    · have h := ifT h hc
      refine xb_cons ?_
      refine xs_ret (d := (eB false)) xd_bl ?_
      obtain rfl := Option.some.inj h
      exact rfl
    · have h := ifF h hc
      refine xb_nil ?_
      obtain ⟨v9, q9, h⟩ := obS h
      obtain ⟨v10, q10, h⟩ := obS h
      refine xb_cons ?_
      refine xs_asg (js := [6, 7, 8]) (d := eQ3 eS v10) (xd_ul3 (en := eS) (XL.dat (nm_comp (S := defScope s_is_derived) (en := eI) (eb := eS) (eX := fun y7 => [some (.d ((eV eS) runs_p)), some (.d (eI k_p)), some (.d ((eV (eP2 eS (eV eI))) lines_p)), some (.d (eI at_p)), some (.d (eS t2.1)), some (.d ((eV eI) t2.2)), none, none, none, none, none, some (.d (eI y7))]) [(("number" : Str), 11)] q9 hN nd (it_tup (en := eI) (xm_vcut (en := eI) (n_var hN (.there (.there (.there (.there (.there (.here))))))) xo_none (xo_some xd_int))) (by decide +kernel) (fun y7 s_ Hb C cl fp => (n_gname hN nd (.there (.there (.there (.there (.there (.there (.there (.there (.there (.there (.there (.here)))))))))))))) (fun y7 r h s_ Hb C cl fp => by obtain ⟨v8, q8, h⟩ := obS h; exact XD.o (en := eS) (v := v8.1) (xd_ixT (xm_vix (en := (eP2 eS (eV eI))) (xs := lines_p) (n_var hN (.there (.there (.here)))) (n_var hN (.there (.there (.there (.there (.there (.there (.there (.there (.there (.there (.there (.here))))))))))))) q8) xd_int rfl) h))) q10) (xg_lst rfl (xgs_cons (n_gname hN nd (.there (.there (.there (.there (.there (.there (.here)))))))) (xgs_cons (n_gname hN nd (.there (.there (.there (.there (.there (.there (.there (.here))))))))) (xgs_cons (n_gname hN nd (.there (.there (.there (.there (.there (.there (.there (.there (.here)))))))))) xgs_nil)))) ?_
      obtain ⟨v11, q11, h⟩ := obS h
      obtain ⟨t12, q13, h⟩ := obS h
      refine xb_cons ?_
      refine xs_asg (js := [9, 10]) (d := ((eP2 eI eI) t12)) (XD.o (en := (eP2 eI eI)) (v := v11) (xd_un2 (en := eI) (xm_vcut (en := eI) (n_var hN (.there (.there (.there (.there (.there (.here))))))) (xo_some xd_int) xo_none) q11) q13) (xg_tup rfl (xgs_cons (n_gname hN nd (.there (.there (.there (.there (.there (.there (.there (.there (.there (.here))))))))))) (xgs_cons (n_gname hN nd (.there (.there (.there (.there (.there (.there (.there (.there (.there (.there (.here)))))))))))) xgs_nil))) ?_
      obtain ⟨v14, q14, h⟩ := obS h
      obtain ⟨v15, q15, h⟩ := obS h
      obtain ⟨v17, q17, h⟩ := obS h
      refine xb_cons ?_
      refine xs_if (b := (!v17)) (xt_not (XW.t (xw_andM (a := ((decide (k_p ≤ t12.1)) && (decide (t12.1 ≤ (if v15 < v14 then v15 else v14))))) (chainT hr (d1 := (eI k_p)) (d2 := (eI t12.1)) (d3 := (eI (if v15 < v14 then v15 else v14))) (n_var hN (.there (.here))) (n_var hN (.there (.there (.there (.there (.there (.there (.there (.there (.there (.here))))))))))) (xd_min2 (xa_cons (d := (eI v14)) (xm_slen (n_var hN (.there (.there (.there (.there (.there (.there (.here)))))))) q14 z_len) (xa_cons (d := (eI v15)) (xm_slen (n_var hN (.there (.there (.there (.there (.there (.there (.there (.there (.here)))))))))) q15 z_len) xa_nil hs_Call) hs_Call) z_min) (.of CmpD.leI) (.of CmpD.leI)) (fun hc b' h => by obtain ⟨v16, q16, h⟩ := obS h; obtain rfl := Option.some.inj h; exact (xw_and1 (chainT hr (d1 := (eI k_p)) (d2 := (eI t12.2)) (d3 := (eI v16)) (n_var hN (.there (.here))) (n_var hN (.there (.there (.there (.there (.there (.there (.there (.there (.there (.there (.here)))))))))))) (xm_slen (n_var hN (.there (.there (.there (.there (.there (.there (.there (.here))))))))) q16 z_len) (.of CmpD.leI) (.of CmpD.leI)))) q17))) (fun hc => ?_) (fun hc => ?_)
      · have h := ifT h hc
        refine xb_cons ?_
        refine xs_ret (d := (eB false)) xd_bl ?_
        obtain rfl := Option.some.inj h
        exact rfl
      · have h := ifF h hc
        refine xb_nil ?_
        obtain ⟨v18, q18, h⟩ := obS h
        obtain ⟨v19, q19, h⟩ := obS h
        obtain ⟨v20, q20, h⟩ := obS h
        obtain ⟨v21, q21, h⟩ := obS h
        obtain ⟨v24, q24, h⟩ := obS h
        refine xb_cons ?_
        refine xs_if (b := v24) (XW.t (xw_orM (a := (!decide (v19 = v21))) (q_cmpT hr (d1 := (eS v19)) (d2 := (eS v21)) (xd_call D_last_letters hr (i := (v18, k_p, v19)) (d := (eS v19)) (xa_cons (d := (eS v18)) (xm_scut (n_var hN (.there (.there (.there (.there (.there (.there (.here)))))))) xo_none (xo_some (n_var hN (.there (.there (.there (.there (.there (.there (.there (.there (.there (.here)))))))))))) q18) (xa_cons (d := (eI k_p)) (n_var hN (.there (.here))) xa_nil hs_Name) hs_Subscript) q19 (fun _ h => h)) (xd_call D_last_letters hr (i := (v20, k_p, v21)) (d := (eS v21)) (xa_cons (d := (eS v20)) (xm_scut (n_var hN (.there (.there (.there (.there (.there (.there (.there (.here))))))))) xo_none (xo_some (n_var hN (.there (.there (.there (.there (.there (.there (.there (.there (.there (.there (.here))))))))))))) q20) (xa_cons (d := (eI k_p)) (n_var hN (.there (.here))) xa_nil hs_Name) hs_Subscript) q21 (fun _ h => h)) (.of CmpD.neS)) (fun hc b' h => by obtain ⟨v22, q22, h⟩ := obS h; obtain ⟨v23, q23, h⟩ := obS h; obtain rfl := Option.some.inj h; exact (xw_or1 (q_cmpT hr (d1 := (eS v22)) (d2 := (eS v23)) (xm_scut (n_var hN (.there (.there (.there (.there (.there (.there (.here)))))))) (xo_some (n_var hN (.there (.there (.there (.there (.there (.there (.there (.there (.there (.here)))))))))))) xo_none q22) (xm_scut (n_var hN (.there (.there (.there (.there (.there (.there (.there (.here))))))))) (xo_some (n_var hN (.there (.there (.there (.there (.there (.there (.there (.there (.there (.there (.here))))))))))))) xo_none q23) (.of CmpD.neS)))) q24)) (fun hc => ?_) (fun hc => ?_)
        · have h := ifT h hc
          refine xb_cons ?_
          refine xs_ret (d := (eB false)) xd_bl ?_
          obtain rfl := Option.some.inj h
          exact rfl
        · have h := ifF h hc
          refine xb_nil ?_
          obtain ⟨v25, q25, h⟩ := obS h
          obtain ⟨v26, q26, h⟩ := obS h
          obtain ⟨v30, q30, h⟩ := obS h
          refine xb_cons ?_
          refine xs_ret (d := (eB v30)) (xd_andM (a := (decide (v25 = v26))) (q_cmp hr (d1 := (eS v25)) (d2 := (eS v26)) (xm_scut (n_var hN (.there (.there (.there (.there (.there (.there (.there (.there (.here)))))))))) xo_none (xo_some (n_var hN (.there (.there (.there (.there (.there (.there (.there (.there (.there (.here)))))))))))) q25) (xm_scut (n_var hN (.there (.there (.there (.there (.there (.there (.here)))))))) xo_none (xo_some (n_var hN (.there (.there (.there (.there (.there (.there (.there (.there (.there (.here)))))))))))) q26) (.of CmpD.eqS)) (fun hc b' h => by obtain ⟨v27, q27, h⟩ := obS h; obtain ⟨v28, q28, h⟩ := obS h; obtain ⟨v29, q29, h⟩ := obS h; obtain rfl := Option.some.inj h; exact (xd_one (q_cmp hr (d1 := (eS t2.1)) (d2 := (eS v29)) (n_var hN (.there (.there (.there (.there (.here)))))) (xm_sadd (xm_scut (n_var hN (.there (.there (.there (.there (.there (.there (.there (.here))))))))) xo_none (xo_some (n_var hN (.there (.there (.there (.there (.there (.there (.there (.there (.there (.there (.here))))))))))))) q27) (xm_scut (n_var hN (.there (.there (.there (.there (.there (.there (.there (.there (.here)))))))))) (xo_some (n_var hN (.there (.there (.there (.there (.there (.there (.there (.there (.there (.here)))))))))))) xo_none q28) q29) (.of CmpD.eqS)))) q30) ?_
          obtain rfl := Option.some.inj h
          exact rfl
set_option maxHeartbeats 4000000 in
theorem ok_judge_derivation {f : Addr} {fd : FuncData} (F : Fun K "judge_derivation" "judge_derivation" s_judge_derivation f fd) (B : L2.Binds K fd ["runs", "k", "lines", "run"] []) (g : mg "judge_derivation" = some (.ref f)) (T : Bi mg) (D_is_derived : DefOk P w K mg base "is_derived" 2 C_is_derived) : DefOk P w K mg base "judge_derivation" 3 C_judge_derivation := by
  obtain ⟨z_max, z_len, z_all, z_range, z_min, z_abs, z_int, z_isinstance, z_bool, z_str, z_sorted, z_tuple, z_list⟩ := T
  refine defOk_mk F B g sc_judge_derivation ?_
  intro cdv A outer s H E hr hN nd ii hok
  obtain ⟨runs_p, k_p, lines_p, run_p, res⟩ := ii
  have h : m_judge_derivation runs_p k_p lines_p run_p = some res := hok
  unfold m_judge_derivation at h
  show XB _ _ [some (.d ((eV eS) runs_p)), some (.d (eI k_p)), some (.d ((eV (eP2 eS (eV eI))) lines_p)), some (.d (eS run_p)), none] _
  obtain ⟨v2, q2, h⟩ := obS h
  refine xb_cons ?_
  refine xs_if (b := v2) (XW.t (xw_orM (a := (!(!List.isEmpty lines_p))) (xt_not (xt_truV (en := (eP2 eS (eV eI))) (n_var hN (.there (.there (.here)))))) (fun hc b' h => by obtain ⟨v1, q1, h⟩ := obS h; obtain rfl := Option.some.inj h; exact (xw_or1 (q_cmpT hr (d1 := (eS v1.1)) (d2 := (eS run_p)) (xd_ixT (xm_vix (en := (eP2 eS (eV eI))) (xs := lines_p) (n_var hN (.there (.there (.here)))) (xd_neg xd_int) q1) xd_int rfl) (n_var hN (.there (.there (.there (.here))))) (.of CmpD.neS)))) q2)) (fun hc => ?_) (fun hc => ?_)
  · have h := ifT h hc
    refine xb_cons ?_
    refine xs_ret (d := (eB false)) xd_bl ?_
    obtain rfl := Option.some.inj h
    exact rfl
  · have h := ifF h hc
    refine xb_nil ?_
    obtain ⟨v3, q3, h⟩ := obS h
    obtain ⟨v6, q6, h⟩ := obS h
    refine xb_cons ?_
    refine xs_ret (d := (eB (v6.all id))) (xd_all (bs := v6) (XL.dat (nm_comp (S := defScope s_judge_derivation) (en := eI) (eb := eB) (eX := fun y4 => [some (.d ((eV eS) runs_p)), some (.d (eI k_p)), some (.d ((eV (eP2 eS (eV eI))) lines_p)), some (.d (eS run_p)), some (.d (eI y4))]) [(("at" : Str), 4)] q6 hN nd (it_rng1 (xm_vlen (en := (eP2 eS (eV eI))) (n_var hN (.there (.there (.here)))) z_len) q3 z_range) (by decide +kernel) (fun y4 s_ Hb C cl fp => (n_gname hN nd (.there (.there (.there (.there (.here))))))) (fun y4 r h s_ Hb C cl fp => by obtain ⟨v5, q5, h⟩ := obS h; exact XD.o (en := eB) (v := v5) (xd_call D_is_derived hr (i := (runs_p, k_p, lines_p, y4, v5)) (d := (eB v5)) (xa_cons (d := ((eV eS) runs_p)) (n_var hN (.here)) (xa_cons (d := (eI k_p)) (n_var hN (.there (.here))) (xa_cons (d := ((eV (eP2 eS (eV eI))) lines_p)) (n_var hN (.there (.there (.here)))) (xa_cons (d := (eI y4)) (n_var hN (.there (.there (.there (.there (.here)))))) xa_nil hs_Name) hs_Name) hs_Name) hs_Name) q5 (fun _ h => h)) h))) z_all) ?_
    obtain rfl := Option.some.inj h
    exact rfl
set_option maxHeartbeats 4000000 in
theorem ok_law_is_integer {f : Addr} {fd : FuncData} (F : Fun K "_law_is_integer" "_law_is_integer" s_law_is_integer f fd) (B : L2.Binds K fd ["value"] []) (g : mg "_law_is_integer" = some (.ref f)) (T : Bi mg) : DefOk P w K mg base "_law_is_integer" 1 C_law_is_integer := by
  obtain ⟨z_max, z_len, z_all, z_range, z_min, z_abs, z_int, z_isinstance, z_bool, z_str, z_sorted, z_tuple, z_list⟩ := T
  refine defOk_mk F B g sc_law_is_integer ?_
  intro cdv A outer s H E hr hN nd ii hok
  obtain ⟨value_p, res⟩ := ii
  have h : m_law_is_integer value_p = some res := hok
  unfold m_law_is_integer at h
  show XB _ _ [some (.d (eI value_p))] _
  refine xb_cons ?_
  refine xs_ret (d := (eB (true && (!false)))) (xd_and (a := true) (b := (!false)) (g_isi' (d1 := (eI value_p)) (n_var hN (.here)) kb_ii z_isinstance z_int boot_int' nn_int nd_int) fun _ => (xd_one (xd_not (g_isi' (d1 := (eI value_p)) (n_var hN (.here)) kb_ib z_isinstance z_bool boot_bool' nn_bool nd_bool)))) ?_
  obtain rfl := Option.some.inj h
  exact rfl
set_option maxHeartbeats 4000000 in
theorem ok_law_derives {f : Addr} {fd : FuncData} (F : Fun K "_law_derives" "_law_derives" s_law_derives f fd) (B : L2.Binds K fd ["runs", "k", "lines", "run"] []) (g : mg "_law_derives" = some (.ref f)) (T : Bi mg) (D_law_is_run : DefOk P w K mg base "_law_is_run" 1 C_law_is_run) (D_law_is_integer : DefOk P w K mg base "_law_is_integer" 1 C_law_is_integer) : DefOk P w K mg base "_law_derives" 2 C_law_derives := by
  obtain ⟨z_max, z_len, z_all, z_range, z_min, z_abs, z_int, z_isinstance, z_bool, z_str, z_sorted, z_tuple, z_list⟩ := T
  refine defOk_mk F B g sc_law_derives ?_
  intro cdv A outer s H E hr hN nd ii hok
  obtain ⟨runs_p, k_p, lines_p, run_p, res⟩ := ii
  have h : m_law_derives runs_p k_p lines_p run_p = some res := hok
  unfold m_law_derives at h
  show XB _ _ [some (.d ((eV eS) runs_p)), some (.d (eI k_p)), some (.d ((eV (eP2 eS (eV eI))) lines_p)), some (.d (eS run_p)), none, none, none, none, none, none, none, none] _
  refine xb_cons ?_
  refine xs_if (b := ((!true) || (decide ((lines_p.length : Int) = (0 : Int))))) (XW.t (xw_or (a := (!true)) (b := (decide ((lines_p.length : Int) = (0 : Int)))) (xt_not (xt_val (g_isi' (d1 := ((eV (eP2 eS (eV eI))) lines_p)) (n_var hN (.there (.there (.here)))) kb_tt z_isinstance z_tuple boot_tuple' nn_tuple nd_tuple))) fun _ => (xw_or1 (q_cmpT hr (d1 := (eI (lines_p.length : Int))) (d2 := (eI (0 : Int))) (xm_vlen (en := (eP2 eS (eV eI))) (n_var hN (.there (.there (.here)))) z_len) xd_int (.of CmpD.eqI))))) (fun hc => ?_) (fun hc => ?_)
  · have h := ifT h hc
    refine xb_cons ?_
    refine xs_ret (d := (eB false)) xd_bl ?_
    obtain rfl := Option.some.inj h
    exact rfl
  · have h := ifF h hc
    refine xb_nil ?_
    obtain ⟨known_1, q2, h⟩ := obS h
    refine xb_cons ?_
    refine n_setL (xs := List.map eS known_1) (xl_to (xl_lst (ds := []) xa_nil (show (0 : Nat) ≤ sizeLine by decide)) (by cases q2; rfl)) hN nd (.there (.there (.there (.there (.here))))) ?_
    obtain ⟨c60, q60, h⟩ := obS h
    refine xb_cut (M := fun e => ∃ s4 : ((List Str)), c60 = Sum.inl s4 ∧ e = [some (.d ((eV eS) runs_p)), some (.d (eI k_p)), some (.d ((eV (eP2 eS (eV eI))) lines_p)), some (.d (eS run_p)), some (.l (List.map eS s4)), none, none, none, none, none, none, none]) (nm_for (s0 := (known_1)) (en := (eP2 eS (eV eI))) (eR := eB) (js := [5]) (eX := fun s4 y3 => [some (.d ((eV eS) runs_p)), some (.d (eI k_p)), some (.d ((eV (eP2 eS (eV eI))) lines_p)), some (.d (eS run_p)), some (.l (List.map eS s4)), some (.d ((eP2 eS (eV eI)) y3)), none, none, none, none, none, none]) q60 (fun s4 => [some (.d ((eV eS) runs_p)), some (.d (eI k_p)), some (.d ((eV (eP2 eS (eV eI))) lines_p)), some (.d (eS run_p)), some (.l (List.map eS s4)), none, none, none, none, none, none, none]) (it_tup (en := (eP2 eS (eV eI))) (n_var hN (.there (.there (.here))))) (fun s4 y3 => (n_gname hN nd (.there (.there (.there (.there (.there (.here)))))))) (fun y3 s4 r h => ?_) (fun s0 hs => ⟨s0, hs, rfl⟩) (fun r0 hs => ?_)) ?_
    · skip
      obtain ⟨v7, q7, h⟩ := obS h
      refine xb_cons ?_
      refine xs_if (b := v7) (XW.t (xw_orM (a := (!true)) (xt_not (xt_val (g_isi' (d1 := ((eP2 eS (eV eI)) y3)) (n_var hN (.there (.there (.there (.there (.there (.here))))))) kb_tt z_isinstance z_tuple boot_tuple' nn_tuple nd_tuple))) (fun hc b' h => by obtain ⟨v6, q6, h⟩ := obS h; obtain rfl := Option.some.inj h; exact (xw_orM (a := (!decide ((2 : Int) = (2 : Int)))) (q_cmpT hr (d1 := (eI (2 : Int))) (d2 := (eI (2 : Int))) (xd_lenT (n_var hN (.there (.there (.there (.there (.there (.here))))))) z_len) xd_int (.of CmpD.neI)) (fun hc b' h => by obtain ⟨v5, q5, h⟩ := obS h; obtain rfl := Option.some.inj h; exact (xw_or (a := (!v5)) (b := (!true)) (xt_not (xt_val (xd_call D_law_is_run hr (i := (y3.1, v5)) (d := (eB v5)) (xa_cons (d := (eS y3.1)) (xd_ixT (n_var hN (.there (.there (.there (.there (.there (.here))))))) xd_int rfl) xa_nil hs_Subscript) q5 (fun _ h => h)))) fun _ => (xw_or1 (xt_not (xt_val (g_isi' (d1 := ((eV eI) y3.2)) (xd_ixT (n_var hN (.there (.there (.there (.there (.there (.here))))))) xd_int rfl) kb_tt z_isinstance z_tuple boot_tuple' nn_tuple nd_tuple)))))) q6)) q7)) (fun hc => ?_) (fun hc => ?_)
      · have h := ifT h hc
        refine xb_cons ?_
        refine xs_ret (d := (eB false)) xd_bl ?_
        obtain rfl := Option.some.inj h
        exact ⟨_, rfl, rfl⟩
      · have h := ifF h hc
        refine xb_nil ?_
        obtain ⟨v8, q8, h⟩ := obS h
        obtain ⟨j9, q9, h⟩ := obS h
        have hj9 := h
        refine xb_cut (M := fun e => ∃ s9 : Unit, j9 = Sum.inl s9 ∧ e = [some (.d ((eV eS) runs_p)), some (.d (eI k_p)), some (.d ((eV (eP2 eS (eV eI))) lines_p)), some (.d (eS run_p)), some (.l (List.map eS s4)), some (.d ((eP2 eS (eV eI)) y3)), none, none, none, none, none, none]) (xs_if (b := v8) (q_cmpT hr (d1 := ((eV eI) y3.2)) (d2 := ((eV eI) ([] : List Int))) (xd_ixT (n_var hN (.there (.there (.there (.there (.there (.here))))))) xd_int rfl) (xd_tup (ds := []) xa_nil (show (0 : Nat) ≤ sizeLine by decide)) (.eq q8)) (fun hc => ?_) (fun hc => ?_)) ?_
        · have h := ifT q9 hc
          refine xb_cons ?_
          refine xs_if (b := (!decide (y3.1 ∈ runs_p))) (q_cmpT hr (d1 := (eS y3.1)) (d2 := ((eV eS) runs_p)) (xd_ixT (n_var hN (.there (.there (.there (.there (.there (.here))))))) xd_int rfl) (n_var hN (.here)) cq_niVS) (fun hc => ?_) (fun hc => ?_)
          · have h := ifT h hc
            refine xb_cons ?_
            refine xs_ret (d := (eB false)) xd_bl ?_
            obtain rfl := Option.some.inj h
            have h := jnR hj9
            obtain rfl := Option.some.inj h
            exact ⟨_, rfl, rfl⟩
          · have h := ifF h hc
            refine xb_nil ?_
            refine xb_nil ?_
            obtain rfl := Option.some.inj h
            exact ⟨_, rfl, rfl⟩
        · have h := ifF q9 hc
          obtain ⟨v13, q13, h⟩ := obS h
          refine xb_cons ?_
          refine xs_if (b := v13) (XW.t (xw_orM (a := (!decide ((y3.2.length : Int) = (5 : Int)))) (q_cmpT hr (d1 := (eI (y3.2.length : Int))) (d2 := (eI (5 : Int))) (xm_vlen (en := eI) (xd_ixT (n_var hN (.there (.there (.there (.there (.there (.here))))))) xd_int rfl) z_len) xd_int (.of CmpD.neI)) (fun hc b' h => by obtain ⟨v12, q12, h⟩ := obS h; obtain rfl := Option.some.inj h; exact (xw_or1 (xt_not (xt_val (xd_all (bs := v12) (XL.dat (nm_comp (S := defScope s_law_derives) (en := eI) (eb := eB) (eX := fun y10 => [some (.d ((eV eS) runs_p)), some (.d (eI k_p)), some (.d ((eV (eP2 eS (eV eI))) lines_p)), some (.d (eS run_p)), some (.l (List.map eS s4)), some (.d ((eP2 eS (eV eI)) y3)), none, none, none, none, none, some (.d (eI y10))]) [(("number" : Str), 11)] q12 hN nd (it_tup (en := eI) (xd_ixT (n_var hN (.there (.there (.there (.there (.there (.here))))))) xd_int rfl)) (by decide +kernel) (fun y10 s_ Hb C cl fp => (n_gname hN nd (.there (.there (.there (.there (.there (.there (.there (.there (.there (.there (.there (.here)))))))))))))) (fun y10 r h s_ Hb C cl fp => by obtain ⟨v11, q11, h⟩ := obS h; exact XD.o (en := eB) (v := (v11 && (decide ((0 : Int) ≤ y10)))) (xd_and (a := v11) (b := (decide ((0 : Int) ≤ y10))) (xd_call D_law_is_integer hr (i := (y10, v11)) (d := (eB v11)) (xa_cons (d := (eI y10)) (n_var hN (.there (.there (.there (.there (.there (.there (.there (.there (.there (.there (.there (.here))))))))))))) xa_nil hs_Name) q11 (fun _ h => h)) fun _ => (xd_one (q_cmp hr (d1 := (eI y10)) (d2 := (eI (0 : Int))) (n_var hN (.there (.there (.there (.there (.there (.there (.there (.there (.there (.there (.there (.here))))))))))))) xd_int (.of CmpD.geI)))) h))) z_all))))) q13)) (fun hc => ?_) (fun hc => ?_)
          · have h := ifT h hc
            refine xb_cons ?_
            refine xs_ret (d := (eB false)) xd_bl ?_
            obtain rfl := Option.some.inj h
            have h := jnR hj9
            obtain rfl := Option.some.inj h
            exact ⟨_, rfl, rfl⟩
          · have h := ifF h hc
            refine xb_nil ?_
            obtain ⟨v14, q14, h⟩ := obS h
            refine xb_cons ?_
            refine n_set (d := (eI v14)) (xm_vix (en := eI) (xs := y3.2) (xd_ixT (n_var hN (.there (.there (.there (.there (.there (.here))))))) xd_int rfl) xd_int q14) hN nd (.there (.there (.there (.there (.there (.there (.here))))))) ?_
            obtain ⟨v17, q17, h⟩ := obS h
            refine xb_cons ?_
            refine n_set (d := (eI v17)) (xm_vix (en := eI) (xs := y3.2) (xd_ixT (n_var hN (.there (.there (.there (.there (.there (.here))))))) xd_int rfl) xd_int q17) hN nd (.there (.there (.there (.there (.there (.there (.there (.here)))))))) ?_
            obtain ⟨v20, q20, h⟩ := obS h
            refine xb_cons ?_
            refine n_set (d := (eI v20)) (xm_vix (en := eI) (xs := y3.2) (xd_ixT (n_var hN (.there (.there (.there (.there (.there (.here))))))) xd_int rfl) xd_int q20) hN nd (.there (.there (.there (.there (.there (.there (.there (.there (.here))))))))) ?_
            obtain ⟨v23, q23, h⟩ := obS h
            refine xb_cons ?_
            refine n_set (d := (eI v23)) (xm_vix (en := eI) (xs := y3.2) (xd_ixT (n_var hN (.there (.there (.there (.there (.there (.here))))))) xd_int rfl) xd_int q23) hN nd (.there (.there (.there (.there (.there (.there (.there (.there (.there (.here)))))))))) ?_
            obtain ⟨v26, q26, h⟩ := obS h
            refine xb_cons ?_
            refine n_set (d := (eI v26)) (xm_vix (en := eI) (xs := y3.2) (xd_ixT (n_var hN (.there (.there (.there (.there (.there (.here))))))) xd_int rfl) xd_int q26) hN nd (.there (.there (.there (.there (.there (.there (.there (.there (.there (.there (.here))))))))))) ?_
            refine xb_cons ?_
            refine xs_if (b := ((decide ((s4.length : Int) ≤ v14)) || ((decide ((s4.length : Int) ≤ v17)) || (decide ((s4.length : Int) ≤ v20))))) (XW.t (xw_or (a := (decide ((s4.length : Int) ≤ v14))) (b := ((decide ((s4.length : Int) ≤ v17)) || (decide ((s4.length : Int) ≤ v20)))) (q_cmpT hr (d1 := (eI v14)) (d2 := (eI (s4.length : Int))) (n_var hN (.there (.there (.there (.there (.there (.there (.here)))))))) (xm_olen (en := eS) hN (.there (.there (.there (.there (.here))))) z_len) (.of CmpD.geI)) fun _ => (xw_or (a := (decide ((s4.length : Int) ≤ v17))) (b := (decide ((s4.length : Int) ≤ v20))) (q_cmpT hr (d1 := (eI v17)) (d2 := (eI (s4.length : Int))) (n_var hN (.there (.there (.there (.there (.there (.there (.there (.here))))))))) (xm_olen (en := eS) hN (.there (.there (.there (.there (.here))))) z_len) (.of CmpD.geI)) fun _ => (xw_or1 (q_cmpT hr (d1 := (eI v20)) (d2 := (eI (s4.length : Int))) (n_var hN (.there (.there (.there (.there (.there (.there (.there (.there (.here)))))))))) (xm_olen (en := eS) hN (.there (.there (.there (.there (.here))))) z_len) (.of CmpD.geI)))))) (fun hc => ?_) (fun hc => ?_)
            · have h := ifT h hc
              refine xb_cons ?_
              refine xs_ret (d := (eB false)) xd_bl ?_
              obtain rfl := Option.some.inj h
              have h := jnR hj9
              obtain rfl := Option.some.inj h
              exact ⟨_, rfl, rfl⟩
            · have h := ifF h hc
              refine xb_nil ?_
              obtain ⟨v38, q38, h⟩ := obS h
              refine xb_cons ?_
              refine xs_if (b := v38) (XW.t (xw_orM (a := (decide (v23 < k_p))) (q_cmpT hr (d1 := (eI v23)) (d2 := (eI k_p)) (n_var hN (.there (.there (.there (.there (.there (.there (.there (.there (.there (.here))))))))))) (n_var hN (.there (.here))) (.of CmpD.ltI)) (fun hc b' h => by obtain ⟨v37, q37, h⟩ := obS h; obtain rfl := Option.some.inj h; exact (xw_orM (a := (decide (v26 < k_p))) (q_cmpT hr (d1 := (eI v26)) (d2 := (eI k_p)) (n_var hN (.there (.there (.there (.there (.there (.there (.there (.there (.there (.there (.here)))))))))))) (n_var hN (.there (.here))) (.of CmpD.ltI)) (fun hc b' h => by obtain ⟨v29, q29, h⟩ := obS h; obtain ⟨v30, q30, h⟩ := obS h; obtain ⟨v36, q36, h⟩ := obS h; obtain rfl := Option.some.inj h; exact (xw_orM (a := (decide (v30 < v23))) (q_cmpT hr (d1 := (eI v23)) (d2 := (eI v30)) (n_var hN (.there (.there (.there (.there (.there (.there (.there (.there (.there (.here))))))))))) (xm_slen (xm_oix (en := eS) hN (.there (.there (.there (.there (.here))))) (n_var hN (.there (.there (.there (.there (.there (.there (.here)))))))) q29) q30 z_len) (.of CmpD.gtI)) (fun hc b' h => by obtain ⟨v31, q31, h⟩ := obS h; obtain ⟨v32, q32, h⟩ := obS h; obtain ⟨v35, q35, h⟩ := obS h; obtain rfl := Option.some.inj h; exact (xw_orM (a := (decide (v32 < v23))) (q_cmpT hr (d1 := (eI v23)) (d2 := (eI v32)) (n_var hN (.there (.there (.there (.there (.there (.there (.there (.there (.there (.here))))))))))) (xm_slen (xm_oix (en := eS) hN (.there (.there (.there (.there (.here))))) (n_var hN (.there (.there (.there (.there (.there (.there (.there (.there (.here)))))))))) q31) q32 z_len) (.of CmpD.gtI)) (fun hc b' h => by obtain ⟨v33, q33, h⟩ := obS h; obtain ⟨v34, q34, h⟩ := obS h; obtain rfl := Option.some.inj h; exact (xw_or1 (q_cmpT hr (d1 := (eI v26)) (d2 := (eI v34)) (n_var hN (.there (.there (.there (.there (.there (.there (.there (.there (.there (.there (.here)))))))))))) (xm_slen (xm_oix (en := eS) hN (.there (.there (.there (.there (.here))))) (n_var hN (.there (.there (.there (.there (.there (.there (.there (.here))))))))) q33) q34 z_len) (.of CmpD.gtI)))) q35)) q36)) q37)) q38)) (fun hc => ?_) (fun hc => ?_)
              · have h := ifT h hc
                refine xb_cons ?_
                refine xs_ret (d := (eB false)) xd_bl ?_
                obtain rfl := Option.some.inj h
                have h := jnR hj9
                obtain rfl := Option.some.inj h
                exact ⟨_, rfl, rfl⟩
              · have h := ifF h hc
                refine xb_nil ?_
                obtain ⟨v39, q39, h⟩ := obS h
                obtain ⟨v40, q40, h⟩ := obS h
                obtain ⟨v41, q41, h⟩ := obS h
                obtain ⟨v42, q42, h⟩ := obS h
                obtain ⟨v52, q52, h⟩ := obS h
                refine xb_cons ?_
                refine xs_if (b := v52) (XW.t (xw_orM (a := (!decide (v40 = v42))) (q_cmpT hr (d1 := (eS v40)) (d2 := (eS v42)) (xm_scut (xm_oix (en := eS) hN (.there (.there (.there (.there (.here))))) (n_var hN (.there (.there (.there (.there (.there (.there (.here)))))))) q39) (xo_some (xd_sub (n_var hN (.there (.there (.there (.there (.there (.there (.there (.there (.there (.here))))))))))) (n_var hN (.there (.here))))) (xo_some (n_var hN (.there (.there (.there (.there (.there (.there (.there (.there (.there (.here)))))))))))) q40) (xm_scut (xm_oix (en := eS) hN (.there (.there (.there (.there (.here))))) (n_var hN (.there (.there (.there (.there (.there (.there (.there (.here))))))))) q41) (xo_some (xd_sub (n_var hN (.there (.there (.there (.there (.there (.there (.there (.there (.there (.there (.here)))))))))))) (n_var hN (.there (.here))))) (xo_some (n_var hN (.there (.there (.there (.there (.there (.there (.there (.there (.there (.there (.here))))))))))))) q42) (.of CmpD.neS)) (fun hc b' h => by obtain ⟨v43, q43, h⟩ := obS h; obtain ⟨v44, q44, h⟩ := obS h; obtain ⟨v45, q45, h⟩ := obS h; obtain ⟨v46, q46, h⟩ := obS h; obtain ⟨v51, q51, h⟩ := obS h; obtain rfl := Option.some.inj h; exact (xw_orM (a := (!decide (v44 = v46))) (q_cmpT hr (d1 := (eS v44)) (d2 := (eS v46)) (xm_scut (xm_oix (en := eS) hN (.there (.there (.there (.there (.here))))) (n_var hN (.there (.there (.there (.there (.there (.there (.here)))))))) q43) (xo_some (n_var hN (.there (.there (.there (.there (.there (.there (.there (.there (.there (.here)))))))))))) xo_none q44) (xm_scut (xm_oix (en := eS) hN (.there (.there (.there (.there (.here))))) (n_var hN (.there (.there (.there (.there (.there (.there (.there (.here))))))))) q45) (xo_some (n_var hN (.there (.there (.there (.there (.there (.there (.there (.there (.there (.there (.here))))))))))))) xo_none q46) (.of CmpD.neS)) (fun hc b' h => by obtain ⟨v47, q47, h⟩ := obS h; obtain ⟨v48, q48, h⟩ := obS h; obtain ⟨v49, q49, h⟩ := obS h; obtain ⟨v50, q50, h⟩ := obS h; obtain rfl := Option.some.inj h; exact (xw_or1 (q_cmpT hr (d1 := (eS v48)) (d2 := (eS v50)) (xm_scut (xm_oix (en := eS) hN (.there (.there (.there (.there (.here))))) (n_var hN (.there (.there (.there (.there (.there (.there (.there (.there (.here)))))))))) q47) xo_none (xo_some (n_var hN (.there (.there (.there (.there (.there (.there (.there (.there (.there (.here)))))))))))) q48) (xm_scut (xm_oix (en := eS) hN (.there (.there (.there (.there (.here))))) (n_var hN (.there (.there (.there (.there (.there (.there (.here)))))))) q49) xo_none (xo_some (n_var hN (.there (.there (.there (.there (.there (.there (.there (.there (.there (.here)))))))))))) q50) (.of CmpD.neS)))) q51)) q52)) (fun hc => ?_) (fun hc => ?_)
                · have h := ifT h hc
                  refine xb_cons ?_
                  refine xs_ret (d := (eB false)) xd_bl ?_
                  obtain rfl := Option.some.inj h
                  have h := jnR hj9
                  obtain rfl := Option.some.inj h
                  exact ⟨_, rfl, rfl⟩
                · have h := ifF h hc
                  refine xb_nil ?_
                  obtain ⟨v53, q53, h⟩ := obS h
                  obtain ⟨v54, q54, h⟩ := obS h
                  obtain ⟨v55, q55, h⟩ := obS h
                  obtain ⟨v56, q56, h⟩ := obS h
                  obtain ⟨v57, q57, h⟩ := obS h
                  refine xb_cons ?_
                  refine xs_if (b := (!decide (y3.1 = v57))) (q_cmpT hr (d1 := (eS y3.1)) (d2 := (eS v57)) (xd_ixT (n_var hN (.there (.there (.there (.there (.there (.here))))))) xd_int rfl) (xm_sadd (xm_scut (xm_oix (en := eS) hN (.there (.there (.there (.there (.here))))) (n_var hN (.there (.there (.there (.there (.there (.there (.there (.here))))))))) q53) xo_none (xo_some (n_var hN (.there (.there (.there (.there (.there (.there (.there (.there (.there (.there (.here))))))))))))) q54) (xm_scut (xm_oix (en := eS) hN (.there (.there (.there (.there (.here))))) (n_var hN (.there (.there (.there (.there (.there (.there (.there (.there (.here)))))))))) q55) (xo_some (n_var hN (.there (.there (.there (.there (.there (.there (.there (.there (.there (.here)))))))))))) xo_none q56) q57) (.of CmpD.neS)) (fun hc => ?_) (fun hc => ?_)
                  · have h := ifT h hc
                    refine xb_cons ?_
                    refine xs_ret (d := (eB false)) xd_bl ?_
                    obtain rfl := Option.some.inj h
                    have h := jnR hj9
                    obtain rfl := Option.some.inj h
                    exact ⟨_, rfl, rfl⟩
                  · have h := ifF h hc
                    refine xb_nil ?_
                    refine xb_fg (.keep (.keep (.keep (.keep (.keep (.keep (.drop (.drop (.drop (.drop (.drop (.keep (Fg.nil))))))))))))) ?_
                    refine xb_nil ?_
                    obtain rfl := Option.some.inj h
                    exact ⟨_, rfl, rfl⟩
        rintro _ ⟨s9, hs0, rfl⟩
        rw [hs0] at h
        have h := jnI h
        obtain ⟨known_58, q59, h⟩ := obS h
        refine xb_cons ?_
        refine nm_append (en := eS) (y := y3.1) hN (.there (.there (.there (.there (.here))))) (xd_ixT (n_var hN (.there (.there (.there (.there (.there (.here))))))) xd_int rfl) q59 (.there (.there (.there (.there (.here))))) nd ?_
        refine xb_fg (.keep (.keep (.keep (.keep (.keep (.drop (.keep (.keep (.keep (.keep (.keep (.keep (Fg.nil))))))))))))) ?_
        refine xb_nil ?_
        obtain rfl := Option.some.inj h
        exact ⟨_, rfl, rfl⟩
    · rw [hs] at h
      have h := jnR h
      obtain rfl := Option.some.inj h
      exact rfl
    rintro _ ⟨s60, hs0, rfl⟩
    rw [hs0] at h
    have h := jnI h
    obtain ⟨v61, q61, h⟩ := obS h
    refine xb_cons ?_
    refine xs_ret (d := (eB (decide (v61 = run_p)))) (q_cmp hr (d1 := (eS v61)) (d2 := (eS run_p)) (xm_oix (en := eS) hN (.there (.there (.there (.there (.here))))) (xd_neg xd_int) q61) (n_var hN (.there (.there (.there (.here))))) (.of CmpD.eqS)) ?_
    obtain rfl := Option.some.inj h
    exact rfl
set_option maxHeartbeats 4000000 in
theorem ok_law_is_told {f : Addr} {fd : FuncData} (F : Fun K "_law_is_told" "_law_is_told" s_law_is_told f fd) (B : L2.Binds K fd ["runs", "k", "lines", "run"] []) (g : mg "_law_is_told" = some (.ref f)) (T : Bi mg) (D_judge_derivation : DefOk P w K mg base "judge_derivation" 3 C_judge_derivation) (D_law_derives : DefOk P w K mg base "_law_derives" 2 C_law_derives) : DefOk P w K mg base "_law_is_told" 4 C_law_is_told := by
  obtain ⟨z_max, z_len, z_all, z_range, z_min, z_abs, z_int, z_isinstance, z_bool, z_str, z_sorted, z_tuple, z_list⟩ := T
  have D_law_derives := D_law_derives.mono (k := 3) (by decide)
  refine defOk_mk F B g sc_law_is_told ?_
  intro cdv A outer s H E hr hN nd ii hok
  obtain ⟨runs_p, k_p, lines_p, run_p, res⟩ := ii
  have h : m_law_is_told runs_p k_p lines_p run_p = some res := hok
  unfold m_law_is_told at h
  show XB _ _ [some (.d ((eV eS) runs_p)), some (.d (eI k_p)), some (.d ((eV (eP2 eS (eV eI))) lines_p)), some (.d (eS run_p)), none] _
  obtain ⟨v1, q1, h⟩ := obS h
  refine xb_cons ?_
  refine n_set (d := (eB v1)) (xd_call D_judge_derivation hr (i := (runs_p, k_p, lines_p, run_p, v1)) (d := (eB v1)) (xa_cons (d := ((eV eS) runs_p)) (n_var hN (.here)) (xa_cons (d := (eI k_p)) (n_var hN (.there (.here))) (xa_cons (d := ((eV (eP2 eS (eV eI))) lines_p)) (n_var hN (.there (.there (.here)))) (xa_cons (d := (eS run_p)) (n_var hN (.there (.there (.there (.here))))) xa_nil hs_Name) hs_Name) hs_Name) hs_Name) q1 (fun _ h => h)) hN nd (.there (.there (.there (.there (.here))))) ?_
  obtain ⟨v5, q5, h⟩ := obS h
  refine xb_cons ?_
  refine xs_ret (d := (eB v5)) (xd_andM (a := true) (g_isi' (d1 := (eB v1)) (n_var hN (.there (.there (.there (.there (.here)))))) kb_bb z_isinstance z_bool boot_bool' nn_bool nd_bool) (fun hc b' h => by obtain ⟨v4, q4, h⟩ := obS h; obtain rfl := Option.some.inj h; exact (xd_one (q_cmp hr (d1 := (eB v1)) (d2 := (eB v4)) (n_var hN (.there (.there (.there (.there (.here)))))) (xd_call D_law_derives hr (i := (runs_p, k_p, lines_p, run_p, v4)) (d := (eB v4)) (xa_cons (d := ((eV eS) runs_p)) (n_var hN (.here)) (xa_cons (d := (eI k_p)) (n_var hN (.there (.here))) (xa_cons (d := ((eV (eP2 eS (eV eI))) lines_p)) (n_var hN (.there (.there (.here)))) (xa_cons (d := (eS run_p)) (n_var hN (.there (.there (.there (.here))))) xa_nil hs_Name) hs_Name) hs_Name) hs_Name) q4 (fun _ h => h)) (.of CmpD.eqB)))) q5) ?_
  obtain rfl := Option.some.inj h
  exact rfl
set_option maxHeartbeats 4000000 in
theorem ok_law {f : Addr} {fd : FuncData} (F : Fun K "law" "law" s_law f fd) (HL : ∀ ns : List Int, ns.length ≤ 63 → m_law ns = some true) (T : Bi mg) (D_law_seen_any : DefOk P w K mg base "_law_seen_any" 4 C_law_seen_any) (D_law_cell : DefOk P w K mg base "_law_cell" 1 C_law_cell) (D_law_draws : DefOk P w K mg base "_law_draws" 1 C_law_draws) (D_law_own_lines : DefOk P w K mg base "_law_own_lines" 2 C_law_own_lines) (D_law_word : DefOk P w K mg base "_law_word" 1 C_law_word) (D_law_spoilt_lines : DefOk P w K mg base "_law_spoilt_lines" 2 C_law_spoilt_lines) (D_law_is_run : DefOk P w K mg base "_law_is_run" 1 C_law_is_run) (D_law_is_told : DefOk P w K mg base "_law_is_told" 4 C_law_is_told) : FnOk P w K mg base CX0 5 f fd ["script"] (SpD K FR.C_law) := by
  obtain ⟨z_max, z_len, z_all, z_range, z_min, z_abs, z_int, z_isinstance, z_bool, z_str, z_sorted, z_tuple, z_list⟩ := T
  have D_law_cell := D_law_cell.mono (k := 4) (by decide)
  have D_law_draws := D_law_draws.mono (k := 4) (by decide)
  have D_law_own_lines := D_law_own_lines.mono (k := 4) (by decide)
  have D_law_word := D_law_word.mono (k := 4) (by decide)
  have D_law_spoilt_lines := D_law_spoilt_lines.mono (k := 4) (by decide)
  have D_law_is_run := D_law_is_run.mono (k := 4) (by decide)
  refine lawOk_mk F sc_law ?_
  intro cdv A outer s H E hr hN nd ii hok
  obtain ⟨script_p, res, hres, h⟩ : ∃ (ns : List Int) (res : Bool), (ns = ii ∧ res = true) ∧ m_law ns = some res := ⟨ii, true, ⟨rfl, rfl⟩, HL ii hok⟩
  obtain ⟨rfl, hres⟩ := hres
  unfold m_law at h
  show XB _ _ [some (.d ((eL eI) script_p)), none, none, none, none, none, none, none, none, none, none, none, none] _
  obtain ⟨v1, q1, h⟩ := obS h
  refine xb_cons ?_
  refine n_set (d := ((eP3 (eL eS) (eV eS) eI) v1)) (xd_call D_law_seen_any hr (i := (script_p, (0 : Int), (4 : Int), (8 : Int), v1)) (d := ((eP3 (eL eS) (eV eS) eI) v1)) (xa_cons (d := ((eL eI) script_p)) (n_var hN (.here)) (xa_cons (d := (eI (0 : Int))) xd_int (xa_cons (d := (eI (4 : Int))) xd_int (xa_cons (d := (eI (8 : Int))) xd_int xa_nil hs_Constant) hs_Constant) hs_Constant) hs_Name) q1 (fun _ h => h)) hN nd (.there (.here)) ?_
  obtain ⟨runs_4, q5, h⟩ := obS h
  refine xb_cons ?_
  refine n_set (d := ((eV eS) runs_4)) (XD.o (en := (eV eS)) (v := (cutL v1.2.1 none (some (12 : Int)))) (xm_vcut (en := eS) (xd_ixT (n_var hN (.there (.here))) xd_int rfl) xo_none (xo_some xd_int)) q5) hN nd (.there (.there (.here))) ?_
  obtain ⟨k_6, q7, h⟩ := obS h
  refine xb_cons ?_
  refine n_set (d := (eI k_6)) (XD.o (en := eI) (v := v1.2.2) (xd_ixT (n_var hN (.there (.here))) xd_int rfl) q7) hN nd (.there (.there (.there (.here)))) ?_
  obtain ⟨v8, q8, h⟩ := obS h
  obtain ⟨v9, q9, h⟩ := obS h
  refine xb_cons ?_
  refine n_set (d := ((eL eI) v9)) (xd_call D_law_draws hr (i := (v8, (26 : Int), v9)) (d := ((eL eI) v9)) (xa_cons (d := (eI v8)) (xd_call D_law_cell hr (i := (script_p, (2 : Int), v8)) (d := (eI v8)) (xa_cons (d := ((eL eI) script_p)) (n_var hN (.here)) (xa_cons (d := (eI (2 : Int))) xd_int xa_nil hs_Constant) hs_Name) q8 (fun _ h => h)) (xa_cons (d := (eI (26 : Int))) xd_int xa_nil hs_Constant) hs_Call) q9 (fun _ h => h)) hN nd (.there (.there (.there (.there (.here))))) ?_
  obtain ⟨v12, q12, h⟩ := obS h
  refine xb_cons ?_
  refine n_set (d := ((eL (eP2 eS (eV eI))) v12)) (xd_call D_law_own_lines hr (i := (runs_4, k_6, (cutL v9 none (some (24 : Int))), (8 : Int), (64 : Int), v12)) (d := ((eL (eP2 eS (eV eI))) v12)) (xa_cons (d := ((eV eS) runs_4)) (n_var hN (.there (.there (.here)))) (xa_cons (d := (eI k_6)) (n_var hN (.there (.there (.there (.here))))) (xa_cons (d := ((eL eI) (cutL v9 none (some (24 : Int))))) (XL.dat (xm_lcut (en := eI) (n_var hN (.there (.there (.there (.there (.here)))))) xo_none (xo_some xd_int))) (xa_cons (d := (eI (8 : Int))) xd_int (xa_cons (d := (eI (64 : Int))) xd_int xa_nil hs_Constant) hs_Constant) hs_Subscript) hs_Name) hs_Name) q12 (fun _ h => h)) hN nd (.there (.there (.there (.there (.there (.here)))))) ?_
  obtain ⟨v15, q15, h⟩ := obS h
  obtain ⟨v16, q16, h⟩ := obS h
  refine xb_cons ?_
  refine n_set (d := (eS v16)) (xd_call D_law_word hr (i := (v15, v1.1, (6 : Int), v16)) (d := (eS v16)) (xa_cons (d := (eI v15)) (xm_lix (en := eI) (xs := v9) (n_var hN (.there (.there (.there (.there (.here)))))) xd_int q15) (xa_cons (d := ((eL eS) v1.1)) (xd_ixT (n_var hN (.there (.here))) xd_int rfl) (xa_cons (d := (eI (6 : Int))) xd_int xa_nil hs_Constant) hs_Subscript) hs_Subscript) q16 (fun _ h => h)) hN nd (.there (.there (.there (.there (.there (.there (.here))))))) ?_
  obtain ⟨v19, q19, h⟩ := obS h
  obtain ⟨v20, q20, h⟩ := obS h
  refine xb_cons ?_
  refine n_set (d := (eI v20)) (xd_ifM (en := eI) (q_cmpT hr (d1 := (eI (v19 % (2 : Int)))) (d2 := (eI (0 : Int))) (xd_mod (xd_int1 (xm_lix (en := eI) (xs := v9) (n_var hN (.there (.there (.there (.there (.here)))))) xd_int q19) z_int) xd_int (by decide)) xd_int (.of CmpD.eqI)) (fun hc v0 h => by exact XD.o (en := eI) (v := (if (k_6 - (1 : Int)) > (0 : Int) then (k_6 - (1 : Int)) else (0 : Int))) (xd_max2 (xa_cons (d := (eI (0 : Int))) xd_int (xa_cons (d := (eI (k_6 - (1 : Int)))) (xd_sub (n_var hN (.there (.there (.there (.here))))) xd_int) xa_nil hs_BinOp) hs_Constant) z_max) h) (fun hc v0 h => by exact XD.o (en := eI) (v := (if (k_6 + (1 : Int)) < (20 : Int) then (k_6 + (1 : Int)) else (20 : Int))) (xd_min2 (xa_cons (d := (eI (20 : Int))) xd_int (xa_cons (d := (eI (k_6 + (1 : Int)))) (xd_add (n_var hN (.there (.there (.there (.here))))) xd_int) xa_nil hs_BinOp) hs_Constant) z_min) h) q20) hN nd (.there (.there (.there (.there (.there (.there (.there (.here)))))))) ?_
  obtain ⟨papers_23, q24, h⟩ := obS h
  refine xb_cons ?_
  refine n_setL (xs := List.map (eL (eP2 eS (eV eI))) papers_23) (xl_to (xl_lst (ds := [((eL (eP2 eS (eV eI))) v12), ((eL (eP2 eS (eV eI))) ([] : List (Str × (List Int))))]) (xa_cons (d := ((eL (eP2 eS (eV eI))) v12)) (n_var hN (.there (.there (.there (.there (.there (.here))))))) (xa_cons (d := ((eL (eP2 eS (eV eI))) ([] : List (Str × (List Int))))) (XL.dat (xl_lst (ds := []) xa_nil (show (0 : Nat) ≤ sizeLine by decide))) xa_nil hs_List) hs_Name) (show (2 : Nat) ≤ sizeLine by decide)) (by cases q24; rfl)) hN nd (.there (.there (.there (.there (.there (.there (.there (.there (.here))))))))) ?_
  obtain ⟨j25, q25, h⟩ := obS h
  have hj25 := h
  refine xb_cut (M := fun e => ∃ s25 : ((List (List (Str × (List Int))))), j25 = Sum.inl s25 ∧ e = [some (.d ((eL eI) script_p)), some (.d ((eP3 (eL eS) (eV eS) eI) v1)), some (.d ((eV eS) runs_4)), some (.d (eI k_6)), some (.d ((eL eI) v9)), some (.d ((eL (eP2 eS (eV eI))) v12)), some (.d (eS v16)), some (.d (eI v20)), some (.l (List.map (eL (eP2 eS (eV eI))) s25)), none, none, none, none]) (xs_if (b := (decide ((0 : Int) < (runs_4.length : Int)))) (q_cmpT hr (d1 := (eI (runs_4.length : Int))) (d2 := (eI (0 : Int))) (xm_vlen (en := eS) (n_var hN (.there (.there (.here)))) z_len) xd_int (.of CmpD.gtI)) (fun hc => ?_) (fun hc => ?_)) ?_
  · have h := ifT q25 hc
    obtain ⟨v26, q26, h⟩ := obS h
    obtain ⟨v27, q27, h⟩ := obS h
    obtain ⟨v28, q28, h⟩ := obS h
    obtain ⟨papers_29, q30, h⟩ := obS h
    refine xb_cons ?_
    refine nm_append (en := (eL (eP2 eS (eV eI)))) (y := v28) hN (.there (.there (.there (.there (.there (.there (.there (.there (.here))))))))) (XL.dat (xm_lcat (en := (eP2 eS (eV eI))) (xd_call D_law_own_lines hr (i := (runs_4, k_6, (cutL v9 none (some (24 : Int))), (8 : Int), (400 : Int), v26)) (d := ((eL (eP2 eS (eV eI))) v26)) (xa_cons (d := ((eV eS) runs_4)) (n_var hN (.there (.there (.here)))) (xa_cons (d := (eI k_6)) (n_var hN (.there (.there (.there (.here))))) (xa_cons (d := ((eL eI) (cutL v9 none (some (24 : Int))))) (XL.dat (xm_lcut (en := eI) (n_var hN (.there (.there (.there (.there (.here)))))) xo_none (xo_some xd_int))) (xa_cons (d := (eI (8 : Int))) xd_int (xa_cons (d := (eI (400 : Int))) xd_int xa_nil hs_Constant) hs_Constant) hs_Subscript) hs_Name) hs_Name) q26 (fun _ h => h)) (XL.dat (xl_lst (ds := [((eP2 eS (eV eI)) (v27, ([] : List Int)))]) (xa_cons (d := ((eP2 eS (eV eI)) (v27, ([] : List Int)))) (xd_tup (ds := [(eS v27), ((eV eI) ([] : List Int))]) (xa_cons (d := (eS v27)) (xm_vix (en := eS) (xs := runs_4) (n_var hN (.there (.there (.here)))) xd_int q27) (xa_cons (d := ((eV eI) ([] : List Int))) (xd_tup (ds := []) xa_nil (show (0 : Nat) ≤ sizeLine by decide)) xa_nil hs_Tuple) hs_Subscript) (show (2 : Nat) ≤ sizeLine by decide)) xa_nil hs_Tuple) (show (1 : Nat) ≤ sizeLine by decide))) q28)) q30 (.there (.there (.there (.there (.there (.there (.there (.there (.here))))))))) nd ?_
    refine xb_nil ?_
    obtain rfl := Option.some.inj h
    exact ⟨_, rfl, rfl⟩
  · have h := ifF q25 hc
    refine xb_nil ?_
    obtain rfl := Option.some.inj h
    exact ⟨_, rfl, rfl⟩
  rintro _ ⟨s25, hs0, rfl⟩
  rw [hs0] at h
  have h := jnI h
  obtain ⟨v31, q31, h⟩ := obS h
  obtain ⟨c39, q39, h⟩ := obS h
  refine xb_cut (M := fun e => ∃ s33 : ((List (List (Str × (List Int))))), c39 = Sum.inl s33 ∧ e = [some (.d ((eL eI) script_p)), some (.d ((eP3 (eL eS) (eV eS) eI) v1)), some (.d ((eV eS) runs_4)), some (.d (eI k_6)), some (.d ((eL eI) v9)), some (.d ((eL (eP2 eS (eV eI))) v12)), some (.d (eS v16)), some (.d (eI v20)), some (.l (List.map (eL (eP2 eS (eV eI))) s33)), none, none, none, none]) (nm_for (s0 := (s25)) (en := eI) (eR := eN) (js := [9]) (eX := fun s33 y32 => [some (.d ((eL eI) script_p)), some (.d ((eP3 (eL eS) (eV eS) eI) v1)), some (.d ((eV eS) runs_4)), some (.d (eI k_6)), some (.d ((eL eI) v9)), some (.d ((eL (eP2 eS (eV eI))) v12)), some (.d (eS v16)), some (.d (eI v20)), some (.l (List.map (eL (eP2 eS (eV eI))) s33)), some (.d (eI y32)), none, none, none]) q39 (fun s33 => [some (.d ((eL eI) script_p)), some (.d ((eP3 (eL eS) (eV eS) eI) v1)), some (.d ((eV eS) runs_4)), some (.d (eI k_6)), some (.d ((eL eI) v9)), some (.d ((eL (eP2 eS (eV eI))) v12)), some (.d (eS v16)), some (.d (eI v20)), some (.l (List.map (eL (eP2 eS (eV eI))) s33)), none, none, none, none]) (it_rng1 xd_int q31 z_range) (fun s33 y32 => (n_gname hN nd (.there (.there (.there (.there (.there (.there (.there (.there (.there (.here)))))))))))) (fun y32 s33 r h => ?_) (fun s0 hs => ⟨s0, hs, rfl⟩) (fun r0 hs => ?_)) ?_
  · skip
    obtain ⟨v34, q34, h⟩ := obS h
    obtain ⟨v35, q35, h⟩ := obS h
    obtain ⟨v36, q36, h⟩ := obS h
    obtain ⟨papers_37, q38, h⟩ := obS h
    refine xb_cons ?_
    refine nm_append (en := (eL (eP2 eS (eV eI)))) (y := v36) hN (.there (.there (.there (.there (.there (.there (.there (.there (.here))))))))) (xd_call D_law_spoilt_lines hr (i := (v12, k_6, v1.1, v35, v36)) (d := ((eL (eP2 eS (eV eI))) v36)) (xa_cons (d := ((eL (eP2 eS (eV eI))) v12)) (n_var hN (.there (.there (.there (.there (.there (.here))))))) (xa_cons (d := (eI k_6)) (n_var hN (.there (.there (.there (.here))))) (xa_cons (d := ((eL eS) v1.1)) (xd_ixT (n_var hN (.there (.here))) xd_int rfl) (xa_cons (d := ((eL eI) v35)) (xd_call D_law_draws hr (i := (v34, (5 : Int), v35)) (d := ((eL eI) v35)) (xa_cons (d := (eI v34)) (xd_call D_law_cell hr (i := (script_p, ((3 : Int) + y32), v34)) (d := (eI v34)) (xa_cons (d := ((eL eI) script_p)) (n_var hN (.here)) (xa_cons (d := (eI ((3 : Int) + y32))) (xd_add xd_int (n_var hN (.there (.there (.there (.there (.there (.there (.there (.there (.there (.here)))))))))))) xa_nil hs_BinOp) hs_Name) q34 (fun _ h => h)) (xa_cons (d := (eI (5 : Int))) xd_int xa_nil hs_Constant) hs_Call) q35 (fun _ h => h)) xa_nil hs_Call) hs_Subscript) hs_Name) hs_Name) q36 (fun _ h => h)) q38 (.there (.there (.there (.there (.there (.there (.there (.there (.here))))))))) nd ?_
    refine xb_fg (.keep (.keep (.keep (.keep (.keep (.keep (.keep (.keep (.keep (.drop (.keep (.keep (.keep (Fg.nil)))))))))))))) ?_
    refine xb_nil ?_
    obtain rfl := Option.some.inj h
    exact ⟨_, rfl, rfl⟩
  · rw [hs] at h
    exact nomatch (jnR h)
  rintro _ ⟨s39, hs0, rfl⟩
  rw [hs0] at h
  have h := jnI h
  refine n_freeze "papers" hN nd (.there (.there (.there (.there (.there (.there (.there (.there (.here))))))))) (.there (.there (.there (.there (.there (.there (.there (.there (.here))))))))) ?_
  obtain ⟨v40, q40, h⟩ := obS h
  obtain ⟨c61, q61, h⟩ := obS h
  refine xb_cut (M := fun e => ∃ s42 : Unit, c61 = Sum.inl s42 ∧ e = [some (.d ((eL eI) script_p)), some (.d ((eP3 (eL eS) (eV eS) eI) v1)), some (.d ((eV eS) runs_4)), some (.d (eI k_6)), some (.d ((eL eI) v9)), some (.d ((eL (eP2 eS (eV eI))) v12)), some (.d (eS v16)), some (.d (eI v20)), some (.d ((eL (eL (eP2 eS (eV eI)))) s39)), none, none, none, none]) (nm_for (s0 := ()) (en := (eL (eP2 eS (eV eI)))) (eR := eB) (js := [10]) (eX := fun s42 y41 => [some (.d ((eL eI) script_p)), some (.d ((eP3 (eL eS) (eV eS) eI) v1)), some (.d ((eV eS) runs_4)), some (.d (eI k_6)), some (.d ((eL eI) v9)), some (.d ((eL (eP2 eS (eV eI))) v12)), some (.d (eS v16)), some (.d (eI v20)), some (.d ((eL (eL (eP2 eS (eV eI)))) s39)), none, some (.d ((eL (eP2 eS (eV eI))) y41)), none, none]) q61 (fun s42 => [some (.d ((eL eI) script_p)), some (.d ((eP3 (eL eS) (eV eS) eI) v1)), some (.d ((eV eS) runs_4)), some (.d (eI k_6)), some (.d ((eL eI) v9)), some (.d ((eL (eP2 eS (eV eI))) v12)), some (.d (eS v16)), some (.d (eI v20)), some (.d ((eL (eL (eP2 eS (eV eI)))) s39)), none, none, none, none]) (it_list (en := (eL (eP2 eS (eV eI)))) (XL.dat (xm_lcat (en := (eL (eP2 eS (eV eI)))) (n_var hN (.there (.there (.there (.there (.there (.there (.there (.there (.here)))))))))) (XL.dat (xl_lst (ds := [((eL (eP2 eS (eV eI))) v12)]) (xa_cons (d := ((eL (eP2 eS (eV eI))) v12)) (n_var hN (.there (.there (.there (.there (.there (.here))))))) xa_nil hs_Name) (show (1 : Nat) ≤ sizeLine by decide))) q40))) (fun s42 y41 => (n_gname hN nd (.there (.there (.there (.there (.there (.there (.there (.there (.there (.there (.here))))))))))))) (fun y41 s42 r h => ?_) (fun s0 hs => ⟨s0, hs, rfl⟩) (fun r0 hs => ?_)) ?_
  · skip
    obtain ⟨lines_43, q44, h⟩ := obS h
    refine xb_cons ?_
    refine n_set (d := ((eV (eP2 eS (eV eI))) lines_43)) (XD.o (en := (eV (eP2 eS (eV eI)))) (v := y41) (xd_tupleL (n_var hN (.there (.there (.there (.there (.there (.there (.there (.there (.there (.there (.here)))))))))))) z_tuple) q44) hN nd (.there (.there (.there (.there (.there (.there (.there (.there (.there (.there (.there (.here)))))))))))) ?_
    obtain ⟨last_45, q46, h⟩ := obS h
    refine xb_cons ?_
    refine n_set (d := (eS last_45)) (XD.o (en := eS) (v := v16) (n_var hN (.there (.there (.there (.there (.there (.there (.here)))))))) q46) hN nd (.there (.there (.there (.there (.there (.there (.there (.there (.there (.there (.there (.there (.here))))))))))))) ?_
    obtain ⟨v52, q52, h⟩ := obS h
    obtain ⟨j53, q53, h⟩ := obS h
    have hj53 := h
    refine xb_cut (M := fun e => ∃ s53 : (Str), j53 = Sum.inl s53 ∧ e = [some (.d ((eL eI) script_p)), some (.d ((eP3 (eL eS) (eV eS) eI) v1)), some (.d ((eV eS) runs_4)), some (.d (eI k_6)), some (.d ((eL eI) v9)), some (.d ((eL (eP2 eS (eV eI))) v12)), some (.d (eS v16)), some (.d (eI v20)), some (.d ((eL (eL (eP2 eS (eV eI)))) s39)), none, some (.d ((eL (eP2 eS (eV eI))) y41)), some (.d ((eV (eP2 eS (eV eI))) lines_43)), some (.d (eS s53))]) (xs_if (b := v52) (XW.t (xw_andM (a := (decide ((0 : Int) < (lines_43.length : Int)))) (q_cmpT hr (d1 := (eI (lines_43.length : Int))) (d2 := (eI (0 : Int))) (xm_vlen (en := (eP2 eS (eV eI))) (n_var hN (.there (.there (.there (.there (.there (.there (.there (.there (.there (.there (.there (.here))))))))))))) z_len) xd_int (.of CmpD.gtI)) (fun hc b' h => by obtain ⟨v47, q47, h⟩ := obS h; obtain ⟨v48, q48, h⟩ := obS h; obtain ⟨v51, q51, h⟩ := obS h; obtain rfl := Option.some.inj h; exact (xw_andM (a := v48) (xt_val (xd_call D_law_is_run hr (i := (v47.1, v48)) (d := (eB v48)) (xa_cons (d := (eS v47.1)) (xd_ixT (xm_vix (en := (eP2 eS (eV eI))) (xs := lines_43) (n_var hN (.there (.there (.there (.there (.there (.there (.there (.there (.there (.there (.there (.here))))))))))))) (xd_neg xd_int) q47) xd_int rfl) xa_nil hs_Subscript) q48 (fun _ h => h))) (fun hc b' h => by obtain ⟨v49, q49, h⟩ := obS h; obtain ⟨v50, q50, h⟩ := obS h; obtain rfl := Option.some.inj h; exact (xw_and1 (q_cmpT hr (d1 := (eI v50)) (d2 := (eI (64 : Int))) (xm_slen (xd_ixT (xm_vix (en := (eP2 eS (eV eI))) (xs := lines_43) (n_var hN (.there (.there (.there (.there (.there (.there (.there (.there (.there (.there (.there (.here))))))))))))) (xd_neg xd_int) q49) xd_int rfl) q50 z_len) xd_int (.of CmpD.leI)))) q51)) q52)) (fun hc => ?_) (fun hc => ?_)) ?_
    · have h := ifT q53 hc
      obtain ⟨v54, q54, h⟩ := obS h
      obtain ⟨last_55, q56, h⟩ := obS h
      refine xb_cons ?_
      refine n_set (d := (eS last_55)) (XD.o (en := eS) (v := v54.1) (xd_ixT (xm_vix (en := (eP2 eS (eV eI))) (xs := lines_43) (n_var hN (.there (.there (.there (.there (.there (.there (.there (.there (.there (.there (.there (.here))))))))))))) (xd_neg xd_int) q54) xd_int rfl) q56) hN nd (.there (.there (.there (.there (.there (.there (.there (.there (.there (.there (.there (.there (.here))))))))))))) ?_
      refine xb_nil ?_
      obtain rfl := Option.some.inj h
      exact ⟨_, rfl, rfl⟩
    · have h := ifF q53 hc
      refine xb_nil ?_
      obtain rfl := Option.some.inj h
      exact ⟨_, rfl, rfl⟩
    rintro _ ⟨s53, hs0, rfl⟩
    rw [hs0] at h
    have h := jnI h
    obtain ⟨v57, q57, h⟩ := obS h
    obtain ⟨v59, q59, h⟩ := obS h
    refine xb_cons ?_
    refine xs_if (b := v59) (XW.t (xw_orM (a := (!v57)) (xt_not (xt_val (xd_call D_law_is_told hr (i := (runs_4, k_6, lines_43, s53, v57)) (d := (eB v57)) (xa_cons (d := ((eV eS) runs_4)) (n_var hN (.there (.there (.here)))) (xa_cons (d := (eI k_6)) (n_var hN (.there (.there (.there (.here))))) (xa_cons (d := ((eV (eP2 eS (eV eI))) lines_43)) (n_var hN (.there (.there (.there (.there (.there (.there (.there (.there (.there (.there (.there (.here))))))))))))) (xa_cons (d := (eS s53)) (n_var hN (.there (.there (.there (.there (.there (.there (.there (.there (.there (.there (.there (.there (.here)))))))))))))) xa_nil hs_Name) hs_Name) hs_Name) hs_Name) q57 (fun _ h => h)))) (fun hc b' h => by obtain ⟨v58, q58, h⟩ := obS h; obtain rfl := Option.some.inj h; exact (xw_or1 (xt_not (xt_val (xd_call D_law_is_told hr (i := ((List.reverse runs_4), k_6, lines_43, v16, v58)) (d := (eB v58)) (xa_cons (d := ((eV eS) (List.reverse runs_4))) (xm_vrev (en := eS) (n_var hN (.there (.there (.here))))) (xa_cons (d := (eI k_6)) (n_var hN (.there (.there (.there (.here))))) (xa_cons (d := ((eV (eP2 eS (eV eI))) lines_43)) (n_var hN (.there (.there (.there (.there (.there (.there (.there (.there (.there (.there (.there (.here))))))))))))) (xa_cons (d := (eS v16)) (n_var hN (.there (.there (.there (.there (.there (.there (.here)))))))) xa_nil hs_Name) hs_Name) hs_Name) hs_Subscript) q58 (fun _ h => h)))))) q59)) (fun hc => ?_) (fun hc => ?_)
    · have h := ifT h hc
      refine xb_cons ?_
      refine xs_ret (d := (eB false)) xd_bl ?_
      obtain rfl := Option.some.inj h
      exact ⟨_, rfl, rfl⟩
    · have h := ifF h hc
      refine xb_nil ?_
      obtain ⟨v60, q60, h⟩ := obS h
      refine xb_cons ?_
      refine xs_if (b := (!v60)) (xt_not (xt_val (xd_call D_law_is_told hr (i := (runs_4, v20, lines_43, s53, v60)) (d := (eB v60)) (xa_cons (d := ((eV eS) runs_4)) (n_var hN (.there (.there (.here)))) (xa_cons (d := (eI v20)) (n_var hN (.there (.there (.there (.there (.there (.there (.there (.here))))))))) (xa_cons (d := ((eV (eP2 eS (eV eI))) lines_43)) (n_var hN (.there (.there (.there (.there (.there (.there (.there (.there (.there (.there (.there (.here))))))))))))) (xa_cons (d := (eS s53)) (n_var hN (.there (.there (.there (.there (.there (.there (.there (.there (.there (.there (.there (.there (.here)))))))))))))) xa_nil hs_Name) hs_Name) hs_Name) hs_Name) q60 (fun _ h => h)))) (fun hc => ?_) (fun hc => ?_)
      · have h := ifT h hc
        refine xb_cons ?_
        refine xs_ret (d := (eB false)) xd_bl ?_
        obtain rfl := Option.some.inj h
        exact ⟨_, rfl, rfl⟩
      · have h := ifF h hc
        refine xb_nil ?_
        refine xb_fg (.keep (.keep (.keep (.keep (.keep (.keep (.keep (.keep (.keep (.keep (.drop (.drop (.drop (Fg.nil)))))))))))))) ?_
        refine xb_nil ?_
        obtain rfl := Option.some.inj h
        exact ⟨_, rfl, rfl⟩
  · rw [hs] at h
    have h := jnR h
    obtain rfl := Option.some.inj h
    exact congrArg PyData.bool hres
  rintro _ ⟨s61, hs0, rfl⟩
  rw [hs0] at h
  have h := jnI h
  refine xb_cons ?_
  refine xs_ret (d := (eB true)) xd_bl ?_
  obtain rfl := Option.some.inj h
  exact congrArg PyData.bool hres
end
theorem all_mk {l : PySem.W.OpenLaw} {w : World} {K : PySem.W.Frag} {h : Heap} {mg : Str → Option Value} {fa f0 f1 f2 f3 f4 f5 f6 f7 f8 f9 f10 f11 f12 f13 f14 f15 f16 f17 f18 f19 f20 f21 f22 : Addr} (X : K.In h) (G : h.Ns mainGlobals mg) (hfa : mg "law" = some (.ref fa))
    {od0 an0 od1 an1 od2 an2 od3 an3 od4 an4 od5 an5 od6 an6 od7 an7 od8 an8 od9 an9 od10 an10 od11 an11 od12 an12 od13 an13 od14 an14 od15 an15 od16 an16 od17 an17 od18 an18 od19 an19 od20 an20 od21 an21 od22 an22 : Option Addr} {sl0 sl1 sl2 sl3 sl4 sl5 sl6 sl7 sl8 sl9 sl10 sl11 sl12 sl13 sl14 sl15 sl16 sl17 sl18 sl19 sl20 sl21 sl22 : Array (Option Value)} {oc0 kV0 dc0 pm0 cd0 ct0 oc1 kV1 dc1 pm1 cd1 ct1 oc2 kV2 dc2 pm2 cd2 ct2 oc3 kV3 dc3 pm3 cd3 ct3 oc4 kV4 dc4 pm4 cd4 ct4 oc5 kV5 dc5 pm5 cd5 ct5 oc6 kV6 dc6 pm6 cd6 ct6 oc7 kV7 dc7 pm7 cd7 ct7 oc8 kV8 dc8 pm8 cd8 ct8 oc9 kV9 dc9 pm9 cd9 ct9 oc10 kV10 dc10 pm10 cd10 ct10 oc11 kV11 dc11 pm11 cd11 ct11 oc12 kV12 dc12 pm12 cd12 ct12 oc13 kV13 dc13 pm13 cd13 ct13 oc14 kV14 dc14 pm14 cd14 ct14 oc15 kV15 dc15 pm15 cd15 ct15 oc16 kV16 dc16 pm16 cd16 ct16 oc17 kV17 dc17 pm17 cd17 ct17 oc18 kV18 dc18 pm18 cd18 ct18 oc19 kV19 dc19 pm19 cd19 ct19 oc20 kV20 dc20 pm20 cd20 ct20 oc21 kV21 dc21 pm21 cd21 ct21 oc22 kV22 dc22 pm22 cd22 ct22 : Value}
    (a0 : PySem.W.nsIn K mainGlobals "_law_cell" = some (some (.ref f0))) (l0 : K.lookup f0 = some ⟨oc0, od0, .func (PySem.W.fnOf "_law_cell" "_law_cell" (defArgs s_law_cell) (defBody s_law_cell) (defScope s_law_cell) .none kV0 dc0 pm0 an0 cd0 ct0), sl0⟩) (c0 : PySem.W.codeIn K cd0 "_law_cell" = true) (k0 : PySem.W.keepIn K (.ref f0) = true)
    (a1 : PySem.W.nsIn K mainGlobals "_law_draws" = some (some (.ref f1))) (l1 : K.lookup f1 = some ⟨oc1, od1, .func (PySem.W.fnOf "_law_draws" "_law_draws" (defArgs s_law_draws) (defBody s_law_draws) (defScope s_law_draws) .none kV1 dc1 pm1 an1 cd1 ct1), sl1⟩) (c1 : PySem.W.codeIn K cd1 "_law_draws" = true) (k1 : PySem.W.keepIn K (.ref f1) = true)
    (a2 : PySem.W.nsIn K mainGlobals "_law_letters" = some (some (.ref f2))) (l2 : K.lookup f2 = some ⟨oc2, od2, .func (PySem.W.fnOf "_law_letters" "_law_letters" (defArgs s_law_letters) (defBody s_law_letters) (defScope s_law_letters) .none kV2 dc2 pm2 an2 cd2 ct2), sl2⟩) (c2 : PySem.W.codeIn K cd2 "_law_letters" = true) (k2 : PySem.W.keepIn K (.ref f2) = true)
    (a3 : PySem.W.nsIn K mainGlobals "_law_word" = some (some (.ref f3))) (l3 : K.lookup f3 = some ⟨oc3, od3, .func (PySem.W.fnOf "_law_word" "_law_word" (defArgs s_law_word) (defBody s_law_word) (defScope s_law_word) .none kV3 dc3 pm3 an3 cd3 ct3), sl3⟩) (c3 : PySem.W.codeIn K cd3 "_law_word" = true) (k3 : PySem.W.keepIn K (.ref f3) = true)
    (a4 : PySem.W.nsIn K mainGlobals "_law_runs" = some (some (.ref f4))) (l4 : K.lookup f4 = some ⟨oc4, od4, .func (PySem.W.fnOf "_law_runs" "_law_runs" (defArgs s_law_runs) (defBody s_law_runs) (defScope s_law_runs) .none kV4 dc4 pm4 an4 cd4 ct4), sl4⟩) (c4 : PySem.W.codeIn K cd4 "_law_runs" = true) (k4 : PySem.W.keepIn K (.ref f4) = true)
    (a5 : PySem.W.nsIn K mainGlobals "_law_k" = some (some (.ref f5))) (l5 : K.lookup f5 = some ⟨oc5, od5, .func (PySem.W.fnOf "_law_k" "_law_k" (defArgs s_law_k) (defBody s_law_k) (defScope s_law_k) .none kV5 dc5 pm5 an5 cd5 ct5), sl5⟩) (c5 : PySem.W.codeIn K cd5 "_law_k" = true) (k5 : PySem.W.keepIn K (.ref f5) = true)
    (a6 : PySem.W.nsIn K mainGlobals "_law_seen" = some (some (.ref f6))) (l6 : K.lookup f6 = some ⟨oc6, od6, .func (PySem.W.fnOf "_law_seen" "_law_seen" (defArgs s_law_seen) (defBody s_law_seen) (defScope s_law_seen) .none kV6 dc6 pm6 an6 cd6 ct6), sl6⟩) (c6 : PySem.W.codeIn K cd6 "_law_seen" = true) (k6 : PySem.W.keepIn K (.ref f6) = true)
    (a7 : PySem.W.nsIn K mainGlobals "_law_fit" = some (some (.ref f7))) (l7 : K.lookup f7 = some ⟨oc7, od7, .func (PySem.W.fnOf "_law_fit" "_law_fit" (defArgs s_law_fit) (defBody s_law_fit) (defScope s_law_fit) .none kV7 dc7 pm7 an7 cd7 ct7), sl7⟩) (c7 : PySem.W.codeIn K cd7 "_law_fit" = true) (k7 : PySem.W.keepIn K (.ref f7) = true)
    (a8 : PySem.W.nsIn K mainGlobals "_law_long_runs" = some (some (.ref f8))) (l8 : K.lookup f8 = some ⟨oc8, od8, .func (PySem.W.fnOf "_law_long_runs" "_law_long_runs" (defArgs s_law_long_runs) (defBody s_law_long_runs) (defScope s_law_long_runs) .none kV8 dc8 pm8 an8 cd8 ct8), sl8⟩) (c8 : PySem.W.codeIn K cd8 "_law_long_runs" = true) (k8 : PySem.W.keepIn K (.ref f8) = true)
    (a9 : PySem.W.nsIn K mainGlobals "_law_seen_any" = some (some (.ref f9))) (l9 : K.lookup f9 = some ⟨oc9, od9, .func (PySem.W.fnOf "_law_seen_any" "_law_seen_any" (defArgs s_law_seen_any) (defBody s_law_seen_any) (defScope s_law_seen_any) .none kV9 dc9 pm9 an9 cd9 ct9), sl9⟩) (c9 : PySem.W.codeIn K cd9 "_law_seen_any" = true) (k9 : PySem.W.keepIn K (.ref f9) = true)
    (a10 : PySem.W.nsIn K mainGlobals "_law_drawn_line" = some (some (.ref f10))) (l10 : K.lookup f10 = some ⟨oc10, od10, .func (PySem.W.fnOf "_law_drawn_line" "_law_drawn_line" (defArgs s_law_drawn_line) (defBody s_law_drawn_line) (defScope s_law_drawn_line) .none kV10 dc10 pm10 an10 cd10 ct10), sl10⟩) (c10 : PySem.W.codeIn K cd10 "_law_drawn_line" = true) (k10 : PySem.W.keepIn K (.ref f10) = true)
    (a11 : PySem.W.nsIn K mainGlobals "_law_own_lines" = some (some (.ref f11))) (l11 : K.lookup f11 = some ⟨oc11, od11, .func (PySem.W.fnOf "_law_own_lines" "_law_own_lines" (defArgs s_law_own_lines) (defBody s_law_own_lines) (defScope s_law_own_lines) .none kV11 dc11 pm11 an11 cd11 ct11), sl11⟩) (c11 : PySem.W.codeIn K cd11 "_law_own_lines" = true) (k11 : PySem.W.keepIn K (.ref f11) = true)
    (a12 : PySem.W.nsIn K mainGlobals "_law_spoilt_number" = some (some (.ref f12))) (l12 : K.lookup f12 = some ⟨oc12, od12, .func (PySem.W.fnOf "_law_spoilt_number" "_law_spoilt_number" (defArgs s_law_spoilt_number) (defBody s_law_spoilt_number) (defScope s_law_spoilt_number) .none kV12 dc12 pm12 an12 cd12 ct12), sl12⟩) (c12 : PySem.W.codeIn K cd12 "_law_spoilt_number" = true) (k12 : PySem.W.keepIn K (.ref f12) = true)
    (a13 : PySem.W.nsIn K mainGlobals "_law_near_line" = some (some (.ref f13))) (l13 : K.lookup f13 = some ⟨oc13, od13, .func (PySem.W.fnOf "_law_near_line" "_law_near_line" (defArgs s_law_near_line) (defBody s_law_near_line) (defScope s_law_near_line) .none kV13 dc13 pm13 an13 cd13 ct13), sl13⟩) (c13 : PySem.W.codeIn K cd13 "_law_near_line" = true) (k13 : PySem.W.keepIn K (.ref f13) = true)
    (a14 : PySem.W.nsIn K mainGlobals "_law_spoilt_lines" = some (some (.ref f14))) (l14 : K.lookup f14 = some ⟨oc14, od14, .func (PySem.W.fnOf "_law_spoilt_lines" "_law_spoilt_lines" (defArgs s_law_spoilt_lines) (defBody s_law_spoilt_lines) (defScope s_law_spoilt_lines) .none kV14 dc14 pm14 an14 cd14 ct14), sl14⟩) (c14 : PySem.W.codeIn K cd14 "_law_spoilt_lines" = true) (k14 : PySem.W.keepIn K (.ref f14) = true)
    (a15 : PySem.W.nsIn K mainGlobals "_law_is_run" = some (some (.ref f15))) (l15 : K.lookup f15 = some ⟨oc15, od15, .func (PySem.W.fnOf "_law_is_run" "_law_is_run" (defArgs s_law_is_run) (defBody s_law_is_run) (defScope s_law_is_run) .none kV15 dc15 pm15 an15 cd15 ct15), sl15⟩) (c15 : PySem.W.codeIn K cd15 "_law_is_run" = true) (k15 : PySem.W.keepIn K (.ref f15) = true)
    (a16 : PySem.W.nsIn K mainGlobals "last_letters" = some (some (.ref f16))) (l16 : K.lookup f16 = some ⟨oc16, od16, .func (PySem.W.fnOf "last_letters" "last_letters" (defArgs s_last_letters) (defBody s_last_letters) (defScope s_last_letters) .none kV16 dc16 pm16 an16 cd16 ct16), sl16⟩) (c16 : PySem.W.codeIn K cd16 "last_letters" = true) (k16 : PySem.W.keepIn K (.ref f16) = true)
    (a17 : PySem.W.nsIn K mainGlobals "is_derived" = some (some (.ref f17))) (l17 : K.lookup f17 = some ⟨oc17, od17, .func (PySem.W.fnOf "is_derived" "is_derived" (defArgs s_is_derived) (defBody s_is_derived) (defScope s_is_derived) .none kV17 dc17 pm17 an17 cd17 ct17), sl17⟩) (c17 : PySem.W.codeIn K cd17 "is_derived" = true) (k17 : PySem.W.keepIn K (.ref f17) = true)
    (a18 : PySem.W.nsIn K mainGlobals "judge_derivation" = some (some (.ref f18))) (l18 : K.lookup f18 = some ⟨oc18, od18, .func (PySem.W.fnOf "judge_derivation" "judge_derivation" (defArgs s_judge_derivation) (defBody s_judge_derivation) (defScope s_judge_derivation) .none kV18 dc18 pm18 an18 cd18 ct18), sl18⟩) (c18 : PySem.W.codeIn K cd18 "judge_derivation" = true) (k18 : PySem.W.keepIn K (.ref f18) = true)
    (a19 : PySem.W.nsIn K mainGlobals "_law_is_integer" = some (some (.ref f19))) (l19 : K.lookup f19 = some ⟨oc19, od19, .func (PySem.W.fnOf "_law_is_integer" "_law_is_integer" (defArgs s_law_is_integer) (defBody s_law_is_integer) (defScope s_law_is_integer) .none kV19 dc19 pm19 an19 cd19 ct19), sl19⟩) (c19 : PySem.W.codeIn K cd19 "_law_is_integer" = true) (k19 : PySem.W.keepIn K (.ref f19) = true)
    (a20 : PySem.W.nsIn K mainGlobals "_law_derives" = some (some (.ref f20))) (l20 : K.lookup f20 = some ⟨oc20, od20, .func (PySem.W.fnOf "_law_derives" "_law_derives" (defArgs s_law_derives) (defBody s_law_derives) (defScope s_law_derives) .none kV20 dc20 pm20 an20 cd20 ct20), sl20⟩) (c20 : PySem.W.codeIn K cd20 "_law_derives" = true) (k20 : PySem.W.keepIn K (.ref f20) = true)
    (a21 : PySem.W.nsIn K mainGlobals "_law_is_told" = some (some (.ref f21))) (l21 : K.lookup f21 = some ⟨oc21, od21, .func (PySem.W.fnOf "_law_is_told" "_law_is_told" (defArgs s_law_is_told) (defBody s_law_is_told) (defScope s_law_is_told) .none kV21 dc21 pm21 an21 cd21 ct21), sl21⟩) (c21 : PySem.W.codeIn K cd21 "_law_is_told" = true) (k21 : PySem.W.keepIn K (.ref f21) = true)
    (a22 : PySem.W.nsIn K mainGlobals "law" = some (some (.ref f22))) (l22 : K.lookup f22 = some ⟨oc22, od22, .func (PySem.W.fnOf "law" "law" (defArgs s_law) (defBody s_law) (defScope s_law) .none kV22 dc22 pm22 an22 cd22 ct22), sl22⟩) (c22 : PySem.W.codeIn K cd22 "law" = true) (k22 : PySem.W.keepIn K (.ref f22) = true)
    (z_max : PySem.W.nsIn K mainGlobals "max" = some none) (z_len : PySem.W.nsIn K mainGlobals "len" = some none) (z_all : PySem.W.nsIn K mainGlobals "all" = some none) (z_range : PySem.W.nsIn K mainGlobals "range" = some none) (z_min : PySem.W.nsIn K mainGlobals "min" = some none) (z_abs : PySem.W.nsIn K mainGlobals "abs" = some none) (z_int : PySem.W.nsIn K mainGlobals "int" = some none) (z_isinstance : PySem.W.nsIn K mainGlobals "isinstance" = some none) (z_bool : PySem.W.nsIn K mainGlobals "bool" = some none) (z_str : PySem.W.nsIn K mainGlobals "str" = some none) (z_sorted : PySem.W.nsIn K mainGlobals "sorted" = some none) (z_tuple : PySem.W.nsIn K mainGlobals "tuple" = some none) (z_list : PySem.W.nsIn K mainGlobals "list" = some none) :
    ∃ fd : FuncData, (∀ (s : Shared) (v : Value), BindsTo s fd ⟨[v], []⟩ [("script", v)]) ∧ ∀ base : Heap, K.In base → base.Ns mainGlobals mg → FnOk l.prog w K mg base CX0 5 fa fd ["script"] (SpD K FR.C_law) := by
  have e := hfa.symm.trans (PySem.W.mg_of X G a22)
  cases e
  have T : Bi mg := ⟨PySem.W.mg_none_of X G z_max, PySem.W.mg_none_of X G z_len, PySem.W.mg_none_of X G z_all, PySem.W.mg_none_of X G z_range, PySem.W.mg_none_of X G z_min, PySem.W.mg_none_of X G z_abs, PySem.W.mg_none_of X G z_int, PySem.W.mg_none_of X G z_isinstance, PySem.W.mg_none_of X G z_bool, PySem.W.mg_none_of X G z_str, PySem.W.mg_none_of X G z_sorted, PySem.W.mg_none_of X G z_tuple, PySem.W.mg_none_of X G z_list⟩
  have F0 := fun_mk (st := s_law_cell) l0 c0 k0
  have F1 := fun_mk (st := s_law_draws) l1 c1 k1
  have F2 := fun_mk (st := s_law_letters) l2 c2 k2
  have F3 := fun_mk (st := s_law_word) l3 c3 k3
  have F4 := fun_mk (st := s_law_runs) l4 c4 k4
  have F5 := fun_mk (st := s_law_k) l5 c5 k5
  have F6 := fun_mk (st := s_law_seen) l6 c6 k6
  have F7 := fun_mk (st := s_law_fit) l7 c7 k7
  have F8 := fun_mk (st := s_law_long_runs) l8 c8 k8
  have F9 := fun_mk (st := s_law_seen_any) l9 c9 k9
  have F10 := fun_mk (st := s_law_drawn_line) l10 c10 k10
  have F11 := fun_mk (st := s_law_own_lines) l11 c11 k11
  have F12 := fun_mk (st := s_law_spoilt_number) l12 c12 k12
  have F13 := fun_mk (st := s_law_near_line) l13 c13 k13
  have F14 := fun_mk (st := s_law_spoilt_lines) l14 c14 k14
  have F15 := fun_mk (st := s_law_is_run) l15 c15 k15
  have F16 := fun_mk (st := s_last_letters) l16 c16 k16
  have F17 := fun_mk (st := s_is_derived) l17 c17 k17
  have F18 := fun_mk (st := s_judge_derivation) l18 c18 k18
  have F19 := fun_mk (st := s_law_is_integer) l19 c19 k19
  have F20 := fun_mk (st := s_law_derives) l20 c20 k20
  have F21 := fun_mk (st := s_law_is_told) l21 c21 k21
  have F22 := fun_mk (st := s_law) l22 c22 k22
  have b0 := F0.binds (ps := ["script", "k"]) fun _ _ _ _ _ _ us hl => match us, hl with | [_, _], _ => rfl
  have b1 := F1.binds (ps := ["cell", "count"]) fun _ _ _ _ _ _ us hl => match us, hl with | [_, _], _ => rfl
  have b2 := F2.binds (ps := ["draw", "count"]) fun _ _ _ _ _ _ us hl => match us, hl with | [_, _], _ => rfl
  have b3 := F3.binds (ps := ["draw", "letters", "longest"]) fun _ _ _ _ _ _ us hl => match us, hl with | [_, _, _], _ => rfl
  have b4 := F4.binds (ps := ["cell", "letters", "count", "longest"]) fun _ _ _ _ _ _ us hl => match us, hl with | [_, _, _, _], _ => rfl
  have b5 := F5.binds (ps := ["draw"]) fun _ _ _ _ _ _ us hl => match us, hl with | [_], _ => rfl
  have b6 := F6.binds (ps := ["script", "at", "count", "longest"]) fun _ _ _ _ _ _ us hl => match us, hl with | [_, _, _, _], _ => rfl
  have b7 := F7.binds (ps := ["runs", "most"]) fun _ _ _ _ _ _ us hl => match us, hl with | [_, _], _ => rfl
  have b8 := F8.binds (ps := ["cell", "letters"]) fun _ _ _ _ _ _ us hl => match us, hl with | [_, _], _ => rfl
  have b9 := F9.binds (ps := ["script", "at", "count", "longest"]) fun _ _ _ _ _ _ us hl => match us, hl with | [_, _, _, _], _ => rfl
  have b10 := F10.binds (ps := ["known", "k", "draws"]) fun _ _ _ _ _ _ us hl => match us, hl with | [_, _, _], _ => rfl
  have b11 := F11.binds (ps := ["runs", "k", "draws", "count", "longest"]) fun _ _ _ _ _ _ us hl => match us, hl with | [_, _, _, _, _], _ => rfl
  have b12 := F12.binds (ps := ["lines", "at", "k", "draws"]) fun _ _ _ _ _ _ us hl => match us, hl with | [_, _, _, _], _ => rfl
  have b13 := F13.binds (ps := ["lines", "k", "at", "other", "draws"]) fun _ _ _ _ _ _ us hl => match us, hl with | [_, _, _, _, _], _ => rfl
  have b14 := F14.binds (ps := ["lines", "k", "letters", "draws"]) fun _ _ _ _ _ _ us hl => match us, hl with | [_, _, _, _], _ => rfl
  have b15 := F15.binds (ps := ["value"]) fun _ _ _ _ _ _ us hl => match us, hl with | [_], _ => rfl
  have b16 := F16.binds (ps := ["run", "k"]) fun _ _ _ _ _ _ us hl => match us, hl with | [_, _], _ => rfl
  have b17 := F17.binds (ps := ["runs", "k", "lines", "at"]) fun _ _ _ _ _ _ us hl => match us, hl with | [_, _, _, _], _ => rfl
  have b18 := F18.binds (ps := ["runs", "k", "lines", "run"]) fun _ _ _ _ _ _ us hl => match us, hl with | [_, _, _, _], _ => rfl
  have b19 := F19.binds (ps := ["value"]) fun _ _ _ _ _ _ us hl => match us, hl with | [_], _ => rfl
  have b20 := F20.binds (ps := ["runs", "k", "lines", "run"]) fun _ _ _ _ _ _ us hl => match us, hl with | [_, _, _, _], _ => rfl
  have b21 := F21.binds (ps := ["runs", "k", "lines", "run"]) fun _ _ _ _ _ _ us hl => match us, hl with | [_, _, _, _], _ => rfl
  refine ⟨PySem.W.fnOf "law" "law" (defArgs s_law) (defBody s_law) (defScope s_law) .none kV22 dc22 pm22 an22 cd22 ct22, fun s v => .of_eq rfl, fun base _ _ => ?_⟩
  have D_law_cell := ok_law_cell (P := l.prog) (w := w) (base := base) F0 b0 (PySem.W.mg_of X G a0) T 
  have D_law_draws := ok_law_draws (P := l.prog) (w := w) (base := base) F1 b1 (PySem.W.mg_of X G a1) T 
  have D_law_letters := ok_law_letters (P := l.prog) (w := w) (base := base) F2 b2 (PySem.W.mg_of X G a2) T 
  have D_law_word := ok_law_word (P := l.prog) (w := w) (base := base) F3 b3 (PySem.W.mg_of X G a3) T 
  have D_law_runs := ok_law_runs (P := l.prog) (w := w) (base := base) F4 b4 (PySem.W.mg_of X G a4) T D_law_draws D_law_word
  have D_law_k := ok_law_k (P := l.prog) (w := w) (base := base) F5 b5 (PySem.W.mg_of X G a5) T 
  have D_law_seen := ok_law_seen (P := l.prog) (w := w) (base := base) F6 b6 (PySem.W.mg_of X G a6) T D_law_cell D_law_draws D_law_letters D_law_runs D_law_k
  have D_law_fit := ok_law_fit (P := l.prog) (w := w) (base := base) F7 b7 (PySem.W.mg_of X G a7) T 
  have D_law_long_runs := ok_law_long_runs (P := l.prog) (w := w) (base := base) F8 b8 (PySem.W.mg_of X G a8) T D_law_draws D_law_word D_law_fit
  have D_law_seen_any := ok_law_seen_any (P := l.prog) (w := w) (base := base) F9 b9 (PySem.W.mg_of X G a9) T D_law_seen D_law_cell D_law_draws D_law_long_runs
  have D_law_drawn_line := ok_law_drawn_line (P := l.prog) (w := w) (base := base) F10 b10 (PySem.W.mg_of X G a10) T 
  have D_law_own_lines := ok_law_own_lines (P := l.prog) (w := w) (base := base) F11 b11 (PySem.W.mg_of X G a11) T D_law_drawn_line
  have D_law_spoilt_number := ok_law_spoilt_number (P := l.prog) (w := w) (base := base) F12 b12 (PySem.W.mg_of X G a12) T 
  have D_law_near_line := ok_law_near_line (P := l.prog) (w := w) (base := base) F13 b13 (PySem.W.mg_of X G a13) T 
  have D_law_spoilt_lines := ok_law_spoilt_lines (P := l.prog) (w := w) (base := base) F14 b14 (PySem.W.mg_of X G a14) T D_law_spoilt_number D_law_near_line
  have D_law_is_run := ok_law_is_run (P := l.prog) (w := w) (base := base) F15 b15 (PySem.W.mg_of X G a15) T 
  have D_last_letters := ok_last_letters (P := l.prog) (w := w) (base := base) F16 b16 (PySem.W.mg_of X G a16) T 
  have D_is_derived := ok_is_derived (P := l.prog) (w := w) (base := base) F17 b17 (PySem.W.mg_of X G a17) T D_last_letters
  have D_judge_derivation := ok_judge_derivation (P := l.prog) (w := w) (base := base) F18 b18 (PySem.W.mg_of X G a18) T D_is_derived
  have D_law_is_integer := ok_law_is_integer (P := l.prog) (w := w) (base := base) F19 b19 (PySem.W.mg_of X G a19) T 
  have D_law_derives := ok_law_derives (P := l.prog) (w := w) (base := base) F20 b20 (PySem.W.mg_of X G a20) T D_law_is_run D_law_is_integer
  have D_law_is_told := ok_law_is_told (P := l.prog) (w := w) (base := base) F21 b21 (PySem.W.mg_of X G a21) T D_judge_derivation D_law_derives
  exact ok_law F22 law_true T D_law_seen_any D_law_cell D_law_draws D_law_own_lines D_law_word D_law_spoilt_lines D_law_is_run D_law_is_told
end My
open PySem PySem.W PyProof.Rows in
set_option maxRecDepth 100000 in
set_option maxHeartbeats 0 in
theorem PySem.Challenge.cw_fromruns_k56_judged_derivations_holds : PySem.Challenge.rw_fromruns_k56_judged_derivations.Holds := by
  w_on; o_law; k_head; (case hw => w_witness2)
  k_fill
  refine L2.walk_of (l := PySem.Challenge.rw_fromruns_k56_judged_derivations) (n := 63) (k := 5) (x := "script") (CX := fun _ => L2.CX0) (sp := fun w => FR.SpD _ FR.C_law) rfl (by decide) rfl ⟨rfl, by decide, by decide⟩ (fun w h Y => PySem.W.kIn_of Y) ?F (fun _ _ a ns hl _ hS => FR.law_end hl hS fun _ => rfl) (fun _ _ _ _ _ h => h)
  case F =>
    intro w mg fa h KX G hmg
    refine' My.all_mk KX G hmg ?a0 ?l0 ?c0 ?k0 ?a1 ?l1 ?c1 ?k1 ?a2 ?l2 ?c2 ?k2 ?a3 ?l3 ?c3 ?k3 ?a4 ?l4 ?c4 ?k4 ?a5 ?l5 ?c5 ?k5 ?a6 ?l6 ?c6 ?k6 ?a7 ?l7 ?c7 ?k7 ?a8 ?l8 ?c8 ?k8 ?a9 ?l9 ?c9 ?k9 ?a10 ?l10 ?c10 ?k10 ?a11 ?l11 ?c11 ?k11 ?a12 ?l12 ?c12 ?k12 ?a13 ?l13 ?c13 ?k13 ?a14 ?l14 ?c14 ?k14 ?a15 ?l15 ?c15 ?k15 ?a16 ?l16 ?c16 ?k16 ?a17 ?l17 ?c17 ?k17 ?a18 ?l18 ?c18 ?k18 ?a19 ?l19 ?c19 ?k19 ?a20 ?l20 ?c20 ?k20 ?a21 ?l21 ?c21 ?k21 ?a22 ?l22 ?c22 ?k22 ?z_max ?z_len ?z_all ?z_range ?z_min ?z_abs ?z_int ?z_isinstance ?z_bool ?z_str ?z_sorted ?z_tuple ?z_list
    (case a0 => k_is)
    (case l0 => k_is)
    (case c0 => k_is)
    (case k0 => k_is)
    (case a1 => k_is)
    (case l1 => k_is)
    (case c1 => k_is)
    (case k1 => k_is)
    (case a2 => k_is)
    (case l2 => k_is)
    (case c2 => k_is)
    (case k2 => k_is)
    (case a3 => k_is)
    (case l3 => k_is)
    (case c3 => k_is)
    (case k3 => k_is)
    (case a4 => k_is)
    (case l4 => k_is)
    (case c4 => k_is)
    (case k4 => k_is)
    (case a5 => k_is)
    (case l5 => k_is)
    (case c5 => k_is)
    (case k5 => k_is)
    (case a6 => k_is)
    (case l6 => k_is)
    (case c6 => k_is)
    (case k6 => k_is)
    (case a7 => k_is)
    (case l7 => k_is)
    (case c7 => k_is)
    (case k7 => k_is)
    (case a8 => k_is)
    (case l8 => k_is)
    (case c8 => k_is)
    (case k8 => k_is)
    (case a9 => k_is)
    (case l9 => k_is)
    (case c9 => k_is)
    (case k9 => k_is)
    (case a10 => k_is)
    (case l10 => k_is)
    (case c10 => k_is)
    (case k10 => k_is)
    (case a11 => k_is)
    (case l11 => k_is)
    (case c11 => k_is)
    (case k11 => k_is)
    (case a12 => k_is)
    (case l12 => k_is)
    (case c12 => k_is)
    (case k12 => k_is)
    (case a13 => k_is)
    (case l13 => k_is)
    (case c13 => k_is)
    (case k13 => k_is)
    (case a14 => k_is)
    (case l14 => k_is)
    (case c14 => k_is)
    (case k14 => k_is)
    (case a15 => k_is)
    (case l15 => k_is)
    (case c15 => k_is)
    (case k15 => k_is)
    (case a16 => k_is)
    (case l16 => k_is)
    (case c16 => k_is)
    (case k16 => k_is)
    (case a17 => k_is)
    (case l17 => k_is)
    (case c17 => k_is)
    (case k17 => k_is)
    (case a18 => k_is)
    (case l18 => k_is)
    (case c18 => k_is)
    (case k18 => k_is)
    (case a19 => k_is)
    (case l19 => k_is)
    (case c19 => k_is)
    (case k19 => k_is)
    (case a20 => k_is)
    (case l20 => k_is)
    (case c20 => k_is)
    (case k20 => k_is)
    (case a21 => k_is)
    (case l21 => k_is)
    (case c21 => k_is)
    (case k21 => k_is)
    (case a22 => k_is)
    (case l22 => k_is)
    (case c22 => k_is)
    (case k22 => k_is)
    (case z_max => k_is)
    (case z_len => k_is)
    (case z_all => k_is)
    (case z_range => k_is)
    (case z_min => k_is)
    (case z_abs => k_is)
    (case z_int => k_is)
    (case z_isinstance => k_is)
    (case z_bool => k_is)
    (case z_str => k_is)
    (case z_sorted => k_is)
    (case z_tuple => k_is)
    (case z_list => k_is)
