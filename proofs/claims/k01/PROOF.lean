import PyProof.Rows.All
import Wide.All
import OpenK.AllK
import Wide.FinOn
import HandS.ForMost
import PyProof.Rows.StrRev
import HandS.IsInst
import HandS.Style
import PyProof.StrOps2
import HandS.SetFor
import HandS.SetTxt0
import HandS.SortKw
import KE.SortData
import KE.SortKeyHeap
import HandS.TupAny
import KE.DataCmp
import HandS.Star
import HandS.TryOnly
import HandS.TupMul
import HandS.SetKeys
import HandS.CallLocal
import HandS.Flow
import HandS.Iter
import HandS.StrMore
import KE.KUnpackStar
import HandS.TupSets
import PyProof.Transfer
import PySem.Challenge.RW_fromruns_k01_runs_in_order
set_option Elab.async false
set_option linter.all false
set_option maxRecDepth 100000
set_option maxHeartbeats 4000000
namespace FR
open PySem PySem.Spec PyProof.Rows L2

/-! ## what stays: all but the code objects' tables, which grow -/
structure Sm (H H' : Hp) : Prop where
  all : ∀ a u, H a = some u → (∀ ps, u ≠ .tbl ps) → H' a = some u
  tab : ∀ a ps, H a = some (.tbl ps) → ∃ qs, H' a = some (.tbl qs)
theorem tbl_or (u : HO) : (∃ ps, u = .tbl ps) ∨ ∀ ps, u ≠ .tbl ps := by
  cases u <;> first | exact .inl ⟨_, rfl⟩ | exact .inr (fun _ z => nomatch z)
theorem Sm.get {H H' : Hp} {a : Addr} {u : HO} (e : Sm H H') (h : H a = some u) (n : ∀ ps, u ≠ .tbl ps := by intro ps z; cases z) : H' a = some u := e.all a u h n
theorem Sm.ne {H H' : Hp} {a : Addr} (e : Sm H H') (h : H a ≠ none) : H' a ≠ none := by
  cases q : H a with
  | none => exact absurd q h
  | some u =>
    rcases tbl_or u with ⟨ps, rfl⟩ | n
    · obtain ⟨qs, z⟩ := e.tab a ps q
      rw [z]; exact fun y => nomatch y
    · rw [e.all a u q n]; exact fun y => nomatch y
theorem Sm.free {H H' : Hp} {a : Addr} (e : Sm H H') (h : H' a = none) : H a = none := by
  cases q : H a with
  | none => rfl
  | some u => exact absurd h (e.ne (by rw [q]; exact fun y => nomatch y))
theorem Sm.refl (H : Hp) : Sm H H := ⟨fun _ _ h _ => h, fun _ ps h => ⟨ps, h⟩⟩
theorem Sm.trans {H H1 H2 : Hp} (a : Sm H H1) (b : Sm H1 H2) : Sm H H2 := ⟨fun c o h n => b.all c o (a.all c o h n) n, fun c ps h => let ⟨qs, z⟩ := a.tab c ps h; b.tab c qs z⟩
theorem Sm.of {H H' : Hp} (h : ∀ a u, H a = some u → H' a = some u) : Sm H H' := ⟨fun a u q _ => h a u q, fun a ps q => ⟨ps, h a _ q⟩⟩
/-- a growth by any step that keeps what is looked at -/
theorem Sm.by {F F' H H' : Hp} (e : Sm H H') (p : Addr → Prop) (h1 : ∀ a, F a ≠ none → p a) (h2 : ∀ a, p a → F a ≠ none → H a = F a) (h3 : ∀ a, p a → F' a = H' a) : Sm F F' :=
  ⟨fun a u q n => by
    have q1 : F a ≠ none := by rw [q]; exact fun y => nomatch y
    have q2 := h1 a q1
    rw [h3 a q2]; exact e.all a u ((h2 a q2 q1).trans q) n, fun a ps q => by
    have q1 : F a ≠ none := by rw [q]; exact fun y => nomatch y
    have q2 := h1 a q1
    rw [h3 a q2]; exact e.tab a ps ((h2 a q2 q1).trans q)⟩
theorem Sm.seq {K : PySem.W.Frag} {H H' : Hp} {a : Addr} {xs : List V} (e : Sm H H') (h : SqL K H a xs) : SqL K H' a xs := by
  rcases h with (z | ⟨o, z⟩) | z
  · exact .inl (.inl (e.get z))
  · exact .inl (.inr ⟨o, e.get z⟩)
  · exact .inr z
theorem seqT_mono {K : PySem.W.Frag} {H H' : Hp} {a : Addr} {xs : List V} (e : Sm H H') (h : SqT K H a xs) : SqT K H' a xs := by
  rcases h with (z | ⟨o, z⟩) | z
  · exact .inl (.inl (e.get z))
  · exact .inl (.inr ⟨o, e.get z⟩)
  · exact .inr z
theorem Sm.rd {H H' : Hp} {a : Addr} {u : HO} (e : Sm H H') (h : Rd H a u) (n : ∀ ps, u ≠ .tbl ps := by intro ps z; cases z) : Rd H' a u := by
  rcases h with z | ⟨o, z⟩
  · exact .inl (e.get z n)
  · exact .inr ⟨o, e.get z⟩

theorem Sm.updH {F H : Hp} {p : Addr} {o : HO} (e : Sm F H) (h : F p = none) : Sm F (upd H p o) := ⟨fun b u z n => by
  rw [upd_ne fun y => by rw [y, h] at z; cases z]; exact e.all b u z n, fun b ps z => by
  rw [upd_ne fun y => by rw [y, h] at z; cases z]; exact e.tab b ps z⟩
theorem Sm.updF {F H : Hp} {p : Addr} {o : HO} (e : Sm F H) (h : H p = some o) : Sm (upd F p o) H := ⟨fun b u z n => by
  by_cases e1 : b = p
  · subst e1; rw [upd_same] at z; cases z; exact h
  · rw [upd_ne e1] at z; exact e.all b u z n, fun b ps z => by
  by_cases e1 : b = p
  · subst e1; rw [upd_same] at z; cases z; exact ⟨_, h⟩
  · rw [upd_ne e1] at z; exact e.tab b ps z⟩

/-! ## growing heaps: F the frame (what is fixed), H all -/
structure Gro (F H F' H' : Hp) : Prop where
  f : Sm F F'
  h : Sm H H'
  fr : Sm F' H'
  sep : ∀ a, H a ≠ none → F a = none → F' a = none
theorem Gro.refl {F H : Hp} (fr : Sm F H) : Gro F H F H := ⟨Sm.refl F, Sm.refl H, fr, fun _ _ h => h⟩
theorem Gro.trans {F H F1 H1 F2 H2 : Hp} (a : Gro F H F1 H1) (b : Gro F1 H1 F2 H2) : Gro F H F2 H2 :=
  ⟨a.f.trans b.f, a.h.trans b.h, b.fr, fun x hx fx => b.sep x (a.h.ne hx) (a.sep x hx fx)⟩
theorem same_new {H : Hp} {p : Addr} {o : HO} (h : H p = none) : Sm H (upd H p o) := .of fun a u e => by
  rw [upd_ne (ne_of_none e h)]
  exact e
theorem Gro.new {F H : Hp} (fr : Sm F H) {p : Addr} {o : HO} (h : H p = none) : Gro F H (upd F p o) (upd H p o) := by
  refine ⟨same_new (fr.free h), same_new h, (fr.trans (same_new h)).updF upd_same, fun a ha fa => ?_⟩
  have e1 : a ≠ p := fun z => ha (z ▸ h)
  rw [upd_ne e1]; exact fa
/-- a new object of one's own -/
theorem Gro.own {F H : Hp} (fr : Sm F H) {p : Addr} {o : HO} (h : H p = none) : Gro F H F (upd H p o) :=
  ⟨Sm.refl F, same_new h, fr.trans (same_new h), fun _ _ z => z⟩

/-! ## data -/
/-- the written part, and the world (it tells the texts' hashes) -/
structure KW where
  f : PySem.W.Frag
  w : World
instance : CoeOut KW PySem.W.Frag := ⟨KW.f⟩
abbrev _root_.L2.Cx.kw (X : Cx) : KW := ⟨X.K, X.w⟩
def keyD : Key → PyData
  | .inl i => .int i
  | .inr x => .str x
/-! keys that are tuples of ints, texts, such tuples; their hashes -/
mutual
def hashD (w : World) : PyData → Int
  | .int i => keyH w (.inl i)
  | .str x => keyH w (.inr x)
  | .tuple xs => reduceHash (Builtin.Tuple.tupleHashOf (hashDs w xs))
  | _ => 0
def hashDs (w : World) : List PyData → List Int
  | [] => []
  | x :: xs => hashD w x :: hashDs w xs
end
mutual
def hbl : Nat → PyData → Bool
  | _, .int _ => true
  | _, .str _ => true
  | n + 1, .tuple xs => hbls n xs
  | _, _ => false
def hbls : Nat → List PyData → Bool
  | _, [] => true
  | n, x :: xs => hbl n x && hbls n xs
end
def keyT : PyData → Bool
  | .tuple xs => hbls 4 xs
  | _ => false
/-- a dict with such keys: the keys, their places, the values -/
def RawT (w : World) (a : Addr) (us : List (PyData × Addr × V)) : HO := .ext fun h => (∃ o es ep, h.get? a = some o ∧ o.ExactDict ∧ o.data = .dict es ep ∧ Paired (fun (u : PyData × Addr × V) (e : DictEntry) => e.hash = hashD w u.1 ∧ e.key = .ref u.2.1 ∧ RelV u.2.2 e.val) us es.toList) ∧
  (us.map (·.1)).Nodup ∧ us.length ≤ sizeLine ∧ (a == sysModules) = false ∧ ∀ u ∈ us, keyT u.1 = true
theorem rawT_tbl {w : World} {a : Addr} {us : List (PyData × Addr × V)} : ∀ ps, RawT w a us ≠ .tbl ps := fun ps z => by unfold RawT at z; cases z
theorem rawT_tup {w : World} {a : Addr} {us : List (PyData × Addr × V)} : ∀ ps, RawT w a us ≠ .tup ps := fun ps z => by unfold RawT at z; cases z
theorem rawT_frz {w : World} {a : Addr} {us : List (PyData × Addr × V)} : ∀ o u, RawT w a us ≠ .frz o u := fun o u z => by unfold RawT at z; cases z
/-- .. as data: marked by its first key -/
def dictT (kvs : List (PyData × PyData)) : PyData := .dict ((.none, .bool true) :: kvs)
/-- an instance of the class at C, as data: a dict marked by its first key -/
def insD (C : Addr) (fs : List (Str × PyData)) : PyData := .dict ((.none, .int C) :: fs.map fun p => (.str p.1, p.2))
/-- a def of the program as data -/
def fnD (a : Addr) : PyData := .dict [(.bool true, .int a)]
mutual
inductive Dp (K : KW) (H : Hp) : V → PyData → Prop
  | fn (a : Addr) : Dp K H (.ref a) (fnD a)
  | non : Dp K H .non .none
  | bl (b : Bool) : Dp K H (.bl b) (.bool b)
  | int (i : Int) : Dp K H (.int i) (.int i)
  | str (x : Str) : Dp K H (.str x) (.str x)
  | lst {a : Addr} {xs : List V} {ds : List PyData} : SqL K H a xs → DpAll K H xs ds → Dp K H (.ref a) (.list ds)
  | tup {a : Addr} {xs : List V} {ds : List PyData} : SqT K H a xs → DpAll K H xs ds → Dp K H (.ref a) (.tuple ds)
  | dk {a : Addr} {us : List (Key × V)} {kvs : List (PyData × PyData)} : Rd H a (.dK us) → us.map (fun p => keyD p.1) = kvs.map Prod.fst → DpAll K H (us.map Prod.snd) (kvs.map Prod.snd) → Dp K H (.ref a) (.dict kvs)
  | dt {a : Addr} {us : List (PyData × Addr × V)} {kvs : List (PyData × PyData)} : Rd H a (RawT K.w a us) → us.map (·.1) = kvs.map Prod.fst → DpAll K H (us.map fun u => .ref u.2.1) (us.map (·.1)) → DpAll K H (us.map (·.2.2)) (kvs.map Prod.snd) → Dp K H (.ref a) (dictT kvs)
  | ins {a C dx : Addr} {us : List (Str × V)} {fs : List (Str × PyData)} : H a = some (.ins C dx us) → us.map Prod.fst = fs.map Prod.fst → DpAll K H (us.map Prod.snd) (fs.map Prod.snd) → Dp K H (.ref a) (insD C fs)
inductive DpAll (K : KW) (H : Hp) : List V → List PyData → Prop
  | nil : DpAll K H [] []
  | cons {v : V} {vs : List V} {d : PyData} {ds : List PyData} : Dp K H v d → DpAll K H vs ds → DpAll K H (v :: vs) (d :: ds)
end
mutual
/-- data without dicts are the library's data -/
theorem Dp.lib {K : KW} {H : Hp} : ∀ {v : V} {d : PyData}, Dp K H v d → d.hasDict = false → L2.Dp K H v d
  | _, _, .fn a, n => by simp [fnD, PyData.hasDict] at n
  | _, _, .non, _ => .non
  | _, _, .bl b, _ => .bl b
  | _, _, .int i, _ => .int i
  | _, _, .str x, _ => .str x
  | _, _, .lst h t, n => .lst h (t.lib (by simpa [PyData.hasDict] using n))
  | _, _, .tup h t, n => .tup h (t.lib (by simpa [PyData.hasDict] using n))
  | _, _, .dk _ _ _, n => by simp [PyData.hasDict] at n
  | _, _, .dt _ _ _ _, n => by simp [dictT, PyData.hasDict] at n
  | _, _, .ins _ _ _, n => by simp [insD, PyData.hasDict] at n
theorem DpAll.lib {K : KW} {H : Hp} : ∀ {vs : List V} {ds : List PyData}, DpAll K H vs ds → PyData.hasDictAll ds = false → L2.DpAll K H vs ds
  | _, _, .nil, _ => .nil
  | _, _, .cons h t, n => by
    have n' : (PyData.hasDict _ || PyData.hasDictAll _) = false := n
    rw [Bool.or_eq_false_iff] at n'
    exact .cons (h.lib n'.1) (t.lib n'.2)
end
mutual
theorem dp_mono {K : KW} {H H' : Hp} (e : Sm H H') : ∀ {v : V} {d : PyData}, Dp K H v d → Dp K H' v d
  | _, _, .fn a => .fn a
  | _, _, .non => .non
  | _, _, .bl b => .bl b
  | _, _, .int i => .int i
  | _, _, .str x => .str x
  | _, _, .lst h hs => .lst (e.seq h) (dpAll_mono e hs)
  | _, _, .tup h hs => .tup (seqT_mono e h) (dpAll_mono e hs)
  | _, _, .dk h k hs => .dk (e.rd h) k (dpAll_mono e hs)
  | _, _, .dt h k ks hs => .dt (e.rd h rawT_tbl) k (dpAll_mono e ks) (dpAll_mono e hs)
  | _, _, .ins h k hs => .ins (e.get h) k (dpAll_mono e hs)
theorem dpAll_mono {K : KW} {H H' : Hp} (e : Sm H H') : ∀ {vs : List V} {ds : List PyData}, DpAll K H vs ds → DpAll K H' vs ds
  | _, _, .nil => .nil
  | _, _, .cons h t => .cons (dp_mono e h) (dpAll_mono e t)
end
theorem dpAll_len {K : KW} {H : Hp} : ∀ {vs : List V} {ds : List PyData}, DpAll K H vs ds → vs.length = ds.length
  | _, _, .nil => rfl
  | _, _, .cons _ t => congrArg (· + 1) (dpAll_len t)
theorem dpAll_get {K : KW} {H : Hp} : ∀ {vs : List V} {ds : List PyData} {i : Nat} {d : PyData}, DpAll K H vs ds → ds[i]? = some d → ∃ v, vs[i]? = some v ∧ Dp K H v d
  | _, _, _, _, .nil, e => by simp at e
  | _, _, 0, _, .cons h _, e => by simp at e; subst e; exact ⟨_, rfl, h⟩
  | _, _, i + 1, _, .cons _ t, e => by
    obtain ⟨v, h1, h2⟩ := dpAll_get (i := i) t (by simpa using e)
    exact ⟨v, by simpa using h1, h2⟩
theorem dpAll_getV {K : KW} {H : Hp} : ∀ {vs : List V} {ds : List PyData} {i : Nat} {v : V}, DpAll K H vs ds → vs[i]? = some v → ∃ d, ds[i]? = some d ∧ Dp K H v d
  | _, _, _, _, .nil, e => by simp at e
  | _, _, 0, _, .cons h _, e => by simp at e; subst e; exact ⟨_, rfl, h⟩
  | _, _, i + 1, _, .cons _ t, e => by
    obtain ⟨v, h1, h2⟩ := dpAll_getV (i := i) t (by simpa using e)
    exact ⟨v, by simpa using h1, h2⟩
theorem dpAll_append {K : KW} {H : Hp} : ∀ {vs ws : List V} {ds es : List PyData}, DpAll K H vs ds → DpAll K H ws es → DpAll K H (vs ++ ws) (ds ++ es)
  | _, _, _, _, .nil, b => b
  | _, _, _, _, .cons h t, b => .cons h (dpAll_append t b)
theorem dpAll_set {K : KW} {H : Hp} {v : V} {d : PyData} (h : Dp K H v d) : ∀ {vs : List V} {ds : List PyData} {i : Nat}, DpAll K H vs ds → DpAll K H (vs.set i v) (ds.set i d)
  | _, _, _, .nil => .nil
  | _, _, 0, .cons _ t => .cons h t
  | _, _, i + 1, .cons a t => .cons a (dpAll_set h t)
theorem dpAll_take {K : KW} {H : Hp} : ∀ {vs : List V} {ds : List PyData} (n : Nat), DpAll K H vs ds → DpAll K H (vs.take n) (ds.take n)
  | _, _, 0, _ => by simp; exact .nil
  | _, _, _ + 1, .nil => .nil
  | _, _, n + 1, .cons a t => .cons a (dpAll_take n t)
theorem dpAll_drop {K : KW} {H : Hp} : ∀ {vs : List V} {ds : List PyData} (n : Nat), DpAll K H vs ds → DpAll K H (vs.drop n) (ds.drop n)
  | _, _, 0, t => t
  | _, _, _ + 1, .nil => .nil
  | _, _, n + 1, .cons _ t => dpAll_drop n t
theorem dpAll_ints {K : KW} {H : Hp} : ∀ {vs : List V} {ns : List Int}, DpAll K H vs (ns.map .int) → vs = ns.map V.int
  | _, [], .nil => rfl
  | _, _ :: _, .cons (.int _) t => congrArg _ (dpAll_ints t)
theorem dpAll_strs {K : KW} {H : Hp} : ∀ {vs : List V} {ns : List Str}, DpAll K H vs (ns.map .str) → vs = ns.map V.str
  | _, [], .nil => rfl
  | _, _ :: _, .cons (.str _) t => congrArg _ (dpAll_strs t)
theorem dpAll_bls {K : KW} {H : Hp} : ∀ {vs : List V} {ns : List Bool}, DpAll K H vs (ns.map .bool) → vs = ns.map V.bl
  | _, [], .nil => rfl
  | _, _ :: _, .cons (.bl _) t => congrArg _ (dpAll_bls t)
theorem dpAll_ofInts {K : KW} {H : Hp} : ∀ (ns : List Int), DpAll K H (ns.map V.int) (ns.map .int)
  | [] => .nil
  | _ :: r => .cons (.int _) (dpAll_ofInts r)
theorem dpAll_ofStrs {K : KW} {H : Hp} : ∀ (ns : List Str), DpAll K H (ns.map V.str) (ns.map .str)
  | [] => .nil
  | _ :: r => .cons (.str _) (dpAll_ofStrs r)


theorem dpL {K : KW} {F H : Hp} {v : V} {d : PyData} (e : Sm F H) (h : Dp K F v d) (s : SeqAt.shaped d = true) : L2.Dp K H v d := (dp_mono e h).lib (PyData.hasDict_of_canLay d (SeqAt.canLay_of_shaped s))
theorem dI {K : KW} {F : Hp} {v : V} {i : Int} (h : Dp K F v (.int i)) : v = .int i := by cases h; rfl
theorem dS {K : KW} {F : Hp} {v : V} {i : Str} (h : Dp K F v (.str i)) : v = .str i := by cases h; rfl
theorem dB {K : KW} {F : Hp} {v : V} {i : Bool} (h : Dp K F v (.bool i)) : v = .bl i := by cases h; rfl
theorem dN {K : KW} {F : Hp} {v : V} (h : Dp K F v .none) : v = .non := by cases h; rfl
theorem dL {K : KW} {F : Hp} {v : V} {xs : List PyData} (h : Dp K F v (.list xs)) : ∃ a vs, v = .ref a ∧ SqL K F a vs ∧ DpAll K F vs xs := by cases h with | lst h t => exact ⟨_, _, rfl, h, t⟩
theorem dT {K : KW} {F : Hp} {v : V} {xs : List PyData} (h : Dp K F v (.tuple xs)) : ∃ a vs, v = .ref a ∧ SqT K F a vs ∧ DpAll K F vs xs := by cases h with | tup h t => exact ⟨_, _, rfl, h, t⟩

/-! ## things of one's own: trees of lists, dicts, instances; at the leaves data that are fixed -/
inductive DV where
  | d (x : PyData)
  | l (ts : List DV)
  | k (kvs : List (PyData × DV))
  | t (kvs : List (PyData × DV))
  | i (C : Addr) (fs : List (Str × DV))
  /-- the tree z, which is the value x -/
  | v (x : V) (z : DV)
mutual
def DV.toD : DV → PyData
  | .d x => x
  | .l ts => .list (DV.toDs ts)
  | .k kvs => .dict (DV.toKs kvs)
  | .t kvs => dictT (DV.toKs kvs)
  | .i C fs => insD C (DV.toFs fs)
  | .v _ z => z.toD
def DV.toDs : List DV → List PyData
  | [] => []
  | z :: zs => z.toD :: DV.toDs zs
def DV.toKs : List (PyData × DV) → List (PyData × PyData)
  | [] => []
  | (y, z) :: zs => (y, z.toD) :: DV.toKs zs
def DV.toFs : List (Str × DV) → List (Str × PyData)
  | [] => []
  | (y, z) :: zs => (y, z.toD) :: DV.toFs zs
end
theorem toDs_eq : ∀ ts : List DV, DV.toDs ts = ts.map DV.toD
  | [] => rfl
  | z :: zs => by simp only [DV.toDs, List.map_cons, toDs_eq zs]
theorem toKs_fst : ∀ ts : List (PyData × DV), (DV.toKs ts).map Prod.fst = ts.map Prod.fst
  | [] => rfl
  | (y, z) :: zs => by simp only [DV.toKs, List.map_cons, toKs_fst zs]
theorem toKs_snd : ∀ ts : List (PyData × DV), (DV.toKs ts).map Prod.snd = DV.toDs (ts.map Prod.snd)
  | [] => rfl
  | (y, z) :: zs => by simp only [DV.toKs, List.map_cons, DV.toDs, toKs_snd zs]
theorem toFs_fst : ∀ ts : List (Str × DV), (DV.toFs ts).map Prod.fst = ts.map Prod.fst
  | [] => rfl
  | (y, z) :: zs => by simp only [DV.toFs, List.map_cons, toFs_fst zs]
theorem toFs_snd : ∀ ts : List (Str × DV), (DV.toFs ts).map Prod.snd = DV.toDs (ts.map Prod.snd)
  | [] => rfl
  | (y, z) :: zs => by simp only [DV.toFs, List.map_cons, DV.toDs, toFs_snd zs]
mutual
/-- the value v is the tree t; its lists, dicts, instances stand in G at fp, its leaves in F -/
inductive Ow (K : KW) (F G : Hp) : V → DV → List Addr → Prop
  | d {v : V} {x : PyData} : Dp K F v x → Ow K F G v (.d x) []
  | l {a : Addr} {vs : List V} {ts : List DV} {fp : List Addr} : G a = some (.lst vs) → OwAll K F G vs ts fp → a ∉ fp → Ow K F G (.ref a) (.l ts) (a :: fp)
  | dk {a : Addr} {us : List (Key × V)} {kvs : List (PyData × DV)} {fp : List Addr} : G a = some (.dK us) → us.map (fun p => keyD p.1) = kvs.map Prod.fst → (us.map Prod.fst).Nodup → OwAll K F G (us.map Prod.snd) (kvs.map Prod.snd) fp → a ∉ fp → Ow K F G (.ref a) (.k kvs) (a :: fp)
  | dt {a : Addr} {us : List (PyData × Addr × V)} {kvs : List (PyData × DV)} {fp : List Addr} : G a = some (RawT K.w a us) → us.map (·.1) = kvs.map Prod.fst → DpAll K F (us.map fun u => .ref u.2.1) (us.map (·.1)) → OwAll K F G (us.map (·.2.2)) (kvs.map Prod.snd) fp → a ∉ fp → Ow K F G (.ref a) (.t kvs) (a :: fp)
  | i {a C dx : Addr} {us : List (Str × V)} {fs : List (Str × DV)} {fp : List Addr} : G a = some (.ins C dx us) → G dx = some (.own a) → us.map Prod.fst = fs.map Prod.fst → OwAll K F G (us.map Prod.snd) (fs.map Prod.snd) fp → a ∉ fp → dx ∉ fp → Ow K F G (.ref a) (.i C fs) (a :: dx :: fp)
  | v {x : V} {z : DV} {fp : List Addr} : Ow K F G x z fp → Ow K F G x (.v x z) fp
inductive OwAll (K : KW) (F G : Hp) : List V → List DV → List Addr → Prop
  | nil : OwAll K F G [] [] []
  | cons {v : V} {vs : List V} {t : DV} {ts : List DV} {f1 f2 : List Addr} : Ow K F G v t f1 → OwAll K F G vs ts f2 → (∀ a ∈ f1, a ∉ f2) → OwAll K F G (v :: vs) (t :: ts) (f1 ++ f2)
end
mutual
/-- a tree stays where the frame grows and its own places are kept -/
theorem Ow.keep {K : KW} {F F' G G' : Hp} (e : Sm F F') : ∀ {v : V} {t : DV} {fp : List Addr}, Ow K F G v t fp → (∀ a ∈ fp, G' a = G a) → Ow K F' G' v t fp
  | _, _, _, .d h, _ => .d (dp_mono e h)
  | _, _, _, .l h t n, k => .l (by rw [k _ List.mem_cons_self]; exact h) (t.keep e fun a q => k a (List.mem_cons_of_mem _ q)) n
  | _, _, _, .dk h x y t n, k => .dk (by rw [k _ List.mem_cons_self]; exact h) x y (t.keep e fun a q => k a (List.mem_cons_of_mem _ q)) n
  | _, _, _, .dt h x ks t n, k => .dt (by rw [k _ List.mem_cons_self]; exact h) x (dpAll_mono e ks) (t.keep e fun a q => k a (List.mem_cons_of_mem _ q)) n
  | _, _, _, .i h h' x t n n', k => .i (by rw [k _ List.mem_cons_self]; exact h) (by rw [k _ (List.mem_cons_of_mem _ List.mem_cons_self)]; exact h') x (t.keep e fun a q => k a (List.mem_cons_of_mem _ (List.mem_cons_of_mem _ q))) n n'
  | _, _, _, .v h, k => .v (h.keep e k)
theorem OwAll.keep {K : KW} {F F' G G' : Hp} (e : Sm F F') : ∀ {vs : List V} {ts : List DV} {fp : List Addr}, OwAll K F G vs ts fp → (∀ a ∈ fp, G' a = G a) → OwAll K F' G' vs ts fp
  | _, _, _, .nil, _ => .nil
  | _, _, _, .cons h t n, k => .cons (h.keep e fun a q => k a (List.mem_append_left _ q)) (t.keep e fun a q => k a (List.mem_append_right _ q)) n
end
mutual
/-- what stands at an own place is no table -/
theorem Ow.at {K : KW} {F G : Hp} : ∀ {v : V} {t : DV} {fp : List Addr}, Ow K F G v t fp → ∀ a ∈ fp, ∃ u, G a = some u ∧ (∀ ps, u ≠ .tbl ps) ∧ (∀ xs, u ≠ .tup xs)
  | _, _, _, .d _, _, h => nomatch h
  | _, _, _, .l h t n, a, q => by
    rcases List.mem_cons.mp q with rfl | q
    · exact ⟨_, h, (fun _ z => nomatch z), (fun _ z => nomatch z)⟩
    · exact t.at a q
  | _, _, _, .dk h x _ t n, a, q => by
    rcases List.mem_cons.mp q with rfl | q
    · exact ⟨_, h, (fun _ z => nomatch z), (fun _ z => nomatch z)⟩
    · exact t.at a q
  | _, _, _, .dt h x ks t n, a, q => by
    rcases List.mem_cons.mp q with rfl | q
    · exact ⟨_, h, rawT_tbl, rawT_tup⟩
    · exact t.at a q
  | _, _, _, .i h h' x t n n', a, q => by
    rcases List.mem_cons.mp q with rfl | q
    · exact ⟨_, h, (fun _ z => nomatch z), (fun _ z => nomatch z)⟩
    · rcases List.mem_cons.mp q with rfl | q
      · exact ⟨_, h', (fun _ z => nomatch z), (fun _ z => nomatch z)⟩
      · exact t.at a q
  | _, _, _, .v h, a, q => h.at a q
theorem OwAll.at {K : KW} {F G : Hp} : ∀ {vs : List V} {ts : List DV} {fp : List Addr}, OwAll K F G vs ts fp → ∀ a ∈ fp, ∃ u, G a = some u ∧ (∀ ps, u ≠ .tbl ps) ∧ (∀ xs, u ≠ .tup xs)
  | _, _, _, .nil, _, h => nomatch h
  | _, _, _, .cons h t n, a, q => by
    rcases List.mem_append.mp q with q | q
    · exact h.at a q
    · exact t.at a q
end
mutual
/-- frozen: a tree whose own places stand in the frame is data -/
theorem Ow.data {K : KW} {F G F' : Hp} (e : Sm F F') : ∀ {v : V} {t : DV} {fp : List Addr}, Ow K F G v t fp → (∀ a ∈ fp, F' a = G a) → Dp K F' v t.toD
  | _, _, _, .d h, _ => dp_mono e h
  | _, _, _, .l h t n, k => .lst (.inl (.inl (by rw [k _ List.mem_cons_self]; exact h))) (t.data e fun a q => k a (List.mem_cons_of_mem _ q))
  | _, .k kvs, _, .dk h x _ t n, k => .dk (.inl (by rw [k _ List.mem_cons_self]; exact h)) (by rw [toKs_fst]; exact x) (by rw [toKs_snd]; exact t.data e fun a q => k a (List.mem_cons_of_mem _ q))
  | _, .t kvs, _, .dt h x ks t n, k => .dt (.inl (by rw [k _ List.mem_cons_self]; exact h)) (by rw [toKs_fst]; exact x) (dpAll_mono e ks) (by rw [toKs_snd]; exact t.data e fun a q => k a (List.mem_cons_of_mem _ q))
  | _, .i C fs, _, .i h h' x t n n', k => .ins (by rw [k _ List.mem_cons_self]; exact h) (by rw [toFs_fst]; exact x) (by rw [toFs_snd]; exact t.data e fun a q => k a (List.mem_cons_of_mem _ (List.mem_cons_of_mem _ q)))
  | _, .v _ z, _, .v h, k => h.data e k
theorem OwAll.data {K : KW} {F G F' : Hp} (e : Sm F F') : ∀ {vs : List V} {ts : List DV} {fp : List Addr}, OwAll K F G vs ts fp → (∀ a ∈ fp, F' a = G a) → DpAll K F' vs (DV.toDs ts)
  | _, _, _, .nil, _ => .nil
  | _, _, _, .cons h t n, k => .cons (h.data e fun a q => k a (List.mem_append_left _ q)) (t.data e fun a q => k a (List.mem_append_right _ q))
end
theorem OwAll.len {K : KW} {F G : Hp} : ∀ {vs : List V} {ts : List DV} {fp : List Addr}, OwAll K F G vs ts fp → vs.length = ts.length
  | _, _, _, .nil => rfl
  | _, _, _, .cons _ t _ => congrArg (· + 1) t.len
/-- leaves alone -/
theorem owAll_ds {K : KW} {F G : Hp} : ∀ {vs : List V} {ds : List PyData}, DpAll K F vs ds → OwAll K F G vs (ds.map .d) []
  | _, _, .nil => .nil
  | _, _, .cons h t => .cons (f1 := []) (f2 := []) (.d h) (owAll_ds t) fun _ z => nomatch z
theorem ds_owAll {K : KW} {F G : Hp} : ∀ {vs : List V} {ds : List PyData} {fp : List Addr}, OwAll K F G vs (ds.map .d) fp → DpAll K F vs ds ∧ fp = []
  | _, [], _, .nil => ⟨.nil, rfl⟩
  | _, _ :: _, _, .cons (.d h) t _ => ⟨.cons h (ds_owAll t).1, (ds_owAll t).2⟩

/-! ## what a slot holds -/
inductive AV where
  /-- data that stay -/
  | d (x : PyData)
  /-- a list of one's own, its items data that stay -/
  | l (xs : List PyData)
  /-- a tree of one's own -/
  | o (t : DV)
  /-- any thing of which something holds that stays -/
  | p (φ : Hp → V → Prop) (hφ : ∀ H H' v, Sm H H' → φ H v → φ H' v)
def AV.owned : AV → Bool
  | .l _ => true
  | .o _ => true
  | _ => false
abbrev AEnv := List (Option AV)
/-- what v is; fp: the places that are its own -/
def AvF (K : KW) (F H : Hp) (v : V) : AV → List Addr → Prop
  | .d x, fp => Dp K F v x ∧ fp = []
  | .l xs, fp => ∃ a vs, v = .ref a ∧ H a = some (.lst vs) ∧ DpAll K F vs xs ∧ fp = [a]
  | .o t, fp => Ow K F H v t fp
  | .p φ _, fp => φ F v ∧ fp = []
def AvOk (K : KW) (F H : Hp) (v : V) : AV → Prop
  | .d x => Dp K F v x
  | .l xs => ∃ a vs, v = .ref a ∧ H a = some (.lst vs) ∧ DpAll K F vs xs
  | .o t => ∃ fp, Ow K F H v t fp
  | .p φ _ => φ F v
theorem AvF.ok {K : KW} {F H : Hp} {v : V} : ∀ {av : AV} {fp : List Addr}, AvF K F H v av fp → AvOk K F H v av
  | .d _, _, h => h.1
  | .l _, _, ⟨a, vs, e, h, t, _⟩ => ⟨a, vs, e, h, t⟩
  | .o _, _, h => ⟨_, h⟩
  | .p _ _, _, h => h.1
theorem AvF.none {K : KW} {F H : Hp} {v : V} : ∀ {av : AV} {fp : List Addr}, AvF K F H v av fp → av.owned = false → fp = []
  | .d _, _, h, _ => h.2
  | .p _ _, _, h, _ => h.2
theorem AvF.keep {K : KW} {F F' H H' : Hp} {v : V} (e : Sm F F') : ∀ {av : AV} {fp : List Addr}, AvF K F H v av fp → (∀ a ∈ fp, H' a = H a) → AvF K F' H' v av fp
  | .d _, _, h, _ => ⟨dp_mono e h.1, h.2⟩
  | .l _, _, ⟨a, vs, e1, h, t, e2⟩, k => ⟨a, vs, e1, by rw [k a (by rw [e2]; exact List.mem_cons_self)]; exact h, dpAll_mono e t, e2⟩
  | .o _, _, h, k => Ow.keep e h k
  | .p _ hφ, _, h, _ => ⟨hφ _ _ _ e h.1, h.2⟩
theorem AvF.at {K : KW} {F H : Hp} {v : V} : ∀ {av : AV} {fp : List Addr}, AvF K F H v av fp → ∀ a ∈ fp, ∃ u, H a = some u ∧ (∀ ps, u ≠ .tbl ps) ∧ (∀ xs, u ≠ .tup xs)
  | .d _, _, h, _, q => by rw [h.2] at q; cases q
  | .l _, _, ⟨a, vs, e1, h, t, e2⟩, b, q => by
    rw [e2] at q
    rw [List.mem_singleton.mp q]
    exact ⟨_, h, (fun _ z => nomatch z), (fun _ z => nomatch z)⟩
  | .o _, _, h, b, q => Ow.at h b q
  | .p _ _, _, h, _, q => by rw [h.2] at q; cases q

structure EnvP (K : KW) (F0 H0 F : Hp) (σ : L2.St) (H : Hp) (env : AEnv) (fp : Nat → List Addr) : Prop where
  gro : Gro F0 H0 F H
  len : σ.length = env.length
  slot : ∀ (i : Nat) (av : AV), env[i]? = some (some av) → ∃ v : V, σ[i]? = some (some v) ∧ AvF K F H v av (fp i)
  mine : ∀ (i : Nat) (a : Addr), a ∈ fp i → H0 a = none ∧ F a = none ∧ H a ≠ none
  apart : ∀ (i j : Nat) (a : Addr), a ∈ fp i → a ∈ fp j → i = j
def EnvAt (K : KW) (F0 H0 F : Hp) (σ : L2.St) (H : Hp) (env : AEnv) : Prop := ∃ fp, EnvP K F0 H0 F σ H env fp
section
variable {K : KW} {F0 H0 F F' : Hp} {σ : L2.St} {H H' : Hp} {env : AEnv} {fp : Nat → List Addr}
theorem EnvAt.gro (e : EnvAt K F0 H0 F σ H env) : Gro F0 H0 F H := let ⟨_, h⟩ := e; h.gro
theorem EnvAt.len (e : EnvAt K F0 H0 F σ H env) : σ.length = env.length := let ⟨_, h⟩ := e; h.len
theorem EnvAt.slot (e : EnvAt K F0 H0 F σ H env) : ∀ (i : Nat) (av : AV), env[i]? = some (some av) → ∃ v : V, σ[i]? = some (some v) ∧ AvOk K F H v av := fun i av q =>
  let ⟨_, h⟩ := e; let ⟨v, a, b⟩ := h.slot i av q; ⟨v, a, b.ok⟩
theorem EnvAt.fr (E : EnvAt K F0 H0 F σ H env) : Sm F H := E.gro.fr
theorem EnvAt.rfl' (E : EnvAt K F0 H0 F σ H env) : Gro F H F H := Gro.refl E.fr
theorem EnvP.fr (E : EnvP K F0 H0 F σ H env fp) : Sm F H := E.gro.fr
/-- the places of a slot are kept by a growth -/
theorem EnvP.kept (e : EnvP K F0 H0 F σ H env fp) {i : Nat} {av : AV} {v : V} (h : AvF K F H v av (fp i)) (g : Gro F H F' H') : ∀ a ∈ fp i, H' a = H a := fun a q => by
  obtain ⟨u, e1, n, _⟩ := h.at a q
  rw [e1]; exact g.h.get e1 n
theorem EnvP.grow (e : EnvP K F0 H0 F σ H env fp) (g : Gro F H F' H') : EnvP K F0 H0 F' σ H' env fp where
  gro := e.gro.trans g
  len := e.len
  slot := fun i av h => let ⟨v, a, b⟩ := e.slot i av h; ⟨v, a, b.keep g.f (e.kept b g)⟩
  mine := fun i a h => by
    obtain ⟨z1, z2, z3⟩ := e.mine i a h
    exact ⟨z1, g.sep a z3 z2, g.h.ne z3⟩
  apart := e.apart
theorem EnvAt.grow (e : EnvAt K F0 H0 F σ H env) (g : Gro F H F' H') : EnvAt K F0 H0 F' σ H' env := let ⟨fp, h⟩ := e; ⟨fp, h.grow g⟩
theorem set_get {α : Type} {l : List (Option α)} {i j : Nat} {x : Option α} {y : α} (h : (l.set i x)[j]? = some (some y)) : (i = j ∧ x = some y) ∨ (i ≠ j ∧ l[j]? = some (some y)) := by
  by_cases e : i = j
  · subst e
    rw [List.getElem?_set_self'] at h
    cases q : l[i]? with
    | none => rw [q] at h; cases h
    | some z => rw [q] at h; exact .inl ⟨rfl, Option.some.inj h⟩
  · rw [List.getElem?_set_ne e] at h
    exact .inr ⟨e, h⟩
/-- a slot's footprint changed -/
def fpSet (fp : Nat → List Addr) (i : Nat) (f : List Addr) : Nat → List Addr := fun j => if j = i then f else fp j
theorem fpSet_same {i : Nat} {f : List Addr} : fpSet fp i f i = f := by unfold fpSet; rw [if_pos rfl]
theorem fpSet_ne {i j : Nat} {f : List Addr} (h : j ≠ i) : fpSet fp i f j = fp j := by unfold fpSet; rw [if_neg h]
/-- a slot is stored; f: new places (H holds them, nobody else's) -/
theorem EnvP.put (e : EnvP K F0 H0 F σ H env fp) {i : Nat} {v : V} {av : AV} {f : List Addr} (h : AvF K F H v av f) (hm : ∀ a ∈ f, H0 a = none ∧ F a = none ∧ H a ≠ none) (hn : ∀ j a, j ≠ i → a ∈ fp j → a ∉ f) :
    EnvP K F0 H0 F (σ.set i (some v)) H (env.set i (some av)) (fpSet fp i f) where
  gro := e.gro
  len := by rw [List.length_set, List.length_set]; exact e.len
  slot := fun j aw q => by
    rcases set_get q with ⟨rfl, qx⟩ | ⟨n, q⟩
    · cases qx
      refine ⟨v, ?_, by rw [fpSet_same]; exact h⟩
      have hi : i < (env.set i (some av)).length := (List.getElem?_eq_some_iff.mp ‹_›).1
      rw [List.length_set, ← e.len] at hi
      exact List.getElem?_set_self hi
    · obtain ⟨u, a, b⟩ := e.slot j aw q
      exact ⟨u, by rw [List.getElem?_set_ne n]; exact a, by rw [fpSet_ne (Ne.symm n)]; exact b⟩
  mine := fun j a q => by
    by_cases z : j = i
    · subst z; rw [fpSet_same] at q; exact hm a q
    · rw [fpSet_ne z] at q; exact e.mine j a q
  apart := fun j k a q1 q2 => by
    by_cases z1 : j = i
    · by_cases z2 : k = i
      · rw [z1, z2]
      · subst z1
        rw [fpSet_same] at q1; rw [fpSet_ne z2] at q2
        exact absurd q1 (hn k a z2 q2)
    · rw [fpSet_ne z1] at q1
      by_cases z2 : k = i
      · subst z2
        rw [fpSet_same] at q2
        exact absurd q2 (hn j a z1 q1)
      · rw [fpSet_ne z2] at q2
        exact e.apart j k a q1 q2
/-- a slot is stored: data (or a thing that stays) -/
theorem EnvAt.set (e : EnvAt K F0 H0 F σ H env) {i : Nat} {v : V} {av : AV} (h : AvOk K F H v av) (ho : av.owned = false) : EnvAt K F0 H0 F (σ.set i (some v)) H (env.set i (some av)) := by
  obtain ⟨fp, E⟩ := e
  refine ⟨_, E.put (f := []) ?_ (fun _ z => nomatch z) fun _ _ _ _ z => nomatch z⟩
  cases av with
  | d x => exact ⟨h, rfl⟩
  | p φ hφ => exact ⟨h, rfl⟩
  | l xs => cases ho
  | o t => cases ho
/-- a slot is stored: a new list of one's own (it stands in H, not in F, and is new) -/
theorem EnvAt.newL (e : EnvAt K F0 H0 F σ H env) {H' : Hp} (g : Gro F H F' H') {i : Nat} {a : Addr} {vs : List V} {xs : List PyData} (h1 : H' a = some (.lst vs)) (h2 : DpAll K F' vs xs) (hn : H a = none) (hF : F' a = none) :
    EnvAt K F0 H0 F' (σ.set i (some (.ref a))) H' (env.set i (some (.l xs))) := by
  obtain ⟨fp, E⟩ := e
  refine ⟨_, (E.grow g).put (f := [a]) ⟨a, vs, rfl, h1, h2, rfl⟩ (fun b hb => ?_) fun j b _ hb z => ?_⟩
  · rw [List.mem_singleton.mp hb]
    exact ⟨E.gro.h.free hn, hF, by rw [h1]; exact fun z => nomatch z⟩
  · rw [List.mem_singleton.mp z] at hb
    exact (E.mine j a hb).2.2 hn
theorem EnvAt.newO (e : EnvAt K F0 H0 F σ H env) {H' : Hp} (g : Gro F H F' H') {i : Nat} {v : V} {t : DV} {f : List Addr} (h : Ow K F' H' v t f) (hn : ∀ a ∈ f, H a = none ∧ F' a = none) :
    EnvAt K F0 H0 F' (σ.set i (some v)) H' (env.set i (some (.o t))) := by
  obtain ⟨fp, E⟩ := e
  refine ⟨_, (E.grow g).put (f := f) (av := .o t) h (fun b hb => ?_) fun j b _ hb z => ?_⟩
  · obtain ⟨u, e1, _⟩ := h.at b hb
    exact ⟨E.gro.h.free (hn b hb).1, (hn b hb).2, by rw [e1]; exact fun z => nomatch z⟩
  · exact (E.mine j b hb).2.2 (hn b z).1
/-- own places change (those of slot i alone) and new ones come -/
theorem EnvP.change (e : EnvP K F0 H0 F σ H env fp) {i : Nat} {av : AV} {v : V} {f : List Addr} {F' H' : Hp} (hv : σ[i]? = some (some v)) (sF : Sm F F') (fr : Sm F' H') (kH : ∀ a u, a ∉ fp i → H a = some u → (∀ ps, u ≠ .tbl ps) → H' a = some u) (kt : ∀ a ps, H a = some (.tbl ps) → ∃ qs, H' a = some (.tbl qs))
    (sep : ∀ a, a ∉ fp i → H a ≠ none → F a = none → F' a = none) (h : AvF K F' H' v av f) (hf : ∀ a ∈ f, (a ∈ fp i ∨ H a = none) ∧ F' a = none) : EnvP K F0 H0 F' σ H' (env.set i (some av)) (fpSet fp i f) where
  gro := ⟨e.gro.f.trans sF, ⟨fun a u q n => kH a u (fun z => by rw [(e.mine i a z).1] at q; cases q) (e.gro.h.all a u q n) n, fun a ps q => let ⟨qs, z⟩ := e.gro.h.tab a ps q; kt a qs z⟩, fr, fun a x1 x2 => sep a (fun z => x1 (e.mine i a z).1) (e.gro.h.ne x1) (e.gro.sep a x1 x2)⟩
  len := by rw [List.length_set]; exact e.len
  slot := fun j aw q => by
    rcases set_get q with ⟨rfl, qx⟩ | ⟨n, q⟩
    · cases qx; exact ⟨v, hv, by rw [fpSet_same]; exact h⟩
    · obtain ⟨u, a, b⟩ := e.slot j aw q
      refine ⟨u, a, ?_⟩
      rw [fpSet_ne (Ne.symm n)]
      refine b.keep sF fun c hc => ?_
      obtain ⟨w, e1, n1, _⟩ := b.at c hc
      rw [e1]
      exact kH c w (fun z => n (e.apart i j c z hc)) e1 n1
  mine := fun j a q => by
    by_cases z : j = i
    · subst z
      rw [fpSet_same] at q
      obtain ⟨u, e1, _⟩ := h.at a q
      refine ⟨?_, (hf a q).2, by rw [e1]; exact fun z => nomatch z⟩
      rcases (hf a q).1 with z | z
      · exact (e.mine j a z).1
      · exact e.gro.h.free z
    · rw [fpSet_ne z] at q
      obtain ⟨z1, z2, z3⟩ := e.mine j a q
      have ni : a ∉ fp i := fun w => z (e.apart j i a q w)
      refine ⟨z1, sep a ni z3 z2, fun y => ?_⟩
      cases w : H a with
      | none => exact z3 w
      | some u =>
        rcases tbl_or u with ⟨ps, rfl⟩ | n
        · obtain ⟨qs, w2⟩ := kt a ps w
          rw [w2] at y; cases y
        · rw [kH a u ni w n] at y; cases y
  apart := fun j k a q1 q2 => by
    have key : ∀ j, j ≠ i → a ∈ fp j → a ∈ f → False := fun j nj q qf => by
      rcases (hf a qf).1 with z | z
      · exact nj (e.apart j i a q z)
      · exact (e.mine j a q).2.2 z
    by_cases z1 : j = i
    · by_cases z2 : k = i
      · rw [z1, z2]
      · subst z1
        rw [fpSet_same] at q1; rw [fpSet_ne z2] at q2
        exact (key k z2 q2 q1).elim
    · rw [fpSet_ne z1] at q1
      by_cases z2 : k = i
      · subst z2
        rw [fpSet_same] at q2
        exact (key j z1 q1 q2).elim
      · rw [fpSet_ne z2] at q2
        exact e.apart j k a q1 q2
/-- a list of one's own (in slot i) is changed -/
theorem EnvAt.changeL (e : EnvAt K F0 H0 F σ H env) {i : Nat} {a : Addr} {xs ys : List PyData} {vs : List V} (hi : env[i]? = some (some (.l xs))) (hs : σ[i]? = some (some (.ref a))) (h : DpAll K F vs ys) :
    EnvAt K F0 H0 F σ (upd H a (.lst vs)) (env.set i (some (.l ys))) := by
  obtain ⟨fp, E⟩ := e
  obtain ⟨v, h1, b, ws, rfl, h2, h3, h4⟩ := E.slot i _ hi
  rw [hs] at h1; cases h1
  have ha : a ∈ fp i := by rw [h4]; exact List.mem_cons_self
  refine ⟨_, E.change (f := [a]) hs (Sm.refl F) (E.fr.updH (E.mine i a ha).2.1) (fun b u nb q _ => ?_) (fun b ps q => ?_) (fun b _ _ z => z) ⟨a, vs, rfl, upd_same, h, rfl⟩ fun b hb => ?_⟩
  · rw [upd_ne fun z => nb (by rw [z]; exact ha)]; exact q
  · exact ⟨ps, by rw [upd_ne fun z => by rw [z, h2] at q; cases q]; exact q⟩
  · rw [List.mem_singleton.mp hb]; exact ⟨.inl ha, (E.mine i a ha).2.1⟩
/-- forgetting a slot -/
theorem EnvAt.forget (e : EnvAt K F0 H0 F σ H env) {env' : AEnv} (hl : env'.length = env.length) (h : ∀ (i : Nat) (av : AV), env'[i]? = some (some av) → env[i]? = some (some av)) : EnvAt K F0 H0 F σ H env' := by
  obtain ⟨fp, E⟩ := e
  exact ⟨fp, E.gro, by rw [hl]; exact E.len, fun i av q => E.slot i av (h i av q), E.mine, E.apart⟩
/-- the frame with the own places of a slot -/
def froz (F H : Hp) (f : List Addr) : Hp := fun b => if b ∈ f then H b else F b
theorem froz_in {F H : Hp} {f : List Addr} {b : Addr} (h : b ∈ f) : froz F H f b = H b := by unfold froz; rw [if_pos h]
theorem froz_out {F H : Hp} {f : List Addr} {b : Addr} (h : b ∉ f) : froz F H f b = F b := by unfold froz; rw [if_neg h]
theorem froz_nil {F H : Hp} : froz F H [] = F := by funext b; exact froz_out (fun z => nomatch z)
theorem EnvP.froz_sm (e : EnvP K F0 H0 F σ H env fp) (i : Nat) : Sm F (froz F H (fp i)) := .of fun a u q => by
  rw [froz_out fun z => by rw [(e.mine i a z).2.1] at q; cases q]; exact q
/-- what is one's own is fixed from now on -/
theorem EnvP.freeze (e : EnvP K F0 H0 F σ H env fp) {i : Nat} {av : AV} {x : PyData} (hi : env[i]? = some (some av)) (hx : ∀ v, AvF K F H v av (fp i) → Dp K (froz F H (fp i)) v x) :
    EnvP K F0 H0 (froz F H (fp i)) σ H (env.set i (some (.d x))) (fpSet fp i []) where
  gro := ⟨e.gro.f.trans (e.froz_sm i), e.gro.h, ⟨fun b u q n => by
    by_cases z : b ∈ fp i
    · rw [froz_in z] at q; exact q
    · rw [froz_out z] at q; exact e.gro.fr.all b u q n, fun b ps q => by
    by_cases z : b ∈ fp i
    · rw [froz_in z] at q; exact ⟨ps, q⟩
    · rw [froz_out z] at q; exact e.gro.fr.tab b ps q⟩, fun b q1 q2 => by
    rw [froz_out fun z => q1 (e.mine i b z).1]; exact e.gro.sep b q1 q2⟩
  len := by rw [List.length_set]; exact e.len
  slot := fun j aw q => by
    rcases set_get q with ⟨rfl, qx⟩ | ⟨n, q⟩
    · cases qx
      obtain ⟨v, hs, hv⟩ := e.slot i av hi
      exact ⟨v, hs, hx v hv, fpSet_same⟩
    · obtain ⟨u, a, b⟩ := e.slot j aw q
      exact ⟨u, a, by rw [fpSet_ne (Ne.symm n)]; exact b.keep (e.froz_sm i) fun _ _ => rfl⟩
  mine := fun j a q => by
    by_cases z : j = i
    · subst z; rw [fpSet_same] at q; cases q
    · rw [fpSet_ne z] at q
      obtain ⟨z1, z2, z3⟩ := e.mine j a q
      exact ⟨z1, by rw [froz_out fun y => z (e.apart j i a q y)]; exact z2, z3⟩
  apart := fun j k a q1 q2 => by
    by_cases z1 : j = i
    · subst z1; rw [fpSet_same] at q1; cases q1
    · by_cases z2 : k = i
      · subst z2; rw [fpSet_same] at q2; cases q2
      · rw [fpSet_ne z1] at q1; rw [fpSet_ne z2] at q2
        exact e.apart j k a q1 q2
/-- what an own thing is as data -/
def AV.data : AV → PyData
  | .d x => x
  | .l xs => .list xs
  | .o t => t.toD
  | .p _ _ => .none
theorem EnvP.dataOf (e : EnvP K F0 H0 F σ H env fp) {i : Nat} {av : AV} (ho : av.owned = true) : ∀ v, AvF K F H v av (fp i) → Dp K (froz F H (fp i)) v av.data := fun v h => by
  cases av with
  | d x => cases ho
  | p φ hφ => cases ho
  | l xs =>
    obtain ⟨a, vs, rfl, h1, h2, h3⟩ := h
    exact .lst (.inl (.inl (by rw [froz_in (by rw [h3]; exact List.mem_cons_self)]; exact h1))) (dpAll_mono (e.froz_sm i) h2)
  | o t => exact Ow.data (e.froz_sm i) h fun a q => froz_in q
theorem EnvAt.freezeA (e : EnvAt K F0 H0 F σ H env) {i : Nat} {av : AV} (hi : env[i]? = some (some av)) (ho : av.owned = true) : ∃ F', EnvAt K F0 H0 F' σ H (env.set i (some (.d av.data))) ∧ Sm F F' := by
  obtain ⟨fp, E⟩ := e
  exact ⟨_, ⟨_, E.freeze hi (E.dataOf ho)⟩, E.froz_sm i⟩
/-- a list of one's own is data from now on -/
theorem EnvAt.freeze (e : EnvAt K F0 H0 F σ H env) {i : Nat} {xs : List PyData} (hi : env[i]? = some (some (.l xs))) : ∃ F', EnvAt K F0 H0 F' σ H (env.set i (some (.d (.list xs)))) ∧ Sm F F' := e.freezeA hi rfl
/-- the start of a def -/
theorem env_start {N : List Str} {vs : List V} {ds : List PyData} (fr : Sm F H) (h : DpAll K F vs ds) (hl : ds.length ≤ N.length) :
    EnvAt K F H F (L2.start N vs) H (ds.map (fun d => some (.d d)) ++ List.replicate (N.length - ds.length) none) := by
  have hv := dpAll_len h
  have key : ∀ i (av : AV), (ds.map (fun d => some (AV.d d)) ++ List.replicate (N.length - ds.length) none)[i]? = some (some av) → ∃ d, ds[i]? = some d ∧ av = .d d := fun i av q => by
    by_cases hi : i < ds.length
    · rw [List.getElem?_append_left (by simpa using hi), List.getElem?_map, List.getElem?_eq_getElem hi] at q
      exact ⟨_, List.getElem?_eq_getElem hi, by simp at q; exact q.symm⟩
    · rw [List.getElem?_append_right (by simpa using hi), List.getElem?_replicate] at q
      split at q <;> cases q
  refine ⟨fun _ => [], Gro.refl fr, ?_, fun i av q => ?_, (fun i a q => nomatch q), (fun i j a q => nomatch q)⟩
  · unfold L2.start
    simp only [List.length_append, List.length_map, List.length_replicate, hv]
  · obtain ⟨d, e1, rfl⟩ := key i av q
    obtain ⟨v, e2, e3⟩ := dpAll_get h e1
    refine ⟨v, ?_, e3, rfl⟩
    unfold L2.start
    rw [List.getElem?_append_left (by simpa using (List.getElem?_eq_some_iff.mp e2).1), List.getElem?_map, e2]
    rfl
end
/-- an answer: data that stay, or a tree of one's own -/
inductive RV where
  | d (x : PyData)
  | o (t : DV)
def RvOk (K : KW) (F H : Hp) (v : V) : RV → List Addr → Prop
  | .d x, f => Dp K F v x ∧ f = []
  | .o t, f => Ow K F H v t f
theorem RvOk.at {K : KW} {F H : Hp} {v : V} : ∀ {r : RV} {f : List Addr}, RvOk K F H v r f → ∀ a ∈ f, ∃ u, H a = some u ∧ (∀ ps, u ≠ .tbl ps) ∧ (∀ xs, u ≠ .tup xs)
  | .d _, _, h, _, q => by rw [h.2] at q; cases q
  | .o _, _, h, a, q => Ow.at h a q
end FR

namespace FR
open PySem PySem.Spec PyProof.Rows L2

/-! ## the canonical readings -/
structure wE (X : Cx) (e : Expr) (σ : L2.St) (H : Hp) (Q : VK) : Prop where
  run : ∀ pins s, Inv X pins σ H s → wpAny (model X.prog X.w) X.A (eval e X.env) (EP X pins σ Q) X.xe s
structure wT (X : Cx) (e : Expr) (σ : L2.St) (H : Hp) (Q : Bool → Hp → Prop) : Prop where
  run : ∀ pins s, Inv X pins σ H s → wpAny (model X.prog X.w) X.A (isTrue e X.env (eval e X.env)) (TP X pins σ Q) X.xe s
structure wW (X : Cx) (e : Expr) (σ : L2.St) (H : Hp) (Q : Bool → Hp → Prop) : Prop where
  run : ∀ whole pins s, Inv X pins σ H s → wpAny (model X.prog X.w) X.A (isTrue e X.env whole) (TP X pins σ Q) X.xe s
structure wA (X : Cx) (es : List Expr) (σ : L2.St) (H : Hp) (Q : List V → Hp → Prop) : Prop where
  run : ∀ pos pins s, Inv X pins σ H s → wpAny (model X.prog X.w) X.A (spliced (backTo pos (starEach es X.env))) (AP X pins σ Q) X.xe s
structure wS (X : Cx) (st : Stmt) (D : Ends) (σ : L2.St) (H : Hp) : Prop where
  run : ∀ pins s, Inv X pins σ H s → wpAny (model X.prog X.w) X.A (exec st X.env) (SP X pins D) X.xe s
structure wB (X : Cx) (st : List Stmt) (D : Ends) (σ : L2.St) (H : Hp) : Prop where
  run : ∀ pins s, Inv X pins σ H s → wpAny (model X.prog X.w) X.A (execs st X.env) (SP X pins D) X.xe s
structure wI (X : Cx) (tg iter : Expr) (σ : L2.St) (H : Hp) (R : It → Hp → Prop) : Prop where
  run : ∀ pins s, Inv X pins σ H s →
  wpAny (model X.prog X.w) X.A (eval iter X.env) (fun v s1 => wpAny (model X.prog X.w) X.A (pyIter v) (PIE X pins σ tg R) X.xe s1) X.xe s
section
variable {X : Cx} {e tg : Expr} {es : List Expr} {st : Stmt} {ss : List Stmt} {te : TE} {tt : TT} {ta : TA} {ts : TS} {ti : TI} {σ : L2.St} {H : Hp}
theorem e_w : PE X e (wE X e) := ⟨fun pins s σ H Q I h => h.run pins s I⟩
theorem t_w : PT X e (wT X e) := ⟨fun pins s σ H Q I h => h.run pins s I⟩
theorem w_w : PW X e (wW X e) := ⟨fun wh pins s σ H Q I h => h.run wh pins s I⟩
theorem a_w : PA X es (wA X es) := ⟨fun pos pins s σ H Q I h => h.run pos pins s I⟩
theorem s_w : PS X st (wS X st) := ⟨fun pins s σ H D I h => h.run pins s I⟩
theorem b_w : PSs X ss (wB X ss) := ⟨fun pins s σ H D I h => h.run pins s I⟩
theorem i_w : PI X tg e (wI X tg e) := ⟨fun pins s σ H R I h => h.run pins s I⟩
theorem e_of (h : PE X e te) {Q : VK} (q : te σ H Q) : wE X e σ H Q := ⟨fun pins s I => h.run pins s σ H Q I q⟩
theorem t_of (h : PT X e tt) {Q : Bool → Hp → Prop} (q : tt σ H Q) : wT X e σ H Q := ⟨fun pins s I => h.run pins s σ H Q I q⟩
theorem w_of (h : PW X e tt) {Q : Bool → Hp → Prop} (q : tt σ H Q) : wW X e σ H Q := ⟨fun wh pins s I => h.run wh pins s σ H Q I q⟩
theorem a_of (h : PA X es ta) {Q : List V → Hp → Prop} (q : ta σ H Q) : wA X es σ H Q := ⟨fun pos pins s I => h.run pos pins s σ H Q I q⟩
theorem s_of (h : PS X st ts) {D : Ends} (q : ts D σ H) : wS X st D σ H := ⟨fun pins s I => h.run pins s σ H D I q⟩
theorem b_of (h : PSs X ss ts) {D : Ends} (q : ts D σ H) : wB X ss D σ H := ⟨fun pins s I => h.run pins s σ H D I q⟩
theorem i_of (h : PI X tg e ti) {R : It → Hp → Prop} (q : ti σ H R) : wI X tg e σ H R := ⟨fun pins s I => h.run pins s σ H R I q⟩
end

/-! ## judgements over data -/
def XD (X : Cx) (e : Expr) (env : AEnv) (d : PyData) : Prop :=
  ∀ F0 H0 F σ H, EnvAt X.kw F0 H0 F σ H env → ∀ Q : VK, (∀ v F' H', Gro F H F' H' → Dp X.kw F' v d → Q v H') → wE X e σ H Q
/-- a value of which something holds that stays (no data) -/
def XP (X : Cx) (e : Expr) (env : AEnv) (φ : Hp → V → Prop) : Prop :=
  ∀ F0 H0 F σ H, EnvAt X.kw F0 H0 F σ H env → ∀ Q : VK, (∀ v F' H', Gro F H F' H' → φ F' v → Q v H') → wE X e σ H Q
/-- a new list, nobody else's -/
def XL (X : Cx) (e : Expr) (env : AEnv) (xs : List PyData) : Prop :=
  ∀ F0 H0 F σ H, EnvAt X.kw F0 H0 F σ H env → ∀ Q : VK, (∀ p vs F' H', Gro F H F' H' → H p = none → F' p = none → H' p = some (.lst vs) → DpAll X.kw F' vs xs → Q (.ref p) H') → wE X e σ H Q
def XT (X : Cx) (e : Expr) (env : AEnv) (b : Bool) : Prop :=
  ∀ F0 H0 F σ H, EnvAt X.kw F0 H0 F σ H env → ∀ Q : Bool → Hp → Prop, (∀ F' H', Gro F H F' H' → Q b H') → wT X e σ H Q
def XW (X : Cx) (e : Expr) (env : AEnv) (b : Bool) : Prop :=
  ∀ F0 H0 F σ H, EnvAt X.kw F0 H0 F σ H env → ∀ Q : Bool → Hp → Prop, (∀ F' H', Gro F H F' H' → Q b H') → wW X e σ H Q
def XA (X : Cx) (es : List Expr) (env : AEnv) (ds : List PyData) : Prop :=
  ∀ F0 H0 F σ H, EnvAt X.kw F0 H0 F σ H env → ∀ Q : List V → Hp → Prop, (∀ vs F' H', Gro F H F' H' → DpAll X.kw F' vs ds → Q vs H') → wA X es σ H Q
/-- what is wanted behind a statement -/
structure AE where
  nx : AEnv → Prop
  rt : PyData → Prop
  bk : AEnv → Prop := fun _ => False
  ct : AEnv → Prop := fun _ => False
  rs : RV → AEnv → Prop := fun _ _ => False
structure Lk (K : KW) (F0 H0 : Hp) (A : AE) (D : Ends) : Prop where
  nx : ∀ env F σ H, EnvAt K F0 H0 F σ H env → A.nx env → D.nx σ H
  rt : ∀ v d F H, Gro F0 H0 F H → Dp K F v d → A.rt d → D.rt v H
  bk : ∀ env F σ H, EnvAt K F0 H0 F σ H env → A.bk env → D.bk σ H
  ct : ∀ env F σ H, EnvAt K F0 H0 F σ H env → A.ct env → D.ct σ H
  rs : ∀ v r f env F σ H, EnvAt K F0 (froz H0 H f) F σ H env → RvOk K F H v r f → (∀ a ∈ f, H0 a = none ∧ F a = none) → A.rs r env → D.rt v H := by intro _ _ _ _ _ _ _ _ _ _ z; exact z.elim
def XS (X : Cx) (st : Stmt) (env : AEnv) (A : AE) : Prop := ∀ F0 H0 F σ H D, EnvAt X.kw F0 H0 F σ H env → Lk X.kw F0 H0 A D → wS X st D σ H
def XB (X : Cx) (ss : List Stmt) (env : AEnv) (A : AE) : Prop := ∀ F0 H0 F σ H D, EnvAt X.kw F0 H0 F σ H env → Lk X.kw F0 H0 A D → wB X ss D σ H

section
variable {X : Cx} {e e2 e3 tg : Expr} {es : List Expr} {st : Stmt} {ss : List Stmt} {env : AEnv} {d d1 d2 : PyData} {A : AE} {pos p p2 : Pos}


/-! ### names, constants -/
theorem xd_var {i : Nat} {x : Str} (hv : env[i]? = some (some (.d d))) (hN : X.N[i]? = some x := by rfl) (hs : Vis X.env.scope x := by first | exact Or.inl rfl | exact Or.inr (Or.inl rfl) | exact Or.inr (Or.inr rfl))
    (hd : (x == ("__debug__" : Str)) = false := by decide) (hc : (x == ("__classdict__" : Str)) = false := by decide) : XD X (.Name x pos) env d := by
  intro F0 H0 F σ H E Q q
  obtain ⟨v, h1, h2⟩ := E.slot i _ hv
  exact e_of (pe_var hN hs hd hc) ⟨v, h1, q v F H E.rfl' h2⟩
theorem xp_var {i : Nat} {x : Str} {φ : Hp → V → Prop} {hφ} (hv : env[i]? = some (some (.p φ hφ))) (hN : X.N[i]? = some x := by rfl) (hs : Vis X.env.scope x := by first | exact Or.inl rfl | exact Or.inr (Or.inl rfl) | exact Or.inr (Or.inr rfl))
    (hd : (x == ("__debug__" : Str)) = false := by decide) (hc : (x == ("__classdict__" : Str)) = false := by decide) : XP X (.Name x pos) env φ := by
  intro F0 H0 F σ H E Q q
  obtain ⟨v, h1, h2⟩ := E.slot i _ hv
  exact e_of (pe_var hN hs hd hc) ⟨v, h1, q v F H E.rfl' h2⟩
theorem xd_int {i j} : XD X (.Constant (.int i) j pos) env (.int i) := fun F0 H0 F σ H E Q q => e_of pe_int (q _ F H E.rfl' (.int i))
theorem xd_bl {b j} : XD X (.Constant (.bool b) j pos) env (.bool b) := fun F0 H0 F σ H E Q q => e_of pe_bl (q _ F H E.rfl' (.bl b))
theorem xd_non {j} : XD X (.Constant .none j pos) env .none := fun F0 H0 F σ H E Q q => e_of pe_non (q _ F H E.rfl' .non)
theorem xd_str {x j} : XD X (.Constant (.str x) j pos) env (.str x) := fun F0 H0 F σ H E Q q => e_of pe_str (q _ F H E.rfl' (.str x))
theorem XD.is (h : XD X e env d) (h' : d = d2) : XD X e env d2 := h' ▸ h

/-! ### operators -/
/-- what an operator does on data -/
def OpD (K : KW) (r : R2) (d1 d2 d : PyData) : Prop := ∀ F H v w, Sm F H → Dp K F v d1 → Dp K F w d2 → ∀ Q : VK, (∀ u F' H', Gro F H F' H' → Dp K F' u d → Q u H') → r v w H Q
def UnD (K : KW) (r : V → Hp → VK → Prop) (d1 d : PyData) : Prop := ∀ F H v, Sm F H → Dp K F v d1 → ∀ Q : VK, (∀ u F' H', Gro F H F' H' → Dp K F' u d → Q u H') → r v H Q
theorem x2 {r : R2} (hp : PE X e3 (tOp r (wE X e) (wE X e2))) (h1 : XD X e env d1) (h2 : XD X e2 env d2) (hr : OpD X.kw r d1 d2 d) : XD X e3 env d := by
  intro F0 H0 F σ H E Q q
  refine e_of hp ?_
  refine h1 _ _ F σ H E _ fun v F1 H1 g1 p1 => ?_
  refine h2 _ _ F1 σ H1 (E.grow g1) _ fun w F2 H2 g2 p2 => ?_
  exact hr F2 H2 v w g2.fr (dp_mono g2.f p1) p2 Q fun u F3 H3 g3 p3 => q u F3 H3 ((g1.trans g2).trans g3) p3
theorem x1 {r : V → Hp → VK → Prop} (hp : PE X e3 (tUn r (wE X e))) (h1 : XD X e env d1) (hr : UnD X.kw r d1 d) : XD X e3 env d := by
  intro F0 H0 F σ H E Q q
  refine e_of hp ?_
  refine h1 _ _ F σ H E _ fun v F1 H1 g1 p1 => ?_
  exact hr F1 H1 v g1.fr p1 Q fun u F3 H3 g3 p3 => q u F3 H3 (g1.trans g3) p3
theorem opd_I0 {K : KW} {g : Int → Int → V} {i j : Int} {d : PyData} (h : ∀ F, Dp K F (g i j) d) : OpD K (rI0 g) (.int i) (.int j) d :=
  fun F H v w fr p1 p2 Q q => ⟨i, j, dI p1, dI p2, q _ F H (Gro.refl fr) (h F)⟩
theorem opd_I {K : KW} {C : Int → Int → Prop} {g : Int → Int → V} {i j : Int} {d : PyData} (hc : C i j) (h : ∀ F, Dp K F (g i j) d) : OpD K (rI C g) (.int i) (.int j) d :=
  fun F H v w fr p1 p2 Q q => ⟨i, j, dI p1, dI p2, hc, q _ F H (Gro.refl fr) (h F)⟩
theorem xd_add {i j : Int} (h1 : XD X e env (.int i)) (h2 : XD X e2 env (.int j)) : XD X (.BinOp e .Add e2 pos) env (.int (i + j)) := x2 (pe_op op_add e_w e_w) h1 h2 (opd_I0 fun _ => .int _)
theorem xd_sub {i j : Int} (h1 : XD X e env (.int i)) (h2 : XD X e2 env (.int j)) : XD X (.BinOp e .Sub e2 pos) env (.int (i - j)) := x2 (pe_op op_sub e_w e_w) h1 h2 (opd_I0 fun _ => .int _)
theorem xd_mul {i j : Int} (h1 : XD X e env (.int i)) (h2 : XD X e2 env (.int j)) (hc : CMul i j) : XD X (.BinOp e .Mult e2 pos) env (.int (i * j)) := x2 (pe_op op_mul e_w e_w) h1 h2 (opd_I hc fun _ => .int _)
theorem xd_div {i j : Int} (h1 : XD X e env (.int i)) (h2 : XD X e2 env (.int j)) (hc : CDiv i j) : XD X (.BinOp e .FloorDiv e2 pos) env (.int (i / j)) := x2 (pe_op op_fdiv e_w e_w) h1 h2 (opd_I hc fun _ => .int _)
theorem xd_mod {i j : Int} (h1 : XD X e env (.int i)) (h2 : XD X e2 env (.int j)) (hc : 0 < j) : XD X (.BinOp e .Mod e2 pos) env (.int (i % j)) := x2 (pe_op op_mod e_w e_w) h1 h2 (opd_I hc fun _ => .int _)
theorem xd_pow {i j : Int} (h1 : XD X e env (.int i)) (h2 : XD X e2 env (.int j)) (hc : CPow i j) : XD X (.BinOp e .Pow e2 pos) env (.int (i ^ j.toNat)) := x2 (pe_op op_pow e_w e_w) h1 h2 (opd_I hc fun _ => .int _)
theorem xd_neg {i : Int} (h1 : XD X e env (.int i)) : XD X (.UnaryOp .USub e pos) env (.int (-i)) := x1 (pe_un un_neg e_w) h1 fun F H v fr p1 Q q => ⟨i, dI p1, q _ F H (Gro.refl fr) (.int _)⟩
theorem xd_cat {a b : Str} (h1 : XD X e env (.str a)) (h2 : XD X e2 env (.str b)) (hz : a.length + b.length ≤ sizeLine) : XD X (.BinOp e .Add e2 pos) env (.str (a ++ b)) :=
  x2 (pe_op op_add_str e_w e_w) h1 h2 fun F H v w fr p1 p2 Q q => ⟨a, b, dS p1, dS p2, hz, q _ F H (Gro.refl fr) (.str _)⟩
/-! ### comparisons -/
theorem xd_lt {i j : Int} (h1 : XD X e env (.int i)) (h2 : XD X e2 env (.int j)) : XD X (.Compare e [.Lt] [e2] pos) env (.bool (decide (i < j))) := x2 (pe_cmpR op_lt e_w e_w (nomark _)) h1 h2 (opd_I0 fun _ => .bl _)
theorem xd_le {i j : Int} (h1 : XD X e env (.int i)) (h2 : XD X e2 env (.int j)) : XD X (.Compare e [.LtE] [e2] pos) env (.bool (decide (i ≤ j))) := x2 (pe_cmpR op_le e_w e_w (nomark _)) h1 h2 (opd_I0 fun _ => .bl _)
theorem xd_gt {i j : Int} (h1 : XD X e env (.int i)) (h2 : XD X e2 env (.int j)) : XD X (.Compare e [.Gt] [e2] pos) env (.bool (decide (j < i))) := x2 (pe_cmpR op_gt e_w e_w (nomark _)) h1 h2 (opd_I0 fun _ => .bl _)
theorem xd_ge {i j : Int} (h1 : XD X e env (.int i)) (h2 : XD X e2 env (.int j)) : XD X (.Compare e [.GtE] [e2] pos) env (.bool (decide (j ≤ i))) := x2 (pe_cmpR op_ge e_w e_w (nomark _)) h1 h2 (opd_I0 fun _ => .bl _)
theorem opd_eq {K : KW} {x y : V} {b : Bool} (hx : ∀ F v, Dp K F v d1 → v = x) (hy : ∀ F v, Dp K F v d2 → v = y) (hs : scal x y = true) (hb : decide (x = y) = b) : OpD K rEq d1 d2 (.bool b) :=
  fun F H v w fr p1 p2 Q q => ⟨by rw [hx F v p1, hy F w p2]; exact hs, by rw [hx F v p1, hy F w p2, hb]; exact q _ F H (Gro.refl fr) (.bl _)⟩
theorem opd_ne {K : KW} {x y : V} {b : Bool} (hx : ∀ F v, Dp K F v d1 → v = x) (hy : ∀ F v, Dp K F v d2 → v = y) (hs : scal x y = true) (hb : (!decide (x = y)) = b) : OpD K rNe d1 d2 (.bool b) :=
  fun F H v w fr p1 p2 Q q => ⟨by rw [hx F v p1, hy F w p2]; exact hs, by rw [hx F v p1, hy F w p2, hb]; exact q _ F H (Gro.refl fr) (.bl _)⟩
theorem dec_int {i j : Int} : decide (V.int i = V.int j) = decide (i = j) := by
  by_cases h : i = j
  · subst h; simp
  · rw [decide_eq_false h]; exact decide_eq_false fun z => h (by injection z)
theorem dec_str {i j : Str} : decide (V.str i = V.str j) = decide (i = j) := by
  by_cases h : i = j
  · subst h; simp
  · rw [decide_eq_false h]; exact decide_eq_false fun z => h (by injection z)
theorem dec_bl {i j : Bool} : decide (V.bl i = V.bl j) = decide (i = j) := by
  by_cases h : i = j
  · subst h; simp
  · rw [decide_eq_false h]; exact decide_eq_false fun z => h (by injection z)
theorem xd_eqI {i j : Int} (h1 : XD X e env (.int i)) (h2 : XD X e2 env (.int j)) : XD X (.Compare e [.Eq] [e2] pos) env (.bool (decide (i = j))) :=
  x2 (pe_cmpR op_eq e_w e_w (nomark _)) h1 h2 (opd_eq (fun _ _ => dI) (fun _ _ => dI) rfl dec_int)
theorem xd_eqS {i j : Str} (h1 : XD X e env (.str i)) (h2 : XD X e2 env (.str j)) : XD X (.Compare e [.Eq] [e2] pos) env (.bool (decide (i = j))) :=
  x2 (pe_cmpR op_eq e_w e_w (nomark _)) h1 h2 (opd_eq (fun _ _ => dS) (fun _ _ => dS) rfl dec_str)
theorem xd_eqB {i j : Bool} (h1 : XD X e env (.bool i)) (h2 : XD X e2 env (.bool j)) : XD X (.Compare e [.Eq] [e2] pos) env (.bool (decide (i = j))) :=
  x2 (pe_cmpR op_eq e_w e_w (nomark _)) h1 h2 (opd_eq (fun _ _ => dB) (fun _ _ => dB) rfl dec_bl)
theorem xd_neI {i j : Int} (h1 : XD X e env (.int i)) (h2 : XD X e2 env (.int j)) : XD X (.Compare e [.NotEq] [e2] pos) env (.bool (!decide (i = j))) :=
  x2 (pe_cmpR op_ne e_w e_w (nomark _)) h1 h2 (opd_ne (fun _ _ => dI) (fun _ _ => dI) rfl (by rw [dec_int]))
theorem xd_neS {i j : Str} (h1 : XD X e env (.str i)) (h2 : XD X e2 env (.str j)) : XD X (.Compare e [.NotEq] [e2] pos) env (.bool (!decide (i = j))) :=
  x2 (pe_cmpR op_ne e_w e_w (nomark _)) h1 h2 (opd_ne (fun _ _ => dS) (fun _ _ => dS) rfl (by rw [dec_str]))
theorem xd_neB {i j : Bool} (h1 : XD X e env (.bool i)) (h2 : XD X e2 env (.bool j)) : XD X (.Compare e [.NotEq] [e2] pos) env (.bool (!decide (i = j))) :=
  x2 (pe_cmpR op_ne e_w e_w (nomark _)) h1 h2 (opd_ne (fun _ _ => dB) (fun _ _ => dB) rfl (by rw [dec_bl]))
/-- == of data at any depth -/
theorem xd_eqD (hu : X.A.units + 64 < cLine) (h1 : XD X e env d1) (h2 : XD X e2 env d2) (s1 : SeqAt.shaped d1 = true) (s2 : SeqAt.shaped d2 = true) : XD X (.Compare e [.Eq] [e2] pos) env (.bool (PyData.eqv d1 d2)) :=
  x2 (pe_cmpR (op_eqD hu) e_w e_w (nomark _)) h1 h2 fun F H v w fr p1 p2 Q q => ⟨d1, d2, dpL fr p1 s1, dpL fr p2 s2, s1, s2, q _ F H (Gro.refl fr) (.bl _)⟩
theorem xd_neD (hu : X.A.units + 64 < cLine) (h1 : XD X e env d1) (h2 : XD X e2 env d2) (s1 : SeqAt.shaped d1 = true) (s2 : SeqAt.shaped d2 = true) : XD X (.Compare e [.NotEq] [e2] pos) env (.bool (!PyData.eqv d1 d2)) :=
  x2 (pe_cmpR (op_neD hu) e_w e_w (nomark _)) h1 h2 fun F H v w fr p1 p2 Q q => ⟨d1, d2, dpL fr p1 s1, dpL fr p2 s2, s1, s2, q _ F H (Gro.refl fr) (.bl _)⟩
def isNonD : PyData → Bool
  | .none => true
  | _ => false
theorem dp_non {K : KW} {F : Hp} {v : V} (h : Dp K F v d) : decide (v = .non) = isNonD d := by
  cases h <;> simp [isNonD, insD, dictT, fnD]
theorem xd_isN {j} (h1 : XD X e env d) : XD X (.Compare e [.Is] [.Constant .none j p] pos) env (.bool (isNonD d)) :=
  x2 (pe_cmpR op_isN e_w e_w (nomark _)) h1 xd_non fun F H v w fr p1 p2 Q q => ⟨dN p2, by rw [dp_non p1]; exact q _ F H (Gro.refl fr) (.bl _)⟩
theorem xd_notN {j} (h1 : XD X e env d) : XD X (.Compare e [.IsNot] [.Constant .none j p] pos) env (.bool (!isNonD d)) :=
  x2 (pe_cmpR op_notN e_w e_w (nomark _)) h1 xd_non fun F H v w fr p1 p2 Q q => ⟨dN p2, by rw [dp_non p1]; exact q _ F H (Gro.refl fr) (.bl _)⟩

/-! ### tests -/
theorem xt_val {b : Bool} (h : XD X e env (.bool b)) (he : ∀ whole, isTrue e X.env whole = (do let v ← whole; standAt e.pos; holding [v] (truthy v)) := by intro _; rfl) : XT X e env b := by
  intro F0 H0 F σ H E Q q
  refine t_of (pt_val e_w he) ?_
  refine h _ _ F σ H E _ fun v F1 H1 g1 p1 => ?_
  exact ⟨b, dB p1, q F1 H1 g1⟩
theorem cmpT {op : CmpOp} {r : R2} (hp : PT X e3 (tTest (tOp r (wE X e) (wE X e2)))) (h1 : XD X e env d1) (h2 : XD X e2 env d2) {b : Bool} (hr : OpD X.kw r d1 d2 (.bool b)) : XT X e3 env b := by
  intro F0 H0 F σ H E Q q
  refine t_of hp ?_
  refine h1 _ _ F σ H E _ fun v F1 H1 g1 p1 => ?_
  refine h2 _ _ F1 σ H1 (E.grow g1) _ fun w F2 H2 g2 p2 => ?_
  exact hr F2 H2 v w g2.fr (dp_mono g2.f p1) p2 _ fun u F3 H3 g3 p3 => ⟨b, dB p3, q F3 H3 ((g1.trans g2).trans g3)⟩
theorem xt_lt {i j : Int} (h1 : XD X e env (.int i)) (h2 : XD X e2 env (.int j)) : XT X (.Compare e [.Lt] [e2] pos) env (decide (i < j)) := cmpT (op := .Lt) (pt_cmpR op_lt e_w e_w (nomark _)) h1 h2 (opd_I0 fun _ => .bl _)
theorem xt_le {i j : Int} (h1 : XD X e env (.int i)) (h2 : XD X e2 env (.int j)) : XT X (.Compare e [.LtE] [e2] pos) env (decide (i ≤ j)) := cmpT (op := .Lt) (pt_cmpR op_le e_w e_w (nomark _)) h1 h2 (opd_I0 fun _ => .bl _)
theorem xt_gt {i j : Int} (h1 : XD X e env (.int i)) (h2 : XD X e2 env (.int j)) : XT X (.Compare e [.Gt] [e2] pos) env (decide (j < i)) := cmpT (op := .Lt) (pt_cmpR op_gt e_w e_w (nomark _)) h1 h2 (opd_I0 fun _ => .bl _)
theorem xt_ge {i j : Int} (h1 : XD X e env (.int i)) (h2 : XD X e2 env (.int j)) : XT X (.Compare e [.GtE] [e2] pos) env (decide (j ≤ i)) := cmpT (op := .Lt) (pt_cmpR op_ge e_w e_w (nomark _)) h1 h2 (opd_I0 fun _ => .bl _)
theorem xt_eqI {i j : Int} (h1 : XD X e env (.int i)) (h2 : XD X e2 env (.int j)) : XT X (.Compare e [.Eq] [e2] pos) env (decide (i = j)) :=
  cmpT (op := .Lt) (pt_cmpR op_eq e_w e_w (nomark _)) h1 h2 (opd_eq (fun _ _ => dI) (fun _ _ => dI) rfl dec_int)
theorem xt_eqS {i j : Str} (h1 : XD X e env (.str i)) (h2 : XD X e2 env (.str j)) : XT X (.Compare e [.Eq] [e2] pos) env (decide (i = j)) :=
  cmpT (op := .Lt) (pt_cmpR op_eq e_w e_w (nomark _)) h1 h2 (opd_eq (fun _ _ => dS) (fun _ _ => dS) rfl dec_str)
theorem xt_eqB {i j : Bool} (h1 : XD X e env (.bool i)) (h2 : XD X e2 env (.bool j)) : XT X (.Compare e [.Eq] [e2] pos) env (decide (i = j)) :=
  cmpT (op := .Lt) (pt_cmpR op_eq e_w e_w (nomark _)) h1 h2 (opd_eq (fun _ _ => dB) (fun _ _ => dB) rfl dec_bl)
theorem xt_neI {i j : Int} (h1 : XD X e env (.int i)) (h2 : XD X e2 env (.int j)) : XT X (.Compare e [.NotEq] [e2] pos) env (!decide (i = j)) :=
  cmpT (op := .Lt) (pt_cmpR op_ne e_w e_w (nomark _)) h1 h2 (opd_ne (fun _ _ => dI) (fun _ _ => dI) rfl (by rw [dec_int]))
theorem xt_neS {i j : Str} (h1 : XD X e env (.str i)) (h2 : XD X e2 env (.str j)) : XT X (.Compare e [.NotEq] [e2] pos) env (!decide (i = j)) :=
  cmpT (op := .Lt) (pt_cmpR op_ne e_w e_w (nomark _)) h1 h2 (opd_ne (fun _ _ => dS) (fun _ _ => dS) rfl (by rw [dec_str]))
theorem xt_neB {i j : Bool} (h1 : XD X e env (.bool i)) (h2 : XD X e2 env (.bool j)) : XT X (.Compare e [.NotEq] [e2] pos) env (!decide (i = j)) :=
  cmpT (op := .Lt) (pt_cmpR op_ne e_w e_w (nomark _)) h1 h2 (opd_ne (fun _ _ => dB) (fun _ _ => dB) rfl (by rw [dec_bl]))
theorem xt_eqD (hu : X.A.units + 64 < cLine) (h1 : XD X e env d1) (h2 : XD X e2 env d2) (s1 : SeqAt.shaped d1 = true) (s2 : SeqAt.shaped d2 = true) : XT X (.Compare e [.Eq] [e2] pos) env (PyData.eqv d1 d2) :=
  cmpT (op := .Lt) (pt_cmpR (op_eqD hu) e_w e_w (nomark _)) h1 h2 fun F H v w fr p1 p2 Q q => ⟨d1, d2, dpL fr p1 s1, dpL fr p2 s2, s1, s2, q _ F H (Gro.refl fr) (.bl _)⟩
theorem xt_neD (hu : X.A.units + 64 < cLine) (h1 : XD X e env d1) (h2 : XD X e2 env d2) (s1 : SeqAt.shaped d1 = true) (s2 : SeqAt.shaped d2 = true) : XT X (.Compare e [.NotEq] [e2] pos) env (!PyData.eqv d1 d2) :=
  cmpT (op := .Lt) (pt_cmpR (op_neD hu) e_w e_w (nomark _)) h1 h2 fun F H v w fr p1 p2 Q q => ⟨d1, d2, dpL fr p1 s1, dpL fr p2 s2, s1, s2, q _ F H (Gro.refl fr) (.bl _)⟩
theorem xt_isN {j} (h1 : XD X e env d) : XT X (.Compare e [.Is] [.Constant .none j p] pos) env (isNonD d) :=
  cmpT (op := .Lt) (pt_cmpR op_isN e_w e_w (nomark _)) h1 xd_non fun F H v w fr p1 p2 Q q => ⟨dN p2, by rw [dp_non p1]; exact q _ F H (Gro.refl fr) (.bl _)⟩
theorem xt_notN {j} (h1 : XD X e env d) : XT X (.Compare e [.IsNot] [.Constant .none j p] pos) env (!isNonD d) :=
  cmpT (op := .Lt) (pt_cmpR op_notN e_w e_w (nomark _)) h1 xd_non fun F H v w fr p1 p2 Q q => ⟨dN p2, by rw [dp_non p1]; exact q _ F H (Gro.refl fr) (.bl _)⟩
theorem xt_not {b : Bool} (h : XT X e env b) : XT X (.UnaryOp .Not e pos) env (!b) := fun F0 H0 F σ H E Q q =>
  t_of (pt_not t_w) (h _ _ F σ H E _ fun F1 H1 g => q F1 H1 g)
theorem xw_and1 {b : Bool} (h : XT X e env b) : XW X (.BoolOp .And [e] pos) env b := fun F0 H0 F σ H E Q q => w_of (pw_and1 t_w) (h _ _ F σ H E _ q)
theorem xw_or1 {b : Bool} (h : XT X e env b) : XW X (.BoolOp .Or [e] pos) env b := fun F0 H0 F σ H E Q q => w_of (pw_or1 t_w) (h _ _ F σ H E _ q)
theorem xw_and {a b : Bool} (h1 : XT X e env a) (h2 : a = true → XW X (.BoolOp .And (e2 :: es) pos) env b) : XW X (.BoolOp .And (e :: e2 :: es) pos) env (a && b) := by
  intro F0 H0 F σ H E Q q
  refine w_of (pw_and t_w w_w) (h1 _ _ F σ H E _ fun F1 H1 g1 => ?_)
  cases a with
  | true => exact iteT (h2 rfl _ _ F1 σ H1 (E.grow g1) _ fun F2 H2 g2 => q F2 H2 (g1.trans g2))
  | false => exact iteF (q F1 H1 g1)
theorem xw_or {a b : Bool} (h1 : XT X e env a) (h2 : a = false → XW X (.BoolOp .Or (e2 :: es) pos) env b) : XW X (.BoolOp .Or (e :: e2 :: es) pos) env (a || b) := by
  intro F0 H0 F σ H E Q q
  refine w_of (pw_or t_w w_w) (h1 _ _ F σ H E _ fun F1 H1 g1 => ?_)
  cases a with
  | false => exact iteF (h2 rfl _ _ F1 σ H1 (E.grow g1) _ fun F2 H2 g2 => q F2 H2 (g1.trans g2))
  | true => exact iteT (q F1 H1 g1)
theorem XW.t {b : Bool} (h : XW X e env b) : XT X e env b := fun F0 H0 F σ H E Q q => t_of w_w.pt (h _ _ F σ H E _ q)
theorem XT.is {a b : Bool} (h : XT X e env a) (q : a = b) : XT X e env b := q ▸ h
/-! ### and, or, not as values of bools; if-else -/
theorem xd_one {op} (h : XD X e env d) : XD X (.BoolOp op [e] pos) env d := fun F0 H0 F σ H E Q q => e_of (pe_one e_w) (h _ _ F σ H E Q q)
theorem xd_and {a b : Bool} (h1 : XD X e env (.bool a)) (h2 : a = true → XD X (.BoolOp .And (e2 :: es) pos) env (.bool b)) : XD X (.BoolOp .And (e :: e2 :: es) pos) env (.bool (a && b)) := by
  intro F0 H0 F σ H E Q q
  refine e_of (pe_and e_w e_w) (h1 _ _ F σ H E _ fun v F1 H1 g1 p1 => ⟨a, dB p1, ?_⟩)
  cases a with
  | true => exact iteT (h2 rfl _ _ F1 σ H1 (E.grow g1) _ fun u F2 H2 g2 p2 => q u F2 H2 (g1.trans g2) p2)
  | false => exact iteF (q _ F1 H1 g1 (.bl _))
theorem xd_or {a b : Bool} (h1 : XD X e env (.bool a)) (h2 : a = false → XD X (.BoolOp .Or (e2 :: es) pos) env (.bool b)) : XD X (.BoolOp .Or (e :: e2 :: es) pos) env (.bool (a || b)) := by
  intro F0 H0 F σ H E Q q
  refine e_of (pe_or e_w e_w) (h1 _ _ F σ H E _ fun v F1 H1 g1 p1 => ⟨a, dB p1, ?_⟩)
  cases a with
  | false => exact iteF (h2 rfl _ _ F1 σ H1 (E.grow g1) _ fun u F2 H2 g2 p2 => q u F2 H2 (g1.trans g2) p2)
  | true => exact iteT (q _ F1 H1 g1 (.bl _))
theorem xd_not {a : Bool} (h1 : XD X e env (.bool a)) : XD X (.UnaryOp .Not e pos) env (.bool (!a)) := fun F0 H0 F σ H E Q q =>
  e_of (pe_not e_w) (h1 _ _ F σ H E _ fun v F1 H1 g1 p1 => ⟨a, dB p1, q _ F1 H1 g1 (.bl _)⟩)
theorem xd_ifx {b : Bool} {c : Expr} (h : XT X c env b) (h1 : b = true → XD X e env d1) (h2 : b = false → XD X e2 env d2) : XD X (.IfExp c e e2 pos) env (if b = true then d1 else d2) := by
  intro F0 H0 F σ H E Q q
  refine e_of (pe_ifExp t_w e_w e_w) (h _ _ F σ H E _ fun F1 H1 g1 => ?_)
  cases b with
  | true => exact iteT (h1 rfl _ _ F1 σ H1 (E.grow g1) _ fun u F2 H2 g2 p2 => q u F2 H2 (g1.trans g2) p2)
  | false => exact iteF (h2 rfl _ _ F1 σ H1 (E.grow g1) _ fun u F2 H2 g2 p2 => q u F2 H2 (g1.trans g2) p2)

/-! ### arguments, displays -/
theorem xa_nil : XA X [] env [] := fun F0 H0 F σ H E Q q => a_of pa_nil (q [] F H E.rfl' .nil)
theorem xa_cons {ds : List PyData} (h : XD X e env d) (hr : XA X es env ds) (hs : starEach (e :: es) X.env = (false, eval e X.env) :: starEach es X.env := by rfl) : XA X (e :: es) env (d :: ds) := by
  intro F0 H0 F σ H E Q q
  refine a_of (pa_cons e_w a_w hs) ?_
  refine h _ _ F σ H E _ fun v F1 H1 g1 p1 => ?_
  exact hr _ _ F1 σ H1 (E.grow g1) _ fun vs F2 H2 g2 p2 => q _ F2 H2 (g1.trans g2) (.cons (dp_mono g2.f p1) p2)
theorem xd_tup {ds : List PyData} {j} (h : XA X es env ds) (hz : ds.length ≤ sizeLine := by first | decide | (simp only [List.length_cons, List.length_nil]; decide)) : XD X (.Tuple es j pos) env (.tuple ds) := by
  intro F0 H0 F σ H E Q q
  refine e_of (pe_tup a_w) (h _ _ F σ H E _ fun vs F1 H1 g1 p1 => ⟨by rw [dpAll_len p1]; exact hz, fun p hp => ?_⟩)
  have g := Gro.new (o := .tup vs) g1.fr hp
  exact q _ _ _ (g1.trans g) (.tup (.inl (.inl upd_same)) (dpAll_mono g.f p1))
theorem xl_lst {ds : List PyData} (h : XA X es env ds) (hz : ds.length ≤ sizeLine := by first | decide | (simp only [List.length_cons, List.length_nil]; decide)) : XL X (.List es pos) env ds := by
  intro F0 H0 F σ H E Q q
  refine e_of (pe_lst a_w) (h _ _ F σ H E _ fun vs F1 H1 g1 p1 => ⟨by rw [dpAll_len p1]; exact hz, fun p hp => ?_⟩)
  exact q p vs F1 _ (g1.trans (Gro.own g1.fr hp)) (g1.h.free hp) (g1.fr.free hp) upd_same p1
theorem XL.dat {ds : List PyData} (h : XL X e env ds) : XD X e env (.list ds) := by
  intro F0 H0 F σ H E Q q
  refine h _ _ F σ H E _ fun p vs F1 H1 g1 hp fp h1 p1 => ?_
  have s1 : Sm F1 (upd F1 p (.lst vs)) := same_new fp
  refine q _ (upd F1 p (.lst vs)) H1 ⟨g1.f.trans s1, g1.h, g1.fr.updF h1, fun b z1 z2 => ?_⟩ (.lst (.inl (.inl upd_same)) (dpAll_mono s1 p1))
  have e1 : b ≠ p := fun z => z1 (z ▸ hp)
  rw [upd_ne e1]; exact g1.sep b z1 z2
theorem xd_lst {ds : List PyData} (h : XA X es env ds) (hz : ds.length ≤ sizeLine := by first | decide | (simp only [List.length_cons, List.length_nil]; decide)) : XD X (.List es pos) env (.list ds) := XL.dat (xl_lst h hz)
end
end FR

namespace FR
open PySem PySem.Spec PyProof.Rows L2

/-! ## statements -/
section
variable {X : Cx} {e e2 e3 tg iter : Expr} {es : List Expr} {st : Stmt} {ss body : List Stmt} {env : AEnv} {d d1 d2 : PyData} {A : AE} {pos p p2 : Pos}

theorem Lk.then {K : KW} {F0 H0 : Hp} {A : AE} {D : Ends} (l : Lk K F0 H0 A D) {N : AEnv → Prop} {M : L2.St → Hp → Prop} (h : ∀ env F σ H, EnvAt K F0 H0 F σ H env → N env → M σ H) : Lk K F0 H0 { A with nx := N } { D with nx := M } :=
  ⟨h, l.rt, l.bk, l.ct, l.rs⟩
theorem xb_nil (h : A.nx env) : XB X [] env A := fun F0 H0 F σ H D E l => b_of pss_nil (l.nx env F σ H E h)
theorem xb_cons (h : XS X st env { A with nx := fun env' => XB X ss env' A }) : XB X (st :: ss) env A := fun F0 H0 F σ H D E l =>
  b_of (pss_cons s_w b_w) (h F0 H0 F σ H { D with nx := wB X ss D } E (l.then fun env' F' σ' H' E' q => q F0 H0 F' σ' H' D E' l))
/-- a block by its middle -/
theorem xb_cut {M : AEnv → Prop} (h : XS X st env { A with nx := M }) (k : ∀ env', M env' → XB X ss env' A) : XB X (st :: ss) env A := fun F0 H0 F σ H D E l =>
  b_of (pss_cons s_w b_w) (h F0 H0 F σ H { D with nx := wB X ss D } E (l.then fun env' F' σ' H' E' q => k env' q F0 H0 F' σ' H' D E' l))
theorem xb_weak {env' : AEnv} (h : XB X ss env' A) (hl : env'.length = env.length := by rfl) (w : ∀ (i : Nat) (av : AV), env'[i]? = some (some av) → env[i]? = some (some av)) : XB X ss env A := fun F0 H0 F σ H D E l =>
  h F0 H0 F σ H D (E.forget hl w) l
theorem xb_freeze (i : Nat) {xs : List PyData} (hi : env[i]? = some (some (.l xs))) (h : XB X ss (env.set i (some (.d (.list xs)))) A) : XB X ss env A := fun F0 H0 F σ H D E l => by
  obtain ⟨F', E', _⟩ := E.freeze hi
  exact h F0 H0 F' σ H D E' l
theorem xs_ret (h : XD X e env d) (hr : A.rt d) : XS X (.Return (some e) pos) env A := fun F0 H0 F σ H D E l =>
  s_of (ps_ret e_w) (h _ _ F σ H E _ fun v F1 H1 g1 p1 => l.rt v d F1 H1 (E.gro.trans g1) p1 hr)
theorem xs_retN (hr : A.rt .none) : XS X (.Return none pos) env A := fun F0 H0 F σ H D E l => s_of ps_retN (l.rt _ _ F H E.gro .non hr)
theorem xs_if {b : Bool} {a c : List Stmt} (h : XT X e env b) (h1 : b = true → XB X a env A) (h2 : b = false → XB X c env A) : XS X (.If e a c pos) env A := fun F0 H0 F σ H D E l => by
  refine s_of (ps_if t_w b_w b_w) (h _ _ F σ H E _ fun F1 H1 g1 => ?_)
  cases b with
  | true => exact iteT (h1 rfl F0 H0 F1 σ H1 D (E.grow g1) l)
  | false => exact iteF (h2 rfl F0 H0 F1 σ H1 D (E.grow g1) l)
theorem xs_pass (h : A.nx env) : XS X (.Pass pos) env A := fun F0 H0 F σ H D E l => s_of ps_pass (l.nx env F σ H E h)
theorem xs_break (h : A.bk env) : XS X (.Break pos) env A := fun F0 H0 F σ H D E l => s_of ps_break (l.bk env F σ H E h)
theorem xs_cont (h : A.ct env) : XS X (.Continue pos) env A := fun F0 H0 F σ H D E l => s_of ps_continue (l.ct env F σ H E h)
theorem xs_drop (h : XD X e env d) (hn : A.nx env) (hs : swapsWith e none pos.line X.env = pure false := by rfl) : XS X (.Expr e pos) env A := fun F0 H0 F σ H D E l =>
  s_of (ps_expr e_w hs) (h _ _ F σ H E _ fun v F1 H1 g1 p1 => l.nx env F1 σ H1 (E.grow g1) hn)
/-- name = data -/
theorem xs_set {i : Nat} {x : Str} (h : XD X e env d) (hn : A.nx (env.set i (some (.d d)))) (hN : X.N.Nodup) (hi : X.N[i]? = some x := by rfl) (hx : Loc X.env.scope x := by first | exact .inl rfl | exact .inr rfl)
    (hs : swapsWith e (some (.Name x p)) pos.line X.env = pure false := by rfl) (hf : X.fn x = true ∨ X.env.scope.names.lookup x = some .local := by first | exact .inl rfl | exact .inr rfl) : XS X (.Assign [.Name x p] e pos) env A := fun F0 H0 F σ H D E l =>
  s_of (ps_set hN hi hx e_w hs hf) (h _ _ F σ H E _ fun v F1 H1 g1 p1 => l.nx _ F1 _ H1 ((E.grow g1).set (av := .d d) p1 rfl) hn)
theorem xs_setP {i : Nat} {x : Str} {φ : Hp → V → Prop} (hφ : ∀ H H' v, Sm H H' → φ H v → φ H' v) (h : XP X e env φ) (hn : A.nx (env.set i (some (.p φ hφ)))) (hN : X.N.Nodup) (hi : X.N[i]? = some x := by rfl) (hx : Loc X.env.scope x := by first | exact .inl rfl | exact .inr rfl)
    (hs : swapsWith e (some (.Name x p)) pos.line X.env = pure false := by rfl) (hf : X.fn x = true ∨ X.env.scope.names.lookup x = some .local := by first | exact .inl rfl | exact .inr rfl) : XS X (.Assign [.Name x p] e pos) env A := fun F0 H0 F σ H D E l =>
  s_of (ps_set hN hi hx e_w hs hf) (h _ _ F σ H E _ fun v F1 H1 g1 p1 => l.nx _ F1 _ H1 ((E.grow g1).set (av := .p φ hφ) p1 rfl) hn)
/-- name = a new list, one's own -/
theorem xs_setL {i : Nat} {x : Str} {xs : List PyData} (h : XL X e env xs) (hn : A.nx (env.set i (some (.l xs)))) (hN : X.N.Nodup) (hi : X.N[i]? = some x := by rfl) (hx : Loc X.env.scope x := by first | exact .inl rfl | exact .inr rfl)
    (hs : swapsWith e (some (.Name x p)) pos.line X.env = pure false := by rfl) (hf : X.fn x = true ∨ X.env.scope.names.lookup x = some .local := by first | exact .inl rfl | exact .inr rfl) : XS X (.Assign [.Name x p] e pos) env A := fun F0 H0 F σ H D E l => by
  refine s_of (ps_set hN hi hx e_w hs hf) (h _ _ F σ H E _ fun a vs F1 H1 g1 n1 n2 e1 p1 => ?_)
  exact l.nx _ F1 _ H1 (E.newL g1 e1 p1 n1 n2) hn
/-- name op= data -/
theorem xs_aug {i : Nat} {x : Str} {op : Operator} {r : TIp} (hv : env[i]? = some (some (.d d1))) (h : XD X e env d2) (ho : PIp X op r) (hr : OpD X.kw r d1 d2 d) (hn : A.nx (env.set i (some (.d d)))) (hN : X.N.Nodup) (hi : X.N[i]? = some x := by rfl) (hx : Loc X.env.scope x := by first | exact .inl rfl | exact .inr rfl)
    (hf : X.fn x = true ∨ X.env.scope.names.lookup x = some .local := by first | exact .inl rfl | exact .inr rfl) : XS X (.AugAssign (.Name x p) op e pos) env A := fun F0 H0 F σ H D E l => by
  obtain ⟨v, s1, pv⟩ := E.slot i _ hv
  refine s_of (ps_aug hN hi hx e_w ho hf) ⟨v, s1, h _ _ F σ H E _ fun w F1 H1 g1 p1 => ?_⟩
  exact hr F1 H1 v w g1.fr (dp_mono g1.f pv) p1 _ fun u F2 H2 g2 p2 => l.nx _ F2 _ H2 ((E.grow (g1.trans g2)).set (av := .d d) p2 rfl) hn
/-- xs.append(e), xs one's own -/
theorem xs_append {i : Nat} {x : Str} {xs : List PyData} {apos cpos : Pos} (hv : env[i]? = some (some (.l xs))) (h : XD X e env d) (hz : xs.length < sizeLine) (hn : A.nx (env.set i (some (.l (xs ++ [d]))))) (hN : X.N[i]? = some x := by rfl) (hs : Vis X.env.scope x := by first | exact Or.inl rfl | exact Or.inr (Or.inl rfl) | exact Or.inr (Or.inr rfl))
    (hd : (x == ("__debug__" : Str)) = false := by decide) (hc : (x == ("__classdict__" : Str)) = false := by decide)
    (hbase : attributeBase (.Name x p) "append" X.env (eval (.Name x p) X.env) = eval (.Name x p) X.env := by rfl)
    (hfew : ((backTo cpos (starEach [e] X.env)).all (fun x => !x.1) && (backToKw cpos (keywordEach [] X.env)).all (fun x => x.1.isSome)
      && decide ([e].length + ([] : List Keyword).length + (if ([] : List Keyword).isEmpty then 0 else 1) < 30)) = true := by rfl)
    (hline : (apos.endLine == cpos.line) = true := by rfl) (hst : starEach [e] X.env = (false, eval e X.env) :: starEach [] X.env := by rfl) (hplain : (backTo cpos (starEach [] X.env)).any (·.1) = false := by rfl)
    (hsw : swapsWith (.Call (.Attribute (.Name x p) "append" apos) [e] [] cpos) none pos.line X.env = pure false := by rfl) :
    XS X (.Expr (.Call (.Attribute (.Name x p) "append" apos) [e] [] cpos) pos) env A := fun F0 H0 F σ H D E l => by
  obtain ⟨v, s1, a, vs, ea, h1, h2⟩ := E.slot i _ hv
  cases ea
  refine s_of (ps_expr (pe_bm PySem.F.plainAttrs_list PySem.F.slot_list_append PySem.F.type_list_append mt_append (pe_var hN hs hd hc) (pa_cons e_w pa_nil hst) hbase hfew hline hst hplain) hsw) ?_
  refine ⟨_, s1, .inl ⟨rfl, _, .inl (.inl h1)⟩, ?_⟩
  refine h _ _ F σ H E _ fun w F1 H1 g1 p1 => ?_
  refine ⟨a, vs, w, rfl, rfl, g1.h.get h1, by rw [dpAll_len h2]; exact hz, ?_⟩
  have E1 := E.grow g1
  exact l.nx _ F1 σ _ (E1.changeL hv s1 (dpAll_append (dpAll_mono g1.f h2) (.cons p1 .nil))) hn

/-! ## targets -/
structure wG (X : Cx) (tg : Expr) (v : V) (σ : L2.St) (H : Hp) (Q : L2.St → Hp → Prop) : Prop where
  run : ∀ pins s u, Inv X pins σ H s → RelV v u → wpAny (model X.prog X.w) X.A (assign tg X.env u) (fun _ s' => ∃ σ' H', Inv X pins σ' H' s' ∧ Q σ' H') X.xe s
theorem g_w : PG X tg (wG X tg) := ⟨fun pins s σ H v u Q I r h => h.run pins s u I r⟩
theorem g_of {t : TG} (h : PG X tg t) {v : V} {σ : L2.St} {H : Hp} {Q : L2.St → Hp → Prop} (q : t v σ H Q) : wG X tg v σ H Q := ⟨fun pins s u I r => h.run pins s σ H v u Q I r q⟩
/-- data stored in a target, the slots js alone touched -/
def XG (X : Cx) (tg : Expr) (js : List Nat) (env : AEnv) (d : PyData) (env' : AEnv) : Prop :=
  ∀ F0 H0 F σ H v, EnvAt X.kw F0 H0 F σ H env → Dp X.kw F v d → ∀ Q : L2.St → Hp → Prop, (∀ σ' F' H', Gro F H F' H' → EnvAt X.kw F0 H0 F' σ' H' env' → (∀ j, j ∉ js → σ'[j]? = σ[j]?) ∧ σ'.length = σ.length → Q σ' H') → wG X tg v σ H Q
theorem xg_name {i : Nat} {x : Str} {js : List Nat} (hN : X.N.Nodup) (hi : X.N[i]? = some x := by rfl) (hx : Loc X.env.scope x := by first | exact .inl rfl | exact .inr rfl)
    (hf : X.fn x = true ∨ X.env.scope.names.lookup x = some .local := by first | exact .inl rfl | exact .inr rfl) (hj : i ∈ js := by simp) : XG X (.Name x p) js env d (env.set i (some (.d d))) := fun F0 H0 F σ H v E h Q q =>
  g_of (pg_name hN hi hx hf) (q _ F H E.rfl' (E.set (av := .d d) h rfl) ⟨fun j n => List.getElem?_set_ne (fun z => n (by rw [← z]; exact hj)), List.length_set⟩)
/-- several targets -/
def XGs (X : Cx) (tgs : List Expr) (js : List Nat) (env : AEnv) (ds : List PyData) (env' : AEnv) : Prop :=
  ∃ ts : TGs, PGs X tgs ts ∧ ∀ F0 H0 F σ H vs, EnvAt X.kw F0 H0 F σ H env → DpAll X.kw F vs ds → ∀ Q : L2.St → Hp → Prop, (∀ σ' F' H', Gro F H F' H' → EnvAt X.kw F0 H0 F' σ' H' env' → (∀ j, j ∉ js → σ'[j]? = σ[j]?) ∧ σ'.length = σ.length → Q σ' H') → ts vs σ H Q
theorem xgs_nil {js : List Nat} : XGs X [] js env [] env := ⟨_, pgs_nil, fun F0 H0 F σ H vs E h Q q => by
  cases h
  exact ⟨rfl, q σ F H E.rfl' E ⟨fun _ _ => rfl, rfl⟩⟩⟩
theorem xgs_cons {js : List Nat} {env1 env2 : AEnv} {ds : List PyData} (h1 : XG X e js env d env1) (h2 : XGs X es js env1 ds env2) (hs : (assignEach (e :: es) X.env).map (·.2) = assign e X.env :: (assignEach es X.env).map (·.2) := by rfl) :
    XGs X (e :: es) js env (d :: ds) env2 := by
  obtain ⟨ts, hp, ht⟩ := h2
  refine ⟨_, pgs_cons g_w hp hs, fun F0 H0 F σ H vs E h Q q => ?_⟩
  cases h with
  | cons ha hb =>
    refine ⟨_, _, rfl, h1 F0 H0 F σ H _ E ha _ fun σ1 F1 H1 g1 E1 k1 => ?_⟩
    exact ht F0 H0 F1 σ1 H1 _ E1 (dpAll_mono g1.f hb) Q fun σ2 F2 H2 g2 E2 k2 => q σ2 F2 H2 (g1.trans g2) E2 ⟨fun j n => (k2.1 j n).trans (k1.1 j n), k2.2.trans k1.2⟩
theorem xg_tup {js : List Nat} {env2 : AEnv} {ds : List PyData} {k : Nat} (hc : X.calm = true) (h : XGs X es js env ds env2) (hn : (assignEach es X.env).length = ds.length := by rfl) (hst : (assignEach es X.env).findIdx? (·.1) = none := by rfl) :
    XG X (.Tuple es k p) js env (.tuple ds) env2 := fun F0 H0 F σ H v E hd Q q => by
  obtain ⟨ts, hp, ht⟩ := h
  obtain ⟨a, vs, rfl, h1, h2⟩ := dT hd
  exact g_of (pg_tup hc hp hn hst) ⟨a, vs, rfl, seqT_mono E.fr h1, dpAll_len h2, ht F0 H0 F σ H vs E h2 Q q⟩
theorem xs_asg {js : List Nat} {env2 : AEnv} (h : XD X e env d) (hg : XG X tg js env d env2) (hn : A.nx env2) (hs : swapsWithSole [tg] e pos.line X.env = pure false := by rfl) (hw : swappedStores [tg] e X.env = pure none := by rfl)
    (h1 : (assignEach [tg] X.env).map (·.2) = [assign tg X.env] := by rfl) : XS X (.Assign [tg] e pos) env A := fun F0 H0 F σ H D E l =>
  s_of (ps_asg e_w g_w hs hw h1) (h _ _ F σ H E _ fun v F1 H1 g1 p1 => hg F0 H0 F1 σ H1 v (E.grow g1) p1 _ fun σ2 F2 H2 g2 E2 _ => l.nx _ F2 σ2 H2 E2 hn)

/-! ## walks -/
/-- an iterator gives n things, each data (where F is so) -/
def ItD (K : KW) (F1 : Hp) (J : It) (n : Nat) (it : Nat → PyData) : Prop :=
  ∀ F H, Sm F1 F → Sm F H → (∀ i, i < n → J.go i H ∧ ∀ x H', J.yld i H x H' → ∃ F', Gro F H F' H' ∧ Dp K F' x (it i)) ∧ J.stop n H
def XI (X : Cx) (tg iter : Expr) (env : AEnv) (n : Nat) (it : Nat → PyData) : Prop :=
  ∀ F0 H0 F σ H, EnvAt X.kw F0 H0 F σ H env → ∀ R : It → Hp → Prop, (∀ J F1 H1, Gro F H F1 H1 → ItD X.kw F1 J n it → R J H1) → wI X tg iter σ H R
theorem seqL_inj {K : KW} {H : Hp} {a : Addr} {xs ys : List V} (h : H a = some (.lst xs)) (h' : SqL K H a ys) (hk : K.f.lookup a = none) : xs = ys := by
  rcases h' with (z | ⟨o, z⟩) | ⟨o, its, n, z, _⟩
  · rw [h] at z; cases z; rfl
  · rw [h] at z; cases z
  · rw [hk] at z; cases z
theorem getD_of {α : Type} {xs : List α} {i : Nat} {x z : α} (h : xs[i]? = some x) : xs.getD i z = x := by
  rw [List.getD_eq_getElem?_getD, h]; rfl
theorem xi_list {ds : List PyData} (h : XD X iter env (.list ds)) : XI X tg iter env ds.length (fun i => ds.getD i .none) := fun F0 H0 F σ H E R q => by
  refine i_of (pi_list e_w) (h _ _ F σ H E _ fun v F1 H1 g1 p1 => ?_)
  obtain ⟨a, vs, rfl, h1, h2⟩ := dL p1
  refine ⟨a, rfl, ⟨vs, g1.fr.seq h1⟩, q _ F1 H1 g1 fun F2 H2 s1 s2 => ⟨fun i hi => ?_, ⟨vs, (s1.trans s2).seq h1, Nat.le_of_eq (dpAll_len h2)⟩⟩⟩
  have hi' : i < vs.length := by rw [dpAll_len h2]; exact hi
  refine ⟨⟨vs, vs[i], (s1.trans s2).seq h1, List.getElem?_eq_getElem hi'⟩, fun x H' ⟨e1, e2⟩ => ⟨F2, by rw [e1]; exact Gro.refl s2, ?_⟩⟩
  obtain ⟨d, hd, hp⟩ := dpAll_getV h2 (e2 vs ((s1.trans s2).seq h1))
  have e3 : ds.getD i .none = d := getD_of hd
  show Dp X.kw F2 x (ds.getD i .none)
  rw [e3]
  exact dp_mono s1 hp
theorem xi_tup {ds : List PyData} (h : XD X iter env (.tuple ds)) : XI X tg iter env ds.length (fun i => ds.getD i .none) := fun F0 H0 F σ H E R q => by
  refine i_of (pi_tup e_w) (h _ _ F σ H E _ fun v F1 H1 g1 p1 => ?_)
  obtain ⟨a, vs, rfl, h1, h2⟩ := dT p1
  refine ⟨a, rfl, ⟨vs, seqT_mono g1.fr h1⟩, q _ F1 H1 g1 fun F2 H2 s1 s2 => ⟨fun i hi => ?_, ⟨vs, seqT_mono (s1.trans s2) h1, Nat.le_of_eq (dpAll_len h2)⟩⟩⟩
  have hi' : i < vs.length := by rw [dpAll_len h2]; exact hi
  refine ⟨⟨vs, vs[i], seqT_mono (s1.trans s2) h1, List.getElem?_eq_getElem hi'⟩, fun x H' ⟨e1, e2⟩ => ⟨F2, by rw [e1]; exact Gro.refl s2, ?_⟩⟩
  obtain ⟨d, hd, hp⟩ := dpAll_getV h2 (e2 vs (seqT_mono (s1.trans s2) h1))
  have e3 : ds.getD i .none = d := getD_of hd
  show Dp X.kw F2 x (ds.getD i .none)
  rw [e3]
  exact dp_mono s1 hp
theorem itd_rng {K : KW} {F1 : Hp} {lo : Int} {n : Nat} : ItD K F1 (Itr lo n) n (fun i => .int (lo + i)) := fun F H s1 s2 =>
  ⟨fun i hi => ⟨hi, fun x H' ⟨e1, e2⟩ => ⟨F, by rw [e1]; exact Gro.refl s2, by rw [e2]; exact .int _⟩⟩, Nat.le_refl n⟩
theorem xi_rng1 {j : Int} (h : XD X e env (.int j)) (hb : -(2 ^ 62) ≤ j ∧ j < 2 ^ 62) (hm : X.mg "range" = none) (hg : Gl X "range" := by rfl) (hs : starEach [e] X.env = [(false, eval e X.env)] := by rfl) :
    XI X tg (.Call (.Name "range" p) [e] [] pos) env j.toNat (fun i => .int (0 + (i : Int))) := fun F0 H0 F σ H E R q =>
  i_of (pi_range1 hg hm (pa_cons e_w pa_nil hs) hs) (h _ _ F σ H E _ fun v F1 H1 g1 p1 => ⟨j, by rw [dI p1], hb.1, hb.2, q _ F1 H1 g1 itd_rng⟩)
theorem xi_rng2 {i j : Int} (h : XD X e env (.int i)) (h' : XD X e2 env (.int j)) (hb : -(2 ^ 62) ≤ i ∧ i < 2 ^ 62 ∧ -(2 ^ 62) ≤ j ∧ j < 2 ^ 62) (hm : X.mg "range" = none) (hg : Gl X "range" := by rfl)
    (hs : starEach [e, e2] X.env = [(false, eval e X.env), (false, eval e2 X.env)] := by rfl) (hs2 : starEach [e2] X.env = [(false, eval e2 X.env)] := by rfl) :
    XI X tg (.Call (.Name "range" p) [e, e2] [] pos) env (j - i).toNat (fun k => .int (i + (k : Int))) := fun F0 H0 F σ H E R q =>
  i_of (pi_range2 hg hm (pa_cons e_w (pa_cons e_w pa_nil hs2) (by rw [hs, hs2])) hs hs2) (h _ _ F σ H E _ fun v F1 H1 g1 p1 => h' _ _ F1 σ H1 (E.grow g1) _ fun w F2 H2 g2 p2 =>
    ⟨i, j, by rw [dI p1, dI p2], hb, q _ F2 H2 (g1.trans g2) itd_rng⟩)
theorem xi_str {z : Str} (h : XD X iter env (.str z)) : XI X tg iter env z.cps.size (fun i => .str ⟨#[z.cps.getD i 0]⟩) := fun F0 H0 F σ H E R q => by
  refine i_of (pi_str e_w) (h _ _ F σ H E _ fun v F1 H1 g1 p1 => ⟨z, dS p1, q _ F1 H1 g1 fun F2 H2 s1 s2 => ⟨fun i hi => ⟨hi, fun x H' ⟨e1, c, e2, e3⟩ => ⟨F2, by rw [e1]; exact Gro.refl s2, ?_⟩⟩, Nat.le_refl _⟩⟩)
  have : z.cps.getD i 0 = c := by simp [Array.getD_eq_getD_getElem?, e2]
  show Dp X.kw F2 x (.str ⟨#[z.cps.getD i 0]⟩)
  rw [e3, this]
  exact .str _

/-- the entry moved to here -/
def joinH (H0 F : Hp) : Hp := fun b => match F b with
  | some o => some o
  | none => H0 b
theorem join_of {H0 F : Hp} {b : Addr} {o : HO} (h : joinH H0 F b = some o) : F b = some o ∨ (F b = none ∧ H0 b = some o) := by
  unfold joinH at h
  cases q : F b with
  | none => rw [q] at h; exact .inr ⟨rfl, h⟩
  | some u => rw [q] at h; exact .inl h
theorem join_none {H0 F : Hp} {b : Addr} (h1 : F b = none) (h2 : H0 b = none) : joinH H0 F b = none := by
  unfold joinH; rw [h1]; exact h2
theorem join_none' {H0 F : Hp} {b : Addr} (h : joinH H0 F b = none) : F b = none ∧ H0 b = none := by
  unfold joinH at h
  cases q : F b with
  | none => rw [q] at h; exact ⟨rfl, h⟩
  | some u => rw [q] at h; cases h
theorem join_sm {F0 H0 F H : Hp} (g : Gro F0 H0 F H) : Sm (joinH H0 F) H := ⟨fun b u q n => by
  rcases join_of q with z | ⟨_, z⟩
  · exact g.fr.all b u z n
  · exact g.h.all b u z n, fun b ps q => by
  rcases join_of q with z | ⟨_, z⟩
  · exact g.fr.tab b ps z
  · exact g.h.tab b ps z⟩
theorem EnvP.rebase {K : KW} {F0 H0 F : Hp} {σ : L2.St} {H : Hp} {env : AEnv} {fp : Nat → List Addr} (E : EnvP K F0 H0 F σ H env fp) : EnvP K F (joinH H0 F) F σ H env fp where
  gro := ⟨Sm.refl F, join_sm E.gro, E.fr, fun a h1 h2 => h2⟩
  len := E.len
  slot := E.slot
  mine := fun i a q => by
    obtain ⟨z1, z2, z3⟩ := E.mine i a q
    exact ⟨join_none z2 z1, z2, z3⟩
  apart := E.apart
theorem EnvAt.rebase {K : KW} {F0 H0 F : Hp} {σ : L2.St} {H : Hp} {env : AEnv} (E : EnvAt K F0 H0 F σ H env) : EnvAt K F (joinH H0 F) F σ H env := let ⟨fp, h⟩ := E; ⟨fp, h.rebase⟩
theorem gro_unbase {F0 H0 F H F' H' : Hp} (g0 : Gro F0 H0 F H) (g : Gro F (joinH H0 F) F' H') : Gro F0 H0 F' H' := by
  refine ⟨g0.f.trans g.f, ⟨fun b o h n => ?_, fun b ps h => ?_⟩, g.fr, fun a h1 h2 => ?_⟩
  · cases q : F b with
    | none => exact g.h.all b o (by unfold joinH; rw [q]; exact h) n
    | some u =>
      have e1 := g0.h.all b o h n
      rcases tbl_or u with ⟨ps, rfl⟩ | nu
      · obtain ⟨qs, e2⟩ := g0.fr.tab b ps q
        rw [e1] at e2; cases e2
        exact absurd rfl (n qs)
      · have e2 := g0.fr.all b u q nu
        rw [e1] at e2
        cases e2
        exact g.h.all b o (by unfold joinH; rw [q]) n
  · cases q : F b with
    | none => exact g.h.tab b ps (by unfold joinH; rw [q]; exact h)
    | some u =>
      obtain ⟨qs, e1⟩ := g0.h.tab b ps h
      rcases tbl_or u with ⟨rs, rfl⟩ | nu
      · exact g.h.tab b rs (by unfold joinH; rw [q])
      · have e2 := g0.fr.all b u q nu
        rw [e1] at e2
        cases e2
        exact absurd rfl (nu qs)
  · have e1 := g0.sep a h1 h2
    exact g.sep a (fun z => h1 (join_none' z).2) e1
theorem EnvP.unbase {K : KW} {F0 H0 F F' : Hp} {σ' : L2.St} {H H' : Hp} {env' : AEnv} {fp' : Nat → List Addr} (g : Gro F0 H0 F H) (E' : EnvP K F (joinH H0 F) F' σ' H' env' fp') : EnvP K F0 H0 F' σ' H' env' fp' where
  gro := gro_unbase g E'.gro
  len := E'.len
  slot := E'.slot
  mine := fun i a q => by
    obtain ⟨z1, z2, z3⟩ := E'.mine i a q
    exact ⟨(join_none' z1).2, z2, z3⟩
  apart := E'.apart
theorem EnvAt.unbase {K : KW} {F0 H0 F F' : Hp} {σ σ' : L2.St} {H H' : Hp} {env env' : AEnv} (E : EnvAt K F0 H0 F σ H env) (E' : EnvAt K F (joinH H0 F) F' σ' H' env') : EnvAt K F0 H0 F' σ' H' env' ∧ Sm F F' :=
  let ⟨fp, h⟩ := E'; ⟨⟨fp, h.unbase E.gro⟩, h.gro.f⟩
theorem join_froz {F0 H0 F H' : Hp} {f : List Addr} (h : ∀ a ∈ f, F a = none) : froz (joinH H0 F) H' f = joinH (froz H0 H' f) F := by
  funext b
  by_cases z : b ∈ f
  · rw [froz_in z]; unfold joinH; rw [h b z]; exact (froz_in z).symm
  · rw [froz_out z]; unfold joinH
    cases F b with
    | none => exact (froz_out z).symm
    | some u => rfl
/-- .. with an answer's places beside -/
theorem EnvAt.unbaseS {K : KW} {F0 H0 F F' : Hp} {σ' : L2.St} {H H' : Hp} {env' : AEnv} {f : List Addr} (g : Gro F0 H0 F H) (hf : ∀ a ∈ f, H0 a = none ∧ F' a = none) (hz : ∀ a ∈ f, H' a ≠ none) (E' : EnvAt K F (froz (joinH H0 F) H' f) F' σ' H' env') : EnvAt K F0 (froz H0 H' f) F' σ' H' env' := by
  obtain ⟨fp, E⟩ := E'
  have g1 := E.gro
  have h0 : ∀ a ∈ f, F a = none := fun a q => g1.f.free (hf a q).2
  have gm : Gro F (joinH H0 F) F' H' := ⟨g1.f, ⟨fun b u q n => g1.h.all b u (by
      rw [froz_out fun z => by rw [join_none (h0 b z) (hf b z).1] at q; cases q]; exact q) n, fun b ps q => g1.h.tab b ps (by
      rw [froz_out fun z => by rw [join_none (h0 b z) (hf b z).1] at q; cases q]; exact q)⟩, g1.fr, fun b q1 q2 => by
      by_cases z : b ∈ f
      · exact (hf b z).2
      · exact g1.sep b (by rw [froz_out z]; exact q1) q2⟩
  have gu := gro_unbase g gm
  refine ⟨fp, ⟨gu.f, ⟨fun b u q n => ?_, fun b ps q => ?_⟩, gu.fr, fun b q1 q2 => ?_⟩, E.len, E.slot, fun i a q => ?_, E.apart⟩
  · by_cases z : b ∈ f
    · rw [froz_in z] at q; exact q
    · rw [froz_out z] at q; exact gu.h.all b u q n
  · by_cases z : b ∈ f
    · rw [froz_in z] at q; exact ⟨ps, q⟩
    · rw [froz_out z] at q; exact gu.h.tab b ps q
  · by_cases z : b ∈ f
    · exact (hf b z).2
    · rw [froz_out z] at q1; exact gu.sep b q1 q2
  · obtain ⟨z1, z2, z3⟩ := E.mine i a q
    refine ⟨?_, z2, z3⟩
    by_cases z : a ∈ f
    · rw [froz_in z] at z1; exact absurd z1 (hz a z)
    · rw [froz_out z] at z1 ⊢; exact (join_none' z1).2
/-- a block, what was fixed ahead of it stays fixed -/
theorem XB.run (h : XB X ss env A) {F0 H0 F H : Hp} {σ : L2.St} {D : Ends} (E : EnvAt X.kw F0 H0 F σ H env)
    (nx : ∀ env' F' σ' H', EnvAt X.kw F0 H0 F' σ' H' env' → Sm F F' → A.nx env' → D.nx σ' H') (rt : ∀ v d F' H', Gro F0 H0 F' H' → Dp X.kw F' v d → A.rt d → D.rt v H')
    (bk : ∀ env' F' σ' H', EnvAt X.kw F0 H0 F' σ' H' env' → Sm F F' → A.bk env' → D.bk σ' H') (ct : ∀ env' F' σ' H', EnvAt X.kw F0 H0 F' σ' H' env' → Sm F F' → A.ct env' → D.ct σ' H')
    (rs : ∀ v r f env' F' σ' H', EnvAt X.kw F0 (froz H0 H' f) F' σ' H' env' → RvOk X.kw F' H' v r f → (∀ a ∈ f, H0 a = none ∧ F' a = none) → A.rs r env' → D.rt v H') : wB X ss D σ H :=
  h F (joinH H0 F) F σ H D E.rebase ⟨fun env' F' σ' H' E' q => let ⟨a, b⟩ := E.unbase E'; nx env' F' σ' H' a b q, fun v d F' H' g p q => rt v d F' H' (gro_unbase E.gro g) p q,
    fun env' F' σ' H' E' q => let ⟨a, b⟩ := E.unbase E'; bk env' F' σ' H' a b q, fun env' F' σ' H' E' q => let ⟨a, b⟩ := E.unbase E'; ct env' F' σ' H' a b q,
    fun v r f env' F' σ' H' E' p hf q => by
      have hf' : ∀ a ∈ f, H0 a = none ∧ F' a = none := fun a z => ⟨(join_none' (hf a z).1).2, (hf a z).2⟩
      exact rs v r f env' F' σ' H' (EnvAt.unbaseS E.gro hf' (fun a z => by
        obtain ⟨u, e1, _⟩ := p.at a z
        rw [e1]; exact fun y => nomatch y) E') p hf' q⟩

/-- for target in iter: body -/
theorem xs_for {n : Nat} {it : Nat → PyData} {js : List Nat} (hi : XI X tg iter env n it) (Iv : Nat → AEnv → Prop) (h0 : Iv 0 env)
    (hs : ∀ i env', i < n → Iv i env' → ∃ env2, XG X tg js env' (it i) env2 ∧ XB X body env2 { nx := Iv (i + 1), ct := Iv (i + 1), bk := A.nx, rt := A.rt, rs := A.rs }) (hd : ∀ env', Iv n env' → A.nx env')
    (hp : PassesOwn (model X.prog X.w) X.A X.env X.xe := by exact PassesOwn.never) (hc : X.calm = true := by rfl) (hfs : ∀ x, foldedSetIterable iter X.env x = pure x := by intro _; rfl) : XS X (.For tg iter body [] pos) env A := fun F0 H0 F σ H D E l => by
  refine s_of (ps_for hp hc i_w g_w b_w hfs) (hi _ _ F σ H E _ fun J F1 H1 g1 hJ => ?_)
  refine ⟨fun i m σ' H' => i + m = n ∧ ∃ F' env', EnvAt X.kw F0 H0 F' σ' H' env' ∧ Sm F1 F' ∧ Iv i env', ⟨n, Nat.zero_add n, F1, env, E.grow g1, Sm.refl F1, h0⟩, fun i m σ' H' hW => ?_⟩
  obtain ⟨em, F', env', E', s', q'⟩ := hW
  by_cases hin : i < n
  · obtain ⟨hgo, hy⟩ := (hJ F' H' s' E'.fr).1 i hin
    refine .inr ⟨hgo, fun σ2 H2 => ∃ F2 env2, EnvAt X.kw F0 H0 F2 σ2 H2 env2 ∧ Sm F1 F2 ∧ Iv (i + 1) env2, fun σ2 H2 ⟨F2, env2, E2, s2, q2⟩ => ⟨m - 1, by omega, by omega, F2, env2, E2, s2, q2⟩, fun x H2 hx => ?_⟩
    obtain ⟨F2, g2, p2⟩ := hy x H2 hx
    obtain ⟨env2, hg, hb⟩ := hs i env' hin q'
    refine hg F0 H0 F2 σ' H2 x (E'.grow g2) p2 _ fun σ3 F3 H3 g3 E3 _ => ?_
    have s3 : Sm F1 F3 := s'.trans (g2.f.trans g3.f)
    exact hb.run E3 (fun env4 F4 σ4 H4 E4 s4 q4 => ⟨F4, env4, E4, s3.trans s4, q4⟩) (fun v d F4 H4 g4 p4 q4 => l.rt v d F4 H4 g4 p4 q4)
      (fun env4 F4 σ4 H4 E4 s4 q4 => l.nx env4 F4 σ4 H4 E4 q4) (fun env4 F4 σ4 H4 E4 s4 q4 => ⟨F4, env4, E4, s3.trans s4, q4⟩) (fun v r f env4 F4 σ4 H4 E4 p4 hf q4 => l.rs v r f env4 F4 σ4 H4 E4 p4 hf q4)
  · have e : i = n := by omega
    subst e
    exact .inl ⟨(hJ F' H' s' E'.fr).2, l.nx env' F' σ' H' E' (hd env' q')⟩
/-- while test: body; Iv by a measure -/
theorem xs_while {Iv : Nat → AEnv → Prop} (m0 : Nat) (h0 : Iv m0 env)
    (hs : ∀ m env', Iv m env' → ∃ b, XT X e env' b ∧ (b = true → XB X body env' { nx := fun env2 => ∃ m', m' < m ∧ Iv m' env2, ct := fun env2 => ∃ m', m' < m ∧ Iv m' env2, bk := A.nx, rt := A.rt, rs := A.rs }) ∧ (b = false → A.nx env'))
    (hp : PassesOwn (model X.prog X.w) X.A X.env X.xe := by exact PassesOwn.never) : XS X (.While e body [] pos) env A := fun F0 H0 F σ H D E l => by
  refine s_of (ps_while hp t_w b_w) ⟨fun m σ' H' => ∃ F' env', EnvAt X.kw F0 H0 F' σ' H' env' ∧ Iv m env', ⟨m0, F, env, E, h0⟩, fun m σ' H' hW => ?_⟩
  obtain ⟨F', env', E', q'⟩ := hW
  obtain ⟨b, hb, h1, h2⟩ := hs m env' q'
  refine hb F0 H0 F' σ' H' E' _ fun F1 H1 g1 => ?_
  have E1 := E'.grow g1
  cases b with
  | true =>
    refine iteT ⟨fun σ2 H2 => ∃ m', m' < m ∧ ∃ F2 env2, EnvAt X.kw F0 H0 F2 σ2 H2 env2 ∧ Iv m' env2, fun σ2 H2 q => q, ?_⟩
    exact h1 rfl F0 H0 F1 σ' H1 _ E1 ⟨fun env2 F2 σ2 H2 E2 ⟨m', hm, q⟩ => ⟨m', hm, F2, env2, E2, q⟩, l.rt, l.nx, fun env2 F2 σ2 H2 E2 ⟨m', hm, q⟩ => ⟨m', hm, F2, env2, E2, q⟩, l.rs⟩
  | false => exact iteF (l.nx env' F1 σ' H1 E1 (h2 rfl))
end
end FR

namespace FR
open PySem PySem.Spec PyProof.Rows L2

/-! ## comprehensions -/
def wipeE (env : AEnv) : List Nat → AEnv
  | [] => env
  | v :: vs => (wipeE env vs).set v none
theorem wipeE_length (env : AEnv) : ∀ vs : List Nat, (wipeE env vs).length = env.length
  | [] => rfl
  | v :: vs => by unfold wipeE; rw [List.length_set, wipeE_length env vs]
theorem wipeE_some {env : AEnv} {i : Nat} {x : AV} : ∀ {vs : List Nat}, (wipeE env vs)[i]? = some (some x) → env[i]? = some (some x) ∧ i ∉ vs
  | [], h => ⟨h, by simp⟩
  | v :: vs, h => by
    unfold wipeE at h
    rcases set_get h with ⟨_, z⟩ | ⟨n, z⟩
    · cases z
    · obtain ⟨h1, h2⟩ := wipeE_some z
      exact ⟨h1, by simp only [List.mem_cons, not_or]; exact ⟨fun e => n e.symm, h2⟩⟩
theorem wipe_in {σ : L2.St} {i : Nat} : ∀ {vs : List Nat}, i ∈ vs → i < σ.length → (wipe σ vs)[i]? = some none
  | [], h, _ => by simp at h
  | v :: vs, h, hl => by
    unfold wipe
    by_cases e : v = i
    · subst e; exact List.getElem?_set_self (by rw [wipe_length]; exact hl)
    · rw [List.getElem?_set_ne e]
      exact wipe_in ((List.mem_cons.mp h).resolve_left fun z => e z.symm) hl
theorem wipe_again {σ σ2 : L2.St} {vs : List Nat} (h : ∀ j, j ∉ vs → σ2[j]? = (wipe σ vs)[j]?) (hl : σ2.length = (wipe σ vs).length) : wipe σ2 vs = wipe σ vs := by
  apply List.ext_getElem?
  intro j
  by_cases hj : j ∈ vs
  · by_cases hs : j < σ.length
    · rw [wipe_in hj hs, wipe_in hj (by rw [hl, wipe_length]; exact hs)]
    · rw [List.getElem?_eq_none (by rw [wipe_length, hl, wipe_length]; omega), List.getElem?_eq_none (by rw [wipe_length]; omega)]
  · rw [wipe_out hj, h j hj]
theorem EnvP.wipe {K : KW} {F0 H0 F : Hp} {σ : L2.St} {H : Hp} {env : AEnv} {fp : Nat → List Addr} (E : EnvP K F0 H0 F σ H env fp) (vs : List Nat) : EnvP K F0 H0 F (wipe σ vs) H (wipeE env vs) fp where
  gro := E.gro
  len := by rw [wipe_length, wipeE_length]; exact E.len
  slot := fun i av q => by
    obtain ⟨a, b⟩ := wipeE_some q
    rw [wipe_out b]
    exact E.slot i av a
  mine := E.mine
  apart := E.apart
theorem EnvAt.wipe {K : KW} {F0 H0 F : Hp} {σ : L2.St} {H : Hp} {env : AEnv} (E : EnvAt K F0 H0 F σ H env) (vs : List Nat) : EnvAt K F0 H0 F (wipe σ vs) H (wipeE env vs) := let ⟨fp, h⟩ := E; ⟨fp, h.wipe vs⟩
/-- a block's context -/
abbrev blkX (X : Cx) (scope : Scope) (s : Shared) (Hb : Hp) (C : Addr) (cl : List (Str × Addr)) (fp : List Addr) : Cx := X.blk s Hb scope (compEnvC scope cl C X.env) fp
def uG (X : Cx) (scope : Scope) (tg : Expr) : TG := fun v σ H Q => ∀ s Hb C cl fp, wG (blkX X scope s Hb C cl fp) tg v σ H Q
def uT (X : Cx) (scope : Scope) (e : Expr) : TT := fun σ H Q => ∀ s Hb C cl fp, wT (blkX X scope s Hb C cl fp) e σ H Q
def uE (X : Cx) (scope : Scope) (e : Expr) : TE := fun σ H Q => ∀ s Hb C cl fp, wE (blkX X scope s Hb C cl fp) e σ H Q
def minusH (H : Hp) (D : Addr) : Hp := fun b => if b = D then none else H b
theorem minus_upd {H : Hp} {D : Addr} {o : HO} (h : H D = some o) : H = upd (minusH H D) D o := by
  funext b
  unfold upd minusH
  by_cases e : b = D
  · subst e; simp [h]
  · simp [e]
theorem minus_at {H : Hp} {D : Addr} : minusH H D D = none := by unfold minusH; simp
theorem minus_ne {H : Hp} {D b : Addr} (h : b ≠ D) : minusH H D b = H b := by unfold minusH; simp [h]
theorem sm_minus {F H : Hp} {D : Addr} (e : Sm F H) (h : F D = none) : Sm F (minusH H D) := ⟨fun b u z n => by
  rw [minus_ne (fun y => by rw [y, h] at z; cases z)]; exact e.all b u z n, fun b ps z => by
  rw [minus_ne (fun y => by rw [y, h] at z; cases z)]; exact e.tab b ps z⟩
section
variable {X : Cx} {e e2 e3 tg iter elt : Expr} {es ifs : List Expr} {scope : Scope} {own : List (Str × Nat)} {st : Stmt} {ss body : List Stmt} {env : AEnv} {d d1 d2 : PyData} {A : AE} {pos p p2 : Pos}
theorem lc_read {tt : TT} {n : Nat} {it : Nat → PyData} {b : Nat → Bool} {f : Nat → PyData} {F0 H0 F : Hp} {σ : L2.St} {H : Hp} (hi : XI X tg iter env n it) (E : EnvAt X.kw F0 H0 F σ H env)
    (hb : ∀ i, i < n → ∃ env2, (∀ s Hb C cl fp, XG (blkX X scope s Hb C cl fp) tg (own.map (·.2)) (wipeE env (own.map (·.2))) (it i) env2) ∧
      (∀ F σ H, EnvAt X.kw F0 H0 F σ H env2 → ∀ Q : Bool → Hp → Prop, (∀ F' H', Gro F H F' H' → Q (b i) H') → tt σ H Q) ∧ (b i = true → ∀ s Hb C cl fp, XD (blkX X scope s Hb C cl fp) elt env2 (f i)))
    (hz : n ≤ sizeLine) {Q : VK} (q : ∀ p vs F' H', Gro F H F' H' → H p = none → F' p = none → H' p = some (.lst vs) → DpAll X.kw F' vs (((List.range n).filter b).map f) → Q (.ref p) H') :
    tLc (wI X tg iter) (uG X scope tg) tt (uE X scope elt) (own.map (·.2)) σ H Q := by
  refine hi _ _ F σ H E _ fun J F1 H1 g1 hJ => ?_
  intro D hD
  refine ⟨fun i m H' => i + m = n ∧ ∃ F' G acc, Gro F H F' G ∧ Sm F1 F' ∧ G D = none ∧ H' = upd G D (.lst acc) ∧ DpAll X.kw F' acc (((List.range i).filter b).map f) ∧ acc.length ≤ i,
    ⟨n, Nat.zero_add n, F1, H1, [], g1, Sm.refl F1, hD, rfl, .nil, Nat.le_refl 0⟩, fun i m H' hW => ?_⟩
  obtain ⟨em, F', G, acc, g', s', hG, rfl, hacc, hal⟩ := hW
  have frU : Sm F' (upd G D (.lst acc)) := (Gro.own (o := .lst acc) g'.fr hG).fr
  have hHD : H D = none := g1.h.free hD
  have gU : Gro F H F' (upd G D (.lst acc)) := g'.trans (Gro.own g'.fr hG)
  by_cases hin : i < n
  · obtain ⟨hgo, hy⟩ := (hJ F' _ s' frU).1 i hin
    refine .inr ⟨hgo, fun H2 => ∃ F2 G2 acc2, Gro F H F2 G2 ∧ Sm F1 F2 ∧ G2 D = none ∧ H2 = upd G2 D (.lst acc2) ∧ DpAll X.kw F2 acc2 (((List.range (i + 1)).filter b).map f) ∧ acc2.length ≤ i + 1,
      fun H2 h2 => ⟨m - 1, by omega, by omega, h2⟩, fun x H2 hx => ?_⟩
    obtain ⟨F2, g2, p2⟩ := hy x H2 hx
    obtain ⟨env2, hg, ht, hel⟩ := hb i hin
    have E2 : EnvAt X.kw F0 H0 F2 (wipe σ (own.map (·.2))) H2 (wipeE env (own.map (·.2))) := (E.grow (gU.trans g2)).wipe _
    have e2D : H2 D = some (.lst acc) := g2.h.get upd_same
    -- from a growth to the next state of the loop
    have step : ∀ F3 H3, Gro F2 H2 F3 H3 → ∃ G3, Gro F H F3 G3 ∧ G3 D = none ∧ H3 = upd G3 D (.lst acc) ∧ Sm F1 F3 := fun F3 H3 g3 => by
      have gA := (gU.trans g2).trans g3
      have F3D : F3 D = none := (g2.trans g3).sep D (by rw [upd_same]; exact fun z => nomatch z) (g'.fr.free hG)
      exact ⟨minusH H3 D, ⟨gA.f, sm_minus gA.h hHD, sm_minus gA.fr F3D, gA.sep⟩, minus_at, minus_upd (g3.h.get e2D), s'.trans (g2.f.trans g3.f)⟩
    intro s Hb C cl fp
    refine hg s Hb C cl fp F0 H0 F2 _ H2 x E2 p2 _ fun σ3 F3 H3 g3 E3 k3 => ?_
    refine ⟨wipe_again k3.1 k3.2, ht F3 σ3 H3 E3 _ fun F4 H4 g4 => ?_⟩
    have rng : ((List.range (i + 1)).filter b).map f = ((List.range i).filter b).map f ++ (if b i = true then [f i] else []) := by
      rw [List.range_succ, List.filter_append, List.map_append]
      congr 1
      cases hbb : b i <;> simp [List.filter, hbb]
    cases hbi : b i with
    | true =>
      refine iteT fun s Hb C cl fp => ?_
      refine hel hbi s Hb C cl fp F0 H0 F4 σ3 H4 (E3.grow g4) _ fun y F5 H5 g5 p5 => ?_
      obtain ⟨G5, a1, a2, a3, a4⟩ := step F5 H5 ((g3.trans g4).trans g5)
      refine ⟨acc, by rw [a3]; exact upd_same, Nat.lt_of_le_of_lt hal (Nat.lt_of_lt_of_le hin hz), F5, G5, acc ++ [y], a1, a4, a2, by rw [a3, upd_upd], ?_, by rw [List.length_append, List.length_singleton]; omega⟩
      rw [rng, hbi, if_pos rfl]
      exact dpAll_append (dpAll_mono (g2.f.trans ((g3.f.trans g4.f).trans g5.f)) hacc) (.cons p5 .nil)
    | false =>
      obtain ⟨G5, a1, a2, a3, a4⟩ := step F4 H4 (g3.trans g4)
      refine iteF ⟨F4, G5, acc, a1, a4, a2, a3, ?_, Nat.le_succ_of_le hal⟩
      rw [rng, hbi, if_neg Bool.false_ne_true, List.append_nil]
      exact dpAll_mono (g2.f.trans (g3.f.trans g4.f)) hacc
  · have e : i = n := by omega
    subst e
    exact .inl ⟨(hJ F' _ s' frU).2, q D acc F' _ gU hHD (g'.fr.free hG) upd_same hacc⟩

theorem range_all {α : Type} (n : Nat) (f : Nat → α) : ((List.range n).filter fun _ => true).map f = (List.range n).map f := by rw [List.filter_eq_self.mpr fun _ _ => rfl]
section
variable {n : Nat} {it : Nat → PyData} {f : Nat → PyData} {b : Nat → Bool}
/-- [elt for tg in iter] -/
theorem xl_comp (hi : XI X tg iter env n it) (hN : X.N.Nodup) (own : List (Str × Nat)) (ok : BlkOk X.N X.env.scope scope own)
    (hb : ∀ i, i < n → ∃ env2, (∀ s Hb C cl fp, XG (blkX X scope s Hb C cl fp) tg (own.map (·.2)) (wipeE env (own.map (·.2))) (it i) env2) ∧ (∀ s Hb C cl fp, XD (blkX X scope s Hb C cl fp) elt env2 (f i)))
    (hz : n ≤ sizeLine) (hc : X.calm = true := by rfl) (hfs : ∀ x, foldedSetIterable iter X.env x = pure x := by intro _; rfl) :
    XL X (.ListComp elt [⟨tg, iter, [], 0⟩] scope pos) env ((List.range n).map f) := fun F0 H0 F σ H E Q q => by
  refine e_of (pe_lc (te := uE X scope elt) (g := uG X scope tg) (tt := tYes) hc hN i_w ok (fun s Hb C cl fp => ⟨fun pins s' σ' H' v u Q' I r h => (h s Hb C cl fp).run pins s' u I r⟩) (fun _ _ _ _ _ => pts_nil) (fun s Hb C cl fp => ⟨fun pins s' σ' H' Q' I h => (h s Hb C cl fp).run pins s' I⟩) hfs) ?_
  refine lc_read (b := fun _ => true) (f := f) hi E (fun i hin => ?_) hz (by rw [range_all]; exact q)
  obtain ⟨env2, h1, h2⟩ := hb i hin
  exact ⟨env2, h1, fun F σ H E Q q => q F H E.rfl', fun _ => h2⟩
/-- [elt for tg in iter if c] -/
theorem xl_compIf {c : Expr} (hi : XI X tg iter env n it) (hN : X.N.Nodup) (own : List (Str × Nat)) (ok : BlkOk X.N X.env.scope scope own)
    (hb : ∀ i, i < n → ∃ env2, (∀ s Hb C cl fp, XG (blkX X scope s Hb C cl fp) tg (own.map (·.2)) (wipeE env (own.map (·.2))) (it i) env2) ∧ (∀ s Hb C cl fp, XT (blkX X scope s Hb C cl fp) c env2 (b i)) ∧ (b i = true → ∀ s Hb C cl fp, XD (blkX X scope s Hb C cl fp) elt env2 (f i)))
    (hz : n ≤ sizeLine) (hc : X.calm = true := by rfl) (hfs : ∀ x, foldedSetIterable iter X.env x = pure x := by intro _; rfl) :
    XL X (.ListComp elt [⟨tg, iter, [c], 0⟩] scope pos) env (((List.range n).filter b).map f) := fun F0 H0 F σ H E Q q => by
  refine e_of (pe_lc (te := uE X scope elt) (g := uG X scope tg) (tt := uT X scope c) hc hN i_w ok (fun s Hb C cl fp => ⟨fun pins s' σ' H' v u Q' I r h => (h s Hb C cl fp).run pins s' u I r⟩) (fun s Hb C cl fp => pts_one ⟨fun pins s' σ' H' Q' I h => (h s Hb C cl fp).run pins s' I⟩) (fun s Hb C cl fp => ⟨fun pins s' σ' H' Q' I h => (h s Hb C cl fp).run pins s' I⟩) hfs) ?_
  refine lc_read (b := b) (f := f) hi E (fun i hin => ?_) hz q
  obtain ⟨env2, h1, h2, h3⟩ := hb i hin
  exact ⟨env2, h1, fun F σ H E Q q s Hb C cl fp => h2 s Hb C cl fp F0 H0 F σ H E Q q, h3⟩
/-- name = [elt for tg in iter] (own), = [elt for tg in iter if c] (own) -/
theorem xs_setComp {k : Nat} {y : Str} (hi : XI X tg iter env n it) (hN : X.N.Nodup) (own : List (Str × Nat)) (ok : BlkOk X.N X.env.scope scope own)
    (hb : ∀ i, i < n → ∃ env2, (∀ s Hb C cl fp, XG (blkX X scope s Hb C cl fp) tg (own.map (·.2)) (wipeE env (own.map (·.2))) (it i) env2) ∧ (∀ s Hb C cl fp, XD (blkX X scope s Hb C cl fp) elt env2 (f i)))
    (hz : n ≤ sizeLine) (hn : A.nx (env.set k (some (.l ((List.range n).map f))))) (hy : X.N[k]? = some y := by rfl) (hyl : X.env.scope.names.lookup y = some .local := by rfl)
    (hsw : swapsWith (.ListComp elt [⟨tg, iter, [], 0⟩] scope pos) (some (.Name y p2)) p.line X.env = pure true := by exact sw_true rfl rfl rfl (by decide +kernel)) (hc : X.calm = true := by rfl) (hfs : ∀ x, foldedSetIterable iter X.env x = pure x := by intro _; rfl) :
    XS X (.Assign [.Name y p2] (.ListComp elt [⟨tg, iter, [], 0⟩] scope pos) p) env A := fun F0 H0 F σ H D E l => by
  refine s_of (ps_setLc (te := uE X scope elt) (g := uG X scope tg) (tt := tYes) hc hN hy hyl hsw i_w ok (fun s Hb C cl fp => ⟨fun pins s' σ' H' v u Q' I r h => (h s Hb C cl fp).run pins s' u I r⟩) (fun _ _ _ _ _ => pts_nil) (fun s Hb C cl fp => ⟨fun pins s' σ' H' Q' I h => (h s Hb C cl fp).run pins s' I⟩) hfs) ?_
  show tLc _ _ _ _ _ σ H (fun x H1 => gName k x σ H1 D.nx)
  refine lc_read (b := fun _ => true) (f := f) hi E (fun i hin => ?_) hz fun a vs F1 H1 g1 n1 n2 e1 p1 => ?_
  · obtain ⟨env2, h1, h2⟩ := hb i hin
    exact ⟨env2, h1, fun F σ H E Q q => q F H E.rfl', fun _ => h2⟩
  · rw [range_all] at p1
    exact l.nx _ F1 _ H1 (E.newL g1 e1 p1 n1 n2) hn
theorem xs_setCompIf {k : Nat} {y : Str} {c : Expr} (hi : XI X tg iter env n it) (hN : X.N.Nodup) (own : List (Str × Nat)) (ok : BlkOk X.N X.env.scope scope own)
    (hb : ∀ i, i < n → ∃ env2, (∀ s Hb C cl fp, XG (blkX X scope s Hb C cl fp) tg (own.map (·.2)) (wipeE env (own.map (·.2))) (it i) env2) ∧ (∀ s Hb C cl fp, XT (blkX X scope s Hb C cl fp) c env2 (b i)) ∧ (b i = true → ∀ s Hb C cl fp, XD (blkX X scope s Hb C cl fp) elt env2 (f i)))
    (hz : n ≤ sizeLine) (hn : A.nx (env.set k (some (.l (((List.range n).filter b).map f))))) (hy : X.N[k]? = some y := by rfl) (hyl : X.env.scope.names.lookup y = some .local := by rfl)
    (hsw : swapsWith (.ListComp elt [⟨tg, iter, [c], 0⟩] scope pos) (some (.Name y p2)) p.line X.env = pure true := by exact sw_true rfl rfl rfl (by decide +kernel)) (hc : X.calm = true := by rfl) (hfs : ∀ x, foldedSetIterable iter X.env x = pure x := by intro _; rfl) :
    XS X (.Assign [.Name y p2] (.ListComp elt [⟨tg, iter, [c], 0⟩] scope pos) p) env A := fun F0 H0 F σ H D E l => by
  refine s_of (ps_setLc (te := uE X scope elt) (g := uG X scope tg) (tt := uT X scope c) hc hN hy hyl hsw i_w ok (fun s Hb C cl fp => ⟨fun pins s' σ' H' v u Q' I r h => (h s Hb C cl fp).run pins s' u I r⟩) (fun s Hb C cl fp => pts_one ⟨fun pins s' σ' H' Q' I h => (h s Hb C cl fp).run pins s' I⟩) (fun s Hb C cl fp => ⟨fun pins s' σ' H' Q' I h => (h s Hb C cl fp).run pins s' I⟩) hfs) ?_
  show tLc _ _ _ _ _ σ H (fun x H1 => gName k x σ H1 D.nx)
  refine lc_read (b := b) (f := f) hi E (fun i hin => ?_) hz fun a vs F1 H1 g1 n1 n2 e1 p1 => ?_
  · obtain ⟨env2, h1, h2, h3⟩ := hb i hin
    exact ⟨env2, h1, fun F σ H E Q q s Hb C cl fp => h2 s Hb C cl fp F0 H0 F σ H E Q q, h3⟩
  · exact l.nx _ F1 _ H1 (E.newL g1 e1 p1 n1 n2) hn
end

/-! ## calls of defs -/
/-- a def's contract: its arguments by an index, what a caller must show, the answers -/
structure Cn where
  ι : Type
  n : Nat
  args : ι → List PyData
  ok : ι → Prop
  post : ι → PyData → Prop
  hl : ∀ i, (args i).length = n
def SpD (K : KW) (C : Cn) : Sp := fun vs H Q _ => ∃ F i, Sm F H ∧ DpAll K F vs (C.args i) ∧ C.ok i ∧ ∀ r v F' H', C.post i r → Gro F H F' H' → Dp K F' v r → Q v H'
structure DefOk (P : Program) (w : World) (K : PySem.W.Frag) (mg : Str → Option Value) (base : Heap) (x : Str) (k : Nat) (C : Cn) : Prop where
  ex : ∃ f fd ps, FnOk P w K mg base CX0 k f fd ps (SpD ⟨K, w⟩ C) ∧ mg x = some (.ref f) ∧ PySem.W.keepIn K (.ref f) = true ∧ Binds K fd ps []
theorem DefOk.mono {P : Program} {w : World} {K : PySem.W.Frag} {mg : Str → Option Value} {base : Heap} {x : Str} {j k : Nat} {C : Cn} (D : DefOk P w K mg base x j C) (h : j ≤ k) : DefOk P w K mg base x k C :=
  let ⟨f, fd, ps, a, b⟩ := D.ex; ⟨f, fd, ps, a.mono h, b⟩
section
variable {x : Str} {k : Nat} {C : Cn}
theorem xd_call (D : DefOk X.prog X.w X.K X.mg X.base x k C) (hr : Room k X.A) (i : C.ι) (ha : XA X (e :: es) env (C.args i)) (hp : C.ok i) (hd : ∀ r, C.post i r → r = d) (hg : Gl X x := by rfl) (hdb : (x == ("__debug__" : Str)) = false := by decide)
    (he : starEach (e :: es) X.env = (false, eval e X.env) :: starEach es X.env := by rfl) (hpl : (backTo pos (starEach es X.env)).any (·.1) = false := by rfl) (hx : Passes CX0 X E0 := by exact pass0) : XD X (.Call (.Name x p) (e :: es) [] pos) env d := fun F0 H0 F σ H E Q q => by
  obtain ⟨f, fd, ps, FO, hm, kp, bd⟩ := D.ex
  refine e_of (pe_call FO hr hg hm kp bd .nil hx a_w hdb he hpl) (ha _ _ F σ H E _ fun vs F1 H1 g1 p1 => ?_)
  rw [List.append_nil]
  exact ⟨F1, i, g1.fr, p1, hp, fun r v F2 H2 hr g2 p2 => q v F2 H2 (g1.trans g2) (hd r hr ▸ p2)⟩
/-- a def's call with any of several answers, then the rest -/
theorem xs_setAny {i : Nat} {y : Str} (D : DefOk X.prog X.w X.K X.mg X.base x k C) (hr : Room k X.A) (c : C.ι) (ha : XA X (e :: es) env (C.args c)) (hp : C.ok c) (hn : ∀ r, C.post c r → A.nx (env.set i (some (.d r)))) (hN : X.N.Nodup) (hi : X.N[i]? = some y := by rfl) (hyy : L2.Loc X.env.scope y := by first | exact .inl rfl | exact .inr rfl)
    (hs : swapsWith (.Call (.Name x p) (e :: es) [] pos) (some (.Name y p2)) p.line X.env = pure false := by rfl) (hf : X.fn y = true ∨ X.env.scope.names.lookup y = some .local := by first | exact .inl rfl | exact .inr rfl) (hg : Gl X x := by rfl) (hdb : (x == ("__debug__" : Str)) = false := by decide)
    (he : starEach (e :: es) X.env = (false, eval e X.env) :: starEach es X.env := by rfl) (hpl : (backTo pos (starEach es X.env)).any (·.1) = false := by rfl) (hx : Passes CX0 X E0 := by exact pass0) : XS X (.Assign [.Name y p2] (.Call (.Name x p) (e :: es) [] pos) p) env A := fun F0 H0 F σ H D' E l => by
  obtain ⟨f, fd, ps, FO, hm, kp, bd⟩ := D.ex
  refine s_of (ps_set hN hi hyy (pe_call FO hr hg hm kp bd .nil hx a_w hdb he hpl) hs hf) (ha _ _ F σ H E _ fun vs F1 H1 g1 p1 => ?_)
  rw [List.append_nil]
  exact ⟨F1, c, g1.fr, p1, hp, fun r v F2 H2 hr g2 p2 => l.nx _ F2 _ H2 ((E.grow (g1.trans g2)).set (av := .d r) p2 rfl) (hn r hr)⟩
end
/-- a def by its body -/
theorem fnOk_data {P : Program} {w : World} {K : PySem.W.Frag} {mg : Str → Option Value} {base : Heap} {x qual : Str} {st : Stmt} {f : Addr} {fd : FuncData} {N ps : List Str} {k : Nat} {C : Cn} (F : Fun K x qual st f fd) (S : FnScope N ps (defScope st))
    (hl : C.n = ps.length)
    (hb : ∀ (cdv : Value) (A : Around) (outer : List Env) (s : Shared) (H : Hp) (E : XK), Room k (A.deeper (envOfC qual (defScope st) s.heap.objs.size f cdv)) → ∀ i, C.ok i →
      XB (cxOf CX0 P w K mg base N qual (defScope st) f cdv A outer s H E).nox (defBody st) ((C.args i).map (fun d => some (.d d)) ++ List.replicate (N.length - (C.args i).length) none) { nx := fun _ => C.post i .none, rt := C.post i }) :
    FnOk P w K mg base CX0 (k + 1) f fd ps (SpD ⟨K, w⟩ C) := by
  have hps : ps.length ≤ N.length := by have := congrArg List.length S.pre; rw [List.length_take] at this; omega
  refine F.ok S (fun vs H Q E h => ?_) fun cdv A outer s H vs Q E hr h => ?_
  · obtain ⟨F', i, _, h2, h3, _⟩ := h
    rw [dpAll_len h2, C.hl]; exact hl
  · obtain ⟨F', i, h1, h2, h3, q⟩ := h
    refine ⟨_, b_w, ?_⟩
    refine hb cdv A outer s H E hr i h3 F' H F' (L2.start N vs) H _ (env_start h1 h2 (by rw [C.hl, hl]; exact hps)) ⟨fun env' F2 σ2 H2 E2 z => q _ _ F2 H2 z E2.gro .non, fun v d F2 H2 g p z => q d v F2 H2 z g p, fun _ _ _ _ _ z => z.elim, fun _ _ _ _ _ z => z.elim, fun _ _ _ _ _ _ _ _ _ _ z => z.elim⟩
theorem defOk_mk {P : Program} {w : World} {K : PySem.W.Frag} {mg : Str → Option Value} {base : Heap} {x qual : Str} {st : Stmt} {f : Addr} {fd : FuncData} {N ps : List Str} {k : Nat} {C : Cn} (F : Fun K x qual st f fd) (B : Binds K fd ps []) (g : mg x = some (.ref f)) (S : FnScope N ps (defScope st))
    (hb : ∀ (cdv : Value) (A : Around) (outer : List Env) (s : Shared) (H : Hp) (E : XK), Room k (A.deeper (envOfC qual (defScope st) s.heap.objs.size f cdv)) → (cxOf CX0 P w K mg base N qual (defScope st) f cdv A outer s H E).nox.N = N → N.Nodup → ∀ i, C.ok i →
      XB (cxOf CX0 P w K mg base N qual (defScope st) f cdv A outer s H E).nox (defBody st) ((C.args i).map (fun d => some (.d d)) ++ List.replicate (N.length - (C.args i).length) none) { nx := fun _ => C.post i .none, rt := C.post i })
    (hl : C.n = ps.length := by rfl) : DefOk P w K mg base x (k + 1) C := ⟨f, fd, ps, fnOk_data F S hl (fun cdv A outer s H E hr => hb cdv A outer s H E hr rfl S.nd), g, F.kp, B⟩
theorem lawOk_mk {P : Program} {w : World} {K : PySem.W.Frag} {mg : Str → Option Value} {base : Heap} {x qual : Str} {st : Stmt} {f : Addr} {fd : FuncData} {N ps : List Str} {k : Nat} {C : Cn} (F : Fun K x qual st f fd) (S : FnScope N ps (defScope st))
    (hb : ∀ (cdv : Value) (A : Around) (outer : List Env) (s : Shared) (H : Hp) (E : XK), Room k (A.deeper (envOfC qual (defScope st) s.heap.objs.size f cdv)) → (cxOf CX0 P w K mg base N qual (defScope st) f cdv A outer s H E).nox.N = N → N.Nodup → ∀ i, C.ok i →
      XB (cxOf CX0 P w K mg base N qual (defScope st) f cdv A outer s H E).nox (defBody st) ((C.args i).map (fun d => some (.d d)) ++ List.replicate (N.length - (C.args i).length) none) { nx := fun _ => C.post i .none, rt := C.post i })
    (hl : C.n = ps.length := by rfl) : FnOk P w K mg base CX0 (k + 1) f fd ps (SpD ⟨K, w⟩ C) := fnOk_data F S hl (fun cdv A outer s H E hr => hb cdv A outer s H E hr rfl S.nd)
/-- the law's own contract: of every script it tells True -/
def C_law : Cn where
  ι := List Int
  n := 1
  args := fun ns => [.list (ns.map .int)]
  ok := fun ns => ns.length ≤ 63
  post := fun _ r => r = .bool true
  hl := fun _ => rfl
theorem law_end {K : KW} {H : Hp} {a : Addr} {ns : List Int} (hl : ns.length ≤ 63) (hS : SqL K H a (ns.map V.int)) {Q : VK} {E : XK} (q : ∀ H', Q (.bl true) H') : SpD K C_law [.ref a] H Q E :=
  ⟨H, ns, Sm.refl H, .cons (.lst hS (dpAll_ofInts ns)) .nil, hl, fun r v F' H' hr g p => by subst hr; cases p; exact q H'⟩

/-! ## built-ins -/
def CaD (K : KW) (r : List V → Hp → VK → Prop) (ds : List PyData) (d : PyData) : Prop := ∀ F H vs, Sm F H → DpAll K F vs ds → ∀ Q : VK, (∀ u F' H', Gro F H F' H' → Dp K F' u d → Q u H') → r vs H Q
theorem xcb {r : List V → Hp → VK → Prop} {ds : List PyData} (hp : PE X e3 (tCB r (wA X es))) (ha : XA X es env ds) (hr : CaD X.kw r ds d) : XD X e3 env d := fun F0 H0 F σ H E Q q =>
  e_of hp (ha _ _ F σ H E _ fun vs F1 H1 g1 p1 => hr F1 H1 vs g1.fr p1 Q fun u F2 H2 g2 p2 => q u F2 H2 (g1.trans g2) p2)
theorem d1' {K : KW} {F : Hp} {vs : List V} {d : PyData} (h : DpAll K F vs [d]) : ∃ v, vs = [v] ∧ Dp K F v d := by
  cases h with | cons a b => cases b; exact ⟨_, rfl, a⟩
theorem d2' {K : KW} {F : Hp} {vs : List V} {d d' : PyData} (h : DpAll K F vs [d, d']) : ∃ v w, vs = [v, w] ∧ Dp K F v d ∧ Dp K F w d' := by
  cases h with | cons a b => obtain ⟨w, rfl, c⟩ := d1' b; exact ⟨_, w, rfl, a, c⟩
theorem xa1 (h : XD X e env d) (hs : starEach [e] X.env = (false, eval e X.env) :: starEach [] X.env := by rfl) : XA X [e] env [d] := xa_cons h xa_nil hs
section
variable (hst : starEach [e] X.env = (false, eval e X.env) :: starEach [] X.env) (hpl : (backTo pos (starEach [] X.env)).any (·.1) = false)
theorem xd_lenL {ds : List PyData} (h : XD X e env (.list ds)) (hm : X.mg "len" = none) (hg : Gl X "len" := by rfl) (hs : starEach [e] X.env = (false, eval e X.env) :: starEach [] X.env := by rfl) (hpl : (backTo pos (starEach [] X.env)).any (·.1) = false := by rfl) :
    XD X (.Call (.Name "len" p) [e] [] pos) env (.int ds.length) := xcb (pe_callB call_len_seq hg hm PySem.boot_len a_w (by decide) (by decide) hs hpl) (xa1 h hs) fun F H vs fr p Q q => by
  obtain ⟨v, rfl, hv⟩ := d1' p
  obtain ⟨a, us, rfl, h1, h2⟩ := dL hv
  exact ⟨a, us, rfl, .inl (fr.seq h1), by rw [dpAll_len h2]; exact q _ F H (Gro.refl fr) (.int _)⟩
theorem xd_lenT {ds : List PyData} (h : XD X e env (.tuple ds)) (hm : X.mg "len" = none) (hg : Gl X "len" := by rfl) (hs : starEach [e] X.env = (false, eval e X.env) :: starEach [] X.env := by rfl) (hpl : (backTo pos (starEach [] X.env)).any (·.1) = false := by rfl) :
    XD X (.Call (.Name "len" p) [e] [] pos) env (.int ds.length) := xcb (pe_callB call_len_seq hg hm PySem.boot_len a_w (by decide) (by decide) hs hpl) (xa1 h hs) fun F H vs fr p Q q => by
  obtain ⟨v, rfl, hv⟩ := d1' p
  obtain ⟨a, us, rfl, h1, h2⟩ := dT hv
  exact ⟨a, us, rfl, .inr (seqT_mono fr h1), by rw [dpAll_len h2]; exact q _ F H (Gro.refl fr) (.int _)⟩
theorem xd_lenS {z : Str} (h : XD X e env (.str z)) (hz : z.length ≤ sizeLine) (hm : X.mg "len" = none) (hg : Gl X "len" := by rfl) (hs : starEach [e] X.env = (false, eval e X.env) :: starEach [] X.env := by rfl) (hpl : (backTo pos (starEach [] X.env)).any (·.1) = false := by rfl) :
    XD X (.Call (.Name "len" p) [e] [] pos) env (.int z.length) := xcb (pe_callB call_len_str hg hm PySem.boot_len a_w (by decide) (by decide) hs hpl) (xa1 h hs) fun F H vs fr p Q q => by
  obtain ⟨v, rfl, hv⟩ := d1' p
  exact ⟨z, by rw [dS hv], hz, q _ F H (Gro.refl fr) (.int _)⟩
theorem xd_abs {i : Int} (h : XD X e env (.int i)) (hm : X.mg "abs" = none) (hg : Gl X "abs" := by rfl) (hs : starEach [e] X.env = (false, eval e X.env) :: starEach [] X.env := by rfl) (hpl : (backTo pos (starEach [] X.env)).any (·.1) = false := by rfl) :
    XD X (.Call (.Name "abs" p) [e] [] pos) env (.int (if i < 0 then -i else i)) := xcb (pe_callB call_abs hg hm (by decide +kernel) a_w (by decide) (by decide) hs hpl) (xa1 h hs) fun F H vs fr p Q q => by
  obtain ⟨v, rfl, hv⟩ := d1' p
  exact ⟨i, by rw [dI hv], q _ F H (Gro.refl fr) (.int _)⟩
theorem xd_int1 {i : Int} (h : XD X e env (.int i)) (hm : X.mg "int" = none) (hg : Gl X "int" := by rfl) (hs : starEach [e] X.env = (false, eval e X.env) :: starEach [] X.env := by rfl) (hpl : (backTo pos (starEach [] X.env)).any (·.1) = false := by rfl) :
    XD X (.Call (.Name "int" p) [e] [] pos) env (.int i) := xcb (pe_callTy call_int1 hg hm (by decide +kernel) a_w (by decide) (by decide) hs hpl) (xa1 h hs) fun F H vs fr p Q q => by
  obtain ⟨v, rfl, hv⟩ := d1' p
  exact .inl ⟨i, by rw [dI hv], q _ F H (Gro.refl fr) (.int _)⟩
theorem xd_max2 {i j : Int} (h : XA X [e, e2] env [.int i, .int j]) (hm : X.mg "max" = none) (hg : Gl X "max" := by rfl) (hc : X.calm = true := by rfl) (hs : starEach [e, e2] X.env = (false, eval e X.env) :: starEach [e2] X.env := by rfl) (hpl : (backTo pos (starEach [e2] X.env)).any (·.1) = false := by rfl) :
    XD X (.Call (.Name "max" p) [e, e2] [] pos) env (.int (if j > i then j else i)) := xcb (pe_callB (call_max2 hc) hg hm (by decide +kernel) a_w (by decide) (by decide) hs hpl) h fun F H vs fr p Q q => by
  obtain ⟨v, w, rfl, hv, hw⟩ := d2' p
  exact ⟨i, j, by rw [dI hv, dI hw], q _ F H (Gro.refl fr) (.int _)⟩
theorem xd_min2 {i j : Int} (h : XA X [e, e2] env [.int i, .int j]) (hm : X.mg "min" = none) (hg : Gl X "min" := by rfl) (hc : X.calm = true := by rfl) (hs : starEach [e, e2] X.env = (false, eval e X.env) :: starEach [e2] X.env := by rfl) (hpl : (backTo pos (starEach [e2] X.env)).any (·.1) = false := by rfl) :
    XD X (.Call (.Name "min" p) [e, e2] [] pos) env (.int (if j < i then j else i)) := xcb (pe_callB (call_min2 hc) hg hm (by decide +kernel) a_w (by decide) (by decide) hs hpl) h fun F H vs fr p Q q => by
  obtain ⟨v, w, rfl, hv, hw⟩ := d2' p
  exact ⟨i, j, by rw [dI hv, dI hw], q _ F H (Gro.refl fr) (.int _)⟩
theorem xd_all {bs : List Bool} (h : XD X e env (.list (bs.map .bool))) (hm : X.mg "all" = none) (hg : Gl X "all" := by rfl) (hc : X.calm = true := by rfl) (hs : starEach [e] X.env = (false, eval e X.env) :: starEach [] X.env := by rfl) (hpl : (backTo pos (starEach [] X.env)).any (·.1) = false := by rfl) :
    XD X (.Call (.Name "all" p) [e] [] pos) env (.bool (bs.all id)) := xcb (pe_callB (cr_all hc) hg hm (by decide +kernel) a_w (by decide) (by decide) hs hpl) (xa1 h hs) fun F H vs fr p Q q => by
  obtain ⟨v, rfl, hv⟩ := d1' p
  obtain ⟨a, us, rfl, h1, h2⟩ := dL hv
  exact ⟨a, bs, rfl, by rw [← dpAll_bls h2]; exact fr.seq h1, q _ F H (Gro.refl fr) (.bl _)⟩
theorem xd_any {bs : List Bool} (h : XD X e env (.list (bs.map .bool))) (hm : X.mg "any" = none) (hg : Gl X "any" := by rfl) (hc : X.calm = true := by rfl) (hs : starEach [e] X.env = (false, eval e X.env) :: starEach [] X.env := by rfl) (hpl : (backTo pos (starEach [] X.env)).any (·.1) = false := by rfl) :
    XD X (.Call (.Name "any" p) [e] [] pos) env (.bool (bs.any id)) := xcb (pe_callB (cr_any hc) hg hm (by decide +kernel) a_w (by decide) (by decide) hs hpl) (xa1 h hs) fun F H vs fr p Q q => by
  obtain ⟨v, rfl, hv⟩ := d1' p
  obtain ⟨a, us, rfl, h1, h2⟩ := dL hv
  exact ⟨a, bs, rfl, by rw [← dpAll_bls h2]; exact fr.seq h1, q _ F H (Gro.refl fr) (.bl _)⟩
theorem xd_sum {ns : List Int} (h : XD X e env (.list (ns.map .int))) (hm : X.mg "sum" = none) (hg : Gl X "sum" := by rfl) (hc : X.calm = true := by rfl) (hs : starEach [e] X.env = (false, eval e X.env) :: starEach [] X.env := by rfl) (hpl : (backTo pos (starEach [] X.env)).any (·.1) = false := by rfl) :
    XD X (.Call (.Name "sum" p) [e] [] pos) env (.int ns.sum) := xcb (pe_callB (cr_sum hc) hg hm (by decide +kernel) a_w (by decide) (by decide) hs hpl) (xa1 h hs) fun F H vs fr p Q q => by
  obtain ⟨v, rfl, hv⟩ := d1' p
  obtain ⟨a, us, rfl, h1, h2⟩ := dL hv
  exact ⟨a, ns, rfl, by rw [← dpAll_ints h2]; exact fr.seq h1, q _ F H (Gro.refl fr) (.int _)⟩
/-- tuple(list) -/
theorem xd_tupleL {ds : List PyData} (h : XD X e env (.list ds)) (hm : X.mg "tuple" = none) (hg : Gl X "tuple" := by rfl) (hs : starEach [e] X.env = (false, eval e X.env) :: starEach [] X.env := by rfl) (hpl : (backTo pos (starEach [] X.env)).any (·.1) = false := by rfl) :
    XD X (.Call (.Name "tuple" p) [e] [] pos) env (.tuple ds) := xcb (pe_callTy call_tuple_of hg hm (by decide +kernel) a_w (by decide) (by decide) hs hpl) (xa1 h hs) fun F H vs fr p Q q => by
  obtain ⟨v, rfl, hv⟩ := d1' p
  obtain ⟨a, us, rfl, h1, h2⟩ := dL hv
  refine ⟨a, us, rfl, .inl ⟨fr.seq h1, fun l hl => ?_⟩⟩
  have g := Gro.new (o := .tup us) fr hl
  exact q _ _ _ g (.tup (.inl (.inl upd_same)) (dpAll_mono g.f h2))
theorem xd_listT {ds : List PyData} (h : XD X e env (.tuple ds)) (hm : X.mg "list" = none) (hg : Gl X "list" := by rfl) (hs : starEach [e] X.env = (false, eval e X.env) :: starEach [] X.env := by rfl) (hpl : (backTo pos (starEach [] X.env)).any (·.1) = false := by rfl) :
    XD X (.Call (.Name "list" p) [e] [] pos) env (.list ds) := xcb (pe_callTy call_list_of hg hm (by decide +kernel) a_w (by decide) (by decide) hs hpl) (xa1 h hs) fun F H vs fr p Q q => by
  obtain ⟨v, rfl, hv⟩ := d1' p
  obtain ⟨a, us, rfl, h1, h2⟩ := dT hv
  refine ⟨a, us, rfl, .inr (seqT_mono fr h1), fun l hl => ?_⟩
  have g := Gro.new (o := .lst us) fr hl
  exact q _ _ _ g (.lst (.inl (.inl upd_same)) (dpAll_mono g.f h2))
end

/-! ## items, slices -/
theorem atI_dp {K : KW} {F : Hp} {vs : List V} {ds : List PyData} {i : Int} (h : DpAll K F vs ds) (e : atI ds i = some d) : ∃ v, atI vs i = some v ∧ Dp K F v d := by
  unfold atI at e ⊢
  rw [dpAll_len h]
  cases q : ixN ds.length i with
  | none => rw [q] at e; cases e
  | some j =>
    rw [q] at e
    exact dpAll_get h e
theorem xd_ixL {ds : List PyData} {i : Int} (h1 : XD X e env (.list ds)) (h2 : XD X e2 env (.int i)) (hi : atI ds i = some d) (hp : PlainIx e2 := by exact fun _ _ => rfl) : XD X (.Subscript e e2 pos) env d :=
  x2 (pe_ix ix_list e_w e_w hp) h1 h2 fun F H v w fr p1 p2 Q q => by
    obtain ⟨a, us, rfl, z1, z2⟩ := dL p1
    obtain ⟨u, y1, y2⟩ := atI_dp z2 hi
    exact ⟨a, us, i, u, rfl, dI p2, fr.seq z1, y1, q _ F H (Gro.refl fr) y2⟩
theorem xd_ixT {ds : List PyData} {i : Int} (h1 : XD X e env (.tuple ds)) (h2 : XD X e2 env (.int i)) (hi : atI ds i = some d) (hp : PlainIx e2 := by exact fun _ _ => rfl) : XD X (.Subscript e e2 pos) env d :=
  x2 (pe_ix ix_tup e_w e_w hp) h1 h2 fun F H v w fr p1 p2 Q q => by
    obtain ⟨a, us, rfl, z1, z2⟩ := dT p1
    obtain ⟨u, y1, y2⟩ := atI_dp z2 hi
    exact ⟨a, us, i, u, rfl, dI p2, seqT_mono fr z1, y1, q _ F H (Gro.refl fr) y2⟩
theorem xd_ixS {z : Str} {i : Int} {c : Nat} (h1 : XD X e env (.str z)) (h2 : XD X e2 env (.int i)) (hz : z.length ≤ sizeLine) (hi : atI z.cps.toList i = some c) (hp : PlainIx e2 := by exact fun _ _ => rfl) : XD X (.Subscript e e2 pos) env (.str ⟨#[c]⟩) :=
  x2 (pe_ix ix_str e_w e_w hp) h1 h2 fun F H v w fr p1 p2 Q q => ⟨z, i, c, dS p1, dI p2, hz, hi, q _ F H (Gro.refl fr) (.str _)⟩
/-- of a list of one's own -/
theorem xd_lenO {i : Nat} {x : Str} {xs : List PyData} {pn : Pos} (hv : env[i]? = some (some (.l xs))) (hm : X.mg "len" = none) (hN : X.N[i]? = some x := by rfl) (hs : Vis X.env.scope x := by first | exact Or.inl rfl | exact Or.inr (Or.inl rfl) | exact Or.inr (Or.inr rfl))
    (hd : (x == ("__debug__" : Str)) = false := by decide) (hc : (x == ("__classdict__" : Str)) = false := by decide) (hg : Gl X "len" := by rfl) (hst : starEach [.Name x pn] X.env = (false, eval (.Name x pn) X.env) :: starEach [] X.env := by rfl) (hpl : (backTo pos (starEach [] X.env)).any (·.1) = false := by rfl) :
    XD X (.Call (.Name "len" p) [.Name x pn] [] pos) env (.int xs.length) := fun F0 H0 F σ H E Q q => by
  obtain ⟨v, s1, a, vs, rfl, h1, h2⟩ := E.slot i _ hv
  refine e_of (pe_callB call_len_seq hg hm PySem.boot_len (pa_cons (pe_var hN hs hd hc) pa_nil hst) (by decide) (by decide) hst hpl) ?_
  exact ⟨_, s1, a, vs, rfl, .inl (.inl (.inl h1)), by rw [dpAll_len h2]; exact q _ F H E.rfl' (.int _)⟩
theorem xd_ixO {i : Nat} {x : Str} {xs : List PyData} {j : Int} {pn : Pos} (hv : env[i]? = some (some (.l xs))) (h2 : XD X e2 env (.int j)) (hj : atI xs j = some d) (hN : X.N[i]? = some x := by rfl) (hs : Vis X.env.scope x := by first | exact Or.inl rfl | exact Or.inr (Or.inl rfl) | exact Or.inr (Or.inr rfl))
    (hd : (x == ("__debug__" : Str)) = false := by decide) (hc : (x == ("__classdict__" : Str)) = false := by decide) (hp : PlainIx e2 := by exact fun _ _ => rfl) : XD X (.Subscript (.Name x pn) e2 pos) env d := fun F0 H0 F σ H E Q q => by
  obtain ⟨v, s1, a, vs, rfl, z1, z2⟩ := E.slot i _ hv
  refine e_of (pe_ix ix_list (pe_var hN hs hd hc) e_w hp) ⟨_, s1, h2 _ _ F σ H E _ fun w F1 H1 g1 p1 => ?_⟩
  obtain ⟨u, y1, y2⟩ := atI_dp z2 hj
  exact ⟨a, vs, j, u, rfl, dI p1, .inl (.inl (g1.h.get z1)), y1, q _ F1 H1 g1 (dp_mono g1.f y2)⟩
/-- slices: the parts -/
def XO (X : Cx) (e : Option Expr) (env : AEnv) (o : Option Int) : Prop :=
  ∃ t, PO X e t ∧ ∀ F0 H0 F σ H, EnvAt X.kw F0 H0 F σ H env → ∀ Q : Option Int → Hp → Prop, (∀ F' H', Gro F H F' H' → Q o H') → t σ H Q
theorem xo_none : XO X none env none := ⟨_, po_none, fun F0 H0 F σ H E Q q => q F H E.rfl'⟩
theorem xo_some {i : Int} (h : XD X e env (.int i)) : XO X (some e) env (some i) := ⟨_, po_some e_w, fun F0 H0 F σ H E Q q => h _ _ F σ H E _ fun v F1 H1 g1 p1 => ⟨i, dI p1, q F1 H1 g1⟩⟩
theorem xd_slS {z : Str} {lo hi : Option Expr} {l u : Option Int} (h : XD X e env (.str z)) (hl : XO X lo env l) (hu : XO X hi env u) (hz : z.length ≤ sizeLine) : XD X (.Subscript e (.Slice lo hi none p2) pos) env (.str (cutS z l u)) := fun F0 H0 F σ H E Q q => by
  obtain ⟨tl, pl, ql⟩ := hl
  obtain ⟨tu, pu, qu⟩ := hu
  refine e_of (pe_slice sl_str e_w pl pu) (h _ _ F σ H E _ fun v F1 H1 g1 p1 => ?_)
  refine ql _ _ F1 σ H1 (E.grow g1) _ fun F2 H2 g2 => ?_
  refine qu _ _ F2 σ H2 (E.grow (g1.trans g2)) _ fun F3 H3 g3 => ?_
  exact ⟨z, dS p1, hz, q _ F3 H3 ((g1.trans g2).trans g3) (.str _)⟩
def cutD (xs : List PyData) (lo hi : Option Int) : List PyData := (xs.drop (HT.sIx xs.length 0 lo)).take (HT.sIx xs.length xs.length hi - HT.sIx xs.length 0 lo)
theorem cut_dp {K : KW} {F : Hp} {vs : List V} {ds : List PyData} {lo hi : Option Int} (h : DpAll K F vs ds) : DpAll K F (cutV vs lo hi) (cutD ds lo hi) := by
  unfold cutV cutD
  rw [dpAll_len h]
  exact dpAll_take _ (dpAll_drop _ h)
theorem xl_slL {ds : List PyData} {lo hi : Option Expr} {l u : Option Int} (h : XD X e env (.list ds)) (hl : XO X lo env l) (hu : XO X hi env u) : XL X (.Subscript e (.Slice lo hi none p2) pos) env (cutD ds l u) := fun F0 H0 F σ H E Q q => by
  obtain ⟨tl, pl, ql⟩ := hl
  obtain ⟨tu, pu, qu⟩ := hu
  refine e_of (pe_slice sl_list e_w pl pu) (h _ _ F σ H E _ fun v F1 H1 g1 p1 => ?_)
  refine ql _ _ F1 σ H1 (E.grow g1) _ fun F2 H2 g2 => ?_
  refine qu _ _ F2 σ H2 (E.grow (g1.trans g2)) _ fun F3 H3 g3 => ?_
  obtain ⟨a, us, rfl, z1, z2⟩ := dL p1
  have gA := (g1.trans g2).trans g3
  have z3 : Sm F1 H3 := (g2.f.trans g3.f).trans g3.fr
  refine ⟨a, us, rfl, z3.seq z1, fun p hp => ?_⟩
  exact q p _ F3 _ (gA.trans (Gro.own g3.fr hp)) (gA.h.free hp) (g3.fr.free hp) upd_same (dpAll_mono (g2.f.trans g3.f) (cut_dp z2))
/-- list + list -/
theorem xl_cat {xs ys : List PyData} (h1 : XL X e env xs) (h2 : XL X e2 env ys) (hz : xs.length + ys.length ≤ sizeLine) : XL X (.BinOp e .Add e2 pos) env (xs ++ ys) := fun F0 H0 F σ H E Q q => by
  refine e_of (pe_op op_cat e_w e_w) (h1 _ _ F σ H E _ fun p vs F1 H1 g1 n1 n2 e1 p1 => ?_)
  refine h2 _ _ F1 σ H1 (E.grow g1) _ fun r us F2 H2 g2 m1 m2 e2 p2 => ?_
  refine ⟨p, r, vs, us, rfl, rfl, g2.h.get e1, e2, by rw [dpAll_len p1, dpAll_len p2]; exact hz, fun t ht => ?_⟩
  exact q t _ F2 _ ((g1.trans g2).trans (Gro.own g2.fr ht)) ((g1.trans g2).h.free ht) (g2.fr.free ht) upd_same (dpAll_append (dpAll_mono g2.f p1) p2)
end
end FR

namespace FR
open PySem PySem.Spec PyProof.Rows L2

/-! ## the same by names: N and env written out -/
/-- what stands at a name -/
inductive AtN : List Str → AEnv → Nat → Str → AV → Prop
  | here {x N l v} : AtN (x :: N) (some v :: l) 0 x v
  | there {x y N a l v i} : AtN N l i x v → AtN (y :: N) (a :: l) (i + 1) x v
/-- a name is stored -/
inductive SetN : List Str → AEnv → Nat → Str → Option AV → AEnv → Prop
  | here {x N a l v} : SetN (x :: N) (a :: l) 0 x v (v :: l)
  | there {x y N a l v i l'} : SetN N l i x v l' → SetN (y :: N) (a :: l) (i + 1) x v (a :: l')
theorem AtN.get : ∀ {N : List Str} {env : AEnv} {i : Nat} {x : Str} {v : AV}, AtN N env i x v → env[i]? = some (some v) ∧ N[i]? = some x
  | _, _, _, _, _, .here => ⟨rfl, rfl⟩
  | _, _, _, _, _, .there h => by
    obtain ⟨a, b⟩ := h.get
    exact ⟨by simpa using a, by simpa using b⟩
theorem SetN.get : ∀ {N : List Str} {env env' : AEnv} {i : Nat} {x : Str} {v : Option AV}, SetN N env i x v env' → env.set i v = env' ∧ N[i]? = some x
  | _, _, _, _, _, _, .here => ⟨rfl, rfl⟩
  | _, _, _, _, _, _, .there h => by
    obtain ⟨a, b⟩ := h.get
    exact ⟨by simpa using a, by simpa using b⟩
section
variable {X : Cx} {e e2 e3 tg iter elt : Expr} {es ifs : List Expr} {scope : Scope} {st : Stmt} {ss body : List Stmt} {env env' : AEnv} {d d1 d2 : PyData} {A : AE} {pos p p2 : Pos} {N : List Str} {i j : Nat} {x : Str}
theorem n_var (hN : X.N = N) (h : AtN N env i x (.d d)) (hs : Vis X.env.scope x := by first | exact Or.inl rfl | exact Or.inr (Or.inl rfl) | exact Or.inr (Or.inr rfl))
    (hd : (x == ("__debug__" : Str)) = false := by decide) (hc : (x == ("__classdict__" : Str)) = false := by decide) : XD X (.Name x pos) env d := by
  subst hN; exact xd_var h.get.1 h.get.2 hs hd hc
theorem n_varP {φ : Hp → V → Prop} {hφ} (hN : X.N = N) (h : AtN N env i x (.p φ hφ)) (hs : Vis X.env.scope x := by first | exact Or.inl rfl | exact Or.inr (Or.inl rfl) | exact Or.inr (Or.inr rfl))
    (hd : (x == ("__debug__" : Str)) = false := by decide) (hc : (x == ("__classdict__" : Str)) = false := by decide) : XP X (.Name x pos) env φ := by
  subst hN; exact xp_var h.get.1 h.get.2 hs hd hc
theorem n_set (h : XD X e env d) (hN : X.N = N) (hnd : N.Nodup) (hst : SetN N env i x (some (.d d)) env') (hn : A.nx env') (hx : Loc X.env.scope x := by first | exact .inl rfl | exact .inr rfl)
    (hs : swapsWith e (some (.Name x p)) pos.line X.env = pure false := by rfl) (hf : X.fn x = true ∨ X.env.scope.names.lookup x = some .local := by first | exact .inl rfl | exact .inr rfl) : XS X (.Assign [.Name x p] e pos) env A := by
  subst hN; exact xs_set h (by rw [hst.get.1]; exact hn) hnd hst.get.2 hx hs hf
theorem n_setP {φ : Hp → V → Prop} (hφ : ∀ H H' v, Sm H H' → φ H v → φ H' v) (h : XP X e env φ) (hN : X.N = N) (hnd : N.Nodup) (hst : SetN N env i x (some (.p φ hφ)) env') (hn : A.nx env') (hx : Loc X.env.scope x := by first | exact .inl rfl | exact .inr rfl)
    (hs : swapsWith e (some (.Name x p)) pos.line X.env = pure false := by rfl) (hf : X.fn x = true ∨ X.env.scope.names.lookup x = some .local := by first | exact .inl rfl | exact .inr rfl) : XS X (.Assign [.Name x p] e pos) env A := by
  subst hN; exact xs_setP hφ h (by rw [hst.get.1]; exact hn) hnd hst.get.2 hx hs hf
theorem n_setL {xs : List PyData} (h : XL X e env xs) (hN : X.N = N) (hnd : N.Nodup) (hst : SetN N env i x (some (.l xs)) env') (hn : A.nx env') (hx : Loc X.env.scope x := by first | exact .inl rfl | exact .inr rfl)
    (hs : swapsWith e (some (.Name x p)) pos.line X.env = pure false := by rfl) (hf : X.fn x = true ∨ X.env.scope.names.lookup x = some .local := by first | exact .inl rfl | exact .inr rfl) : XS X (.Assign [.Name x p] e pos) env A := by
  subst hN; exact xs_setL h (by rw [hst.get.1]; exact hn) hnd hst.get.2 hx hs hf
theorem n_aug {op : Operator} {r : TIp} (hN : X.N = N) (hat : AtN N env i x (.d d1)) (h : XD X e env d2) (ho : PIp X op r) (hr : OpD X.kw r d1 d2 d) (hnd : N.Nodup) (hst : SetN N env j x (some (.d d)) env') (hn : A.nx env') (hx : Loc X.env.scope x := by first | exact .inl rfl | exact .inr rfl)
    (hf : X.fn x = true ∨ X.env.scope.names.lookup x = some .local := by first | exact .inl rfl | exact .inr rfl) : XS X (.AugAssign (.Name x p) op e pos) env A := by
  subst hN
  have e : i = j := nodup_ix hnd hat.get.2 hst.get.2
  subst e
  exact xs_aug hat.get.1 h ho hr (by rw [hst.get.1]; exact hn) hnd hst.get.2 hx hf
theorem n_augAdd {a b : Int} (hN : X.N = N) (hat : AtN N env i x (.d (.int a))) (h : XD X e env (.int b)) (hnd : N.Nodup) (hst : SetN N env j x (some (.d (.int (a + b)))) env') (hn : A.nx env') (hx : Loc X.env.scope x := by first | exact .inl rfl | exact .inr rfl)
    (hf : X.fn x = true ∨ X.env.scope.names.lookup x = some .local := by first | exact .inl rfl | exact .inr rfl) : XS X (.AugAssign (.Name x p) .Add e pos) env A :=
  n_aug hN hat h ip_add (fun F H v w fr p1 p2 Q q => ⟨a, b, dI p1, dI p2, q _ F H (Gro.refl fr) (.int _)⟩) hnd hst hn hx hf
theorem n_augSub {a b : Int} (hN : X.N = N) (hat : AtN N env i x (.d (.int a))) (h : XD X e env (.int b)) (hnd : N.Nodup) (hst : SetN N env j x (some (.d (.int (a - b)))) env') (hn : A.nx env') (hx : Loc X.env.scope x := by first | exact .inl rfl | exact .inr rfl)
    (hf : X.fn x = true ∨ X.env.scope.names.lookup x = some .local := by first | exact .inl rfl | exact .inr rfl) : XS X (.AugAssign (.Name x p) .Sub e pos) env A :=
  n_aug hN hat h ip_sub (fun F H v w fr p1 p2 Q q => ⟨a, b, dI p1, dI p2, q _ F H (Gro.refl fr) (.int _)⟩) hnd hst hn hx hf
theorem n_append {xs : List PyData} {apos cpos : Pos} (hN : X.N = N) (hat : AtN N env i x (.l xs)) (h : XD X e env d) (hz : xs.length < sizeLine) (hst : SetN N env j x (some (.l (xs ++ [d]))) env') (hnd : N.Nodup) (hn : A.nx env') (hs : Vis X.env.scope x := by first | exact Or.inl rfl | exact Or.inr (Or.inl rfl) | exact Or.inr (Or.inr rfl))
    (hd : (x == ("__debug__" : Str)) = false := by decide) (hc : (x == ("__classdict__" : Str)) = false := by decide)
    (hbase : attributeBase (.Name x p) "append" X.env (eval (.Name x p) X.env) = eval (.Name x p) X.env := by rfl)
    (hfew : ((backTo cpos (starEach [e] X.env)).all (fun x => !x.1) && (backToKw cpos (keywordEach [] X.env)).all (fun x => x.1.isSome)
      && decide ([e].length + ([] : List Keyword).length + (if ([] : List Keyword).isEmpty then 0 else 1) < 30)) = true := by rfl)
    (hline : (apos.endLine == cpos.line) = true := by rfl) (hsta : starEach [e] X.env = (false, eval e X.env) :: starEach [] X.env := by rfl) (hplain : (backTo cpos (starEach [] X.env)).any (·.1) = false := by rfl)
    (hsw : swapsWith (.Call (.Attribute (.Name x p) "append" apos) [e] [] cpos) none pos.line X.env = pure false := by rfl) :
    XS X (.Expr (.Call (.Attribute (.Name x p) "append" apos) [e] [] cpos) pos) env A := by
  subst hN
  have e : i = j := nodup_ix hnd hat.get.2 hst.get.2
  subst e
  exact xs_append hat.get.1 h hz (by rw [hst.get.1]; exact hn) hat.get.2 hs hd hc hbase hfew hline hsta hplain hsw
theorem n_gname {js : List Nat} (hN : X.N = N) (hnd : N.Nodup) (hst : SetN N env i x (some (.d d)) env') (hx : Loc X.env.scope x := by first | exact .inl rfl | exact .inr rfl)
    (hf : X.fn x = true ∨ X.env.scope.names.lookup x = some .local := by first | exact .inl rfl | exact .inr rfl) (hj : i ∈ js := by simp) : XG X (.Name x p) js env d env' := by
  subst hN
  have := hst.get.1
  subst this
  exact xg_name hnd hst.get.2 hx hf hj
theorem n_lenO {xs : List PyData} {pn : Pos} (hN : X.N = N) (hat : AtN N env i x (.l xs)) (hm : X.mg "len" = none) (hs : Vis X.env.scope x := by first | exact Or.inl rfl | exact Or.inr (Or.inl rfl) | exact Or.inr (Or.inr rfl))
    (hd : (x == ("__debug__" : Str)) = false := by decide) (hc : (x == ("__classdict__" : Str)) = false := by decide) (hg : Gl X "len" := by rfl) (hst : starEach [.Name x pn] X.env = (false, eval (.Name x pn) X.env) :: starEach [] X.env := by rfl) (hpl : (backTo pos (starEach [] X.env)).any (·.1) = false := by rfl) :
    XD X (.Call (.Name "len" p) [.Name x pn] [] pos) env (.int xs.length) := by
  subst hN; exact xd_lenO hat.get.1 hm hat.get.2 hs hd hc hg hst hpl
theorem n_ixO {xs : List PyData} {k : Int} {pn : Pos} (hN : X.N = N) (hat : AtN N env i x (.l xs)) (h2 : XD X e2 env (.int k)) (hj : atI xs k = some d) (hs : Vis X.env.scope x := by first | exact Or.inl rfl | exact Or.inr (Or.inl rfl) | exact Or.inr (Or.inr rfl))
    (hd : (x == ("__debug__" : Str)) = false := by decide) (hc : (x == ("__classdict__" : Str)) = false := by decide) (hp : PlainIx e2 := by exact fun _ _ => rfl) : XD X (.Subscript (.Name x pn) e2 pos) env d := by
  subst hN; exact xd_ixO hat.get.1 h2 hj hat.get.2 hs hd hc hp
/-- a list of one's own is data from now on -/
theorem n_freeze (x : Str) {xs : List PyData} (hN : X.N = N) (hnd : N.Nodup) (hat : AtN N env i x (.l xs)) (hst : SetN N env j x (some (.d (.list xs))) env') (h : XB X ss env' A) : XB X ss env A := by
  have e : i = j := nodup_ix hnd hat.get.2 hst.get.2
  subst e
  exact xb_freeze i hat.get.1 (by rw [hst.get.1]; exact h)
/-! ### for name in .. -/
theorem n_for {n : Nat} {it : Nat → PyData} (hN : X.N = N) (hnd : N.Nodup) (hi : XI X (.Name x p) iter env n it) (Iv : Nat → AEnv → Prop) (h0 : Iv 0 env)
    (hs : ∀ i env', i < n → Iv i env' → ∃ env2, SetN N env' j x (some (.d (it i))) env2 ∧ XB X body env2 { nx := Iv (i + 1), ct := Iv (i + 1), bk := A.nx, rt := A.rt, rs := A.rs }) (hd : ∀ env', Iv n env' → A.nx env') (hx : Loc X.env.scope x := by first | exact .inl rfl | exact .inr rfl)
    (hf : X.fn x = true ∨ X.env.scope.names.lookup x = some .local := by first | exact .inl rfl | exact .inr rfl)
    (hp : PassesOwn (model X.prog X.w) X.A X.env X.xe := by exact PassesOwn.never) (hc : X.calm = true := by rfl) (hfs : ∀ x, foldedSetIterable iter X.env x = pure x := by intro _; rfl) : XS X (.For (.Name x p) iter body [] pos) env A :=
  xs_for (js := [j]) hi Iv h0 (fun i env' hin hI => let ⟨env2, a, b⟩ := hs i env' hin hI; ⟨env2, n_gname hN hnd a hx hf, b⟩) hd hp hc hfs
/-! ### comprehensions whose target is a name -/
theorem wipe_set1 {env env' : AEnv} {j : Nat} {v : Option AV} (h : env.set j v = env') : (wipeE env [j]).set j v = env' := by
  show ((wipeE env []).set j none).set j v = env'
  show (env.set j none).set j v = env'
  rw [List.set_set]; exact h
section
variable {n : Nat} {it : Nat → PyData} {f : Nat → PyData} {b : Nat → Bool}
theorem n_comp {S : Scope} (hN : X.N = N) (hnd : N.Nodup) (hi : XI X (.Name x p2) iter env n it) (j : Nat) (okc : blkC N S scope [(x, j)] = true)
    (hb : ∀ i, i < n → ∃ env2, SetN N env j x (some (.d (it i))) env2 ∧ (∀ s Hb C cl fp, XD (blkX X scope s Hb C cl fp) elt env2 (f i))) (hz : n ≤ sizeLine)
    (hS : X.env.scope = S := by rfl)
    (hx : L2.Loc (relabel scope X.env) x := by first | exact .inl rfl | exact .inr rfl) (hf : (scope.names.lookup x == some .cell) = true ∨ (relabel scope X.env).names.lookup x = some .local := by first | exact .inr rfl | exact .inl rfl)
    (hc : X.calm = true := by rfl) (hfs : ∀ x, foldedSetIterable iter X.env x = pure x := by intro _; rfl) :
    XL X (.ListComp elt [⟨.Name x p2, iter, [], 0⟩] scope pos) env ((List.range n).map f) := by
  subst hN hS
  refine xl_comp hi hnd [(x, j)] (blkOk_by okc) (fun i hin => ?_) hz hc hfs
  obtain ⟨env2, h1, h2⟩ := hb i hin
  have := wipe_set1 h1.get.1
  subst this
  refine ⟨_, fun s Hb C cl fp => ?_, h2⟩
  exact xg_name hnd h1.get.2 hx hf
theorem n_compIf {S : Scope} {c : Expr} (hN : X.N = N) (hnd : N.Nodup) (hi : XI X (.Name x p2) iter env n it) (j : Nat) (okc : blkC N S scope [(x, j)] = true)
    (hb : ∀ i, i < n → ∃ env2, SetN N env j x (some (.d (it i))) env2 ∧ (∀ s Hb C cl fp, XT (blkX X scope s Hb C cl fp) c env2 (b i)) ∧ (b i = true → ∀ s Hb C cl fp, XD (blkX X scope s Hb C cl fp) elt env2 (f i))) (hz : n ≤ sizeLine)
    (hS : X.env.scope = S := by rfl)
    (hx : L2.Loc (relabel scope X.env) x := by first | exact .inl rfl | exact .inr rfl) (hf : (scope.names.lookup x == some .cell) = true ∨ (relabel scope X.env).names.lookup x = some .local := by first | exact .inr rfl | exact .inl rfl)
    (hc : X.calm = true := by rfl) (hfs : ∀ x, foldedSetIterable iter X.env x = pure x := by intro _; rfl) :
    XL X (.ListComp elt [⟨.Name x p2, iter, [c], 0⟩] scope pos) env (((List.range n).filter b).map f) := by
  subst hN hS
  refine xl_compIf hi hnd [(x, j)] (blkOk_by okc) (fun i hin => ?_) hz hc hfs
  obtain ⟨env2, h1, h2, h3⟩ := hb i hin
  have := wipe_set1 h1.get.1
  subst this
  exact ⟨_, fun s Hb C cl fp => xg_name hnd h1.get.2 hx hf, h2, h3⟩
theorem n_setComp {S : Scope} {k : Nat} {y : Str} {env3 : AEnv} (hN : X.N = N) (hnd : N.Nodup) (hi : XI X (.Name x p2) iter env n it) (j : Nat) (okc : blkC N S scope [(x, j)] = true)
    (hb : ∀ i, i < n → ∃ env2, SetN N env j x (some (.d (it i))) env2 ∧ (∀ s Hb C cl fp, XD (blkX X scope s Hb C cl fp) elt env2 (f i))) (hz : n ≤ sizeLine)
    (hst : SetN N env k y (some (.l ((List.range n).map f))) env3) (hn : A.nx env3) {p3 p4 : Pos} (hS : X.env.scope = S := by rfl) (hyl : X.env.scope.names.lookup y = some .local := by rfl)
    (hsw : swapsWith (.ListComp elt [⟨.Name x p2, iter, [], 0⟩] scope pos) (some (.Name y p3)) p4.line X.env = pure true := by exact sw_true rfl rfl rfl (by decide +kernel))
    (hx : L2.Loc (relabel scope X.env) x := by first | exact .inl rfl | exact .inr rfl) (hf : (scope.names.lookup x == some .cell) = true ∨ (relabel scope X.env).names.lookup x = some .local := by first | exact .inr rfl | exact .inl rfl)
    (hc : X.calm = true := by rfl) (hfs : ∀ x, foldedSetIterable iter X.env x = pure x := by intro _; rfl) :
    XS X (.Assign [.Name y p3] (.ListComp elt [⟨.Name x p2, iter, [], 0⟩] scope pos) p4) env A := by
  subst hN hS
  refine xs_setComp hi hnd [(x, j)] (blkOk_by okc) (fun i hin => ?_) hz (by rw [hst.get.1]; exact hn) hst.get.2 hyl hsw hc hfs
  obtain ⟨env2, h1, h2⟩ := hb i hin
  have := wipe_set1 h1.get.1
  subst this
  exact ⟨_, fun s Hb C cl fp => xg_name hnd h1.get.2 hx hf, h2⟩
theorem n_setCompIf {S : Scope} {k : Nat} {y : Str} {c : Expr} {env3 : AEnv} (hN : X.N = N) (hnd : N.Nodup) (hi : XI X (.Name x p2) iter env n it) (j : Nat) (okc : blkC N S scope [(x, j)] = true)
    (hb : ∀ i, i < n → ∃ env2, SetN N env j x (some (.d (it i))) env2 ∧ (∀ s Hb C cl fp, XT (blkX X scope s Hb C cl fp) c env2 (b i)) ∧ (b i = true → ∀ s Hb C cl fp, XD (blkX X scope s Hb C cl fp) elt env2 (f i))) (hz : n ≤ sizeLine)
    (hst : SetN N env k y (some (.l (((List.range n).filter b).map f))) env3) (hn : A.nx env3) {p3 p4 : Pos} (hS : X.env.scope = S := by rfl) (hyl : X.env.scope.names.lookup y = some .local := by rfl)
    (hsw : swapsWith (.ListComp elt [⟨.Name x p2, iter, [c], 0⟩] scope pos) (some (.Name y p3)) p4.line X.env = pure true := by exact sw_true rfl rfl rfl (by decide +kernel))
    (hx : L2.Loc (relabel scope X.env) x := by first | exact .inl rfl | exact .inr rfl) (hf : (scope.names.lookup x == some .cell) = true ∨ (relabel scope X.env).names.lookup x = some .local := by first | exact .inr rfl | exact .inl rfl)
    (hc : X.calm = true := by rfl) (hfs : ∀ x, foldedSetIterable iter X.env x = pure x := by intro _; rfl) :
    XS X (.Assign [.Name y p3] (.ListComp elt [⟨.Name x p2, iter, [c], 0⟩] scope pos) p4) env A := by
  subst hN hS
  refine xs_setCompIf hi hnd [(x, j)] (blkOk_by okc) (fun i hin => ?_) hz (by rw [hst.get.1]; exact hn) hst.get.2 hyl hsw hc hfs
  obtain ⟨env2, h1, h2, h3⟩ := hb i hin
  have := wipe_set1 h1.get.1
  subst this
  exact ⟨_, fun s Hb C cl fp => xg_name hnd h1.get.2 hx hf, h2, h3⟩
end

end

/-! ### sorted of texts, below 64 -/
def leS (a b : Str) : Bool := !ltCps b.cps.toList a.cps.toList
theorem leS_iff (a b : Str) : leS a b = true ↔ a.cps.toList ≤ b.cps.toList := by
  unfold leS
  rw [ltCps_eq]
  simp only [Bool.not_eq_true', decide_eq_false_iff_not, List.not_lt]
theorem leS_trans (a b c : Str) (h1 : leS a b = true) (h2 : leS b c = true) : leS a c = true :=
  (leS_iff a c).mpr (List.le_trans ((leS_iff a b).mp h1) ((leS_iff b c).mp h2))
theorem leS_total (a b : Str) : (leS a b || leS b a) = true := by
  rw [Bool.or_eq_true, leS_iff, leS_iff]
  exact List.le_total _ _
theorem leS_anti (a b : Str) (h1 : leS a b = true) (h2 : leS b a = true) : a = b := by
  have := List.le_antisymm ((leS_iff a b).mp h1) ((leS_iff b a).mp h2)
  cases a; cases b
  simp at this
  rw [this]
def srtS (xs : List Str) : List Str := xs.mergeSort leS
theorem rising_pair : ∀ (r : List Str) (p : Str), risingS p r = true → (p :: r).Pairwise (fun a b => leS a b = true)
  | [], p, _ => by simp
  | x :: r, p, h => by
    unfold risingS at h
    rw [Bool.and_eq_true] at h
    have ih := rising_pair r x h.2
    refine List.pairwise_cons.mpr ⟨fun y hy => ?_, ih⟩
    rcases List.mem_cons.mp hy with rfl | hy
    · exact h.1
    · exact leS_trans _ _ _ h.1 ((List.pairwise_cons.mp ih).1 y hy)
theorem sorted_pair : ∀ (ys : List Str), sortedS ys = true → ys.Pairwise (fun a b => leS a b = true)
  | [], _ => List.Pairwise.nil
  | x :: r, h => rising_pair r x h
theorem srtS_pair (xs : List Str) : (srtS xs).Pairwise (fun a b => leS a b = true) := List.pairwise_mergeSort (fun a b c h1 h2 => leS_trans a b c h1 h2) leS_total xs
theorem srtS_perm (xs : List Str) : (srtS xs).Perm xs := List.mergeSort_perm xs leS
theorem srtS_unique {xs ys : List Str} (hp : ys.Perm xs) (hs : ys.Pairwise (fun a b => leS a b = true)) : ys = srtS xs :=
  List.Perm.eq_of_pairwise (fun a b _ _ h1 h2 => leS_anti a b h1 h2) hs (srtS_pair xs) (hp.trans (srtS_perm xs).symm)
theorem srtS_length (xs : List Str) : (srtS xs).length = xs.length := (srtS_perm xs).length_eq
section
variable {X : Cx} {e : Expr} {env : AEnv} {pos p : Pos}
theorem xl_sortedS {ss : List Str} (h : XD X e env (.list (ss.map .str))) (hz : ss.length < 64) (hm : X.mg "sorted" = none) (hg : Gl X "sorted" := by rfl) (hs : starEach [e] X.env = (false, eval e X.env) :: starEach [] X.env := by rfl) (hpl : (backTo pos (starEach [] X.env)).any (·.1) = false := by rfl) :
    XL X (.Call (.Name "sorted" p) [e] [] pos) env ((srtS ss).map .str) := fun F0 H0 F σ H E Q q => by
  refine e_of (pe_callB cr_sortedS hg hm (by decide +kernel) a_w (by decide) (by decide) hs hpl) (xa1 h hs _ _ F σ H E _ fun vs F1 H1 g1 p1 => ?_)
  obtain ⟨v, rfl, hv⟩ := d1' p1
  obtain ⟨a, us, rfl, h1, h2⟩ := dL hv
  have e1 := dpAll_strs h2
  subst e1
  refine ⟨a, ss, rfl, g1.fr.seq h1, hz, fun ys r hp hsrt hr => ?_⟩
  have e2 : ys = srtS ss := srtS_unique hp (sorted_pair ys hsrt)
  subst e2
  exact q r _ F1 _ (g1.trans (Gro.own g1.fr hr)) (g1.h.free hr) (g1.fr.free hr) upd_same (dpAll_ofStrs _)
end
end FR

namespace FR
open PySem PySem.Spec PyProof.Rows L2

/-! ## operators whatever the data -/
inductive AddD : PyData → PyData → PyData → Prop
  | int {i j} : AddD (.int i) (.int j) (.int (i + j))
  | str {a b} (h : a.length + b.length ≤ sizeLine) : AddD (.str a) (.str b) (.str (a ++ b))
/-- x in a list or tuple of flat data -/
def flatD : PyData → Bool
  | .none => true
  | .bool _ => true
  | .int _ => true
  | .str _ => true
  | _ => false
def eqF : PyData → PyData → Bool
  | .none, .none => true
  | .bool a, .bool b => a == b
  | .bool a, .int b => (if a then 1 else 0) == b
  | .int a, .bool b => a == (if b then 1 else 0)
  | .int a, .int b => a == b
  | .str a, .str b => a == b
  | _, _ => false
def inF (x : PyData) (xs : List PyData) : Bool := xs.any fun y => eqF y x
inductive CmpD : CmpOp → PyData → PyData → Bool → Prop
  | ltI {i j} : CmpD .Lt (.int i) (.int j) (decide (i < j))
  | leI {i j} : CmpD .LtE (.int i) (.int j) (decide (i ≤ j))
  | gtI {i j} : CmpD .Gt (.int i) (.int j) (decide (j < i))
  | geI {i j} : CmpD .GtE (.int i) (.int j) (decide (j ≤ i))
  | eqI {i j} : CmpD .Eq (.int i) (.int j) (decide (i = j))
  | neI {i j} : CmpD .NotEq (.int i) (.int j) (!decide (i = j))
  | eqS {i j} : CmpD .Eq (.str i) (.str j) (decide (i = j))
  | neS {i j} : CmpD .NotEq (.str i) (.str j) (!decide (i = j))
  | eqB {i j} : CmpD .Eq (.bool i) (.bool j) (decide (i = j))
  | neB {i j} : CmpD .NotEq (.bool i) (.bool j) (!decide (i = j))
  | ltS {i j} : CmpD .Lt (.str i) (.str j) (decide (i.cps.toList < j.cps.toList))
  | isN {d} : CmpD .Is d .none (isNonD d)
  | notN {d} : CmpD .IsNot d .none (!isNonD d)
  | inL {d ds} (h1 : flatD d = true) (h2 : ds.all flatD = true) : CmpD .In d (.list ds) (inF d ds)
  | inT {d ds} (h1 : flatD d = true) (h2 : ds.all flatD = true) : CmpD .In d (.tuple ds) (inF d ds)
  | notInL {d ds} (h1 : flatD d = true) (h2 : ds.all flatD = true) : CmpD .NotIn d (.list ds) (!inF d ds)
  | notInT {d ds} (h1 : flatD d = true) (h2 : ds.all flatD = true) : CmpD .NotIn d (.tuple ds) (!inF d ds)
  | inS {c z} : CmpD .In (.str ⟨#[c]⟩) (.str z) (decide (c ∈ z.cps.toList))
  | notInS {c z} : CmpD .NotIn (.str ⟨#[c]⟩) (.str z) (!decide (c ∈ z.cps.toList))
  | eqD {d1 d2} (h1 : SeqAt.shaped d1 = true) (h2 : SeqAt.shaped d2 = true) : CmpD .Eq d1 d2 (PyData.eqv d1 d2)
  | neD {d1 d2} (h1 : SeqAt.shaped d1 = true) (h2 : SeqAt.shaped d2 = true) : CmpD .NotEq d1 d2 (!PyData.eqv d1 d2)
inductive IxD : PyData → Int → PyData → Prop
  | l {ds i d} (h : atI ds i = some d) : IxD (.list ds) i d
  | t {ds i d} (h : atI ds i = some d) : IxD (.tuple ds) i d
  | s {z : Str} {i c} (hz : z.length ≤ sizeLine) (h : atI z.cps.toList i = some c) : IxD (.str z) i (.str ⟨#[c]⟩)
inductive LenD : PyData → Nat → Prop
  | l {ds} : LenD (.list ds) ds.length
  | t {ds} : LenD (.tuple ds) ds.length
  | s {z : Str} (hz : z.length ≤ sizeLine) : LenD (.str z) z.length
inductive TruD : PyData → Bool → Prop
  | non : TruD .none false
  | bl {b} : TruD (.bool b) b
  | int {i} : TruD (.int i) (i != 0)
  | str {z : Str} (hz : z.length ≤ sizeLine) : TruD (.str z) ((z.length : Int) != 0)
  | l {ds} : TruD (.list ds) (!ds.isEmpty)
  | t {ds} : TruD (.tuple ds) (!ds.isEmpty)
theorem flat_dp {K : KW} {F : Hp} {v : V} {d : PyData} (h : Dp K F v d) : flatV v = flatD d := by
  cases h <;> rfl
theorem flat_dpAll {K : KW} {F : Hp} : ∀ {vs : List V} {ds : List PyData}, DpAll K F vs ds → vs.all flatV = ds.all flatD
  | _, _, .nil => rfl
  | _, _, .cons a b => by rw [List.all_cons, List.all_cons, flat_dp a, flat_dpAll b]
theorem eq_dp {K : KW} {F : Hp} {v w : V} {d d' : PyData} (h : Dp K F v d) (h' : Dp K F w d') (f1 : flatD d = true) (f2 : flatD d' = true) : eqV v w = eqF d d' := by
  cases h <;> cases h' <;> first | rfl | (simp [flatD] at f1; done) | (simp [flatD] at f2; done)
theorem in_dp {K : KW} {F : Hp} {v : V} {d : PyData} (h : Dp K F v d) (f : flatD d = true) : ∀ {vs : List V} {ds : List PyData}, DpAll K F vs ds → ds.all flatD = true → inV v vs = inF d ds
  | _, _, .nil, _ => rfl
  | _, _, .cons a b, g => by
    rw [List.all_cons, Bool.and_eq_true] at g
    have ih := in_dp h f b g.2
    unfold inV inF at ih ⊢
    rw [List.any_cons, List.any_cons, eq_dp a h g.1 f, ih]
section
variable {X : Cx} {e e2 e3 tg iter elt : Expr} {es ifs : List Expr} {st : Stmt} {ss body : List Stmt} {env env' : AEnv} {d d1 d2 : PyData} {A : AE} {pos p p2 p3 p4 : Pos} {N : List Str} {i j : Nat} {x : Str} {k : Nat}
theorem g_add (h1 : XD X e env d1) (h2 : XD X e2 env d2) (h : AddD d1 d2 d) : XD X (.BinOp e .Add e2 pos) env d := by
  cases h with
  | int => exact xd_add h1 h2
  | str h => exact xd_cat h1 h2 h
theorem opd_in {K : KW} {neg : Bool} {b : Bool} {ds : List PyData} (hd : ∀ F H v, Sm F H → Dp K F v d2 → ∃ a vs, v = .ref a ∧ (SqL K H a vs ∨ SqT K H a vs) ∧ DpAll K F vs ds) (h1 : flatD d1 = true) (h2 : ds.all flatD = true) (hb : (if neg then !inF d1 ds else inF d1 ds) = b) : OpD K (rIn K neg) d1 d2 (.bool b) :=
  fun F H v w fr p1 p2 Q q => by
    obtain ⟨a, vs, rfl, z1, z2⟩ := hd F H w fr p2
    exact ⟨a, vs, rfl, z1, by rw [flat_dp p1]; exact h1, by rw [flat_dpAll z2]; exact h2, by rw [in_dp p1 h1 z2 h2, hb]; exact q _ F H (Gro.refl fr) (.bl _)⟩
theorem hd_l {K : KW} {ds : List PyData} : ∀ F H v, Sm F H → Dp K F v (.list ds) → ∃ a vs, v = .ref a ∧ (SqL K H a vs ∨ SqT K H a vs) ∧ DpAll K F vs ds := fun F H v fr p => let ⟨a, vs, e, z1, z2⟩ := dL p; ⟨a, vs, e, .inl (fr.seq z1), z2⟩
theorem hd_t {K : KW} {ds : List PyData} : ∀ F H v, Sm F H → Dp K F v (.tuple ds) → ∃ a vs, v = .ref a ∧ (SqL K H a vs ∨ SqT K H a vs) ∧ DpAll K F vs ds := fun F H v fr p => let ⟨a, vs, e, z1, z2⟩ := dT p; ⟨a, vs, e, .inr (seqT_mono fr z1), z2⟩
theorem cmp_r {op : CmpOp} {b : Bool} (hr : Room k X.A) (h : CmpD op d1 d2 b) : ∃ r, OpR X (compareOp op) r ∧ OpD X.kw r d1 d2 (.bool b) := by
  cases h with
  | ltI => exact ⟨_, op_lt, opd_I0 fun _ => .bl _⟩
  | leI => exact ⟨_, op_le, opd_I0 fun _ => .bl _⟩
  | gtI => exact ⟨_, op_gt, opd_I0 fun _ => .bl _⟩
  | geI => exact ⟨_, op_ge, opd_I0 fun _ => .bl _⟩
  | eqI => exact ⟨_, op_eq, opd_eq (fun _ _ => dI) (fun _ _ => dI) rfl dec_int⟩
  | neI => exact ⟨_, op_ne, opd_ne (fun _ _ => dI) (fun _ _ => dI) rfl (by rw [dec_int])⟩
  | eqS => exact ⟨_, op_eq, opd_eq (fun _ _ => dS) (fun _ _ => dS) rfl dec_str⟩
  | neS => exact ⟨_, op_ne, opd_ne (fun _ _ => dS) (fun _ _ => dS) rfl (by rw [dec_str])⟩
  | eqB => exact ⟨_, op_eq, opd_eq (fun _ _ => dB) (fun _ _ => dB) rfl dec_bl⟩
  | neB => exact ⟨_, op_ne, opd_ne (fun _ _ => dB) (fun _ _ => dB) rfl (by rw [dec_bl])⟩
  | ltS => exact ⟨_, op_lt_str, fun F H v w fr p1 p2 Q q => ⟨_, _, dS p1, dS p2, q _ F H (Gro.refl fr) (.bl _)⟩⟩
  | isN => exact ⟨_, op_isN, fun F H v w fr p1 p2 Q q => ⟨dN p2, by rw [dp_non p1]; exact q _ F H (Gro.refl fr) (.bl _)⟩⟩
  | notN => exact ⟨_, op_notN, fun F H v w fr p1 p2 Q q => ⟨dN p2, by rw [dp_non p1]; exact q _ F H (Gro.refl fr) (.bl _)⟩⟩
  | inL h1 h2 => exact ⟨_, op_in_seq, opd_in hd_l h1 h2 rfl⟩
  | inT h1 h2 => exact ⟨_, op_in_seq, opd_in hd_t h1 h2 rfl⟩
  | notInL h1 h2 => exact ⟨_, op_notIn_seq, opd_in hd_l h1 h2 rfl⟩
  | notInT h1 h2 => exact ⟨_, op_notIn_seq, opd_in hd_t h1 h2 rfl⟩
  | inS => exact ⟨_, op_in_sign, fun F H v w fr p1 p2 Q q => ⟨_, _, dS p1, dS p2, q _ F H (Gro.refl fr) (.bl _)⟩⟩
  | notInS => exact ⟨_, op_notIn_sign, fun F H v w fr p1 p2 Q q => ⟨_, _, dS p1, dS p2, q _ F H (Gro.refl fr) (.bl _)⟩⟩
  | eqD s1 s2 => exact ⟨_, op_eqD hr.units, fun F H v w fr p1 p2 Q q => ⟨d1, d2, dpL fr p1 s1, dpL fr p2 s2, s1, s2, q _ F H (Gro.refl fr) (.bl _)⟩⟩
  | neD s1 s2 => exact ⟨_, op_neD hr.units, fun F H v w fr p1 p2 Q q => ⟨d1, d2, dpL fr p1 s1, dpL fr p2 s2, s1, s2, q _ F H (Gro.refl fr) (.bl _)⟩⟩
theorem g_cmp {op : CmpOp} {b : Bool} (hr : Room k X.A) (h1 : XD X e env d1) (h2 : XD X e2 env d2) (h : CmpD op d1 d2 b) (hm : behindInMarks op e2 = false := by first | exact nomark _ | rfl) : XD X (.Compare e [op] [e2] pos) env (.bool b) := by
  obtain ⟨r, ho, hd⟩ := cmp_r hr h
  exact x2 (pe_cmpR ho e_w e_w hm) h1 h2 hd
theorem g_cmpT {op : CmpOp} {b : Bool} (hr : Room k X.A) (h1 : XD X e env d1) (h2 : XD X e2 env d2) (h : CmpD op d1 d2 b) (hm : behindInMarks op e2 = false := by first | exact nomark _ | rfl) : XT X (.Compare e [op] [e2] pos) env b := by
  obtain ⟨r, ho, hd⟩ := cmp_r hr h
  exact cmpT (op := op) (pt_cmpR ho e_w e_w hm) h1 h2 hd
/-- a < b < c and its kin -/
theorem g_chain {op op' : CmpOp} {a b : Bool} {d3 : PyData} (hr : Room k X.A) (h1 : XD X e env d1) (h2 : XD X e2 env d2) (h : CmpD op d1 d2 a) (h3 : XD X e3 env d3) (h' : CmpD op' d2 d3 b)
    (hp : ∀ r r', OpR X (compareOp op) r → OpR X (compareOp op') r' → PT X (.Compare e [op, op'] [e2, e3] pos) (tTest (tChain r r' (wE X e) (wE X e2) (wE X e3)))) : XT X (.Compare e [op, op'] [e2, e3] pos) env (a && b) := by
  obtain ⟨r, ho, hd⟩ := cmp_r hr h
  obtain ⟨r', ho', hd'⟩ := cmp_r hr h'
  intro F0 H0 F σ H E Q q
  refine t_of (hp r r' ho ho') ?_
  refine h1 _ _ F σ H E _ fun v F1 H1 g1 p1 => ?_
  refine h2 _ _ F1 σ H1 (E.grow g1) _ fun w F2 H2 g2 p2 => ?_
  refine hd F2 H2 v w g2.fr (dp_mono g2.f p1) p2 _ fun u F3 H3 g3 p3 => ⟨a, dB p3, ?_⟩
  have gA := (g1.trans g2).trans g3
  cases a with
  | true =>
    refine iteT (h3 _ _ F3 σ H3 (E.grow gA) _ fun y F4 H4 g4 p4 => ?_)
    exact hd' F4 H4 w y g4.fr (dp_mono (g3.f.trans g4.f) p2) p4 _ fun z F5 H5 g5 p5 => ⟨b, dB p5, q F5 H5 ((gA.trans g4).trans g5)⟩
  | false => exact iteF ⟨false, rfl, q F3 H3 gA⟩
theorem g_ix {n : Int} (h1 : XD X e env d1) (h2 : XD X e2 env (.int n)) (h : IxD d1 n d) (hp : PlainIx e2 := by exact fun _ _ => rfl) : XD X (.Subscript e e2 pos) env d := by
  cases h with
  | l h => exact xd_ixL h1 h2 h hp
  | t h => exact xd_ixT h1 h2 h hp
  | s hz h => exact xd_ixS h1 h2 hz h hp
theorem g_len {n : Nat} (h1 : XD X e env d1) (h : LenD d1 n) (hm : X.mg "len" = none) (hg : Gl X "len" := by rfl) (hs : starEach [e] X.env = (false, eval e X.env) :: starEach [] X.env := by rfl) (hpl : (backTo pos (starEach [] X.env)).any (·.1) = false := by rfl) :
    XD X (.Call (.Name "len" p) [e] [] pos) env (.int n) := by
  cases h with
  | l => exact xd_lenL h1 hm hg hs hpl
  | t => exact xd_lenT h1 hm hg hs hpl
  | s hz => exact xd_lenS h1 hz hm hg hs hpl
theorem g_tru {b : Bool} (h1 : XD X e env d1) (h : TruD d1 b) (he : ∀ whole, isTrue e X.env whole = (do let v ← whole; standAt e.pos; holding [v] (truthy v)) := by intro _; rfl) : XT X e env b := by
  intro F0 H0 F σ H E Q q
  refine t_of (pt_truth e_w he) (h1 _ _ F σ H E _ fun v F1 H1 g1 p1 => ?_)
  cases h with
  | non => rw [dN p1]; exact ⟨_, rfl, q F1 H1 g1⟩
  | bl => rw [dB p1]; exact ⟨_, rfl, q F1 H1 g1⟩
  | int => rw [dI p1]; exact ⟨_, rfl, q F1 H1 g1⟩
  | str hz => rw [dS p1]; exact ⟨_, ⟨hz, rfl⟩, q F1 H1 g1⟩
  | l =>
    rename_i ds
    obtain ⟨a, vs, rfl, z1, z2⟩ := dL p1
    have e1 : vs.isEmpty = ds.isEmpty := by cases z2 <;> rfl
    exact ⟨!vs.isEmpty, .inl ⟨vs, g1.fr.seq z1, rfl⟩, by rw [e1]; exact q F1 H1 g1⟩
  | t =>
    rename_i ds
    obtain ⟨a, vs, rfl, z1, z2⟩ := dT p1
    have e1 : vs.isEmpty = ds.isEmpty := by cases z2 <;> rfl
    exact ⟨!vs.isEmpty, .inr (.inl ⟨vs, seqT_mono g1.fr z1, rfl⟩), by rw [e1]; exact q F1 H1 g1⟩
/-- the truth of a list of one's own -/
theorem n_truO {xs : List PyData} (hN : X.N = N) (hat : AtN N env i x (.l xs)) (hs : Vis X.env.scope x := by first | exact Or.inl rfl | exact Or.inr (Or.inl rfl) | exact Or.inr (Or.inr rfl))
    (hd : (x == ("__debug__" : Str)) = false := by decide) (hc : (x == ("__classdict__" : Str)) = false := by decide) (he : ∀ whole, isTrue (.Name x p) X.env whole = (do let v ← whole; standAt (Expr.Name x p).pos; holding [v] (truthy v)) := by intro _; rfl) : XT X (.Name x p) env (!xs.isEmpty) := by
  subst hN
  intro F0 H0 F σ H E Q q
  obtain ⟨v, s1, a, vs, rfl, z1, z2⟩ := E.slot i _ hat.get.1
  refine t_of (pt_truth (pe_var hat.get.2 hs hd hc) he) ⟨_, s1, _, .inl ⟨vs, .inl (.inl z1), rfl⟩, ?_⟩
  have : vs.isEmpty = xs.isEmpty := by cases z2 <;> rfl
  rw [this]; exact q F H E.rfl'

/-! ## isinstance of a built-in class -/
def tyD : PyData → String
  | .none => "NoneType"
  | .bool _ => "bool"
  | .int _ => "int"
  | .str _ => "str"
  | .list _ => "list"
  | .tuple _ => "tuple"
  | .dict _ => "dict"
def isDct : PyData → Bool
  | .dict _ => true
  | _ => false
theorem tyx_dp {K : KW} {F H : Hp} {v : V} {d : PyData} (fr : Sm F H) (h : Dp K F v d) (nd : isDct d = false) : TyX K H v (.type (tyD d)) := by
  cases h with
  | dk _ _ _ => cases nd
  | dt _ _ _ _ => cases nd
  | ins _ _ _ => cases nd
  | fn _ => cases nd
  | non => exact .base .non
  | bl b => exact .base (.bl b)
  | int i => exact .base (.int i)
  | str z => exact .base (.str z)
  | lst h _ =>
    rcases h with (z | ⟨o, z⟩) | ⟨o, its, n, z, c, _⟩
    · exact .base (.lst (fr.get z))
    · exact .base (.frz (fr.get z))
    · exact .kList z c
  | tup h _ =>
    rcases h with (z | ⟨o, z⟩) | ⟨o, its, n, z, c, _⟩
    · exact .base (.tup (fr.get z))
    · exact .fTuple (fr.get z)
    · exact .kTuple z c
theorem g_isi {T : Str} {t : String} {b : Bool} (h1 : XD X e env d1) (hk : kitB (tyD d1) t = some b) (hm : X.mg "isinstance" = none) (hT : X.mg T = none) (hv : bootBuiltins T = some (.type t) := by decide +kernel) (nd : isDct d1 = false := by rfl) (hg : Gl X "isinstance" := by rfl) (hgT : Gl X T := by rfl)
    (hn : T ≠ "__name__" := by decide) (hdb : (T == ("__debug__" : Str)) = false := by decide)
    (hs : starEach [e, .Name T p2] X.env = (false, eval e X.env) :: starEach [.Name T p2] X.env := by rfl) (hs2 : starEach [.Name T p2] X.env = (false, eval (.Name T p2) X.env) :: starEach [] X.env := by rfl) (hpl : (backTo pos (starEach [.Name T p2] X.env)).any (·.1) = false := by rfl) :
    XD X (.Call (.Name "isinstance" p) [e, .Name T p2] [] pos) env (.bool b) := fun F0 H0 F σ H E Q q => by
  refine e_of (pe_callB call_isi hg hm (by decide +kernel) (pa_cons e_w (pa_cons (pe_bltn (v := .ty t) hgT hT hv rfl hn hdb) pa_nil hs2) hs) (by decide) (by decide) hs hpl) ?_
  refine h1 _ _ F σ H E _ fun v F1 H1 g1 p1 => ?_
  exact ⟨v, .ty t, .type (tyD d1), .type t, b, rfl, .ty t, tyx_dp g1.fr p1 nd, kit_ty hk, q _ F1 H1 g1 (.bl b)⟩

theorem boot_str' : bootBuiltins "str" = some (.type "str") := by decide +kernel
theorem boot_int' : bootBuiltins "int" = some (.type "int") := by decide +kernel
theorem boot_tuple' : bootBuiltins "tuple" = some (.type "tuple") := by decide +kernel
theorem boot_list' : bootBuiltins "list" = some (.type "list") := by decide +kernel
theorem boot_bool' : bootBuiltins "bool" = some (.type "bool") := by decide +kernel
theorem kb_ss : kitB "str" "str" = some true := by decide +kernel
theorem kb_tt : kitB "tuple" "tuple" = some true := by decide +kernel
theorem kb_ii : kitB "int" "int" = some true := by decide +kernel
theorem kb_ib : kitB "int" "bool" = some false := by decide +kernel
theorem kb_bb : kitB "bool" "bool" = some true := by decide +kernel
theorem kb_ll : kitB "list" "list" = some true := by decide +kernel
section
variable {b : Bool} {T : Str} {t : String}
theorem g_isi' (h1 : XD X e env d1) (hk : kitB (tyD d1) t = some b) (hm : X.mg "isinstance" = none) (hT : X.mg T = none) (hv : bootBuiltins T = some (.type t)) (hn : T ≠ "__name__") (hdb : (T == ("__debug__" : Str)) = false) (nd : isDct d1 = false := by rfl) (hg : Gl X "isinstance" := by rfl) (hgT : Gl X T := by rfl)
    (hs : starEach [e, .Name T p2] X.env = (false, eval e X.env) :: starEach [.Name T p2] X.env := by rfl) (hs2 : starEach [.Name T p2] X.env = (false, eval (.Name T p2) X.env) :: starEach [] X.env := by rfl) (hpl : (backTo pos (starEach [.Name T p2] X.env)).any (·.1) = false := by rfl) :
    XD X (.Call (.Name "isinstance" p) [e, .Name T p2] [] pos) env (.bool b) := g_isi h1 hk hm hT hv nd hg hgT hn hdb hs hs2 hpl
end
theorem nn_str : ("str" : Str) ≠ "__name__" := by decide
theorem nn_tuple : ("tuple" : Str) ≠ "__name__" := by decide
theorem nn_int : ("int" : Str) ≠ "__name__" := by decide
theorem nn_bool : ("bool" : Str) ≠ "__name__" := by decide
theorem nn_list : ("list" : Str) ≠ "__name__" := by decide
theorem nd_str : (("str" : Str) == ("__debug__" : Str)) = false := by decide
theorem nd_tuple : (("tuple" : Str) == ("__debug__" : Str)) = false := by decide
theorem nd_int : (("int" : Str) == ("__debug__" : Str)) = false := by decide
theorem nd_bool : (("bool" : Str) == ("__debug__" : Str)) = false := by decide
theorem nd_list : (("list" : Str) == ("__debug__" : Str)) = false := by decide

/-! ## a text backwards -/
def revS (z : Str) : Str := ⟨z.cps.toList.reverse.toArray⟩
theorem revS_len (z : Str) : (revS z).length = z.length := by simp [revS, Str.length]
def tRevS (te : TE) : TE := fun σ H Q => te σ H fun x H1 => ∃ z, x = .str z ∧ z.length ≤ sizeLine ∧ Q (.str (revS z)) H1
theorem pe_revS {te : TE} {kk : Nat} {p1 : Pos} (he : PE X e te) : PE X (.Subscript e (.Slice none none (some (.UnaryOp .USub (.Constant (.int 1) kk p1) p2)) p3) pos) (tRevS te) := by
  refine ⟨fun pins s σ H Q I h => ?_⟩
  refine Subscript_ (thn (he.run pins s σ H _ I h) fun v s1 ⟨x, H1, I1, r1, q1⟩ => ?_)
  obtain ⟨z, rfl, hz, q⟩ := q1
  obtain ⟨t, rfl⟩ := r1
  have hst : PO X (some (.UnaryOp .USub (.Constant (.int 1) kk p1) p2)) (tPart (tUn (rU fun i => .int (-i)) (tC (.int 1)))) := po_some (pe_un un_neg pe_int)
  refine wpAny_Slice (thn (po_none.run pins s1 σ H1 (fun o H2 => o = none ∧ H2 = H1) I1 ⟨rfl, rfl⟩) fun vl s2 ⟨l, H2, I2, pl, el, e2⟩ => ?_)
  subst el e2
  refine thn (po_none.run pins s2 σ H2 (fun o H3 => o = none ∧ H3 = H2) I2 ⟨rfl, rfl⟩) fun vu s3 ⟨u, H3, I3, pu, eu, e3⟩ => ?_
  subst eu e3
  refine thn (hst.run pins s3 σ H3 (fun o H4 => o = some (-1) ∧ H4 = H3) I3 ⟨1, rfl, -1, rfl, rfl, rfl⟩) fun vs s4 ⟨o, H4, I4, ps, eo, e4⟩ => ?_
  subst eo e4
  obtain ⟨l', hl, e5⟩ := IsPart.raw pl
  obtain ⟨u', hu, e6⟩ := IsPart.raw pu
  obtain ⟨w', hw, e7⟩ := IsPart.raw ps
  have l0 : l' = none := by cases l' with
    | none => rfl
    | some y => simp at e5
  have u0 : u' = none := by cases u' with
    | none => rfl
    | some y => simp at e6
  obtain ⟨tw, w0⟩ : ∃ tw, w' = some (-1, tw) := by
    cases w' with
    | none => simp at e7
    | some y => obtain ⟨y1, y2⟩ := y; simp at e7; exact ⟨y2, by rw [e7]⟩
  subst l0 u0 w0 hl hu hw
  have hsl : (s4.heap.push { cls := .type "slice", data := .fields #[partValue none, partValue none, partValue (some (-1, tw))] }).IsSlice s4.heap.objs.size none none (some (-1, tw)) := ⟨_, Heap.get?_push_size _ rfl, rfl, rfl⟩
  have I5 : L2.Inv X pins σ H4 { s4 with heap := s4.heap.push { cls := .type "slice", data := .fields #[partValue none, partValue none, partValue (some (-1, tw))] } } := I4.kept (t' := s4.toks) fun b ob q => Heap.get?_push_of_some _ q
  show wpAny (model X.prog X.w) X.A (subscriptTail e (.Slice none none (some (.UnaryOp .USub (.Constant (.int 1) kk p1) p2)) p3) (.str z t) (.ref s4.heap.objs.size)) (EP X pins σ Q) X.xe { s4 with heap := s4.heap.push { cls := .type "slice", data := .fields #[partValue none, partValue none, partValue (some (-1, tw))] } }
  refine tail_any (ops := [.str z t, .ref s4.heap.objs.size]) (typeIs_str _ _ _) F.slot_str_getitem.lookup ?_ (by with_unfolding_all rfl)
  refine wpAny_getItem_str_slice hsl rfl ?_
  have e8 : (⟨((slicePicked z none none (some (-1, tw))).filterMap (z.cps[·]?)).toArray⟩ : Str) = revS z := by
    have h1 : ((slicePicked z none none (some (-1, tw))).filterMap (z.cps[·]?)) = z.cps.toList.reverse := by
      show ((Builtin.Str.strSliceIndices none none (-1) z.length).filterMap (z.cps[·]?)) = _
      rw [picked_rev, filterMap_get _ _ (fun i hi => by
        obtain ⟨k, hk, rfl⟩ := List.mem_map.mp hi
        have := List.mem_range.mp hk
        show _ < z.length
        omega), List.map_map]
      apply List.ext_getElem
      · simp [Str.length]
      · intro i a b
        simp [Str.length] at a b ⊢
        have hb : z.cps.size - 1 - i < z.cps.size := by omega
        rw [Array.getElem?_eq_getElem hb]
        rfl
    unfold revS
    rw [h1]
  have e9 : sliceMade z t none none (some (-1, tw)) = .str (revS z) := by
    unfold sliceMade
    rw [if_neg (by simp), e8]
  rw [e9]
  exact ⟨by rw [revS_len]; exact hz, .str _, H4, I5.tok _, ⟨_, rfl⟩, q⟩
theorem g_rev {z : Str} {kk : Nat} {p1 : Pos} (h : XD X e env (.str z)) (hz : z.length ≤ sizeLine) : XD X (.Subscript e (.Slice none none (some (.UnaryOp .USub (.Constant (.int 1) kk p1) p2)) p3) pos) env (.str (revS z)) := fun F0 H0 F σ H E Q q =>
  e_of (pe_revS e_w) (h _ _ F σ H E _ fun v F1 H1 g1 p1 => ⟨z, dS p1, hz, q _ F1 H1 g1 (.str _)⟩)

/-! ## text * number -/
def repS (z : Str) (n : Nat) : Str := ⟨(List.replicate n z.cps.toList).flatten.toArray⟩
theorem foldl_arr : ∀ (l : List (Array Nat)) (a : Array Nat), (l.foldl (· ++ ·) a).toList = a.toList ++ (l.map (·.toList)).flatten
  | [], a => by simp
  | x :: r, a => by
    rw [List.foldl_cons, foldl_arr r (a ++ x)]; simp
theorem repS_eq (z : Str) (n : Nat) : (⟨(List.replicate n z.cps).foldl (· ++ ·) #[]⟩ : Str) = repS z n := by
  unfold repS
  congr 1
  apply Array.toList_inj.mp
  rw [foldl_arr]
  simp
theorem repS_len (z : Str) (n : Nat) : (repS z n).length = n * z.length := by
  simp [repS, Str.length]
def rMulS : R2 := fun x y H Q => ∃ z n, x = .str z ∧ y = .int n ∧ -100000 ≤ n ∧ n ≤ 100000 ∧ z.length * n.toNat ≤ sizeLine ∧ Q (.str (repS z n.toNat)) H
theorem op_mulS : OpR X (binaryOp .Mult) rMulS := by
  intro pins s σ H x y v u Q I rx ry h
  obtain ⟨z, n, rfl, rfl, h1, h2, hz, q⟩ := h
  obtain ⟨t, rfl⟩ := rx
  obtain ⟨t', rfl⟩ := ry
  have hsl := sizeLine_eq
  by_cases n1 : n < 1
  · refine PySem.P.mul_str_none n1 (by omega) ⟨.str _, H, I.tok _, ⟨_, rfl⟩, ?_⟩
    rw [show n.toNat = 0 by omega] at q
    exact q
  refine PySem.P.mul_str ?_ (fun _ _ => ?_) (fun _ _ => ?_) ?_
  · rw [decide_eq_false (by omega), decide_eq_false (by omega)]; rfl
  · have h3 : (z.length : Int) ≤ (2 ^ 63 - 1) / n := by
      rw [Int.le_ediv_iff_mul_le (by omega)]
      have h4 : (z.length : Int) * n = ((z.length * n.toNat : Nat) : Int) := by
        rw [Int.natCast_mul, Int.toNat_of_nonneg (by omega)]
      rw [h4]
      omega
    omega
  · exact decide_eq_false (by omega)
  · rw [if_neg n1]
    by_cases c : (n == 1 || z.length == 0) = true
    · rw [if_pos c]
      have e : repS z n.toNat = z := by
        rw [Bool.or_eq_true, beq_iff_eq, beq_iff_eq] at c
        rcases c with c | c
        · subst c; simp [repS]
        · have : z.cps = #[] := Array.eq_empty_of_size_eq_zero c
          cases z; simp at this; subst this
          simp [repS]
      rw [e] at q
      exact ⟨.str z, H, I, ⟨t, rfl⟩, q⟩
    · rw [if_neg c, repS_eq]
      exact ⟨by rw [repS_len, Nat.mul_comm]; exact hz, .str _, H, I.tok _, ⟨_, rfl⟩, q⟩
theorem g_mulS {z : Str} {n : Int} (h1 : XD X e env (.str z)) (h2 : XD X e2 env (.int n)) (hn : -100000 ≤ n ∧ n ≤ 100000) (hz : z.length * n.toNat ≤ sizeLine) : XD X (.BinOp e .Mult e2 pos) env (.str (repS z n.toNat)) :=
  x2 (pe_op op_mulS e_w e_w) h1 h2 fun F H v w fr p1 p2 Q q => ⟨z, n, dS p1, dI p2, hn.1, hn.2, hz, q _ F H (Gro.refl fr) (.str _)⟩
/-! ## list + list, both read -/
def rCatQ (K : PySem.W.Frag) : R2 := fun x y H Q => ∃ l b xs zs, x = .ref l ∧ y = .ref b ∧ SqL K H l xs ∧ SqL K H b zs ∧ xs.length + zs.length ≤ sizeLine ∧ ∀ p, H p = none → Q (.ref p) (upd H p (.lst (xs ++ zs)))
theorem op_catQ : OpR X (binaryOp .Add) (rCatQ X.K) := by
  intro pins s σ H x y v u Q I rx ry h
  obtain ⟨l, b, xs, zs, rfl, rfl, hH, hB, hz, q⟩ := h
  cases rx
  cases ry
  obtain ⟨its, r, ⟨o1, n1, e1, c1, _, d1⟩, hl⟩ := I.list hH
  obtain ⟨its2, r2, ⟨o2, n2, e2, c2, _, d2⟩, hl2⟩ := I.list hB
  obtain ⟨cls, dd, data, sl⟩ := o1
  obtain ⟨cls2, dd2, data2, sl2⟩ := o2
  simp only at c1 d1 c2 d2
  subst c1 d1 c2 d2
  have q1 := r.length
  have q2 := r2.length
  have ea : its.toArray ++ its2.toArray = (its ++ its2).toArray := by simp
  refine concat_meets ⟨_, e1, rfl⟩ ⟨_, e2, rfl⟩ noFill_list_add seq_list_add PySem.F.slot_list_add PySem.F.entry_list_add (PySem.F.args_list_add_2 _ _) (list_addW l b its.toArray its2.toArray n1 n2 dd dd2 sl sl2 (by simp; omega)) ⟨e1, e2, ?_⟩
  rw [ea]
  exact ⟨.ref _, _, I.lnew (t' := s.toks) (r.append r2) (by rw [List.length_append]; omega), rfl, q _ I.fresh⟩
theorem xl_catD {xs ys : List PyData} (h1 : XD X e env (.list xs)) (h2 : XD X e2 env (.list ys)) (hz : xs.length + ys.length ≤ sizeLine) : XL X (.BinOp e .Add e2 pos) env (xs ++ ys) := fun F0 H0 F σ H E Q q => by
  refine e_of (pe_op op_catQ e_w e_w) (h1 _ _ F σ H E _ fun v F1 H1 g1 p1 => ?_)
  refine h2 _ _ F1 σ H1 (E.grow g1) _ fun w F2 H2 g2 p2 => ?_
  obtain ⟨a, vs, rfl, z1, z2⟩ := dL p1
  obtain ⟨b, us, rfl, y1, y2⟩ := dL p2
  refine ⟨a, b, vs, us, rfl, rfl, (g2.f.trans g2.fr).seq z1, g2.fr.seq y1, by rw [dpAll_len z2, dpAll_len y2]; exact hz, fun t ht => ?_⟩
  exact q t _ F2 _ ((g1.trans g2).trans (Gro.own g2.fr ht)) ((g1.trans g2).h.free ht) (g2.fr.free ht) upd_same (dpAll_append (dpAll_mono g2.f z2) y2)
/-- y = f(..), any of its answers -/
theorem n_setAny {y x : Str} {C : Cn} {env' : PyData → AEnv} {p0 p9 : Pos} (D : DefOk X.prog X.w X.K X.mg X.base x k C) (hr : Room k X.A) (c : C.ι) (ha : XA X (e :: es) env (C.args c)) (hp : C.ok c) (hN : X.N = N) (hnd : N.Nodup) (hst : ∀ r, SetN N env i y (some (.d r)) (env' r)) (hn : ∀ r, C.post c r → A.nx (env' r))
    (hyy : L2.Loc X.env.scope y := by first | exact .inl rfl | exact .inr rfl)
    (hs : swapsWith (.Call (.Name x p) (e :: es) [] p9) (some (.Name y p2)) p0.line X.env = pure false := by rfl) (hf : X.fn y = true ∨ X.env.scope.names.lookup y = some .local := by first | exact .inl rfl | exact .inr rfl) (hg : Gl X x := by rfl) (hdb : (x == ("__debug__" : Str)) = false := by decide)
    (he : starEach (e :: es) X.env = (false, eval e X.env) :: starEach es X.env := by rfl) (hpl : (backTo p9 (starEach es X.env)).any (·.1) = false := by rfl) (hx : Passes CX0 X E0 := by exact pass0) : XS X (.Assign [.Name y p2] (.Call (.Name x p) (e :: es) [] p9) p0) env A := fun F0 H0 F σ H D' E l => by
  subst hN
  obtain ⟨f, fd, ps, FO, hm, kp, bd⟩ := D.ex
  refine s_of (ps_set hnd (hst .none).get.2 hyy (pe_call FO hr hg hm kp bd .nil hx a_w hdb he hpl) hs hf) (ha _ _ F σ H E _ fun vs F1 H1 g1 p1 => ?_)
  rw [List.append_nil]
  exact ⟨F1, c, g1.fr, p1, hp, fun r v F2 H2 hr g2 p2 => l.nx _ F2 _ H2 ((E.grow (g1.trans g2)).set (av := .d r) p2 rfl) (by rw [(hst r).get.1]; exact hn r hr)⟩
/-! ## tests whose answer is known -/
theorem xs_ifF {b : Bool} {a c : List Stmt} (h : XT X e env b) (hb : b = false) (h2 : XB X c env A) : XS X (.If e a c pos) env A :=
  xs_if h (fun q => by rw [hb] at q; cases q) (fun _ => h2)
theorem xs_ifT {b : Bool} {a c : List Stmt} (h : XT X e env b) (hb : b = true) (h1 : XB X a env A) : XS X (.If e a c pos) env A :=
  xs_if h (fun _ => h1) (fun q => by rw [hb] at q; cases q)
theorem xl_to {xs ys : List PyData} (h : XL X e env xs) (he : xs = ys) : XL X e env ys := he ▸ h
end
end FR

namespace FR
open PySem PySem.Spec PyProof.Rows L2 PySem.Froz

/-! ## sets of texts: made of a list or a tuple, sorted -/
/-- the members that the first i texts give, the last new one ahead -/
def grpS (ss : List Str) : Nat → List Str
  | 0 => []
  | i + 1 => match ss[i]? with
    | some k => if k ∈ grpS ss i then grpS ss i else k :: grpS ss i
    | none => grpS ss i
def uniS (ss : List Str) : List Str := grpS ss ss.length
theorem grp_nodup (ss : List Str) : ∀ i, (grpS ss i).Nodup
  | 0 => List.nodup_nil
  | i + 1 => by
    unfold grpS
    split
    · split
      · exact grp_nodup ss i
      · rename_i k _ hk
        exact List.nodup_cons.mpr ⟨hk, grp_nodup ss i⟩
    · exact grp_nodup ss i
theorem grp_len (ss : List Str) : ∀ i, (grpS ss i).length ≤ i
  | 0 => Nat.le_refl 0
  | i + 1 => by
    have ih := grp_len ss i
    unfold grpS
    split
    · split
      · omega
      · rw [List.length_cons]; omega
    · omega
theorem grp_mem (ss : List Str) (x : Str) : ∀ i, x ∈ grpS ss i ↔ x ∈ ss.take i
  | 0 => by simp [grpS]
  | i + 1 => by
    have ih := grp_mem ss x i
    rw [List.take_add_one, List.mem_append]
    unfold grpS
    cases h : ss[i]? with
    | none => simp [ih]
    | some k =>
      by_cases c : k ∈ grpS ss i
      · simp only [c, if_true, ih, Option.toList_some, List.mem_singleton]
        exact ⟨Or.inl, fun q => q.elim id fun e => by rw [e, ← grp_mem ss k i]; exact c⟩
      · simp only [c, if_false, List.mem_cons, ih, Option.toList_some, List.not_mem_nil, or_false]
        exact Or.comm
theorem uni_nodup (ss : List Str) : (uniS ss).Nodup := grp_nodup ss _
theorem uni_mem (ss : List Str) (x : Str) : x ∈ uniS ss ↔ x ∈ ss := by
  unfold uniS
  rw [grp_mem, List.take_length]
theorem uni_len (ss : List Str) : (uniS ss).length ≤ ss.length := grp_len ss _

def txV (e : Int × Value) : Str := match e.2 with | .str x _ => x | _ => ⟨#[]⟩
/-- a table whose slots rise, walked as the world says -/
def Strolls (w : World) (t : SetTable) : Prop := Ris t.place.toList ∧ (w.params.followText "set-order" = true ∨ t.led = true)
theorem strolls_add {w : World} {h : Int} {v : Value} {D : SD} (q : Strolls w D.2.2) : Strolls w (addTx h v D).2.2 := by
  obtain ⟨es, ep, t⟩ := D
  have a1 := layNew_ris t es h v q.1
  have a2 := layNew_led t es h v
  unfold addTx tailTx
  dsimp only
  generalize layNew t es h v = Z at a1 a2 ⊢
  have a3 : Strolls w Z.2.1 := ⟨a1, q.2.imp id fun z => by rw [a2]; exact z⟩
  have a4 : Strolls w (if Z.2.1.plain = true then { Z.2.1 with plain := false } else Z.2.1) := by
    split
    · exact a3
    · exact a3
  generalize (if Z.2.1.plain = true then { Z.2.1 with plain := false } else Z.2.1) = t2 at a4 ⊢
  split
  · exact ⟨relayAll_ris _ _ _, a4.2.imp id fun z => by rw [relayAll_led]; exact z⟩
  · exact a4
theorem perm_add {h : Int} {v : Value} {D : SD} : (addTx h v D).1.toList.Perm ((h, v) :: D.1.toList) := by
  obtain ⟨es, ep, t⟩ := D
  have a1 := layNew_perm t es h v
  unfold addTx tailTx
  dsimp only
  generalize layNew t es h v = Z at a1 ⊢
  rw [Array.toList_push] at a1
  have a2 : Z.1.toList.Perm ((h, v) :: es.toList) := a1.trans (List.perm_append_singleton _ _)
  generalize (if Z.2.1.plain = true then { Z.2.1 with plain := false } else Z.2.1) = t2
  split
  · exact (relayAll_perm _ _ _).trans a2
  · exact a2
/-- the set of the texts l at a -/
def TxSet (P : Program) (w : World) (h : Heap) (a : Addr) (l : List Str) : Prop :=
  ∃ D : SD, h.get? a = some (sObj "set" D) ∧ TxOk P w D l ∧ Strolls w D.2.2 ∧ (D.1.toList.map txV).Perm l ∧ D.1.size < scanBound
theorem TxSet.keep {P : Program} {w : World} {h h' : Heap} {a : Addr} {l : List Str} (R : TxSet P w h a l) (k : ∀ o, h.get? a = some o → h'.get? a = some o) : TxSet P w h' a l :=
  let ⟨D, ho, r⟩ := R; ⟨D, k _ ho, r⟩
def TxObj (P : Program) (w : World) (a : Addr) (l : List Str) : HO := .ext fun h => TxSet P w h a l
theorem txObj_ok {P : Program} {w : World} {H : Hp} {h : Heap} {a : Addr} {l : List Str} (R : TxSet P w h a l) : ObjOk P w H h a (TxObj P w a l) :=
  ⟨R, ⟨_, R.choose_spec.1⟩, fun _ _ p k => TxSet.keep p k⟩
section
variable {P : Program} {w : World} {A : Around} {E : Value → Shared → Prop} {s : Shared}
/-- one text more -/
theorem tx_more {a : Addr} {l : List Str} {k : Str} {u : Tok} {Q : Bool → Shared → Prop} (R : TxSet P w s.heap a l) (hb : l.length + 1 < scanBound)
    (q : ∀ h' b, Heap.SameBut a s.heap h' → TxSet P w h' a (if k ∈ l then l else k :: l) → Q b { s with heap := h' }) : wpAny (model P w) A (setAddHashed a (.str k u) (hashStr w k)) Q E s := by
  obtain ⟨D, ho, F, st, pm, sb⟩ := R
  by_cases hk : k ∈ l
  · rw [if_pos hk] at q
    obtain ⟨es, ep, t⟩ := D
    have hd : (sObj "set" (es, ep, t)).data = .set es ep t := rfl
    have hel : ElemsOf (strKind P w) es.toList := F.el
    unfold setAddHashed setAddHashedIn
    refine wpAny_holding (wpAny_bind (wpAny_setState_of ho hd F.fit ?_))
    dsimp only; rw [byScan_of rfl sb hel]; simp only [↓reduceIte]
    unfold setAddByScan
    refine wpAny_bind (wpAny_bind (wpAny_rule (wpAny_bind (wpAny_setScan_of (knd := strKind P w) (k := k) (is_str k u) ho hd F.fit hel ?_))))
    cases hr : List.findIdx? (fun e => (strKind P w).is k e.2) es.toList with
    | none =>
      obtain ⟨e, he, z⟩ := (F.mem k).mp hk
      have := List.findIdx?_eq_none_iff.mp hr e he
      rw [z] at this; cases this
    | some j => dsimp only; exact wpAny_pure (wpAny_pure (q s.heap _ (Heap.SameBut.refl a s.heap) ⟨_, ho, F, st, pm, sb⟩))
  · rw [if_neg hk] at q
    have hF := add_ok (k := k) u F
    have hs : (addTx (hashStr w k) (.str k u) D).1.size < scanBound := by rw [show (addTx (hashStr w k) (.str k u) D).1.size = (k :: l).length from hF.sz]; exact hb
    refine add_x ho F hk hb (q _ _ (Heap.SameBut.update _ a _) ⟨_, get_upd _ ho rfl, hF, strolls_add st, ?_, hs⟩)
    exact (perm_add.map txV).trans (List.Perm.cons _ pm)
theorem tx_loop {I : Addr} {fp wr : List Addr} {G : Array GenState → Array GenState → Prop} {n : Nat} {Pv : Nat → Value → Prop} {St : Nat → Shared → Prop} {R : Result → Shared → Prop}
    (W : WalksS P w A.in1 I fp wr G n Pv St) (a : Addr) (ha : a ∉ fp) (ss : List Str) (hn : n = ss.length) (hb : ss.length + 1 < scanBound) (hv : ∀ i v, Pv i v → ∃ k t, ss[i]? = some k ∧ v = .str k t) :
    ∀ (m i : Nat) (s : Shared), n - i = m → i ≤ n → St i s → TxSet P w s.heap a (grpS ss i) →
      (∀ s', Moved (a :: wr) G s s' → TxSet P w s'.heap a (uniS ss) → R (.ok (.ret .none)) s') → codeAny (model P w) A (.builtin "set.update.loop" ⟨[.ref a, .ref I], []⟩) R s := by
  have aw : a ∉ wr := fun z => ha (W.sub _ z)
  have sub : ∀ b ∈ wr, b ∈ a :: wr := fun b z => .tail _ z
  intro m
  induction m with
  | zero =>
    intro i s hm hi hst T q
    obtain rfl : i = n := by omega
    refine codeAny_builtin PyProof.Rows.F.entry_set_update_loop ?_; rw [Around.under_plainId PyProof.Rows.F.plain_set_update_loop _]
    show wpAny _ A.in1 (pyNext (.ref I) >>= _) _ _ s
    refine wpAny_bind (W.done s _ _ hst fun s' mv => ?_); show wpAny _ A.in1 (ret Value.none) _ _ s'
    exact wpAny_pure (q s' (mv.mono sub) (by have := T.keep (h' := s'.heap) fun o e => mv.heap a o aw e; unfold uniS; rw [← hn]; exact this))
  | succ m ih =>
    intro i s hm hi hst T q
    have lt : i < n := by omega
    refine codeAny_builtin PyProof.Rows.F.entry_set_update_loop ?_; rw [Around.under_plainId PyProof.Rows.F.plain_set_update_loop _]
    show wpAny _ A.in1 (pyNext (.ref I) >>= _) _ _ s
    refine wpAny_bind (W.item i s _ _ lt hst fun v s' hP hst' mv => ?_)
    obtain ⟨k, t, hk, rfl⟩ := hv i v hP
    have T1 := T.keep (h' := s'.heap) fun o e => mv.heap a o aw e
    show wpAny _ A.in1 (holding [Value.str k t] (setAdd a (.str k t)) >>= _) _ _ s'
    refine wpAny_bind (wpAny_holding ?_); unfold setAdd
    refine wpAny_holding (wpAny_bind ((strKind P w).pyHash (k := k) (is_str k t) ?_))
    have gl := grp_len ss i
    refine tx_more (s := { s' with toks := s'.toks + 1 }) T1 (by omega) fun h' b sb T2 => ?_
    have e : grpS ss (i + 1) = if k ∈ grpS ss i then grpS ss i else k :: grpS ss i := by
      show (match ss[i]? with | some k => _ | none => _) = _
      rw [hk]
    rw [← e] at T2
    refine wpAny_pure ⟨plainId_quiet PyProof.Rows.F.plain_set_update_loop _, ih (i + 1) _ (by omega) lt (W.frame _ s' _ _ hst' (Nat.le_succ _) fun c hc o z => ?_) T2 fun s'' mv2 T3 => ?_⟩
    · rw [sb.2 c (fun y : c = a => ha (y ▸ hc))]; exact z
    · refine q s'' (Moved.trans W.gtrans ((mv.mono sub).then_heap (Nat.le_succ _) fun c o hc z => ?_) mv2) T3
      rw [sb.2 c (fun y : c = a => hc (y ▸ List.mem_cons_self))]; exact z
abbrev emptyS (w : World) : Obj := { cls := .type "set", dict := none, data := .set #[] 0 (.fresh 0 0 (!w.params.followText "set-order")) }
theorem tx_fresh {h : Heap} {a : Addr} {ss : List Str} (ho : h.get? a = some (emptyS w)) : TxSet P w h a (grpS ss 0) :=
  ⟨(#[], 0, .fresh 0 0 (!w.params.followText "set-order")), ho, TxOk.nil rfl, ⟨List.Pairwise.nil, by
    show _ ∨ (!w.params.followText "set-order") = true
    cases w.params.followText "set-order"
    · exact .inr rfl
    · exact .inl rfl⟩, List.Perm.nil, by show 0 < scanBound; unfold scanBound; omega⟩
theorem set_texts {l : Addr} {its : Array Value} {ss : List Str} {Q : Value → Shared → Prop} (hh : A.handled = none) (hl : s.heap.IsList l its ∨ s.heap.IsTuple l its) (hsz : its.size = ss.length)
    (hval : ∀ (i : Nat) (v : Value), its[i]? = some v → ∃ k t, ss[i]? = some k ∧ v = .str k t) (hb : ss.length + 1 < scanBound)
    (q : ∀ (h' : Heap) (tk : Nat), TxSet P w h' s.heap.objs.size (uniS ss) → (∀ b o, s.heap.get? b = some o → h'.get? b = some o) → Q (.ref s.heap.objs.size) { s with heap := h', toks := tk }) :
    wpAny (model P w) A (call (.type "set") [.ref l]) Q E s := by
  obtain ⟨mc, mt, hmro⟩ := PySem.F.called_set.mro
  have c1 := PySem.F.called_set.made; have c2 := PySem.F.called_set.sub
  refine wpAny_call (codeAny_of_tree ?_); show wpAny _ _ (callAny (.type "set") _) _ _ _
  refine wpAny_pure ⟨Code.quiet_builtin _ (by decide +kernel), codeAny_builtin PySem.F.entry_type_call ?_⟩; rw [Around.under_plain (weight_type_call_type "set" [.ref l] []) rfl]
  have c3 := PySem.F.called_set.notType; have c4 := PySem.F.called_set.canCreate; have c5 := PySem.F.typeCall_set_1 (.ref l)
  repeat (any_goals (first | assumption | wp_step))
  refine codeAny_mono (code_set_led1 (.ref l) (E := E) (Q₁ := fun ob s1 => ob = .ref s.heap.objs.size ∧ s1 = { s with heap := s.heap.push (emptyS w) }) ⟨rfl, rfl⟩) fun r s1 hr => ?_
  cases r with
  | error e => exact hr
  | ok fl =>
    cases fl with
    | ret ob =>
      obtain ⟨rfl, rfl⟩ := hr
      have hS : (s.heap.push (emptyS w)).get? s.heap.objs.size = some (emptyS w) := Heap.get?_push_size _ rfl
      have hT : Shared.TypeIs { s with heap := s.heap.push (emptyS w) } (.ref s.heap.objs.size) "set" := ⟨_, hS, rfl⟩
      have c6 := PySem.F.called_set.init.lookup; have c7 := PySem.F.called_set.init.bind (.ref s.heap.objs.size)
      repeat (any_goals (first | assumption | wp_step))
      refine codeAny_mono (codeAny_call_builtin (R := wants (fun r s2 => r = .none ∧ ∃ h' tk, s2 = { s with heap := h', toks := tk } ∧ TxSet P w h' s.heap.objs.size (uniS ss) ∧ (∀ b o, s.heap.get? b = some o → h'.get? b = some o)) E) PySem.F.called_set.init.plain PySem.F.entry_set_init (check_set_init_1 hT ?_)) fun r2 s2 hr2 => ?_
      · rcases hl with hl | hl
        · obtain ⟨ob, hob, hcl, nl, hdl⟩ := hl
          obtain ⟨ocls, odict, odata, oslots⟩ := ob
          simp only at hcl hdl
          subst hcl; subst hdl
          have old : l < s.heap.objs.size := Heap.lt_size hob
          have hob1 : (s.heap.push (emptyS w)).get? l = some { cls := .type "list", dict := odict, data := .seq its nl, slots := oslots } := Heap.get?_push_of_some _ hob
          have f1 := PySem.F.sub_list_set; have f2 := PySem.F.sub_list_frozenset; have f3 : (Value.type "list" == Value.type "dict") = false := by decide
          have hl1 : (s.heap.push (emptyS w)).IsList l its := ⟨_, hob1, rfl, nl, rfl⟩
          unfold Builtin.«set.__init__» noKeywords Builtin.Frozenset.updateFrom
          generalize hPI : pyIter = PI
          wp_walk
          subst hPI
          refine wpAny_pyIter_list hl1 (wpAny_bind (wpAny_runValue ?_))
          have hx : A.in1.in1.in1.handled = none := by simp [hh]
          have n1 : l ≠ (s.heap.push (emptyS w)).objs.size := by rw [Heap.size_push]; exact Nat.ne_of_lt (Nat.lt_succ_of_lt old)
          have n2 : s.heap.objs.size ∉ [(s.heap.push (emptyS w)).objs.size, l] := by
            rw [Heap.size_push]; simp only [List.mem_cons, List.not_mem_nil, or_false, not_or]; exact ⟨Nat.ne_of_lt (Nat.lt_succ_self _), Nat.ne_of_gt old⟩
          refine tx_loop ((Walks.list hx _ l n1 its).toS) s.heap.objs.size n2 ss hsz hb hval (its.size - 0) 0 _ (by omega) (Nat.zero_le _) ⟨⟨_, Heap.get?_push_size _ rfl, rfl, rfl⟩, (hl1.push _)⟩ (tx_fresh (Heap.get?_push_of_some _ hS)) ?_
          intro s' mv T
          obtain ⟨h', g', d', tk', os'⟩ := s'
          obtain rfl : g' = s.gens := mv.gens
          obtain rfl : d' = s.drawn := mv.drawn
          obtain rfl : os' = s.os := mv.os
          show wpAny _ _ _ _ _ _
          refine wpAny_pure ?_
          show wpAny _ _ (ret Value.none) _ _ _
          refine wpAny_pure ⟨rfl, h', tk', rfl, T, fun b o e => ?_⟩
          have lb : b < s.heap.objs.size := Heap.lt_size e
          refine mv.heap b o ?_ (Heap.get?_push_of_some _ (Heap.get?_push_of_some _ e))
          rw [Heap.size_push]; simp only [List.mem_cons, List.not_mem_nil, or_false, not_or]; exact ⟨Nat.ne_of_lt lb, Nat.ne_of_lt (Nat.lt_succ_of_lt lb)⟩
        · obtain ⟨ob, hob, hcl, nl, hdl⟩ := hl
          obtain ⟨ocls, odict, odata, oslots⟩ := ob
          simp only at hcl hdl
          subst hcl; subst hdl
          have old : l < s.heap.objs.size := Heap.lt_size hob
          have hob1 : (s.heap.push (emptyS w)).get? l = some { cls := .type "tuple", dict := odict, data := .seq its nl, slots := oslots } := Heap.get?_push_of_some _ hob
          have f1 := F.sub_tuple_set; have f2 := F.sub_tuple_frozenset; have f3 : (Value.type "tuple" == Value.type "dict") = false := by decide
          have hl1 : (s.heap.push (emptyS w)).IsTuple l its := ⟨_, hob1, rfl, nl, rfl⟩
          unfold Builtin.«set.__init__» noKeywords Builtin.Frozenset.updateFrom
          generalize hPI : pyIter = PI
          wp_walk
          subst hPI
          refine wpAny_pyIter_tuple hl1 (wpAny_bind (wpAny_runValue ?_))
          have hx : A.in1.in1.in1.handled = none := by simp [hh]
          have n1 : l ≠ (s.heap.push (emptyS w)).objs.size := by rw [Heap.size_push]; exact Nat.ne_of_lt (Nat.lt_succ_of_lt old)
          have n2 : s.heap.objs.size ∉ [(s.heap.push (emptyS w)).objs.size, l] := by
            rw [Heap.size_push]; simp only [List.mem_cons, List.not_mem_nil, or_false, not_or]; exact ⟨Nat.ne_of_lt (Nat.lt_succ_self _), Nat.ne_of_gt old⟩
          refine tx_loop ((Walks.tuple hx _ l n1 its).toS) s.heap.objs.size n2 ss hsz hb hval (its.size - 0) 0 _ (by omega) (Nat.zero_le _) ⟨⟨_, Heap.get?_push_size _ rfl, rfl, rfl⟩, (hl1.push _)⟩ (tx_fresh (Heap.get?_push_of_some _ hS)) ?_
          intro s' mv T
          obtain ⟨h', g', d', tk', os'⟩ := s'
          obtain rfl : g' = s.gens := mv.gens
          obtain rfl : d' = s.drawn := mv.drawn
          obtain rfl : os' = s.os := mv.os
          show wpAny _ _ _ _ _ _
          refine wpAny_pure ?_
          show wpAny _ _ (ret Value.none) _ _ _
          refine wpAny_pure ⟨rfl, h', tk', rfl, T, fun b o e => ?_⟩
          have lb : b < s.heap.objs.size := Heap.lt_size e
          refine mv.heap b o ?_ (Heap.get?_push_of_some _ (Heap.get?_push_of_some _ e))
          rw [Heap.size_push]; simp only [List.mem_cons, List.not_mem_nil, or_false, not_or]; exact ⟨Nat.ne_of_lt lb, Nat.ne_of_lt (Nat.lt_succ_of_lt lb)⟩
      · cases r2 with
        | error e => exact hr2
        | ok fl2 =>
          cases fl2 with
          | ret r =>
            obtain ⟨rfl, h', tk, rfl, T, kp⟩ := hr2
            repeat (any_goals (first | assumption | wp_step))
            exact q _ _ T kp
          | _ => exact hr2.elim
    | _ => exact hr.elim
end
end FR

namespace FR
open PySem PySem.Spec PyProof.Rows L2 PySem.Froz
/-! ### in the layer: set(texts), sorted of a set, sorted by length -/
def IsTx (v : Value) (x : Str) : Prop := ∃ t, v = .str x t
def ofV (v : Value) : Str := match v with | .str x _ => x | _ => ⟨#[]⟩
theorem isTx_all : ∀ {vs : List Value}, (∀ v ∈ vs, ∃ x t, v = .str x t) → PySem.W.EachIs IsTx vs (vs.map ofV)
  | [], _ => .nil
  | v :: r, h => by
    obtain ⟨x, t, rfl⟩ := h v List.mem_cons_self
    exact .cons ⟨t, rfl⟩ (isTx_all fun u hu => h u (List.mem_cons_of_mem _ hu))
theorem isTx_of : ∀ {xs : List Str} {us : List Value}, Vals (xs.map V.str) us → PySem.W.EachIs IsTx us xs
  | [], _, h => by cases h; exact .nil
  | x :: xs, _, h => by
    cases h with
    | cons h1 h2 => exact .cons h1 (isTx_of h2)
theorem isTx_vals : ∀ {us : List Value} {xs : List Str}, PySem.W.EachIs IsTx us xs → Vals (xs.map V.str) us
  | _, _, .nil => .nil
  | _, _, .cons h1 h2 => .cons h1 (isTx_vals h2)
theorem isTx_reads {h : Heap} : ∀ {us : List Value} {xs : List Str}, PySem.W.EachIs IsTx us xs → PySem.W.EachIs (fun v b => ∃ as, Reads h v (.str b) as) us xs := fun e => e.mono fun v b q => by
  obtain ⟨t, rfl⟩ := q
  exact ⟨[], .str _ _⟩
theorem alike_tx (xs : List Str) : PySem.W.AllAlike (xs.map .str) := PySem.W.AllAlike.of fun _ _ => by simp [PySem.W.alike]
theorem sortable_tx (xs : List Str) : PySem.W.Sortable (xs.map .str) := PySem.W.Sortable.others fun _ => ⟨(fun z => nomatch z), (fun _ z => nomatch z)⟩
theorem le_tx : PySem.W.dataLe false (fun b : Str => .str b) = leS := by
  rw [PySem.W.dataLe_str (fun b : Str => b)]
  funext a b
  rw [Bool.eq_iff_iff, leS_iff]
  exact decide_eq_true_iff
/-- by length, equal ones in their turn -/
def lenS (xs : List Str) : List Str := xs.mergeSort fun a b => decide (a.length ≤ b.length)
theorem le_len : PySem.W.dataLe false (fun b : Str => .int (b.length : Int)) = fun a b => decide (a.length ≤ b.length) := by
  rw [PySem.W.dataLe_int (fun b : Str => (b.length : Int))]
  funext a b
  rw [Bool.eq_iff_iff, decide_eq_true_iff, decide_eq_true_iff]
  omega
theorem lenS_perm (xs : List Str) : (lenS xs).Perm xs := List.mergeSort_perm xs _
section
variable {X : Cx}
def rSetTx (X : Cx) : List V → Hp → VK → Prop := fun xs H Q => ∃ (a : Addr) (ss : List Str), xs = [.ref a] ∧ (SqL X.K H a (ss.map .str) ∨ SqT X.K H a (ss.map .str)) ∧ ss.length + 1 < scanBound ∧
  ∀ p, H p = none → Q (.ref p) (upd H p (TxObj X.prog X.w p (uniS ss)))
theorem tx_items {its : List Value} {ss : List Str} (e : PySem.W.EachIs IsTx its ss) : ∀ (i : Nat) (v : Value), its.toArray[i]? = some v → ∃ k t, ss[i]? = some k ∧ v = .str k t := by
  induction e with
  | nil => intro i v h; simp at h
  | @cons v0 x0 vs xs h1 h2 ih =>
    intro i v h
    simp only [List.getElem?_toArray] at h ih
    cases i with
    | zero =>
      obtain ⟨t, q⟩ := h1
      have : v0 = v := by simpa using h
      exact ⟨_, t, rfl, by rw [← this]; exact q⟩
    | succ i => exact ih i v (by simpa using h)
theorem cr_setTx (hc : X.calm = true) : CallR X (.type "set") (rSetTx X) := by
  intro pins s σ H xs us Q I r h
  obtain ⟨a, ss, rfl, sq, hb, q⟩ := h
  rw [Vals.ref1 r]
  have main : ∀ its : List Value, Vals (ss.map V.str) its → (s.heap.IsList a its.toArray ∨ s.heap.IsTuple a its.toArray) → wpAny (model X.prog X.w) X.A (call (.type "set") [.ref a]) (EP X pins σ Q) X.xe s := fun its rv hl => by
    have hs : its.toArray.size = ss.length := by rw [List.size_toArray, ← rv.length, List.length_map]
    refine set_texts (I.ok.hd hc) hl hs (tx_items (isTx_of rv)) hb fun h' tk T kp => ?_
    exact ⟨.ref _, upd H s.heap.objs.size (TxObj X.prog X.w s.heap.objs.size (uniS ss)), I.laid (t' := tk) kp (Nat.le_refl _) (txObj_ok T), rfl, q _ (I.hok.fresh (Nat.le_refl _))⟩
  rcases sq with sq | sq
  · obtain ⟨its, rv, hl, hz⟩ := I.list sq
    exact main its rv (.inl hl.isList)
  · obtain ⟨its, rv, hl, hz⟩ := I.tuple sq
    exact main its rv (.inr hl)
def rSortedTx (X : Cx) : List V → Hp → VK → Prop := fun xs H Q => ∃ (a : Addr) (l : List Str), xs = [.ref a] ∧ H a = some (TxObj X.prog X.w a l) ∧ ∀ p, H p = none → Q (.ref p) (upd H p (.lst ((srtS l).map V.str)))
theorem tx_elem {P : Program} {w : World} {D : SD} {l : List Str} (F : TxOk P w D l) : ∀ v ∈ D.1.toList.map (·.2), ∃ x t, v = Value.str x t := by
  intro v hv
  obtain ⟨e, he, rfl⟩ := List.mem_map.mp hv
  obtain ⟨⟨k, hk, _⟩, _⟩ := F.el e he
  have hk' : Value.isStrOf k e.2 = true := hk
  cases h : e.2 with
  | str x t => exact ⟨x, t, rfl⟩
  | _ => rw [h] at hk'; simp [Value.isStrOf] at hk'
theorem cr_sortedTx (hc : X.calm = true) (hu : X.A.units + 64 < cLine) : CallR X (.builtin "sorted") (rSortedTx X) := by
  intro pins s σ H xs us Q I r h
  obtain ⟨a, l, rfl, ha, q⟩ := h
  rw [Vals.ref1 r]
  have R : TxSet X.prog X.w s.heap a l := (I.hok a _ ha).1
  obtain ⟨⟨es, ep, t⟩, ho, F, st, pm, sb⟩ := R
  refine Calls.call_function_entry kind_sorted plain_sorted entry_sorted (args_sorted1 _) ?_; unfold Builtin.«sorted»
  refine wpAny_bind (m := checkCount "sorted" 1 1 _) (wpAny_pure ?_)
  refine wpAny_bind (collect_set (A := X.A.in1) (I.ok.hd hc) ⟨_, ho, rfl, rfl⟩ F.fit sb st.1 st.2 fun s1 vs k1 hz g1 o1 pm1 => ?_)
  have hb : vs.length < scanBound := by rw [pm1.length_eq, List.length_map, Array.length_toList]; exact sb
  have hv : vs.length ≤ sizeLine := fits_of_scanBound hb
  have eTx := isTx_all (vs := vs) fun v hv => tx_elem F v (pm1.mem_iff.mp hv)
  have pml : (vs.map ofV).Perm l := (pm1.map ofV).trans (by rw [List.map_map]; exact pm)
  refine wpAny_bind (wpAny_newList ?_ hv)
  have hL : (s1.heap.push (seqObj "list" vs.toArray 0)).get? s1.heap.objs.size = some (seqObj "list" vs.toArray 0) := Heap.get?_push_size _ rfl
  refine wpAny_bind (wpAny_holding (PySem.W.list_sort_data (enc := fun b : Str => .str b) hL eTx (eTx.mono fun v b z => by obtain ⟨t, rfl⟩ := z; exact ⟨[], .str _ _, by simp⟩) (alike_tx _) (sortable_tx _) (by rw [List.length_map]; exact hv) (fun b _ => ?_) fun out lo eo => ?_))
  · show X.A.units + 1 + 1 + PyData.depth (.str b) < cLine
    rw [show PyData.depth (.str b) = 0 by simp [PyData.depth]]; omega
  rw [le_tx] at eo
  have e1 : (vs.map ofV).mergeSort leS = srtS l := srtS_unique ((List.mergeSort_perm _ _).trans pml) (srtS_pair (vs.map ofV))
  rw [e1] at eo
  obtain ⟨c, hcc⟩ := sortedHeap_at (vs := vs) (out := out.toArray) hL
  refine wpAny_pure ⟨_, rfl, ?_⟩
  have kp : ∀ b u, s.heap.get? b = some u → (sortedHeap (s1.heap.push (seqObj "list" vs.toArray 0)) s1.heap.objs.size vs out.toArray).get? b = some u := fun b u z => by
    have z1 := k1 b u z
    have lt := Heap.lt_size z1
    rw [sortedHeap_old (Nat.ne_of_lt lt) (by rw [size_push']; exact Nat.lt_succ_of_lt lt)]
    exact Heap.get?_push_of_some _ z1
  have hn : H s1.heap.objs.size = none := I.hok.fresh hz
  have hlen : ((srtS l).map V.str).length ≤ sizeLine := by
    rw [List.length_map, srtS_length, ← pml.length_eq, List.length_map]; exact hv
  have J := I.call' (s' := { s1 with heap := sortedHeap (s1.heap.push (seqObj "list" vs.toArray 0)) s1.heap.objs.size vs out.toArray }) (ch := []) o1 (Un.laid (o := .lst ((srtS l).map V.str)) kp hz hn)
    (I.hok.laid kp hz ⟨hlen, out, c, isTx_vals eo, hcc⟩) (by show AllBare s1.gens; rw [g1]; exact I.bare) (fun _ z => nomatch z)
  exact ⟨.ref _, _, J, rfl, q _ hn⟩
/-- sorted(e, key=len) of texts -/
def tSrtLen (X : Cx) (te : TE) : TE := fun σ H Q => te σ H fun x H1 => ∃ (a : Addr) (ss : List Str), x = .ref a ∧ SqL X.K H1 a (ss.map V.str) ∧ (∀ z ∈ ss, z.length ≤ sizeLine) ∧ ∀ p, H1 p = none → Q (.ref p) (upd H1 p (.lst ((lenS ss).map V.str)))
theorem pe_srtLen {e : Expr} {te : TE} {p p2 kpos pos : Pos} (hu : X.A.units + 64 < cLine) (he : PE X e te) (hm : X.mg "sorted" = none) (hm2 : X.mg "len" = none) (hg : Gl X "sorted" := by rfl) (hg2 : Gl X "len" := by rfl)
    (hst : backTo pos (starEach [e] X.env) = (false, eval e X.env) :: backTo pos (starEach [] X.env) := by rfl) (hpl : (backTo pos (starEach [e] X.env)).any (·.1) = false := by rfl) (hs : starEach [e] X.env = (false, eval e X.env) :: starEach [] X.env := by rfl) :
    PE X (.Call (.Name "sorted" p) [e] [⟨some "key", .Name "len" p2, kpos⟩] pos) (tSrtLen X te) := by
  refine ⟨fun pins s σ H Q I h => ?_⟩
  refine wpAny_Call_Name_kw (ld_blt I hg hm (show bootBuiltins "sorted" = some (.builtin "sorted") by decide +kernel) ?_ (by decide) (by decide))
  refine PyProof.Rows.callWith_kw (thn ((pa_cons he pa_nil hs).run pos pins s σ H (fun vs H1 => match vs with | [x] => ∃ (a : Addr) (ss : List Str), x = .ref a ∧ SqL X.K H1 a (ss.map V.str) ∧ (∀ z ∈ ss, z.length ≤ sizeLine) ∧ ∀ p, H1 p = none → Q (.ref p) (upd H1 p (.lst ((lenS ss).map V.str))) | _ => False) I ?_) fun us s1 ⟨vs, H1, I1, r1, z1⟩ => ?_) hst hpl (by rfl) (by rfl)
  · exact h
  · obtain ⟨x, rfl⟩ : ∃ x, vs = [x] := by
      match vs, z1 with
      | [x], _ => exact ⟨x, rfl⟩
    obtain ⟨a, ss, rfl, hsq, hsz, q⟩ := z1
    obtain rfl := Vals.ref1 r1
    show wpAny _ _ (evalAll ((do let v ← eval (.Name "len" p2) X.env; standAt pos; pure v) :: [])) _ _ s1
    refine wpAny_evalAll_cons (wpAny_bind (ld_blt I1 hg2 hm2 PySem.boot_len (wpAny_bind (wpAny_standAt (wpAny_pure (wpAny_evalAll_nil ?_)))) (by decide) (by decide)))
    obtain ⟨its, rv, hl, hz⟩ := I1.list hsq
    have eTx := isTx_of rv
    show wpAny _ _ (call (.builtin "sorted") [.ref a] [(Str.ofString "key", .builtin "len")]) _ _ s1
    rw [List.length_map] at hz
    refine PySem.W.sorted_key_data (b := false) (fun x : Str => .int (x.length : Int)) hl.isList eTx ?_ ?_ hz (fun x _ => ?_) (ksk_s1 _ _) (fun _ => ksk_l1 _ _) (fun _ => ksk_t4 _ _) (fun v x hR hx h tk _ => ?_) fun out c h' tk kp fr hp lo eo => ?_
    · exact PySem.W.AllAlike.of fun _ _ => by simp [PySem.W.alike]
    · exact PySem.W.Sortable.others fun _ => ⟨(fun z => nomatch z), (fun _ z => nomatch z)⟩
    · rw [show PyData.depth (.int (x.length : Int)) = 0 by simp [PyData.depth]]; omega
    · obtain ⟨t, rfl⟩ := hR
      have hx1 := hsz x hx
      rw [sizeLine_eq] at hx1
      exact PySem.P.len_str (by omega) ⟨h, _, rfl, fun _ _ z => z, .int _ _⟩
    · rw [le_len] at eo
      have hlen : ((lenS ss).map V.str).length ≤ sizeLine := by
        rw [List.length_map, (lenS_perm ss).length_eq]; exact hz
      exact ⟨.ref _, upd H1 (s1.heap.objs.size + 1) (.lst ((lenS ss).map V.str)), I1.laid (t' := tk) kp (Nat.le_succ _) ⟨hlen, out, c, isTx_vals eo, hp⟩, rfl, q _ (I1.hok.fresh (Nat.le_succ _))⟩

/-! by data -/
variable {e : Expr} {env : AEnv} {k : Nat} {p p2 p3 kpos pos pos2 : Pos} {ss : List Str}
theorem dpAll_txs {K : KW} {F : Hp} {vs : List V} {ss : List Str} (h : DpAll K F vs (ss.map .str)) : vs = ss.map V.str := dpAll_strs h
/-- sorted(set(e)) of texts -/
theorem xl_srtSet (hr : Room k X.A) (h : XD X e env (.list (ss.map .str)) ∨ XD X e env (.tuple (ss.map .str))) (hz : ss.length + 1 < scanBound) (hm : X.mg "sorted" = none) (hm2 : X.mg "set" = none) (hg : Gl X "sorted" := by rfl) (hg2 : Gl X "set" := by rfl) (hc : X.calm = true := by rfl)
    (hs : starEach [e] X.env = (false, eval e X.env) :: starEach [] X.env := by rfl) (hpl : (backTo pos2 (starEach [] X.env)).any (·.1) = false := by rfl)
    (hs2 : starEach [.Call (.Name "set" p2) [e] [] pos2] X.env = (false, eval (.Call (.Name "set" p2) [e] [] pos2) X.env) :: starEach [] X.env := by rfl) (hpl2 : (backTo pos (starEach [] X.env)).any (·.1) = false := by rfl) :
    XL X (.Call (.Name "sorted" p) [.Call (.Name "set" p2) [e] [] pos2] [] pos) env ((srtS (uniS ss)).map .str) := fun F0 H0 F σ H E Q q => by
  refine e_of (pe_callB (cr_sortedTx hc hr.units) hg hm (by decide +kernel) (pa_cons (pe_callTy (cr_setTx hc) hg2 hm2 (by decide +kernel) (pa_cons e_w pa_nil hs) (by decide) (by decide) hs hpl) pa_nil hs2) (by decide) (by decide) hs2 hpl2) ?_
  have fin : ∀ (a : Addr) (F1 H1 : Hp), Gro F H F1 H1 → (SqL X.K H1 a (ss.map V.str) ∨ SqT X.K H1 a (ss.map V.str)) → rSetTx X [.ref a] H1 (fun y H2 => rSortedTx X [y] H2 Q) := fun a F1 H1 g1 sq =>
    ⟨a, ss, rfl, sq, hz, fun p hp => ⟨p, uniS ss, rfl, upd_same, fun p2 hp2 => by
      have g2 : Gro F1 H1 F1 (upd H1 p (TxObj X.prog X.w p (uniS ss))) := Gro.own g1.fr hp
      have g3 := (g1.trans g2)
      exact q p2 _ F1 _ (g3.trans (Gro.own g3.fr hp2)) (g3.h.free hp2) (g3.fr.free hp2) upd_same (dpAll_ofStrs _)⟩⟩
  rcases h with h | h
  · refine h _ _ F σ H E _ fun v F1 H1 g1 p1 => ?_
    obtain ⟨a, vs, rfl, z1, z2⟩ := dL p1
    have := dpAll_strs z2
    subst this
    exact fin a F1 H1 g1 (.inl (g1.fr.seq z1))
  · refine h _ _ F σ H E _ fun v F1 H1 g1 p1 => ?_
    obtain ⟨a, vs, rfl, z1, z2⟩ := dT p1
    have := dpAll_strs z2
    subst this
    exact fin a F1 H1 g1 (.inr (seqT_mono g1.fr z1))
/-- sorted(e, key=len) of texts -/
theorem xl_srtLen (hr : Room k X.A) (h : XL X e env (ss.map .str)) (hz : ∀ z ∈ ss, z.length ≤ sizeLine) (hm : X.mg "sorted" = none) (hm2 : X.mg "len" = none) (hg : Gl X "sorted" := by rfl) (hg2 : Gl X "len" := by rfl)
    (hst : backTo pos (starEach [e] X.env) = (false, eval e X.env) :: backTo pos (starEach [] X.env) := by rfl) (hpl : (backTo pos (starEach [e] X.env)).any (·.1) = false := by rfl) (hs : starEach [e] X.env = (false, eval e X.env) :: starEach [] X.env := by rfl) :
    XL X (.Call (.Name "sorted" p) [e] [⟨some "key", .Name "len" p2, kpos⟩] pos) env ((lenS ss).map .str) := fun F0 H0 F σ H E Q q => by
  refine e_of (pe_srtLen hr.units e_w hm hm2 hg hg2 hst hpl hs) ?_
  refine h _ _ F σ H E _ fun p vs F1 H1 g1 n1 n2 at1 d1 => ?_
  have := dpAll_strs d1
  subst this
  exact ⟨p, ss, rfl, SqL.of at1, hz, fun p2 hp2 => q p2 _ F1 _ (g1.trans (Gro.own g1.fr hp2)) (g1.h.free hp2) (g1.fr.free hp2) upd_same (dpAll_ofStrs _)⟩
end
/-- in order: by length, then as texts, each once -/
def ordS (ss : List Str) : List Str := lenS (srtS (uniS ss))
theorem ordS_mem (ss : List Str) (x : Str) : x ∈ ordS ss ↔ x ∈ ss := by
  unfold ordS
  rw [(lenS_perm _).mem_iff, (srtS_perm _).mem_iff, uni_mem]
theorem ordS_nodup (ss : List Str) : (ordS ss).Nodup := by
  unfold ordS
  rw [(lenS_perm _).nodup_iff, (srtS_perm _).nodup_iff]
  exact uni_nodup ss
theorem ordS_len (ss : List Str) : (ordS ss).length ≤ ss.length := by
  unfold ordS
  rw [(lenS_perm _).length_eq, (srtS_perm _).length_eq]
  exact uni_len ss
end FR

namespace FR
open PySem PySem.Spec PyProof.Rows L2

/-! ## mirrors: a def's reading as a function into Option -/
theorem obS {α β : Type} {m : Option α} {f : α → Option β} {r : β} (h : Option.bind m f = some r) : ∃ x, m = some x ∧ f x = some r := by
  cases m with
  | none => cases h
  | some x => exact ⟨x, rfl, h⟩
theorem ifT {α : Type} {c : Bool} {a b : Option α} {r : α} (h : (if c = true then a else b) = some r) (hc : c = true) : a = some r := by rw [if_pos hc] at h; exact h
theorem ifF {α : Type} {c : Bool} {a b : Option α} {r : α} (h : (if c = true then a else b) = some r) (hc : c = false) : b = some r := by rw [hc, if_neg Bool.false_ne_true] at h; exact h
inductive Ctl (σ ρ : Type) where
  | nx (s : σ)
  | bk (s : σ)
  | rt (r : ρ)
def loopM {α σ ρ : Type} (f : α → σ → Option (Ctl σ ρ)) : List α → σ → Option (Sum σ ρ)
  | [], s => some (.inl s)
  | x :: xs, s => match f x s with
    | none => none
    | some (.nx s') => loopM f xs s'
    | some (.bk s') => some (.inl s')
    | some (.rt r) => some (.inr r)
def whileM {σ ρ : Type} (c : σ → Option Bool) (f : σ → Option (Ctl σ ρ)) : Nat → σ → Option (Sum σ ρ)
  | 0, _ => none
  | n + 1, s => match c s with
    | none => none
    | some false => some (.inl s)
    | some true => match f s with
      | none => none
      | some (.nx s') => whileM c f n s'
      | some (.bk s') => some (.inl s')
      | some (.rt r) => some (.inr r)
def jn {σ ρ τ : Type} (c : Sum σ ρ) (k : σ → Option τ) (r : ρ → Option τ) : Option τ := match c with
  | .inl s => k s
  | .inr v => r v
theorem jnI {σ ρ τ : Type} {s : σ} {k : σ → Option τ} {r : ρ → Option τ} {x : τ} (h : jn (.inl s) k r = some x) : k s = some x := h
theorem jnR {σ ρ τ : Type} {v : ρ} {k : σ → Option τ} {r : ρ → Option τ} {x : τ} (h : jn (.inr v) k r = some x) : r v = some x := h
def iMod (a b : Int) : Option Int := if 0 < b then some (a % b) else none
def iDiv (a b : Int) : Option Int := if 0 < b ∧ b < 1073741824 then some (a / b) else none
def iMul (a b : Int) : Option Int := if (-(2 ^ 64) < a ∧ a < 2 ^ 64) ∨ (-(2 ^ 64) < b ∧ b < 2 ^ 64) then some (a * b) else none
def iPow (a b : Int) : Option Int := if 0 ≤ b ∧ b ≤ 1000000 ∧ a.natAbs < 2 ^ 64 then some (a ^ b.toNat) else none
def sAdd (a b : Str) : Option Str := if a.length + b.length ≤ sizeLine then some (a ++ b) else none
def sMul (a : Str) (n : Int) : Option Str := if (-100000 ≤ n ∧ n ≤ 100000) ∧ a.length * n.toNat ≤ sizeLine then some (repS a n.toNat) else none
def sLen (a : Str) : Option Int := if a.length ≤ sizeLine then some a.length else none
def sIx (z : Str) (i : Int) : Option Str := if z.length ≤ sizeLine then (atI z.cps.toList i).map fun c => ⟨#[c]⟩ else none
def sCut (z : Str) (l u : Option Int) : Option Str := if z.length ≤ sizeLine then some (cutS z l u) else none
def sRev (z : Str) : Option Str := if z.length ≤ sizeLine then some (revS z) else none
def lApp {α : Type} (xs : List α) (x : α) : Option (List α) := if xs.length < sizeLine then some (xs ++ [x]) else none
def lCat {α : Type} (xs ys : List α) : Option (List α) := if xs.length + ys.length ≤ sizeLine then some (xs ++ ys) else none
def rng1 (b : Int) : Option (List Int) := if -(2 ^ 62) ≤ b ∧ b < 2 ^ 62 then some ((List.range b.toNat).map fun i : Nat => (i : Int)) else none
def rng2 (a b : Int) : Option (List Int) := if -(2 ^ 62) ≤ a ∧ a < 2 ^ 62 ∧ -(2 ^ 62) ≤ b ∧ b < 2 ^ 62 then some ((List.range (b - a).toNat).map fun i : Nat => a + (i : Int)) else none
def chs (z : Str) : List Str := z.cps.toList.map fun c => ⟨#[c]⟩
def cutL {α : Type} (xs : List α) (lo hi : Option Int) : List α := (xs.drop (HT.sIx xs.length 0 lo)).take (HT.sIx xs.length xs.length hi - HT.sIx xs.length 0 lo)
def fits {α : Type} (xs : List α) : Bool := decide (xs.length ≤ sizeLine)
def compE {α β : Type} (f : α → Option β) : List α → Option (List β)
  | [] => some []
  | x :: xs => (f x).bind fun y => (compE f xs).bind fun ys => some (y :: ys)
def compM {α β : Type} (f : α → Option β) (xs : List α) : Option (List β) := if xs.length ≤ sizeLine then compE f xs else none
def compIE {α β : Type} (c : α → Option Bool) (f : α → Option β) : List α → Option (List β)
  | [] => some []
  | x :: xs => (c x).bind fun b => if b = true then (f x).bind fun y => (compIE c f xs).bind fun ys => some (y :: ys) else compIE c f xs
def compIM {α β : Type} (c : α → Option Bool) (f : α → Option β) (xs : List α) : Option (List β) := if xs.length ≤ sizeLine then compIE c f xs else none
/-- == of data -/
def eqD (a b : PyData) : Option Bool := if SeqAt.shaped a = true ∧ SeqAt.shaped b = true then some (PyData.eqv a b) else none
def srtM (xs : List Str) : Option (List Str) := if xs.length < 64 then some (srtS xs) else none
def srtSetM (xs : List Str) : Option (List Str) := if xs.length + 1 < 4096 then some (srtS (uniS xs)) else none
def srtLenM (xs : List Str) : Option (List Str) := if xs.all (fun z => decide (z.length ≤ sizeLine)) = true then some (lenS xs) else none

abbrev eI (i : Int) : PyData := .int i
abbrev eB (b : Bool) : PyData := .bool b
abbrev eS (z : Str) : PyData := .str z
abbrev eN (_ : Unit) : PyData := .none
abbrev eL {α : Type} (e : α → PyData) (xs : List α) : PyData := .list (xs.map e)
abbrev eV {α : Type} (e : α → PyData) (xs : List α) : PyData := .tuple (xs.map e)
abbrev eP2 {α β : Type} (e1 : α → PyData) (e2 : β → PyData) (p : α × β) : PyData := .tuple [e1 p.1, e2 p.2]
abbrev eP3 {α β γ : Type} (e1 : α → PyData) (e2 : β → PyData) (e3 : γ → PyData) (p : α × β × γ) : PyData := .tuple [e1 p.1, e2 p.2.1, e3 p.2.2]
abbrev eP4 {α β γ δ : Type} (e1 : α → PyData) (e2 : β → PyData) (e3 : γ → PyData) (e4 : δ → PyData) (p : α × β × γ × δ) : PyData := .tuple [e1 p.1, e2 p.2.1, e3 p.2.2.1, e4 p.2.2.2]
abbrev eP5 {α β γ δ ε : Type} (e1 : α → PyData) (e2 : β → PyData) (e3 : γ → PyData) (e4 : δ → PyData) (e5 : ε → PyData) (p : α × β × γ × δ × ε) : PyData := .tuple [e1 p.1, e2 p.2.1, e3 p.2.2.1, e4 p.2.2.2.1, e5 p.2.2.2.2]
abbrev eO {α : Type} (e : α → PyData) : Option α → PyData
  | none => .none
  | some x => e x
/-- env' knows no more than env -/
inductive Fg : AEnv → AEnv → Prop
  | nil : Fg [] []
  | keep {a l l'} : Fg l l' → Fg (a :: l) (a :: l')
  | drop {a l l'} : Fg l l' → Fg (none :: l) (a :: l')
theorem Fg.len : ∀ {l l' : AEnv}, Fg l l' → l.length = l'.length
  | _, _, .nil => rfl
  | _, _, .keep h => congrArg (· + 1) h.len
  | _, _, .drop h => congrArg (· + 1) h.len
theorem Fg.get : ∀ {l l' : AEnv}, Fg l l' → ∀ (i : Nat) (av : AV), l[i]? = some (some av) → l'[i]? = some (some av)
  | _, _, .nil, _, _, h => by simp at h
  | _, _, .keep _, 0, _, h => h
  | _, _, .keep g, i + 1, av, h => by simpa using g.get i av (by simpa using h)
  | _, _, .drop _, 0, _, h => by simp at h
  | _, _, .drop g, i + 1, av, h => by simpa using g.get i av (by simpa using h)
section
variable {X : Cx} {e e2 e3 tg iter elt : Expr} {es ifs : List Expr} {scope : Scope} {st : Stmt} {ss body : List Stmt} {env env' : AEnv} {d d1 d2 : PyData} {A : AE} {pos p p2 p3 p4 : Pos} {N : List Str} {i j : Nat} {x : Str} {k : Nat}
theorem xb_fg (g : Fg env' env) (h : XB X ss env' A) : XB X ss env A := xb_weak h g.len g.get
theorem XD.o {α : Type} {en : α → PyData} {v y : α} (h : XD X e env (en v)) (q : some v = some y) : XD X e env (en y) := by cases q; exact h
/-! ### operators -/
theorem xm_mod {a b v : Int} (h1 : XD X e env (.int a)) (h2 : XD X e2 env (.int b)) (q : iMod a b = some v) : XD X (.BinOp e .Mod e2 pos) env (.int v) := by
  unfold iMod at q
  split at q
  · rename_i hb; cases q; exact xd_mod h1 h2 hb
  · cases q
theorem xm_div {a b v : Int} (h1 : XD X e env (.int a)) (h2 : XD X e2 env (.int b)) (q : iDiv a b = some v) : XD X (.BinOp e .FloorDiv e2 pos) env (.int v) := by
  unfold iDiv at q
  split at q
  · rename_i hb; cases q; exact xd_div h1 h2 hb
  · cases q
theorem xm_mul {a b v : Int} (h1 : XD X e env (.int a)) (h2 : XD X e2 env (.int b)) (q : iMul a b = some v) : XD X (.BinOp e .Mult e2 pos) env (.int v) := by
  unfold iMul at q
  split at q
  · rename_i hb; cases q; exact xd_mul h1 h2 hb
  · cases q
theorem xm_pow {a b v : Int} (h1 : XD X e env (.int a)) (h2 : XD X e2 env (.int b)) (q : iPow a b = some v) : XD X (.BinOp e .Pow e2 pos) env (.int v) := by
  unfold iPow at q
  split at q
  · rename_i hb; cases q; exact xd_pow h1 h2 hb
  · cases q
theorem xm_sadd {a b v : Str} (h1 : XD X e env (.str a)) (h2 : XD X e2 env (.str b)) (q : sAdd a b = some v) : XD X (.BinOp e .Add e2 pos) env (.str v) := by
  unfold sAdd at q
  split at q
  · rename_i hb; cases q; exact xd_cat h1 h2 hb
  · cases q
theorem xm_smul {a v : Str} {n : Int} (h1 : XD X e env (.str a)) (h2 : XD X e2 env (.int n)) (q : sMul a n = some v) : XD X (.BinOp e .Mult e2 pos) env (.str v) := by
  unfold sMul at q
  split at q
  · rename_i hb; cases q; exact g_mulS h1 h2 hb.1 hb.2
  · cases q
theorem xm_slen {a : Str} {v : Int} (h : XD X e env (.str a)) (q : sLen a = some v) (hm : X.mg "len" = none) (hg : Gl X "len" := by rfl) (hs : starEach [e] X.env = (false, eval e X.env) :: starEach [] X.env := by rfl) (hpl : (backTo pos (starEach [] X.env)).any (·.1) = false := by rfl) :
    XD X (.Call (.Name "len" p) [e] [] pos) env (.int v) := by
  unfold sLen at q
  split at q
  · rename_i hb; cases q; exact xd_lenS h hb hm hg hs hpl
  · cases q
theorem xm_llen {α : Type} {en : α → PyData} {xs : List α} (h : XD X e env (.list (xs.map en))) (hm : X.mg "len" = none) (hg : Gl X "len" := by rfl) (hs : starEach [e] X.env = (false, eval e X.env) :: starEach [] X.env := by rfl) (hpl : (backTo pos (starEach [] X.env)).any (·.1) = false := by rfl) :
    XD X (.Call (.Name "len" p) [e] [] pos) env (.int (xs.length : Int)) := by
  have := xd_lenL (p := p) (pos := pos) h hm hg hs hpl
  rw [List.length_map] at this; exact this
theorem xm_vlen {α : Type} {en : α → PyData} {xs : List α} (h : XD X e env (.tuple (xs.map en))) (hm : X.mg "len" = none) (hg : Gl X "len" := by rfl) (hs : starEach [e] X.env = (false, eval e X.env) :: starEach [] X.env := by rfl) (hpl : (backTo pos (starEach [] X.env)).any (·.1) = false := by rfl) :
    XD X (.Call (.Name "len" p) [e] [] pos) env (.int (xs.length : Int)) := by
  have := xd_lenT (p := p) (pos := pos) h hm hg hs hpl
  rw [List.length_map] at this; exact this
theorem xm_olen {α : Type} {en : α → PyData} {xs : List α} {pn : Pos} (hN : X.N = N) (hat : AtN N env i x (.l (xs.map en))) (hm : X.mg "len" = none) (hs : Vis X.env.scope x := by first | exact Or.inl rfl | exact Or.inr (Or.inl rfl) | exact Or.inr (Or.inr rfl))
    (hd : (x == ("__debug__" : Str)) = false := by decide) (hc : (x == ("__classdict__" : Str)) = false := by decide) (hg : Gl X "len" := by rfl) (hst : starEach [.Name x pn] X.env = (false, eval (.Name x pn) X.env) :: starEach [] X.env := by rfl) (hpl : (backTo pos (starEach [] X.env)).any (·.1) = false := by rfl) :
    XD X (.Call (.Name "len" p) [.Name x pn] [] pos) env (.int (xs.length : Int)) := by
  have := n_lenO (p := p) (pos := pos) (pn := pn) hN hat hm hs hd hc hg hst hpl
  rw [List.length_map] at this; exact this
theorem atI_mapE {α : Type} {en : α → PyData} {xs : List α} {n : Int} {v : α} (q : atI xs n = some v) : atI (xs.map en) n = some (en v) := by
  unfold atI at q ⊢
  rw [List.length_map]
  cases h : ixN xs.length n with
  | none => rw [h] at q; cases q
  | some j =>
    rw [h] at q
    show (xs.map en)[j]? = _
    rw [List.getElem?_map]
    have q' : xs[j]? = some v := q
    rw [q']; rfl
theorem xm_lix {α : Type} {en : α → PyData} {xs : List α} {n : Int} {v : α} (h1 : XD X e env (.list (xs.map en))) (h2 : XD X e2 env (.int n)) (q : atI xs n = some v) (hp : PlainIx e2 := by exact fun _ _ => rfl) : XD X (.Subscript e e2 pos) env (en v) := xd_ixL h1 h2 (atI_mapE q) hp
theorem xm_vix {α : Type} {en : α → PyData} {xs : List α} {n : Int} {v : α} (h1 : XD X e env (.tuple (xs.map en))) (h2 : XD X e2 env (.int n)) (q : atI xs n = some v) (hp : PlainIx e2 := by exact fun _ _ => rfl) : XD X (.Subscript e e2 pos) env (en v) := xd_ixT h1 h2 (atI_mapE q) hp
theorem xm_oix {α : Type} {en : α → PyData} {xs : List α} {n : Int} {v : α} {pn : Pos} (hN : X.N = N) (hat : AtN N env i x (.l (xs.map en))) (h2 : XD X e2 env (.int n)) (q : atI xs n = some v) (hs : Vis X.env.scope x := by first | exact Or.inl rfl | exact Or.inr (Or.inl rfl) | exact Or.inr (Or.inr rfl))
    (hd : (x == ("__debug__" : Str)) = false := by decide) (hc : (x == ("__classdict__" : Str)) = false := by decide) (hp : PlainIx e2 := by exact fun _ _ => rfl) : XD X (.Subscript (.Name x pn) e2 pos) env (en v) := n_ixO hN hat h2 (atI_mapE q) hs hd hc hp
theorem xm_six {z : Str} {n : Int} {v : Str} (h1 : XD X e env (.str z)) (h2 : XD X e2 env (.int n)) (q : sIx z n = some v) (hp : PlainIx e2 := by exact fun _ _ => rfl) : XD X (.Subscript e e2 pos) env (.str v) := by
  unfold sIx at q
  split at q
  · rename_i hb
    cases h : atI z.cps.toList n with
    | none => rw [h] at q; cases q
    | some c => rw [h] at q; cases q; exact xd_ixS h1 h2 hb h hp
  · cases q
theorem xm_scut {z v : Str} {lo hi : Option Expr} {l u : Option Int} (h : XD X e env (.str z)) (hl : XO X lo env l) (hu : XO X hi env u) (q : sCut z l u = some v) : XD X (.Subscript e (.Slice lo hi none p2) pos) env (.str v) := by
  unfold sCut at q
  split at q
  · rename_i hb; cases q; exact xd_slS h hl hu hb
  · cases q
theorem xm_srev {z v : Str} {kk : Nat} {p1 : Pos} (h : XD X e env (.str z)) (q : sRev z = some v) : XD X (.Subscript e (.Slice none none (some (.UnaryOp .USub (.Constant (.int 1) kk p1) p2)) p3) pos) env (.str v) := by
  unfold sRev at q
  split at q
  · rename_i hb; cases q; exact g_rev h hb
  · cases q
theorem xm_lcat {α : Type} {en : α → PyData} {xs ys v : List α} (h1 : XD X e env (.list (xs.map en))) (h2 : XD X e2 env (.list (ys.map en))) (q : lCat xs ys = some v) : XL X (.BinOp e .Add e2 pos) env (v.map en) := by
  unfold lCat at q
  split at q
  · rename_i hb; cases q
    rw [List.map_append]
    exact xl_catD h1 h2 (by rw [List.length_map, List.length_map]; exact hb)
  · cases q
/-! ### statements -/
theorem nm_append {α : Type} {en : α → PyData} {xs v : List α} {y : α} {apos cpos : Pos} (hN : X.N = N) (hat : AtN N env i x (.l (xs.map en))) (h : XD X e env (en y)) (q : lApp xs y = some v) (hst : SetN N env j x (some (.l (v.map en))) env') (hnd : N.Nodup) (hn : A.nx env') (hs : Vis X.env.scope x := by first | exact Or.inl rfl | exact Or.inr (Or.inl rfl) | exact Or.inr (Or.inr rfl))
    (hd : (x == ("__debug__" : Str)) = false := by decide) (hc : (x == ("__classdict__" : Str)) = false := by decide)
    (hbase : attributeBase (.Name x p) "append" X.env (eval (.Name x p) X.env) = eval (.Name x p) X.env := by rfl)
    (hfew : ((backTo cpos (starEach [e] X.env)).all (fun x => !x.1) && (backToKw cpos (keywordEach [] X.env)).all (fun x => x.1.isSome)
      && decide ([e].length + ([] : List Keyword).length + (if ([] : List Keyword).isEmpty then 0 else 1) < 30)) = true := by rfl)
    (hline : (apos.endLine == cpos.line) = true := by rfl) (hsta : starEach [e] X.env = (false, eval e X.env) :: starEach [] X.env := by rfl) (hplain : (backTo cpos (starEach [] X.env)).any (·.1) = false := by rfl)
    (hsw : swapsWith (.Call (.Attribute (.Name x p) "append" apos) [e] [] cpos) none pos.line X.env = pure false := by rfl) :
    XS X (.Expr (.Call (.Attribute (.Name x p) "append" apos) [e] [] cpos) pos) env A := by
  unfold lApp at q
  split at q
  · rename_i hb; cases q
    rw [List.map_append] at hst
    exact n_append hN hat h (by rw [List.length_map]; exact hb) hst hnd hn hs hd hc hbase hfew hline hsta hplain hsw
  · cases q
/-! ### walks -/
theorem xi_to {n m : Nat} {it it' : Nat → PyData} (h : XI X tg iter env n it) (hn : n = m) (hi : ∀ i, i < n → it i = it' i) : XI X tg iter env m it' := by
  subst hn
  intro F0 H0 F σ H E R q
  refine h F0 H0 F σ H E R fun J F1 H1 g hJ => q J F1 H1 g fun F2 H2 s1 s2 => ?_
  obtain ⟨a, b⟩ := hJ F2 H2 s1 s2
  refine ⟨fun i hin => ?_, b⟩
  obtain ⟨c, d⟩ := a i hin
  exact ⟨c, fun x H' y => by rw [← hi i hin]; exact d x H' y⟩
/-- items -/
def XIt (X : Cx) (tg iter : Expr) (env : AEnv) (ds : List PyData) : Prop := XI X tg iter env ds.length fun i => ds.getD i .none
theorem it_list {α : Type} {en : α → PyData} {xs : List α} (h : XD X iter env (.list (xs.map en))) : XIt X tg iter env (xs.map en) := xi_list h
theorem it_tup {α : Type} {en : α → PyData} {xs : List α} (h : XD X iter env (.tuple (xs.map en))) : XIt X tg iter env (xs.map en) := xi_tup h
theorem it_str {z : Str} (h : XD X iter env (.str z)) : XIt X tg iter env ((chs z).map eS) := by
  refine xi_to (xi_str h) (by simp [chs]) fun i hi => ?_
  simp [chs, List.getD_eq_getElem?_getD, hi]
theorem it_rng1 {b : Int} {v : List Int} (h : XD X e env (.int b)) (q : rng1 b = some v) (hm : X.mg "range" = none) (hg : Gl X "range" := by rfl) (hs : starEach [e] X.env = [(false, eval e X.env)] := by rfl) : XIt X tg (.Call (.Name "range" p) [e] [] pos) env (v.map eI) := by
  unfold rng1 at q
  split at q
  · rename_i hb; cases q
    refine xi_to (xi_rng1 h hb hm hg hs) (by simp) fun i hi => ?_
    simp [List.getD_eq_getElem?_getD, hi]
  · cases q
theorem it_rng2 {a b : Int} {v : List Int} (h : XD X e env (.int a)) (h' : XD X e2 env (.int b)) (q : rng2 a b = some v) (hm : X.mg "range" = none) (hg : Gl X "range" := by rfl)
    (hs : starEach [e, e2] X.env = [(false, eval e X.env), (false, eval e2 X.env)] := by rfl) (hs2 : starEach [e2] X.env = [(false, eval e2 X.env)] := by rfl) : XIt X tg (.Call (.Name "range" p) [e, e2] [] pos) env (v.map eI) := by
  unfold rng2 at q
  split at q
  · rename_i hb; cases q
    refine xi_to (xi_rng2 h h' hb hm hg hs hs2) (by simp) fun i hi => ?_
    simp [List.getD_eq_getElem?_getD, hi]
  · cases q
/-! ### for -/
theorem nm_for {α σ ρ : Type} {items : List α} {en : α → PyData} {eR : ρ → PyData} {f : α → σ → Option (Ctl σ ρ)} {s0 : σ} {c : Sum σ ρ} {js : List Nat} {eX : σ → α → AEnv} (q : loopM f items s0 = some c) (eO : σ → AEnv)
    (hi : XIt X tg iter (eO s0) (items.map en)) (hg : ∀ s y, XG X tg js (eO s) (en y) (eX s y))
    (hb : ∀ y s r, f y s = some r → XB X body (eX s y) { nx := fun e => ∃ s', r = .nx s' ∧ e = eO s', ct := fun e => ∃ s', r = .nx s' ∧ e = eO s', bk := fun e => ∃ s', r = .bk s' ∧ e = eO s', rt := fun d => ∃ v, r = .rt v ∧ d = eR v })
    (hd : ∀ s, c = .inl s → A.nx (eO s)) (hr : ∀ v, c = .inr v → A.rt (eR v))
    (hp : PassesOwn (model X.prog X.w) X.A X.env X.xe := by exact PassesOwn.never) (hc : X.calm = true := by rfl) (hfs : ∀ x, foldedSetIterable iter X.env x = pure x := by intro _; rfl) : XS X (.For tg iter body [] pos) (eO s0) A := by
  refine xs_for (js := js) hi (fun i env' => ∃ s, env' = eO s ∧ loopM f (items.drop i) s = some c) ⟨s0, rfl, q⟩ ?_ ?_ hp hc hfs
  · rintro i env' hin ⟨s, rfl, hl⟩
    rw [List.length_map] at hin
    have e0 : (items.map en).getD i .none = en items[i] := by simp [List.getD_eq_getElem?_getD, hin]
    rw [e0]
    refine ⟨_, hg s _, ?_⟩
    rw [List.drop_eq_getElem_cons hin] at hl
    unfold loopM at hl
    cases hf : f items[i] s with
    | none => rw [hf] at hl; cases hl
    | some r =>
      rw [hf] at hl
      intro F0 H0 F σ H D E l
      refine hb _ _ _ hf F0 H0 F σ H D E ⟨fun env2 F2 σ2 H2 E2 ⟨s', e1, e2⟩ => ?_, fun v d F2 H2 g p ⟨w, e1, e2⟩ => ?_, fun env2 F2 σ2 H2 E2 ⟨s', e1, e2⟩ => ?_, fun env2 F2 σ2 H2 E2 ⟨s', e1, e2⟩ => ?_, fun _ _ _ _ _ _ _ _ _ _ z => ?_⟩
      · subst e1; exact l.nx env2 F2 σ2 H2 E2 ⟨s', e2, hl⟩
      · subst e1; subst e2; exact l.rt v _ F2 H2 g p (hr w (Option.some.inj hl).symm)
      · subst e1; subst e2; exact l.bk _ F2 σ2 H2 E2 (hd s' (Option.some.inj hl).symm)
      · subst e1; exact l.ct env2 F2 σ2 H2 E2 ⟨s', e2, hl⟩
      · exact z.elim
  · rintro env' ⟨s, rfl, hl⟩
    rw [List.length_map, List.drop_length] at hl
    exact hd s (Option.some.inj hl).symm
theorem nm_while {σ ρ : Type} {eR : ρ → PyData} {cc : σ → Option Bool} {f : σ → Option (Ctl σ ρ)} {s0 : σ} {c : Sum σ ρ} {fuel : Nat} (q : whileM cc f fuel s0 = some c) (eO : σ → AEnv)
    (ht : ∀ s b, cc s = some b → XT X e (eO s) b)
    (hb : ∀ s r, cc s = some true → f s = some r → XB X body (eO s) { nx := fun e => ∃ s', r = .nx s' ∧ e = eO s', ct := fun e => ∃ s', r = .nx s' ∧ e = eO s', bk := fun e => ∃ s', r = .bk s' ∧ e = eO s', rt := fun d => ∃ v, r = .rt v ∧ d = eR v })
    (hd : ∀ s, c = .inl s → A.nx (eO s)) (hr : ∀ v, c = .inr v → A.rt (eR v))
    (hp : PassesOwn (model X.prog X.w) X.A X.env X.xe := by exact PassesOwn.never) : XS X (.While e body [] pos) (eO s0) A := by
  refine xs_while (Iv := fun m env' => ∃ s, env' = eO s ∧ whileM cc f m s = some c) fuel ⟨s0, rfl, q⟩ ?_ hp
  rintro m env' ⟨s, rfl, hl⟩
  cases m with
  | zero => cases hl
  | succ m =>
    unfold whileM at hl
    cases hcc : cc s with
    | none => rw [hcc] at hl; cases hl
    | some b =>
      rw [hcc] at hl
      refine ⟨b, ht s b hcc, fun hb1 => ?_, fun hb1 => ?_⟩
      · subst hb1
        cases hf : f s with
        | none => simp only [hf] at hl; cases hl
        | some r =>
          simp only [hf] at hl
          intro F0 H0 F σ H D E l
          refine hb _ _ hcc hf F0 H0 F σ H D E ⟨fun env2 F2 σ2 H2 E2 ⟨s', e1, e2⟩ => ?_, fun v d F2 H2 g p ⟨w, e1, e2⟩ => ?_, fun env2 F2 σ2 H2 E2 ⟨s', e1, e2⟩ => ?_, fun env2 F2 σ2 H2 E2 ⟨s', e1, e2⟩ => ?_, fun _ _ _ _ _ _ _ _ _ _ z => ?_⟩
          · subst e1; exact l.nx env2 F2 σ2 H2 E2 ⟨m, Nat.lt_succ_self m, s', e2, hl⟩
          · subst e1; subst e2; exact l.rt v _ F2 H2 g p (hr w (Option.some.inj hl).symm)
          · subst e1; subst e2; exact l.bk _ F2 σ2 H2 E2 (hd s' (Option.some.inj hl).symm)
          · subst e1; exact l.ct env2 F2 σ2 H2 E2 ⟨m, Nat.lt_succ_self m, s', e2, hl⟩
          · exact z.elim
      · subst hb1
        exact hd s (Option.some.inj hl).symm
end
end FR

namespace FR
open PySem PySem.Spec PyProof.Rows L2

theorem compE_spec {α β : Type} {f : α → Option β} : ∀ {xs : List α} {ys : List β}, compE f xs = some ys → ys.length = xs.length ∧ ∀ i (h : i < xs.length), ∃ y, f xs[i] = some y ∧ ys[i]? = some y
  | [], ys, h => by cases h; exact ⟨rfl, fun i h => absurd h (Nat.not_lt_zero i)⟩
  | x :: xs, ys, h => by
    obtain ⟨y, hy, h⟩ := obS h
    obtain ⟨ys', hys, h⟩ := obS h
    cases h
    obtain ⟨a, b⟩ := compE_spec hys
    refine ⟨congrArg (· + 1) a, fun i hi => ?_⟩
    cases i with
    | zero => exact ⟨y, hy, rfl⟩
    | succ i =>
      obtain ⟨z, h1, h2⟩ := b i (Nat.lt_of_succ_lt_succ hi)
      exact ⟨z, h1, by simpa using h2⟩
theorem compM_spec {α β : Type} {f : α → Option β} {xs : List α} {ys : List β} (h : compM f xs = some ys) : xs.length ≤ sizeLine ∧ ys.length = xs.length ∧ ∀ i (h : i < xs.length), ∃ y, f xs[i] = some y ∧ ys[i]? = some y := by
  unfold compM at h
  split at h
  · rename_i hb; exact ⟨hb, compE_spec h⟩
  · cases h
theorem map_range {β : Type} (en : β → PyData) (ys : List β) : (List.range ys.length).map (fun i => (ys.map en).getD i .none) = ys.map en := by
  apply List.ext_getElem
  · simp
  · intro i a b
    simp at a
    simp [List.getD_eq_getElem?_getD, a]
/-- the same with tests -/
def flt {α β : Type} (c : α → Option Bool) (f : α → Option β) (en : β → PyData) (xs : List α) : List PyData := ((List.range xs.length).filter fun i => (xs[i]?.bind c) == some true).map fun i => match xs[i]?.bind f with
  | some y => en y
  | none => .none
theorem compIE_spec {α β : Type} {c : α → Option Bool} {f : α → Option β} (en : β → PyData) : ∀ {xs : List α} {ys : List β}, compIE c f xs = some ys → flt c f en xs = ys.map en ∧ ∀ i (h : i < xs.length), ∃ b, c xs[i] = some b ∧ (b = true → ∃ y, f xs[i] = some y)
  | [], ys, h => by cases h; exact ⟨rfl, fun i h => absurd h (Nat.not_lt_zero i)⟩
  | x :: xs, ys, h => by
    obtain ⟨b, hb, h⟩ := obS h
    have tail : flt c f en (x :: xs) = (if b = true then [match f x with | some y => en y | none => PyData.none] else []) ++ flt c f en xs := by
      unfold flt
      rw [List.length_cons, List.range_succ_eq_map, List.filter_cons, List.filter_map, ]
      cases b with
      | true =>
        have : (((x :: xs)[0]?.bind c) == some true) = true := by simp [hb]
        rw [if_pos this, List.map_cons, List.map_map]
        rfl
      | false =>
        have : ¬ (((x :: xs)[0]?.bind c) == some true) = true := by simp [hb]
        rw [if_neg this, List.map_map]
        rfl
    rw [tail]
    cases b with
    | true =>
      have h := ifT h rfl
      obtain ⟨y, hy, h⟩ := obS h
      obtain ⟨ys', hys, h⟩ := obS h
      cases h
      obtain ⟨a, b⟩ := compIE_spec en hys
      refine ⟨by rw [if_pos rfl, a, hy]; rfl, fun i hi => ?_⟩
      cases i with
      | zero => exact ⟨true, hb, fun _ => ⟨y, hy⟩⟩
      | succ i => exact b i (Nat.lt_of_succ_lt_succ hi)
    | false =>
      have h := ifF h rfl
      obtain ⟨a, b⟩ := compIE_spec en h
      refine ⟨by rw [if_neg Bool.false_ne_true, a]; rfl, fun i hi => ?_⟩
      cases i with
      | zero => exact ⟨false, hb, fun z => nomatch z⟩
      | succ i => exact b i (Nat.lt_of_succ_lt_succ hi)
def uI (X : Cx) (scope : Scope) (tg iter : Expr) : TI := fun σ H R => ∀ s Hb C cl fp, wI (blkX X scope s Hb C cl fp) tg iter σ H R
section
variable {X : Cx} {e e2 e3 tg iter elt tg1 iter1 : Expr} {es ifs : List Expr} {scope : Scope} {own : List (Str × Nat)} {st : Stmt} {ss body : List Stmt} {env env' wenv : AEnv} {d d1 d2 : PyData} {A : AE} {pos p p2 p3 p4 : Pos} {N : List Str} {i j : Nat} {x : Str} {k : Nat}
section
variable {α β : Type} {en : α → PyData} {eb : β → PyData} {f : α → Option β} {c : α → Option Bool} {xs : List α} {ys : List β} {S : Scope} {eX : α → AEnv}
theorem getD_en {i : Nat} (h : i < xs.length) : (xs.map en).getD i .none = en xs[i] := by simp [List.getD_eq_getElem?_getD, h]
theorem getD_ys {ys : List β} {i : Nat} {y : β} (h : ys[i]? = some y) : (ys.map eb).getD i .none = eb y := by simp [List.getD_eq_getElem?_getD, h]
theorem nm_comp (own : List (Str × Nat)) (q : compM f xs = some ys) (hN : X.N = N) (hnd : N.Nodup) (hi : XIt X tg iter env (xs.map en)) (okc : blkC N S scope own = true)
    (hg : ∀ y s Hb C cl fp, XG (blkX X scope s Hb C cl fp) tg (own.map (·.2)) wenv (en y) (eX y)) (hb : ∀ y r, f y = some r → ∀ s Hb C cl fp, XD (blkX X scope s Hb C cl fp) elt (eX y) (eb r))
    (hw : wipeE env (own.map (·.2)) = wenv := by rfl) (hS : X.env.scope = S := by rfl) (hc : X.calm = true := by rfl) (hfs : ∀ x, foldedSetIterable iter X.env x = pure x := by intro _; rfl) :
    XL X (.ListComp elt [⟨tg, iter, [], 0⟩] scope pos) env (ys.map eb) := by
  subst hN hS hw
  obtain ⟨hz, hl, hsp⟩ := compM_spec q
  rw [← map_range, hl]
  have hi' : XI X tg iter env xs.length (fun i => (xs.map en).getD i .none) := xi_to hi (by simp) fun _ _ => rfl
  refine xl_comp hi' hnd own (blkOk_by okc) (fun i hin => ?_) hz hc hfs
  obtain ⟨y, h1, h2⟩ := hsp i hin
  refine ⟨eX xs[i], fun s Hb C cl fp => ?_, fun s Hb C cl fp => ?_⟩
  · show XG _ _ _ _ ((xs.map en).getD i .none) _
    rw [getD_en hin]; exact hg _ s Hb C cl fp
  · show XD _ _ _ ((ys.map eb).getD i .none)
    rw [getD_ys h2]; exact hb _ _ h1 s Hb C cl fp
theorem nm_setComp {k : Nat} {y : Str} {env3 : AEnv} (own : List (Str × Nat)) (q : compM f xs = some ys) (hN : X.N = N) (hnd : N.Nodup) (hi : XIt X tg iter env (xs.map en)) (okc : blkC N S scope own = true)
    (hg : ∀ y s Hb C cl fp, XG (blkX X scope s Hb C cl fp) tg (own.map (·.2)) wenv (en y) (eX y)) (hb : ∀ y r, f y = some r → ∀ s Hb C cl fp, XD (blkX X scope s Hb C cl fp) elt (eX y) (eb r))
    (hst : SetN N env k y (some (.l (ys.map eb))) env3) (hn : A.nx env3)
    (hw : wipeE env (own.map (·.2)) = wenv := by rfl) (hS : X.env.scope = S := by rfl) (hyl : X.env.scope.names.lookup y = some .local := by rfl)
    (hsw : swapsWith (.ListComp elt [⟨tg, iter, [], 0⟩] scope pos) (some (.Name y p3)) p4.line X.env = pure true := by exact sw_true rfl rfl rfl (by decide +kernel)) (hc : X.calm = true := by rfl) (hfs : ∀ x, foldedSetIterable iter X.env x = pure x := by intro _; rfl) :
    XS X (.Assign [.Name y p3] (.ListComp elt [⟨tg, iter, [], 0⟩] scope pos) p4) env A := by
  subst hN hS hw
  obtain ⟨hz, hl, hsp⟩ := compM_spec q
  have hi' : XI X tg iter env xs.length (fun i => (xs.map en).getD i .none) := xi_to hi (by simp) fun _ _ => rfl
  refine xs_setComp (f := fun i => (ys.map eb).getD i .none) hi' hnd own (blkOk_by okc) (fun i hin => ?_) hz (by rw [← hl, map_range, hst.get.1]; exact hn) hst.get.2 hyl hsw hc hfs
  obtain ⟨y, h1, h2⟩ := hsp i hin
  refine ⟨eX xs[i], fun s Hb C cl fp => ?_, fun s Hb C cl fp => ?_⟩
  · show XG _ _ _ _ ((xs.map en).getD i .none) _
    rw [getD_en hin]; exact hg _ s Hb C cl fp
  · show XD _ _ _ ((ys.map eb).getD i .none)
    rw [getD_ys h2]; exact hb _ _ h1 s Hb C cl fp
theorem nm_compI {cnd : Expr} (own : List (Str × Nat)) (q : compIM c f xs = some ys) (hN : X.N = N) (hnd : N.Nodup) (hi : XIt X tg iter env (xs.map en)) (okc : blkC N S scope own = true)
    (hg : ∀ y s Hb C cl fp, XG (blkX X scope s Hb C cl fp) tg (own.map (·.2)) wenv (en y) (eX y)) (ht : ∀ y r, c y = some r → ∀ s Hb C cl fp, XT (blkX X scope s Hb C cl fp) cnd (eX y) r) (hb : ∀ y r, c y = some true → f y = some r → ∀ s Hb C cl fp, XD (blkX X scope s Hb C cl fp) elt (eX y) (eb r))
    (hw : wipeE env (own.map (·.2)) = wenv := by rfl) (hS : X.env.scope = S := by rfl) (hc : X.calm = true := by rfl) (hfs : ∀ x, foldedSetIterable iter X.env x = pure x := by intro _; rfl) :
    XL X (.ListComp elt [⟨tg, iter, [cnd], 0⟩] scope pos) env (ys.map eb) := by
  subst hN hS hw
  unfold compIM at q
  split at q
  case isFalse => cases q
  case isTrue hz =>
  obtain ⟨hl, hsp⟩ := compIE_spec eb q
  rw [← hl]
  have hi' : XI X tg iter env xs.length (fun i => (xs.map en).getD i .none) := xi_to hi (by simp) fun _ _ => rfl
  refine xl_compIf hi' hnd own (blkOk_by okc) (fun i hin => ?_) hz hc hfs
  obtain ⟨b, h1, h2⟩ := hsp i hin
  refine ⟨eX xs[i], fun s Hb C cl fp => ?_, fun s Hb C cl fp => ?_, fun hbt s Hb C cl fp => ?_⟩
  · show XG _ _ _ _ ((xs.map en).getD i .none) _
    rw [getD_en hin]; exact hg _ s Hb C cl fp
  · show XT _ _ _ ((xs[i]?.bind c) == some true)
    have : ((xs[i]?.bind c) == some true) = b := by rw [List.getElem?_eq_getElem hin]; show (c xs[i] == some true) = b; rw [h1]; cases b <;> rfl
    rw [this]; exact ht _ _ h1 s Hb C cl fp
  · have hbt' : ((xs[i]?.bind c) == some true) = true := hbt
    have hb2 : b = true := by rw [List.getElem?_eq_getElem hin] at hbt'; have z : (c xs[i] == some true) = true := hbt'; rw [h1] at z; cases b <;> simp_all
    obtain ⟨y, hy⟩ := h2 hb2
    have e1 : xs[i]?.bind f = some y := by rw [List.getElem?_eq_getElem hin]; exact hy
    show XD _ _ _ (match xs[i]?.bind f with | some y => eb y | none => .none)
    rw [e1]
    exact hb _ _ (by rw [h1, hb2]) hy s Hb C cl fp
theorem nm_setCompI {cnd : Expr} {k : Nat} {y : Str} {env3 : AEnv} (own : List (Str × Nat)) (q : compIM c f xs = some ys) (hN : X.N = N) (hnd : N.Nodup) (hi : XIt X tg iter env (xs.map en)) (okc : blkC N S scope own = true)
    (hg : ∀ y s Hb C cl fp, XG (blkX X scope s Hb C cl fp) tg (own.map (·.2)) wenv (en y) (eX y)) (ht : ∀ y r, c y = some r → ∀ s Hb C cl fp, XT (blkX X scope s Hb C cl fp) cnd (eX y) r) (hb : ∀ y r, c y = some true → f y = some r → ∀ s Hb C cl fp, XD (blkX X scope s Hb C cl fp) elt (eX y) (eb r))
    (hst : SetN N env k y (some (.l (ys.map eb))) env3) (hn : A.nx env3)
    (hw : wipeE env (own.map (·.2)) = wenv := by rfl) (hS : X.env.scope = S := by rfl) (hyl : X.env.scope.names.lookup y = some .local := by rfl)
    (hsw : swapsWith (.ListComp elt [⟨tg, iter, [cnd], 0⟩] scope pos) (some (.Name y p3)) p4.line X.env = pure true := by exact sw_true rfl rfl rfl (by decide +kernel)) (hc : X.calm = true := by rfl) (hfs : ∀ x, foldedSetIterable iter X.env x = pure x := by intro _; rfl) :
    XS X (.Assign [.Name y p3] (.ListComp elt [⟨tg, iter, [cnd], 0⟩] scope pos) p4) env A := by
  subst hN hS hw
  unfold compIM at q
  split at q
  case isFalse => cases q
  case isTrue hz =>
  obtain ⟨hl, hsp⟩ := compIE_spec eb q
  have hi' : XI X tg iter env xs.length (fun i => (xs.map en).getD i .none) := xi_to hi (by simp) fun _ _ => rfl
  refine xs_setCompIf (b := fun i => (xs[i]?.bind c) == some true) (f := fun i => match xs[i]?.bind f with | some y => eb y | none => .none) hi' hnd own (blkOk_by okc) (fun i hin => ?_) hz ?_ hst.get.2 hyl hsw hc hfs
  · obtain ⟨b, h1, h2⟩ := hsp i hin
    refine ⟨eX xs[i], fun s Hb C cl fp => ?_, fun s Hb C cl fp => ?_, fun hbt s Hb C cl fp => ?_⟩
    · show XG _ _ _ _ ((xs.map en).getD i .none) _
      rw [getD_en hin]; exact hg _ s Hb C cl fp
    · show XT _ _ _ ((xs[i]?.bind c) == some true)
      have : ((xs[i]?.bind c) == some true) = b := by rw [List.getElem?_eq_getElem hin]; show (c xs[i] == some true) = b; rw [h1]; cases b <;> rfl
      rw [this]; exact ht _ _ h1 s Hb C cl fp
    · have hbt' : ((xs[i]?.bind c) == some true) = true := hbt
      have hb2 : b = true := by rw [List.getElem?_eq_getElem hin] at hbt'; have z : (c xs[i] == some true) = true := hbt'; rw [h1] at z; cases b <;> simp_all
      obtain ⟨y, hy⟩ := h2 hb2
      have e1 : xs[i]?.bind f = some y := by rw [List.getElem?_eq_getElem hin]; exact hy
      show XD _ _ _ (match xs[i]?.bind f with | some y => eb y | none => .none)
      rw [e1]
      exact hb _ _ (by rw [h1, hb2]) hy s Hb C cl fp
  · have e := hl
    unfold flt at e
    rw [e, hst.get.1]; exact hn
end
/-! ### two clauses -/
theorem sh_step {F H F' G F3 H3 : Hp} {D : Addr} {acc : List V} (hHD : H D = none) (g' : Gro F H F' G) (hG : G D = none) (g3 : Gro F' (upd G D (.lst acc)) F3 H3) : Gro F H F3 (minusH H3 D) ∧ minusH H3 D D = none ∧ H3 = upd (minusH H3 D) D (.lst acc) := by
  have gU : Gro F H F' (upd G D (.lst acc)) := g'.trans (Gro.own g'.fr hG)
  have gA := gU.trans g3
  have F3D : F3 D = none := g3.sep D (by rw [upd_same]; exact fun z => nomatch z) (g'.fr.free hG)
  exact ⟨⟨gA.f, sm_minus gA.h hHD, sm_minus gA.fr F3D, gA.sep⟩, minus_at, minus_upd (g3.h.get upd_same)⟩
def noOwn (env : AEnv) : Bool := env.all fun a => match a with
  | some v => !v.owned
  | none => true
theorem noOwn_at {env : AEnv} (h : noOwn env = true) {i : Nat} {av : AV} (q : env[i]? = some (some av)) : av.owned = false := by
  have := (List.all_eq_true.mp h) (some av) (List.mem_of_getElem? q)
  simpa using this
theorem EnvAt.over {K : KW} {F0 H0 F F' : Hp} {σ : L2.St} {H H' : Hp} {env : AEnv} (E : EnvAt K F0 H0 F σ H env) (ho : noOwn env = true) (g : Gro F0 H0 F' H') (s : Sm F F') : EnvAt K F0 H0 F' σ H' env := by
  refine ⟨fun _ => [], g, E.len, fun i av q => ?_, (fun i a q => nomatch q), (fun i j a q => nomatch q)⟩
  obtain ⟨v, a, b⟩ := E.slot i av q
  refine ⟨v, a, ?_⟩
  have hw := noOwn_at ho q
  cases av with
  | d x => exact ⟨dp_mono s b, rfl⟩
  | p φ hφ => exact ⟨hφ _ _ _ s b, rfl⟩
  | l xs => cases hw
  | o xs => cases hw
theorem yes_of {σ : L2.St} {H : Hp} {Q : Bool → Hp → Prop} (h : Q true H) : tYes σ H Q := h
theorem flat_take {β : Type} (en : β → PyData) : ∀ (yss : List (List β)), ((List.range yss.length).flatMap fun a => (List.range (yss.getD a []).length).map fun b => ((yss.getD a []).map en).getD b .none) = yss.flatten.map en := by
  intro yss
  have key : ∀ n, n ≤ yss.length → ((List.range n).flatMap fun a => (List.range (yss.getD a []).length).map fun b => ((yss.getD a []).map en).getD b .none) = (yss.take n).flatten.map en := by
    intro n
    induction n with
    | zero => intro _; simp
    | succ n ih =>
      intro h
      have hn : n < yss.length := by omega
      rw [List.range_succ, List.flatMap_append, ih (by omega), List.take_succ_eq_append_getElem hn, List.flatten_append, List.map_append]
      congr 1
      have e : yss.getD n [] = yss[n] := by simp [List.getD_eq_getElem?_getD, hn]
      simp only [List.flatMap_cons, List.flatMap_nil, List.append_nil, List.flatten_cons, List.flatten_nil]
      rw [e, map_range]
  have := key yss.length (Nat.le_refl _)
  rw [List.take_length] at this
  exact this
theorem flat_lt {β : Type} (yss : List (List β)) (en : β → PyData) {i j : Nat} (hi : i < yss.length) (hj : j < (yss.getD i []).length) : ((List.range i).flatMap (fun a => (List.range (yss.getD a []).length).map fun b => ((yss.getD a []).map en).getD b .none) ++ (List.range j).map (fun b => ((yss.getD i []).map en).getD b .none)).length < yss.flatten.length := by
  have e := flat_take en (yss.take i)
  have e2 : ((List.range i).flatMap (fun a => (List.range (yss.getD a []).length).map fun b => ((yss.getD a []).map en).getD b .none)).length = (yss.take i).flatten.length := by
    have e3 : ((List.range (yss.take i).length).flatMap fun a => (List.range ((yss.take i).getD a []).length).map fun b => (((yss.take i).getD a []).map en).getD b .none) = ((List.range i).flatMap (fun a => (List.range (yss.getD a []).length).map fun b => ((yss.getD a []).map en).getD b .none)) := by
      have hl : (yss.take i).length = i := by rw [List.length_take]; omega
      rw [hl]
      rw [List.flatMap_def, List.flatMap_def]
      congr 1
      apply List.map_congr_left
      intro a ha
      have ha := List.mem_range.mp ha
      have : (yss.take i).getD a [] = yss.getD a [] := by simp [List.getD_eq_getElem?_getD, ha]
      rw [this]
    rw [← e3, e, List.length_map]
  rw [List.length_append, e2, List.length_map, List.length_range]
  have e4 : yss = yss.take i ++ yss[i] :: yss.drop (i + 1) := by rw [← List.drop_eq_getElem_cons hi, List.take_append_drop]
  have e5 : yss.flatten.length = (yss.take i).flatten.length + (yss[i].length + (yss.drop (i + 1)).flatten.length) := by
    conv => lhs; rw [e4]
    rw [List.flatten_append, List.length_append, List.flatten_cons, List.length_append]
  have e6 : yss.getD i [] = yss[i] := by simp [List.getD_eq_getElem?_getD, hi]
  rw [e6] at hj
  omega
theorem lc2_read {n : Nat} {it : Nat → PyData} {n1 : Nat → Nat} {it1 : Nat → Nat → PyData} {f : Nat → Nat → PyData} {vs1 : List Nat} {F0 H0 F : Hp} {σ : L2.St} {H : Hp} (hi : XI X tg iter env n it) (E : EnvAt X.kw F0 H0 F σ H env)
    (hb : ∀ i, i < n → ∃ env2, (∀ s Hb C cl fp, XG (blkX X scope s Hb C cl fp) tg (own.map (·.2)) (wipeE env (own.map (·.2))) (it i) env2) ∧ noOwn env2 = true ∧ (∀ s Hb C cl fp, XI (blkX X scope s Hb C cl fp) tg1 iter1 env2 (n1 i) (it1 i)) ∧
      ∀ j, j < n1 i → ∃ env3, (∀ s Hb C cl fp, XG (blkX X scope s Hb C cl fp) tg1 vs1 (wipeE env2 vs1) (it1 i j) env3) ∧ (∀ s Hb C cl fp, XD (blkX X scope s Hb C cl fp) elt env3 (f i j)))
    (hz : ∀ i j, i < n → j < n1 i → ((List.range i).flatMap (fun a => (List.range (n1 a)).map (f a)) ++ (List.range j).map (f i)).length < sizeLine)
    {Q : VK} (q : ∀ p vs F' H', Gro F H F' H' → H p = none → F' p = none → H' p = some (.lst vs) → DpAll X.kw F' vs ((List.range n).flatMap fun a => (List.range (n1 a)).map (f a)) → Q (.ref p) H') :
    tLc2 (wI X tg iter) (uG X scope tg) tYes (uI X scope tg1 iter1) (uG X scope tg1) tYes (uE X scope elt) (own.map (·.2)) vs1 σ H Q := by
  refine hi _ _ F σ H E _ fun J F1 H1 g1 hJ => ?_
  intro D hD
  refine ⟨fun i m H' => i + m = n ∧ ∃ F' G acc, Gro F H F' G ∧ Sm F1 F' ∧ G D = none ∧ H' = upd G D (.lst acc) ∧ DpAll X.kw F' acc ((List.range i).flatMap fun a => (List.range (n1 a)).map (f a)),
    ⟨n, Nat.zero_add n, F1, H1, [], g1, Sm.refl F1, hD, rfl, .nil⟩, fun i m H' hW => ?_⟩
  obtain ⟨em, F', G, acc, g', s', hG, rfl, hacc⟩ := hW
  have frU : Sm F' (upd G D (.lst acc)) := (Gro.own (o := .lst acc) g'.fr hG).fr
  have hHD : H D = none := g1.h.free hD
  have gU : Gro F H F' (upd G D (.lst acc)) := g'.trans (Gro.own g'.fr hG)
  by_cases hin : i < n
  · obtain ⟨hgo, hy⟩ := (hJ F' _ s' frU).1 i hin
    refine .inr ⟨hgo, fun H2 => ∃ F2 G2 acc2, Gro F H F2 G2 ∧ Sm F1 F2 ∧ G2 D = none ∧ H2 = upd G2 D (.lst acc2) ∧ DpAll X.kw F2 acc2 ((List.range (i + 1)).flatMap fun a => (List.range (n1 a)).map (f a)),
      fun H2 h2 => ⟨m - 1, by omega, by omega, h2⟩, fun x H2 hx => ?_⟩
    obtain ⟨F2, g2, p2⟩ := hy x H2 hx
    obtain ⟨env2, hg, hno, hi1, hb1⟩ := hb i hin
    have E2 : EnvAt X.kw F0 H0 F2 (wipe σ (own.map (·.2))) H2 (wipeE env (own.map (·.2))) := (E.grow (gU.trans g2)).wipe _
    intro s Hb C cl fp
    refine hg s Hb C cl fp F0 H0 F2 _ H2 x E2 p2 _ fun σ3 F3 H3 g3 E3 k3 => ?_
    refine ⟨wipe_again k3.1 k3.2, ?_⟩
    refine yes_of (iteT fun s Hb C cl fp => ?_)
    refine hi1 s Hb C cl fp F0 H0 F3 σ3 H3 E3 _ fun J1 F4 H4 g4 hJ1 => ?_
    obtain ⟨b1, b2, b3⟩ := sh_step hHD g' hG ((g2.trans g3).trans g4)
    have s4 : Sm F1 F4 := s'.trans ((g2.f.trans g3.f).trans g4.f)
    refine ⟨fun j m1 H' => j + m1 = n1 i ∧ ∃ F' G acc', Gro F H F' G ∧ Sm F4 F' ∧ G D = none ∧ H' = upd G D (.lst acc') ∧ DpAll X.kw F' acc' ((List.range i).flatMap (fun a => (List.range (n1 a)).map (f a)) ++ (List.range j).map (f i)),
      ⟨n1 i, Nat.zero_add _, F4, _, acc, b1, Sm.refl F4, b2, b3, by rw [List.range_zero, List.map_nil, List.append_nil]; exact dpAll_mono ((g2.f.trans g3.f).trans g4.f) hacc⟩, fun j m1 H' hW => ?_⟩
    obtain ⟨em1, F5, G5, acc5, g5, s5, hG5, rfl, hacc5⟩ := hW
    have gU5 : Gro F H F5 (upd G5 D (.lst acc5)) := g5.trans (Gro.own g5.fr hG5)
    by_cases hj : j < n1 i
    · obtain ⟨hgo1, hy1⟩ := (hJ1 F5 _ s5 gU5.fr).1 j hj
      refine .inr ⟨hgo1, fun H6 => ∃ F' G acc', Gro F H F' G ∧ Sm F4 F' ∧ G D = none ∧ H6 = upd G D (.lst acc') ∧ DpAll X.kw F' acc' ((List.range i).flatMap (fun a => (List.range (n1 a)).map (f a)) ++ (List.range (j + 1)).map (f i)),
        fun H6 h6 => ⟨m1 - 1, by omega, by omega, h6⟩, fun x1 H6 hx1 => ?_⟩
      obtain ⟨F6, g6, p6⟩ := hy1 x1 H6 hx1
      obtain ⟨env3, hg1, hel⟩ := hb1 j hj
      have E6 : EnvAt X.kw F0 H0 F6 (wipe σ3 vs1) H6 (wipeE env2 vs1) := (E3.over hno (E.gro.trans (gU5.trans g6)) ((g4.f.trans s5).trans g6.f)).wipe _
      intro s Hb C cl fp
      refine hg1 s Hb C cl fp F0 H0 F6 _ H6 x1 E6 p6 _ fun σ7 F7 H7 g7 E7 k7 => ?_
      refine ⟨wipe_again k7.1 k7.2, ?_⟩
      refine yes_of (iteT fun s Hb C cl fp => ?_)
      refine hel s Hb C cl fp F0 H0 F7 σ7 H7 E7 _ fun y F8 H8 g8 p8 => ?_
      obtain ⟨c1, c2, c3⟩ := sh_step hHD g5 hG5 ((g6.trans g7).trans g8)
      refine ⟨acc5, by rw [c3]; exact upd_same, ?_, F8, _, acc5 ++ [y], c1, s5.trans ((g6.f.trans g7.f).trans g8.f), c2, by rw [c3, upd_upd]; congr 1; rw [← c3], ?_⟩
      · rw [dpAll_len hacc5]; exact hz i j hin hj
      · rw [List.range_succ, List.map_append, ← List.append_assoc]
        exact dpAll_append (dpAll_mono ((g6.f.trans g7.f).trans g8.f) hacc5) (.cons p8 .nil)
    · have e : j = n1 i := by omega
      subst e
      refine .inl ⟨(hJ1 F5 _ s5 gU5.fr).2, F5, G5, acc5, g5, s4.trans s5, hG5, rfl, ?_⟩
      rw [List.range_succ, List.flatMap_append]
      simpa using hacc5
  · have e : i = n := by omega
    subst e
    exact .inl ⟨(hJ F' _ s' frU).2, q D acc F' _ gU hHD (g'.fr.free hG) upd_same hacc⟩
end
/-- [elt for tg in iter for tg1 in iter1] -/
def comp2M {α β γ : Type} (B : α → Option (List β)) (f : α → β → Option γ) (xs : List α) : Option (List γ) := (compM (fun x => (B x).bind (compM (f x))) xs).bind fun yss => if yss.flatten.length ≤ sizeLine then some yss.flatten else none
section
variable {X : Cx} {elt tg iter tg1 iter1 : Expr} {scope : Scope} {env wenv : AEnv} {A : AE} {pos p2 p3 p4 : Pos} {N : List Str} {α β γ : Type} {en : α → PyData} {e1 : β → PyData} {eb : γ → PyData} {B : α → Option (List β)} {f : α → β → Option γ} {xs : List α} {ys : List γ} {S : Scope} {eX : α → AEnv} {eW : α → AEnv} {eY : α → β → AEnv}
theorem comp2_core (own : List (Str × Nat)) (vs1 : List Nat) (q : comp2M B f xs = some ys) (hi : XIt X tg iter env (xs.map en))
    (hg : ∀ y s Hb C cl fp, XG (blkX X scope s Hb C cl fp) tg (own.map (·.2)) (wipeE env (own.map (·.2))) (en y) (eX y)) (hno : ∀ y, noOwn (eX y) = true)
    (hi1 : ∀ y zs, B y = some zs → ∀ s Hb C cl fp, XIt (blkX X scope s Hb C cl fp) tg1 iter1 (eX y) (zs.map e1))
    (hg1 : ∀ y z s Hb C cl fp, XG (blkX X scope s Hb C cl fp) tg1 vs1 (wipeE (eX y) vs1) (e1 z) (eY y z)) (hb : ∀ y z r, f y z = some r → ∀ s Hb C cl fp, XD (blkX X scope s Hb C cl fp) elt (eY y z) (eb r))
    {F0 H0 F : Hp} {σ : L2.St} {H : Hp} (E : EnvAt X.kw F0 H0 F σ H env) {Q : VK} (qq : ∀ p vs F' H', Gro F H F' H' → H p = none → F' p = none → H' p = some (.lst vs) → DpAll X.kw F' vs (ys.map eb) → Q (.ref p) H') :
    tLc2 (wI X tg iter) (uG X scope tg) tYes (uI X scope tg1 iter1) (uG X scope tg1) tYes (uE X scope elt) (own.map (·.2)) vs1 σ H Q := by
  obtain ⟨yss, hy, q⟩ := obS q
  split at q
  case isFalse => cases q
  case isTrue hz =>
  cases q
  obtain ⟨_, hl, hsp⟩ := compM_spec hy
  have hi' : XI X tg iter env xs.length (fun i => (xs.map en).getD i .none) := xi_to hi (by simp) fun _ _ => rfl
  refine lc2_read (n1 := fun a => (yss.getD a []).length) (it1 := fun a b => ((((xs[a]?.bind B).getD []).map e1).getD b .none)) (f := fun a b => ((yss.getD a []).map eb).getD b .none) hi' E (fun i hin => ?_) (fun i j hi hj => Nat.lt_of_lt_of_le (flat_lt yss eb (by rw [hl]; exact hi) hj) hz) (by rw [← hl, flat_take]; exact qq)
  obtain ⟨row, h1, h2⟩ := hsp i hin
  obtain ⟨zs, hB, h1⟩ := obS h1
  obtain ⟨_, hrl, hrow⟩ := compM_spec h1
  have er : yss.getD i [] = row := by simp [List.getD_eq_getElem?_getD, h2]
  have eB : (xs[i]?.bind B).getD [] = zs := by rw [List.getElem?_eq_getElem hin]; show (B xs[i]).getD [] = zs; rw [hB]; rfl
  refine ⟨eX xs[i], fun s Hb C cl fp => ?_, hno _, fun s Hb C cl fp => ?_, fun j hj => ?_⟩
  · show XG _ _ _ _ ((xs.map en).getD i .none) _
    rw [getD_en hin]; exact hg _ s Hb C cl fp
  · have := hi1 _ _ hB s Hb C cl fp
    refine xi_to this (by rw [List.length_map, er, hrl]) fun b _ => ?_
    show _ = (((xs[i]?.bind B).getD []).map e1).getD b .none
    rw [eB]
  · rw [er, hrl] at hj
    obtain ⟨r, h3, h4⟩ := hrow j hj
    refine ⟨eY xs[i] zs[j], fun s Hb C cl fp => ?_, fun s Hb C cl fp => ?_⟩
    · show XG _ _ _ _ ((((xs[i]?.bind B).getD []).map e1).getD j .none) _
      rw [eB, getD_en hj]; exact hg1 _ _ s Hb C cl fp
    · show XD _ _ _ (((yss.getD i []).map eb).getD j .none)
      rw [er, getD_ys h4]; exact hb _ _ _ h3 s Hb C cl fp
theorem nm_comp2 (own : List (Str × Nat)) (vs1 : List Nat) (q : comp2M B f xs = some ys) (hN : X.N = N) (hnd : N.Nodup) (hi : XIt X tg iter env (xs.map en)) (okc : blkC N S scope own = true) (hv : ∀ i ∈ vs1, i ∈ own.map (·.2))
    (hg : ∀ y s Hb C cl fp, XG (blkX X scope s Hb C cl fp) tg (own.map (·.2)) wenv (en y) (eX y)) (hno : ∀ y, noOwn (eX y) = true)
    (hi1 : ∀ y zs, B y = some zs → ∀ s Hb C cl fp, XIt (blkX X scope s Hb C cl fp) tg1 iter1 (eX y) (zs.map e1))
    (hg1 : ∀ y z s Hb C cl fp, XG (blkX X scope s Hb C cl fp) tg1 vs1 (eW y) (e1 z) (eY y z)) (hb : ∀ y z r, f y z = some r → ∀ s Hb C cl fp, XD (blkX X scope s Hb C cl fp) elt (eY y z) (eb r))
    (hw : wipeE env (own.map (·.2)) = wenv := by rfl) (hw1 : ∀ y, wipeE (eX y) vs1 = eW y := by intro _; rfl) (hS : X.env.scope = S := by rfl) (hc : X.calm = true := by rfl) (hfs : ∀ x, foldedSetIterable iter X.env x = pure x := by intro _; rfl) (hfs1 : ∀ env x, foldedSetIterable iter1 env x = pure x := by intro _ _; rfl) :
    XL X (.ListComp elt [⟨tg, iter, [], 0⟩, ⟨tg1, iter1, [], 0⟩] scope pos) env (ys.map eb) := by
  subst hN hS hw
  intro F0 H0 F σ H E Q qq
  refine e_of (pe_lc2 (te := uE X scope elt) (g := uG X scope tg) (g1 := uG X scope tg1) (tt := tYes) (tt1 := tYes) (wi1 := uI X scope tg1 iter1) hc hnd i_w (blkOk_by okc) hv (fun s Hb C cl fp => ⟨fun pins s' σ' H' v u Q' I r h => (h s Hb C cl fp).run pins s' u I r⟩) (fun _ _ _ _ _ => pts_nil) (fun s Hb C cl fp => ⟨fun pins s' σ' H' R' I h => (h s Hb C cl fp).run pins s' I⟩) (fun s Hb C cl fp => ⟨fun pins s' σ' H' v u Q' I r h => (h s Hb C cl fp).run pins s' u I r⟩) (fun _ _ _ _ _ => pts_nil) (fun s Hb C cl fp => ⟨fun pins s' σ' H' Q' I h => (h s Hb C cl fp).run pins s' I⟩) hfs hfs1) ?_
  exact comp2_core own vs1 q hi hg hno hi1 (fun y z s Hb C cl fp => by rw [hw1 y]; exact hg1 y z s Hb C cl fp) hb E qq
theorem nm_setComp2 {k : Nat} {y : Str} {env3 : AEnv} (own : List (Str × Nat)) (vs1 : List Nat) (q : comp2M B f xs = some ys) (hN : X.N = N) (hnd : N.Nodup) (hi : XIt X tg iter env (xs.map en)) (okc : blkC N S scope own = true) (hv : ∀ i ∈ vs1, i ∈ own.map (·.2))
    (hg : ∀ y s Hb C cl fp, XG (blkX X scope s Hb C cl fp) tg (own.map (·.2)) wenv (en y) (eX y)) (hno : ∀ y, noOwn (eX y) = true)
    (hi1 : ∀ y zs, B y = some zs → ∀ s Hb C cl fp, XIt (blkX X scope s Hb C cl fp) tg1 iter1 (eX y) (zs.map e1))
    (hg1 : ∀ y z s Hb C cl fp, XG (blkX X scope s Hb C cl fp) tg1 vs1 (eW y) (e1 z) (eY y z)) (hb : ∀ y z r, f y z = some r → ∀ s Hb C cl fp, XD (blkX X scope s Hb C cl fp) elt (eY y z) (eb r))
    (hst : SetN N env k y (some (.l (ys.map eb))) env3) (hn : A.nx env3)
    (hw : wipeE env (own.map (·.2)) = wenv := by rfl) (hw1 : ∀ y, wipeE (eX y) vs1 = eW y := by intro _; rfl) (hS : X.env.scope = S := by rfl) (hyl : X.env.scope.names.lookup y = some .local := by rfl)
    (hsw : swapsWith (.ListComp elt [⟨tg, iter, [], 0⟩, ⟨tg1, iter1, [], 0⟩] scope pos) (some (.Name y p3)) p4.line X.env = pure true := by exact sw_true rfl rfl rfl (by decide +kernel)) (hc : X.calm = true := by rfl) (hfs : ∀ x, foldedSetIterable iter X.env x = pure x := by intro _; rfl) (hfs1 : ∀ env x, foldedSetIterable iter1 env x = pure x := by intro _ _; rfl) :
    XS X (.Assign [.Name y p3] (.ListComp elt [⟨tg, iter, [], 0⟩, ⟨tg1, iter1, [], 0⟩] scope pos) p4) env A := by
  subst hN hS hw
  intro F0 H0 F σ H D E l
  refine s_of (ps_setLc2 (te := uE X scope elt) (g := uG X scope tg) (g1 := uG X scope tg1) (tt := tYes) (tt1 := tYes) (wi1 := uI X scope tg1 iter1) hc hnd hst.get.2 hyl hsw i_w (blkOk_by okc) hv (fun s Hb C cl fp => ⟨fun pins s' σ' H' v u Q' I r h => (h s Hb C cl fp).run pins s' u I r⟩) (fun _ _ _ _ _ => pts_nil) (fun s Hb C cl fp => ⟨fun pins s' σ' H' R' I h => (h s Hb C cl fp).run pins s' I⟩) (fun s Hb C cl fp => ⟨fun pins s' σ' H' v u Q' I r h => (h s Hb C cl fp).run pins s' u I r⟩) (fun _ _ _ _ _ => pts_nil) (fun s Hb C cl fp => ⟨fun pins s' σ' H' Q' I h => (h s Hb C cl fp).run pins s' I⟩) hfs hfs1) ?_
  show tLc2 _ _ _ _ _ _ _ _ _ σ H (fun x H1 => gName k x σ H1 D.nx)
  refine comp2_core own vs1 q hi hg hno hi1 (fun y z s Hb C cl fp => by rw [hw1 y]; exact hg1 y z s Hb C cl fp) hb E fun a vs F1 H1 g1 n1 n2 e1' p1 => ?_
  have hn' : A.nx (env.set k (some (.l (ys.map eb)))) := by rw [hst.get.1]; exact hn
  exact l.nx _ F1 _ H1 (E.newL g1 e1' p1 n1 n2) hn'
end
end FR

namespace FR
open PySem PySem.Spec PyProof.Rows L2

/-! ## tuples backwards -/
section
variable {prog : Program} {w : World} {A : Around} {E : Value → Shared → Prop} {s : Shared}
theorem adjust_rev (n : Nat) : Builtin.Slice.sliceAdjust none none (-1) (n : Int) = ((n : Int) - 1, -1) := by
  unfold Builtin.Slice.sliceAdjust
  simp
theorem places_rev (n : Nat) : Builtin.Slice.slicePlaces ((n : Int) - 1) (-1) (-1) = n := by
  unfold Builtin.Slice.slicePlaces
  have h1 : ¬ ((-1 : Int) > 0) := by decide
  simp only [h1, if_false]
  have e : (- -1 : Int) = 1 := by decide
  simp only [e, Int.ediv_one]
  split <;> omega
theorem sliceApplied_rev {sl : Addr} {u : Tok} {n : Nat} {Q : Int × Int × Nat → Shared → Prop} (hs : s.heap.IsSliceOf sl .none .none (.int (-1) u))
    (h : Q ((n : Int) - 1, -1, n) s) : wpAny (model prog w) A (Builtin.Slice.sliceApplied (.ref sl) (pure (n : Int))) Q E s := by
  obtain ⟨os, hos, hcs, hds⟩ := id hs
  unfold Builtin.Slice.sliceApplied Builtin.Slice.sliceFields
  refine wpAny_bind (wpAny_bind (wpAny_field hos hds (x := .none) rfl (wpAny_bind (wpAny_field hos hds (x := .none) rfl (wpAny_bind (wpAny_field hos hds (x := .int (-1) u) rfl (wpAny_pure ?_)))))))
  refine wpAny_bind (slicePart_int ?_)
  show wpAny _ _ (if ((-1 : Int) == 0) = true then _ else _) _ _ s
  rw [if_neg (by decide)]
  refine wpAny_bind (slicePart_none (wpAny_bind (slicePart_none (wpAny_bind (wpAny_pure ?_)))))
  show wpAny _ _ (match Builtin.Slice.sliceAdjust none none (-1) (n : Int) with | (lo, hi) => pure (lo, (-1 : Int), Builtin.Slice.slicePlaces lo hi (-1))) _ _ s
  rw [adjust_rev]
  show wpAny _ _ (pure ((n : Int) - 1, (-1 : Int), Builtin.Slice.slicePlaces ((n : Int) - 1) (-1) (-1))) _ _ s
  rw [places_rev]
  exact wpAny_pure h
theorem filterMap_get2 {α β : Type} (f : α → Option β) (g : α → β) : ∀ (l : List α), (∀ a ∈ l, f a = some (g a)) → l.filterMap f = l.map g
  | [], _ => rfl
  | a :: l, h => by
    rw [List.filterMap_cons, h a List.mem_cons_self, List.map_cons, filterMap_get2 f g l fun b hb => h b (List.mem_cons_of_mem _ hb)]
theorem pick_rev (xs : Array Value) : ((List.range xs.size).filterMap fun (m : Nat) => xs[(((xs.size : Int) - 1) + (m : Int) * -1).toNat]?).toArray = xs.toList.reverse.toArray := by
  congr 1
  have h1 : (List.range xs.size).filterMap (fun (m : Nat) => xs[(((xs.size : Int) - 1) + (m : Int) * -1).toNat]?) = (List.range xs.size).map fun m => xs.toList.reverse.getD m .none := by
    refine filterMap_get2 _ _ _ fun m hm => ?_
    have hm := List.mem_range.mp hm
    have e1 : (((xs.size : Int) - 1) + (m : Int) * -1).toNat = xs.size - 1 - m := by omega
    rw [e1, Array.getElem?_eq_getElem (by omega)]
    simp [List.getD_eq_getElem?_getD, hm]
  rw [h1]
  apply List.ext_getElem
  · simp
  · intro i a b
    simp at a
    simp [List.getD_eq_getElem?_getD, a]
theorem getItem_tuple_rev {t sl : Addr} {items : Array Value} {u : Tok} {Q : Value → Shared → Prop} (ht : IsTup s.heap t items) (hs : s.heap.IsSliceOf sl .none .none (.int (-1) u))
    (h : Q (.ref s.heap.objs.size) { s with heap := s.heap.push { cls := .type "tuple", data := .seq items.toList.reverse.toArray } })
    (hsz : items.size ≤ sizeLine) : wpAny (model prog w) A (getItem (.ref t) (.ref sl)) Q E s := by
  have htake : sizeOk (.seq items.toList.reverse.toArray) := by
    show items.toList.reverse.toArray.size ≤ sizeLine
    simpa using hsz
  obtain ⟨os, hos, hcs, hds⟩ := id hs
  have hTs : s.TypeIs (.ref sl) "slice" := ⟨os, hos, hcs⟩
  unfold getItem
  try with_reducible refine wpAny_holding ?_
  first | refine wpAny_bind (wpAny_pure ?_) | skip
  refine wpAny_bind (wpAny_sequenceKey ht.typeIs (by decide) ?_)
  refine wpAny_bind (wpAny_callSpecial?_slot (name := Str.ofString "__getitem__") ht.typeIs PyProof.Rows.slot_tuple_getitem
    (wpAny_call_entry PyProof.Rows.slot_tuple_getitem ht.typeIs entry_tuple_getitem ?_ (args_tuple_getitem _ _)))
  show wpAny _ _ (Builtin.Tuple.tupleItemsOf (.ref t) >>= _) _ _ s
  refine wpAny_bind (tupleItemsOf_ ht ?_)
  refine wpAny_bind (wpAny_typeOf hTs ?_)
  rw [if_pos (by decide)]
  refine wpAny_bind (sliceApplied_rev hs ?_)
  have hno : ¬ (((((items.size : Int) - 1)) == 0 && (-1 : Int) == 1 && items.size == items.size) = true) := by
    simp
  show wpAny _ _ (if ((((items.size : Int) - 1)) == 0 && (-1 : Int) == 1 && items.size == items.size) = true then _ else _) _ _ s
  rw [if_neg hno, pick_rev]
  first
    | exact wpAny_bind (m := Builtin.Tuple.tupleExact _) (wpAny_newObj_type (wpAny_pure ⟨_, rfl, wpAny_pure h⟩) htake)
    | exact wpAny_bind (m := Builtin.Tuple.tupleExact _) (wpAny_newObj_type (wpAny_bind (wpAny_pure (wpAny_pure ⟨_, rfl, wpAny_pure h⟩))) htake)
    | exact wpAny_bind (wpAny_bind (m := Builtin.Tuple.tupleExact _) (wpAny_newObj_type (wpAny_pure (wpAny_pure ⟨_, rfl, wpAny_pure h⟩)) htake))
    | exact wpAny_bind (wpAny_bind (m := Builtin.Tuple.tupleExact _) (wpAny_newObj_type (wpAny_pure ⟨_, rfl, wpAny_pure h⟩) htake))
end
theorem vals_rev {xs : List V} {us : List Value} (r : Vals xs us) : Vals xs.reverse us.reverse := by
  induction r with
  | nil => exact .nil
  | cons h t ih => rw [List.reverse_cons, List.reverse_cons]; exact ih.append (.cons h .nil)
theorem dpAll_rev {K : KW} {H : Hp} : ∀ {vs : List V} {ds : List PyData}, DpAll K H vs ds → DpAll K H vs.reverse ds.reverse
  | _, _, .nil => .nil
  | _, _, .cons h t => by rw [List.reverse_cons, List.reverse_cons]; exact dpAll_append (dpAll_rev t) (.cons h .nil)
section
variable {X : Cx} {e e2 tg iter : Expr} {es : List Expr} {env env' : AEnv} {d d1 d2 : PyData} {pos p p1 p2 p3 : Pos} {N : List Str} {i j k : Nat} {x : Str} {te : TE}
def tRevT (K : PySem.W.Frag) (te : TE) : TE := fun σ H Q => te σ H fun x H1 => ∃ a xs, x = .ref a ∧ SqT K H1 a xs ∧ ∀ p, H1 p = none → Q (.ref p) (upd H1 p (.tup xs.reverse))
theorem pe_revT {kk : Nat} (he : PE X e te) : PE X (.Subscript e (.Slice none none (some (.UnaryOp .USub (.Constant (.int 1) kk p1) p2)) p3) pos) (tRevT X.K te) := by
  refine ⟨fun pins s σ H Q I h => ?_⟩
  refine Subscript_ (thn (he.run pins s σ H _ I h) fun v s1 ⟨x, H1, I1, r1, q1⟩ => ?_)
  obtain ⟨a, xs, rfl, sq, q⟩ := q1
  cases r1
  have hst : PO X (some (.UnaryOp .USub (.Constant (.int 1) kk p1) p2)) (tPart (tUn (rU fun i => .int (-i)) (tC (.int 1)))) := po_some (pe_un un_neg pe_int)
  refine wpAny_Slice (thn (po_none.run pins s1 σ H1 (fun o H2 => o = none ∧ H2 = H1) I1 ⟨rfl, rfl⟩) fun vl s2 ⟨l, H2, I2, pl, el, e2⟩ => ?_)
  subst el e2
  refine thn (po_none.run pins s2 σ H2 (fun o H3 => o = none ∧ H3 = H2) I2 ⟨rfl, rfl⟩) fun vu s3 ⟨u, H3, I3, pu, eu, e3⟩ => ?_
  subst eu e3
  refine thn (hst.run pins s3 σ H3 (fun o H4 => o = some (-1) ∧ H4 = H3) I3 ⟨1, rfl, -1, rfl, rfl, rfl⟩) fun vs s4 ⟨o, H4, I4, ps, eo, e4⟩ => ?_
  subst eo e4
  cases pl
  cases pu
  cases ps with
  | int i tw =>
  have hsl : (s4.heap.push { cls := .type "slice", data := .fields #[.none, .none, .int (-1) tw] }).IsSliceOf s4.heap.objs.size .none .none (.int (-1) tw) := Heap.IsSliceOf.new ..
  have I5 : L2.Inv X pins σ H4 { s4 with heap := s4.heap.push { cls := .type "slice", data := .fields #[.none, .none, .int (-1) tw] } } := I4.kept (t' := s4.toks) fun b ob q => Heap.get?_push_of_some _ q
  show wpAny (model X.prog X.w) X.A (subscriptTail e (.Slice none none (some (.UnaryOp .USub (.Constant (.int 1) kk p1) p2)) p3) (.ref a) (.ref s4.heap.objs.size)) (EP X pins σ Q) X.xe { s4 with heap := s4.heap.push { cls := .type "slice", data := .fields #[.none, .none, .int (-1) tw] } }
  obtain ⟨its, r, ht, hz⟩ := I5.tuple sq
  refine tail_any (ops := [.ref a, .ref s4.heap.objs.size]) ht.typeIs PyProof.Rows.slot_tuple_getitem.lookup ?_ (by with_unfolding_all rfl)
  refine getItem_tuple_rev ht hsl ?_ (by rw [List.size_toArray, ← r.length]; exact hz)
  refine ⟨.ref _, _, I5.laid (t' := s4.toks) (o := .tup xs.reverse) (fun b ob q => Heap.get?_push_of_some _ q) (Nat.le_refl _) ?_, rfl, q _ (I5.hok.fresh (Nat.le_refl _))⟩
  exact ⟨by rw [List.length_reverse]; exact hz, _, vals_rev r, IsTup.new _ _⟩
theorem xm_vrev {α : Type} {en : α → PyData} {xs : List α} {kk : Nat} (h : XD X e env (.tuple (xs.map en))) : XD X (.Subscript e (.Slice none none (some (.UnaryOp .USub (.Constant (.int 1) kk p1) p2)) p3) pos) env (.tuple (xs.reverse.map en)) := fun F0 H0 F σ H E Q q =>
  e_of (pe_revT e_w) (h _ _ F σ H E _ fun v F1 H1 g1 p1 => by
    obtain ⟨a, vs, rfl, z1, z2⟩ := dT p1
    refine ⟨a, vs, rfl, seqT_mono g1.fr z1, fun p hp => ?_⟩
    have g := Gro.new (o := .tup vs.reverse) g1.fr hp
    rw [List.map_reverse] at q
    exact q _ _ _ (g1.trans g) (.tup (.inl (.inl upd_same)) (dpAll_mono g.f (dpAll_rev z2))))
/-- t[lo:hi] -/
theorem xm_vcut {α : Type} {en : α → PyData} {xs : List α} {lo hi : Option Expr} {l u : Option Int} (h : XD X e env (.tuple (xs.map en))) (hl : XO X lo env l) (hu : XO X hi env u) : XD X (.Subscript e (.Slice lo hi none p2) pos) env (.tuple ((cutL xs l u).map en)) := fun F0 H0 F σ H E Q q => by
  obtain ⟨tl, pl, ql⟩ := hl
  obtain ⟨tu, pu, qu⟩ := hu
  refine e_of (pe_slice sl_tupA e_w pl pu) (h _ _ F σ H E _ fun v F1 H1 g1 p1 => ?_)
  refine ql _ _ F1 σ H1 (E.grow g1) _ fun F2 H2 g2 => ?_
  refine qu _ _ F2 σ H2 (E.grow (g1.trans g2)) _ fun F3 H3 g3 => ?_
  obtain ⟨a, us, rfl, z1, z2⟩ := dT p1
  have gA := (g1.trans g2).trans g3
  have z3 : Sm F1 H3 := (g2.f.trans g3.f).trans g3.fr
  have z4 := dpAll_mono (g2.f.trans g3.f) z2
  have e0 : (cutL xs l u).map en = cutD (xs.map en) l u := by
    unfold cutL cutD
    rw [List.length_map, List.map_take, List.map_drop]
  rw [e0] at q
  refine ⟨a, us, rfl, seqT_mono z3 z1, fun hw => ?_, fun hw p hp => ?_⟩
  · refine q _ F3 H3 gA ?_
    have e1 : cutD (xs.map en) l u = xs.map en := by
      have hl := dpAll_len z2
      rw [hl] at hw
      unfold cutD
      rw [hw.1, hw.2, List.drop_zero, Nat.sub_zero, List.take_length]
    rw [e1]
    exact .tup (seqT_mono (g2.f.trans g3.f) z1) z4
  · have g := Gro.new (o := .tup (cutV us l u)) g3.fr hp
    exact q _ _ _ (gA.trans g) (.tup (.inl (.inl upd_same)) (dpAll_mono g.f (cut_dp z4)))
theorem xm_lcut {α : Type} {en : α → PyData} {xs : List α} {lo hi : Option Expr} {l u : Option Int} (h : XD X e env (.list (xs.map en))) (hl : XO X lo env l) (hu : XO X hi env u) : XL X (.Subscript e (.Slice lo hi none p2) pos) env ((cutL xs l u).map en) := by
  have e0 : (cutL xs l u).map en = cutD (xs.map en) l u := by
    unfold cutL cutD
    rw [List.length_map, List.map_take, List.map_drop]
  rw [e0]; exact xl_slL h hl hu
/-- t + u -/
theorem xm_vcat {α : Type} {en : α → PyData} {xs ys v : List α} (h1 : XD X e env (.tuple (xs.map en))) (h2 : XD X e2 env (.tuple (ys.map en))) (q0 : lCat xs ys = some v) : XD X (.BinOp e .Add e2 pos) env (.tuple (v.map en)) := by
  unfold lCat at q0
  split at q0
  case isFalse => cases q0
  case isTrue hb =>
  cases q0
  rw [List.map_append]
  refine x2 (pe_op op_catA e_w e_w) h1 h2 fun F H v w fr p1 p2 Q q => ?_
  obtain ⟨a, vs, rfl, z1, z2⟩ := dT p1
  obtain ⟨b, us, rfl, y1, y2⟩ := dT p2
  have la := dpAll_len z2
  have lb := dpAll_len y2
  rw [List.length_map] at la lb
  refine ⟨a, b, vs, us, rfl, rfl, seqT_mono fr z1, seqT_mono fr y1, by rw [la, lb]; exact hb, fun hx => ?_, fun hx hy => ?_, fun hx hy p hp => ?_⟩
  · subst hx
    have : xs = [] := List.eq_nil_of_length_eq_zero la.symm
    subst this
    exact q _ F H (Gro.refl fr) p2
  · subst hy
    have : ys = [] := List.eq_nil_of_length_eq_zero lb.symm
    subst this
    rw [List.map_nil, List.append_nil] at q
    exact q _ F H (Gro.refl fr) p1
  · have g := Gro.new (o := .tup (vs ++ us)) fr hp
    exact q _ _ _ g (.tup (.inl (.inl upd_same)) (dpAll_mono g.f (dpAll_append z2 y2)))
/-! ## order of data -/
def rOrd (K : PySem.W.Frag) (g : PyData → PyData → Bool) : R2 := fun x y H Q => ∃ d e, L2.Dp K H x d ∧ L2.Dp K H y e ∧ PySem.W.alike d e = true ∧ d ≠ .none ∧ min d.depth e.depth ≤ 60 ∧ Q (.bl (g d e)) H
theorem op_ltO (hu : X.A.units + 64 < cLine) : OpR X (compareOp .Lt) (rOrd X.K fun d e => PySem.W.dataLt d e) := by
  intro pins s σ H x y v u Q I rx ry h
  obtain ⟨d, e, hd, he, sa, sn, sz, q⟩ := h
  obtain ⟨as, r1⟩ := L2.Dp.reads I d x v hd rx
  obtain ⟨bs, r2⟩ := L2.Dp.reads I e y u he ry
  exact PySem.W.lt_data r1 r2 sa sn (by omega) ⟨.bl _, H, I, rfl, q⟩
theorem op_gtO (hu : X.A.units + 64 < cLine) : OpR X (compareOp .Gt) (rOrd X.K fun d e => PySem.W.dataLt e d) := by
  intro pins s σ H x y v u Q I rx ry h
  obtain ⟨d, e, hd, he, sa, sn, sz, q⟩ := h
  obtain ⟨as, r1⟩ := L2.Dp.reads I d x v hd rx
  obtain ⟨bs, r2⟩ := L2.Dp.reads I e y u he ry
  exact PySem.W.gt_data r1 r2 sa sn (by omega) ⟨.bl _, H, I, rfl, q⟩
theorem op_leO (hu : X.A.units + 64 < cLine) : OpR X (compareOp .LtE) (rOrd X.K fun d e => !PySem.W.dataLt e d) := by
  intro pins s σ H x y v u Q I rx ry h
  obtain ⟨d, e, hd, he, sa, sn, sz, q⟩ := h
  obtain ⟨as, r1⟩ := L2.Dp.reads I d x v hd rx
  obtain ⟨bs, r2⟩ := L2.Dp.reads I e y u he ry
  exact PySem.W.le_data r1 r2 sa sn (by omega) ⟨.bl _, H, I, rfl, q⟩
theorem op_geO (hu : X.A.units + 64 < cLine) : OpR X (compareOp .GtE) (rOrd X.K fun d e => !PySem.W.dataLt d e) := by
  intro pins s σ H x y v u Q I rx ry h
  obtain ⟨d, e, hd, he, sa, sn, sz, q⟩ := h
  obtain ⟨as, r1⟩ := L2.Dp.reads I d x v hd rx
  obtain ⟨bs, r2⟩ := L2.Dp.reads I e y u he ry
  exact PySem.W.ge_data r1 r2 sa sn (by omega) ⟨.bl _, H, I, rfl, q⟩
/-- d < e where both are data of one kind -/
def ltD (d e : PyData) : Option Bool := if PySem.W.alike d e = true ∧ isNonD d = false ∧ min d.depth e.depth ≤ 60 ∧ d.hasDict = false ∧ e.hasDict = false then some (PySem.W.dataLt d e) else none
theorem nn_of {d : PyData} (h : isNonD d = false) : d ≠ .none := fun z => by subst z; cases h
/-- a text within a text -/
def isSub (c z : Str) : Bool := !(Builtin.Str.occurrences z c 0 z.length 1).isEmpty
/-- what a comparison tells, by data -/
inductive CmpQ : CmpOp → PyData → PyData → Bool → Prop
  | of {op a b c} (h : CmpD op a b c) : CmpQ op a b c
  | eq {a b c} (q : eqD a b = some c) : CmpQ .Eq a b c
  | ne {a b c} (q : eqD a b = some c) : CmpQ .NotEq a b (!c)
  | lt {a b c} (q : ltD a b = some c) : CmpQ .Lt a b c
  | gt {a b c} (q : ltD b a = some c) : CmpQ .Gt a b c
  | le {a b c} (q : ltD b a = some c) : CmpQ .LtE a b (!c)
  | ge {a b c} (q : ltD a b = some c) : CmpQ .GtE a b (!c)
  | inSub {c z} : CmpQ .In (.str c) (.str z) (isSub c z)
  | niSub {c z} : CmpQ .NotIn (.str c) (.str z) (!isSub c z)
theorem cmpq_r {op : CmpOp} {b : Bool} (hr : Room k X.A) (h : CmpQ op d1 d2 b) : ∃ r, OpR X (compareOp op) r ∧ OpD X.kw r d1 d2 (.bool b) := by
  cases h with
  | of h => exact cmp_r hr h
  | inSub => exact ⟨_, op_in_str, fun F H v w fr p1 p2 Q q => ⟨_, _, dS p1, dS p2, q _ F H (Gro.refl fr) (.bl _)⟩⟩
  | niSub => exact ⟨_, op_notIn_str, fun F H v w fr p1 p2 Q q => ⟨_, _, dS p1, dS p2, q _ F H (Gro.refl fr) (.bl _)⟩⟩
  | eq q =>
    unfold eqD at q
    split at q
    · rename_i hb; cases q; exact cmp_r hr (.eqD hb.1 hb.2)
    · cases q
  | ne q =>
    unfold eqD at q
    split at q
    · rename_i hb; cases q; exact cmp_r hr (.neD hb.1 hb.2)
    · cases q
  | lt q =>
    unfold ltD at q
    split at q
    · rename_i hb; cases q
      exact ⟨_, op_ltO hr.units, fun F H v w fr p1 p2 Q q => ⟨d1, d2, (dp_mono fr p1).lib hb.2.2.2.1, (dp_mono fr p2).lib hb.2.2.2.2, hb.1, nn_of hb.2.1, hb.2.2.1, q _ F H (Gro.refl fr) (.bl _)⟩⟩
    · cases q
  | gt q =>
    unfold ltD at q
    split at q
    · rename_i hb; cases q
      refine ⟨_, op_gtO hr.units, fun F H v w fr p1 p2 Q q => ⟨d1, d2, (dp_mono fr p1).lib hb.2.2.2.2, (dp_mono fr p2).lib hb.2.2.2.1, by rw [PySem.W.alike_comm]; exact hb.1, ?_, by rw [Nat.min_comm]; exact hb.2.2.1, q _ F H (Gro.refl fr) (.bl _)⟩⟩
      exact PySem.W.ne_none_both hb.1 (nn_of hb.2.1)
    · cases q
  | le q =>
    unfold ltD at q
    split at q
    · rename_i hb; cases q
      refine ⟨_, op_leO hr.units, fun F H v w fr p1 p2 Q q => ⟨d1, d2, (dp_mono fr p1).lib hb.2.2.2.2, (dp_mono fr p2).lib hb.2.2.2.1, by rw [PySem.W.alike_comm]; exact hb.1, ?_, by rw [Nat.min_comm]; exact hb.2.2.1, q _ F H (Gro.refl fr) (.bl _)⟩⟩
      exact PySem.W.ne_none_both hb.1 (nn_of hb.2.1)
    · cases q
  | ge q =>
    unfold ltD at q
    split at q
    · rename_i hb; cases q
      exact ⟨_, op_geO hr.units, fun F H v w fr p1 p2 Q q => ⟨d1, d2, (dp_mono fr p1).lib hb.2.2.2.1, (dp_mono fr p2).lib hb.2.2.2.2, hb.1, nn_of hb.2.1, hb.2.2.1, q _ F H (Gro.refl fr) (.bl _)⟩⟩
    · cases q
theorem q_cmp {op : CmpOp} {b : Bool} (hr : Room k X.A) (h1 : XD X e env d1) (h2 : XD X e2 env d2) (h : CmpQ op d1 d2 b) (hm : behindInMarks op e2 = false := by first | exact nomark _ | rfl) : XD X (.Compare e [op] [e2] pos) env (.bool b) := by
  obtain ⟨r, ho, hd⟩ := cmpq_r hr h
  exact x2 (pe_cmpR ho e_w e_w hm) h1 h2 hd
theorem q_cmpT {op : CmpOp} {b : Bool} (hr : Room k X.A) (h1 : XD X e env d1) (h2 : XD X e2 env d2) (h : CmpQ op d1 d2 b) (hm : behindInMarks op e2 = false := by first | exact nomark _ | rfl) : XT X (.Compare e [op] [e2] pos) env b := by
  obtain ⟨r, ho, hd⟩ := cmpq_r hr h
  exact cmpT (op := op) (pt_cmpR ho e_w e_w hm) h1 h2 hd
/-! ### in -/
theorem inF_strs (z : Str) : ∀ xs : List Str, inF (.str z) (xs.map .str) = decide (z ∈ xs)
  | [] => by simp [inF]
  | x :: l => by
    have ih := inF_strs z l
    unfold inF at ih ⊢
    rw [List.map_cons, List.any_cons, ih]
    show ((x == z) || decide (z ∈ l)) = decide (z ∈ x :: l)
    rw [Bool.eq_iff_iff]
    simp only [Bool.or_eq_true, beq_iff_eq, decide_eq_true_eq, List.mem_cons]
    exact ⟨fun h => h.imp (fun e => e.symm) id, fun h => h.imp (fun e => e.symm) id⟩
theorem inF_ints (n : Int) : ∀ l : List Int, inF (.int n) (l.map .int) = decide (n ∈ l)
  | [] => by simp [inF]
  | x :: l => by
    have ih := inF_ints n l
    unfold inF at ih ⊢
    rw [List.map_cons, List.any_cons, ih]
    show ((x == n) || decide (n ∈ l)) = decide (n ∈ x :: l)
    rw [Bool.eq_iff_iff]
    simp only [Bool.or_eq_true, beq_iff_eq, decide_eq_true_eq, List.mem_cons]
    exact ⟨fun h => h.imp (fun e => e.symm) id, fun h => h.imp (fun e => e.symm) id⟩
theorem flat_strs (l : List Str) : (l.map PyData.str).all flatD = true := by
  rw [List.all_eq_true]; intro d hd; obtain ⟨k, _, rfl⟩ := List.mem_map.mp hd; rfl
theorem flat_ints (l : List Int) : (l.map PyData.int).all flatD = true := by
  rw [List.all_eq_true]; intro d hd; obtain ⟨k, _, rfl⟩ := List.mem_map.mp hd; rfl
theorem cq_inLS {z : Str} {xs : List Str} : CmpQ .In (.str z) (.list (xs.map .str)) (decide (z ∈ xs)) := by rw [← inF_strs]; exact .of (.inL rfl (flat_strs xs))
theorem cq_inVS {z : Str} {xs : List Str} : CmpQ .In (.str z) (.tuple (xs.map .str)) (decide (z ∈ xs)) := by rw [← inF_strs]; exact .of (.inT rfl (flat_strs xs))
theorem cq_niLS {z : Str} {xs : List Str} : CmpQ .NotIn (.str z) (.list (xs.map .str)) (!decide (z ∈ xs)) := by rw [← inF_strs]; exact .of (.notInL rfl (flat_strs xs))
theorem cq_niVS {z : Str} {xs : List Str} : CmpQ .NotIn (.str z) (.tuple (xs.map .str)) (!decide (z ∈ xs)) := by rw [← inF_strs]; exact .of (.notInT rfl (flat_strs xs))
theorem cq_inLI {z : Int} {xs : List Int} : CmpQ .In (.int z) (.list (xs.map .int)) (decide (z ∈ xs)) := by rw [← inF_ints]; exact .of (.inL rfl (flat_ints xs))
theorem cq_inVI {z : Int} {xs : List Int} : CmpQ .In (.int z) (.tuple (xs.map .int)) (decide (z ∈ xs)) := by rw [← inF_ints]; exact .of (.inT rfl (flat_ints xs))
theorem cq_niLI {z : Int} {xs : List Int} : CmpQ .NotIn (.int z) (.list (xs.map .int)) (!decide (z ∈ xs)) := by rw [← inF_ints]; exact .of (.notInL rfl (flat_ints xs))
theorem cq_niVI {z : Int} {xs : List Int} : CmpQ .NotIn (.int z) (.tuple (xs.map .int)) (!decide (z ∈ xs)) := by rw [← inF_ints]; exact .of (.notInT rfl (flat_ints xs))
/-- a letter in a text -/
def sIn (c z : Str) : Option Bool := match c.cps.toList with
  | [k] => some (decide (k ∈ z.cps.toList))
  | _ => none
theorem sIn_c {c z : Str} {b : Bool} (q : sIn c z = some b) : ∃ k, c = ⟨#[k]⟩ ∧ b = decide (k ∈ z.cps.toList) := by
  unfold sIn at q
  split at q
  · rename_i k hk
    cases q
    refine ⟨k, ?_, rfl⟩
    obtain ⟨⟨l⟩⟩ := c
    simp only at hk
    rw [hk]
  · cases q
theorem cq_inS {c z : Str} {b : Bool} (q : sIn c z = some b) : CmpQ .In (.str c) (.str z) b := by
  obtain ⟨k, rfl, rfl⟩ := sIn_c q
  exact .of .inS
theorem cq_niS {c z : Str} {b : Bool} (q : sIn c z = some b) : CmpQ .NotIn (.str c) (.str z) (!b) := by
  obtain ⟨k, rfl, rfl⟩ := sIn_c q
  exact .of .notInS
/-! ### and, or, if-else with parts that may fail -/
theorem xd_andM {a b : Bool} {mb : Option Bool} (h1 : XD X e env (.bool a)) (h2 : a = true → ∀ b', mb = some b' → XD X (.BoolOp .And (e2 :: es) pos) env (.bool b')) (q : (if a = true then mb else some false) = some b) : XD X (.BoolOp .And (e :: e2 :: es) pos) env (.bool b) := by
  cases a with
  | true => exact (xd_and (a := true) (b := b) h1 fun _ => h2 rfl b (ifT q rfl)).is rfl
  | false =>
    have := ifF q rfl
    cases this
    exact (xd_and (a := false) (b := false) h1 fun z => nomatch z).is rfl
theorem xd_orM {a b : Bool} {mb : Option Bool} (h1 : XD X e env (.bool a)) (h2 : a = false → ∀ b', mb = some b' → XD X (.BoolOp .Or (e2 :: es) pos) env (.bool b')) (q : (if a = true then some true else mb) = some b) : XD X (.BoolOp .Or (e :: e2 :: es) pos) env (.bool b) := by
  cases a with
  | false => exact (xd_or (a := false) (b := b) h1 fun _ => h2 rfl b (ifF q rfl)).is rfl
  | true =>
    have := ifT q rfl
    cases this
    exact (xd_or (a := true) (b := true) h1 fun z => nomatch z).is rfl
theorem xw_andM {a b : Bool} {mb : Option Bool} (h1 : XT X e env a) (h2 : a = true → ∀ b', mb = some b' → XW X (.BoolOp .And (e2 :: es) pos) env b') (q : (if a = true then mb else some false) = some b) : XW X (.BoolOp .And (e :: e2 :: es) pos) env b := by
  cases a with
  | true => exact xw_and (a := true) (b := b) h1 fun _ => h2 rfl b (ifT q rfl)
  | false =>
    have := ifF q rfl
    cases this
    exact xw_and (a := false) (b := false) h1 fun z => nomatch z
theorem xw_orM {a b : Bool} {mb : Option Bool} (h1 : XT X e env a) (h2 : a = false → ∀ b', mb = some b' → XW X (.BoolOp .Or (e2 :: es) pos) env b') (q : (if a = true then some true else mb) = some b) : XW X (.BoolOp .Or (e :: e2 :: es) pos) env b := by
  cases a with
  | false => exact xw_or (a := false) (b := b) h1 fun _ => h2 rfl b (ifF q rfl)
  | true =>
    have := ifT q rfl
    cases this
    exact xw_or (a := true) (b := true) h1 fun z => nomatch z
theorem xd_ifM {α : Type} {en : α → PyData} {b : Bool} {c : Expr} {m1 m2 : Option α} {v : α} (h : XT X c env b) (h1 : b = true → ∀ v, m1 = some v → XD X e env (en v)) (h2 : b = false → ∀ v, m2 = some v → XD X e2 env (en v)) (q : (if b = true then m1 else m2) = some v) : XD X (.IfExp c e e2 pos) env (en v) := by
  cases b with
  | true => exact (xd_ifx (b := true) (d1 := en v) (d2 := en v) h (fun _ => h1 rfl v (ifT q rfl)) fun z => nomatch z).is rfl
  | false => exact (xd_ifx (b := false) (d1 := en v) (d2 := en v) h (fun z => nomatch z) fun _ => h2 rfl v (ifF q rfl)).is rfl
/-! ### sorted -/
theorem xm_srt {xs v : List Str} (h : XD X e env (.list (xs.map .str))) (q : srtM xs = some v) (hm : X.mg "sorted" = none) (hg : Gl X "sorted" := by rfl) (hs : starEach [e] X.env = (false, eval e X.env) :: starEach [] X.env := by rfl) (hpl : (backTo pos (starEach [] X.env)).any (·.1) = false := by rfl) :
    XL X (.Call (.Name "sorted" p) [e] [] pos) env (v.map .str) := by
  unfold srtM at q
  split at q
  · rename_i hb; cases q; exact xl_sortedS h hb hm hg hs hpl
  · cases q
theorem xm_srtSet {pos2 : Pos} {xs v : List Str} (hr : Room k X.A) (h : XD X e env (.list (xs.map .str)) ∨ XD X e env (.tuple (xs.map .str))) (q : srtSetM xs = some v) (hm : X.mg "sorted" = none) (hm2 : X.mg "set" = none) (hg : Gl X "sorted" := by rfl) (hg2 : Gl X "set" := by rfl) (hc : X.calm = true := by rfl)
    (hs : starEach [e] X.env = (false, eval e X.env) :: starEach [] X.env := by rfl) (hpl : (backTo pos2 (starEach [] X.env)).any (·.1) = false := by rfl)
    (hs2 : starEach [.Call (.Name "set" p2) [e] [] pos2] X.env = (false, eval (.Call (.Name "set" p2) [e] [] pos2) X.env) :: starEach [] X.env := by rfl) (hpl2 : (backTo pos (starEach [] X.env)).any (·.1) = false := by rfl) :
    XL X (.Call (.Name "sorted" p) [.Call (.Name "set" p2) [e] [] pos2] [] pos) env (v.map .str) := by
  unfold srtSetM at q
  split at q
  · rename_i hb; cases q; exact xl_srtSet hr h hb hm hm2 hg hg2 hc hs hpl hs2 hpl2
  · cases q
theorem xm_srtLen {kpos : Pos} {xs v : List Str} (hr : Room k X.A) (h : XL X e env (xs.map .str)) (q : srtLenM xs = some v) (hm : X.mg "sorted" = none) (hm2 : X.mg "len" = none) (hg : Gl X "sorted" := by rfl) (hg2 : Gl X "len" := by rfl)
    (hst : backTo pos (starEach [e] X.env) = (false, eval e X.env) :: backTo pos (starEach [] X.env) := by rfl) (hpl : (backTo pos (starEach [e] X.env)).any (·.1) = false := by rfl) (hs : starEach [e] X.env = (false, eval e X.env) :: starEach [] X.env := by rfl) :
    XL X (.Call (.Name "sorted" p) [e] [⟨some "key", .Name "len" p2, kpos⟩] pos) env (v.map .str) := by
  unfold srtLenM at q
  split at q
  · rename_i hb; cases q
    exact xl_srtLen hr h (fun z hz => of_decide_eq_true (List.all_eq_true.mp hb z hz)) hm hm2 hg hg2 hst hpl hs
  · cases q
end
/-! ### no star: by what stands there -/
section
variable {es : List Expr} {env : Env} {a b c : Expr} {xs ys : List Expr} {x : Str} {p : Pos} {k : Nat}
theorem hs_Name : starEach (.Name x p :: es) env = (false, eval (.Name x p) env) :: starEach es env := rfl
theorem hs_Constant {v : Const} : starEach (.Constant v k p :: es) env = (false, eval (.Constant v k p) env) :: starEach es env := rfl
theorem hs_BinOp {o : Operator} : starEach (.BinOp a o b p :: es) env = (false, eval (.BinOp a o b p) env) :: starEach es env := rfl
theorem hs_UnaryOp {o : UnaryOp} : starEach (.UnaryOp o a p :: es) env = (false, eval (.UnaryOp o a p) env) :: starEach es env := rfl
theorem hs_BoolOp {o : BoolOp} : starEach (.BoolOp o xs p :: es) env = (false, eval (.BoolOp o xs p) env) :: starEach es env := rfl
theorem hs_Compare {o : List CmpOp} : starEach (.Compare a o xs p :: es) env = (false, eval (.Compare a o xs p) env) :: starEach es env := rfl
theorem hs_Call {kw : List Keyword} : starEach (.Call a xs kw p :: es) env = (false, eval (.Call a xs kw p) env) :: starEach es env := rfl
theorem hs_Subscript : starEach (.Subscript a b p :: es) env = (false, eval (.Subscript a b p) env) :: starEach es env := rfl
theorem hs_Tuple : starEach (.Tuple xs k p :: es) env = (false, eval (.Tuple xs k p) env) :: starEach es env := rfl
theorem hs_List : starEach (.List xs p :: es) env = (false, eval (.List xs p) env) :: starEach es env := rfl
theorem hs_IfExp : starEach (.IfExp a b c p :: es) env = (false, eval (.IfExp a b c p) env) :: starEach es env := rfl
theorem hs_ListComp {g : List Comprehension} {sc : Scope} : starEach (.ListComp a g sc p :: es) env = (false, eval (.ListComp a g sc p) env) :: starEach es env := rfl
theorem hs_Attribute : starEach (.Attribute a x p :: es) env = (false, eval (.Attribute a x p) env) :: starEach es env := rfl
end
end FR

namespace FR
open PySem PySem.Spec PyProof.Rows L2

/-! ## reckoning with mirrors -/
theorem bS {α β : Type} {m : Option α} {f : α → Option β} {x : α} {r : Option β} (h : m = some x) (k : f x = r) : Option.bind m f = r := by rw [h]; exact k
theorem loop_inv {α σ ρ : Type} {f : α → σ → Option (Ctl σ ρ)} (P : Nat → σ → Prop) (R : ρ → Prop) (Q : σ → Prop) : ∀ (xs : List α) (i0 : Nat) (s : σ), P i0 s →
    (∀ i (hi : i < xs.length) s, P (i0 + i) s → ∃ r, f xs[i] s = some r ∧ ((∃ s', r = .nx s' ∧ P (i0 + i + 1) s') ∨ (∃ s', r = .bk s' ∧ Q s') ∨ ∃ v, r = .rt v ∧ R v)) → (∀ s, P (i0 + xs.length) s → Q s) →
    ∃ c, loopM f xs s = some c ∧ ((∃ s', c = .inl s' ∧ Q s') ∨ ∃ v, c = .inr v ∧ R v)
  | [], i0, s, h, _, hq => ⟨_, rfl, .inl ⟨s, rfl, hq s h⟩⟩
  | x :: xs, i0, s, h, st, hq => by
    obtain ⟨r, hr, c⟩ := st 0 (Nat.zero_lt_succ _) s h
    have hr' : f x s = some r := hr
    rcases c with ⟨s', rfl, p⟩ | ⟨s', rfl, p⟩ | ⟨v, rfl, p⟩
    · obtain ⟨c, h1, h2⟩ := loop_inv P R Q xs (i0 + 1) s' p (fun i hi s p => by
        have := st (i + 1) (Nat.succ_lt_succ hi) s (by rw [show i0 + (i + 1) = i0 + 1 + i by omega]; exact p)
        rw [show i0 + (i + 1) + 1 = i0 + 1 + i + 1 by omega] at this
        exact this) (fun s p => hq s (by rw [List.length_cons, show i0 + (xs.length + 1) = i0 + 1 + xs.length by omega]; exact p))
      exact ⟨c, by unfold loopM; rw [hr']; exact h1, h2⟩
    · exact ⟨.inl s', by unfold loopM; rw [hr'], .inl ⟨s', rfl, p⟩⟩
    · exact ⟨.inr v, by unfold loopM; rw [hr'], .inr ⟨v, rfl, p⟩⟩
/-- a loop without break or return -/
theorem loop_nx {α σ ρ : Type} {f : α → σ → Option (Ctl σ ρ)} (P : Nat → σ → Prop) {xs : List α} {s : σ} (h0 : P 0 s) (st : ∀ i (hi : i < xs.length) s, P i s → ∃ s', f xs[i] s = some (.nx s') ∧ P (i + 1) s') : ∃ s', loopM f xs s = some (.inl s') ∧ P xs.length s' := by
  obtain ⟨c, h1, h2⟩ := loop_inv (f := f) P (fun _ => False) (P xs.length) xs 0 s h0 (fun i hi s p => by
    rw [Nat.zero_add] at p ⊢
    obtain ⟨s', a, b⟩ := st i hi s p
    exact ⟨_, a, .inl ⟨s', rfl, b⟩⟩) (fun s p => by rw [Nat.zero_add] at p; exact p)
  rcases h2 with ⟨s', rfl, p⟩ | ⟨v, _, f⟩
  · exact ⟨s', h1, p⟩
  · exact f.elim
/-- a loop's answer by a function -/
theorem loop_fold {α σ ρ : Type} {f : α → σ → Option (Ctl σ ρ)} (g : α → σ → σ) (P : σ → Prop) : ∀ (xs : List α) (s : σ), P s → (∀ x ∈ xs, ∀ s, P s → f x s = some (.nx (g x s)) ∧ P (g x s)) → loopM f xs s = some (.inl (xs.foldl (fun s x => g x s) s)) ∧ P (xs.foldl (fun s x => g x s) s)
  | [], s, h, _ => ⟨rfl, h⟩
  | x :: xs, s, h, st => by
    obtain ⟨a, b⟩ := st x List.mem_cons_self s h
    obtain ⟨c, d⟩ := loop_fold g P xs (g x s) b fun y hy => st y (List.mem_cons_of_mem _ hy)
    exact ⟨by unfold loopM; rw [a]; exact c, d⟩
theorem compE_map {α β : Type} {f : α → Option β} (g : α → β) : ∀ {xs : List α}, (∀ x ∈ xs, f x = some (g x)) → compE f xs = some (xs.map g)
  | [], _ => rfl
  | x :: xs, h => by
    unfold compE
    rw [h x List.mem_cons_self, compE_map g fun y hy => h y (List.mem_cons_of_mem _ hy)]; rfl
theorem compM_map {α β : Type} {f : α → Option β} (g : α → β) {xs : List α} (h : ∀ x ∈ xs, f x = some (g x)) (hz : xs.length ≤ 100000) : compM f xs = some (xs.map g) := by
  unfold compM
  rw [if_pos (by rw [sizeLine_eq]; omega), compE_map g h]
theorem compE_ex {α β : Type} {f : α → Option β} (Q : α → β → Prop) : ∀ {xs : List α}, (∀ x ∈ xs, ∃ y, f x = some y ∧ Q x y) → ∃ ys, compE f xs = some ys ∧ ys.length = xs.length ∧ ∀ y ∈ ys, ∃ x ∈ xs, Q x y
  | [], _ => ⟨[], rfl, rfl, fun y h => by cases h⟩
  | x :: xs, h => by
    obtain ⟨y, h1, h2⟩ := h x List.mem_cons_self
    obtain ⟨ys, h3, h4, h5⟩ := compE_ex Q (xs := xs) fun z hz => h z (List.mem_cons_of_mem _ hz)
    refine ⟨y :: ys, by unfold compE; rw [h1, h3]; rfl, congrArg (· + 1) h4, fun z hz => ?_⟩
    rcases List.mem_cons.mp hz with rfl | hz
    · exact ⟨x, List.mem_cons_self, h2⟩
    · obtain ⟨w, hw, q⟩ := h5 z hz; exact ⟨w, List.mem_cons_of_mem _ hw, q⟩
theorem compM_ex {α β : Type} {f : α → Option β} (Q : α → β → Prop) {xs : List α} (h : ∀ x ∈ xs, ∃ y, f x = some y ∧ Q x y) (hz : xs.length ≤ 100000) : ∃ ys, compM f xs = some ys ∧ ys.length = xs.length ∧ ∀ y ∈ ys, ∃ x ∈ xs, Q x y := by
  obtain ⟨ys, h1, h2⟩ := compE_ex Q h
  refine ⟨ys, ?_, h2⟩
  unfold compM
  rw [if_pos (by rw [sizeLine_eq]; omega), h1]
theorem compIM_filter {α β : Type} {c : α → Option Bool} {f : α → Option β} (b : α → Bool) (g : α → β) {xs : List α} (hc : ∀ x ∈ xs, c x = some (b x)) (hf : ∀ x ∈ xs, b x = true → f x = some (g x)) (hz : xs.length ≤ 100000) : compIM c f xs = some ((xs.filter b).map g) := by
  unfold compIM
  rw [if_pos (by rw [sizeLine_eq]; omega)]
  clear hz
  induction xs with
  | nil => rfl
  | cons x xs ih =>
    have ih := ih (fun y hy => hc y (List.mem_cons_of_mem _ hy)) (fun y hy => hf y (List.mem_cons_of_mem _ hy))
    unfold compIE
    rw [hc x List.mem_cons_self]
    show (if b x = true then _ else _) = _
    rw [List.filter_cons]
    cases hb : b x with
    | true => rw [if_pos rfl, if_pos rfl, hf x List.mem_cons_self hb, ih]; rfl
    | false => rw [if_neg Bool.false_ne_true, if_neg Bool.false_ne_true, ih]
theorem rng1_ok {b : Int} (h : b ≤ 1000000) (h0 : 0 ≤ b) : rng1 b = some ((List.range b.toNat).map fun i : Nat => (i : Int)) := by
  unfold rng1
  rw [if_pos (by constructor <;> omega)]
theorem rng2_ok {a b : Int} (h : -1000000 ≤ a ∧ a ≤ 1000000 ∧ -1000000 ≤ b ∧ b ≤ 1000000) : rng2 a b = some ((List.range (b - a).toNat).map fun i : Nat => a + (i : Int)) := by
  unfold rng2
  rw [if_pos (by refine ⟨?_, ?_, ?_, ?_⟩ <;> omega)]
theorem iMod_ok {a b : Int} (h : 0 < b) : iMod a b = some (a % b) := if_pos h
theorem iDiv_ok {a b : Int} (h : 0 < b) (h2 : b < 1073741824) : iDiv a b = some (a / b) := if_pos ⟨h, h2⟩
theorem iMul_ok {a b : Int} (h : (-(2 ^ 64) < a ∧ a < 2 ^ 64) ∨ (-(2 ^ 64) < b ∧ b < 2 ^ 64)) : iMul a b = some (a * b) := if_pos h
theorem sAdd_ok {a b : Str} (h : a.length + b.length ≤ 1000000) : sAdd a b = some (a ++ b) := if_pos (by rw [sizeLine_eq]; omega)
theorem sMul_ok {a : Str} {n : Int} (h : -100000 ≤ n ∧ n ≤ 100000) (h2 : a.length * n.toNat ≤ 1000000) : sMul a n = some (repS a n.toNat) := if_pos ⟨h, by rw [sizeLine_eq]; omega⟩
theorem sLen_ok {a : Str} (h : a.length ≤ 1000000) : sLen a = some (a.length : Int) := if_pos (by rw [sizeLine_eq]; omega)
theorem sCut_ok {z : Str} {l u : Option Int} (h : z.length ≤ 1000000) : sCut z l u = some (cutS z l u) := if_pos (by rw [sizeLine_eq]; omega)
theorem sRev_ok {z : Str} (h : z.length ≤ 1000000) : sRev z = some (revS z) := if_pos (by rw [sizeLine_eq]; omega)
theorem lApp_ok {α : Type} {xs : List α} {x : α} (h : xs.length ≤ 1000000) : lApp xs x = some (xs ++ [x]) := if_pos (by rw [sizeLine_eq]; omega)
theorem lCat_ok {α : Type} {xs ys : List α} (h : xs.length + ys.length ≤ 1000000) : lCat xs ys = some (xs ++ ys) := if_pos (by rw [sizeLine_eq]; omega)
theorem atI_ok {α : Type} {xs : List α} {i : Int} (h : 0 ≤ i ∧ i < (xs.length : Int)) (h' : i.toNat < xs.length := by omega) : atI xs i = some xs[i.toNat] := by
  have e : i = ((i.toNat : Nat) : Int) := by omega
  have := atI_nat (xs := xs) (List.getElem?_eq_getElem h')
  rw [← e] at this; exact this
theorem atI_ex {α : Type} {xs : List α} {i : Int} (h : 0 ≤ i ∧ i < (xs.length : Int)) : ∃ x, atI xs i = some x ∧ x ∈ xs := ⟨_, atI_ok h, List.getElem_mem _⟩
theorem sIx_ok {z : Str} {i : Int} (hz : z.length ≤ 1000000) (h : 0 ≤ i ∧ i < (z.length : Int)) : ∃ c, sIx z i = some ⟨#[c]⟩ ∧ c ∈ z.cps.toList := by
  have hl : z.cps.toList.length = z.length := by simp [Str.length]
  obtain ⟨c, h1, h2⟩ := atI_ex (xs := z.cps.toList) (i := i) (by rw [hl]; exact h)
  refine ⟨c, ?_, h2⟩
  unfold sIx
  rw [if_pos (by rw [sizeLine_eq]; omega), h1]; rfl
theorem srtM_ok {xs : List Str} (h : xs.length < 64) : srtM xs = some (srtS xs) := if_pos h
theorem srtSetM_ok {xs : List Str} (h : xs.length + 1 < 4096) : srtSetM xs = some (srtS (uniS xs)) := if_pos h
theorem srtLenM_ok {xs : List Str} (h : ∀ z ∈ xs, z.length ≤ 1000000) : srtLenM xs = some (lenS xs) := if_pos (List.all_eq_true.mpr fun z hz => decide_eq_true (by have := h z hz; rw [sizeLine_eq]; omega))
theorem sIn_ok {k : Nat} {z : Str} : sIn ⟨#[k]⟩ z = some (decide (k ∈ z.cps.toList)) := rfl
/-! ### texts -/
theorem len_app (a b : Str) : (a ++ b).length = a.length + b.length := by
  show (a.cps ++ b.cps).size = _
  rw [Array.size_append]; rfl
theorem str_len (z : Str) : z.cps.toList.length = z.length := by simp [Str.length]
def alphaS : Str := "abcdefghijklmnopqrstuvwxyz"
theorem alpha_len : alphaS.length = 26 := by decide +kernel
theorem alpha_all : alphaS.cps.toList.all (fun c => decide (97 ≤ c) && decide (c ≤ 122)) = true := by decide +kernel
theorem alpha_bnd {c : Nat} (h : c ∈ alphaS.cps.toList) : 97 ≤ c ∧ c ≤ 122 := by
  have := List.all_eq_true.mp alpha_all c h
  simpa using this
theorem alpha_mem : ∀ c : Nat, c < 123 → 97 ≤ c → c ∈ alphaS.cps.toList := by decide +kernel
/-- a run: letters a to z -/
def isRun (z : Str) : Prop := ∀ c ∈ z.cps.toList, 97 ≤ c ∧ c ≤ 122
theorem isRun_nil : isRun ⟨#[]⟩ := fun c h => by cases h
theorem isRun_app {a b : Str} (ha : isRun a) (hb : isRun b) : isRun (a ++ b) := by
  intro c hc
  have : (a ++ b).cps.toList = a.cps.toList ++ b.cps.toList := by show (a.cps ++ b.cps).toList = _; simp
  rw [this, List.mem_append] at hc
  exact hc.elim (ha c) (hb c)
theorem isRun_rep {z : Str} (h : isRun z) (n : Nat) : isRun (repS z n) := by
  intro c hc
  have : (repS z n).cps.toList = (List.replicate n z.cps.toList).flatten := by simp [repS]
  rw [this] at hc
  obtain ⟨l, h1, h2⟩ := List.mem_flatten.mp hc
  rw [List.eq_of_mem_replicate h1] at h2
  exact h c h2
theorem isRun_cut {z : Str} (h : isRun z) (a b : Option Int) : isRun (cutS z a b) := by
  intro c hc
  have h2 : c ∈ (z.cps.toList.drop (HT.sIx z.length 0 a)).take (HT.sIx z.length z.length b - HT.sIx z.length 0 a) := by simpa [cutS] using hc
  exact h c (List.mem_of_mem_drop (List.mem_of_mem_take h2))
theorem isRun_rev {z : Str} (h : isRun z) : isRun (revS z) := by
  intro c hc
  have : c ∈ z.cps.toList := by simpa [revS] using hc
  exact h c this
theorem isRun_one {k : Nat} (h : 97 ≤ k ∧ k ≤ 122) : isRun ⟨#[k]⟩ := fun c hc => by
  have : c = k := by simpa using hc
  subst this; exact h
theorem ok_run {z : Str} (h : isRun z) : PyData.strOk z = true := by
  unfold PyData.strOk
  rw [Array.all_eq_true]
  intro i hi
  have := h z.cps[i] (by simp)
  exact decide_eq_true (by omega)
theorem cutTo (z : Str) (n : Nat) : (cutS z none (some (n : Int))).length ≤ n := by
  unfold cutS
  rw [HT.sIx_nat]
  show (List.toArray _).size ≤ n
  rw [List.size_toArray, List.length_take]
  omega
theorem cutToI (z : Str) {n : Int} (h : 0 ≤ n) : ((cutS z none (some n)).length : Int) ≤ n := by
  have e : n = ((n.toNat : Nat) : Int) := by omega
  rw [e]
  have := cutTo z n.toNat
  omega
def Letters (ls : List Str) : Prop := ∀ z ∈ ls, ∃ c : Nat, z = ⟨#[c]⟩ ∧ 97 ≤ c ∧ c ≤ 122
theorem Letters.run {ls : List Str} (h : Letters ls) {z : Str} (hz : z ∈ ls) : z.length = 1 ∧ isRun z := by
  obtain ⟨c, rfl, hc⟩ := h z hz
  exact ⟨rfl, isRun_one hc⟩
/-- all letters of some runs -/
def sumL (rs : List Str) : Nat := (rs.map (·.length)).sum
theorem sumL_cons (z : Str) (rs : List Str) : sumL (z :: rs) = z.length + sumL rs := by unfold sumL; rw [List.map_cons, List.sum_cons]
theorem sumL_app (a b : List Str) : sumL (a ++ b) = sumL a + sumL b := by unfold sumL; rw [List.map_append, List.sum_append]
theorem len_sumL {rs : List Str} {z : Str} (h : z ∈ rs) : z.length ≤ sumL rs := by
  induction rs with
  | nil => cases h
  | cons x xs ih =>
    rw [sumL_cons]
    rcases List.mem_cons.mp h with rfl | h
    · omega
    · have := ih h; omega
theorem sumL_le {rs : List Str} {n : Nat} (h : ∀ z ∈ rs, z.length ≤ n) : sumL rs ≤ rs.length * n := by
  induction rs with
  | nil => simp [sumL]
  | cons x xs ih =>
    rw [sumL_cons, List.length_cons, Nat.succ_mul]
    have h1 := h x List.mem_cons_self
    have h2 := ih fun z hz => h z (List.mem_cons_of_mem _ hz)
    omega
/-- runs as they are drawn: at most n of them, at most m letters in all -/
structure Runs (rs : List Str) (n m : Nat) : Prop where
  num : rs.length ≤ n
  all : sumL rs ≤ m
  run : ∀ z ∈ rs, isRun z
theorem Runs.len {rs : List Str} {n m : Nat} (h : Runs rs n m) {z : Str} (hz : z ∈ rs) : z.length ≤ m := Nat.le_trans (len_sumL hz) h.all
/-! ### == of data -/
theorem eqvAll_refl {α : Type} {en : α → PyData} : ∀ (xs : List α), (∀ x ∈ xs, PyData.eqv (en x) (en x) = true) → PyData.eqvAll (xs.map en) (xs.map en) = true
  | [], _ => rfl
  | x :: r, h => by
    show (PyData.eqv (en x) (en x) && PyData.eqvAll (r.map en) (r.map en)) = true
    rw [h x List.mem_cons_self, eqvAll_refl r fun y hy => h y (List.mem_cons_of_mem _ hy)]; rfl
/-- data that may be laid: its texts are right -/
def okD (d : PyData) : Prop := SeqAt.shaped d = true
end FR

namespace FR
open PySem PySem.Spec PyProof.Rows L2

/-! ## shaped data; the order of runs -/
theorem lay_eS {z : Str} (h : isRun z) : PyData.canLay0 (eS z) = true := by simp [PyData.canLay0, ok_run h]
theorem layAll {α : Type} {en : α → PyData} : ∀ {xs : List α}, (∀ x ∈ xs, PyData.canLay0 (en x) = true) → PyData.canLayAll0 (xs.map en) = true
  | [], _ => by simp [PyData.canLayAll0]
  | x :: xs, h => by
    have ih := layAll (en := en) (xs := xs) fun y hy => h y (List.mem_cons_of_mem _ hy)
    simp [PyData.canLayAll0, h x List.mem_cons_self, ih]
theorem lay_eV {α : Type} {en : α → PyData} {xs : List α} (h : ∀ x ∈ xs, PyData.canLay0 (en x) = true) : PyData.canLay0 (eV en xs) = true := by
  simp only [PyData.canLay0]; exact layAll h
theorem lay_eL {α : Type} {en : α → PyData} {xs : List α} (h : ∀ x ∈ xs, PyData.canLay0 (en x) = true) : PyData.canLay0 (eL en xs) = true := by
  simp only [PyData.canLay0]; exact layAll h
theorem depAll {α : Type} {en : α → PyData} {n : Nat} : ∀ {xs : List α}, (∀ x ∈ xs, PyData.depth (en x) ≤ n) → PyData.depthAll (xs.map en) ≤ n
  | [], _ => by simp [PyData.depthAll]
  | x :: xs, h => by
    have ih := depAll (en := en) (n := n) (xs := xs) fun y hy => h y (List.mem_cons_of_mem _ hy)
    have := h x List.mem_cons_self
    simp only [List.map_cons, PyData.depthAll]; omega
theorem dep_eV {α : Type} {en : α → PyData} {xs : List α} {n : Nat} (h : ∀ x ∈ xs, PyData.depth (en x) ≤ n) : PyData.depth (eV en xs) ≤ n + 1 := by
  simp only [PyData.depth]; exact Nat.succ_le_succ (depAll h)
theorem dep_eL {α : Type} {en : α → PyData} {xs : List α} {n : Nat} (h : ∀ x ∈ xs, PyData.depth (en x) ≤ n) : PyData.depth (eL en xs) ≤ n + 1 := by
  simp only [PyData.depth]; exact Nat.succ_le_succ (depAll h)
theorem dep_eS (z : Str) : PyData.depth (eS z) ≤ 0 := by simp [PyData.depth]
theorem dep_eI (z : Int) : PyData.depth (eI z) ≤ 0 := by simp [PyData.depth]
theorem dep_eB (z : Bool) : PyData.depth (eB z) ≤ 0 := by simp [PyData.depth]
theorem shaped_of {d : PyData} (h : PyData.canLay0 d = true) (h2 : PyData.depth d ≤ 64) : SeqAt.shaped d = true := by
  unfold SeqAt.shaped
  rw [h, decide_eq_true h2]; rfl
theorem shaped_runs {rs : List Str} (h : ∀ z ∈ rs, isRun z) : SeqAt.shaped (eV eS rs) = true := shaped_of (lay_eV fun z hz => lay_eS (h z hz)) (Nat.le_trans (dep_eV (n := 0) fun z _ => dep_eS z) (by decide))
theorem shaped_runsL {rs : List Str} (h : ∀ z ∈ rs, isRun z) : SeqAt.shaped (eL eS rs) = true := shaped_of (lay_eL fun z hz => lay_eS (h z hz)) (Nat.le_trans (dep_eL (n := 0) fun z _ => dep_eS z) (by decide))
theorem eqv_eS (z : Str) : PyData.eqv (eS z) (eS z) = true := by show (z == z) = true; simp
theorem eqv_eV {α : Type} {en : α → PyData} {xs : List α} (h : ∀ x ∈ xs, PyData.eqv (en x) (en x) = true) : PyData.eqv (eV en xs) (eV en xs) = true := eqvAll_refl xs h
theorem eqv_eL {α : Type} {en : α → PyData} {xs : List α} (h : ∀ x ∈ xs, PyData.eqv (en x) (en x) = true) : PyData.eqv (eL en xs) (eL en xs) = true := eqvAll_refl xs h
theorem eqD_self {d : PyData} (h : SeqAt.shaped d = true) (e : PyData.eqv d d = true) : eqD d d = some true := by
  unfold eqD; rw [if_pos ⟨h, h⟩, e]
theorem eqD_runs {rs : List Str} (h : ∀ z ∈ rs, isRun z) : eqD (eV eS rs) (eV eS rs) = some true := eqD_self (shaped_runs h) (eqv_eV fun _ _ => eqv_eS _)
theorem eqD_runsL {rs : List Str} (h : ∀ z ∈ rs, isRun z) : eqD (eL eS rs) (eL eS rs) = some true := eqD_self (shaped_runsL h) (eqv_eL fun _ _ => eqv_eS _)
theorem shaped_three {a b c : List Str} (h1 : ∀ z ∈ a, isRun z) (h2 : ∀ z ∈ b, isRun z) (h3 : ∀ z ∈ c, isRun z) : SeqAt.shaped (eP3 (eV eS) (eV eS) (eV eS) (a, b, c)) = true := by
  refine shaped_of ?_ ?_
  · simp only [PyData.canLay0, PyData.canLayAll0]
    rw [layAll fun z hz => lay_eS (h1 z hz), layAll fun z hz => lay_eS (h2 z hz), layAll fun z hz => lay_eS (h3 z hz)]; rfl
  · have d1 := depAll (en := eS) (n := 0) (xs := a) fun z _ => dep_eS z
    have d2 := depAll (en := eS) (n := 0) (xs := b) fun z _ => dep_eS z
    have d3 := depAll (en := eS) (n := 0) (xs := c) fun z _ => dep_eS z
    simp only [PyData.depth, PyData.depthAll]
    omega
theorem eqD_three {a b c : List Str} (h1 : ∀ z ∈ a, isRun z) (h2 : ∀ z ∈ b, isRun z) (h3 : ∀ z ∈ c, isRun z) : eqD (eP3 (eV eS) (eV eS) (eV eS) (a, b, c)) (eP3 (eV eS) (eV eS) (eV eS) (a, b, c)) = some true := by
  refine eqD_self (shaped_three h1 h2 h3) ?_
  show (PyData.eqv (eV eS a) (eV eS a) && (PyData.eqv (eV eS b) (eV eS b) && (PyData.eqv (eV eS c) (eV eS c) && true))) = true
  rw [eqv_eV fun _ _ => eqv_eS _, eqv_eV fun _ _ => eqv_eS _, eqv_eV fun _ _ => eqv_eS _]; rfl
/-- a run stands ahead of another -/
def ltR (a b : Str) : Prop := a.length < b.length ∨ (a.length = b.length ∧ a.cps.toList < b.cps.toList)
theorem lt_pair (a b : Int) (x y : Str) : PySem.W.dataLt (.tuple [.int a, .str x]) (.tuple [.int b, .str y]) = if a = b then decide (x.cps.toList < y.cps.toList) else decide (a < b) := by
  rw [PySem.W.dataLt_tuple]
  by_cases h : a = b
  · subst h
    rw [if_pos rfl, PySem.W.dataLt_all_yes (by simp [PySem.W.alike]) (by show (a == a) = true; simp)]
    by_cases e : x = y
    · subst e
      rw [PySem.W.dataLt_all_yes (by simp [PySem.W.alike]) (by show (x == x) = true; simp)]
      rw [decide_eq_false (List.lt_irrefl _)]
      rfl
    · rw [PySem.W.dataLt_all_no (by simp [PySem.W.alike]) (by show (x == y) = false; simp [e]), PySem.W.dataLt_str]
  · rw [if_neg h, PySem.W.dataLt_all_no (by simp [PySem.W.alike]) (by show (a == b) = false; simp [h]), PySem.W.dataLt_int]
theorem ltD_pair (a b : Int) (x y : Str) : ltD (eP2 eI eS (a, x)) (eP2 eI eS (b, y)) = some (if a = b then decide (x.cps.toList < y.cps.toList) else decide (a < b)) := by
  unfold ltD
  rw [if_pos, lt_pair]
  refine ⟨by simp [PySem.W.alike, PySem.W.alikeAll], rfl, ?_, rfl, rfl⟩
  have : PyData.depth (.tuple [eI a, eS x]) ≤ 60 := by simp [PyData.depth, PyData.depthAll]
  exact Nat.le_trans (Nat.min_le_left _ _) this
theorem ltD_ltR {x y : Str} (h : ltR x y) : ltD (eP2 eI eS ((x.length : Int), x)) (eP2 eI eS ((y.length : Int), y)) = some true := by
  rw [ltD_pair]
  rcases h with h | ⟨h, h2⟩
  · rw [if_neg (by omega), decide_eq_true (by omega)]
  · rw [if_pos (by omega), decide_eq_true h2]
theorem two_sub {α : Type} {x y : α} : ∀ {l : List α}, l.Nodup → [x, y].Sublist l → [y, x].Sublist l → False
  | [], _, h, _ => by cases h
  | z :: l, nd, h1, h2 => by
    have hz := (List.nodup_cons.mp nd).1
    have nl := (List.nodup_cons.mp nd).2
    cases h1 with
    | cons _ h1 =>
      cases h2 with
      | cons _ h2 => exact two_sub nl h1 h2
      | cons_cons _ h2 => exact hz (h1.subset (by simp))
    | cons_cons _ h1 =>
      cases h2 with
      | cons _ h2 => exact hz (h2.subset (by simp))
      | cons_cons _ h2 => exact hz (h1.subset (by simp))
theorem srt_lt {l : List Str} (nd : l.Nodup) : (srtS l).Pairwise fun a b => a.cps.toList < b.cps.toList := by
  have h1 := srtS_pair l
  have h2 : (srtS l).Nodup := (srtS_perm l).nodup_iff.mpr nd
  refine (h1.and h2).imp fun {a b} h => ?_
  have := (leS_iff a b).mp h.1
  rcases List.le_iff_lt_or_eq.mp this with h3 | h3
  · exact h3
  · exact absurd (by cases a; cases b; simp at h3; rw [h3]) h.2
theorem ordS_pair (ss : List Str) : (ordS ss).Pairwise ltR := by
  have nd : (ordS ss).Nodup := ordS_nodup ss
  have hs := srt_lt (uni_nodup ss)
  rw [List.pairwise_iff_forall_sublist]
  intro x y hxy
  have trans : ∀ a b c : Str, decide (a.length ≤ b.length) = true → decide (b.length ≤ c.length) = true → decide (a.length ≤ c.length) = true := fun a b c h1 h2 => decide_eq_true (Nat.le_trans (of_decide_eq_true h1) (of_decide_eq_true h2))
  have total : ∀ a b : Str, (decide (a.length ≤ b.length) || decide (b.length ≤ a.length)) = true := fun a b => by
    rw [Bool.or_eq_true, decide_eq_true_eq, decide_eq_true_eq]; exact Nat.le_total _ _
  have hl : x.length ≤ y.length := by
    have hp : (lenS (srtS (uniS ss))).Pairwise fun a b => decide (a.length ≤ b.length) = true := List.pairwise_mergeSort trans total _
    exact of_decide_eq_true ((List.pairwise_iff_forall_sublist.mp hp) hxy)
  rcases Nat.lt_or_eq_of_le hl with h | h
  · exact .inl h
  · refine .inr ⟨h, ?_⟩
    have mx : x ∈ srtS (uniS ss) := (lenS_perm _).mem_iff.mp (hxy.subset (by simp))
    have my : y ∈ srtS (uniS ss) := (lenS_perm _).mem_iff.mp (hxy.subset (by simp))
    have ne : x ≠ y := fun e => by
      subst e
      exact two_sub nd hxy hxy
    have ndS : (srtS (uniS ss)).Nodup := (srtS_perm _).nodup_iff.mpr (uni_nodup ss)
    -- one of the two stands ahead
    have key : [x, y].Sublist (srtS (uniS ss)) ∨ [y, x].Sublist (srtS (uniS ss)) := by
      generalize srtS (uniS ss) = l at mx my
      clear hxy hs ndS
      induction l with
      | nil => cases mx
      | cons z l ih =>
        rcases List.mem_cons.mp mx with e1 | m1
        · rcases List.mem_cons.mp my with e2 | m2
          · exact absurd (e1.trans e2.symm) ne
          · subst e1; exact .inl (List.Sublist.cons_cons _ (List.singleton_sublist.mpr m2))
        · rcases List.mem_cons.mp my with e2 | m2
          · subst e2; exact .inr (List.Sublist.cons_cons _ (List.singleton_sublist.mpr m1))
          · exact (ih m1 m2).imp (fun h => h.cons _) (fun h => h.cons _)
    rcases key with k | k
    · exact (List.pairwise_iff_forall_sublist.mp hs) k
    · have := List.pair_sublist_mergeSort trans total (a := y) (b := x) (by rw [decide_eq_true_eq]; omega) k
      exact (two_sub nd hxy this).elim
theorem pair_next {R : Str → Str → Prop} {l : List Str} (h : l.Pairwise R) {i : Nat} (hi : i + 1 < l.length) : R (l[i]'(by omega)) l[i + 1] := by
  exact List.pairwise_iff_getElem.mp h i (i + 1) (by omega) hi (by omega)
end FR

namespace FR
open PySem PySem.Spec PyProof.Rows L2

/-! ## there is an answer, and it is so -/
def Ex {α : Type} (m : Option α) (Q : α → Prop) : Prop := ∃ v, m = some v ∧ Q v
theorem Ex.get {α : Type} {m : Option α} {Q : α → Prop} (h : Ex m Q) : ∃ v, m = some v ∧ Q v := h
theorem Ex.mono {α : Type} {m : Option α} {P Q : α → Prop} (h : Ex m P) (k : ∀ v, P v → Q v) : Ex m Q := let ⟨v, a, b⟩ := h; ⟨v, a, k v b⟩
theorem ex_some {α : Type} {v : α} {Q : α → Prop} (h : Q v) : Ex (some v) Q := ⟨v, rfl, h⟩
theorem ex_bind {α β : Type} {m : Option α} {f : α → Option β} {Q : β → Prop} {P : α → Prop} (h : Ex m P) (k : ∀ x, P x → Ex (f x) Q) : Ex (Option.bind m f) Q := by
  obtain ⟨x, rfl, p⟩ := h; exact k x p
theorem ex_is {α β : Type} {m : Option α} {f : α → Option β} {Q : β → Prop} {x : α} (h : m = some x) (k : Ex (f x) Q) : Ex (Option.bind m f) Q := by
  rw [h]; exact k
theorem ex_if {α : Type} {c : Bool} {a b : Option α} {Q : α → Prop} (h1 : c = true → Ex a Q) (h2 : c = false → Ex b Q) : Ex (if c = true then a else b) Q := by
  cases c with
  | true => rw [if_pos rfl]; exact h1 rfl
  | false => rw [if_neg Bool.false_ne_true]; exact h2 rfl
theorem ex_jl {σ ρ τ : Type} {s : σ} {k : σ → Option τ} {r : ρ → Option τ} {Q : τ → Prop} (h : Ex (k s) Q) : Ex (jn (.inl s) k r) Q := h
theorem ex_jr {σ ρ τ : Type} {v : ρ} {k : σ → Option τ} {r : ρ → Option τ} {Q : τ → Prop} (h : Ex (r v) Q) : Ex (jn (.inr v) k r) Q := h
/-- behind an if whose ways meet -/
theorem ex_jn {σ ρ τ : Type} {m : Option (Sum σ ρ)} {k : σ → Option τ} {r : ρ → Option τ} {Q : τ → Prop} (P : σ → Prop) (R : ρ → Prop) (h : Ex m fun c => (∃ s, c = .inl s ∧ P s) ∨ ∃ v, c = .inr v ∧ R v) (hk : ∀ s, P s → Ex (k s) Q) (hr : ∀ v, R v → Ex (r v) Q) : Ex (Option.bind m fun c => jn c k r) Q := by
  refine ex_bind h fun c hc => ?_
  rcases hc with ⟨s, rfl, p⟩ | ⟨v, rfl, p⟩
  · exact hk s p
  · exact hr v p
/-- the same where no way ends there -/
theorem ex_jn1 {σ ρ τ : Type} {m : Option (Sum σ ρ)} {k : σ → Option τ} {r : ρ → Option τ} {Q : τ → Prop} (P : σ → Prop) (h : Ex m fun c => ∃ s, c = .inl s ∧ P s) (hk : ∀ s, P s → Ex (k s) Q) : Ex (Option.bind m fun c => jn c k r) Q := by
  refine ex_bind h fun c ⟨s, e, p⟩ => ?_
  subst e; exact hk s p
/-- a loop: P holds ahead of each turn -/
theorem ex_loop {α σ ρ τ : Type} {f : α → σ → Option (Ctl σ ρ)} {xs : List α} {s : σ} {k : σ → Option τ} {r : ρ → Option τ} {Q : τ → Prop} (P : Nat → σ → Prop) (h0 : P 0 s)
    (st : ∀ i x s, xs[i]? = some x → P i s → Ex (f x s) fun c => ∃ s', c = .nx s' ∧ P (i + 1) s') (hk : ∀ s, P xs.length s → Ex (k s) Q) : Ex (Option.bind (loopM f xs s) fun c => jn c k r) Q := by
  obtain ⟨s', a, b⟩ := loop_nx (f := f) P (xs := xs) h0 fun i hi s p => by
    obtain ⟨c, h1, s', e, p'⟩ := st i xs[i] s (List.getElem?_eq_getElem hi) p
    subst e; exact ⟨s', h1, p'⟩
  rw [a]; exact hk s' b
/-- the same with ways out -/
theorem ex_loopX {α σ ρ τ : Type} {f : α → σ → Option (Ctl σ ρ)} {xs : List α} {s : σ} {k : σ → Option τ} {r : ρ → Option τ} {Q : τ → Prop} (P : Nat → σ → Prop) (B : σ → Prop) (R : ρ → Prop) (h0 : P 0 s)
    (st : ∀ i x s, xs[i]? = some x → P i s → Ex (f x s) fun c => (∃ s', c = .nx s' ∧ P (i + 1) s') ∨ (∃ s', c = .bk s' ∧ B s') ∨ ∃ v, c = .rt v ∧ R v) (hn : ∀ s, P xs.length s → B s) (hk : ∀ s, B s → Ex (k s) Q) (hr : ∀ v, R v → Ex (r v) Q) : Ex (Option.bind (loopM f xs s) fun c => jn c k r) Q := by
  obtain ⟨c, a, b⟩ := loop_inv (f := f) P R B xs 0 s h0 (fun i hi s p => by
    rw [Nat.zero_add] at p ⊢
    exact st i xs[i] s (List.getElem?_eq_getElem hi) p) (fun s p => hn s (by rw [Nat.zero_add] at p; exact p))
  rw [a]
  rcases b with ⟨s', rfl, p⟩ | ⟨v, rfl, p⟩
  · exact hk s' p
  · exact hr v p
section
variable {β : Type} {Q : β → Prop}
theorem ex_app {α : Type} {xs : List α} {x : α} {f : List α → Option β} (h : xs.length ≤ 1000000) (k : Ex (f (xs ++ [x])) Q) : Ex (Option.bind (lApp xs x) f) Q := ex_is (lApp_ok h) k
theorem ex_lcat {α : Type} {xs ys : List α} {f : List α → Option β} (h : xs.length + ys.length ≤ 1000000) (k : Ex (f (xs ++ ys)) Q) : Ex (Option.bind (lCat xs ys) f) Q := ex_is (lCat_ok h) k
theorem ex_mod {a b : Int} {f : Int → Option β} (h : 0 < b) (k : Ex (f (a % b)) Q) : Ex (Option.bind (iMod a b) f) Q := ex_is (iMod_ok h) k
theorem ex_div {a b : Int} {f : Int → Option β} (h : 0 < b) (h2 : b < 1073741824) (k : Ex (f (a / b)) Q) : Ex (Option.bind (iDiv a b) f) Q := ex_is (iDiv_ok h h2) k
theorem ex_mul {a b : Int} {f : Int → Option β} (h : (-(2 ^ 64) < a ∧ a < 2 ^ 64) ∨ (-(2 ^ 64) < b ∧ b < 2 ^ 64)) (k : Ex (f (a * b)) Q) : Ex (Option.bind (iMul a b) f) Q := ex_is (iMul_ok h) k
theorem ex_sadd {a b : Str} {f : Str → Option β} (h : a.length + b.length ≤ 1000000) (k : Ex (f (a ++ b)) Q) : Ex (Option.bind (sAdd a b) f) Q := ex_is (sAdd_ok h) k
theorem ex_smul {a : Str} {n : Int} {f : Str → Option β} (h : -100000 ≤ n ∧ n ≤ 100000) (h2 : a.length * n.toNat ≤ 1000000) (k : Ex (f (repS a n.toNat)) Q) : Ex (Option.bind (sMul a n) f) Q := ex_is (sMul_ok h h2) k
theorem ex_slen {a : Str} {f : Int → Option β} (h : a.length ≤ 1000000) (k : Ex (f (a.length : Int)) Q) : Ex (Option.bind (sLen a) f) Q := ex_is (sLen_ok h) k
theorem ex_scut {z : Str} {l u : Option Int} {f : Str → Option β} (h : z.length ≤ 1000000) (k : Ex (f (cutS z l u)) Q) : Ex (Option.bind (sCut z l u) f) Q := ex_is (sCut_ok h) k
theorem ex_srev {z : Str} {f : Str → Option β} (h : z.length ≤ 1000000) (k : Ex (f (revS z)) Q) : Ex (Option.bind (sRev z) f) Q := ex_is (sRev_ok h) k
theorem ex_rng1 {b : Int} {f : List Int → Option β} (h : 0 ≤ b) (h2 : b ≤ 1000000) (k : Ex (f ((List.range b.toNat).map fun i : Nat => (i : Int))) Q) : Ex (Option.bind (rng1 b) f) Q := ex_is (rng1_ok h2 h) k
theorem ex_rng2 {a b : Int} {f : List Int → Option β} (h : -1000000 ≤ a ∧ a ≤ 1000000 ∧ -1000000 ≤ b ∧ b ≤ 1000000) (k : Ex (f ((List.range (b - a).toNat).map fun i : Nat => a + (i : Int))) Q) : Ex (Option.bind (rng2 a b) f) Q := ex_is (rng2_ok h) k
theorem ex_at {α : Type} {xs : List α} {i : Int} {f : α → Option β} (h : 0 ≤ i ∧ i < (xs.length : Int)) (k : ∀ x, x ∈ xs → xs[i.toNat]? = some x → Ex (f x) Q) : Ex (Option.bind (atI xs i) f) Q := by
  have h' : i.toNat < xs.length := by omega
  exact ex_is (atI_ok h h') (k _ (List.getElem_mem h') (List.getElem?_eq_getElem h'))
theorem ex_comp {α γ : Type} {g : α → Option γ} {xs : List α} {f : List γ → Option β} (P : α → γ → Prop) (h : ∀ x ∈ xs, Ex (g x) (P x)) (hz : xs.length ≤ 100000) (k : ∀ ys, ys.length = xs.length → (∀ y ∈ ys, ∃ x ∈ xs, P x y) → Ex (f ys) Q) : Ex (Option.bind (compM g xs) f) Q := by
  obtain ⟨ys, h1, h2, h3⟩ := compM_ex P h hz
  exact ex_is h1 (k ys h2 h3)
theorem ex_compF {α γ : Type} {g : α → Option γ} {xs : List α} {f : List γ → Option β} (g' : α → γ) (h : ∀ x ∈ xs, g x = some (g' x)) (hz : xs.length ≤ 100000) (k : Ex (f (xs.map g')) Q) : Ex (Option.bind (compM g xs) f) Q := ex_is (compM_map g' h hz) k
theorem ex_id {α : Type} {v : α} {f : α → Option β} (k : Ex (f v) Q) : Ex (Option.bind (some v) f) Q := k
end
theorem compE_len {α β : Type} {f : α → Option β} {xs : List α} {ys : List β} (h : compE f xs = some ys) : ys.length = xs.length := (compE_spec h).1
theorem comp2M_flat {α β γ : Type} {B : α → Option (List β)} {f : α → β → Option γ} (b : α → List β) (g : α → β → γ) {xs : List α} (h : ∀ x ∈ xs, B x = some (b x) ∧ (b x).length ≤ 100000 ∧ ∀ y ∈ b x, f x y = some (g x y)) (hx : xs.length ≤ 100000) (hz : (xs.flatMap fun x => (b x).map (g x)).length ≤ 100000) : comp2M B f xs = some (xs.flatMap fun x => (b x).map (g x)) := by
  unfold comp2M
  rw [compM_map (fun x => (b x).map (g x)) (fun x hx => by
    obtain ⟨h1, h2, h3⟩ := h x hx
    rw [h1]
    exact compM_map (g x) h3 h2) hx]
  simp only [Option.bind_some]
  rw [← List.flatMap_def, if_pos (by rw [sizeLine_eq]; omega)]
theorem ex_comp2 {α β γ δ : Type} {Q : δ → Prop} {B : α → Option (List β)} {f : α → β → Option γ} {k : List γ → Option δ} (b : α → List β) (g : α → β → γ) {xs : List α} (h : ∀ x ∈ xs, B x = some (b x) ∧ (b x).length ≤ 100000 ∧ ∀ y ∈ b x, f x y = some (g x y)) (hx : xs.length ≤ 100000) (hz : (xs.flatMap fun x => (b x).map (g x)).length ≤ 100000) (hk : Ex (k (xs.flatMap fun x => (b x).map (g x))) Q) : Ex (Option.bind (comp2M B f xs) k) Q := ex_is (comp2M_flat b g h hx hz) hk
theorem take_mem {α : Type} {xs : List α} {i : Nat} {x y : α} (h : xs[i]? = some x) : y ∈ xs.take (i + 1) ↔ y ∈ xs.take i ∨ y = x := by
  rw [List.take_add_one, h, List.mem_append]; simp
theorem flatMap_len {α β : Type} (b : α → List β) (n : α → Nat) : ∀ (xs : List α), (∀ x ∈ xs, (b x).length ≤ n x) → (xs.flatMap b).length ≤ (xs.map n).sum
  | [], _ => by simp
  | x :: xs, h => by
    have h1 := h x List.mem_cons_self
    have h2 := flatMap_len b n xs fun y hy => h y (List.mem_cons_of_mem _ hy)
    rw [List.flatMap_cons, List.length_append, List.map_cons, List.sum_cons]; omega
theorem sumL_sub {xs ys : List Str} (h : xs.Sublist ys) : sumL xs ≤ sumL ys := by
  induction h with
  | slnil => exact Nat.le_refl _
  | cons x _ ih => rw [sumL_cons]; omega
  | cons_cons x _ ih => rw [sumL_cons, sumL_cons]; omega
theorem ordS_eq {xs ys : List Str} (h : ∀ z, z ∈ xs ↔ z ∈ ys) : ordS xs = ordS ys := by
  have p : (uniS xs).Perm (uniS ys) := by
    refine (List.perm_ext_iff_of_nodup (uni_nodup xs) (uni_nodup ys)).mpr fun z => ?_
    rw [uni_mem, uni_mem]; exact h z
  unfold ordS
  have e : srtS (uniS xs) = srtS (uniS ys) := srtS_unique ((srtS_perm _).trans p) (srtS_pair _)
  rw [e]
theorem compM_idx {α β : Type} {f : α → Option β} {xs : List α} (Q : Nat → β → Prop) (h : ∀ i x, xs[i]? = some x → Ex (f x) (Q i)) (hz : xs.length ≤ 100000) : ∃ ys, compM f xs = some ys ∧ ys.length = xs.length ∧ ∀ i y, ys[i]? = some y → Q i y := by
  suffices ∃ ys, compE f xs = some ys by
    obtain ⟨ys, hy⟩ := this
    have hm : compM f xs = some ys := by unfold compM; rw [if_pos (by rw [sizeLine_eq]; omega), hy]
    obtain ⟨hl, hs⟩ := compE_spec hy
    refine ⟨ys, hm, hl, fun i y g => ?_⟩
    have hi : i < xs.length := by rw [← hl]; exact (List.getElem?_eq_some_iff.mp g).1
    obtain ⟨y', h1, h2⟩ := hs i hi
    rw [g] at h2; cases h2
    obtain ⟨y2, h3, h4⟩ := h i xs[i] (List.getElem?_eq_getElem hi)
    rw [h1] at h3; cases h3; exact h4
  clear hz
  induction xs generalizing Q with
  | nil => exact ⟨[], rfl⟩
  | cons x xs ih =>
    obtain ⟨y, h1, _⟩ := h 0 x rfl
    obtain ⟨ys, h2⟩ := ih (fun i => Q (i + 1)) fun i z g => h (i + 1) z (by simpa using g)
    exact ⟨y :: ys, by unfold compE; rw [h1, h2]; rfl⟩
theorem rng_get {n i : Nat} {g : Nat → Int} {x : Int} (h : ((List.range n).map g)[i]? = some x) : i < n ∧ x = g i := by
  have hi : i < n := by
    have := (List.getElem?_eq_some_iff.mp h).1
    simpa using this
  rw [List.getElem?_map, List.getElem?_range hi] at h
  exact ⟨hi, (Option.some.inj h).symm⟩
theorem all_true {α : Type} {xs : List α} {g : α → Bool} (h : ∀ x ∈ xs, g x = true) : (xs.map g).all id = true := by
  rw [List.all_eq_true]
  intro b hb
  obtain ⟨x, hx, rfl⟩ := List.mem_map.mp hb
  exact h x hx
end FR

namespace FR
open PySem PySem.Spec PyProof.Rows L2

/-! ## more rules for mirrors -/
def un2 {α : Type} : List α → Option (α × α)
  | [a, b] => some (a, b)
  | _ => none
def un3 {α : Type} : List α → Option (α × α × α)
  | [a, b, c] => some (a, b, c)
  | _ => none
def un4 {α : Type} : List α → Option (α × α × α × α)
  | [a, b, c, d] => some (a, b, c, d)
  | _ => none
def un5 {α : Type} : List α → Option (α × α × α × α × α)
  | [a, b, c, d, e] => some (a, b, c, d, e)
  | _ => none
theorem un2_eq {α : Type} {xs : List α} {v : α × α} (q : un2 xs = some v) : xs = [v.1, v.2] := by
  unfold un2 at q; split at q
  · cases q; rfl
  · cases q
theorem un3_eq {α : Type} {xs : List α} {v : α × α × α} (q : un3 xs = some v) : xs = [v.1, v.2.1, v.2.2] := by
  unfold un3 at q; split at q
  · cases q; rfl
  · cases q
theorem un4_eq {α : Type} {xs : List α} {v : α × α × α × α} (q : un4 xs = some v) : xs = [v.1, v.2.1, v.2.2.1, v.2.2.2] := by
  unfold un4 at q; split at q
  · cases q; rfl
  · cases q
theorem un5_eq {α : Type} {xs : List α} {v : α × α × α × α × α} (q : un5 xs = some v) : xs = [v.1, v.2.1, v.2.2.1, v.2.2.2.1, v.2.2.2.2] := by
  unfold un5 at q; split at q
  · cases q; rfl
  · cases q
def idxM {α : Type} [DecidableEq α] (xs : List α) (x : α) : Option Int := (xs.findIdx? fun y => decide (y = x)).map fun j : Nat => (j : Int)
def maxM (xs : List Int) : Option Int := xs.max?
/-- no list inside -/
def noLst : PyData → Bool
  | .list _ => false
  | .dict _ => false
  | .tuple ds => go ds
  | _ => true
where go : List PyData → Bool
  | [] => true
  | d :: ds => noLst d && go ds
theorem noLst_go {α : Type} {en : α → PyData} (h : ∀ x, noLst (en x) = true) : ∀ xs : List α, noLst.go (xs.map en) = true
  | [] => rfl
  | x :: xs => by
    show (noLst (en x) && noLst.go (xs.map en)) = true
    rw [h x, noLst_go h xs]; rfl
theorem nl_I (x : Int) : noLst (eI x) = true := rfl
theorem nl_B (x : Bool) : noLst (eB x) = true := rfl
theorem nl_S (x : Str) : noLst (eS x) = true := rfl
theorem nl_N (x : Unit) : noLst (eN x) = true := rfl
theorem nl_V {α : Type} {en : α → PyData} (h : ∀ x, noLst (en x) = true) (xs : List α) : noLst (eV en xs) = true := noLst_go h xs
theorem nl_P2 {α β : Type} {e1 : α → PyData} {e2 : β → PyData} (h1 : ∀ x, noLst (e1 x) = true) (h2 : ∀ x, noLst (e2 x) = true) (p : α × β) : noLst (eP2 e1 e2 p) = true := by
  show (noLst (e1 p.1) && (noLst (e2 p.2) && true)) = true
  rw [h1, h2]; rfl
theorem nl_P3 {α β γ : Type} {e1 : α → PyData} {e2 : β → PyData} {e3 : γ → PyData} (h1 : ∀ x, noLst (e1 x) = true) (h2 : ∀ x, noLst (e2 x) = true) (h3 : ∀ x, noLst (e3 x) = true) (p : α × β × γ) : noLst (eP3 e1 e2 e3 p) = true := by
  show (noLst (e1 p.1) && (noLst (e2 p.2.1) && (noLst (e3 p.2.2) && true))) = true
  rw [h1, h2, h3]; rfl
theorem nl_O {α : Type} {en : α → PyData} (h : ∀ x, noLst (en x) = true) : ∀ o : Option α, noLst (eO en o) = true
  | none => rfl
  | some x => h x
/-- the frame without some places -/
def cutF (F : Hp) (f : List Addr) : Hp := fun b => if b ∈ f then none else F b
theorem cutF_ne {F : Hp} {f : List Addr} {b : Addr} (h : b ∉ f) : cutF F f b = F b := by unfold cutF; rw [if_neg h]
theorem cutF_in {F : Hp} {f : List Addr} {b : Addr} (h : b ∈ f) : cutF F f b = none := by unfold cutF; rw [if_pos h]
mutual
/-- data without lists don't rest on the places of lists, dicts, instances -/
theorem dp_cut {K : KW} {F : Hp} {f : List Addr} (ha : ∀ a ∈ f, ∃ u, F a = some u ∧ (∀ xs, u ≠ .tup xs) ∧ ∀ o xs, u ≠ .frz o (.tup xs)) : ∀ {v : V} {d : PyData}, Dp K F v d → noLst d = true → Dp K (cutF F f) v d
  | _, _, .non, _ => .non
  | _, _, .bl b, _ => .bl b
  | _, _, .int i, _ => .int i
  | _, _, .str x, _ => .str x
  | _, _, .lst _ _, h => by cases h
  | _, _, .dk _ _ _, h => by cases h
  | _, _, .dt _ _ _ _, h => by cases h
  | _, _, .fn _, h => by cases h
  | _, _, .ins _ _ _, h => by cases h
  | _, _, .tup h hs, hn => .tup (by
      rcases h with (h | ⟨o, h⟩) | h
      · exact .inl (.inl (by
          rw [cutF_ne fun e => by
            obtain ⟨u, e1, n, _⟩ := ha _ e
            rw [e1] at h; cases h; exact n _ rfl]
          exact h))
      · exact .inl (.inr ⟨o, by
          rw [cutF_ne fun e => by
            obtain ⟨u, e1, _, n⟩ := ha _ e
            rw [e1] at h; cases h; exact n _ _ rfl]
          exact h⟩)
      · exact .inr h) (dpAll_cut ha hs hn)
theorem dpAll_cut {K : KW} {F : Hp} {f : List Addr} (ha : ∀ a ∈ f, ∃ u, F a = some u ∧ (∀ xs, u ≠ .tup xs) ∧ ∀ o xs, u ≠ .frz o (.tup xs)) : ∀ {us : List V} {ds : List PyData}, DpAll K F us ds → noLst.go ds = true → DpAll K (cutF F f) us ds
  | _, _, .nil, _ => .nil
  | _, _, .cons h t, hn => by
    have hn' := Bool.and_eq_true_iff.mp hn
    exact .cons (dp_cut ha h hn'.1) (dpAll_cut ha t hn'.2)
end
theorem gro_cut {F H F' H' : Hp} {f : List Addr} (hF : ∀ a ∈ f, F a = none) (g : Gro (froz F H f) H F' H') : Gro F H (cutF F' f) H' := by
  refine ⟨⟨fun b o h n => ?_, fun b ps h => ?_⟩, g.h, ⟨fun b o h n => ?_, fun b ps h => ?_⟩, fun b h1 h2 => ?_⟩
  · have hb : b ∉ f := fun e => by rw [hF b e] at h; cases h
    rw [cutF_ne hb]; exact g.f.all b o (by rw [froz_out hb]; exact h) n
  · have hb : b ∉ f := fun e => by rw [hF b e] at h; cases h
    rw [cutF_ne hb]; exact g.f.tab b ps (by rw [froz_out hb]; exact h)
  · by_cases hb : b ∈ f
    · rw [cutF_in hb] at h; cases h
    · rw [cutF_ne hb] at h; exact g.fr.all b o h n
  · by_cases hb : b ∈ f
    · rw [cutF_in hb] at h; cases h
    · rw [cutF_ne hb] at h; exact g.fr.tab b ps h
  · by_cases hb : b ∈ f
    · exact cutF_in hb
    · rw [cutF_ne hb]; exact g.sep b h1 (by rw [froz_out hb]; exact h2)
mutual
theorem Ow.atFrz {K : KW} {F G : Hp} : ∀ {v : V} {t : DV} {fp : List Addr}, Ow K F G v t fp → ∀ a ∈ fp, ∀ o u, G a ≠ some (.frz o u)
  | _, _, _, .d _, _, h => nomatch h
  | _, _, _, .l h t n, a, q => by
    rcases List.mem_cons.mp q with rfl | q
    · intro o u z; rw [h] at z; cases z
    · exact t.atFrz a q
  | _, _, _, .dk h x _ t n, a, q => by
    rcases List.mem_cons.mp q with rfl | q
    · intro o u z; rw [h] at z; cases z
    · exact t.atFrz a q
  | _, _, _, .dt h x ks t n, a, q => by
    rcases List.mem_cons.mp q with rfl | q
    · intro o u z; rw [h] at z; exact rawT_frz _ _ (Option.some.inj z)
    · exact t.atFrz a q
  | _, _, _, .i h h' x t n n', a, q => by
    rcases List.mem_cons.mp q with rfl | q
    · intro o u z; rw [h] at z; cases z
    · rcases List.mem_cons.mp q with rfl | q
      · intro o u z; rw [h'] at z; cases z
      · exact t.atFrz a q
  | _, _, _, .v h, a, q => h.atFrz a q
theorem OwAll.atFrz {K : KW} {F G : Hp} : ∀ {vs : List V} {ts : List DV} {fp : List Addr}, OwAll K F G vs ts fp → ∀ a ∈ fp, ∀ o u, G a ≠ some (.frz o u)
  | _, _, _, .nil, _, h => nomatch h
  | _, _, _, .cons h t n, a, q => by
    rcases List.mem_append.mp q with q | q
    · exact h.atFrz a q
    · exact t.atFrz a q
end
theorem AvF.plain {K : KW} {F H : Hp} {v : V} {av : AV} {fp : List Addr} (h : AvF K F H v av fp) : ∀ a ∈ fp, ∃ u, H a = some u ∧ (∀ ps, u ≠ .tbl ps) ∧ (∀ xs, u ≠ .tup xs) ∧ ∀ o w, u ≠ .frz o w := fun a q => by
  obtain ⟨u, e1, n1, n2⟩ := h.at a q
  refine ⟨u, e1, n1, n2, fun o w z => ?_⟩
  subst z
  cases av with
  | d x => rw [h.2] at q; cases q
  | p φ hφ => rw [h.2] at q; cases q
  | l xs =>
    obtain ⟨b, vs, _, e2, _, e3⟩ := h
    rw [e3] at q
    rw [List.mem_singleton.mp q, e2] at e1; cases e1
  | o t => exact Ow.atFrz h a q o w e1
/-- lending: the slot's thing as data; behind it its places are taken out of the frame again -/
theorem EnvAt.lend {K : KW} {F0 H0 F : Hp} {σ : L2.St} {H : Hp} {env : AEnv} (e : EnvAt K F0 H0 F σ H env) {i : Nat} {av : AV} (hi : env[i]? = some (some av)) (ho : av.owned = true) :
    ∃ f F1, EnvAt K F0 H0 F1 σ H (env.set i (some (.d av.data))) ∧ Sm F F1 ∧ ∀ F2 H2, Gro F1 H F2 H2 → Gro F H (cutF F2 f) H2 ∧ (∀ a, H a = none → a ∉ f) ∧ ∀ a ∈ f, ∃ u, F2 a = some u ∧ (∀ xs, u ≠ .tup xs) ∧ ∀ o xs, u ≠ .frz o (.tup xs) := by
  obtain ⟨fp, E⟩ := e
  refine ⟨fp i, _, ⟨_, E.freeze hi (E.dataOf ho)⟩, E.froz_sm i, fun F2 H2 g => ⟨gro_cut (fun a q => (E.mine i a q).2.1) g, fun a z q => (E.mine i a q).2.2 z, fun a q => ?_⟩⟩
  obtain ⟨v, hs, hv⟩ := E.slot i av hi
  obtain ⟨u, e1, n1, n2, n3⟩ := hv.plain a q
  exact ⟨u, g.f.all a u (by rw [froz_in q]; exact e1) n1, n2, fun o xs => n3 o _⟩
section
variable {X : Cx} {e e2 e3 tg iter elt : Expr} {es : List Expr} {env env' : AEnv} {d d1 d2 d3 : PyData} {A : AE} {pos p p2 p3 cpos apos : Pos} {N : List Str} {i j : Nat} {x : Str} {k : Nat}
/-- a list of one's own is read as data, for one expression -/
theorem xd_lend {xs : List PyData} (hN : X.N = N) (hnd : N.Nodup) (hat : AtN N env i x (.l xs)) (hst : SetN N env j x (some (.d (.list xs))) env') (h : XD X e env' d) (hd : noLst d = true) : XD X e env d := by
  have ij : i = j := nodup_ix hnd hat.get.2 hst.get.2
  subst ij
  have hs := hst.get.1
  subst hs
  intro F0 H0 F σ H E Q q
  obtain ⟨f, F1, E', s1, k⟩ := E.lend hat.get.1 rfl
  refine h F0 H0 _ σ H E' Q fun v F2 H2 g p => ?_
  obtain ⟨k1, _, k2⟩ := k F2 H2 g
  exact q v _ H2 k1 (dp_cut k2 p hd)
theorem xt_lend {xs : List PyData} {b : Bool} (hN : X.N = N) (hnd : N.Nodup) (hat : AtN N env i x (.l xs)) (hst : SetN N env j x (some (.d (.list xs))) env') (h : XT X e env' b) : XT X e env b := by
  have ij : i = j := nodup_ix hnd hat.get.2 hst.get.2
  subst ij
  have hs := hst.get.1
  subst hs
  intro F0 H0 F σ H E Q q
  obtain ⟨f, F1, E', s1, k⟩ := E.lend hat.get.1 rfl
  exact h F0 H0 _ σ H E' Q fun F2 H2 g => q _ H2 (k F2 H2 g).1
/-- a name that may be None, where it is not -/
theorem xd_unO {α : Type} {en : α → PyData} {o : Option α} {v : α} (h : XD X e env (eO en o)) (q : o = some v) : XD X e env (en v) := by subst q; exact h
theorem xd_un2 {α : Type} {en : α → PyData} {xs : List α} {v : α × α} (h : XD X e env (.tuple (xs.map en))) (q : un2 xs = some v) : XD X e env (eP2 en en v) := by rw [un2_eq q] at h; exact h
theorem xd_un3 {α : Type} {en : α → PyData} {xs : List α} {v : α × α × α} (h : XD X e env (.tuple (xs.map en))) (q : un3 xs = some v) : XD X e env (eP3 en en en v) := by rw [un3_eq q] at h; exact h
theorem xd_un4 {α : Type} {en : α → PyData} {xs : List α} {v : α × α × α × α} (h : XD X e env (.tuple (xs.map en))) (q : un4 xs = some v) : XD X e env (eP4 en en en en v) := by rw [un4_eq q] at h; exact h
theorem xd_un5 {α : Type} {en : α → PyData} {xs : List α} {v : α × α × α × α × α} (h : XD X e env (.tuple (xs.map en))) (q : un5 xs = some v) : XD X e env (eP5 en en en en en v) := by rw [un5_eq q] at h; exact h
/-! ### truth -/
theorem xt_truL {α : Type} {en : α → PyData} {xs : List α} (h : XD X e env (.list (xs.map en))) (he : ∀ whole, isTrue e X.env whole = (do let v ← whole; standAt e.pos; holding [v] (truthy v)) := by intro _; rfl) : XT X e env (!xs.isEmpty) := by
  have := g_tru h .l he
  rw [List.isEmpty_map] at this; exact this
theorem xt_truV {α : Type} {en : α → PyData} {xs : List α} (h : XD X e env (.tuple (xs.map en))) (he : ∀ whole, isTrue e X.env whole = (do let v ← whole; standAt e.pos; holding [v] (truthy v)) := by intro _; rfl) : XT X e env (!xs.isEmpty) := by
  have := g_tru h .t he
  rw [List.isEmpty_map] at this; exact this
theorem xt_truI {i : Int} (h : XD X e env (.int i)) (he : ∀ whole, isTrue e X.env whole = (do let v ← whole; standAt e.pos; holding [v] (truthy v)) := by intro _; rfl) : XT X e env (i != 0) := g_tru h .int he
theorem xt_truS {z : Str} {v : Int} (h : XD X e env (.str z)) (q : sLen z = some v) (he : ∀ whole, isTrue e X.env whole = (do let v ← whole; standAt e.pos; holding [v] (truthy v)) := by intro _; rfl) : XT X e env (v != 0) := by
  unfold sLen at q
  split at q
  · rename_i hb; cases q; exact g_tru h (.str hb) he
  · cases q
theorem xt_truO {α : Type} {en : α → PyData} {xs : List α} {pn : Pos} (hN : X.N = N) (hat : AtN N env i x (.l (xs.map en))) (hs : Vis X.env.scope x := by first | exact Or.inl rfl | exact Or.inr (Or.inl rfl) | exact Or.inr (Or.inr rfl))
    (hd : (x == ("__debug__" : Str)) = false := by decide) (hc : (x == ("__classdict__" : Str)) = false := by decide) (he : ∀ whole, isTrue (.Name x p) X.env whole = (do let v ← whole; standAt (Expr.Name x p).pos; holding [v] (truthy v)) := by intro _; rfl) : XT X (.Name x p) env (!xs.isEmpty) := by
  have := n_truO (p := p) hN hat hs hd hc he
  rw [List.isEmpty_map] at this; exact this
/-! ### chains -/
theorem chainD {op op' : CmpOp} {a b : Bool} (hr : Room k X.A) (h1 : XD X e env d1) (h2 : XD X e2 env d2) (h3 : XD X e3 env d3) (h : CmpQ op d1 d2 a) (h' : CmpQ op' d2 d3 b) (hm : lastMarks [op, op'] [e2, e3] = false := by with_unfolding_all rfl) : XD X (.Compare e [op, op'] [e2, e3] pos) env (.bool (a && b)) := by
  obtain ⟨r, ho, hd⟩ := cmpq_r hr h
  obtain ⟨r', ho', hd'⟩ := cmpq_r hr h'
  intro F0 H0 F σ H E Q q
  refine e_of (pe_chain ho ho' e_w e_w e_w hm) ?_
  refine h1 _ _ F σ H E _ fun v F1 H1 g1 p1 => ?_
  refine h2 _ _ F1 σ H1 (E.grow g1) _ fun w F2 H2 g2 p2 => ?_
  refine hd F2 H2 v w g2.fr (dp_mono g2.f p1) p2 _ fun u F3 H3 g3 p3 => ⟨a, dB p3, ?_⟩
  have gA := (g1.trans g2).trans g3
  cases a with
  | true =>
    refine iteT (h3 _ _ F3 σ H3 (E.grow gA) _ fun y F4 H4 g4 p4 => ?_)
    exact hd' F4 H4 w y g4.fr (dp_mono (g3.f.trans g4.f) p2) p4 _ fun z F5 H5 g5 p5 => q z F5 H5 ((gA.trans g4).trans g5) p5
  | false => exact iteF (q _ F3 H3 gA (.bl _))
theorem chainT {op op' : CmpOp} {a b : Bool} (hr : Room k X.A) (h1 : XD X e env d1) (h2 : XD X e2 env d2) (h3 : XD X e3 env d3) (h : CmpQ op d1 d2 a) (h' : CmpQ op' d2 d3 b) (hm : lastMarks [op, op'] [e2, e3] = false := by with_unfolding_all rfl) : XT X (.Compare e [op, op'] [e2, e3] pos) env (a && b) := by
  obtain ⟨r, ho, hd⟩ := cmpq_r hr h
  obtain ⟨r', ho', hd'⟩ := cmpq_r hr h'
  intro F0 H0 F σ H E Q q
  refine t_of (pt_chain ho ho' e_w e_w e_w hm) ?_
  refine h1 _ _ F σ H E _ fun v F1 H1 g1 p1 => ?_
  refine h2 _ _ F1 σ H1 (E.grow g1) _ fun w F2 H2 g2 p2 => ?_
  refine hd F2 H2 v w g2.fr (dp_mono g2.f p1) p2 _ fun u F3 H3 g3 p3 => ⟨a, dB p3, ?_⟩
  have gA := (g1.trans g2).trans g3
  cases a with
  | true =>
    refine iteT (h3 _ _ F3 σ H3 (E.grow gA) _ fun y F4 H4 g4 p4 => ?_)
    exact hd' F4 H4 w y g4.fr (dp_mono (g3.f.trans g4.f) p2) p4 _ fun z F5 H5 g5 p5 => ⟨b, dB p5, q F5 H5 ((gA.trans g4).trans g5)⟩
  | false => exact iteF ⟨false, rfl, q F3 H3 gA⟩
/-! ### is None, is True -/
theorem nonD_eO {α : Type} {en : α → PyData} (h : ∀ x, isNonD (en x) = false) : ∀ o : Option α, isNonD (eO en o) = o.isNone
  | none => rfl
  | some x => h x
theorem cq_isN {α : Type} {en : α → PyData} {o : Option α} (h : ∀ x, isNonD (en x) = false) : CmpQ .Is (eO en o) .none o.isNone := by rw [← nonD_eO h]; exact .of .isN
theorem cq_notN {α : Type} {en : α → PyData} {o : Option α} (h : ∀ x, isNonD (en x) = false) : CmpQ .IsNot (eO en o) .none (!o.isNone) := by rw [← nonD_eO h]; exact .of .notN
theorem xd_isB {a b : Bool} (h1 : XD X e env (.bool a)) (h2 : XD X e2 env (.bool b)) : XD X (.Compare e [.Is] [e2] pos) env (.bool (decide (a = b))) :=
  x2 (pe_cmpR op_isBl e_w e_w (nomark _)) h1 h2 fun F H v w fr p1 p2 Q q => ⟨a, b, dB p1, dB p2, q _ F H (Gro.refl fr) (.bl _)⟩
theorem xt_isB {a b : Bool} (h1 : XD X e env (.bool a)) (h2 : XD X e2 env (.bool b)) : XT X (.Compare e [.Is] [e2] pos) env (decide (a = b)) :=
  cmpT (op := .Is) (pt_cmpR op_isBl e_w e_w (nomark _)) h1 h2 fun F H v w fr p1 p2 Q q => ⟨a, b, dB p1, dB p2, q _ F H (Gro.refl fr) (.bl _)⟩
theorem xt_notB {a b : Bool} (h1 : XD X e env (.bool a)) (h2 : XD X e2 env (.bool b)) : XT X (.Compare e [.IsNot] [e2] pos) env (!decide (a = b)) :=
  cmpT (op := .Is) (pt_cmpR op_notBl e_w e_w (nomark _)) h1 h2 fun F H v w fr p1 p2 Q q => ⟨a, b, dB p1, dB p2, q _ F H (Gro.refl fr) (.bl _)⟩
/-! ### max of a list, index in a list of texts -/
theorem xm_maxL {xs : List Int} {v : Int} (h : XD X e env (.list (xs.map .int))) (q0 : maxM xs = some v) (hm : X.mg "max" = none) (hg : Gl X "max" := by rfl) (hc : X.calm = true := by rfl) (hs : starEach [e] X.env = (false, eval e X.env) :: starEach [] X.env := by rfl) (hpl : (backTo pos (starEach [] X.env)).any (·.1) = false := by rfl) :
    XD X (.Call (.Name "max" p) [e] [] pos) env (.int v) := xcb (pe_callB (cr_max hc) hg hm (by decide +kernel) a_w (by decide) (by decide) hs hpl) (xa1 h hs) fun F H vs fr p Q q => by
  obtain ⟨w, rfl, hv⟩ := d1' p
  obtain ⟨a, us, rfl, h1, h2⟩ := dL hv
  have e1 := dpAll_ints h2
  subst e1
  have hne : 0 < xs.length := by
    cases xs with
    | nil => cases q0
    | cons y ys => simp
  refine ⟨a, xs, rfl, fr.seq h1, hne, fun m hm1 hm2 => ?_⟩
  have e2 : v = m := by
    have hv := List.max?_eq_some_iff.mp (show xs.max? = some v from q0)
    exact Int.le_antisymm (hm2 v hv.1) (hv.2 m hm1)
  subst e2
  exact q _ F H (Gro.refl fr) (.int _)
theorem idx_spec {α : Type} [DecidableEq α] {xs : List α} {x : α} {v : Int} (q : idxM xs x = some v) : ∃ j : Nat, v = (j : Int) ∧ xs[j]? = some x ∧ ∀ m z, m < j → xs[m]? = some z → z ≠ x := by
  unfold idxM at q
  cases h : xs.findIdx? fun y => decide (y = x) with
  | none => rw [h] at q; cases q
  | some j =>
    rw [h] at q
    cases q
    obtain ⟨h1, h2, h3⟩ := List.findIdx?_eq_some_iff_getElem.mp h
    refine ⟨j, rfl, by rw [List.getElem?_eq_getElem h1, of_decide_eq_true h2], fun m z hm hz e => ?_⟩
    have := h3 m hm
    rw [(List.getElem?_eq_some_iff.mp hz).2, e] at this
    simp at this
theorem xm_idxS {xs : List Str} {z : Str} {v : Int} (h : XD X e env (.list (xs.map .str))) (h2 : XD X e2 env (.str z)) (q0 : idxM xs z = some v) (hs : starEach [e2] X.env = (false, eval e2 X.env) :: starEach [] X.env)
    (hbase : attributeBase e "index" X.env (eval e X.env) = eval e X.env := by rfl)
    (hfew : ((backTo cpos (starEach [e2] X.env)).all (fun x => !x.1) && (backToKw cpos (keywordEach [] X.env)).all (fun x => x.1.isSome)
      && decide ([e2].length + ([] : List Keyword).length + (if ([] : List Keyword).isEmpty then 0 else 1) < 30)) = true := by rfl)
    (hline : (apos.endLine == cpos.line) = true := by rfl) (hplain : (backTo cpos (starEach [] X.env)).any (·.1) = false := by rfl) :
    XD X (.Call (.Attribute e "index" apos) [e2] [] cpos) env (.int v) := by
  intro F0 H0 F σ H E Q q
  refine e_of (pe_bm PySem.F.plainAttrs_list PySem.F.slot_list_index PySem.F.type_list_index mt_index e_w (pa_cons e_w pa_nil hs) hbase hfew hline hs hplain) ?_
  refine h _ _ F σ H E _ fun w F1 H1 g1 p1 => ?_
  obtain ⟨a, vs, rfl, z1, z2⟩ := dL p1
  have e1 := dpAll_strs z2
  subst e1
  refine ⟨?_, h2 _ _ F1 σ H1 (E.grow g1) _ fun u F2 H2 g2 p2 => ?_⟩
  · exact .inl ⟨rfl, _, g1.fr.seq z1⟩
  · obtain ⟨j, rfl, hj, hno⟩ := idx_spec q0
    rw [dS p2]
    refine ⟨a, xs.map V.str, .str z, j, .str z, rfl, rfl, (g2.f.trans g2.fr).seq z1, rfl, ?_, by rw [List.getElem?_map, hj]; rfl, by show (z == z) = true; simp, fun m z' hm hz => ?_, q _ F2 H2 (g1.trans g2) (.int _)⟩
    · rw [List.all_eq_true]; intro y hy; obtain ⟨t, _, rfl⟩ := List.mem_map.mp hy; rfl
    · rw [List.getElem?_map] at hz
      cases hx : xs[m]? with
      | none => rw [hx] at hz; cases hz
      | some t =>
        rw [hx] at hz; cases hz
        have := hno m t hm hx
        show (t == z) = false
        simp [this]
/-! ### a, b = x, y -/
theorem nm_par2 {y : Str} {a b : Expr} {env1 env2 : AEnv} {px py pt : Pos} {kt k2 : Nat} {pt2 : Pos} (hN : X.N = N) (hnd : N.Nodup) (h1 : SetN N env i x (some (.d d1)) env1) (h2 : SetN N env1 j y (some (.d d2)) env2) (ha : XA X [a, b] env [d1, d2]) (hn : A.nx env2) (hij : i ≠ j := by decide)
    (hx : X.env.scope.names.lookup x = some .local := by rfl) (hy : X.env.scope.names.lookup y = some .local := by rfl) (hc : X.calm = true := by rfl)
    (hw : swappedStores [.Tuple [.Name x px, .Name y py] kt pt] (.Tuple [a, b] k2 pt2) X.env = pure (some [x, y]) := by rfl)
    (hs : swapsWithSole [.Tuple [.Name x px, .Name y py] kt pt] (.Tuple [a, b] k2 pt2) pos.line X.env = pure false := by rfl) :
    XS X (.Assign [.Tuple [.Name x px, .Name y py] kt pt] (.Tuple [a, b] k2 pt2) pos) env A := by
  subst hN
  intro F0 H0 F σ H D E l
  refine s_of (ps_par hc hnd h1.get.2 h2.get.2 hij hx hy a_w hw hs) (ha _ _ F σ H E _ fun vs F1 H1 g1 p1 => ?_)
  obtain ⟨v, w, rfl, pv, pw⟩ := d2' p1
  refine ⟨v, w, rfl, l.nx _ F1 _ H1 (((E.grow g1).set (i := i) (av := .d d1) pv rfl).set (i := j) (av := .d d2) pw rfl) ?_⟩
  rw [h1.get.1, h2.get.1]; exact hn
theorem nm_par3 {y z : Str} {l : Nat} {a b c : Expr} {env1 env2 env3 : AEnv} {px py pz pt : Pos} {kt k2 : Nat} {pt2 : Pos} (hN : X.N = N) (hnd : N.Nodup) (h1 : SetN N env i x (some (.d d1)) env1) (h2 : SetN N env1 j y (some (.d d2)) env2) (h3 : SetN N env2 l z (some (.d d3)) env3) (ha : XA X [a, b, c] env [d1, d2, d3]) (hn : A.nx env3) (hij : i ≠ j := by decide) (hil : i ≠ l := by decide) (hjl : j ≠ l := by decide)
    (hx : X.env.scope.names.lookup x = some .local := by rfl) (hy : X.env.scope.names.lookup y = some .local := by rfl) (hz : X.env.scope.names.lookup z = some .local := by rfl) (hc : X.calm = true := by rfl)
    (hw : swappedStores [.Tuple [.Name x px, .Name y py, .Name z pz] kt pt] (.Tuple [a, b, c] k2 pt2) X.env = pure (some [x, y, z]) := by rfl)
    (hs : swapsWithSole [.Tuple [.Name x px, .Name y py, .Name z pz] kt pt] (.Tuple [a, b, c] k2 pt2) pos.line X.env = pure false := by rfl) :
    XS X (.Assign [.Tuple [.Name x px, .Name y py, .Name z pz] kt pt] (.Tuple [a, b, c] k2 pt2) pos) env A := by
  subst hN
  intro F0 H0 F σ H D E lk
  refine s_of (ps_par3 hc hnd h1.get.2 h2.get.2 h3.get.2 hij hil hjl hx hy hz a_w hw hs) (ha _ _ F σ H E _ fun vs F1 H1 g1 p1 => ?_)
  cases p1 with
  | cons pv p1 =>
    obtain ⟨w, t, rfl, pw, pt⟩ := d2' p1
    refine ⟨_, w, t, rfl, lk.nx _ F1 _ H1 ((((E.grow g1).set (i := i) (av := .d d1) pv rfl).set (i := j) (av := .d d2) pw rfl).set (i := l) (av := .d d3) pt rfl) ?_⟩
    rw [h1.get.1, h2.get.1, h3.get.1]; exact hn
/-! ### (*t, x); a, b, c = a list -/
theorem xa_starV {α : Type} {en : α → PyData} {xs : List α} {ds : List PyData} (h : XD X e env (.tuple (xs.map en))) (hr : XA X es env ds) (hs : starEach (.Starred e p :: es) X.env = (true, eval e X.env) :: starEach es X.env := by rfl) : XA X (.Starred e p :: es) env (xs.map en ++ ds) := fun F0 H0 F σ H E Q q => by
  refine a_of (StX.pa_star e_w a_w hs) (h _ _ F σ H E _ fun v F1 H1 g1 p1 => ?_)
  obtain ⟨a, vs, rfl, z1, z2⟩ := dT p1
  refine ⟨a, vs, rfl, .inl (seqT_mono g1.fr z1), hr _ _ F1 σ H1 (E.grow g1) _ fun us F2 H2 g2 p2 => ?_⟩
  exact q _ F2 H2 (g1.trans g2) (dpAll_append (dpAll_mono g2.f z2) p2)
theorem xa_starL {α : Type} {en : α → PyData} {xs : List α} {ds : List PyData} (h : XD X e env (.list (xs.map en))) (hr : XA X es env ds) (hs : starEach (.Starred e p :: es) X.env = (true, eval e X.env) :: starEach es X.env := by rfl) : XA X (.Starred e p :: es) env (xs.map en ++ ds) := fun F0 H0 F σ H E Q q => by
  refine a_of (StX.pa_star e_w a_w hs) (h _ _ F σ H E _ fun v F1 H1 g1 p1 => ?_)
  obtain ⟨a, vs, rfl, z1, z2⟩ := dL p1
  refine ⟨a, vs, rfl, .inr (g1.fr.seq z1), hr _ _ F1 σ H1 (E.grow g1) _ fun us F2 H2 g2 p2 => ?_⟩
  exact q _ F2 H2 (g1.trans g2) (dpAll_append (dpAll_mono g2.f z2) p2)
theorem xm_star {α : Type} {en : α → PyData} {xs ys v : List α} {kk : Nat} (h : XA X es env (xs.map en ++ ys.map en)) (q : lCat xs ys = some v) : XD X (.Tuple es kk pos) env (.tuple (v.map en)) := by
  unfold lCat at q
  split at q
  · rename_i hb; cases q
    rw [List.map_append]
    exact xd_tup h (by rw [List.length_append, List.length_map, List.length_map]; exact hb)
  · cases q
theorem xg_lst {js : List Nat} {env2 : AEnv} {ds : List PyData} {kk : Nat} (hc : X.calm = true) (h : XGs X es js env ds env2) (hn : (assignEach es X.env).length = ds.length := by rfl) (hst : (assignEach es X.env).findIdx? (·.1) = none := by rfl) :
    XG X (.Tuple es kk p) js env (.list ds) env2 := fun F0 H0 F σ H v E hd Q q => by
  obtain ⟨ts, hp, ht⟩ := h
  obtain ⟨a, vs, rfl, h1, h2⟩ := dL hd
  exact g_of (pg_lst hc hp hn hst) ⟨a, vs, rfl, E.fr.seq h1, dpAll_len h2, ht F0 H0 F σ H vs E h2 Q q⟩
abbrev eQ2 {α : Type} (en : α → PyData) (p : α × α) : PyData := .list [en p.1, en p.2]
abbrev eQ3 {α : Type} (en : α → PyData) (p : α × α × α) : PyData := .list [en p.1, en p.2.1, en p.2.2]
theorem xd_ul2 {α : Type} {en : α → PyData} {xs : List α} {v : α × α} (h : XD X e env (.list (xs.map en))) (q : un2 xs = some v) : XD X e env (eQ2 en v) := by rw [un2_eq q] at h; exact h
theorem xd_ul3 {α : Type} {en : α → PyData} {xs : List α} {v : α × α × α} (h : XD X e env (.list (xs.map en))) (q : un3 xs = some v) : XD X e env (eQ3 en v) := by rw [un3_eq q] at h; exact h
end
end FR

namespace FR
open PySem PySem.Spec PyProof.Rows L2
section
variable {X : Cx} {e e2 e3 tg : Expr} {es : List Expr} {st : Stmt} {ss : List Stmt} {env env' : AEnv} {d d1 d2 : PyData} {A : AE} {pos p p2 : Pos} {N : List Str} {i j : Nat} {x : Str}
theorem xl_listL {ds : List PyData} (h : XD X e env (.list ds)) (hm : X.mg "list" = none) (hg : Gl X "list" := by rfl) (hs : starEach [e] X.env = (false, eval e X.env) :: starEach [] X.env := by rfl) (hpl : (backTo pos (starEach [] X.env)).any (·.1) = false := by rfl) :
    XL X (.Call (.Name "list" p) [e] [] pos) env ds := fun F0 H0 F σ H E Q q => by
  refine e_of (pe_callTy call_list_of hg hm (by decide +kernel) a_w (by decide) (by decide) hs hpl) (xa1 h hs _ _ F σ H E _ fun vs F1 H1 g1 p1 => ?_)
  obtain ⟨v, rfl, hv⟩ := d1' p1
  obtain ⟨a, us, rfl, h1, h2⟩ := dL hv
  refine ⟨a, us, rfl, .inl (g1.fr.seq h1), fun l hl => ?_⟩
  exact q l us F1 _ (g1.trans (Gro.own g1.fr hl)) (g1.h.free hl) (g1.fr.free hl) upd_same h2
theorem xl_listT {ds : List PyData} (h : XD X e env (.tuple ds)) (hm : X.mg "list" = none) (hg : Gl X "list" := by rfl) (hs : starEach [e] X.env = (false, eval e X.env) :: starEach [] X.env := by rfl) (hpl : (backTo pos (starEach [] X.env)).any (·.1) = false := by rfl) :
    XL X (.Call (.Name "list" p) [e] [] pos) env ds := fun F0 H0 F σ H E Q q => by
  refine e_of (pe_callTy call_list_of hg hm (by decide +kernel) a_w (by decide) (by decide) hs hpl) (xa1 h hs _ _ F σ H E _ fun vs F1 H1 g1 p1 => ?_)
  obtain ⟨v, rfl, hv⟩ := d1' p1
  obtain ⟨a, us, rfl, h1, h2⟩ := dT hv
  refine ⟨a, us, rfl, .inr (seqT_mono g1.fr h1), fun l hl => ?_⟩
  exact q l us F1 _ (g1.trans (Gro.own g1.fr hl)) (g1.h.free hl) (g1.fr.free hl) upd_same h2
/-- xs[i] = e, xs one's own -/
theorem xs_setix {xs : List PyData} {n : Int} {m : Nat} {ie : Expr} {sp : Pos} (hv : env[i]? = some (some (.l xs))) (he : XD X e env d) (hie : XD X ie env (.int n)) (hj : L2.ixN xs.length n = some m) (hn : A.nx (env.set i (some (.l (xs.set m d))))) (hN : X.N[i]? = some x := by rfl) (hs : Vis X.env.scope x := by first | exact Or.inl rfl | exact Or.inr (Or.inl rfl) | exact Or.inr (Or.inr rfl))
    (hd : (x == ("__debug__" : Str)) = false := by decide) (hc : (x == ("__classdict__" : Str)) = false := by decide)
    (ha : ∀ v, assign (.Subscript (.Name x p) ie sp) X.env v = (do
      let ov ← holding [v] (eval (.Name x p) X.env)
      let iv ← holding [v, ov] (eval ie X.env)
      standAt sp
      holding [v, ov, iv] (setItem ov iv v)
      release [v, ov, iv] []) := by intro _; rfl)
    (hsw : swapsWithSole [.Subscript (.Name x p) ie sp] e pos.line X.env = pure false := by rfl) (hw : swappedStores [.Subscript (.Name x p) ie sp] e X.env = pure none := by rfl)
    (h1 : (assignEach [.Subscript (.Name x p) ie sp] X.env).map (·.2) = [assign (.Subscript (.Name x p) ie sp) X.env] := by rfl) :
    XS X (.Assign [.Subscript (.Name x p) ie sp] e pos) env A := fun F0 H0 F σ H D E l => by
  obtain ⟨v, s1, a, vs, ea, k1, k2⟩ := E.slot i _ hv
  cases ea
  refine s_of (ps_asg e_w (pg_sub (pe_var hN hs hd hc) e_w set_list ha) hsw hw h1) ?_
  refine he _ _ F σ H E _ fun w F1 H1 g1 p1 => ?_
  refine ⟨_, s1, ?_⟩
  refine hie _ _ F1 σ H1 (E.grow g1) _ fun u F2 H2 g2 p2 => ?_
  have hu := dI p2
  refine ⟨a, vs, n, m, rfl, hu, g2.h.get (g1.h.get k1), by rw [dpAll_len k2]; exact hj, ?_⟩
  exact l.nx _ F2 σ _ ((E.grow (g1.trans g2)).changeL hv s1 (dpAll_set (dp_mono g2.f p1) (dpAll_mono (g1.trans g2).f k2))) hn
def lSet {α : Type} (xs : List α) (n : Int) (y : α) : Option (List α) := (L2.ixN xs.length n).map fun m => xs.set m y
theorem nm_setix {α : Type} {en : α → PyData} {xs v : List α} {y : α} {n : Int} {ie : Expr} {sp : Pos} (hN : X.N = N) (hat : AtN N env i x (.l (xs.map en))) (h : XD X e env (en y)) (hie : XD X ie env (.int n)) (q : lSet xs n y = some v) (hst : SetN N env j x (some (.l (v.map en))) env') (hnd : N.Nodup) (hn : A.nx env') (hs : Vis X.env.scope x := by first | exact Or.inl rfl | exact Or.inr (Or.inl rfl) | exact Or.inr (Or.inr rfl))
    (hd : (x == ("__debug__" : Str)) = false := by decide) (hc : (x == ("__classdict__" : Str)) = false := by decide)
    (ha : ∀ v, assign (.Subscript (.Name x p) ie sp) X.env v = (do
      let ov ← holding [v] (eval (.Name x p) X.env)
      let iv ← holding [v, ov] (eval ie X.env)
      standAt sp
      holding [v, ov, iv] (setItem ov iv v)
      release [v, ov, iv] []) := by intro _; rfl)
    (hsw : swapsWithSole [.Subscript (.Name x p) ie sp] e pos.line X.env = pure false := by rfl) (hw : swappedStores [.Subscript (.Name x p) ie sp] e X.env = pure none := by rfl)
    (h1 : (assignEach [.Subscript (.Name x p) ie sp] X.env).map (·.2) = [assign (.Subscript (.Name x p) ie sp) X.env] := by rfl) :
    XS X (.Assign [.Subscript (.Name x p) ie sp] e pos) env A := by
  subst hN
  have e0 : i = j := nodup_ix hnd hat.get.2 hst.get.2
  subst e0
  unfold lSet at q
  cases hm : L2.ixN xs.length n with
  | none => rw [hm] at q; cases q
  | some m =>
    rw [hm] at q; cases q
    refine xs_setix hat.get.1 h hie (m := m) (by rw [List.length_map]; exact hm) ?_ hat.get.2 hs hd hc ha hsw hw h1
    have := hst.get.1
    rw [List.map_set] at this
    rw [this]; exact hn
end
theorem tuple_mulE (l : Addr) (items : Array Value) (n : Nat) (x : Int) (sl : Array (Option Value)) (dd : Option Addr) (u : Tok) (c0 : (decide (x < -(2 ^ 63)) || decide (x ≥ 2 ^ 63)) = false) (c1 : items.isEmpty = true) :
    Meets (Builtin.«tuple.__mul__» ⟨[.ref l, .int x u], []⟩) (fun _ R s => s.heap.get? l = some { cls := .type "tuple", dict := dd, data := .seq items n, slots := sl } ∧
      R (.ok (.ret (Value.ref l))) s) :=
  .of_wp fun prog w A R s h => by
    obtain ⟨hp, g, d, tk, os⟩ := s
    obtain ⟨hl, h⟩ := h
    have f1 := AutoSeq1.idx_int
    wp_walk using wpAny_loadPart' hl
    repeat (first
      | (refine wpAny_ite_false (decide_eq_false (by rw [c0]; exact Bool.false_ne_true)) ?_; wp_walk using wpAny_loadPart' hl)
      | (refine wpAny_ite_true (decide_eq_true (by rw [c1]; rfl)) ?_; wp_walk using wpAny_loadPart' hl))
    exact ⟨_, rfl, h⟩
def rRepA (K : PySem.W.Frag) : R2 := fun x y H Q => ∃ l k xs, x = .ref l ∧ y = .int k ∧ SqT K H l xs ∧ 2 ≤ k ∧ k ≤ 1000 ∧ xs.length ≤ 1000 ∧ (xs = [] → Q (.ref l) H) ∧ ∀ p, H p = none → Q (.ref p) (upd H p (.tup (List.replicate k.toNat xs).flatten))
section
variable {X : Cx} {e e2 : Expr} {env : AEnv} {pos : Pos}
theorem op_repA : OpR X (binaryOp .Mult) (rRepA X.K) := by
  intro pins s σ H x y v u Q I rx ry h
  obtain ⟨l, k, xs, rfl, rfl, hT, h1, h2, hz, q0, q⟩ := h
  by_cases hne : xs = []
  · subst hne
    cases rx
    obtain ⟨t, rfl⟩ := ry
    obtain ⟨its, r, ⟨⟨cls, dd, data, sl⟩, ho, hc, n, hd⟩, hs⟩ := I.tuple hT
    simp only at hc hd
    subst hc hd
    have hle : its.length = 0 := by have := r.length; simpa using this.symm
    have hn : its = [] := List.eq_nil_of_length_eq_zero hle
    subst hn
    have c0 : (decide (k < -(2 ^ 63)) || decide (k ≥ 2 ^ 63)) = false := by
      rw [decide_eq_false (by omega), decide_eq_false (by omega)] <;> rfl
    refine wpAny_binaryOp_repeat_ref (T := "tuple") (U := "int") (by decide) ⟨_, ho, rfl⟩ (fun s' => typeIs_int s' k t) noFill_tuple_mul F.fills_int_mul F.slot_int_rmul repeat_tuple F.slot_int_index.lookup
      (call_meets F.slot_int_rmul (typeIs_int s k t) F.entry_int_rmul (F.args_int_rmul_2 _ _) (int_rmul_tuple k t l _ n dd sl)
        ⟨ho, rfl, ⟨_, ho, rfl⟩, call_meets F.slot_tuple_mul ⟨_, ho, rfl⟩ F.entry_tuple_mul (F.args_tuple_mul_2 _ _) (tuple_mulE l _ n k sl dd t c0 rfl) ⟨ho, ?_⟩⟩)
    exact ⟨.ref l, H, I, rfl, q0 rfl⟩
  · exact op_repT pins s σ H _ _ v u Q I rx ry ⟨l, k, xs, rfl, rfl, hT, hne, h1, h2, hz, q⟩
def vRep {α : Type} (xs : List α) (k : Int) : Option (List α) := if 2 ≤ k ∧ k ≤ 1000 ∧ xs.length ≤ 1000 then some (List.replicate k.toNat xs).flatten else none
theorem dpAll_rep {K : KW} {F : Hp} {vs : List V} {ds : List PyData} (h : DpAll K F vs ds) : ∀ n, DpAll K F (List.replicate n vs).flatten (List.replicate n ds).flatten
  | 0 => .nil
  | n + 1 => by
    rw [List.replicate_succ, List.replicate_succ, List.flatten_cons, List.flatten_cons]
    exact dpAll_append h (dpAll_rep h n)
/-- t * k -/
theorem xm_vrep {α : Type} {en : α → PyData} {xs v : List α} {k : Int} (h1 : XD X e env (.tuple (xs.map en))) (h2 : XD X e2 env (.int k)) (q0 : vRep xs k = some v) : XD X (.BinOp e .Mult e2 pos) env (.tuple (v.map en)) := by
  unfold vRep at q0
  split at q0
  case isFalse => cases q0
  case isTrue hb =>
  cases q0
  have e0 : ((List.replicate k.toNat xs).flatten).map en = (List.replicate k.toNat (xs.map en)).flatten := by
    rw [List.map_flatten, List.map_replicate]
  rw [e0]
  refine x2 (pe_op op_repA e_w e_w) h1 h2 fun F H v w fr p1 p2 Q q => ?_
  obtain ⟨a, vs, rfl, z1, z2⟩ := dT p1
  have hw := dI p2
  have hl : vs.length = xs.length := by rw [dpAll_len z2, List.length_map]
  refine ⟨a, k, vs, rfl, hw, seqT_mono fr z1, hb.1, hb.2.1, by omega, fun e => ?_, fun t ht => ?_⟩
  · have : xs = [] := by
      subst e; exact List.eq_nil_of_length_eq_zero hl.symm
    subst this
    have e1 : (List.replicate k.toNat (([] : List α).map en)).flatten = [] := by simp
    rw [e1] at q
    exact q _ F H (Gro.refl fr) p1
  · have g := Gro.new (o := .tup (List.replicate k.toNat vs).flatten) fr ht
    exact q _ _ _ g (.tup (.inl (.inl upd_same)) (dpAll_mono g.f (dpAll_rep z2 _)))
end
end FR

namespace FR
open PySem PySem.Spec PyProof.Rows L2

/-! ## places within a tree of one's own -/
theorem OwAll.split {K : KW} {F G : Hp} : ∀ {vs : List V} {ts : List DV} {fp : List Addr} {n : Nat} {t : DV}, OwAll K F G vs ts fp → ts[n]? = some t →
    ∃ v f1, vs[n]? = some v ∧ Ow K F G v t f1 ∧ (∀ a ∈ f1, a ∈ fp) ∧
      ∀ {F' G' : Hp} {t' : DV} {f' : List Addr}, Sm F F' → (∀ a ∈ fp, a ∉ f1 → G' a = G a) → Ow K F' G' v t' f' → (∀ a ∈ f', a ∈ f1 ∨ a ∉ fp) →
        ∃ fp', OwAll K F' G' vs (ts.set n t') fp' ∧ ∀ a ∈ fp', a ∈ f' ∨ (a ∈ fp ∧ a ∉ f1)
  | _, _, _, _, _, .nil, e => by simp at e
  | _, _, _, 0, _, .cons (f1 := f1) (f2 := f2) h tl dj, e => by
    simp only [List.getElem?_cons_zero, Option.some.injEq] at e
    subst e
    refine ⟨_, f1, rfl, h, fun a q => List.mem_append_left _ q, fun {F' G' t' f'} s k h' hf => ?_⟩
    refine ⟨f' ++ f2, .cons h' (tl.keep s fun a q => k a (List.mem_append_right _ q) fun z => dj a z q) fun a q z => ?_, fun a q => ?_⟩
    · rcases hf a q with y | y
      · exact dj a y z
      · exact y (List.mem_append_right _ z)
    · rcases List.mem_append.mp q with y | y
      · exact .inl y
      · exact .inr ⟨List.mem_append_right _ y, fun z => dj a z y⟩
  | _, _, _, n + 1, _, .cons (f1 := h1) (f2 := f2) h tl dj, e => by
    simp only [List.getElem?_cons_succ] at e
    obtain ⟨v, f1, e1, o1, i1, b1⟩ := OwAll.split tl e
    refine ⟨v, f1, e1, o1, fun a q => List.mem_append_right _ (i1 a q), fun {F' G' t' f'} s k h' hf => ?_⟩
    obtain ⟨fp', o2, m2⟩ := b1 s (fun a q z => k a (List.mem_append_right _ q) z) h' fun a q => (hf a q).imp (fun z => z) fun z y => z (List.mem_append_right _ y)
    refine ⟨h1 ++ fp', .cons (h.keep s fun a q => k a (List.mem_append_left _ q) fun z => dj a q (i1 a z)) o2 fun a q z => ?_, fun a q => ?_⟩
    · rcases m2 a z with y | y
      · rcases hf a y with x | x
        · exact dj a q (i1 a x)
        · exact x (List.mem_append_left _ q)
      · exact dj a q y.1
    · rcases List.mem_append.mp q with y | y
      · exact .inr ⟨List.mem_append_left _ y, fun z => dj a y (i1 a z)⟩
      · exact (m2 a y).imp (fun z => z) fun z => ⟨List.mem_append_right _ z.1, z.2⟩
/-- v, the tree t at f1, stands within the tree at w with the places fp; put: what that tree becomes -/
structure Pl (K : KW) (F G : Hp) (w : V) (fp : List Addr) (v : V) (t : DV) (f1 : List Addr) (put : DV → DV) : Prop where
  sub : Ow K F G v t f1
  inn : ∀ a ∈ f1, a ∈ fp
  back : ∀ {F' G' : Hp} {t' : DV} {f' : List Addr}, Sm F F' → (∀ a ∈ fp, a ∉ f1 → G' a = G a) → Ow K F' G' v t' f' → (∀ a ∈ f', a ∈ f1 ∨ a ∉ fp) → ∃ fp', Ow K F' G' w (put t') fp' ∧ ∀ a ∈ fp', a ∈ f' ∨ (a ∈ fp ∧ a ∉ f1)
section
variable {K : KW} {F G F' G' : Hp} {w v : V} {fp f1 : List Addr} {t : DV} {put : DV → DV}
theorem Pl.root (h : Ow K F G w t fp) : Pl K F G w fp w t fp (fun y => y) :=
  ⟨h, fun _ q => q, fun {_ _ _ f'} _ _ h' _ => ⟨f', h', fun _ q => .inl q⟩⟩
theorem Pl.keep (p : Pl K F G w fp v t f1 put) (e : Sm F F') (k : ∀ a ∈ fp, G' a = G a) : Pl K F' G' w fp v t f1 put :=
  ⟨p.sub.keep e fun a q => k a (p.inn a q), p.inn, fun s k' h' hf => p.back (e.trans s) (fun a q z => (k' a q z).trans (k a q)) h' hf⟩
/-- a child of a container -/
theorem Pl.child {T : DV} {hd inner : List Addr} {vs : List V} {ts : List DV} {n : Nat} (p : Pl K F G w fp v T (hd ++ inner) put) (all : OwAll K F G vs ts inner) (dj : ∀ a ∈ hd, a ∉ inner) (mk : List DV → DV)
    (rb : ∀ {F' G' : Hp} {ts' : List DV} {inner' : List Addr}, Sm F F' → (∀ a ∈ hd, G' a = G a) → OwAll K F' G' vs ts' inner' → ts'.length = ts.length → (∀ a ∈ hd, a ∉ inner') → Ow K F' G' v (mk ts') (hd ++ inner')) (ht : ts[n]? = some t) :
    ∃ v' f2, vs[n]? = some v' ∧ Pl K F G w fp v' t f2 (fun y => put (mk (ts.set n y))) := by
  obtain ⟨v', f2, e1, o1, i1, b1⟩ := all.split ht
  have i2 : ∀ a ∈ f2, a ∈ hd ++ inner := fun a q => List.mem_append_right _ (i1 a q)
  refine ⟨v', f2, e1, o1, fun a q => p.inn a (i2 a q), fun {F' G' t' f'} s k h' hf => ?_⟩
  obtain ⟨in', o2, m2⟩ := b1 s (fun a q z => k a (p.inn a (List.mem_append_right _ q)) z) h' fun a q => (hf a q).imp (fun z => z) fun z y => z (p.inn a (List.mem_append_right _ y))
  have djN : ∀ a ∈ hd, a ∉ in' := fun a q z => by
    rcases m2 a z with y | y
    · rcases hf a y with x | x
      · exact dj a q (i1 a x)
      · exact x (p.inn a (List.mem_append_left _ q))
    · exact dj a q y.1
  have o3 := rb s (fun a q => k a (p.inn a (List.mem_append_left _ q)) fun z => dj a q (i1 a z)) o2 (by rw [List.length_set]) djN
  obtain ⟨fp', o4, m4⟩ := p.back s (fun a q z => k a q fun y => z (i2 a y)) o3 fun a q => by
    rcases List.mem_append.mp q with y | y
    · exact .inl (List.mem_append_left _ y)
    · rcases m2 a y with x | x
      · rcases hf a x with u | u
        · exact .inl (i2 a u)
        · exact .inr u
      · exact .inl (List.mem_append_right _ x.1)
  refine ⟨fp', o4, fun a q => ?_⟩
  rcases m4 a q with y | y
  · rcases List.mem_append.mp y with x | x
    · exact .inr ⟨p.inn a (List.mem_append_left _ x), fun z => dj a x (i1 a z)⟩
    · rcases m2 a x with u | u
      · exact .inl u
      · exact .inr ⟨p.inn a (List.mem_append_right _ u.1), u.2⟩
  · exact .inr ⟨y.1, fun z => y.2 (i2 a z)⟩
theorem Pl.item {ts : List DV} {n : Nat} (p : Pl K F G w fp v (.l ts) f1 put) (ht : ts[n]? = some t) :
    ∃ a vs v' f2, v = .ref a ∧ G a = some (.lst vs) ∧ vs.length = ts.length ∧ vs[n]? = some v' ∧ Pl K F G w fp v' t f2 (fun y => put (.l (ts.set n y))) := by
  obtain ⟨sub, inn, back⟩ := p
  cases sub with
  | l h all na =>
    obtain ⟨v', f2, e1, q⟩ := Pl.child (hd := [_]) ⟨.l h all na, inn, back⟩ all (by simpa using na) .l (fun s k o _ d => .l (by rw [k _ (by simp)]; exact h) o (d _ (by simp))) ht
    exact ⟨_, _, v', f2, rfl, h, all.len, e1, q⟩
theorem zip_keys {κ : Type} : ∀ (kvs : List (κ × DV)), (kvs.map Prod.fst).zip (kvs.map Prod.snd) = kvs
  | [] => rfl
  | (y, z) :: r => by simp only [List.map_cons, List.zip_cons_cons, zip_keys r]
theorem zip_set {κ : Type} : ∀ (kvs : List (κ × DV)) (n : Nat) (y : DV) (x : κ), (kvs.map Prod.fst)[n]? = some x → (kvs.map Prod.fst).zip ((kvs.map Prod.snd).set n y) = kvs.set n (x, y)
  | [], _, _, _, e => by simp at e
  | (a, b) :: r, 0, y, x, e => by simp at e; subst e; simp [zip_keys]
  | (a, b) :: r, n + 1, y, x, e => by simp at e; simp only [List.map_cons, List.set_cons_succ, List.zip_cons_cons]; rw [zip_set r n y x (by simpa using e)]
theorem zip_fst {κ : Type} {ks : List κ} {ts : List DV} (h : ts.length = ks.length) : (ks.zip ts).map Prod.fst = ks := by
  rw [List.map_fst_zip (by omega)]
theorem zip_snd {κ : Type} {ks : List κ} {ts : List DV} (h : ts.length = ks.length) : (ks.zip ts).map Prod.snd = ts := by
  rw [List.map_snd_zip (by omega)]
theorem Pl.valK {kvs : List (PyData × DV)} {n : Nat} {x : PyData} (p : Pl K F G w fp v (.k kvs) f1 put) (ht : kvs[n]? = some (x, t)) :
    ∃ a us v' f2, v = .ref a ∧ G a = some (.dK us) ∧ us.map (fun p => keyD p.1) = kvs.map Prod.fst ∧ (us.map Prod.snd)[n]? = some v' ∧ Pl K F G w fp v' t f2 (fun y => put (.k (kvs.set n (x, y)))) := by
  obtain ⟨sub, inn, back⟩ := p
  have hk : (kvs.map Prod.fst)[n]? = some x := by rw [List.getElem?_map, ht]; rfl
  cases sub with
  | dk h ks nk all na =>
    obtain ⟨v', f2, e1, q⟩ := Pl.child (hd := [_]) ⟨.dk h ks nk all na, inn, back⟩ all (by simpa using na) (fun ts => .k ((kvs.map Prod.fst).zip ts)) (fun {F' G' ts' in'} s k o hl d => by
      have hl' : ts'.length = (kvs.map Prod.fst).length := by rw [hl, List.length_map, List.length_map]
      exact .dk (by rw [k _ (by simp)]; exact h) (by rw [zip_fst hl']; exact ks) nk (by rw [zip_snd hl']; exact o) (d _ (by simp))) (by rw [List.getElem?_map, ht]; rfl)
    refine ⟨_, _, v', f2, rfl, h, ks, e1, q.sub, q.inn, fun s k h' hf => ?_⟩
    have := q.back s k h' hf
    rw [zip_set kvs n _ x hk] at this
    exact this
theorem Pl.fld {C : Addr} {fs : List (Str × DV)} {n : Nat} {x : Str} (p : Pl K F G w fp v (.i C fs) f1 put) (ht : fs[n]? = some (x, t)) :
    ∃ a dx us v' f2, v = .ref a ∧ G a = some (.ins C dx us) ∧ us.map Prod.fst = fs.map Prod.fst ∧ (us.map Prod.snd)[n]? = some v' ∧ Pl K F G w fp v' t f2 (fun y => put (.i C (fs.set n (x, y)))) := by
  obtain ⟨sub, inn, back⟩ := p
  have hk : (fs.map Prod.fst)[n]? = some x := by rw [List.getElem?_map, ht]; rfl
  cases sub with
  | i h h2 ks all na nd =>
    obtain ⟨v', f2, e1, q⟩ := Pl.child (hd := [_, _]) ⟨.i h h2 ks all na nd, inn, back⟩ all (by simpa using ⟨na, nd⟩) (fun ts => .i C ((fs.map Prod.fst).zip ts)) (fun {F' G' ts' in'} s k o hl d => by
      have hl' : ts'.length = (fs.map Prod.fst).length := by rw [hl, List.length_map, List.length_map]
      exact .i (by rw [k _ (by simp)]; exact h) (by rw [k _ (by simp)]; exact h2) (by rw [zip_fst hl']; exact ks) (by rw [zip_snd hl']; exact o) (d _ (by simp)) (d _ (by simp))) (by rw [List.getElem?_map, ht]; rfl)
    refine ⟨_, _, _, v', f2, rfl, h, ks, e1, q.sub, q.inn, fun s k h' hf => ?_⟩
    have := q.back s k h' hf
    rw [zip_set fs n _ x hk] at this
    exact this
/-- .. whose value is known -/
theorem Pl.val {x : V} {z : DV} (p : Pl K F G w fp v (.v x z) f1 put) : v = x ∧ Pl K F G w fp v z f1 (fun y => put (.v x y)) := by
  obtain ⟨sub, inn, back⟩ := p
  cases sub with
  | v h => exact ⟨rfl, h, inn, fun s k h' hf => back s k (.v h') hf⟩
/-- .. where the value is told from now on -/
theorem Pl.tell (p : Pl K F G w fp v t f1 put) : ∃ fp', Ow K F G w (put (.v v t)) fp' ∧ ∀ a ∈ fp', a ∈ fp := by
  obtain ⟨fp', h, m⟩ := p.back (Sm.refl F) (fun _ _ _ => rfl) (.v p.sub) (fun a q => .inl q)
  exact ⟨fp', h, fun a q => (m a q).elim (p.inn a) fun z => z.1⟩
end
section
variable {K : KW} {F0 H0 F F2 : Hp} {σ : L2.St} {H H2 H3 : Hp} {env : AEnv} {fp : Nat → List Addr}
/-- what is known behind a change at a place: f1 the old places, f' the new ones -/
def Mtd (K : KW) (F0 H0 F : Hp) (σ : L2.St) (H : Hp) (env : AEnv) (fp : Nat → List Addr) (i : Nat) (f1 f' : List Addr) : Prop :=
  ∃ fp2, EnvP K F0 H0 F σ H env fp2 ∧ (∀ a ∈ fp2 i, a ∈ f' ∨ (a ∈ fp i ∧ a ∉ f1)) ∧ ∀ j, j ≠ i → fp2 j = fp j
theorem Mtd.at {K : KW} {F0 H0 F : Hp} {σ : L2.St} {H : Hp} {env : AEnv} {fp : Nat → List Addr} {i : Nat} {f1 f' : List Addr} (h : Mtd K F0 H0 F σ H env fp i f1 f') : EnvAt K F0 H0 F σ H env := let ⟨fp2, e, _⟩ := h; ⟨fp2, e⟩
/-- a part of the tree in slot i is changed: all else is kept -/
theorem EnvP.mutate (E : EnvP K F0 H0 F σ H env fp) (g : Gro F H F2 H2) {F3 : Hp} {i : Nat} {w v : V} {t t' : DV} {f1 f' : List Addr} {put : DV → DV} (hv : σ[i]? = some (some w)) (P : Pl K F2 H2 w (fp i) v t f1 put) (hT : ∃ av, env[i]? = some (some av))
    (sF : Sm F2 F3) (hK : Sm (cutF H2 f1) H3) (fr : Sm F3 H3) (sep : ∀ a, a ∉ f1 → H2 a ≠ none → F2 a = none → F3 a = none) (h : Ow K F3 H3 v t' f') (hf : ∀ b ∈ f', (b ∈ f1 ∨ H b = none) ∧ F3 b = none) : Mtd K F0 H0 F3 σ H3 (env.set i (some (.o (put t')))) fp i f1 f' := by
  obtain ⟨av, hT⟩ := hT
  have own : ∀ b ∈ fp i, ∃ u, H b = some u ∧ ∀ ps, u ≠ .tbl ps := fun b q => by
    obtain ⟨v0, hs, hv0⟩ := E.slot i av hT
    obtain ⟨u, e1, n, _⟩ := hv0.at b q
    exact ⟨u, e1, n⟩
  have inF : ∀ b ∈ fp i, F2 b = none := fun b q => g.sep b (E.mine i b q).2.2 (E.mine i b q).2.1
  have keep : ∀ b ∈ fp i, b ∉ f1 → H3 b = H2 b := fun b q z => by
    obtain ⟨u, e1, n⟩ := own b q
    have e2 := g.h.all b u e1 n
    rw [e2]; exact hK.all b u (by rw [cutF_ne z]; exact e2) n
  obtain ⟨fp', o2, m2⟩ := P.back sF keep h fun b q => (hf b q).1.imp (fun z => z) fun z y => (E.mine i b y).2.2 z
  refine ⟨_, E.change (av := .o (put t')) (f := fp') hv (g.f.trans sF) fr (fun b u nb q n => ?_) (fun b ps q => ?_) (fun b nb q1 q2 => ?_) o2 fun b q => ?_, fun b q => ?_, fun j hj => fpSet_ne hj⟩
  · exact hK.all b u (by rw [cutF_ne fun z => nb (P.inn b z)]; exact g.h.all b u q n) n
  · obtain ⟨qs, e1⟩ := g.h.tab b ps q
    exact hK.tab b qs (by rw [cutF_ne fun z => by
      obtain ⟨u, e1, n⟩ := own b (P.inn b z)
      rw [q] at e1; cases e1; exact n ps rfl]; exact e1)
  · exact sep b (fun z => nb (P.inn b z)) (g.h.ne q1) (g.sep b q1 q2)
  · rcases m2 b q with y | y
    · obtain ⟨z1, z2⟩ := hf b y
      exact ⟨z1.imp (P.inn b) fun z => z, z2⟩
    · exact ⟨.inl y.1, sep b y.2 (g.h.ne (E.mine i b y.1).2.2) (inF b y.1)⟩
  · rw [fpSet_same] at q; exact m2 b q
/-- .. by a store at one place -/
theorem EnvP.store (E : EnvP K F0 H0 F σ H env fp) (g : Gro F H F2 H2) {i : Nat} {w v : V} {t t' : DV} {f1 f' : List Addr} {put : DV → DV} {a : Addr} {o : HO} (hv : σ[i]? = some (some w)) (P : Pl K F2 H2 w (fp i) v t f1 put) (hT : ∃ av, env[i]? = some (some av))
    (ha : a ∈ f1) (h : Ow K F2 (upd H2 a o) v t' f') (hf : ∀ b ∈ f', (b ∈ f1 ∨ H b = none) ∧ F2 b = none) : Mtd K F0 H0 F2 σ (upd H2 a o) (env.set i (some (.o (put t')))) fp i f1 f' := by
  have ap := P.inn a ha
  have inF : F2 a = none := g.sep a (E.mine i a ap).2.2 (E.mine i a ap).2.1
  refine E.mutate g hv P hT (Sm.refl F2) ⟨fun b u q n => ?_, fun b ps q => ?_⟩ (g.fr.updH inF) (fun _ _ _ z => z) h hf
  · have hb : b ∉ f1 := fun z => by rw [cutF_in z] at q; cases q
    rw [upd_ne fun z => hb (by rw [z]; exact ha)]; rw [cutF_ne hb] at q; exact q
  · have hb : b ∉ f1 := fun z => by rw [cutF_in z] at q; cases q
    exact ⟨ps, by rw [upd_ne fun z => hb (by rw [z]; exact ha)]; rw [cutF_ne hb] at q; exact q⟩
end
end FR

namespace FR
open PySem PySem.Spec PyProof.Rows L2

/-! ## trees: more of them -/
theorem OwAll.append {K : KW} {F G : Hp} : ∀ {vs ws : List V} {ts us : List DV} {f1 f2 : List Addr}, OwAll K F G vs ts f1 → OwAll K F G ws us f2 → (∀ a ∈ f1, a ∉ f2) → OwAll K F G (vs ++ ws) (ts ++ us) (f1 ++ f2)
  | _, _, _, _, _, _, .nil, b, _ => b
  | _, _, _, _, _, _, .cons (f1 := g1) (f2 := g2) h t d, b, dj => by
    have h2 := OwAll.append t b fun a q => dj a (List.mem_append_right _ q)
    have := OwAll.cons h h2 fun a q z => by
      rcases List.mem_append.mp z with y | y
      · exact d a q y
      · exact dj a (List.mem_append_left _ q) y
    simpa using this
theorem OwAll.one {K : KW} {F G : Hp} {v : V} {t : DV} {f : List Addr} (h : Ow K F G v t f) : OwAll K F G [v] [t] f := by
  have := OwAll.cons h (.nil (K := K) (F := F) (G := G)) fun _ _ z => nomatch z
  simpa using this
/-- item n replaced by another thing -/
theorem OwAll.replace {K : KW} {F G : Hp} : ∀ {vs : List V} {ts : List DV} {fp : List Addr} {n : Nat} {v' : V} {t' : DV} {f' : List Addr}, OwAll K F G vs ts fp → n < ts.length → Ow K F G v' t' f' → (∀ a ∈ f', a ∉ fp) →
    ∃ fp', OwAll K F G (vs.set n v') (ts.set n t') fp' ∧ ∀ a ∈ fp', a ∈ f' ∨ a ∈ fp
  | _, _, _, _, _, _, _, .nil, h, _, _ => by simp at h
  | _, _, _, 0, v', t', f', .cons (f1 := f1) (f2 := f2) h tl dj, _, h', hf => ⟨f' ++ f2, .cons h' tl fun a q z => hf a q (List.mem_append_right _ z), fun a q => (List.mem_append.mp q).imp (fun z => z) fun z => List.mem_append_right _ z⟩
  | _, _, _, n + 1, v', t', f', .cons (f1 := f1) (f2 := f2) h tl dj, hn, h', hf => by
    obtain ⟨fp', o, m⟩ := OwAll.replace (n := n) tl (by simpa using hn) h' fun a q z => hf a q (List.mem_append_right _ z)
    refine ⟨f1 ++ fp', .cons h o fun a q z => ?_, fun a q => ?_⟩
    · rcases m a z with y | y
      · exact hf a y (List.mem_append_left _ q)
      · exact dj a q y
    · rcases List.mem_append.mp q with y | y
      · exact .inr (List.mem_append_left _ y)
      · exact (m a y).imp (fun z => z) fun z => List.mem_append_right _ z
/-- the last item, and the rest -/
theorem OwAll.last {K : KW} {F G : Hp} : ∀ {ts : List DV} {vs : List V} {t : DV} {fp : List Addr}, OwAll K F G vs (ts ++ [t]) fp → ∃ v f1 f2, vs[vs.length - 1]? = some v ∧ OwAll K F G vs.dropLast ts f1 ∧ Ow K F G v t f2 ∧ (∀ a ∈ f1, a ∈ fp) ∧ (∀ a ∈ f2, a ∈ fp) ∧ ∀ a ∈ f1, a ∉ f2
  | [], _, t, _, .cons (f1 := f1) h .nil _ => ⟨_, [], f1, rfl, .nil, h, (fun _ z => nomatch z), (fun a q => List.mem_append_left _ q), (fun _ z => nomatch z)⟩
  | x :: ts, _, t, _, .cons (v := v0) (vs := vs) (f1 := g1) (f2 := g2) h tl d => by
    obtain ⟨v, f1, f2, e1, o1, o2, m1, m2, dj⟩ := OwAll.last tl
    have hl := tl.len
    have ne : vs ≠ [] := by intro z; subst z; simp at hl
    refine ⟨v, g1 ++ f1, f2, ?_, ?_, o2, fun a q => ?_, fun a q => List.mem_append_right _ (m2 a q), fun a q z => ?_⟩
    · have : vs.length ≠ 0 := by rw [hl]; simp
      rw [List.length_cons, show vs.length + 1 - 1 = (vs.length - 1) + 1 by omega, List.getElem?_cons_succ]; exact e1
    · rw [List.dropLast_cons_of_ne_nil ne]; exact .cons h o1 fun a q z => d a q (m1 a z)
    · rcases List.mem_append.mp q with y | y
      · exact List.mem_append_left _ y
      · exact List.mem_append_right _ (m1 a y)
    · rcases List.mem_append.mp q with y | y
      · exact d a y (m2 a z)
      · exact dj a y z
theorem Ow.l_inv {K : KW} {F G : Hp} {v : V} {ts : List DV} {f : List Addr} (h : Ow K F G v (.l ts) f) : ∃ a vs inner, v = .ref a ∧ f = a :: inner ∧ G a = some (.lst vs) ∧ OwAll K F G vs ts inner ∧ a ∉ inner := by
  cases h with | l h t n => exact ⟨_, _, _, rfl, rfl, h, t, n⟩
theorem Ow.k_inv {K : KW} {F G : Hp} {v : V} {kvs : List (PyData × DV)} {f : List Addr} (h : Ow K F G v (.k kvs) f) : ∃ a us inner, v = .ref a ∧ f = a :: inner ∧ G a = some (.dK us) ∧ us.map (fun p => keyD p.1) = kvs.map Prod.fst ∧ (us.map Prod.fst).Nodup ∧ OwAll K F G (us.map Prod.snd) (kvs.map Prod.snd) inner ∧ a ∉ inner := by
  cases h with | dk h x y t n => exact ⟨_, _, _, rfl, rfl, h, x, y, t, n⟩
theorem Ow.i_inv {K : KW} {F G : Hp} {v : V} {C : Addr} {fs : List (Str × DV)} {f : List Addr} (h : Ow K F G v (.i C fs) f) : ∃ a dx us inner, v = .ref a ∧ f = a :: dx :: inner ∧ G a = some (.ins C dx us) ∧ G dx = some (.own a) ∧ us.map Prod.fst = fs.map Prod.fst ∧ OwAll K F G (us.map Prod.snd) (fs.map Prod.snd) inner ∧ a ∉ inner ∧ dx ∉ inner := by
  cases h with | i h h2 x t n n2 => exact ⟨_, _, _, _, rfl, rfl, h, h2, x, t, n, n2⟩

/-! ## judgements -/
/-- a new thing of one's own -/
def XN (X : Cx) (e : Expr) (env : AEnv) (t : DV) : Prop :=
  ∀ F0 H0 F σ H, EnvAt X.kw F0 H0 F σ H env → ∀ Q : VK, (∀ v f F' H', Gro F H F' H' → Ow X.kw F' H' v t f → (∀ a ∈ f, H a = none ∧ F' a = none) → Q v H') → wE X e σ H Q
/-- any answer; what one owns may change -/
def XE (X : Cx) (e : Expr) (env : AEnv) (r : RV) (env' : AEnv) : Prop :=
  ∀ F0 H0 F σ H, EnvAt X.kw F0 H0 F σ H env → ∀ Q : VK, (∀ v f F' H', EnvAt X.kw F0 (froz H0 H' f) F' σ H' env' → Sm F F' → RvOk X.kw F' H' v r f → (∀ a ∈ f, H0 a = none ∧ F' a = none) → Q v H') → wE X e σ H Q
/-- a part of the tree in slot i -/
def XPl (X : Cx) (e : Expr) (env : AEnv) (i : Nat) (t : DV) (put : DV → DV) : Prop :=
  ∀ F0 H0 F σ H fp, EnvP X.kw F0 H0 F σ H env fp → ∀ Q : VK, (∀ v F' H' f1 w, Gro F H F' H' → σ[i]? = some (some w) → Pl X.kw F' H' w (fp i) v t f1 put → Q v H') → wE X e σ H Q
section
variable {K : KW} {F0 H0 F F' : Hp} {σ : L2.St} {H H' : Hp} {env : AEnv} {fp : Nat → List Addr} {f : List Addr}
theorem EnvP.beside (E : EnvP K F0 H0 F σ H env fp) (hf : ∀ a ∈ f, F a = none) (hn : ∀ a ∈ f, ∀ i, a ∉ fp i) : EnvP K F0 (froz H0 H f) F σ H env fp where
  gro := ⟨E.gro.f, ⟨fun b u q n => by
    by_cases z : b ∈ f
    · rw [froz_in z] at q; exact q
    · rw [froz_out z] at q; exact E.gro.h.all b u q n, fun b ps q => by
    by_cases z : b ∈ f
    · rw [froz_in z] at q; exact ⟨ps, q⟩
    · rw [froz_out z] at q; exact E.gro.h.tab b ps q⟩, E.gro.fr, fun b q1 q2 => by
    by_cases z : b ∈ f
    · exact hf b z
    · rw [froz_out z] at q1; exact E.gro.sep b q1 q2⟩
  len := E.len
  slot := E.slot
  mine := fun i a q => by
    obtain ⟨z1, z2, z3⟩ := E.mine i a q
    exact ⟨by rw [froz_out fun z => hn a z i q]; exact z1, z2, z3⟩
  apart := E.apart
theorem EnvP.unbeside (E : EnvP K F0 (froz H0 H f) F σ H env fp) (hf : ∀ a ∈ f, H0 a = none) (hz : ∀ a ∈ f, H a ≠ none) : EnvP K F0 H0 F σ H env fp ∧ ∀ i a, a ∈ fp i → a ∉ f := by
  have nf : ∀ i a, a ∈ fp i → a ∉ f := fun i a q z => by
    have := (E.mine i a q).1
    rw [froz_in z] at this; exact hz a z this
  refine ⟨⟨⟨E.gro.f, ⟨fun b u q n => ?_, fun b ps q => ?_⟩, E.gro.fr, fun b q1 q2 => ?_⟩, E.len, E.slot, fun i a q => ?_, E.apart⟩, nf⟩
  · exact E.gro.h.all b u (by rw [froz_out fun z => by rw [hf b z] at q; cases q]; exact q) n
  · exact E.gro.h.tab b ps (by rw [froz_out fun z => by rw [hf b z] at q; cases q]; exact q)
  · exact E.gro.sep b (by rw [froz_out fun z => q1 (hf b z)]; exact q1) q2
  · obtain ⟨z1, z2, z3⟩ := E.mine i a q
    exact ⟨by rw [froz_out (nf i a q)] at z1; exact z1, z2, z3⟩
end
section
variable {X : Cx} {e e2 e3 tg iter : Expr} {es : List Expr} {st : Stmt} {ss body : List Stmt} {env env' env1 env2 : AEnv} {d d1 d2 : PyData} {A : AE} {pos p p2 apos cpos : Pos} {N : List Str} {i j : Nat} {x : Str} {k : Nat} {t : DV} {r : RV} {put : DV → DV}
theorem XE.ofD (h : XD X e env d) : XE X e env (.d d) env := fun F0 H0 F σ H E Q q => h _ _ F σ H E Q fun v F' H' g p =>
  q v [] F' H' (by rw [froz_nil]; exact E.grow g) g.f ⟨p, rfl⟩ fun _ z => nomatch z
theorem XE.ofO (h : XN X e env t) : XE X e env (.o t) env := fun F0 H0 F σ H E Q q => h _ _ F σ H E Q fun v f F' H' g p hf => by
  refine q v f F' H' ?_ g.f p fun a z => ⟨E.gro.h.free (hf a z).1, (hf a z).2⟩
  obtain ⟨fp, E'⟩ := E
  exact ⟨fp, (E'.grow g).beside (fun a z => (hf a z).2) fun a z j y => (E'.mine j a y).2.2 (hf a z).1⟩
theorem XN.ofL {ds : List PyData} (h : XL X e env ds) : XN X e env (.l (ds.map .d)) := fun F0 H0 F σ H E Q q => h _ _ F σ H E Q fun p vs F' H' g n1 n2 e1 p1 =>
  q (.ref p) [p] F' H' g (.l e1 (owAll_ds p1) (fun z => nomatch z)) fun a z => by rw [List.mem_singleton.mp z]; exact ⟨n1, n2⟩
theorem xn_dict : XN X (.Dict [] [] pos) env (.k []) := fun F0 H0 F σ H E Q q => e_of pe_dnewK fun p hp =>
  q (.ref p) [p] F _ (Gro.own E.fr hp) (.dk upd_same rfl .nil .nil (fun z => nomatch z)) fun a z => by rw [List.mem_singleton.mp z]; exact ⟨hp, E.fr.free hp⟩
/-! ### storing an answer -/
def avOf : RV → AV
  | .d x => .d x
  | .o t => .o t
theorem n_setE (h : XE X e env r env1) (hN : X.N = N) (hnd : N.Nodup) (hst : SetN N env1 i x (some (avOf r)) env') (hn : A.nx env') (hx : Loc X.env.scope x := by first | exact .inl rfl | exact .inr rfl)
    (hs : swapsWith e (some (.Name x p)) pos.line X.env = pure false := by rfl) (hf : X.fn x = true ∨ X.env.scope.names.lookup x = some .local := by first | exact .inl rfl | exact .inr rfl) : XS X (.Assign [.Name x p] e pos) env A := by
  subst hN
  have h1 := hst.get.1
  subst h1
  intro F0 H0 F σ H D E l
  refine s_of (ps_set hnd hst.get.2 hx e_w hs hf) (h _ _ F σ H E _ fun v f F1 H1 E1 s1 p1 hf1 => ?_)
  obtain ⟨fp, E1⟩ := E1
  have hz : ∀ a ∈ f, H1 a ≠ none := fun a z => by
    obtain ⟨u, e1, _⟩ := p1.at a z
    rw [e1]; exact fun y => nomatch y
  obtain ⟨E2, nf⟩ := E1.unbeside (fun a z => (hf1 a z).1) hz
  refine l.nx _ F1 _ H1 ⟨_, E2.put (f := f) (av := avOf r) ?_ (fun a z => ⟨(hf1 a z).1, (hf1 a z).2, hz a z⟩) fun j a _ q => nf j a q⟩ hn
  cases r with
  | d x => exact p1
  | o t => exact p1
theorem xs_retE (h : XE X e env r env1) (hr : A.rs r env1) : XS X (.Return (some e) pos) env A := fun F0 H0 F σ H D E l =>
  s_of (ps_ret e_w) (h _ _ F σ H E _ fun v f F1 H1 E1 s1 p1 hf1 => l.rs v r f env1 F1 σ H1 E1 p1 hf1 hr)
theorem xs_retNE (hr : A.rs (.d .none) env) : XS X (.Return none pos) env A := fun F0 H0 F σ H D E l =>
  s_of ps_retN (l.rs _ (.d .none) [] env F σ H (by rw [froz_nil]; exact E) ⟨.non, rfl⟩ (fun _ z => nomatch z) hr)
theorem xs_dropE (h : XE X e env r env1) (hn : A.nx env1) (hs : swapsWith e none pos.line X.env = pure false := by rfl) : XS X (.Expr e pos) env A := fun F0 H0 F σ H D E l =>
  s_of (ps_expr e_w hs) (h _ _ F σ H E _ fun v f F1 H1 E1 s1 p1 hf1 => by
    obtain ⟨fp, E1⟩ := E1
    exact l.nx env1 F1 σ H1 ⟨fp, (E1.unbeside (fun a z => (hf1 a z).1) fun a z => by
      obtain ⟨u, e1, _⟩ := p1.at a z
      rw [e1]; exact fun y => nomatch y).1⟩ hn)
/-! ### freezing, lending -/
theorem n_freezeO {av : AV} (hN : X.N = N) (hnd : N.Nodup) (hat : AtN N env i x av) (ho : av.owned = true) (hdat : av.data = d) (hst : SetN N env j x (some (.d d)) env') (h : XB X ss env' A) : XB X ss env A := by
  have ij : i = j := nodup_ix hnd hat.get.2 hst.get.2
  subst ij
  have hs := hst.get.1
  subst hs
  subst hdat
  intro F0 H0 F σ H D E l
  obtain ⟨F', E', _⟩ := E.freezeA hat.get.1 ho
  exact h F0 H0 F' σ H D E' l
theorem xd_lendO {av : AV} {d' : PyData} (hN : X.N = N) (hnd : N.Nodup) (hat : AtN N env i x av) (ho : av.owned = true) (hdat : av.data = d') (hst : SetN N env j x (some (.d d')) env') (h : XD X e env' d) (hd : noLst d = true) : XD X e env d := by
  have ij : i = j := nodup_ix hnd hat.get.2 hst.get.2
  subst ij
  have hs := hst.get.1
  subst hs
  subst hdat
  intro F0 H0 F σ H E Q q
  obtain ⟨f, F1, E', s1, k⟩ := E.lend hat.get.1 ho
  refine h F0 H0 _ σ H E' Q fun v F2 H2 g p => ?_
  obtain ⟨k1, _, k2⟩ := k F2 H2 g
  exact q v _ H2 k1 (dp_cut k2 p hd)
theorem xt_lendO {av : AV} {d' : PyData} {b : Bool} (hN : X.N = N) (hnd : N.Nodup) (hat : AtN N env i x av) (ho : av.owned = true) (hdat : av.data = d') (hst : SetN N env j x (some (.d d')) env') (h : XT X e env' b) : XT X e env b := by
  have ij : i = j := nodup_ix hnd hat.get.2 hst.get.2
  subst ij
  have hs := hst.get.1
  subst hs
  subst hdat
  intro F0 H0 F σ H E Q q
  obtain ⟨f, F1, E', s1, k⟩ := E.lend hat.get.1 ho
  exact h F0 H0 _ σ H E' Q fun F2 H2 g => q _ H2 (k F2 H2 g).1
mutual
/-- trees whose leaves have no lists -/
def DV.nl : DV → Bool
  | .d x => noLst x
  | .l ts => DV.nls ts
  | .k kvs => DV.nlk kvs
  | .t kvs => DV.nlk kvs && kvs.all fun p => noLst p.1
  | .i _ fs => DV.nlf fs
  | .v _ z => z.nl
def DV.nls : List DV → Bool
  | [] => true
  | z :: zs => z.nl && DV.nls zs
def DV.nlk : List (PyData × DV) → Bool
  | [] => true
  | (_, z) :: zs => z.nl && DV.nlk zs
def DV.nlf : List (Str × DV) → Bool
  | [] => true
  | (_, z) :: zs => z.nl && DV.nlf zs
end
end
end FR

namespace FR
open PySem PySem.Spec PyProof.Rows L2

/-! ## dicts by their mirrors: lists of pairs, each key once -/
section
variable {κ α : Type} [DecidableEq κ]
def dIx (d : List (κ × α)) (k : κ) : Option Nat := d.findIdx? fun p => decide (p.1 = k)
def dGet (d : List (κ × α)) (k : κ) : Option α := (d.find? fun p => decide (p.1 = k)).map (·.2)
def dHas (d : List (κ × α)) (k : κ) : Bool := d.any fun p => decide (p.1 = k)
def dSet (d : List (κ × α)) (k : κ) (v : α) : List (κ × α) := if dHas d k = true then d.map (fun p => if p.1 = k then (p.1, v) else p) else d ++ [(k, v)]
def dPut (d : List (κ × α)) (k : κ) (v : α) : Option (List (κ × α)) := if d.length < sizeLine then some (dSet d k v) else none
def dDrop (d : List (κ × α)) (k : κ) : List (κ × α) := d.filter fun p => decide (p.1 ≠ k)
theorem dHas_get {d : List (κ × α)} {k : κ} : dHas d k = (dGet d k).isSome := by
  unfold dHas dGet
  rw [Option.isSome_map]
  apply Bool.eq_iff_iff.mpr
  rw [List.find?_isSome, List.any_eq_true]
end
/-- keys that are ints or texts -/
structure KeyE (κ : Type) where
  f : κ → Key
  inj : ∀ a b, f a = f b → a = b
def kI : KeyE Int := ⟨.inl, fun _ _ h => Sum.inl.inj h⟩
def kS : KeyE Str := ⟨.inr, fun _ _ h => Sum.inr.inj h⟩
abbrev KeyE.d {κ : Type} (e : KeyE κ) (k : κ) : PyData := keyD (e.f k)
theorem keyD_inj {a b : Key} (h : keyD a = keyD b) : a = b := by
  cases a <;> cases b <;> simp [keyD] at h <;> rw [h]
/-- a dict as data that stay; as one's own, its values data that stay; as one's own, its values one's own -/
def eD {κ α : Type} (e : KeyE κ) (en : α → PyData) (d : List (κ × α)) : PyData := .dict (d.map fun p => (e.d p.1, en p.2))
def oD {κ α : Type} (e : KeyE κ) (ok : α → DV) (d : List (κ × α)) : DV := .k (d.map fun p => (e.d p.1, ok p.2))
def oL {α : Type} (ok : α → DV) (xs : List α) : DV := .l (xs.map ok)
abbrev oW {α : Type} (en : α → PyData) (x : α) : DV := .d (en x)
theorem oD_toD {κ α : Type} {e : KeyE κ} {en : α → PyData} {ok : α → DV} (h : ∀ x, (ok x).toD = en x) (d : List (κ × α)) : (oD e ok d).toD = eD e en d := by
  unfold oD eD
  show PyData.dict _ = _
  congr 1
  induction d with
  | nil => rfl
  | cons p r ih => simp only [List.map_cons, DV.toKs, ih, h]
theorem oL_toD {α : Type} {en : α → PyData} {ok : α → DV} (h : ∀ x, (ok x).toD = en x) (xs : List α) : (oL ok xs).toD = .list (xs.map en) := by
  unfold oL
  show PyData.list _ = _
  congr 1
  induction xs with
  | nil => rfl
  | cons p r ih => simp only [List.map_cons, DV.toDs, ih, h]
section
variable {κ α : Type} [DecidableEq κ] {e : KeyE κ}
/-- the values of a dict by its keys -/
theorem kv_find {β γ : Type} {us : List (Key × β)} {d : List (κ × γ)} (h : us.map Prod.fst = d.map fun p => e.f p.1) (k : κ) : (us.findIdx? fun p => decide (p.1 = e.f k)) = dIx d k := by
  unfold dIx
  induction us generalizing d with
  | nil =>
    cases d with
    | nil => rfl
    | cons p r => simp at h
  | cons u r ih =>
    cases d with
    | nil => simp at h
    | cons p q =>
      simp only [List.map_cons, List.cons.injEq] at h
      rw [List.findIdx?_cons, List.findIdx?_cons, ih h.2, h.1]
      have : decide (e.f p.1 = e.f k) = decide (p.1 = k) := by
        by_cases z : p.1 = k
        · simp [z]
        · rw [decide_eq_false z, decide_eq_false fun y => z (e.inj _ _ y)]
      rw [this]
theorem keys_of {β γ : Type} {us : List (Key × β)} {d : List (κ × γ)} (h : us.map (fun p => keyD p.1) = d.map fun p => e.d p.1) : us.map Prod.fst = d.map fun p => e.f p.1 := by
  induction us generalizing d with
  | nil =>
    cases d with
    | nil => rfl
    | cons p r => simp at h
  | cons u r ih =>
    cases d with
    | nil => simp at h
    | cons p q =>
      simp only [List.map_cons, List.cons.injEq] at h ⊢
      exact ⟨keyD_inj h.1, ih h.2⟩
theorem valV_ix (us : List (Key × V)) (k : Key) : valV us k = ((us.findIdx? fun p => decide (p.1 = k)).bind fun n => us[n]?).map Prod.snd := by
  unfold valV
  congr 1
  induction us with
  | nil => rfl
  | cons u r ih =>
    rw [List.find?_cons, List.findIdx?_cons]
    by_cases z : u.1 = k
    · simp [z]
    · simp only [z, decide_false, Bool.false_eq_true, if_false]
      rw [ih]
      cases r.findIdx? fun p => decide (p.1 = k) <;> simp
theorem dGet_ix {γ : Type} (d : List (κ × γ)) (k : κ) : dGet d k = ((dIx d k).bind fun n => d[n]?).map Prod.snd := by
  unfold dGet dIx
  congr 1
  induction d with
  | nil => rfl
  | cons u r ih =>
    rw [List.find?_cons, List.findIdx?_cons]
    by_cases z : u.1 = k
    · simp [z]
    · simp only [z, decide_false, Bool.false_eq_true, if_false]
      rw [ih]
      cases r.findIdx? fun p => decide (p.1 = k) <;> simp
theorem dIx_at {γ : Type} {d : List (κ × γ)} {k : κ} {n : Nat} (h : dIx d k = some n) : ∃ y, d[n]? = some (k, y) := by
  unfold dIx at h
  obtain ⟨hn, h1, _⟩ := List.findIdx?_eq_some_iff_getElem.mp h
  refine ⟨d[n].2, ?_⟩
  rw [List.getElem?_eq_getElem hn]
  have : d[n].1 = k := of_decide_eq_true h1
  rw [← this]
/-- what a dict in the heap holds at a key -/
theorem valV_get {K : KW} {F : Hp} {en : α → PyData} {us : List (Key × V)} {d : List (κ × α)} (h : us.map Prod.fst = d.map fun p => e.f p.1) (hv : DpAll K F (us.map Prod.snd) (d.map fun p => en p.2)) (k : κ) :
    (dGet d k = none ∧ valV us (e.f k) = none) ∨ ∃ x v, dGet d k = some x ∧ valV us (e.f k) = some v ∧ Dp K F v (en x) := by
  rw [dGet_ix, valV_ix, kv_find h]
  cases q : dIx d k with
  | none => exact .inl ⟨rfl, rfl⟩
  | some n =>
    obtain ⟨y, hy⟩ := dIx_at q
    have h1 : (d.map fun p => en p.2)[n]? = some (en y) := by rw [List.getElem?_map, hy]; rfl
    obtain ⟨v, h2, h3⟩ := dpAll_get hv h1
    rw [List.getElem?_map] at h2
    cases h4 : us[n]? with
    | none => rw [h4] at h2; cases h2
    | some u =>
      rw [h4] at h2
      refine .inr ⟨y, v, ?_, ?_, h3⟩
      · show Option.map Prod.snd d[n]? = some y
        rw [hy]; rfl
      · show Option.map Prod.snd us[n]? = some v
        rw [h4]; exact h2
theorem eD_inv {K : KW} {F : Hp} {en : α → PyData} {v : V} {d : List (κ × α)} (h : Dp K F v (eD e en d)) : ∃ a us, v = .ref a ∧ Rd F a (.dK us) ∧ us.map Prod.fst = (d.map fun p => e.f p.1) ∧ DpAll K F (us.map Prod.snd) (d.map fun p => en p.2) := by
  generalize hx : eD e en d = x at h
  cases h with
  | dk r k hs =>
    rename_i a us kvs
    have hk : kvs = d.map fun p => (e.d p.1, en p.2) := (PyData.dict.inj hx).symm
    subst hk
    rw [List.map_map] at k hs
    exact ⟨a, us, rfl, r, keys_of k, by simpa [List.map_map, Function.comp_def] using hs⟩
  | dt r k ks hs =>
    exfalso
    cases d with
    | nil => unfold eD dictT at hx; simp at hx
    | cons p r' => unfold eD dictT KeyE.d at hx; cases hp : e.f p.1 <;> simp [keyD, hp] at hx
  | ins r k hs =>
    exfalso
    cases d with
    | nil => unfold eD insD at hx; simp at hx
    | cons p r' => unfold eD insD KeyE.d at hx; cases hp : e.f p.1 <;> simp [keyD, hp] at hx
  | fn a =>
    exfalso
    cases d with
    | nil => unfold eD fnD at hx; simp at hx
    | cons p r' => unfold eD fnD KeyE.d at hx; cases hp : e.f p.1 <;> simp [keyD, hp] at hx
  | _ => unfold eD at hx; cases hx
theorem key_v {K : KW} {F : Hp} {v : V} {k : Key} (h : Dp K F v (keyD k)) : v = kV k := by
  cases k with
  | inl i => exact dI h
  | inr x => exact dS h
end
section
variable {X : Cx} {e e2 e3 tg iter ie o : Expr} {es : List Expr} {st : Stmt} {ss body : List Stmt} {env env' env1 env2 : AEnv} {d d1 d2 : PyData} {A : AE} {pos p p2 apos cpos sp : Pos} {N : List Str} {i j : Nat} {x : Str} {k : Nat} {t : DV} {r : RV} {put : DV → DV}
variable {κ α : Type} [DecidableEq κ] {ke : KeyE κ} {en : α → PyData} {dd : List (κ × α)} {kk : κ}
/-! ### reading a dict that stays -/
theorem xm_kget {v : α} (hr : Room k X.A) (h1 : XD X o env (eD ke en dd)) (h2 : XD X e2 env (ke.d kk)) (q : dGet dd kk = some v) (hp : NoSl e2 := by exact fun _ _ => rfl) : XD X (.Subscript o e2 pos) env (en v) := fun F0 H0 F σ H E Q qq => by
  refine e_of (pe_dget (hu_of hr) e_w e_w hp) (h1 _ _ F σ H E _ fun w F1 H1 g1 p1 => h2 _ _ F1 σ H1 (E.grow g1) _ fun y F2 H2 g2 p2 => ?_)
  obtain ⟨a, us, rfl, rd, hk, hs⟩ := eD_inv p1
  rcases valV_get hk hs kk with ⟨z, _⟩ | ⟨x', v', z1, z2, z3⟩
  · rw [q] at z; cases z
  · rw [q] at z1; cases z1
    exact ⟨a, v', rfl, .inl ⟨us, ke.f kk, g2.fr.rd (g2.f.rd rd), key_v p2, z2.symm⟩, qq v' F2 H2 (g1.trans g2) (dp_mono g2.f z3)⟩
theorem kin_read {F F1 H1 F2 H2 : Hp} {w y : V} (p1 : Dp X.kw F1 w (eD ke en dd)) (p2 : Dp X.kw F2 y (ke.d kk)) (s : Sm F1 H2) : ∃ a o, w = .ref a ∧ DGet H2 a y o ∧ o.isSome = dHas dd kk := by
  obtain ⟨a, us, rfl, rd, hk, hs⟩ := eD_inv p1
  rcases valV_get hk hs kk with ⟨z1, z2⟩ | ⟨x', v', z1, z2, z3⟩
  · exact ⟨a, none, rfl, .inl ⟨us, ke.f kk, s.rd rd, key_v p2, z2.symm⟩, by rw [dHas_get, z1]; rfl⟩
  · exact ⟨a, some v', rfl, .inl ⟨us, ke.f kk, s.rd rd, key_v p2, z2.symm⟩, by rw [dHas_get, z1]; rfl⟩
theorem xm_kin (hr : Room k X.A) (h2 : XD X e env (ke.d kk)) (h1 : XD X o env (eD ke en dd)) (hm : behindInMarks .In o = false := by rfl) : XD X (.Compare e [.In] [o] pos) env (.bool (dHas dd kk)) := fun F0 H0 F σ H E Q qq => by
  refine e_of (pe_cmp (pc_din (hu_of hr) e_w e_w) hm) (h2 _ _ F σ H E _ fun y F1 H1 g1 p2 => h1 _ _ F1 σ H1 (E.grow g1) _ fun w F2 H2 g2 p1 => ?_)
  obtain ⟨a, o', rfl, g, e1⟩ := kin_read (F := F) (H1 := H1) p1 p2 g2.fr
  exact ⟨a, o', rfl, g, by rw [e1]; exact qq _ F2 H2 (g1.trans g2) (.bl _)⟩
theorem xm_kni (hr : Room k X.A) (h2 : XD X e env (ke.d kk)) (h1 : XD X o env (eD ke en dd)) (hm : behindInMarks .NotIn o = false := by rfl) : XD X (.Compare e [.NotIn] [o] pos) env (.bool (!dHas dd kk)) := fun F0 H0 F σ H E Q qq => by
  refine e_of (pe_cmp (pc_dnotin (hu_of hr) e_w e_w) hm) (h2 _ _ F σ H E _ fun y F1 H1 g1 p2 => h1 _ _ F1 σ H1 (E.grow g1) _ fun w F2 H2 g2 p1 => ?_)
  obtain ⟨a, o', rfl, g, e1⟩ := kin_read (F := F) (H1 := H1) p1 p2 g2.fr
  exact ⟨a, o', rfl, g, by rw [e1]; exact qq _ F2 H2 (g1.trans g2) (.bl _)⟩
theorem call_lenR : CallR X (.builtin "len") (fun xs H Q => ∃ a kvs, xs = [V.ref a] ∧ Rd H a (.dK kvs) ∧ Q (.int kvs.length) H) := by
  rintro pins s σ H xs us Q I r ⟨a, kvs, rfl, ha, q⟩
  cases r with
  | cons ru rest =>
    cases rest
    cases ru
    exact d_len I ha fun t s' I' => ⟨.int kvs.length, H, I', ⟨t, rfl⟩, q⟩
theorem xm_klen (h1 : XD X e env (eD ke en dd)) (hm : X.mg "len" = none) (hg : Gl X "len" := by rfl) (hs : starEach [e] X.env = (false, eval e X.env) :: starEach [] X.env := by rfl) (hpl : (backTo pos (starEach [] X.env)).any (·.1) = false := by rfl) :
    XD X (.Call (.Name "len" p) [e] [] pos) env (.int (dd.length : Int)) := fun F0 H0 F σ H E Q q => by
  refine e_of (pe_callB call_lenR hg hm PySem.boot_len a_w (by decide) (by decide) hs hpl) (xa1 h1 hs _ _ F σ H E _ fun vs F1 H1 g1 p1 => ?_)
  obtain ⟨v, rfl, hv⟩ := d1' p1
  obtain ⟨a, us, rfl, rd, hk, hs'⟩ := eD_inv hv
  have hl : us.length = dd.length := by have := congrArg List.length hk; simpa using this
  exact ⟨a, us, rfl, g1.fr.rd rd, by rw [hl]; exact q _ F1 H1 g1 (.int _)⟩
/-- d.get(k), its value None or the entry -/
theorem xm_kgetO (hr : Room k X.A) (h1 : XD X o env (eD ke en dd)) (h2 : XD X e env (ke.d kk)) (m : M1 X o "get" apos e cpos := by exact ⟨by rfl, by rfl, by rfl, by rfl⟩) : XD X (.Call (.Attribute o "get" apos) [e] [] cpos) env (eO en (dGet dd kk)) := fun F0 H0 F σ H E Q qq => by
  refine e_of (pe_dget1 (hu_of hr) e_w e_w m) (h1 _ _ F σ H E _ fun w F1 H1 g1 p1 => ?_)
  obtain ⟨a, us, rfl, rd, hk, hs⟩ := eD_inv p1
  refine ⟨a, rfl, .inl ⟨us, g1.fr.rd rd⟩, h2 _ _ F1 σ H1 (E.grow g1) _ fun y F2 H2 g2 p2 => ?_⟩
  rcases valV_get hk hs kk with ⟨z1, z2⟩ | ⟨x', v', z1, z2, z3⟩
  · exact ⟨none, .inl ⟨us, ke.f kk, g2.fr.rd (g2.f.rd rd), key_v p2, z2.symm⟩, qq _ F2 H2 (g1.trans g2) (by rw [z1]; exact .non)⟩
  · exact ⟨some v', .inl ⟨us, ke.f kk, g2.fr.rd (g2.f.rd rd), key_v p2, z2.symm⟩, qq _ F2 H2 (g1.trans g2) (by rw [z1]; exact dp_mono g2.f z3)⟩
/-- d.get(k, z) -/
theorem xm_kgetD {z : α} (hr : Room k X.A) (h1 : XD X o env (eD ke en dd)) (h2 : XD X e env (ke.d kk)) (h3 : XD X e2 env (en z)) (m : M2 X o "get" apos e e2 cpos := by exact ⟨by rfl, by rfl, by rfl, by rfl⟩) : XD X (.Call (.Attribute o "get" apos) [e, e2] [] cpos) env (en ((dGet dd kk).getD z)) := fun F0 H0 F σ H E Q qq => by
  refine e_of (pe_dget2 (hu_of hr) e_w e_w e_w m) (h1 _ _ F σ H E _ fun w F1 H1 g1 p1 => ?_)
  obtain ⟨a, us, rfl, rd, hk, hs⟩ := eD_inv p1
  refine ⟨a, rfl, .inl ⟨us, g1.fr.rd rd⟩, h2 _ _ F1 σ H1 (E.grow g1) _ fun y F2 H2 g2 p2 => h3 _ _ F2 σ H2 ((E.grow g1).grow g2) _ fun u F3 H3 g3 p3 => ?_⟩
  have rd3 := g3.fr.rd (g3.f.rd (g2.f.rd rd))
  rcases valV_get hk hs kk with ⟨z1, z2⟩ | ⟨x', v', z1, z2, z3⟩
  · exact ⟨none, .inl ⟨us, ke.f kk, rd3, key_v p2, z2.symm⟩, qq _ F3 H3 ((g1.trans g2).trans g3) (by rw [z1]; exact p3)⟩
  · exact ⟨some v', .inl ⟨us, ke.f kk, rd3, key_v p2, z2.symm⟩, qq _ F3 H3 ((g1.trans g2).trans g3) (by rw [z1]; exact dp_mono (g2.f.trans g3.f) z3)⟩
/-! ### places -/
theorem pl_root (hN : X.N = N) (hat : AtN N env i x (.o t)) (hs : Vis X.env.scope x := by first | exact Or.inl rfl | exact Or.inr (Or.inl rfl) | exact Or.inr (Or.inr rfl))
    (hd : (x == ("__debug__" : Str)) = false := by decide) (hc : (x == ("__classdict__" : Str)) = false := by decide) : XPl X (.Name x pos) env i t (fun y => y) := by
  subst hN
  intro F0 H0 F σ H fp E Q q
  obtain ⟨v, h1, h2⟩ := E.slot i _ hat.get.1
  exact e_of (pe_var hat.get.2 hs hd hc) ⟨v, h1, q v F H (fp i) v (Gro.refl E.fr) h1 (Pl.root h2)⟩
theorem Pl.grown {K : KW} {F0 H0 F F' : Hp} {σ : L2.St} {H H' : Hp} {env : AEnv} {fp : Nat → List Addr} {i : Nat} {av : AV} {w v : V} {f1 : List Addr} (P : Pl K F H w (fp i) v t f1 put) (E : EnvP K F0 H0 F σ H env fp) (hi : env[i]? = some (some av)) (g : Gro F H F' H') : Pl K F' H' w (fp i) v t f1 put := by
  obtain ⟨u, _, hu⟩ := E.slot i av hi
  exact P.keep g.f (E.kept hu g)
theorem pl_val {v : V} (h : XPl X e env i (.v v t) put) : XPl X e env i t (fun y => put (.v v y)) := fun F0 H0 F σ H fp E Q q =>
  h _ _ F σ H fp E Q fun v' F' H' f1 w g hw P => q v' F' H' f1 w g hw P.val.2
theorem lookup_at {β : Type} : ∀ {us : List (Str × β)} {n : Nat} {f : Str} {v : β}, (us.map Prod.fst).findIdx? (fun y => decide (y = f)) = some n → (us.map Prod.snd)[n]? = some v → us.lookup f = some v
  | [], _, _, _, h, _ => by simp at h
  | (g, y) :: r, n, f, v, h, hv => by
    rw [List.map_cons, List.findIdx?_cons] at h
    by_cases z : g = f
    · simp only [z, decide_true, if_true, Option.some.injEq] at h
      subst h
      simp at hv
      subst hv; subst z
      simp [List.lookup]
    · simp only [z, decide_false, Bool.false_eq_true, if_false] at h
      cases q : (r.map Prod.fst).findIdx? (fun y => decide (y = f)) with
      | none => rw [q] at h; cases h
      | some m =>
        rw [q] at h
        simp at h
        subst h
        have hb : (f == g) = false := by simp [Ne.symm z]
        rw [List.lookup, hb]
        exact lookup_at q (by simpa using hv)
theorem pl_fld {C : Addr} {fs : List (Str × DV)} {f : Str} {n : Nat} (h : XPl X e env i (.i C fs) put) (hi : ∃ av, env[i]? = some (some av)) (hc : Cls X.K C) (ha : NoAttr X.K C f) (hn : (fs.map Prod.fst).findIdx? (fun y => decide (y = f)) = some n) (ht : fs[n]? = some (f, t))
    (hb : attributeBase e f X.env (eval e X.env) = eval e X.env := by rfl) : XPl X (.Attribute e f pos) env i t (fun y => put (.i C (fs.set n (f, y)))) := fun F0 H0 F σ H fp E Q q =>
  e_of (pe_fld e_w hb) (h _ _ F σ H fp E _ fun v F' H' f1 w g hw P => by
    obtain ⟨a, dx, us, v', f2, rfl, h1, h2, h3, P2⟩ := P.fld ht
    exact ⟨a, C, dx, us, v', rfl, h1, hc, ha, lookup_at (by rw [h2]; exact hn) h3, q v' F' H' f2 w g hw P2⟩)
theorem pl_idx {ts : List DV} {m : Int} {n : Nat} (h : XPl X e env i (.l ts) put) (hi : ∃ av, env[i]? = some (some av)) (h2 : XD X e2 env (.int m)) (hm : L2.ixN ts.length m = some n) (ht : ts[n]? = some t) (hp : PlainIx e2 := by exact fun _ _ => rfl) :
    XPl X (.Subscript e e2 pos) env i t (fun y => put (.l (ts.set n y))) := fun F0 H0 F σ H fp E Q q =>
  e_of (pe_ix ix_list e_w e_w hp) (h _ _ F σ H fp E _ fun v F1 H1 f1 w g1 hw P => h2 _ _ F1 σ H1 ⟨fp, E.grow g1⟩ _ fun u F2 H2 g2 p2 => by
    obtain ⟨av, hi⟩ := hi
    obtain ⟨a, vs, v', f2, rfl, h1, hl, h3, P2⟩ := (P.grown (E.grow g1) hi g2).item ht
    exact ⟨a, vs, m, v', rfl, dI p2, .inl (.inl h1), by unfold atI; rw [hl, hm]; exact h3, q v' F2 H2 f2 w (g1.trans g2) hw P2⟩)
theorem oD_keys {ok : α → DV} {d : List (κ × α)} : ((d.map fun p => (ke.d p.1, ok p.2)).map Prod.fst) = d.map fun p => ke.d p.1 := by rw [List.map_map]; rfl
theorem oD_vals {ok : α → DV} {d : List (κ × α)} : ((d.map fun p => (ke.d p.1, ok p.2)).map Prod.snd) = d.map fun p => ok p.2 := by rw [List.map_map]; rfl
theorem pl_kget {ok : α → DV} {n : Nat} {y : α} (hr : Room k X.A) (h : XPl X e env i (oD ke ok dd) put) (hi : ∃ av, env[i]? = some (some av)) (h2 : XD X e2 env (ke.d kk)) (hn : dIx dd kk = some n) (ht : dd[n]? = some (kk, y)) (hp : NoSl e2 := by exact fun _ _ => rfl) :
    XPl X (.Subscript e e2 pos) env i (ok y) (fun z => put (.k ((dd.map fun p => (ke.d p.1, ok p.2)).set n (ke.d kk, z)))) := fun F0 H0 F σ H fp E Q q =>
  e_of (pe_dget (hu_of hr) e_w e_w hp) (h _ _ F σ H fp E _ fun v F1 H1 f1 w g1 hw P => h2 _ _ F1 σ H1 ⟨fp, E.grow g1⟩ _ fun u F2 H2 g2 p2 => by
    obtain ⟨av, hi⟩ := hi
    obtain ⟨a, us, v', f2, rfl, h1, hk, h3, P2⟩ := Pl.valK (P.grown (E.grow g1) hi g2) (show (dd.map fun p => (ke.d p.1, ok p.2))[n]? = some (ke.d kk, ok y) by rw [List.getElem?_map, ht]; rfl)
    rw [oD_keys] at hk
    have hl : valV us (ke.f kk) = some v' := by
      rw [valV_ix, kv_find (keys_of hk), hn]
      rw [List.getElem?_map] at h3
      exact h3
    exact ⟨a, v', rfl, .inl ⟨us, ke.f kk, .inl h1, key_v p2, hl.symm⟩, q v' F2 H2 f2 w (g1.trans g2) hw P2⟩)
/-! ### changes at a place -/
theorem XE.to {T0 T : DV} (h : XE X e env r (env.set i (some (.o T0)))) (hp : T0 = T) (hst : SetN N env i x (some (.o T)) env') : XE X e env r env' := by
  subst hp
  rw [hst.get.1] at h
  exact h
end
theorem OwAll.updN {K : KW} {F G : Hp} {vs : List V} {ts : List DV} {fp : List Addr} {a : Addr} {o : HO} (h : OwAll K F G vs ts fp) (n : a ∉ fp) : OwAll K F (upd G a o) vs ts fp := h.keep (Sm.refl F) fun b z => upd_ne fun y => n (by rw [← y]; exact z)
theorem Ow.updN {K : KW} {F G : Hp} {v : V} {t : DV} {fp : List Addr} {a : Addr} {o : HO} (h : Ow K F G v t fp) (n : a ∉ fp) : Ow K F (upd G a o) v t fp := h.keep (Sm.refl F) fun b z => upd_ne fun y => n (by rw [← y]; exact z)
section
variable {K : KW} {F0 H0 F F2 : Hp} {σ : L2.St} {H H2 : Hp} {env : AEnv} {fp : Nat → List Addr} {i : Nat} {w : V} {a : Addr} {f1 : List Addr} {put : DV → DV}
theorem EnvP.gone (E : EnvP K F0 H0 F σ H env fp) (g : Gro F H F2 H2) {v : V} {t : DV} (P : Pl K F2 H2 w (fp i) v t f1 put) : ∀ b ∈ f1, H b ≠ none ∧ F2 b = none := fun b z =>
  ⟨(E.mine i b (P.inn b z)).2.2, g.sep b (E.mine i b (P.inn b z)).2.2 (E.mine i b (P.inn b z)).2.1⟩
/-- a list at a place has other items -/
theorem EnvP.putList (E : EnvP K F0 H0 F σ H env fp) (g : Gro F H F2 H2) (hw : σ[i]? = some (some w)) (hi : ∃ av, env[i]? = some (some av)) {ts ts' : List DV} {vs' : List V} {inner' : List Addr} (P : Pl K F2 H2 w (fp i) (.ref a) (.l ts) f1 put)
    (all : OwAll K F2 H2 vs' ts' inner') (na : a ∉ inner') (hf : ∀ b ∈ inner', b ∈ f1 ∨ (H b = none ∧ F2 b = none)) : Mtd K F0 H0 F2 σ (upd H2 a (.lst vs')) (env.set i (some (.o (put (.l ts'))))) fp i f1 (a :: inner') := by
  have go := E.gone g P
  obtain ⟨a', vs, inner, ea, ef, h1, _, _⟩ := P.sub.l_inv
  cases ea
  have ha : a ∈ f1 := by rw [ef]; exact List.mem_cons_self
  refine E.store (o := .lst vs') (t' := .l ts') (f' := a :: inner') g hw P hi ha (.l upd_same (all.updN na) na) fun b z => ?_
  rcases List.mem_cons.mp z with rfl | z
  · exact ⟨.inl ha, (go b ha).2⟩
  · rcases hf b z with y | y
    · exact ⟨.inl y, (go b y).2⟩
    · exact ⟨.inr y.1, y.2⟩
theorem EnvP.putDict (E : EnvP K F0 H0 F σ H env fp) (g : Gro F H F2 H2) (hw : σ[i]? = some (some w)) (hi : ∃ av, env[i]? = some (some av)) {kvs kvs' : List (PyData × DV)} {us' : List (Key × V)} {inner' : List Addr} (P : Pl K F2 H2 w (fp i) (.ref a) (.k kvs) f1 put)
    (hk : us'.map (fun p => keyD p.1) = kvs'.map Prod.fst) (hnk : (us'.map Prod.fst).Nodup) (all : OwAll K F2 H2 (us'.map Prod.snd) (kvs'.map Prod.snd) inner') (na : a ∉ inner') (hf : ∀ b ∈ inner', b ∈ f1 ∨ (H b = none ∧ F2 b = none)) : Mtd K F0 H0 F2 σ (upd H2 a (.dK us')) (env.set i (some (.o (put (.k kvs'))))) fp i f1 (a :: inner') := by
  have go := E.gone g P
  obtain ⟨a', us, inner, ea, ef, h1, _, _, _, _⟩ := P.sub.k_inv
  cases ea
  have ha : a ∈ f1 := by rw [ef]; exact List.mem_cons_self
  refine E.store (o := .dK us') (t' := .k kvs') (f' := a :: inner') g hw P hi ha (.dk upd_same hk hnk (all.updN na) na) fun b z => ?_
  rcases List.mem_cons.mp z with rfl | z
  · exact ⟨.inl ha, (go b ha).2⟩
  · rcases hf b z with y | y
    · exact ⟨.inl y, (go b y).2⟩
    · exact ⟨.inr y.1, y.2⟩
theorem EnvP.putIns (E : EnvP K F0 H0 F σ H env fp) (g : Gro F H F2 H2) (hw : σ[i]? = some (some w)) (hi : ∃ av, env[i]? = some (some av)) {C dx : Addr} {us : List (Str × V)} {fs fs' : List (Str × DV)} {us' : List (Str × V)} {inner' : List Addr} (P : Pl K F2 H2 w (fp i) (.ref a) (.i C fs) f1 put)
    (h1 : H2 a = some (.ins C dx us)) (hk : us'.map Prod.fst = fs'.map Prod.fst) (all : OwAll K F2 H2 (us'.map Prod.snd) (fs'.map Prod.snd) inner') (na : a ∉ inner') (nd : dx ∉ inner') (hf : ∀ b ∈ inner', b ∈ f1 ∨ (H b = none ∧ F2 b = none)) : Mtd K F0 H0 F2 σ (upd H2 a (.ins C dx us')) (env.set i (some (.o (put (.i C fs'))))) fp i f1 (a :: dx :: inner') := by
  have go := E.gone g P
  obtain ⟨a', dx', us0, inner, ea, ef, k1, k2, _⟩ := P.sub.i_inv
  cases ea
  rw [h1] at k1; cases k1
  have ha : a ∈ f1 := by rw [ef]; exact List.mem_cons_self
  have hd : dx ∈ f1 := by rw [ef]; exact List.mem_cons_of_mem _ List.mem_cons_self
  have ne : dx ≠ a := fun z => by rw [z, h1] at k2; cases k2
  refine E.store (o := .ins C dx us') (t' := .i C fs') (f' := a :: dx :: inner') g hw P hi ha (.i upd_same (by rw [upd_ne ne]; exact k2) hk (all.updN na) na nd) fun b z => ?_
  rcases List.mem_cons.mp z with rfl | z
  · exact ⟨.inl ha, (go b ha).2⟩
  · rcases List.mem_cons.mp z with rfl | z
    · exact ⟨.inl hd, (go b hd).2⟩
    · rcases hf b z with y | y
      · exact ⟨.inl y, (go b y).2⟩
      · exact ⟨.inr y.1, y.2⟩
end
section
variable {X : Cx} {e e2 e3 tg iter ie o : Expr} {es : List Expr} {st : Stmt} {ss body : List Stmt} {env env' env1 env2 : AEnv} {d d1 d2 : PyData} {A : AE} {pos p p2 apos cpos sp : Pos} {N : List Str} {i j : Nat} {x : Str} {k : Nat} {t : DV} {r : RV} {put : DV → DV}
variable {κ α : Type} [DecidableEq κ] {ke : KeyE κ} {en : α → PyData} {dd : List (κ × α)} {kk : κ}
/-- an expression that is data or a new thing of one's own, as a part of a tree -/
def XT2 (X : Cx) (e : Expr) (env : AEnv) (t : DV) : Prop :=
  ∀ F0 H0 F σ H, EnvAt X.kw F0 H0 F σ H env → ∀ Q : VK, (∀ v f F' H', Gro F H F' H' → Ow X.kw F' H' v t f → (∀ a ∈ f, H a = none ∧ F' a = none) → Q v H') → wE X e σ H Q
theorem XT2.ofD (h : XD X e env d) : XT2 X e env (.d d) := fun F0 H0 F σ H E Q q => h _ _ F σ H E Q fun v F' H' g p => q v [] F' H' g (.d p) fun _ z => nomatch z
theorem XT2.ofN (h : XN X e env t) : XT2 X e env t := h
theorem xe_app {ts : List DV} (h : XPl X o env i (.l ts) put) (hi : ∃ av, env[i]? = some (some av)) (he : XT2 X e env t) (hz : ts.length < sizeLine)
    (hbase : attributeBase o "append" X.env (eval o X.env) = eval o X.env := by rfl)
    (hfew : ((backTo cpos (starEach [e] X.env)).all (fun x => !x.1) && (backToKw cpos (keywordEach [] X.env)).all (fun x => x.1.isSome)
      && decide ([e].length + ([] : List Keyword).length + (if ([] : List Keyword).isEmpty then 0 else 1) < 30)) = true := by rfl)
    (hline : (apos.endLine == cpos.line) = true := by rfl) (hst : starEach [e] X.env = (false, eval e X.env) :: starEach [] X.env := by rfl) (hplain : (backTo cpos (starEach [] X.env)).any (·.1) = false := by rfl) :
    XE X (.Call (.Attribute o "append" apos) [e] [] cpos) env (.d .none) (env.set i (some (.o (put (.l (ts ++ [t])))))) := fun F0 H0 F σ H ⟨fp, E⟩ Q q => by
  refine e_of (pe_bm PySem.F.plainAttrs_list PySem.F.slot_list_append PySem.F.type_list_append mt_append e_w (pa_cons e_w pa_nil hst) hbase hfew hline hst hplain) (h _ _ F σ H fp E _ fun v F1 H1 f1 w g1 hw P => ?_)
  have E1 := E.grow g1
  obtain ⟨a0, vs0, in0, e0, _, k0, _⟩ := P.sub.l_inv
  subst e0
  refine ⟨.inl ⟨rfl, _, .inl (.inl k0)⟩, he _ _ F1 σ H1 ⟨fp, E1⟩ _ fun u fn F2 H2 g2 p2 hn => ?_⟩
  obtain ⟨av, hi⟩ := hi
  have P2 := P.grown E1 hi g2
  have go := E1.gone g2 P2
  obtain ⟨a, vs, inner, ea, ef, h1, all, na⟩ := P2.sub.l_inv
  cases ea
  refine ⟨a0, vs, u, rfl, rfl, h1, by rw [all.len]; exact hz, ?_⟩
  have fi : ∀ b ∈ inner, b ∈ f1 := fun b z => by rw [ef]; exact List.mem_cons_of_mem _ z
  have ha : a0 ∈ f1 := by rw [ef]; exact List.mem_cons_self
  have E2 := E1.putList g2 hw ⟨av, hi⟩ P2 (all.append (OwAll.one p2) fun b z y => (go b (fi b z)).1 (hn b y).1) (fun z => (List.mem_append.mp z).elim na fun y => (go a0 ha).1 (hn a0 y).1)
    fun b z => (List.mem_append.mp z).elim (fun y => .inl (fi b y)) fun y => .inr (hn b y)
  exact q .non [] F2 _ (by rw [froz_nil]; exact E2.at) (g1.f.trans g2.f) ⟨.non, rfl⟩ fun _ z => nomatch z
/-- o[ie] = e, o a list at a place -/
theorem ns_setix {ts : List DV} {m : Int} {n : Nat} {T : DV} (he : XT2 X e env t) (h : XPl X o env i (.l ts) put) (hi : ∃ av, env[i]? = some (some av)) (h2 : XD X ie env (.int m)) (hm : L2.ixN ts.length m = some n)
    (hp : put (.l (ts.set n t)) = T) (hst : SetN N env i x (some (.o T)) env') (hn : A.nx env')
    (ha : ∀ v, assign (.Subscript o ie sp) X.env v = (do
      let ov ← holding [v] (eval o X.env)
      let iv ← holding [v, ov] (eval ie X.env)
      standAt sp
      holding [v, ov, iv] (setItem ov iv v)
      release [v, ov, iv] []) := by intro _; rfl)
    (hsw : swapsWithSole [.Subscript o ie sp] e pos.line X.env = pure false := by rfl) (hw : swappedStores [.Subscript o ie sp] e X.env = pure none := by rfl)
    (h1 : (assignEach [.Subscript o ie sp] X.env).map (·.2) = [assign (.Subscript o ie sp) X.env] := by rfl) :
    XS X (.Assign [.Subscript o ie sp] e pos) env A := fun F0 H0 F σ H D E l => by
  have hs := hst.get.1
  subst hp
  subst hs
  obtain ⟨fp, E⟩ := E
  refine s_of (ps_asg e_w (pg_sub e_w e_w set_list ha) hsw hw h1) (he _ _ F σ H ⟨fp, E⟩ _ fun u fn F1 H1 g1 p1 hf => h _ _ F1 σ H1 fp (E.grow g1) _ fun v F2 H2 f1 w g2 hw2 P => h2 _ _ F2 σ H2 ⟨fp, (E.grow g1).grow g2⟩ _ fun y F3 H3 g3 p3 => ?_)
  have gA := (g1.trans g2).trans g3
  have hi' := hi
  obtain ⟨av, hiv⟩ := hi'
  have P3 := P.grown ((E.grow g1).grow g2) hiv g3
  have go := E.gone gA P3
  obtain ⟨a, vs, inner, rfl, ef, k1, all, na⟩ := P3.sub.l_inv
  have hlt : n < ts.length := (L2.ixN_seq hm).2.1
  have g23 := g2.trans g3
  have p3' : Ow X.kw F3 H3 u t fn := p1.keep g23.f fun b z => by
    obtain ⟨q1, e1, n1, _⟩ := p1.at b z
    rw [e1]; exact g23.h.get e1 n1
  have fi : ∀ b ∈ inner, b ∈ f1 := fun b z => by rw [ef]; exact List.mem_cons_of_mem _ z
  have ha' : a ∈ f1 := by rw [ef]; exact List.mem_cons_self
  have fnF : ∀ b ∈ fn, F3 b = none := fun b z => by
    obtain ⟨q1, e1, _⟩ := p1.at b z
    exact g23.sep b (by rw [e1]; exact fun y => nomatch y) (hf b z).2
  obtain ⟨in', o2, m2⟩ := all.replace hlt p3' fun b z y => (go b (fi b y)).1 (hf b z).1
  refine ⟨a, vs, m, n, rfl, dI p3, k1, by rw [all.len]; exact hm, ?_⟩
  exact l.nx _ F3 σ _ (E.putList gA hw2 hi P3 o2 (fun z => (m2 a z).elim (fun y => (go a ha').1 (hf a y).1) na) fun b z => (m2 b z).elim (fun y => .inr ⟨(hf b y).1, fnF b y⟩) fun y => .inl (fi b y)).at hn
end
end FR

namespace FR
open PySem PySem.Spec PyProof.Rows L2

/-! ## dicts at a place: stores -/
section
variable {κ α : Type} [DecidableEq κ]
theorem dHas_ix {d : List (κ × α)} {k : κ} : dHas d k = (dIx d k).isSome := by
  unfold dHas dIx
  rw [List.findIdx?_isSome]
theorem dSet_old {d : List (κ × α)} {k : κ} {v : α} {n : Nat} (hd : (d.map Prod.fst).Nodup) (h : dIx d k = some n) : dSet d k v = d.set n (k, v) := by
  unfold dSet
  rw [dHas_ix, h]
  simp only [Option.isSome_some, if_true]
  unfold dIx at h
  induction d generalizing n with
  | nil => simp at h
  | cons p r ih =>
    rw [List.findIdx?_cons] at h
    rw [List.map_cons, List.nodup_cons] at hd
    by_cases z : p.1 = k
    · simp only [z, decide_true, if_true, Option.some.injEq] at h
      subst h
      simp only [List.map_cons, z, if_true, List.set_cons_zero, List.cons.injEq, true_and]
      have : ∀ q ∈ r, (if q.1 = k then (q.1, v) else q) = q := fun q hq => by
        rw [if_neg]
        intro y
        exact hd.1 (List.mem_map.mpr ⟨q, hq, y.trans z.symm⟩)
      exact (List.map_congr_left this).trans (List.map_id' r)
    · simp only [z, decide_false, Bool.false_eq_true, if_false] at h
      cases q : r.findIdx? (fun p => decide (p.1 = k)) with
      | none => rw [q] at h; cases h
      | some m =>
        rw [q] at h
        simp at h
        subst h
        simp only [List.map_cons, if_neg z, List.set_cons_succ, List.cons.injEq, true_and]
        exact ih hd.2 q
theorem dSet_new {d : List (κ × α)} {k : κ} {v : α} (h : dIx d k = none) : dSet d k v = d ++ [(k, v)] := by
  unfold dSet
  rw [dHas_ix, h]
  rfl
theorem dSet_keys {d : List (κ × α)} {k : κ} {v : α} : (dSet d k v).map Prod.fst = if dHas d k = true then d.map Prod.fst else d.map Prod.fst ++ [k] := by
  unfold dSet
  split
  · rw [List.map_map]
    apply List.map_congr_left
    intro p _
    show (if p.1 = k then (p.1, v) else p).1 = p.1
    split <;> rfl
  · rw [List.map_append]; rfl
theorem dSet_nodup {d : List (κ × α)} {k : κ} {v : α} (hd : (d.map Prod.fst).Nodup) : ((dSet d k v).map Prod.fst).Nodup := by
  rw [dSet_keys]
  split
  · exact hd
  · rename_i h
    rw [List.nodup_append]
    refine ⟨hd, by simp, fun a ha b hb => ?_⟩
    rw [List.mem_singleton.mp hb]
    rintro rfl
    obtain ⟨p, hp, e⟩ := List.mem_map.mp ha
    exact h (List.any_eq_true.mpr ⟨p, hp, decide_eq_true e⟩)
end
theorem putK_dSet (us : List (Key × V)) (k : Key) (v : V) : putK us k v = dSet us k v := rfl
section
variable {κ α : Type} [DecidableEq κ] {ke : KeyE κ}
theorem us_ix {β : Type} {us : List (Key × β)} {d : List (κ × α)} (h : us.map Prod.fst = d.map fun p => ke.f p.1) (k : κ) : dIx us (ke.f k) = dIx d k := kv_find h k
theorem us_has {β : Type} {us : List (Key × β)} {d : List (κ × α)} (h : us.map Prod.fst = d.map fun p => ke.f p.1) (k : κ) : dHas us (ke.f k) = dHas d k := by rw [dHas_ix, dHas_ix, us_ix h]
/-- keys behind a store -/
theorem us_put {us : List (Key × V)} {d : List (κ × α)} {k : κ} {v : V} {x : α} (h : us.map Prod.fst = d.map fun p => ke.f p.1) : (putK us (ke.f k) v).map Prod.fst = (dSet d k x).map fun p => ke.f p.1 := by
  have e1 : ((dSet d k x).map fun p => ke.f p.1) = ((dSet d k x).map Prod.fst).map ke.f := by rw [List.map_map]; rfl
  rw [putK_dSet, dSet_keys, e1, dSet_keys, us_has h, h]
  split
  · rw [List.map_map]; rfl
  · rw [List.map_append, List.map_map]; rfl
end
theorem OwAll.drop1 {K : KW} {F G : Hp} : ∀ {vs : List V} {ts : List DV} {fp : List Addr} {n : Nat} {t : DV}, OwAll K F G vs ts fp → ts[n]? = some t →
    ∃ v f1 f2, vs[n]? = some v ∧ OwAll K F G (vs.eraseIdx n) (ts.eraseIdx n) f1 ∧ Ow K F G v t f2 ∧ (∀ a ∈ f1, a ∈ fp) ∧ (∀ a ∈ f2, a ∈ fp) ∧ ∀ a ∈ f1, a ∉ f2
  | _, _, _, _, _, .nil, e => by simp at e
  | _, _, _, 0, _, .cons (f1 := f1) (f2 := f2) h tl dj, e => by
    simp only [List.getElem?_cons_zero, Option.some.injEq] at e
    subst e
    exact ⟨_, f2, f1, rfl, tl, h, (fun a q => List.mem_append_right _ q), (fun a q => List.mem_append_left _ q), fun a q z => dj a z q⟩
  | _, _, _, n + 1, _, .cons (f1 := h1) (f2 := h2) h tl dj, e => by
    simp only [List.getElem?_cons_succ] at e
    obtain ⟨v, f1, f2, e1, o1, o2, m1, m2, d⟩ := OwAll.drop1 tl e
    refine ⟨v, h1 ++ f1, f2, e1, .cons h o1 fun a q z => dj a q (m1 a z), o2, fun a q => ?_, fun a q => List.mem_append_right _ (m2 a q), fun a q z => ?_⟩
    · rcases List.mem_append.mp q with y | y
      · exact List.mem_append_left _ y
      · exact List.mem_append_right _ (m1 a y)
    · rcases List.mem_append.mp q with y | y
      · exact dj a y (m2 a z)
      · exact d a y z
section
variable {κ α : Type} [DecidableEq κ] {ke : KeyE κ} {ok : α → DV} {K : KW} {F G : Hp}
theorem dd_nodup {β : Type} {us : List (Key × β)} {dd : List (κ × α)} (hk : us.map Prod.fst = dd.map fun p => ke.f p.1) (nk : (us.map Prod.fst).Nodup) : (dd.map Prod.fst).Nodup := by
  rw [hk, show (dd.map fun p => ke.f p.1) = (dd.map Prod.fst).map ke.f by rw [List.map_map]; rfl] at nk
  exact List.Pairwise.of_map ke.f (fun _ _ h e => h (congrArg ke.f e)) nk
theorem own_put {us : List (Key × V)} {dd : List (κ × α)} {kk : κ} {y : α} {u : V} {inner fn : List Addr} (hk : us.map Prod.fst = dd.map fun p => ke.f p.1) (nk : (us.map Prod.fst).Nodup)
    (all : OwAll K F G (us.map Prod.snd) (dd.map fun p => ok p.2) inner) (p : Ow K F G u (ok y) fn) (dj : ∀ b ∈ fn, b ∉ inner) :
    ∃ in', OwAll K F G ((putK us (ke.f kk) u).map Prod.snd) ((dSet dd kk y).map fun p => ok p.2) in' ∧ ∀ b ∈ in', b ∈ fn ∨ b ∈ inner := by
  rw [putK_dSet]
  cases q : dIx dd kk with
  | none =>
    rw [dSet_new q, dSet_new (by rw [us_ix hk]; exact q), List.map_append, List.map_append]
    exact ⟨inner ++ fn, all.append (OwAll.one p) (fun a z y => dj a y z), fun b z => (List.mem_append.mp z).symm⟩
  | some n =>
    rw [dSet_old (dd_nodup hk nk) q, dSet_old nk (by rw [us_ix hk]; exact q), List.map_set, List.map_set]
    have hn : n < (dd.map fun p => ok p.2).length := by
      obtain ⟨z, hz⟩ := dIx_at q
      rw [List.length_map]; exact (List.getElem?_eq_some_iff.mp hz).1
    exact all.replace hn p dj
end
section
variable {X : Cx} {e e2 e3 tg iter ie o : Expr} {es : List Expr} {st : Stmt} {ss body : List Stmt} {env env' env1 env2 : AEnv} {d d1 d2 : PyData} {A : AE} {pos p p2 apos cpos sp : Pos} {N : List Str} {i j : Nat} {x : Str} {k : Nat} {t : DV} {r : RV} {put : DV → DV}
variable {κ α : Type} [DecidableEq κ] {ke : KeyE κ} {en : α → PyData} {ok : α → DV} {dd : List (κ × α)} {kk : κ}
/-- o[ie] = e, o a dict at a place -/
theorem ns_dput {y : α} {T : DV} (hr : Room k X.A) (he : XT2 X e env (ok y)) (h : XPl X o env i (oD ke ok dd) put) (hi : ∃ av, env[i]? = some (some av)) (h2 : XD X ie env (ke.d kk)) (hz : dd.length < sizeLine)
    (hp : put (oD ke ok (dSet dd kk y)) = T) (hst : SetN N env i x (some (.o T)) env') (hn : A.nx env')
    (hs : swapsWith e (some (.Subscript o ie sp)) pos.line X.env = pure false := by rfl) :
    XS X (.Assign [.Subscript o ie sp] e pos) env A := fun F0 H0 F σ H D E l => by
  have hs1 := hst.get.1
  subst hp
  subst hs1
  obtain ⟨fp, E⟩ := E
  refine s_of (ps_dput (hu_of hr) e_w e_w e_w hs) (he _ _ F σ H ⟨fp, E⟩ _ fun u fn F1 H1 g1 p1 hf => h _ _ F1 σ H1 fp (E.grow g1) _ fun v F2 H2 f1 w g2 hw2 P => h2 _ _ F2 σ H2 ⟨fp, (E.grow g1).grow g2⟩ _ fun y3 F3 H3 g3 p3 => ?_)
  have gA := (g1.trans g2).trans g3
  have hi' := hi
  obtain ⟨av, hiv⟩ := hi'
  have P3 := P.grown ((E.grow g1).grow g2) hiv g3
  have go := E.gone gA P3
  obtain ⟨a, us, inner, rfl, ef, k1, hk, nk, all, na⟩ := Ow.k_inv P3.sub
  rw [oD_keys] at hk
  rw [oD_vals] at all
  have hk' := keys_of hk
  have g23 := g2.trans g3
  have p3' : Ow X.kw F3 H3 u (ok y) fn := p1.keep g23.f fun b z => by
    obtain ⟨q1, e1, n1, _⟩ := p1.at b z
    rw [e1]; exact g23.h.get e1 n1
  have fi : ∀ b ∈ inner, b ∈ f1 := fun b z => by rw [ef]; exact List.mem_cons_of_mem _ z
  have ha' : a ∈ f1 := by rw [ef]; exact List.mem_cons_self
  have fnF : ∀ b ∈ fn, F3 b = none := fun b z => by
    obtain ⟨q1, e1, _⟩ := p1.at b z
    exact g23.sep b (by rw [e1]; exact fun y => nomatch y) (hf b z).2
  obtain ⟨in', o2, m2⟩ := own_put (kk := kk) hk' nk all p3' fun b z y => (go b (fi b y)).1 (hf b z).1
  have hl : us.length = dd.length := by have := congrArg List.length hk'; simpa using this
  refine ⟨a, _, rfl, .inl ⟨us, ke.f kk, k1, key_v p3, by rw [hl]; exact hz, rfl⟩, ?_⟩
  refine l.nx _ F3 σ _ (E.putDict (kvs' := (dSet dd kk y).map fun p : κ × α => (ke.d p.1, ok p.2)) gA hw2 hi P3 ?_ ?_ (by rw [oD_vals]; exact o2) (fun z => (m2 a z).elim (fun y => (go a ha').1 (hf a y).1) na) fun b z => (m2 b z).elim (fun y => .inr ⟨(hf b y).1, fnF b y⟩) fun y => .inl (fi b y)).at hn
  · have := congrArg (List.map keyD) (us_put (v := u) (x := y) (k := kk) hk')
    rw [List.map_map, List.map_map] at this
    rw [oD_keys]
    exact this
  · rw [putK_dSet]; exact dSet_nodup nk
/-- o.f = e, o an instance at a place; the attribute is there -/
theorem fsput_old {us : List (Str × V)} {f : Str} {n : Nat} {v : V} : (us.map Prod.fst).findIdx? (fun y => decide (y = f)) = some n → putF f v us = us.set n (f, v) := by
  induction us generalizing n with
  | nil => intro h; simp at h
  | cons q r ih =>
    intro h
    rw [List.map_cons, List.findIdx?_cons] at h
    unfold putF
    by_cases z : q.1 = f
    · simp only [z, decide_true, if_true, Option.some.injEq] at h
      subst h
      rw [if_pos z, ← z]; rfl
    · simp only [z, decide_false, Bool.false_eq_true, if_false] at h
      rw [if_neg z]
      cases q2 : (r.map Prod.fst).findIdx? (fun y => decide (y = f)) with
      | none => rw [q2] at h; cases h
      | some m =>
        rw [q2] at h
        simp at h
        subst h
        rw [ih q2]; rfl
theorem fsput_new {us : List (Str × V)} {f : Str} {v : V} : (us.map Prod.fst).findIdx? (fun y => decide (y = f)) = none → putF f v us = us ++ [(f, v)] := by
  induction us with
  | nil => intro _; rfl
  | cons q r ih =>
    intro h
    rw [List.map_cons, List.findIdx?_cons] at h
    unfold putF
    by_cases z : q.1 = f
    · simp [z] at h
    · simp only [z, decide_false, Bool.false_eq_true, if_false] at h
      rw [if_neg z]
      cases q2 : (r.map Prod.fst).findIdx? (fun y => decide (y = f)) with
      | none => rw [ih q2]; rfl
      | some m => rw [q2] at h; cases h
def fsSet (fs : List (Str × DV)) (f : Str) (t : DV) : List (Str × DV) := match (fs.map Prod.fst).findIdx? (fun y => decide (y = f)) with
  | some n => fs.set n (f, t)
  | none => fs ++ [(f, t)]
theorem ns_fld {C : Addr} {fs : List (Str × DV)} {f : Str} {T : DV} (he : XT2 X e env t) (h : XPl X o env i (.i C fs) put) (hi : ∃ av, env[i]? = some (some av)) (hc : Cls X.K C) (ha : NoAttr X.K C f) (hz : fs.length < 1000)
    (hp : put (.i C (fsSet fs f t)) = T) (hst : SetN N env i x (some (.o T)) env') (hn : A.nx env') (hs : swapsWith e (some (.Attribute o f sp)) pos.line X.env = pure false := by rfl) : XS X (.Assign [.Attribute o f sp] e pos) env A := fun F0 H0 F σ H D E l => by
  have hs1 := hst.get.1
  subst hp
  subst hs1
  obtain ⟨fp, E⟩ := E
  refine s_of (ps_fld e_w e_w hs) (he _ _ F σ H ⟨fp, E⟩ _ fun u fn F1 H1 g1 p1 hf => h _ _ F1 σ H1 fp (E.grow g1) _ fun v F2 H2 f1 w g2 hw2 P => ?_)
  have gA := g1.trans g2
  have go := E.gone gA P
  obtain ⟨a, dx, us, inner, rfl, ef, k1, k2, hk, all, na, nd⟩ := Ow.i_inv P.sub
  have hl : us.length = fs.length := by have := congrArg List.length hk; simpa using this
  have p2' : Ow X.kw F2 H2 u t fn := p1.keep g2.f fun b z => by
    obtain ⟨q1, e1, n1, _⟩ := p1.at b z
    rw [e1]; exact g2.h.get e1 n1
  have fi : ∀ b ∈ inner, b ∈ f1 := fun b z => by rw [ef]; exact List.mem_cons_of_mem _ (List.mem_cons_of_mem _ z)
  have ha' : a ∈ f1 := by rw [ef]; exact List.mem_cons_self
  have hd' : dx ∈ f1 := by rw [ef]; exact List.mem_cons_of_mem _ List.mem_cons_self
  have fnF : ∀ b ∈ fn, F2 b = none := fun b z => by
    obtain ⟨q1, e1, _⟩ := p1.at b z
    exact g2.sep b (by rw [e1]; exact fun y => nomatch y) (hf b z).2
  have dj : ∀ b ∈ fn, b ∉ inner := fun b z y => (go b (fi b y)).1 (hf b z).1
  refine ⟨a, C, dx, us, rfl, k1, hc, ha, by rw [hl]; exact hz, ?_⟩
  have key : ∃ in', (putF f u us).map Prod.fst = (fsSet fs f t).map Prod.fst ∧ OwAll X.kw F2 H2 ((putF f u us).map Prod.snd) ((fsSet fs f t).map Prod.snd) in' ∧ ∀ b ∈ in', b ∈ fn ∨ b ∈ inner := by
    unfold fsSet
    cases q : (fs.map Prod.fst).findIdx? (fun y => decide (y = f)) with
    | none =>
      rw [fsput_new (by rw [hk]; exact q), List.map_append, List.map_append, List.map_append, List.map_append, hk]
      exact ⟨inner ++ fn, rfl, all.append (OwAll.one p2') (fun a z y => dj a y z), fun b z => (List.mem_append.mp z).symm⟩
    | some n =>
      rw [fsput_old (by rw [hk]; exact q)]
      show ∃ in', _ = List.map Prod.fst (fs.set n (f, t)) ∧ OwAll _ _ _ _ (List.map Prod.snd (fs.set n (f, t))) in' ∧ _
      rw [List.map_set, List.map_set, List.map_set, List.map_set, hk]
      have hlt : n < (fs.map Prod.snd).length := by
        have := (List.findIdx?_eq_some_iff_getElem.mp q).1
        simpa using this
      obtain ⟨in', o2, m2⟩ := all.replace hlt p2' dj
      exact ⟨in', rfl, o2, m2⟩
  obtain ⟨in', hk2, o2, m2⟩ := key
  exact l.nx _ F2 σ _ (E.putIns gA hw2 hi P k1 hk2 o2 (fun z => (m2 a z).elim (fun y => (go a ha').1 (hf a y).1) na) (fun z => (m2 dx z).elim (fun y => (go dx hd').1 (hf dx y).1) nd) fun b z => (m2 b z).elim (fun y => .inr ⟨(hf b y).1, fnF b y⟩) fun y => .inl (fi b y)).at hn
end
end FR

namespace FR
open PySem PySem.Spec PyProof.Rows L2

/-! ## contracts of defs that are lent a thing of the caller's own (ln: the first argument), or answer with a thing of one's own -/
structure Cs where
  ι : Type
  n : Nat
  ln : Bool
  lent : ι → DV
  args : ι → List PyData
  ok : ι → Prop
  post : ι → RV → DV → Prop
  hl : ∀ i, (args i).length + (if ln = true then 1 else 0) = n
/-- what a call leaves: fw the lent places, gw what they are now, f the answer's own -/
structure Left (K : KW) (F H : Hp) (fw : List Addr) (ln : Bool) (w : V) (t : DV) (v : V) (r : RV) (f gw : List Addr) (F' H' : Hp) : Prop where
  sF : Sm F F'
  sH : Sm (cutF H fw) H'
  fr : Sm F' H'
  sep : ∀ a, a ∉ fw → H a ≠ none → F a = none → F' a = none
  rv : RvOk K F' H' v r f
  lt : ln = true → Ow K F' H' w t gw ∧ ∀ a ∈ gw, (a ∈ fw ∨ H a = none) ∧ F' a = none
  own : ∀ a ∈ f, (a ∈ fw ∨ H a = none) ∧ F' a = none ∧ (ln = true → a ∉ gw)
def SpS (K : KW) (C : Cs) : Sp := fun vs H Q _ => ∃ F i w vs' fw, Sm F H ∧ (if C.ln = true then vs = w :: vs' ∧ Ow K F H w (C.lent i) fw ∧ ∀ a ∈ fw, F a = none else vs = vs' ∧ fw = []) ∧ DpAll K F vs' (C.args i) ∧ C.ok i ∧
  ∀ r t v f gw F' H', C.post i r t → Left K F H fw C.ln w t v r f gw F' H' → Q v H'
theorem spS_len {K : KW} {C : Cs} {vs : List V} {H : Hp} {Q : VK} {E : XK} (h : SpS K C vs H Q E) : vs.length = C.n := by
  obtain ⟨F, i, w, vs', fw, _, h1, h2, _⟩ := h
  have hl := C.hl i
  rw [← dpAll_len h2] at hl
  by_cases z : C.ln = true
  · rw [if_pos z] at h1 hl; rw [h1.1]; simpa using hl
  · rw [if_neg z] at h1 hl; rw [h1.1]; simpa using hl
structure DefS (P : Program) (w : World) (K : PySem.W.Frag) (mg : Str → Option Value) (base : Heap) (x : Str) (k : Nat) (C : Cs) : Prop where
  ex : ∃ f fd ps, FnOk P w K mg base CX0 k f fd ps (SpS ⟨K, w⟩ C) ∧ mg x = some (.ref f) ∧ PySem.W.keepIn K (.ref f) = true ∧ Binds K fd ps []
/-- a method m of the class at c -/
structure MthS (P : Program) (w : World) (K : PySem.W.Frag) (mg : Str → Option Value) (base : Heap) (c : Addr) (m : Str) (k : Nat) (C : Cs) : Prop where
  ex : ∃ f fd ps, FnOk P w K mg base CX0 k f fd ps (SpS ⟨K, w⟩ C) ∧ Meth K c m f ∧ Binds K fd ps []
theorem DefS.mono {P : Program} {w : World} {K : PySem.W.Frag} {mg : Str → Option Value} {base : Heap} {x : Str} {j k : Nat} {C : Cs} (D : DefS P w K mg base x j C) (h : j ≤ k) : DefS P w K mg base x k C :=
  let ⟨f, fd, ps, a, b⟩ := D.ex; ⟨f, fd, ps, a.mono h, b⟩
theorem MthS.mono {P : Program} {w : World} {K : PySem.W.Frag} {mg : Str → Option Value} {base : Heap} {c : Addr} {m : Str} {j k : Nat} {C : Cs} (D : MthS P w K mg base c m j C) (h : j ≤ k) : MthS P w K mg base c m k C :=
  let ⟨f, fd, ps, a, b⟩ := D.ex; ⟨f, fd, ps, a.mono h, b⟩
theorem cut_nil {H : Hp} : cutF H [] = H := by funext b; exact cutF_ne (fun z => nomatch z)
section
variable {X : Cx} {e e2 e3 tg iter ie o e1 : Expr} {es : List Expr} {st : Stmt} {ss body : List Stmt} {env env' env1 env2 : AEnv} {d d1 d2 : PyData} {A : AE} {pos p p2 apos cpos sp : Pos} {N : List Str} {i j : Nat} {x m : Str} {k : Nat} {t : DV} {r : RV} {put : DV → DV} {C : Cs} {c : Addr}
/-! ### calls where nothing is lent -/
theorem spS_pure (K : KW) {F H : Hp} {vs : List V} {Q : VK} {E : XK} (ln : C.ln = false) (g : Sm F H) (ix : C.ι) (ha : DpAll K F vs (C.args ix)) (hp : C.ok ix) (hQ : ∀ r t v f F' H', C.post ix r t → Gro F H F' H' → RvOk K F' H' v r f → (∀ a ∈ f, H a = none ∧ F' a = none) → Q v H') : SpS K C vs H Q E := by
  refine ⟨F, ix, .non, vs, [], g, ?_, ha, hp, fun r t v f gw F' H' hpo L => ?_⟩
  · rw [if_neg (by rw [ln]; exact Bool.false_ne_true)]; exact ⟨rfl, rfl⟩
  · refine hQ r t v f F' H' hpo ⟨L.sF, by have := L.sH; rw [cut_nil] at this; exact this, L.fr, fun a => L.sep a (fun z => nomatch z)⟩ L.rv fun a z => ?_
    obtain ⟨z1, z2, _⟩ := L.own a z
    exact ⟨z1.resolve_left (fun y => nomatch y), z2⟩
theorem xd_callS (D : DefS X.prog X.w X.K X.mg X.base x k C) (hr : Room k X.A) (ln : C.ln = false) (ix : C.ι) (ha : XA X (e :: es) env (C.args ix)) (hp : C.ok ix) (hd : ∀ r t, C.post ix r t → r = .d d) (hg : Gl X x := by rfl) (hdb : (x == ("__debug__" : Str)) = false := by decide)
    (he : starEach (e :: es) X.env = (false, eval e X.env) :: starEach es X.env := by rfl) (hpl : (backTo pos (starEach es X.env)).any (·.1) = false := by rfl) (hx : Passes CX0 X E0 := by exact pass0) : XD X (.Call (.Name x p) (e :: es) [] pos) env d := fun F0 H0 F σ H E Q q => by
  obtain ⟨f, fd, ps, FO, hm, kp, bd⟩ := D.ex
  refine e_of (pe_call FO hr hg hm kp bd .nil hx a_w hdb he hpl) (ha _ _ F σ H E _ fun vs F1 H1 g1 p1 => ?_)
  rw [List.append_nil]
  exact spS_pure X.kw ln g1.fr ix p1 hp fun r t v f F' H' hpo g2 rv hf => by
    obtain rfl := hd r t hpo
    exact q v F' H' (g1.trans g2) rv.1
theorem xn_callS (D : DefS X.prog X.w X.K X.mg X.base x k C) (hr : Room k X.A) (ln : C.ln = false) (ix : C.ι) (ha : XA X (e :: es) env (C.args ix)) (hp : C.ok ix) (hd : ∀ r t', C.post ix r t' → r = .o t) (hg : Gl X x := by rfl) (hdb : (x == ("__debug__" : Str)) = false := by decide)
    (he : starEach (e :: es) X.env = (false, eval e X.env) :: starEach es X.env := by rfl) (hpl : (backTo pos (starEach es X.env)).any (·.1) = false := by rfl) (hx : Passes CX0 X E0 := by exact pass0) : XN X (.Call (.Name x p) (e :: es) [] pos) env t := fun F0 H0 F σ H E Q q => by
  obtain ⟨f, fd, ps, FO, hm, kp, bd⟩ := D.ex
  refine e_of (pe_call FO hr hg hm kp bd .nil hx a_w hdb he hpl) (ha _ _ F σ H E _ fun vs F1 H1 g1 p1 => ?_)
  rw [List.append_nil]
  exact spS_pure X.kw ln g1.fr ix p1 hp fun r t v f F' H' hpo g2 rv hf => by
    obtain rfl := hd r t hpo
    exact q v f F' H' (g1.trans g2) rv fun a z => ⟨g1.h.free (hf a z).1, (hf a z).2⟩
theorem insD_inv {K : KW} {F : Hp} {v : V} {c : Addr} {fs : List (Str × PyData)} (h : Dp K F v (insD c fs)) : ∃ a dx us, v = .ref a ∧ F a = some (.ins c dx us) ∧ us.map Prod.fst = fs.map Prod.fst ∧ DpAll K F (us.map Prod.snd) (fs.map Prod.snd) := by
  generalize hx : insD c fs = x at h
  cases h with
  | ins h1 h2 h3 =>
    rename_i a C dx us fs'
    have hx' := PyData.dict.inj hx
    simp only [List.cons.injEq, Prod.mk.injEq, PyData.int.injEq, true_and] at hx'
    obtain ⟨e1, e2⟩ := hx'
    have e1' : C = c := by have := Int.ofNat.inj e1; exact this.symm
    have e3 : fs' = fs := by
      have inj : ∀ p q : Str × PyData, ((PyData.str p.1, p.2) : PyData × PyData) = (PyData.str q.1, q.2) → p = q := fun p q e => by
        cases p; cases q
        simp only [Prod.mk.injEq, PyData.str.injEq] at e
        rw [e.1, e.2]
      exact ((List.map_inj_right inj).mp e2).symm
    subst e1' e3
    exact ⟨_, _, _, rfl, h1, h2, h3⟩
  | dk h1 h2 h3 =>
    rename_i a us kvs
    exfalso
    have hx' := PyData.dict.inj hx
    rw [← hx'] at h2
    cases us with
    | nil => simp at h2
    | cons u r => simp only [List.map_cons, List.cons.injEq] at h2; cases hu : u.1 <;> simp [keyD, hu] at h2
  | dt h1 h2 h3 h4 => exfalso; unfold insD dictT at hx; simp at hx
  | fn a => exfalso; unfold insD fnD at hx; simp at hx
  | _ => unfold insD at hx; cases hx
theorem no_lookup {β : Type} {us : List (Str × β)} {ns : List Str} {m : Str} (h : us.map Prod.fst = ns) (hno : ns.findIdx? (fun y => decide (y = m)) = none) : us.lookup m = none := by
  have : (us.map Prod.fst).findIdx? (fun y => decide (y = m)) = none := by rw [h]; exact hno
  rw [List.findIdx?_eq_none_iff] at this
  rw [List.lookup_eq_none_iff]
  intro q hq
  have z := this q.1 (List.mem_map.mpr ⟨q, hq, rfl⟩)
  simp only [decide_eq_false_iff_not] at z
  simp [Ne.symm z]
/-- an attribute of an instance that is data -/
theorem xd_fld {fs : List (Str × PyData)} {f : Str} {n : Nat} (h : XD X e env (insD c fs)) (hc : Cls X.K c) (ha : NoAttr X.K c f) (hn : (fs.map Prod.fst).findIdx? (fun y => decide (y = f)) = some n) (ht : fs[n]? = some (f, d))
    (hb : attributeBase e f X.env (eval e X.env) = eval e X.env := by rfl) : XD X (.Attribute e f pos) env d := fun F0 H0 F σ H E Q q =>
  e_of (pe_fld e_w hb) (h _ _ F σ H E _ fun v F1 H1 g1 p1 => by
    obtain ⟨a, dx, us, rfl, h1, h2, h3⟩ := insD_inv p1
    have ht' : (fs.map Prod.snd)[n]? = some d := by rw [List.getElem?_map, ht]; rfl
    obtain ⟨v', e1, e2⟩ := dpAll_get h3 ht'
    exact ⟨a, c, dx, us, v', rfl, g1.fr.get h1, hc, ha, lookup_at (by rw [h2]; exact hn) e1, q v' F1 H1 g1 e2⟩)
/-- a method of an instance that is data -/
theorem xd_methS {pl : Sem Bool} {fs : List (Str × PyData)} {as : List PyData} (D : MthS X.prog X.w X.K X.mg X.base c m k C) (hc : Cls X.K c) (hr : Room k X.A) (ln : C.ln = false) (ho : XD X o env (insD c fs)) (hno : (fs.map Prod.fst).findIdx? (fun y => decide (y = m)) = none) (ix : C.ι) (hix : C.args ix = insD c fs :: as) (ha : XA X (e :: es) env as) (hp : C.ok ix) (hd : ∀ r t, C.post ix r t → r = .d d)
    (hst : starEach (e :: es) X.env = (false, eval e X.env) :: starEach es X.env := by rfl) (hpl : (backTo pos (starEach es X.env)).any (·.1) = false := by rfl)
    (ht : eval (.Call (.Attribute o m apos) (e :: es) [] pos) X.env = (do
      let ov ← eval o X.env
      standAt apos.atName
      let (f, first) ← holding [ov] (getMethod ov m pl)
      callWith pos f first (backTo pos (starEach (e :: es) X.env)) (backToKw pos (keywordEach [] X.env))) := by rfl) (hx : Passes CX0 X E0 := by exact pass0) : XD X (.Call (.Attribute o m apos) (e :: es) [] pos) env d := fun F0 H0 F σ H E Q q => by
  obtain ⟨f, fd, ps, FO, hm, bd⟩ := D.ex
  refine e_of (pe_meth e_w hc hm FO hr bd .nil hx a_w hst hpl ht) (ho _ _ F σ H E _ fun v F1 H1 g1 p1 => ?_)
  obtain ⟨a, dx, us, rfl, h1, h2, h3⟩ := insD_inv p1
  refine ⟨a, dx, us, rfl, g1.fr.get h1, no_lookup h2 hno, ha _ _ F1 σ H1 (E.grow g1) _ fun vs F2 H2 g2 p2 => ?_⟩
  rw [List.append_nil]
  exact spS_pure X.kw ln g2.fr ix (by rw [hix]; exact .cons (dp_mono g2.f p1) p2) hp fun r t v f F' H' hpo g3 rv hf => by
    obtain rfl := hd r t hpo
    exact q v F' H' ((g1.trans g2).trans g3) rv.1
theorem xn_methS {pl : Sem Bool} {fs : List (Str × PyData)} {as : List PyData} (D : MthS X.prog X.w X.K X.mg X.base c m k C) (hc : Cls X.K c) (hr : Room k X.A) (ln : C.ln = false) (ho : XD X o env (insD c fs)) (hno : (fs.map Prod.fst).findIdx? (fun y => decide (y = m)) = none) (ix : C.ι) (hix : C.args ix = insD c fs :: as) (ha : XA X (e :: es) env as) (hp : C.ok ix) (hd : ∀ r t', C.post ix r t' → r = .o t)
    (hst : starEach (e :: es) X.env = (false, eval e X.env) :: starEach es X.env := by rfl) (hpl : (backTo pos (starEach es X.env)).any (·.1) = false := by rfl)
    (ht : eval (.Call (.Attribute o m apos) (e :: es) [] pos) X.env = (do
      let ov ← eval o X.env
      standAt apos.atName
      let (f, first) ← holding [ov] (getMethod ov m pl)
      callWith pos f first (backTo pos (starEach (e :: es) X.env)) (backToKw pos (keywordEach [] X.env))) := by rfl) (hx : Passes CX0 X E0 := by exact pass0) : XN X (.Call (.Attribute o m apos) (e :: es) [] pos) env t := fun F0 H0 F σ H E Q q => by
  obtain ⟨f, fd, ps, FO, hm, bd⟩ := D.ex
  refine e_of (pe_meth e_w hc hm FO hr bd .nil hx a_w hst hpl ht) (ho _ _ F σ H E _ fun v F1 H1 g1 p1 => ?_)
  obtain ⟨a, dx, us, rfl, h1, h2, h3⟩ := insD_inv p1
  refine ⟨a, dx, us, rfl, g1.fr.get h1, no_lookup h2 hno, ha _ _ F1 σ H1 (E.grow g1) _ fun vs F2 H2 g2 p2 => ?_⟩
  rw [List.append_nil]
  exact spS_pure X.kw ln g2.fr ix (by rw [hix]; exact .cons (dp_mono g2.f p1) p2) hp fun r t v f F' H' hpo g3 rv hf => by
    obtain rfl := hd r t hpo
    exact q v f F' H' ((g1.trans g2).trans g3) rv fun a z => ⟨(g1.trans g2).h.free (hf a z).1, (hf a z).2⟩
/-! ### calls with a thing of one's own lent -/
theorem left_env {K : KW} {F0 H0 F F2 : Hp} {σ : L2.St} {H H2 : Hp} {fp : Nat → List Addr} (E : EnvP K F0 H0 F σ H env fp) (g : Gro F H F2 H2) {w v : V} {t t' : DV} {f1 : List Addr} (hv : σ[i]? = some (some w)) (P : Pl K F2 H2 w (fp i) v t f1 put) (hT : ∃ av, env[i]? = some (some av))
    {u : V} {f gw : List Addr} {F' H' : Hp} (L : Left K F2 H2 f1 true v t' u r f gw F' H') : EnvAt K F0 (froz H0 H' f) F' σ H' (env.set i (some (.o (put t')))) ∧ ∀ a ∈ f, H0 a = none ∧ F' a = none := by
  obtain ⟨o1, o2⟩ := L.lt rfl
  have new : ∀ b, H2 b = none → H b = none := fun b z => g.h.free z
  obtain ⟨fp2, E2, m2, k2⟩ := E.mutate g hv P hT L.sF L.sH L.fr L.sep o1 fun b z => ⟨(o2 b z).1.imp (fun y => y) (new b), (o2 b z).2⟩
  have h0 : ∀ a ∈ f, H0 a = none ∧ F' a = none := fun a z => by
    obtain ⟨z1, z2, _⟩ := L.own a z
    exact ⟨z1.elim (fun y => (E.mine i a (P.inn a y)).1) fun y => E.gro.h.free (new a y), z2⟩
  refine ⟨⟨fp2, E2.beside (fun a z => (h0 a z).2) fun a z j y => ?_⟩, h0⟩
  obtain ⟨z1, z2, z3⟩ := L.own a z
  by_cases hj : j = i
  · subst hj
    rcases m2 a y with q | ⟨q1, q2⟩
    · exact z3 rfl q
    · rcases z1 with q | q
      · exact q2 q
      · exact (E.mine j a q1).2.2 (new a q)
  · rw [k2 j hj] at y
    rcases z1 with q | q
    · exact hj (E.apart j i a y (P.inn a q))
    · exact (E.mine j a y).2.2 (new a q)
theorem spS_lent (K : KW) {F H : Hp} {w : V} {vs : List V} {fw : List Addr} {Q : VK} {E : XK} (ln : C.ln = true) (g : Sm F H) (ix : C.ι) (ow : Ow K F H w (C.lent ix) fw) (hF : ∀ a ∈ fw, F a = none) (ha : DpAll K F vs (C.args ix)) (hp : C.ok ix)
    (hQ : ∀ r t v f gw F' H', C.post ix r t → Left K F H fw true w t v r f gw F' H' → Q v H') : SpS K C (w :: vs) H Q E := by
  refine ⟨F, ix, w, vs, fw, g, ?_, ha, hp, fun r t v f gw F' H' hpo L => ?_⟩
  · rw [if_pos ln]; exact ⟨rfl, ow, hF⟩
  · rw [ln] at L; exact hQ r t v f gw F' H' hpo L
/-- f(e1, ..), e1 at a place that is lent -/
theorem xe_callS {t' : DV} (D : DefS X.prog X.w X.K X.mg X.base x k C) (hr : Room k X.A) (ln : C.ln = true) (h : XPl X e1 env i t put) (hi : ∃ av, env[i]? = some (some av)) (ix : C.ι) (hle : C.lent ix = t) (ha : XA X es env (C.args ix)) (hp : C.ok ix) (hd : ∀ r' t0, C.post ix r' t0 → r' = r ∧ t0 = t') (hg : Gl X x := by rfl) (hdb : (x == ("__debug__" : Str)) = false := by decide)
    (he : starEach (e1 :: es) X.env = (false, eval e1 X.env) :: starEach es X.env := by rfl) (hpl : (backTo pos (starEach es X.env)).any (·.1) = false := by rfl) (hx : Passes CX0 X E0 := by exact pass0) : XE X (.Call (.Name x p) (e1 :: es) [] pos) env r (env.set i (some (.o (put t')))) := fun F0 H0 F σ H ⟨fp, E⟩ Q q => by
  obtain ⟨f, fd, ps, FO, hm, kp, bd⟩ := D.ex
  refine e_of (pe_call FO hr hg hm kp bd .nil hx (pa_cons e_w a_w he) hdb he hpl) (h _ _ F σ H fp E _ fun v F1 H1 f1 w g1 hw P => ha _ _ F1 σ H1 ⟨fp, E.grow g1⟩ _ fun vs F2 H2 g2 p2 => ?_)
  show SpS X.kw C ((v :: vs) ++ []) H2 Q _
  rw [List.append_nil]
  obtain ⟨av, hiv⟩ := id hi
  have P2 := P.grown (E.grow g1) hiv g2
  have gA := g1.trans g2
  have go := E.gone gA P2
  refine spS_lent X.kw ln g2.fr ix (by rw [hle]; exact P2.sub) (fun a z => (go a z).2) p2 hp fun r' t0 u f' gw F' H' hpo L => ?_
  obtain ⟨rfl, rfl⟩ := hd r' t0 hpo
  obtain ⟨E3, hf⟩ := left_env E gA hw P2 hi L
  exact q u f' F' H' E3 ((g1.f.trans g2.f).trans L.sF) L.rv hf
/-- o.m(..), o an instance at a place that is lent -/
theorem xe_methS {pl : Sem Bool} {t' : DV} {fs : List (Str × DV)} (D : MthS X.prog X.w X.K X.mg X.base c m k C) (hc : Cls X.K c) (hr : Room k X.A) (ln : C.ln = true) (h : XPl X o env i (.i c fs) put) (hi : ∃ av, env[i]? = some (some av)) (hno : (fs.map Prod.fst).findIdx? (fun y => decide (y = m)) = none) (ix : C.ι) (hle : C.lent ix = .i c fs) (ha : XA X (e :: es) env (C.args ix)) (hp : C.ok ix) (hd : ∀ r' t0, C.post ix r' t0 → r' = r ∧ t0 = t')
    (hst : starEach (e :: es) X.env = (false, eval e X.env) :: starEach es X.env := by rfl) (hpl : (backTo pos (starEach es X.env)).any (·.1) = false := by rfl)
    (ht : eval (.Call (.Attribute o m apos) (e :: es) [] pos) X.env = (do
      let ov ← eval o X.env
      standAt apos.atName
      let (f, first) ← holding [ov] (getMethod ov m pl)
      callWith pos f first (backTo pos (starEach (e :: es) X.env)) (backToKw pos (keywordEach [] X.env))) := by rfl) (hx : Passes CX0 X E0 := by exact pass0) : XE X (.Call (.Attribute o m apos) (e :: es) [] pos) env r (env.set i (some (.o (put t')))) := fun F0 H0 F σ H ⟨fp, E⟩ Q q => by
  obtain ⟨f, fd, ps, FO, hm, bd⟩ := D.ex
  refine e_of (pe_meth e_w hc hm FO hr bd .nil hx a_w hst hpl ht) (h _ _ F σ H fp E _ fun v F1 H1 f1 w g1 hw P => ?_)
  obtain ⟨a, dx, us, inner, ea, ef, k1, k2, hk, _⟩ := Ow.i_inv P.sub
  subst ea
  have look : us.lookup m = none := no_lookup hk hno
  refine ⟨a, dx, us, rfl, k1, look, ha _ _ F1 σ H1 ⟨fp, E.grow g1⟩ _ fun vs F2 H2 g2 p2 => ?_⟩
  rw [List.append_nil]
  obtain ⟨av, hiv⟩ := id hi
  have P2 := P.grown (E.grow g1) hiv g2
  have gA := g1.trans g2
  have go := E.gone gA P2
  refine spS_lent X.kw ln g2.fr ix (by rw [hle]; exact P2.sub) (fun a z => (go a z).2) p2 hp fun r' t0 u f' gw F' H' hpo L => ?_
  obtain ⟨rfl, rfl⟩ := hd r' t0 hpo
  obtain ⟨E3, hf⟩ := left_env E gA hw P2 hi L
  exact q u f' F' H' E3 ((g1.f.trans g2.f).trans L.sF) L.rv hf
theorem xe_methS0 {pl : Sem Bool} {t' : DV} {fs : List (Str × DV)} (D : MthS X.prog X.w X.K X.mg X.base c m k C) (hc : Cls X.K c) (hr : Room k X.A) (ln : C.ln = true) (h : XPl X o env i (.i c fs) put) (hi : ∃ av, env[i]? = some (some av)) (hno : (fs.map Prod.fst).findIdx? (fun y => decide (y = m)) = none) (ix : C.ι) (hle : C.lent ix = .i c fs) (hargs : C.args ix = []) (hp : C.ok ix) (hd : ∀ r' t0, C.post ix r' t0 → r' = r ∧ t0 = t')
    (ht : eval (.Call (.Attribute o m apos) [] [] pos) X.env = (do
      let ov ← eval o X.env
      standAt apos.atName
      let (f, first) ← holding [ov] (getMethod ov m pl)
      callWith pos f first (backTo pos (starEach [] X.env)) (backToKw pos (keywordEach [] X.env))) := by rfl) (hx : Passes CX0 X E0 := by exact pass0) : XE X (.Call (.Attribute o m apos) [] [] pos) env r (env.set i (some (.o (put t')))) := fun F0 H0 F σ H ⟨fp, E⟩ Q q => by
  obtain ⟨f, fd, ps, FO, hm, bd⟩ := D.ex
  refine e_of (pe_meth0 e_w hc hm FO hr bd .nil hx ht) (h _ _ F σ H fp E _ fun v F1 H1 f1 w g1 hw P => ?_)
  obtain ⟨a, dx, us, inner, ea, ef, k1, k2, hk, _⟩ := Ow.i_inv P.sub
  subst ea
  have look : us.lookup m = none := no_lookup hk hno
  refine ⟨a, dx, us, rfl, k1, look, ?_⟩
  show SpS X.kw C [.ref a] H1 Q E0
  have go := E.gone g1 P
  refine spS_lent X.kw ln g1.fr ix (by rw [hle]; exact P.sub) (fun a z => (go a z).2) (by rw [hargs]; exact .nil) hp fun r' t0 u f' gw F' H' hpo L => ?_
  obtain ⟨rfl, rfl⟩ := hd r' t0 hpo
  obtain ⟨E3, hf⟩ := left_env E g1 hw P hi L
  exact q u f' F' H' E3 (g1.f.trans L.sF) L.rv hf
/-- C(..): __init__ is lent the new instance -/
theorem xn_makeS {ci : Str} (D : MthS X.prog X.w X.K X.mg X.base c "__init__" k C) (hM : ∀ f, Meth X.K c "__init__" f → Mk X.K c f) (hr : Room (k + 1) X.A) (ln : C.ln = true) (hm : X.mg ci = some (.ref c)) (ix : C.ι) (hle : C.lent ix = .i c []) (ha : XA X (e :: es) env (C.args ix)) (hp : C.ok ix) (hd : ∀ r' t0, C.post ix r' t0 → r' = .d .none ∧ t0 = t) (hg : Gl X ci := by rfl)
    (hdb : (ci == ("__debug__" : Str)) = false := by decide) (he : starEach (e :: es) X.env = (false, eval e X.env) :: starEach es X.env := by rfl) (hpl : (backTo pos (starEach es X.env)).any (·.1) = false := by rfl) (hx : Passes CX0 X E0 := by exact pass0) : XN X (.Call (.Name ci p) (e :: es) [] pos) env t := fun F0 H0 F σ H E Q q => by
  obtain ⟨f, fd, ps, FO, hme, bd⟩ := D.ex
  refine e_of (pe_make (hM f hme) FO hr hg hm bd .nil hx a_w hdb he hpl) (ha _ _ F σ H E _ fun vs F1 H1 g1 p1 => fun a dx na nd ne => ?_)
  rw [List.append_nil]
  have g2 : Gro F1 H1 F1 (upd (upd H1 dx (.own a)) a (.ins c dx [])) := (Gro.own g1.fr nd).trans (Gro.own (g1.fr.trans (same_new nd)) (by rw [upd_ne (Ne.symm ne)]; exact na))
  have ow : Ow X.kw F1 (upd (upd H1 dx (.own a)) a (.ins c dx [])) (.ref a) (.i c []) [a, dx] := .i upd_same (by rw [upd_ne ne]; exact upd_same) rfl .nil (fun z => nomatch z) (fun z => nomatch z)
  have fN : ∀ b ∈ [a, dx], H1 b = none ∧ F1 b = none := fun b z => by
    rcases List.mem_cons.mp z with rfl | z
    · exact ⟨na, g1.fr.free na⟩
    · rw [List.mem_singleton.mp z]; exact ⟨nd, g1.fr.free nd⟩
  refine spS_lent X.kw ln g2.fr ix (by rw [hle]; exact ow) (fun b z => (fN b z).2) p1 hp fun r' t0 u f' gw F' H' hpo L => ?_
  obtain ⟨rfl, rfl⟩ := hd r' t0 hpo
  obtain ⟨o1, o2⟩ := L.lt rfl
  have rv := L.rv
  refine ⟨dN rv.1, q (.ref a) gw F' H' (g1.trans ⟨L.sF, ⟨fun b y z n => ?_, fun b y z => ?_⟩, L.fr, fun b z1 z2 => ?_⟩) o1 fun b z => ⟨?_, (o2 b z).2⟩⟩
  · have hb : b ∉ [a, dx] := fun y => by rw [(fN b y).1] at z; cases z
    exact L.sH.all b y (by rw [cutF_ne hb]; exact g2.h.all b y z n) n
  · have hb : b ∉ [a, dx] := fun y => by rw [(fN b y).1] at z; cases z
    obtain ⟨qs, e1⟩ := g2.h.tab b y z
    exact L.sH.tab b qs (by rw [cutF_ne hb]; exact e1)
  · exact L.sep b (fun y => z1 (fN b y).1) (g2.h.ne z1) z2
  · rcases (o2 b z).1 with y | y
    · exact g1.h.free (fN b y).1
    · exact g1.h.free (g2.h.free y)
end
/-! ## a def by its body -/
theorem left_of {K : KW} {F H : Hp} {fw : List Addr} {w v : V} {t : DV} {r : RV} {f : List Addr} {env : AEnv} {F' : Hp} {σ : L2.St} {H' : Hp} (E : EnvAt K F (froz (cutF H fw) H' f) F' σ H' env) (hs : env[0]? = some (some (.o (.v w t)))) (rv : RvOk K F' H' v r f) (hf : ∀ a ∈ f, cutF H fw a = none ∧ F' a = none) :
    ∃ gw, Left K F H fw true w t v r f gw F' H' := by
  obtain ⟨fp, E⟩ := E
  obtain ⟨w', _, hw⟩ := E.slot 0 _ hs
  have hw' : w' = w ∧ Ow K F' H' w t (fp 0) := by
    have h : Ow K F' H' w' (.v w t) (fp 0) := hw
    cases h with | v h => exact ⟨rfl, h⟩
  have cut : ∀ a, cutF H fw a = none → a ∈ fw ∨ H a = none := fun a z => by
    by_cases y : a ∈ fw
    · exact .inl y
    · rw [cutF_ne y] at z; exact .inr z
  have hz : ∀ a ∈ f, H' a ≠ none := fun a z => by
    obtain ⟨u, e1, _⟩ := rv.at a z
    rw [e1]; exact fun y => nomatch y
  obtain ⟨E2, nf⟩ := E.unbeside (fun a z => (hf a z).1) hz
  refine ⟨fp 0, E2.gro.f, E2.gro.h, E2.gro.fr, fun a z1 z2 z3 => E2.gro.sep a (by rw [cutF_ne z1]; exact z2) z3, rv, fun _ => ⟨hw'.2, fun a z => ?_⟩, fun a z => ⟨cut a (hf a z).1, (hf a z).2, fun _ y => nf 0 a y z⟩⟩
  obtain ⟨y1, y2, _⟩ := E2.mine 0 a z
  exact ⟨cut a y1, y2⟩
theorem left_of0 {K : KW} {F H : Hp} {w v : V} {t : DV} {r : RV} {f : List Addr} {env : AEnv} {F' : Hp} {σ : L2.St} {H' : Hp} (E : EnvAt K F (froz H H' f) F' σ H' env) (rv : RvOk K F' H' v r f) (hf : ∀ a ∈ f, H a = none ∧ F' a = none) :
    Left K F H [] false w t v r f [] F' H' := by
  obtain ⟨fp, E⟩ := E
  have hz : ∀ a ∈ f, H' a ≠ none := fun a z => by
    obtain ⟨u, e1, _⟩ := rv.at a z
    rw [e1]; exact fun y => nomatch y
  obtain ⟨E2, nf⟩ := E.unbeside (fun a z => (hf a z).1) hz
  exact ⟨E2.gro.f, by rw [cut_nil]; exact E2.gro.h, E2.gro.fr, fun a _ z2 z3 => E2.gro.sep a z2 z3, rv, (fun z => nomatch z), fun a z => ⟨.inr (hf a z).1, (hf a z).2, (fun y => nomatch y)⟩⟩
/-- the start of a def that is lent its first argument -/
theorem env_startL {K : KW} {F H : Hp} {N : List Str} {w : V} {t : DV} {fw : List Addr} {vs : List V} {ds : List PyData} (fr : Sm F H) (ow : Ow K F H w t fw) (hF : ∀ a ∈ fw, F a = none) (h : DpAll K F vs ds) (hl : ds.length + 1 ≤ N.length) :
    EnvAt K F (cutF H fw) F (L2.start N (w :: vs)) H (some (.o (.v w t)) :: (ds.map (fun d => some (.d d)) ++ List.replicate (N.length - ds.length - 1) none)) := by
  have hv := dpAll_len h
  refine ⟨fun j => if j = 0 then fw else [], ⟨Sm.refl F, ⟨fun b u q n => ?_, fun b ps q => ?_⟩, fr, fun _ _ z => z⟩, ?_, fun j av q => ?_, fun j a q => ?_, fun j j2 a q q2 => ?_⟩
  · by_cases z : b ∈ fw
    · rw [cutF_in z] at q; cases q
    · rw [cutF_ne z] at q; exact q
  · by_cases z : b ∈ fw
    · rw [cutF_in z] at q; cases q
    · rw [cutF_ne z] at q; exact ⟨ps, q⟩
  · unfold L2.start
    simp only [List.length_append, List.length_map, List.length_replicate, List.length_cons, hv]
    omega
  · cases j with
    | zero =>
      simp only [List.getElem?_cons_zero, Option.some.injEq] at q
      subst q
      exact ⟨w, by unfold L2.start; rfl, by rw [if_pos rfl]; exact .v ow⟩
    | succ j =>
      simp only [List.getElem?_cons_succ] at q
      have key : ∃ d, ds[j]? = some d ∧ av = .d d := by
        by_cases hi : j < ds.length
        · rw [List.getElem?_append_left (by simpa using hi), List.getElem?_map, List.getElem?_eq_getElem hi] at q
          exact ⟨_, List.getElem?_eq_getElem hi, by simp at q; exact q.symm⟩
        · rw [List.getElem?_append_right (by simpa using hi), List.getElem?_replicate] at q
          split at q <;> cases q
      obtain ⟨d, e1, rfl⟩ := key
      obtain ⟨v, e2, e3⟩ := dpAll_get h e1
      refine ⟨v, ?_, e3, by rw [if_neg (Nat.succ_ne_zero j)]⟩
      unfold L2.start
      rw [List.map_cons, List.cons_append, List.getElem?_cons_succ, List.getElem?_append_left (by simpa using (List.getElem?_eq_some_iff.mp e2).1), List.getElem?_map, e2]
      rfl
  · by_cases z : j = 0
    · rw [if_pos z] at q
      obtain ⟨u, e1, _⟩ := ow.at a q
      exact ⟨cutF_in q, hF a q, by rw [e1]; exact fun y => nomatch y⟩
    · rw [if_neg z] at q; cases q
  · by_cases z : j = 0
    · by_cases z2 : j2 = 0
      · rw [z, z2]
      · rw [if_neg z2] at q2; cases q2
    · rw [if_neg z] at q; cases q
theorem fnS {P : Program} {w : World} {K : PySem.W.Frag} {mg : Str → Option Value} {base : Heap} {x qual : Str} {st : Stmt} {f : Addr} {fd : FuncData} {N ps : List Str} {k : Nat} {C : Cs} (F : Fun K x qual st f fd) (S : FnScope N ps (defScope st)) (hl : C.n = ps.length)
    (hb : ∀ (cdv : Value) (A : Around) (outer : List Env) (s : Shared) (H : Hp) (E : XK), Room k (A.deeper (envOfC qual (defScope st) s.heap.objs.size f cdv)) → ∀ i, C.ok i → ∀ v : V,
      XB (cxOf CX0 P w K mg base N qual (defScope st) f cdv A outer s H E).nox (defBody st)
        (if C.ln = true then some (.o (.v v (C.lent i))) :: ((C.args i).map (fun d => some (.d d)) ++ List.replicate (N.length - (C.args i).length - 1) none) else (C.args i).map (fun d => some (.d d)) ++ List.replicate (N.length - (C.args i).length) none)
        { nx := fun env => if C.ln = true then ∃ t, env[0]? = some (some (.o (.v v t))) ∧ C.post i (.d .none) t else C.post i (.d .none) (.d .none), rt := fun d => C.ln = false ∧ C.post i (.d d) (.d .none),
          rs := fun r env => if C.ln = true then ∃ t, env[0]? = some (some (.o (.v v t))) ∧ C.post i r t else C.post i r (.d .none) }) :
    FnOk P w K mg base CX0 (k + 1) f fd ps (SpS ⟨K, w⟩ C) := by
  have hps : ps.length ≤ N.length := by have := congrArg List.length S.pre; rw [List.length_take] at this; omega
  refine F.ok S (fun vs H Q E h => by rw [spS_len h]; exact hl) fun cdv A outer s H vs Q E hr h => ?_
  obtain ⟨F', i, v, vs', fw, h1, h2, h3, h4, q⟩ := h
  refine ⟨_, b_w, ?_⟩
  have hb := hb cdv A outer s H E hr i h4 v
  have hn := C.hl i
  have nofree : ∀ {F2 H2 : Hp} {σ2 : L2.St} {env2 : AEnv} {B : Hp}, EnvAt ⟨K, w⟩ F' B F2 σ2 H2 env2 → EnvAt ⟨K, w⟩ F' (froz B H2 []) F2 σ2 H2 env2 := fun E2 => by rw [froz_nil]; exact E2
  by_cases z : C.ln = true
  · rw [if_pos z] at h2 hb hn
    obtain ⟨rfl, ow, hF⟩ := h2
    refine hb F' (cutF H fw) F' (L2.start N (v :: vs')) H _ (env_startL h1 ow hF h3 (by omega)) ⟨fun env2 F2 σ2 H2 E2 hp => ?_, fun u d F2 H2 g p hp => ?_, fun _ _ _ _ _ y => y.elim, fun _ _ _ _ _ y => y.elim, fun u r fr env2 F2 σ2 H2 E2 rv hf hp => ?_⟩
    · simp only [if_pos z] at hp
      obtain ⟨t, e1, e2⟩ := hp
      obtain ⟨gw, L⟩ := left_of (v := .non) (r := .d .none) (nofree E2) e1 ⟨.non, rfl⟩ fun _ y => nomatch y
      exact q _ t .non [] gw F2 H2 e2 (by rw [z]; exact L)
    · exact absurd hp.1 (by rw [z]; exact fun y => nomatch y)
    · simp only [if_pos z] at hp
      obtain ⟨t, e1, e2⟩ := hp
      obtain ⟨gw, L⟩ := left_of E2 e1 rv hf
      exact q r t u fr gw F2 H2 e2 (by rw [z]; exact L)
  · have zf : C.ln = false := by cases hz : C.ln with
      | true => exact absurd hz z
      | false => rfl
    rw [if_neg z] at h2 hb hn
    obtain ⟨rfl, rfl⟩ := h2
    refine hb F' H F' (L2.start N vs) H _ (env_start h1 h3 (by omega)) ⟨fun env2 F2 σ2 H2 E2 hp => ?_, fun u d F2 H2 g p hp => ?_, fun _ _ _ _ _ y => y.elim, fun _ _ _ _ _ y => y.elim, fun u r fr env2 F2 σ2 H2 E2 rv hf hp => ?_⟩
    · simp only [if_neg z] at hp
      exact q _ (.d .none) .non [] [] F2 H2 hp (by rw [zf]; exact left_of0 (nofree E2) ⟨.non, rfl⟩ fun _ y => nomatch y)
    · refine q _ (.d .none) u [] [] F2 H2 hp.2 ?_
      rw [zf]
      exact ⟨g.f, by rw [cut_nil]; exact g.h, g.fr, fun a _ => g.sep a, ⟨p, rfl⟩, (fun y => nomatch y), fun _ y => nomatch y⟩
    · simp only [if_neg z] at hp
      exact q r (.d .none) u fr [] F2 H2 hp (by rw [zf]; exact left_of0 E2 rv hf)
end FR

namespace FR
open PySem PySem.Spec PyProof.Rows L2

/-! ## taking out of lists and dicts at a place -/
def rvOf : DV → RV
  | .d x => .d x
  | t => .o t
theorem rv_of {K : KW} {F H : Hp} {v : V} {t : DV} {f : List Addr} (h : Ow K F H v t f) : RvOk K F H v (rvOf t) f := by
  cases t with
  | d x => cases h with | d h => exact ⟨h, rfl⟩
  | _ => exact h
section
variable {X : Cx} {e e2 e3 tg iter ie o e1 : Expr} {es : List Expr} {st : Stmt} {ss body : List Stmt} {env env' env1 env2 : AEnv} {d d1 d2 : PyData} {A : AE} {pos p p2 apos cpos sp : Pos} {N : List Str} {i j : Nat} {x m : Str} {k : Nat} {t : DV} {r : RV} {put : DV → DV} {C : Cs} {c : Addr}
variable {κ α : Type} [DecidableEq κ] {ke : KeyE κ} {en : α → PyData} {ok : α → DV} {dd : List (κ × α)} {kk : κ}
/-- an answer's places beside what is left of a change -/
theorem Mtd.beside {K : KW} {F0 H0 F F' : Hp} {σ : L2.St} {H H' : Hp} {fp : Nat → List Addr} {f1 f' f : List Addr} (M : Mtd K F0 H0 F' σ H' env' fp i f1 f') (E : EnvP K F0 H0 F σ H env fp) (hi : ∀ a ∈ f, a ∈ f1) (hn : ∀ a ∈ f, a ∉ f') (hp : ∀ a ∈ f1, a ∈ fp i) (hF : ∀ a ∈ f, F' a = none) :
    EnvAt K F0 (froz H0 H' f) F' σ H' env' ∧ ∀ a ∈ f, H0 a = none ∧ F' a = none := by
  obtain ⟨fp2, E2, m2, k2⟩ := M
  refine ⟨⟨fp2, E2.beside hF fun a z j y => ?_⟩, fun a z => ⟨(E.mine i a (hp a (hi a z))).1, hF a z⟩⟩
  by_cases hj : j = i
  · subst hj
    rcases m2 a y with q | q
    · exact hn a z q
    · exact q.2 (hi a z)
  · rw [k2 j hj] at y
    exact hj (E.apart j i a y (hp a (hi a z)))
theorem xe_pop {ts : List DV} (h : XPl X o env i (.l (ts ++ [t])) put) (hi : ∃ av, env[i]? = some (some av))
    (hbase : attributeBase o "pop" X.env (eval o X.env) = eval o X.env := by rfl) (hline : (apos.endLine == cpos.line) = true := by rfl) :
    XE X (.Call (.Attribute o "pop" apos) [] [] cpos) env (rvOf t) (env.set i (some (.o (put (.l ts))))) := fun F0 H0 F σ H ⟨fp, E⟩ Q q => by
  refine e_of (pe_bm0 PySem.F.plainAttrs_list PySem.F.slot_list_pop PySem.F.type_list_pop mt_pop e_w hbase hline) (h _ _ F σ H fp E _ fun v F1 H1 f1 w g1 hw P => ?_)
  have go := E.gone g1 P
  obtain ⟨a, vs, inner, ea, ef, h1, all, na⟩ := P.sub.l_inv
  subst ea
  obtain ⟨y, a1, a2, e1, o1, o2, m1, m2, dj⟩ := OwAll.last all
  have fi : ∀ b ∈ inner, b ∈ f1 := fun b z => by rw [ef]; exact List.mem_cons_of_mem _ z
  refine ⟨.inl ⟨rfl, _, .inl (.inl h1)⟩, a, vs, y, rfl, rfl, h1, e1, ?_⟩
  have M := E.putList g1 hw hi P o1 (fun z => na (m1 a z)) fun b z => .inl (fi b (m1 b z))
  obtain ⟨E3, hf⟩ := M.beside (f := a2) E (fun b z => fi b (m2 b z)) (fun b z y => by
    rcases List.mem_cons.mp y with rfl | y
    · exact na (m2 b z)
    · exact dj b y z) P.inn (fun b z => (go b (fi b (m2 b z))).2)
  exact q y a2 F1 _ E3 g1.f (rv_of (o2.updN fun z => na (m2 a z))) hf
/-- d.pop(k), the key there -/
theorem kdrop_ix {β : Type} [DecidableEq β] {γ : Type} {d : List (β × γ)} {k : β} {n : Nat} (hd : (d.map Prod.fst).Nodup) (h : dIx d k = some n) : dDrop d k = d.eraseIdx n := by
  unfold dDrop
  unfold dIx at h
  induction d generalizing n with
  | nil => simp at h
  | cons p r ih =>
    rw [List.findIdx?_cons] at h
    rw [List.map_cons, List.nodup_cons] at hd
    by_cases z : p.1 = k
    · simp only [z, decide_true, if_true, Option.some.injEq] at h
      subst h
      rw [List.filter_cons_of_neg (by simp [z])]
      rw [List.eraseIdx_cons_zero]
      refine List.filter_eq_self.mpr fun q hq => ?_
      have : q.1 ≠ k := fun y => hd.1 (List.mem_map.mpr ⟨q, hq, y.trans z.symm⟩)
      simp [this]
    · simp only [z, decide_false, Bool.false_eq_true, if_false] at h
      cases q : r.findIdx? (fun p => decide (p.1 = k)) with
      | none => rw [q] at h; cases h
      | some m =>
        rw [q] at h
        simp at h
        subst h
        rw [List.filter_cons_of_pos (by simp [z]), List.eraseIdx_cons_succ, ih hd.2 q]
theorem mapErase {β γ : Type} (f : β → γ) : ∀ (xs : List β) (n : Nat), (xs.map f).eraseIdx n = (xs.eraseIdx n).map f
  | [], _ => rfl
  | _ :: _, 0 => rfl
  | y :: ys, n + 1 => by simp only [List.map_cons, List.eraseIdx_cons_succ, mapErase f ys n]
theorem own_drop {K : KW} {F G : Hp} {us : List (Key × V)} {n : Nat} {y : α} {inner : List Addr} (hk : us.map Prod.fst = dd.map fun p => ke.f p.1) (nk : (us.map Prod.fst).Nodup)
    (all : OwAll K F G (us.map Prod.snd) (dd.map fun p => ok p.2) inner) (hn : dIx dd kk = some n) (hy : dd[n]? = some (kk, y)) :
    ∃ v f1 f2, valV us (ke.f kk) = some v ∧ OwAll K F G ((dropK us (ke.f kk)).map Prod.snd) ((dDrop dd kk).map fun p => ok p.2) f1 ∧ Ow K F G v (ok y) f2 ∧ (∀ a ∈ f1, a ∈ inner) ∧ (∀ a ∈ f2, a ∈ inner) ∧ (∀ a ∈ f1, a ∉ f2) ∧
      (dropK us (ke.f kk)).map Prod.fst = (dDrop dd kk).map (fun p => ke.f p.1) ∧ ((dropK us (ke.f kk)).map Prod.fst).Nodup := by
  have hu : dIx us (ke.f kk) = some n := by rw [us_ix hk]; exact hn
  have e1 : dropK us (ke.f kk) = us.eraseIdx n := kdrop_ix nk hu
  have e2 : dDrop dd kk = dd.eraseIdx n := kdrop_ix (dd_nodup hk nk) hn
  have ht : (dd.map fun p => ok p.2)[n]? = some (ok y) := by rw [List.getElem?_map, hy]; rfl
  obtain ⟨v, f1, f2, z1, z2, z3, z4, z5, z6⟩ := all.drop1 ht
  refine ⟨v, f1, f2, ?_, ?_, z3, z4, z5, z6, ?_, ?_⟩
  · rw [valV_ix, show (us.findIdx? fun p => decide (p.1 = ke.f kk)) = some n from hu]
    rw [List.getElem?_map] at z1
    exact z1
  · rw [e1, e2, ← mapErase, ← mapErase]
    exact z2
  · rw [e1, e2, ← mapErase, ← mapErase, hk]
  · rw [e1, ← mapErase]
    exact List.Nodup.sublist (List.eraseIdx_sublist _ _) nk
theorem xe_kpop {y : α} {n : Nat} (h : XPl X o env i (oD ke ok dd) put) (hi : ∃ av, env[i]? = some (some av)) (h2 : XD X e env (ke.d kk)) (hn : dIx dd kk = some n) (hy : dd[n]? = some (kk, y)) (m : M1 X o "pop" apos e cpos := by exact ⟨by rfl, by rfl, by rfl, by rfl⟩) :
    XE X (.Call (.Attribute o "pop" apos) [e] [] cpos) env (rvOf (ok y)) (env.set i (some (.o (put (oD ke ok (dDrop dd kk)))))) := fun F0 H0 F σ H ⟨fp, E⟩ Q q => by
  refine e_of (pe_dpop1 e_w e_w m) (h _ _ F σ H fp E _ fun v F1 H1 f1 w g1 hw P => ?_)
  obtain ⟨a0, us0, in0, e0, _, k0, _⟩ := Ow.k_inv P.sub
  subst e0
  refine ⟨a0, rfl, .inl ⟨us0, .inl k0⟩, h2 _ _ F1 σ H1 ⟨fp, E.grow g1⟩ _ fun u F2 H2 g2 p2 => ?_⟩
  obtain ⟨av, hiv⟩ := id hi
  have P2 := P.grown (E.grow g1) hiv g2
  have gA := g1.trans g2
  have go := E.gone gA P2
  obtain ⟨a, us, inner, ea, ef, h1, hk, nk, all, na⟩ := Ow.k_inv P2.sub
  cases ea
  rw [oD_keys] at hk
  rw [oD_vals] at all
  have hk' := keys_of hk
  obtain ⟨v', a1, a2, z1, z2, z3, z4, z5, z6, z7, z8⟩ := own_drop hk' nk all hn hy
  have fi : ∀ b ∈ inner, b ∈ f1 := fun b z => by rw [ef]; exact List.mem_cons_of_mem _ z
  refine ⟨us, ke.f kk, v', h1, key_v p2, z1, ?_⟩
  have M := E.putDict (kvs' := (dDrop dd kk).map fun p : κ × α => (ke.d p.1, ok p.2)) gA hw hi P2 (by
    have := congrArg (List.map keyD) z7
    rw [List.map_map, List.map_map] at this
    rw [oD_keys]; exact this) z8 (by rw [oD_vals]; exact z2) (fun z => na (z4 a0 z)) fun b z => .inl (fi b (z4 b z))
  obtain ⟨E3, hf⟩ := M.beside (f := a2) E (fun b z => fi b (z5 b z)) (fun b z y => by
    rcases List.mem_cons.mp y with rfl | y
    · exact na (z5 b z)
    · exact z6 b y z) P2.inn (fun b z => (go b (fi b (z5 b z))).2)
  exact q v' a2 F2 _ E3 gA.f (rv_of (z3.updN fun z => na (z5 a0 z))) hf
theorem ns_kdel {y : α} {n : Nat} {T : DV} (h : XPl X o env i (oD ke ok dd) put) (hi : ∃ av, env[i]? = some (some av)) (h2 : XD X ie env (ke.d kk)) (hn : dIx dd kk = some n) (hy : dd[n]? = some (kk, y)) (hp : put (oD ke ok (dDrop dd kk)) = T) (hst : SetN N env i x (some (.o T)) env') (hx : A.nx env') :
    XS X (.Delete [.Subscript o ie sp] pos) env A := fun F0 H0 F σ H D E l => by
  have hs1 := hst.get.1
  subst hp
  subst hs1
  obtain ⟨fp, E⟩ := E
  refine s_of (ps_ddel e_w e_w) (h _ _ F σ H fp E _ fun v F1 H1 f1 w g1 hw P => h2 _ _ F1 σ H1 ⟨fp, E.grow g1⟩ _ fun u F2 H2 g2 p2 => ?_)
  obtain ⟨av, hiv⟩ := id hi
  have P2 := P.grown (E.grow g1) hiv g2
  have gA := g1.trans g2
  obtain ⟨a, us, inner, rfl, ef, h1, hk, nk, all, na⟩ := Ow.k_inv P2.sub
  rw [oD_keys] at hk
  rw [oD_vals] at all
  have hk' := keys_of hk
  obtain ⟨v', a1, a2, z1, z2, z3, z4, z5, z6, z7, z8⟩ := own_drop hk' nk all hn hy
  have fi : ∀ b ∈ inner, b ∈ f1 := fun b z => by rw [ef]; exact List.mem_cons_of_mem _ z
  refine ⟨a, us, ke.f kk, rfl, h1, key_v p2, by rw [z1]; rfl, ?_⟩
  exact l.nx _ F2 σ _ (E.putDict (kvs' := (dDrop dd kk).map fun p : κ × α => (ke.d p.1, ok p.2)) gA hw hi P2 (by
    have := congrArg (List.map keyD) z7
    rw [List.map_map, List.map_map] at this
    rw [oD_keys]; exact this) z8 (by rw [oD_vals]; exact z2) (fun z => na (z4 a z)) fun b z => .inl (fi b (z4 b z))).at hx
/-- d.setdefault(k, z), the values data -/
def dSetd (d : List (κ × α)) (k : κ) (z : α) : Option (α × List (κ × α)) := match dGet d k with
  | some y => if d.length < sizeLine then some (y, d) else none
  | none => if d.length < sizeLine then some (z, dSet d k z) else none
theorem xe_setd {z y : α} {dd' : List (κ × α)} (h : XPl X o env i (oD ke (oW en) dd) put) (hi : ∃ av, env[i]? = some (some av)) (h2 : XD X e env (ke.d kk)) (h3 : XD X e2 env (en z)) (hq : dSetd dd kk z = some (y, dd')) (hself : put (oD ke (oW en) dd) = t) (he : env.set i (some (.o t)) = env) (m : M2 X o "setdefault" apos e e2 cpos := by exact ⟨by rfl, by rfl, by rfl, by rfl⟩) :
    XE X (.Call (.Attribute o "setdefault" apos) [e, e2] [] cpos) env (.d (en y)) (env.set i (some (.o (put (oD ke (oW en) dd'))))) := fun F0 H0 F σ H ⟨fp, E⟩ Q q => by
  refine e_of (pe_dsetd e_w e_w e_w m) (h _ _ F σ H fp E _ fun v F1 H1 f1 w g1 hw P => ?_)
  obtain ⟨a0, us0, in0, e0, _, k0, _⟩ := Ow.k_inv P.sub
  subst e0
  refine ⟨a0, rfl, .inl ⟨us0, .inl k0⟩, h2 _ _ F1 σ H1 ⟨fp, E.grow g1⟩ _ fun u F2 H2 g2 p2 => h3 _ _ F2 σ H2 ⟨fp, (E.grow g1).grow g2⟩ _ fun u3 F3 H3 g3 p3 => ?_⟩
  obtain ⟨av, hiv⟩ := id hi
  have P2 := P.grown (E.grow g1) hiv (g2.trans g3)
  have gA := (g1.trans g2).trans g3
  have go := E.gone gA P2
  obtain ⟨a, us, inner, ea, ef, h1, hk, nk, all, na⟩ := Ow.k_inv P2.sub
  cases ea
  rw [oD_keys] at hk
  rw [oD_vals] at all
  have hk' := keys_of hk
  have hl : us.length = dd.length := by have := congrArg List.length hk'; simpa using this
  have alld : DpAll X.kw F3 (us.map Prod.snd) (dd.map fun p => en p.2) := by
    have : (dd.map fun p => oW en p.2) = (dd.map fun p => en p.2).map .d := by rw [List.map_map]; rfl
    rw [this] at all
    exact (ds_owAll all).1
  have fi : ∀ b ∈ inner, b ∈ f1 := fun b z => by rw [ef]; exact List.mem_cons_of_mem _ z
  have sz : dd.length < sizeLine := by
    unfold dSetd at hq
    split at hq <;> split at hq
    · assumption
    · cases hq
    · assumption
    · cases hq
  have sF := (g1.f.trans g2.f).trans g3.f
  refine ⟨us, ke.f kk, h1, key_v p2, by rw [hl]; exact sz, fun v' hv' => ?_, fun hv' => ?_⟩
  · rcases valV_get hk' alld kk with ⟨q1, q2⟩ | ⟨x', v2, q1, q2, q3⟩
    · rw [hv'] at q2; cases q2
    · rw [hv'] at q2; cases q2
      have e3 : y = x' ∧ dd' = dd := by
        unfold dSetd at hq
        rw [q1] at hq
        simp only [if_pos sz, Option.some.injEq, Prod.mk.injEq] at hq
        exact ⟨hq.1.symm, hq.2.symm⟩
      obtain ⟨rfl, rfl⟩ := e3
      refine q v' [] F3 H3 ?_ sF ⟨q3, rfl⟩ fun _ y => nomatch y
      rw [froz_nil, hself, he]
      exact ⟨fp, E.grow gA⟩
  · rcases valV_get hk' alld kk with ⟨q1, q2⟩ | ⟨x', v2, q1, q2, q3⟩
    · have e3 : y = z ∧ dd' = dSet dd kk z := by
        unfold dSetd at hq
        rw [q1] at hq
        simp only [if_pos sz, Option.some.injEq, Prod.mk.injEq] at hq
        exact ⟨hq.1.symm, hq.2.symm⟩
      obtain ⟨rfl, rfl⟩ := e3
      have ow3 : Ow X.kw F3 H3 u3 (oW en y) [] := .d p3
      obtain ⟨in', o2, m2⟩ := own_put (ok := oW en) (kk := kk) (y := y) hk' nk all ow3 fun _ z => nomatch z
      have M := E.putDict (kvs' := (dSet dd kk y).map fun p : κ × α => (ke.d p.1, oW en p.2)) gA hw hi P2 (by
        have := congrArg (List.map keyD) (us_put (v := u3) (x := y) (k := kk) hk')
        rw [List.map_map, List.map_map] at this
        rw [oD_keys]; exact this) (by rw [putK_dSet]; exact dSet_nodup nk) (by rw [oD_vals]; exact o2) (fun z => (m2 a0 z).elim (fun y => nomatch y) na) fun b z => .inl (fi b ((m2 b z).resolve_left (fun y => nomatch y)))
      exact q u3 [] F3 _ (by rw [froz_nil]; exact M.at) sF ⟨p3, rfl⟩ fun _ y => nomatch y
    · rw [hv'] at q2; cases q2
end
end FR

namespace FR
open PySem PySem.Spec PyProof.Rows L2

/-! ## text methods -/
def sSplit (x y : Str) : Option (List Str) := if (y.length == 0) = false ∧ x.length + 2 ≤ sizeLine then some (Txt.split x y) else none
def sJoin (x : Str) (ys : List Str) : Option Str := if (ys.map (·.length)).sum + ys.length * x.length ≤ 16777216 then some (Txt.join x ys) else none
def enumM {α : Type} (xs : List α) : List (Int × α) := xs.zipIdx.map fun p => ((p.2 : Int), p.1)
def unLast {α : Type} (xs : List α) : Option (List α × α) := if xs.length ≤ sizeLine then (xs.getLast?).map fun x => (xs.dropLast, x) else none
section
variable {X : Cx} {e e2 e3 tg iter ie o e1 : Expr} {es es' : List Expr} {st : Stmt} {ss : List Stmt} {env env' env1 env2 : AEnv} {d d1 d2 : PyData} {A : AE} {pos p p2 apos cpos sp tpos : Pos} {N : List Str} {i j : Nat} {x y : Str} {k : Nat}
theorem xm_split {a b : Str} {v : List Str} (h1 : XD X o env (.str a)) (h2 : XD X e env (.str b)) (q : sSplit a b = some v) (hs : starEach [e] X.env = [(false, eval e X.env)] := by rfl) (hb : attributeBase o "split" X.env (eval o X.env) = eval o X.env := by rfl) (hl : (apos.endLine == pos.line) = true := by rfl) :
    XL X (.Call (.Attribute o "split" apos) [e] [] pos) env (v.map .str) := fun F0 H0 F σ H E Q q' => by
  unfold sSplit at q
  split at q
  · rename_i hz
    cases q
    refine e_of (pe_split e_w e_w hs hb hl) (h1 _ _ F σ H E _ fun v F1 H1 g1 p1 => ⟨⟨a, dS p1⟩, h2 _ _ F1 σ H1 (E.grow g1) _ fun w F2 H2 g2 p2 => ?_⟩)
    refine ⟨a, b, dS p1, by rw [dS p2], hz.1, hz.2, fun r hr => ?_⟩
    have g := g1.trans g2
    exact q' r _ F2 _ (g.trans (Gro.own g.fr hr)) (g.h.free hr) (g.fr.free hr) upd_same (dpAll_ofStrs _)
  · cases q
theorem xm_join {a : Str} {ys : List Str} {v : Str} (h1 : XD X o env (.str a)) (h2 : XD X e env (.list (ys.map .str))) (q : sJoin a ys = some v) (hs : starEach [e] X.env = [(false, eval e X.env)] := by rfl) (hb : attributeBase o "join" X.env (eval o X.env) = eval o X.env := by rfl) (hl : (apos.endLine == pos.line) = true := by rfl) :
    XD X (.Call (.Attribute o "join" apos) [e] [] pos) env (.str v) := fun F0 H0 F σ H E Q q' => by
  unfold sJoin at q
  split at q
  · rename_i hz
    cases q
    refine e_of (pe_join e_w e_w hs hb hl) (h1 _ _ F σ H E _ fun v F1 H1 g1 p1 => ⟨⟨a, dS p1⟩, h2 _ _ F1 σ H1 (E.grow g1) _ fun w F2 H2 g2 p2 => ?_⟩)
    obtain ⟨r, vs, rfl, z1, z2⟩ := dL p2
    have := dpAll_strs z2
    subst this
    exact ⟨a, r, ys, dS p1, rfl, .inl (g2.fr.seq z1), hz, q' _ F2 H2 (g1.trans g2) (.str _)⟩
  · cases q
theorem xm_joinV {a : Str} {ys : List Str} {v : Str} (h1 : XD X o env (.str a)) (h2 : XD X e env (.tuple (ys.map .str))) (q : sJoin a ys = some v) (hs : starEach [e] X.env = [(false, eval e X.env)] := by rfl) (hb : attributeBase o "join" X.env (eval o X.env) = eval o X.env := by rfl) (hl : (apos.endLine == pos.line) = true := by rfl) :
    XD X (.Call (.Attribute o "join" apos) [e] [] pos) env (.str v) := fun F0 H0 F σ H E Q q' => by
  unfold sJoin at q
  split at q
  · rename_i hz
    cases q
    refine e_of (pe_join e_w e_w hs hb hl) (h1 _ _ F σ H E _ fun v F1 H1 g1 p1 => ⟨⟨a, dS p1⟩, h2 _ _ F1 σ H1 (E.grow g1) _ fun w F2 H2 g2 p2 => ?_⟩)
    obtain ⟨r, vs, rfl, z1, z2⟩ := dT p2
    have := dpAll_strs z2
    subst this
    exact ⟨a, r, ys, dS p1, rfl, .inr (seqT_mono g2.fr z1), hz, q' _ F2 H2 (g1.trans g2) (.str _)⟩
  · cases q
theorem xd_m1 {id : String} {nm : Str} {g : Str → Str → V} {gd : Str → Str → PyData} {a b : Str} (slot : Slot "str" nm id) (ty : typeOf (.builtin id) = pure (.type "method_descriptor")) (rule : MtR X id (fun x xs H Q => ∃ a b, x = .str a ∧ xs = [.str b] ∧ Q (g a b) H))
    (h1 : XD X o env (.str a)) (h2 : XD X e env (.str b)) (hg : ∀ F, Dp X.kw F (g a b) (gd a b)) (hs : starEach [e] X.env = [(false, eval e X.env)]) (hb : attributeBase o nm X.env (eval o X.env) = eval o X.env) (hl : (apos.endLine == pos.line) = true) :
    XD X (.Call (.Attribute o nm apos) [e] [] pos) env (gd a b) := fun F0 H0 F σ H E Q q' => by
  refine e_of (pe_m1 slot ty rule e_w e_w hs hb hl) (h1 _ _ F σ H E _ fun v F1 H1 g1 p1 => ⟨⟨a, dS p1⟩, h2 _ _ F1 σ H1 (E.grow g1) _ fun w F2 H2 g2 p2 => ?_⟩)
  exact ⟨a, b, dS p1, by rw [dS p2], q' _ F2 H2 (g1.trans g2) (hg _)⟩
theorem xd_starts {a b : Str} (h1 : XD X o env (.str a)) (h2 : XD X e env (.str b)) (hs : starEach [e] X.env = [(false, eval e X.env)] := by rfl) (hb : attributeBase o "startswith" X.env (eval o X.env) = eval o X.env := by rfl) (hl : (apos.endLine == pos.line) = true := by rfl) :
    XD X (.Call (.Attribute o "startswith" apos) [e] [] pos) env (.bool (Txt.startswith a b)) := xd_m1 (gd := fun a b => .bool (Txt.startswith a b)) F.slot_str_startswith (by kernel_rfl) mt_startswith h1 h2 (fun _ => .bl _) hs hb hl
theorem xd_ends {a b : Str} (h1 : XD X o env (.str a)) (h2 : XD X e env (.str b)) (hs : starEach [e] X.env = [(false, eval e X.env)] := by rfl) (hb : attributeBase o "endswith" X.env (eval o X.env) = eval o X.env := by rfl) (hl : (apos.endLine == pos.line) = true := by rfl) :
    XD X (.Call (.Attribute o "endswith" apos) [e] [] pos) env (.bool (Txt.endswith a b)) := xd_m1 (gd := fun a b => .bool (Txt.endswith a b)) F.slot_str_endswith (by kernel_rfl) mt_endswith h1 h2 (fun _ => .bl _) hs hb hl
theorem xd_find {a b : Str} (h1 : XD X o env (.str a)) (h2 : XD X e env (.str b)) (hs : starEach [e] X.env = [(false, eval e X.env)] := by rfl) (hb : attributeBase o "find" X.env (eval o X.env) = eval o X.env := by rfl) (hl : (apos.endLine == pos.line) = true := by rfl) :
    XD X (.Call (.Attribute o "find" apos) [e] [] pos) env (.int (Txt.find a b)) := xd_m1 (gd := fun a b => .int (Txt.find a b)) F.slot_str_find (by kernel_rfl) mt_find h1 h2 (fun _ => .int _) hs hb hl

/-- a or b, a a text -/
theorem xm_orS {α : Type} {en : α → PyData} {a : Str} {n : Int} {m1 m2 : Option α} {v : α} (h1 : XD X e env (.str a)) (hn : sLen a = some n) (hm1 : ∀ v, m1 = some v → .str a = en v) (h2 : ∀ v, m2 = some v → XD X (.BoolOp .Or (e2 :: es) pos) env (en v)) (q : (if (n != 0) = true then m1 else m2) = some v) :
    XD X (.BoolOp .Or (e :: e2 :: es) pos) env (en v) := fun F0 H0 F σ H E Q q' => by
  unfold sLen at hn
  split at hn
  · rename_i hz
    cases hn
    refine e_of (pe_orT e_w e_w) (h1 _ _ F σ H E _ fun w F1 H1 g1 p1 => ?_)
    rw [dS p1]
    refine ⟨_, ⟨hz, rfl⟩, ?_⟩
    by_cases hc : (((a.length : Int) != 0) = true)
    · rw [if_pos hc]
      rw [if_pos hc] at q
      exact q' _ F1 H1 g1 (hm1 v q ▸ .str _)
    · rw [if_neg hc]
      rw [if_neg hc] at q
      exact h2 v q _ _ F1 σ H1 (E.grow g1) _ fun u F2 H2 g2 p2 => q' u F2 H2 (g1.trans g2) p2
  · cases hn

/-! ## enumerate -/
theorem xi_enum {ds : List PyData} {elts : List Expr} {kk : Nat} (h : XD X e env (.list ds)) (hm : X.mg "enumerate" = none) (hg : Gl X "enumerate" := by rfl) (hs : starEach [e] X.env = [(false, eval e X.env)] := by rfl) :
    XI X (.Tuple elts kk tpos) (.Call (.Name "enumerate" p) [e] [] pos) env ds.length (fun i => .tuple [.int i, ds.getD i .none]) := fun F0 H0 F σ H E R q => by
  refine i_of (pi_enum hg hm a_w hs) (xa1 h hs _ _ F σ H E _ fun vs F1 H1 g1 p1 => ?_)
  obtain ⟨v, rfl, hv⟩ := d1' p1
  obtain ⟨a, vs, rfl, h1, h2⟩ := dL hv
  refine ⟨a, vs, rfl, g1.fr.seq h1, q _ F1 H1 g1 fun F2 H2 s1 s2 => ⟨fun i hi => ?_, ⟨vs, (s1.trans s2).seq h1, Nat.le_of_eq (dpAll_len h2)⟩⟩⟩
  have hi' : i < vs.length := by rw [dpAll_len h2]; exact hi
  refine ⟨⟨vs, vs[i], (s1.trans s2).seq h1, List.getElem?_eq_getElem hi'⟩, fun x H' ⟨T, y, e1, e2, e3, e4⟩ => ?_⟩
  subst e1 e3
  have g := Gro.new (o := .tup [.int (i : Nat), y]) s2 e2
  refine ⟨_, g, .tup (.inl (.inl upd_same)) (.cons (.int _) (.cons ?_ .nil))⟩
  obtain ⟨d, hd, hp⟩ := dpAll_getV h2 (e4 vs ((s1.trans s2).seq h1))
  have e3 : ds.getD i .none = d := getD_of hd
  rw [e3]
  exact dp_mono (s1.trans g.f) hp
theorem enumM_len {α : Type} (xs : List α) : (enumM xs).length = xs.length := by simp [enumM]
theorem enumM_get {α : Type} (xs : List α) (i : Nat) : (enumM xs)[i]? = xs[i]?.map fun x => ((i : Int), x) := by
  unfold enumM
  rw [List.getElem?_map, List.getElem?_zipIdx]
  cases xs[i]? <;> simp
theorem it_enum {α : Type} {en : α → PyData} {xs : List α} {elts : List Expr} {kk : Nat} (h : XD X e env (.list (xs.map en))) (hm : X.mg "enumerate" = none) (hg : Gl X "enumerate" := by rfl) (hs : starEach [e] X.env = [(false, eval e X.env)] := by rfl) :
    XIt X (.Tuple elts kk tpos) (.Call (.Name "enumerate" p) [e] [] pos) env ((enumM xs).map (eP2 eI en)) :=
  xi_to (xi_enum h hm hg hs) (by rw [List.length_map, List.length_map, enumM_len]) fun i hi => by
    rw [List.length_map] at hi
    have hx : xs[i]? = some xs[i] := List.getElem?_eq_getElem hi
    rw [List.getD_eq_getElem?_getD, List.getD_eq_getElem?_getD, List.getElem?_map, List.getElem?_map, enumM_get, hx]
    rfl

/-! ## defs as values -/
structure HeldD (P : Program) (w : World) (K : PySem.W.Frag) (mg : Str → Option Value) (base : Heap) (k : Nat) (f : Addr) (C : Cn) : Prop where
  ex : ∃ fd ps, FnOk P w K mg base CX0 k f fd ps (SpD ⟨K, w⟩ C) ∧ PySem.W.keepIn K (.ref f) = true ∧ Binds K fd ps []
theorem HeldD.mono {P : Program} {w : World} {K : PySem.W.Frag} {mg : Str → Option Value} {base : Heap} {f : Addr} {j k : Nat} {C : Cn} (D : HeldD P w K mg base j f C) (h : j ≤ k) : HeldD P w K mg base k f C :=
  let ⟨fd, ps, a, b⟩ := D.ex; ⟨fd, ps, a.mono h, b⟩
theorem DefOk.held {P : Program} {w : World} {K : PySem.W.Frag} {mg : Str → Option Value} {base : Heap} {x : Str} {k : Nat} {C : Cn} (D : DefOk P w K mg base x k C) : ∃ f, mg x = some (.ref f) ∧ HeldD P w K mg base k f C :=
  let ⟨f, fd, ps, a, b, c, d⟩ := D.ex; ⟨f, b, fd, ps, a, c, d⟩
theorem xd_fnm {f : Addr} (hm : X.mg x = some (.ref f)) (hg : Gl X x := by rfl) (hd : (x == ("__debug__" : Str)) = false := by decide) : XD X (.Name x p) env (fnD f) := fun F0 H0 F σ H E Q q =>
  e_of (pe_glob (v := .ref f) hg hm rfl hd) (q _ F H E.rfl' (.fn f))
theorem dFn {K : KW} {F : Hp} {v : V} {f : Addr} (h : Dp K F v (fnD f)) : v = .ref f := by
  generalize hx : fnD f = z at h
  cases h with
  | fn a =>
    unfold fnD at hx
    simp only [PyData.dict.injEq, List.cons.injEq, Prod.mk.injEq, PyData.int.injEq, and_true, true_and] at hx
    rw [Int.ofNat.inj hx]
  | dk h1 h2 h3 =>
    rename_i a us kvs
    exfalso
    have hx' := PyData.dict.inj hx
    rw [← hx'] at h2
    cases us with
    | nil => simp at h2
    | cons u r => simp only [List.map_cons, List.cons.injEq] at h2; cases hu : u.1 <;> simp [keyD, hu] at h2
  | dt h1 h2 h3 h4 => exfalso; unfold fnD dictT at hx; simp at hx
  | ins h1 h2 h3 => exfalso; unfold fnD insD at hx; simp at hx
  | _ => unfold fnD at hx; cases hx
theorem xd_callV {f : Addr} {C : Cn} (D : HeldD X.prog X.w X.K X.mg X.base k f C) (hr : Room k X.A) (hN : X.N = N) (hat : AtN N env i x (.d (fnD f))) (ix : C.ι) (ha : XA X (e :: es) env (C.args ix)) (hp : C.ok ix) (hd : ∀ r, C.post ix r → r = d)
    (hs : Vis X.env.scope x := by first | exact Or.inl rfl | exact Or.inr (Or.inl rfl) | exact Or.inr (Or.inr rfl)) (hdb : (x == ("__debug__" : Str)) = false := by decide) (hcd : (x == ("__classdict__" : Str)) = false := by decide)
    (he : starEach (e :: es) X.env = (false, eval e X.env) :: starEach es X.env := by rfl) (hpl : (backTo pos (starEach es X.env)).any (·.1) = false := by rfl) (hx : Passes CX0 X E0 := by exact pass0) : XD X (.Call (.Name x p) (e :: es) [] pos) env d := by
  subst hN
  intro F0 H0 F σ H E Q q
  obtain ⟨fd, ps, FO, kp, bd⟩ := D.ex
  obtain ⟨v, s1, s2⟩ := E.slot i _ hat.get.1
  have := dFn s2
  subst this
  refine e_of (pe_callL FO hr hat.get.2 hs kp bd .nil hx a_w hdb hcd he hpl) ⟨s1, ha _ _ F σ H E _ fun vs F1 H1 g1 p1 => ?_⟩
  rw [List.append_nil]
  exact ⟨F1, ix, g1.fr, p1, hp, fun r v F2 H2 hr g2 p2 => q v F2 H2 (g1.trans g2) (hd r hr ▸ p2)⟩
/-- a text of the module -/
theorem xd_gstr {z : Str} (hm : ∃ t, X.mg x = some (.str z t)) (hg : Gl X x := by rfl) (hd : (x == ("__debug__" : Str)) = false := by decide) : XD X (.Name x p) env (.str z) := fun F0 H0 F σ H E Q q => by
  obtain ⟨t, hm⟩ := hm
  exact e_of (pe_glob (v := .str z) hg hm ⟨t, rfl⟩ hd) (q _ F H E.rfl' (.str z))

/-! ## *xs, x = a list -/
theorem dpAll_lastInv {K : KW} {H : Hp} {d : PyData} : ∀ {ds : List PyData} {vs : List V}, DpAll K H vs (ds ++ [d]) → ∃ vs1 v1, vs = vs1 ++ [v1] ∧ DpAll K H vs1 ds ∧ Dp K H v1 d
  | [], _, .cons h .nil => ⟨[], _, rfl, .nil, h⟩
  | _ :: _, _, .cons h t => by
    obtain ⟨vs1, v1, e, a, b⟩ := dpAll_lastInv t
    exact ⟨_ :: vs1, v1, by rw [e]; rfl, .cons h a, b⟩
theorem xg_star1 {js : List Nat} {env2 : AEnv} {ds : List PyData} {kk : Nat} (hc : X.calm = true) (h : XGs X es' js env [.list ds, d] env2)
    (hn : (assignEach es X.env).length = 2 := by rfl) (hst : (assignEach es X.env).findIdx? (·.1) = some 0 := by rfl) (hm : (assignEach es X.env).map (·.2) = (assignEach es' X.env).map (·.2) := by rfl) (hz : ds.length + 1 ≤ sizeLine) :
    XG X (.Tuple es kk p) js env (.list (ds ++ [d])) env2 := fun F0 H0 F σ H v E hd Q q => by
  obtain ⟨ts, hp, ht⟩ := h
  obtain ⟨a, vs, rfl, h1, h2⟩ := dL hd
  obtain ⟨vs1, v1, rfl, k1, k2⟩ := dpAll_lastInv h2
  refine ⟨fun pins s u I r => ?_⟩
  cases r
  obtain ⟨its, rv, pl, hz2⟩ := I.list (E.fr.seq h1)
  obtain ⟨u1, u2, rfl, r1, r2⟩ := StX.vals_split rv
  have el : vs1.length = ds.length := dpAll_len k1
  obtain ⟨uu, rfl⟩ : ∃ uu, u2 = [uu] := by
    cases r2 with
    | cons a b => cases b; exact ⟨_, rfl⟩
  have hl : s.heap.IsList a (u1 ++ [uu]).toArray := pl.isList
  have hh := I.ok.hd hc
  have hlen1 : u1.length = vs1.length := r1.length.symm
  have hsz : (u1 ++ [uu]).toArray.size = ds.length + 1 := by simp [hlen1, el]
  rw [PyProof.Rows.assign_Tuple]
  refine wpAny_bind (wpAny_standAt ?_)
  unfold unpack
  rw [hn, hst]
  refine wpAny_bind (wpAny_holding ?_)
  have hlt : a ≠ s.heap.objs.size := by obtain ⟨ob, ho, _⟩ := hl; exact Nat.ne_of_lt (Heap.lt_size ho)
  have hll : a < s.heap.objs.size := by obtain ⟨ob, ho, _⟩ := hl; exact Heap.lt_size ho
  unfold unpackItems
  refine wpAny_bind ?_
  unfold notIterableAtAll
  refine wpAny_bind (wpAny_specialOf hl.typeIs slot_list_iter.lookup ?_)
  refine wpAny_pure ?_
  simp only [Bool.false_eq_true, if_false]
  refine wpAny_bind (wpAny_holding (wpAny_pyIter_list hl ?_))
  refine wpAny_bind (wpAny_holding (wpAny_pure ?_))
  rw [if_neg (show ¬ (([] : List Value).length < 0) by decide)]
  refine wpAny_bind (wpAny_holding (PySem.W.kun_collect (s := { s with heap := s.heap.push _ }) (T := "list_iterator") (.inr (.inr (.inl rfl))) (Walks.list (A := X.A.in1) hh s.heap.objs.size a hlt _) (fun j u st => st.1.typeIs) (k := 0) (by omega) ⟨⟨_, Heap.get?_push_size _ rfl, rfl, rfl⟩, hl.push _⟩ (by rw [Heap.size_push]; exact Nat.lt_succ_self _) (by rw [Heap.size_push]; exact Nat.lt_succ_of_lt hll) (fun h₂ tk hk => ?_) (by rw [hsz]; exact hz)))
  have hdrop : (u1 ++ [uu]).toArray.toList.drop 0 = u1 ++ [uu] := rfl
  rw [hdrop]
  have hL : (u1 ++ [uu]).length = u1.length + 1 := by simp
  rw [if_neg (by rw [hL]; omega)]
  have hmid : (u1 ++ [uu]).length - (2 - 1 - 0) = u1.length := by rw [hL]; omega
  show wpAny _ _ (newList ((u1 ++ [uu]).take ((u1 ++ [uu]).length - (2 - 1 - 0))) >>= fun D => pure ([] ++ [D] ++ (u1 ++ [uu]).drop ((u1 ++ [uu]).length - (2 - 1 - 0)))) _ _ _
  rw [hmid, List.take_left, List.drop_left]
  have I1 : Inv X pins σ H { s with heap := h₂, toks := tk } := I.kept (t' := tk) fun b u e => hk b u (Nat.ne_of_lt (Heap.lt_size e)) (Heap.get?_push_of_some _ e)
  have hu1 : u1.length ≤ sizeLine := by omega
  refine wpAny_bind (wpAny_newList ?_ hu1)
  have hn2 : H h₂.objs.size = none := I1.hok.fresh (Nat.le_refl _)
  have I2 : Inv X pins σ (upd H h₂.objs.size (.lst vs1)) { s with heap := h₂.push { cls := .type "list", data := .seq u1.toArray }, toks := tk } :=
    I1.laid (t' := tk) (fun b u e => Heap.get?_push_of_some _ e) (Nat.le_refl _) ⟨by omega, u1, 0, r1, Heap.get?_push_size _ rfl⟩
  refine wpAny_pure ?_
  have g := Gro.new (o := .lst vs1) E.fr hn2
  rw [hm]
  refine hp.run pins _ σ _ [.ref h₂.objs.size, v1] _ _ I2 (.cons rfl r2) ?_
  exact ht F0 H0 _ σ _ _ (E.grow g) (.cons (.lst (.inl (.inl upd_same)) (dpAll_mono g.f k1)) (.cons (dp_mono g.f k2) .nil)) _ fun σ2 F2 H2 g2 E2 k3 => q σ2 F2 H2 (g.trans g2) E2 k3
abbrev eStar {α : Type} (en : α → PyData) (p : List α × α) : PyData := .list (p.1.map en ++ [en p.2])
theorem unLast_eq {α : Type} {xs : List α} {v : List α × α} (q : unLast xs = some v) : xs = v.1 ++ [v.2] ∧ v.1.length + 1 ≤ sizeLine := by
  unfold unLast at q
  split at q
  · rename_i hz
    rw [Option.map_eq_some_iff] at q
    obtain ⟨x, e1, rfl⟩ := q
    have hne : xs ≠ [] := fun z => by rw [z] at e1; cases e1
    have e2 : xs = xs.dropLast ++ [x] := by
      rw [List.getLast?_eq_some_getLast hne] at e1
      cases e1
      exact (List.dropLast_concat_getLast hne).symm
    refine ⟨e2, ?_⟩
    have := congrArg List.length e2
    simp only [List.length_append, List.length_cons, List.length_nil] at this
    show xs.dropLast.length + 1 ≤ sizeLine
    omega
  · cases q
theorem xd_ulast {α : Type} {en : α → PyData} {xs : List α} {v : List α × α} (h : XD X e env (.list (xs.map en))) (q : unLast xs = some v) : XD X e env (eStar en v) := by
  obtain ⟨e1, _⟩ := unLast_eq q
  rw [e1, List.map_append] at h
  exact h
end
end FR

namespace FR
open PySem PySem.Spec PyProof.Rows L2

/-! ## sets of tuples of ints and texts -/
abbrev isK (P : Program) (w : World) (h : Heap) (k : List Key) (b : Addr) : Prop := IsTupleKey (mixKind P w) h k b
abbrev hsh (P : Program) (w : World) (k : List Key) : Int := tupleKeyHash (mixKind P w) k
abbrev AK := Addr × List Key
def entK (P : Program) (w : World) (l : List AK) : List (Int × Value) := l.map fun q => (hsh P w q.2, .ref q.1)
/-- the table holds the keys l, in its rows' order -/
structure TabK (P : Program) (w : World) (l : List AK) (es : Array (Int × Value)) (t : SetTable) : Prop where
  ent : es.toList = entK P w l
  tab : TabOk t (l.map fun q => hsh P w q.2)
  once : (l.map (·.2)).Nodup
  ord : w.params.followText "set-order" = true ∨ t.led = true
  wide : l.length * 5 < t.mask * 3
  few : l.length < 64
def KSet (P : Program) (w : World) (h : Heap) (a : Addr) (l : List AK) : Prop :=
  (∃ o es ep t, h.get? a = some o ∧ o.ExactSet ∧ o.data = .set es ep t ∧ TabK P w l es t) ∧ ∀ q ∈ l, isK P w h q.2 q.1
theorem isK_up {P : Program} {w : World} {h h' : Heap} {k : List Key} {b : Addr} (x : isK P w h k b) (up : ∀ o, h.get? b = some o → h'.get? b = some o) : isK P w h' k b :=
  let ⟨o, its, n, e, r⟩ := x; ⟨o, its, n, up o e, r⟩
section
variable {P : Program} {w : World} {A : Around} {E : Value → Shared → Prop} {s : Shared} {a : Addr} {l : List AK} {es : Array (Int × Value)} {t : SetTable} {ep : Nat}
theorem TabK.size (T : TabK P w l es t) : es.size = l.length := by
  have := congrArg List.length T.ent
  simpa [entK] using this
theorem TabK.slots (T : TabK P w l es t) : t.place.size = l.length := by
  have := T.tab.sz
  simpa using this
theorem TabK.fits (T : TabK P w l es t) : t.fits es.size = true := by
  have h1 := T.slots
  have h2 := T.size
  have h3 := T.wide
  simp only [SetTable.fits, SetTable.fill, T.tab.dm, Bool.and_eq_true, beq_iff_eq, decide_eq_true_eq]
  have e0 : (#[] : Array Nat).size = 0 := rfl
  constructor <;> omega
theorem TabK.row (T : TabK P w l es t) {i : Nat} {q : AK} (h : l[i]? = some q) : es[i]? = some (hsh P w q.2, .ref q.1) := by
  have : es.toList[i]? = some (hsh P w q.2, .ref q.1) := by rw [T.ent]; simp [entK, h]
  rwa [Array.getElem?_toList] at this
theorem TabK.stays (T : TabK P w l es t) : ¬ t.gaveWay = true := by
  unfold SetTable.gaveWay; rw [mask_odd T.tab.mok]; decide
theorem scal_of {k : Key} {v : Value} (h : (mixKind P w).is k v = true) : (∃ i u, v = .int i u) ∨ ∃ x u, v = .str x u := by
  have h : keyIs k v = true := h
  cases v with
  | int i u => exact .inl ⟨i, u, rfl⟩
  | str x u => exact .inr ⟨x, u, rfl⟩
  | _ => cases k <;> simp [keyIs, Value.isInt, Value.isStrOf] at h
theorem scals {ks : List Key} {vs : List Value} (h : ItemsAre (mixKind P w) ks vs) : ∀ v ∈ vs, (∃ i u, v = .int i u) ∨ ∃ x u, v = .str x u := by
  induction h with
  | nil => exact fun v q => nomatch q
  | cons h1 _ ih => exact fun v q => (List.mem_cons.mp q).elim (fun e => e ▸ scal_of h1) (ih v)
theorem noCls {v : Value} (h : (∃ i u, v = .int i u) ∨ ∃ x u, v = .str x u) (n : Nat) : ofAClassStatement n v = pure false ∧ ∃ b, hashByValue n v = pure b := by
  rcases h with ⟨i, u, rfl⟩ | ⟨x, u, rfl⟩
  · exact ⟨by cases n <;> rfl, true, by cases n <;> rfl⟩
  · exact ⟨by cases n <;> rfl, _, by rw [hashByValue_scannable n (x := Value.str x u) rfl]⟩
theorem cls_K {k : List Key} {b : Addr} {Q : Bool → Shared → Prop} (x : isK P w s.heap k b) (q : Q false s) : wpAny (model P w) A (ofAClassStatement 8 (.ref b)) Q E s := by
  have ty := x.typeIs
  obtain ⟨o, its, n, g, _, dd, all⟩ := x
  unfold ofAClassStatement
  refine wpAny_bind (wpAny_typeOf ty ?_); dsimp only
  rw [show (("tuple" : String) == "tuple") = true from rfl]
  simp only [if_true, Bool.not_true, Bool.false_eq_true, if_false]
  try refine wpAny_bind (wpAny_pure ?_)
  try simp only [Bool.not_true, Bool.false_eq_true, if_false]
  refine wpAny_bind (m := seqItems? (.ref b)) (wpAny_seqItems g dd ?_); dsimp only
  refine wpAny_bind ?_
  show wpAny _ _ (forIn its _ _) _ _ s
  rw [← Array.forIn_toList]
  refine wpAny_forIn_list _ (fun rest r u => (r.1 = none ∧ u = s) ∧ ∀ v ∈ rest, (∃ i u, v = .int i u) ∨ ∃ x u, v = .str x u) _ (fun v rest r u hi => ?_) (fun r u hi => ?_) _ _ ⟨⟨rfl, rfl⟩, scals all⟩
  · obtain ⟨⟨h1, rfl⟩, h2⟩ := hi
    rw [(noCls (h2 v List.mem_cons_self) _).1]
    refine wpAny_bind (wpAny_pure ?_); simp only [Bool.false_eq_true, if_false]
    exact wpAny_pure ⟨⟨rfl, rfl⟩, fun y m => h2 y (List.mem_cons_of_mem _ m)⟩
  · obtain ⟨r1, r2⟩ := r
    obtain ⟨⟨h1, rfl⟩, _⟩ := hi
    simp only at h1; subst h1; exact wpAny_pure q
theorem val_K {k : List Key} {b : Addr} {Q : Bool → Shared → Prop} (x : isK P w s.heap k b) (q : ∀ c, Q c s) : wpAny (model P w) A (hashByValue 8 (.ref b)) Q E s := by
  have ty := x.typeIs
  obtain ⟨o, its, n, g, _, dd, all⟩ := x
  unfold hashByValue
  refine wpAny_bind (wpAny_specialOf ty F.slot_tuple_hash.lookup ?_)
  refine wpAny_bind (m := seqItems? (.ref b)) (wpAny_seqItems g dd ?_)
  refine wpAny_bind ?_
  show wpAny _ _ (forIn its _ _) _ _ s
  rw [← Array.forIn_toList]
  refine wpAny_forIn_list _ (fun rest r u => u = s ∧ ∀ v ∈ rest, (∃ i u, v = .int i u) ∨ ∃ x u, v = .str x u) _ (fun v rest r u hi => ?_) (fun r u hi => ?_) _ _ ⟨rfl, scals all⟩
  · obtain ⟨rfl, h2⟩ := hi
    obtain ⟨bv, e⟩ := (noCls (h2 v List.mem_cons_self) 7).2
    rw [e]
    refine wpAny_bind (wpAny_pure ?_)
    cases bv
    · simp only [Bool.not_false, if_true]
      exact wpAny_pure (wpAny_pure (q _))
    · simp only [Bool.not_true, Bool.false_eq_true, if_false]
      exact wpAny_pure ⟨rfl, fun y m => h2 y (List.mem_cons_of_mem _ m)⟩
  · obtain ⟨r1, r2⟩ := r
    obtain ⟨rfl, _⟩ := hi
    cases r1 with
    | none => exact wpAny_pure (q _)
    | some v => exact wpAny_pure (q _)
theorem unseen_K {k : List Key} {b : Addr} {Q : Bool → Shared → Prop} (x : isK P w s.heap k b) {ys : List Value} (hy : ∀ y ∈ ys, ∃ k' c, y = Value.ref c ∧ isK P w s.heap k' c) (q : Q false s) : wpAny (model P w) A (searchCouldBeSeen (.ref b) ys) Q E s := by
  unfold searchCouldBeSeen
  refine wpAny_bind (wpAny_forIn_list _ (fun rest r u => (r.1 = none ∧ u = s) ∧ ∀ y ∈ rest, ∃ k' c, y = Value.ref c ∧ isK P w s.heap k' c) _ (fun v rest r u hi => ?_) (fun r u hi => ?_) _ _ ⟨⟨rfl, rfl⟩, hy⟩)
  · obtain ⟨⟨h1, rfl⟩, h2⟩ := hi
    obtain ⟨k', c, rfl, y⟩ := h2 v List.mem_cons_self
    have on : ∀ y ∈ rest, ∃ k' c, y = Value.ref c ∧ isK P w u.heap k' c := fun z m => h2 z (List.mem_cons_of_mem _ m)
    dsimp only
    by_cases same : (b == c || (carriedByValue (.ref b) && carriedByValue (.ref c))) = true
    · exact wp_if_pos same (wpAny_pure ⟨⟨rfl, rfl⟩, on⟩)
    · refine wp_if_neg same (wpAny_bind (wpAny_eqIsQuiet_tuple x ?_)); simp only [Bool.not_true, Bool.false_eq_true, if_false]
      refine wpAny_bind (wpAny_eqIsQuiet_tuple y ?_); simp only [Bool.not_true, Bool.false_eq_true, if_false]
      refine wpAny_bind (cls_K x ?_); simp only [Bool.false_eq_true, if_false]
      refine wpAny_bind (cls_K y ?_); simp only [Bool.false_eq_true, if_false]
      exact wpAny_pure ⟨⟨rfl, rfl⟩, on⟩
  · obtain ⟨r1, r2⟩ := r
    obtain ⟨⟨h1, rfl⟩, _⟩ := hi
    simp only at h1; subst h1; exact wpAny_pure q

/-! the search -/
abbrev start0 (m : Nat) (h : Int) : SetTable.Probe := runAt m (SetTable.bits h % (m + 1)) (SetTable.bits h)
theorem clean_nth (m : Nat) : ∀ (n : Nat) (p : SetTable.Probe), p.dummy = none → (nth m p n).dummy = none
  | 0, _, h => h
  | n + 1, p, h => clean_nth m n (adv m p) (by unfold adv; split <;> exact h)
theorem seek {o : Obj} (g : s.heap.get? a = some o) (dd : o.data = .set es ep t) (T : TabK P w l es t) (ky : ∀ q ∈ l, isK P w s.heap q.2 q.1) {x : Addr} {k : List Key} (hx : isK P w s.heap k x) (hu : A.units < cLine) {N : Nat}
    (hN : N < 10 * SetTable.turns t.mask) (empty : way t.mask (hsh P w k) N ∉ t.place.toList) (taken : ∀ c, c < N → way t.mask (hsh P w k) c ∈ t.place.toList) {Q : SetFound → Shared → Prop}
    (yes : k ∈ l.map (·.2) → Q (.there none) s) (no : k ∉ l.map (·.2) → Q (.free (way t.mask (hsh P w k) N) false) s) :
    ∀ (f c : Nat) (st : Option SetTable.Probe), st.getD (t.probeStart (hsh P w k)) = nth t.mask (start0 t.mask (hsh P w k)) c → c ≤ N → N - c < f →
      (∀ (i : Nat) (q : AK), l[i]? = some q → q.2 = k → ∃ c', (c ≤ c' ∧ c' < N) ∧ t.place.toList[i]? = some (way t.mask (hsh P w k) c')) →
      wpAny (model P w) A (setSearchFrom a (.ref x) (hsh P w k) true f st) Q E s := by
  intro f
  induction f with
  | zero => intro c st _ _ z; exact absurd z (Nat.not_lt_zero _)
  | succ f ih =>
    intro c st hst hc hf ahead
    rw [setSearchFrom_succ]
    refine wpAny_bind (wpAny_setState_of g dd T.fits ?_); dsimp only
    refine wp_if_neg T.stays ?_
    have shift : ∀ q, nth t.mask (nth t.mask (start0 t.mask (hsh P w k)) c) q = nth t.mask (start0 t.mask (hsh P w k)) (c + q) := fun q => (nth_add t.mask c _ q).symm
    have shj : ∀ q, (nth t.mask (nth t.mask (start0 t.mask (hsh P w k)) c) q).j = way t.mask (hsh P w k) (c + q) := fun q => by rw [shift]
    have hN' : c + (N - c) = N := by omega
    have hsAt : ∀ (i : Nat) (q : AK), l[i]? = some q → (es[i]?.map (·.1)).getD 0 = hsh P w q.2 := fun i q z => by rw [T.row z]; rfl
    obtain spec := go_spec t T.tab.ris T.tab.dm (fun i => (es[i]?.map (·.1)).getD 0) (hsh P w k) (10 * SetTable.turns t.mask) (N - c) _ (clean_nth t.mask c (start0 t.mask (hsh P w k)) rfl) (by omega) (fun q z => by rw [shj]; exact taken _ (by omega)) (by rw [shj, hN']; exact empty)
    have mine : ∀ (i : Nat) (q : AK), l[i]? = some q → q.2 = k → ∃ c' : Nat, (c ≤ c' ∧ c' < N) ∧ t.place.toList[i]? = some (nth t.mask (nth t.mask (start0 t.mask (hsh P w k)) c) (c' - c)).j ∧ (es[i]?.map (·.1)).getD 0 = hsh P w k := fun i q z e => by
      obtain ⟨c', h1, h2⟩ := ahead i q z e
      refine ⟨c', h1, ?_, by rw [hsAt i q z, e]⟩
      rw [shj, show c + (c' - c) = c' by omega]; exact h2
    rcases spec with ⟨n, i, n1, n2, n3, n4, n5⟩ | ⟨n4, n5⟩
    · have pr : t.probe (fun i => (es[i]?.map (·.1)).getD 0) (hsh P w k) (st.getD (t.probeStart (hsh P w k))) = some (.candidate (way t.mask (hsh P w k) (c + n)) i (nth t.mask (start0 t.mask (hsh P w k)) (c + (n + 1)))) := by
        rw [hst, ← shj, ← shift]; exact n5
      rw [pr]; dsimp only
      have il : i < l.length := by
        have z1 := (List.getElem?_eq_some_iff.mp n2).1
        rw [Array.length_toList, T.slots] at z1; exact z1
      obtain ⟨q, hq⟩ : ∃ q, l[i]? = some q := ⟨_, List.getElem?_eq_getElem il⟩
      have mq := List.mem_of_getElem? hq
      rw [shj] at n2
      have core : wpAny (model P w) A (searchRest a (.ref x) (hsh P w k) true f es t (way t.mask (hsh P w k) (c + n)) i (nth t.mask (start0 t.mask (hsh P w k)) (c + (n + 1)))) Q E s := by
        unfold searchRest
        rw [T.row hq]; dsimp only
        refine wpAny_bind (wpAny_holding (wpAny_eqBool_tuple hu (ky q mq) hx (wpAny_bind (wpAny_setState_of g dd T.fits ?_)))); dsimp only
        by_cases e : q.2 = k
        · exact wp_if_pos (by simp [e]) (wpAny_pure (yes (List.mem_map.mpr ⟨q, mq, e⟩)))
        · refine wp_if_neg (by simp [e]) ?_
          rw [sameMem]; dsimp only
          have live := slot_live T.tab.ris n2
          simp only [if_true, live, T.row hq]
          refine wpAny_bind (wpAny_isSame_ref_self (wpAny_bind (wpAny_pure ?_))); simp only [if_true]
          refine wp_if_neg (by simp [e]) (ih (c + (n + 1)) _ rfl (by omega) (by omega) fun i0 q0 z e0 => ?_)
          obtain ⟨c', h1, h2⟩ := ahead i0 q0 z e0
          refine ⟨c', ⟨?_, h1.2⟩, h2⟩
          refine Nat.lt_of_not_le fun le => ?_
          rcases Nat.lt_or_eq_of_le (show c' ≤ c + n from le) with lt | rfl
          · obtain ⟨c2, h3, h4, h5⟩ := mine i0 q0 z e0
            refine n4 (c' - c) i0 (by omega) ?_ h5
            rw [shj, show c + (c' - c) = c' by omega]; exact h2
          · have l2 := slot_live T.tab.ris h2
            rw [live] at l2
            cases l2
            rw [hq] at z
            cases z
            exact e e0
      by_cases led : t.led = true
      · exact wp_if_neg (by simp [led]) core
      · refine wp_if_pos (by simp [led]) (wpAny_bind (unseen_K hx (fun y hy => ?_) (wp_if_neg (by decide) core)))
        obtain ⟨r, hr, rfl⟩ := List.mem_map.mp hy
        have hr : r ∈ es.toList := by
          have : r ∈ es ∧ r.1 = hsh P w k := by simpa using hr
          simpa using this.1
        rw [T.ent] at hr
        obtain ⟨q2, m2, rfl⟩ := List.mem_map.mp hr
        exact ⟨q2.2, q2.1, rfl, ky q2 m2⟩
    · have pr : t.probe (fun i => (es[i]?.map (·.1)).getD 0) (hsh P w k) (st.getD (t.probeStart (hsh P w k))) = some (.empty (way t.mask (hsh P w k) N) none) := by
        have : way t.mask (hsh P w k) N = (nth t.mask (nth t.mask (start0 t.mask (hsh P w k)) c) (N - c)).j := by rw [shj, hN']
        rw [hst, this]; exact n5
      rw [pr]; dsimp only
      refine wpAny_pure (no fun m => ?_)
      obtain ⟨q, mq, e⟩ := List.mem_map.mp m
      obtain ⟨i, hq⟩ := List.getElem?_of_mem mq
      obtain ⟨c', h1, h2, h3⟩ := mine i q hq e
      exact n4 (c' - c) i (by omega) h2 h3
theorem seek0 {o : Obj} (g : s.heap.get? a = some o) (dd : o.data = .set es ep t) (T : TabK P w l es t) (ky : ∀ q ∈ l, isK P w s.heap q.2 q.1) {x : Addr} {k : List Key} (hx : isK P w s.heap k x) (hu : A.units < cLine) {Q : SetFound → Shared → Prop}
    (yes : k ∈ l.map (·.2) → Q (.there none) s) (no : ∀ N, k ∉ l.map (·.2) → way t.mask (hsh P w k) N ∉ t.place.toList → (∀ c, c < N → way t.mask (hsh P w k) c ∈ t.place.toList) → Q (.free (way t.mask (hsh P w k) N) false) s) :
    wpAny (model P w) A (setSearch a (.ref x) (hsh P w k) true) Q E s := by
  have wd := T.wide
  obtain ⟨N, hN, em, tk⟩ := T.tab.first (by rw [List.length_map]; omega) (hsh P w k)
  have small : 10 * SetTable.turns t.mask ≤ 1420 := by
    unfold SetTable.turns
    rcases T.tab.mok with e | e | e <;> rw [e] <;> decide
  unfold setSearch
  refine seek g dd T ky hx hu hN em tk yes (fun n => no N n em tk) 100000 0 none rfl (Nat.zero_le _) (by omega) fun i q hq e => ?_
  have hi : (l.map fun q => hsh P w q.2)[i]? = some (hsh P w k) := by rw [List.getElem?_map, hq, ← e]; rfl
  have il : i < t.place.toList.length := by rw [Array.length_toList, T.slots]; exact (List.getElem?_eq_some_iff.mp hq).1
  obtain ⟨c, h1, h2⟩ := T.tab.before em hi (List.getElem?_eq_getElem il)
  exact ⟨c, ⟨Nat.zero_le _, h1⟩, by rw [List.getElem?_eq_getElem il, h2]⟩

/-! a larger table -/
theorem fm_same {α β : Type} {f g : α → Option β} : ∀ {xs : List α}, (∀ x ∈ xs, f x = g x) → xs.filterMap f = xs.filterMap g
  | [], _ => rfl
  | x :: xs, h => by
    rw [List.filterMap_cons, List.filterMap_cons, h x List.mem_cons_self, fm_same fun y hy => h y (List.mem_cons_of_mem _ hy)]
theorem range_pick {α : Type} (l : List α) : (List.range l.length).filterMap (fun i => l[i]?) = l := by
  have key : ∀ n, n ≤ l.length → (List.range n).filterMap (fun i => l[i]?) = l.take n := fun n => by
    induction n with
    | zero => exact fun _ => rfl
    | succ n ih =>
      intro hn
      rw [List.range_succ, List.filterMap_append, ih (by omega), List.take_add_one]
      have : l[n]? = some l[n] := List.getElem?_eq_getElem hn
      simp [this]
  rw [key _ (Nat.le_refl _), List.take_length]
theorem pick_map {α β : Type} (f : α → β) (z : β) (l : List α) : ∀ (ord : List Nat), (∀ i ∈ ord, i < l.length) → (ord.filterMap fun i => l[i]?).map f = ord.map fun i => (l.map f).getD i z
  | [], _ => rfl
  | i :: ord, h => by
    have hi := h i List.mem_cons_self
    rw [List.filterMap_cons_some (List.getElem?_eq_getElem hi), List.map_cons, List.map_cons, pick_map f z l ord fun j hj => h j (List.mem_cons_of_mem _ hj)]
    congr 1
    rw [List.getD_eq_getElem?_getD, List.getElem?_map, List.getElem?_eq_getElem hi]; rfl
theorem by_order (T : es.toList = entK P w l) {ord : Array Nat} (hp : ord.toList.Perm (List.range l.length)) :
    ∃ l2 : List AK, (ord.filterMap (es[·]?)).toList = entK P w l2 ∧ l2.Perm l ∧ (l2.map fun q => hsh P w q.2) = ord.toList.map fun i => (es.map (·.1)).getD i 0 := by
  refine ⟨ord.toList.filterMap fun i => l[i]?, ?_, ?_, ?_⟩
  · have : (ord.filterMap (es[·]?)).toList = ord.toList.filterMap fun i => es[i]? := by simp
    rw [this, entK, List.map_filterMap]
    refine fm_same fun i _ => ?_
    rw [← Array.getElem?_toList, T, entK, List.getElem?_map]
  · have := hp.filterMap fun i => l[i]?
    rwa [range_pick] at this
  · rw [pick_map (fun q : AK => hsh P w q.2) 0 l ord.toList fun i hi => List.mem_range.mp (hp.mem_iff.mp hi)]
    refine List.map_congr_left fun i _ => ?_
    have e1 : (es.map (·.1)).toList = l.map fun q => hsh P w q.2 := by
      rw [Array.toList_map, T, entK, List.map_map]; rfl
    rw [← e1]
    simp [Array.getD_eq_getD_getElem?, List.getD_eq_getElem?_getD]
theorem isK_but {h h' : Heap} {k : List Key} {b : Addr} {o : Obj} (x : isK P w h k b) (g : h.get? a = some o) (dd : o.data = .set es ep t) (sb : Heap.SameBut a h h') : isK P w h' k b := by
  refine isK_up x fun u e => (sb.2 b fun z => ?_).trans e
  obtain ⟨o', its, n, e', _, d', _⟩ := x
  rw [z, g] at e'
  cases e'
  rw [dd] at d'
  cases d'
theorem relayK {o : Obj} (g : s.heap.get? a = some o) (ex : o.ExactSet) (dd : o.data = .set es ep t) (ent : es.toList = entK P w l) (sz : t.place.size = es.size) (dm : t.dummies = #[]) (fl : es.size ≤ t.mask) (once : (l.map (·.2)).Nodup)
    (ky : ∀ q ∈ l, isK P w s.heap q.2 q.1) (ord : w.params.followText "set-order" = true ∨ t.led = true) (few : l.length < 64) {n M : Nat} (hw : SetTable.sizeAbove n - 1 = M) (hM : MaskOk M) (hn : SetTable.sizeAbove n ≤ 128) (wide : l.length * 5 < M * 3) {Q : Unit → Shared → Prop}
    (q : ∀ h' l', Heap.SameBut a s.heap h' → KSet P w h' a l' → l'.Perm l → Q () { s with heap := h' }) : wpAny (model P w) A (setRelay a n) Q E s := by
  have hs : es.size = l.length := by have := congrArg List.length ent; simpa [entK] using this
  have hf : t.fits es.size = true := by
    simp only [SetTable.fits, SetTable.fill, dm, Bool.and_eq_true, beq_iff_eq, decide_eq_true_eq]
    have e0 : (#[] : Array Nat).size = 0 := rfl
    constructor <;> omega
  obtain ⟨t', od, e1, pm, T', m', le', _, _⟩ := relaid_ok t (hs := es.map (·.1)) (wanted := n) hw hM (by rw [Array.size_map]; omega)
  rw [Array.size_map, hs] at pm
  obtain ⟨l2, r1, r2, r3⟩ := by_order ent pm
  rw [← r3] at T'
  have hs2 : (od.filterMap (es[·]?)).size = es.size := by
    have := congrArg List.length r1
    rw [entK, List.length_map, r2.length_eq, Array.length_toList] at this
    rw [this, hs]
  rw [setRelay_eq]
  refine wpAny_bind (wpAny_setState_of g dd hf ?_); dsimp only
  refine wp_if_neg (by rw [sizeLine_eq]; omega) ?_
  rw [e1]; dsimp only
  refine wpAny_bind (wp_if_neg (by rw [hs2]; simp) (wpAny_pure ?_)); dsimp only
  refine wpAny_storeSet_of g dd ?_ (by rw [hs2, hs, sizeLine_eq]; omega)
  have sb : Heap.SameBut a s.heap (s.heap.update a (Obj.putSet (od.filterMap (es[·]?)) t')) := Heap.SameBut.update ..
  exact q _ l2 sb ⟨⟨_, _, ep + 1, t', store_at g dd, ex, rfl, r1, T', (r2.map (·.2)).nodup_iff.mpr once, by rw [le']; exact ord, by rw [r2.length_eq, m']; exact wide, by rw [r2.length_eq]; exact few⟩, fun p hp => isK_but (ky p (r2.mem_iff.mp hp)) g dd sb⟩ r2

/-! one key more -/
theorem addK (S : KSet P w s.heap a l) {x : Addr} {k : List Key} (hx : isK P w s.heap k x) (hu : A.units < cLine) (few : l.length + 1 < 64) {Q : Bool → Shared → Prop}
    (q : ∀ b h' l', Heap.SameBut a s.heap h' → KSet P w h' a l' → ((k ∈ l.map (·.2) ∧ l' = l) ∨ (k ∉ l.map (·.2) ∧ l'.Perm ((x, k) :: l))) → Q b { s with heap := h' }) : wpAny (model P w) A (setAddHashed a (.ref x) (hsh P w k)) Q E s := by
  obtain ⟨⟨o, es, ep, t, g, ex, dd, T⟩, ky⟩ := S
  have hs := T.size
  have wd := T.wide
  unfold setAddHashed
  refine wpAny_holding ?_
  rw [show (100000 : Nat) = 99999 + 1 from rfl, setAddHashedIn_succ]
  refine wpAny_bind (wpAny_setState_of g dd T.fits ?_); dsimp only
  refine wp_if_neg (by simp [byScan, Value.scannable]) (wpAny_bind (seek0 g dd T ky hx hu (fun m => ?_) fun N nm em tk => ?_))
  · exact wpAny_pure (q false s.heap l (Heap.SameBut.refl a s.heap) ⟨⟨o, es, ep, t, g, ex, dd, T⟩, ky⟩ (.inl ⟨m, rfl⟩))
  · dsimp only
    refine wpAny_bind (wpAny_setState_of g dd T.fits ?_); dsimp only
    obtain ⟨z1, z2, z3, z4, z5, _, _, _, z9⟩ := T.tab.put em tk
    generalize t.put (way t.mask (hsh P w k) N) = pt at z1 z3 z4 z5 z9 ⊢
    obtain ⟨t1, pl⟩ := pt
    dsimp only at z1 z3 z4 z5 z9 ⊢
    subst z1
    generalize SetTable.below t.place (way t.mask (hsh P w k) N) = pl at z2 z3 ⊢
    rw [List.length_map] at z2 z9
    have pm := put_perm l pl (x, k)
    have hm : (l.map fun q => hsh P w q.2).take pl ++ hsh P w k :: (l.map fun q => hsh P w q.2).drop pl = (l.take pl ++ (x, k) :: l.drop pl).map fun q => hsh P w q.2 := by
      rw [List.map_append, List.map_cons, List.map_take, List.map_drop]
    rw [hm] at z3
    have ent1 : (SetTable.insertAt es pl (hsh P w k, .ref x)).toList = entK P w (l.take pl ++ (x, k) :: l.drop pl) := by
      rw [SetTable.toList_insertAt, T.ent, entK, entK, List.map_append, List.map_cons, List.map_take, List.map_drop]
    have once1 : ((l.take pl ++ (x, k) :: l.drop pl).map (·.2)).Nodup := by
      refine (pm.map (·.2)).nodup_iff.mpr ?_
      rw [List.map_cons]
      exact List.nodup_cons.mpr ⟨nm, T.once⟩
    have len1 : (l.take pl ++ (x, k) :: l.drop pl).length = l.length + 1 := pm.length_eq
    have sz1 : (SetTable.insertAt es pl (hsh P w k, .ref x)).size = l.length + 1 := by
      have := congrArg List.length ent1
      rw [entK, List.length_map, len1, Array.length_toList] at this
      exact this
    generalize SetTable.insertAt es pl (hsh P w k, .ref x) = es1 at ent1 sz1 ⊢
    generalize l.take pl ++ (x, k) :: l.drop pl = l1 at pm z3 ent1 once1 len1
    -- whatever is noted of the values
    have go : ∀ t2 : SetTable, t2 = t1 ∨ t2 = { t1 with plain := false } → wpAny (model P w) A (storeSet a es1 t2 >>= fun _ => if (!false && t2.tooFull) = true then (do setRelay a (SetTable.grown (es.size + 1)); pure true) else pure true) Q E s := by
      intro t2 ht
      have same : TabOk t2 (l1.map fun q => hsh P w q.2) ∧ t2.mask = t.mask ∧ t2.led = t.led ∧ t2.fill = l.length + 1 ∧ t2.place.size = l.length + 1 ∧ t2.dummies = #[] := by
        have c1 : t1.place.size = l.length + 1 := by have := z3.sz; rw [List.length_map, len1] at this; exact this
        rcases ht with rfl | rfl
        · exact ⟨z3, z4, z5, z9, c1, z3.dm⟩
        · exact ⟨⟨z3.ris, z3.dm, z3.sz, z3.mok, z3.bd, z3.reach⟩, z4, z5, z9, c1, z3.dm⟩
      clear ht
      obtain ⟨T2, m2, le2, f2, p2, dm2⟩ := same
      refine wpAny_bind (wpAny_storeSet_of g dd ?_ (by rw [sz1, sizeLine_eq]; omega))
      have sb : Heap.SameBut a s.heap (s.heap.update a (Obj.putSet es1 t2)) := Heap.SameBut.update ..
      have g1 := store_at (es' := es1) (t' := t2) g dd
      have ky1 : ∀ p ∈ l1, isK P w (s.heap.update a (Obj.putSet es1 t2)) p.2 p.1 := fun p hp => by
        rcases List.mem_cons.mp (pm.mem_iff.mp hp) with rfl | hp
        · exact isK_but hx g dd sb
        · exact isK_but (ky p hp) g dd sb
      have or1 : w.params.followText "set-order" = true ∨ t2.led = true := by rw [le2]; exact T.ord
      generalize s.heap.update a (Obj.putSet es1 t2) = h1 at sb g1 ky1 ⊢
      have full : t2.tooFull = decide ((l.length + 1) * 5 ≥ t.mask * 3) := by unfold SetTable.tooFull; rw [f2, m2]
      by_cases hf : (l.length + 1) * 5 ≥ t.mask * 3
      · refine wp_if_pos (by rw [full, decide_eq_true hf]; rfl) ?_
        rw [hs]
        have rel : ∀ M, SetTable.sizeAbove (SetTable.grown (l.length + 1)) - 1 = M → MaskOk M → SetTable.sizeAbove (SetTable.grown (l.length + 1)) ≤ 128 → (l.length + 1) * 5 < M * 3 → es1.size ≤ t2.mask →
            wpAny (model P w) A (do setRelay a (SetTable.grown (l.length + 1)); pure true) Q E { s with heap := h1 } := fun M y1 y2 y3 y4 y5 =>
          wpAny_bind (relayK (s := { s with heap := h1 }) g1 ex rfl ent1 (by rw [p2, sz1]) dm2 y5 once1 ky1 or1 (by omega) y1 y2 y3 (by rw [len1]; exact y4) fun h2 l2 sb2 S2 pm2 => wpAny_pure (q true h2 l2 (sb.trans sb2) S2 (.inr ⟨nm, pm2.trans pm⟩)))
        rcases T.tab.mok with e | e | e
        · have e4 : l.length = 4 := by rw [e] at hf wd; omega
          exact rel 31 (by rw [e4, size_20]) (.inr (.inl rfl)) (by rw [e4, size_20]; decide) (by omega) (by rw [sz1, m2, e]; omega)
        · have e4 : l.length = 18 := by rw [e] at hf wd; omega
          exact rel 127 (by rw [e4, size_76]) (.inr (.inr rfl)) (by rw [e4, size_76]; decide) (by omega) (by rw [sz1, m2, e]; omega)
        · exfalso; rw [e] at hf; omega
      · refine wp_if_neg (by rw [full, decide_eq_false hf]; simp) (wpAny_pure ?_)
        exact q true h1 l1 sb ⟨⟨_, es1, ep + 1, t2, g1, ex, rfl, ent1, T2, once1, or1, by rw [len1, m2]; omega, by omega⟩, ky1⟩ (.inr ⟨nm, pm⟩)
    by_cases hp : t1.plain = true
    · refine wp_if_pos hp (wpAny_bind (val_K hx fun c => ?_))
      cases c
      · exact go _ (.inr rfl)
      · exact go _ (.inl rfl)
    · exact wp_if_neg hp (wpAny_bind (wpAny_pure (go _ (.inl rfl))))
end
end FR

namespace FR
open PySem PySem.Spec PyProof.Rows L2 PySem.Froz

/-! ## set(a list of tuples), sorted(a set of tuples) -/
structure GotK (ks : List AK) (i : Nat) (l : List AK) : Prop where
  fr : ∀ q ∈ l, q ∈ ks.take i
  all : ∀ q ∈ ks.take i, q.2 ∈ l.map (·.2)
  len : l.length ≤ i
theorem KSet.keep {P : Program} {w : World} {h h' : Heap} {a : Addr} {l : List AK} (S : KSet P w h a l) (k : ∀ o, h.get? a = some o → h'.get? a = some o) (ky : ∀ q ∈ l, isK P w h' q.2 q.1) : KSet P w h' a l :=
  let ⟨⟨o, es, ep, t, g, r⟩, _⟩ := S; ⟨⟨o, es, ep, t, k o g, r⟩, ky⟩
theorem take_at {α : Type} {ks : List α} {i : Nat} {q : α} (h : ks[i]? = some q) : ks.take (i + 1) = ks.take i ++ [q] := by rw [List.take_add_one, h]; rfl
section
variable {P : Program} {w : World} {A : Around} {E : Value → Shared → Prop} {s : Shared}
theorem loopK {I : Addr} {fp wr : List Addr} {G : Array GenState → Array GenState → Prop} {n : Nat} {Pv : Nat → Value → Prop} {St : Nat → Shared → Prop} {R : Result → Shared → Prop}
    (W : WalksS P w A.in1 I fp wr G n Pv St) (a : Addr) (ha : a ∉ fp) (ks : List AK) (hn : n = ks.length) (few : ks.length < 64) (hu : A.in1.units < cLine) (hv : ∀ i v, Pv i v → ∃ q, ks[i]? = some q ∧ v = .ref q.1) (off : ∀ q ∈ ks, q.1 ≠ a ∧ q.1 ∉ wr) :
    ∀ (m i : Nat) (s : Shared), n - i = m → i ≤ n → St i s → (∀ q ∈ ks, isK P w s.heap q.2 q.1) → (∃ l, KSet P w s.heap a l ∧ GotK ks i l) →
      (∀ s' l, Moved (a :: wr) G s s' → KSet P w s'.heap a l → GotK ks n l → R (.ok (.ret .none)) s') → codeAny (model P w) A (.builtin "set.update.loop" ⟨[.ref a, .ref I], []⟩) R s := by
  have aw : a ∉ wr := fun z => ha (W.sub _ z)
  have sub : ∀ b ∈ wr, b ∈ a :: wr := fun b z => .tail _ z
  intro m
  induction m with
  | zero =>
    intro i s hm hi hst hk ⟨l, S, g⟩ q
    obtain rfl : i = n := by omega
    refine codeAny_builtin PyProof.Rows.F.entry_set_update_loop ?_; rw [Around.under_plainId PyProof.Rows.F.plain_set_update_loop _]
    show wpAny _ A.in1 (pyNext (.ref I) >>= _) _ _ s
    refine wpAny_bind (W.done s _ _ hst fun s' mv => ?_); show wpAny _ A.in1 (ret Value.none) _ _ s'
    refine wpAny_pure (q s' l (mv.mono sub) (S.keep (fun o e => mv.heap a o aw e) fun p hp => ?_) g)
    have mp := List.mem_of_mem_take (g.fr p hp)
    exact isK_up (hk p mp) fun o e => mv.heap _ o (off p mp).2 e
  | succ m ih =>
    intro i s hm hi hst hk ⟨l, S, g⟩ q
    have lt : i < n := by omega
    refine codeAny_builtin PyProof.Rows.F.entry_set_update_loop ?_; rw [Around.under_plainId PyProof.Rows.F.plain_set_update_loop _]
    show wpAny _ A.in1 (pyNext (.ref I) >>= _) _ _ s
    refine wpAny_bind (W.item i s _ _ lt hst fun v s' hP hst' mv => ?_)
    obtain ⟨x, hx, rfl⟩ := hv i v hP
    have hk1 : ∀ p ∈ ks, isK P w s'.heap p.2 p.1 := fun p mp => isK_up (hk p mp) fun o e => mv.heap _ o (off p mp).2 e
    have S1 : KSet P w s'.heap a l := S.keep (fun o e => mv.heap a o aw e) fun p hp => hk1 p (List.mem_of_mem_take (g.fr p hp))
    have mx := List.mem_of_getElem? hx
    show wpAny _ A.in1 (holding [Value.ref x.1] (setAdd a (.ref x.1)) >>= _) _ _ s'
    refine wpAny_bind (wpAny_holding ?_); unfold setAdd
    refine wpAny_holding (wpAny_bind (wpAny_pyHash_tuple hu (hk1 x mx) ?_))
    refine addK (s := { s' with toks := s'.toks + (x.2.length + 1) }) S1 (hk1 x mx) hu (by have := g.len; omega) fun b h' l' sb S2 hc => ?_
    have g' : GotK ks (i + 1) l' := by
      have et := take_at hx
      rcases hc with ⟨c1, rfl⟩ | ⟨c1, pm⟩
      · refine ⟨fun p hp => by rw [et]; exact List.mem_append_left _ (g.fr p hp), fun p hp => ?_, Nat.le_succ_of_le g.len⟩
        rw [et] at hp
        rcases List.mem_append.mp hp with z | z
        · exact g.all p z
        · rw [List.mem_singleton.mp z]; exact c1
      · refine ⟨fun p hp => ?_, fun p hp => ?_, by rw [pm.length_eq]; exact Nat.succ_le_succ g.len⟩
        · rw [et]
          rcases List.mem_cons.mp (pm.mem_iff.mp hp) with z | z
          · rw [z]; exact List.mem_append_right _ (List.mem_singleton.mpr rfl)
          · exact List.mem_append_left _ (g.fr p z)
        · rw [et] at hp
          rw [(pm.map (·.2)).mem_iff, List.map_cons]
          rcases List.mem_append.mp hp with z | z
          · exact List.mem_cons_of_mem _ (g.all p z)
          · rw [List.mem_singleton.mp z]; exact List.mem_cons_self
    refine wpAny_pure ⟨plainId_quiet PyProof.Rows.F.plain_set_update_loop _, ih (i + 1) _ (by omega) lt (W.frame _ s' _ _ hst' (Nat.le_add_right _ _) fun c hc2 o z => ?_) (fun p mp => isK_up (hk1 p mp) fun o e => (sb.2 _ (off p mp).1).trans e) ⟨l', S2, g'⟩ fun s'' l2 mv2 S3 g3 => ?_⟩
    · rw [sb.2 c (fun y : c = a => ha (y ▸ hc2))]; exact z
    · refine q s'' l2 (Moved.trans W.gtrans ((mv.mono sub).then_heap (Nat.le_add_right _ _) fun c o hc2 z => ?_) mv2) S3 g3
      rw [sb.2 c (fun y : c = a => hc2 (y ▸ List.mem_cons_self))]; exact z
theorem freshK {h : Heap} {a : Addr} (ho : h.get? a = some (emptyS w)) : KSet P w h a [] := by
  refine ⟨⟨_, #[], 0, _, ho, ⟨rfl, rfl, rfl⟩, rfl, rfl, ⟨List.Pairwise.nil, rfl, rfl, .inl rfl, (fun x z => nomatch z), (fun i h j z => nomatch z)⟩, List.nodup_nil, ?_, (by show 0 * 5 < 7 * 3; decide), by decide⟩, fun q z => nomatch z⟩
  show _ ∨ (!w.params.followText "set-order") = true
  cases w.params.followText "set-order"
  · exact .inr rfl
  · exact .inl rfl
theorem set_keys {l : Addr} {its : Array Value} {ks : List AK} {Q : Value → Shared → Prop} (hh : A.handled = none) (hu : A.units + 64 < cLine) (hl : s.heap.IsList l its) (hit : its.toList = ks.map fun q => Value.ref q.1) (hk : ∀ q ∈ ks, isK P w s.heap q.2 q.1) (few : ks.length < 64)
    (q : ∀ (h' : Heap) (tk : Nat) (r : List AK), KSet P w h' s.heap.objs.size r → GotK ks ks.length r → (∀ b o, s.heap.get? b = some o → h'.get? b = some o) → Q (.ref s.heap.objs.size) { s with heap := h', toks := tk }) :
    wpAny (model P w) A (call (.type "set") [.ref l]) Q E s := by
  obtain ⟨mc, mt, hmro⟩ := PySem.F.called_set.mro
  have c1 := PySem.F.called_set.made; have c2 := PySem.F.called_set.sub
  refine wpAny_call (codeAny_of_tree ?_); show wpAny _ _ (callAny (.type "set") _) _ _ _
  refine wpAny_pure ⟨Code.quiet_builtin _ (by decide +kernel), codeAny_builtin PySem.F.entry_type_call ?_⟩; rw [Around.under_plain (weight_type_call_type "set" [.ref l] []) rfl]
  have c3 := PySem.F.called_set.notType; have c4 := PySem.F.called_set.canCreate; have c5 := PySem.F.typeCall_set_1 (.ref l)
  repeat (any_goals (first | assumption | wp_step))
  refine codeAny_mono (code_set_led1 (.ref l) (E := E) (Q₁ := fun ob s1 => ob = .ref s.heap.objs.size ∧ s1 = { s with heap := s.heap.push (emptyS w) }) ⟨rfl, rfl⟩) fun r s1 hr => ?_
  cases r with
  | error e => exact hr
  | ok fl =>
    cases fl with
    | ret ob =>
      obtain ⟨rfl, rfl⟩ := hr
      have hS : (s.heap.push (emptyS w)).get? s.heap.objs.size = some (emptyS w) := Heap.get?_push_size _ rfl
      have hT : Shared.TypeIs { s with heap := s.heap.push (emptyS w) } (.ref s.heap.objs.size) "set" := ⟨_, hS, rfl⟩
      have c6 := PySem.F.called_set.init.lookup; have c7 := PySem.F.called_set.init.bind (.ref s.heap.objs.size)
      repeat (any_goals (first | assumption | wp_step))
      refine codeAny_mono (codeAny_call_builtin (R := wants (fun r s2 => r = .none ∧ ∃ h' tk, s2 = { s with heap := h', toks := tk } ∧ (∃ r, KSet P w h' s.heap.objs.size r ∧ GotK ks ks.length r) ∧ (∀ b o, s.heap.get? b = some o → h'.get? b = some o)) E) PySem.F.called_set.init.plain PySem.F.entry_set_init (check_set_init_1 hT ?_)) fun r2 s2 hr2 => ?_
      · obtain ⟨ob, hob, hcl, nl, hdl⟩ := hl
        obtain ⟨ocls, odict, odata, oslots⟩ := ob
        simp only at hcl hdl
        subst hcl; subst hdl
        have old : l < s.heap.objs.size := Heap.lt_size hob
        have hob1 : (s.heap.push (emptyS w)).get? l = some { cls := .type "list", dict := odict, data := .seq its nl, slots := oslots } := Heap.get?_push_of_some _ hob
        have f1 := PySem.F.sub_list_set; have f2 := PySem.F.sub_list_frozenset; have f3 : (Value.type "list" == Value.type "dict") = false := by decide
        have hl1 : (s.heap.push (emptyS w)).IsList l its := ⟨_, hob1, rfl, nl, rfl⟩
        unfold Builtin.«set.__init__» noKeywords Builtin.Frozenset.updateFrom
        generalize hPI : pyIter = PI
        wp_walk
        subst hPI
        refine wpAny_pyIter_list hl1 (wpAny_bind (wpAny_runValue ?_))
        have hx : A.in1.in1.in1.handled = none := by simp [hh]
        have n1 : l ≠ (s.heap.push (emptyS w)).objs.size := by rw [Heap.size_push]; exact Nat.ne_of_lt (Nat.lt_succ_of_lt old)
        have n2 : s.heap.objs.size ∉ [(s.heap.push (emptyS w)).objs.size, l] := by
          rw [Heap.size_push]; simp only [List.mem_cons, List.not_mem_nil, or_false, not_or]; exact ⟨Nat.ne_of_lt (Nat.lt_succ_self _), Nat.ne_of_gt old⟩
        have hsz : its.size = ks.length := by rw [← Array.length_toList, hit, List.length_map]
        have klt : ∀ p ∈ ks, p.1 < s.heap.objs.size := fun p hp => by
          obtain ⟨o, _, _, e, _⟩ := hk p hp
          exact Heap.lt_size e
        refine loopK ((Walks.list hx _ l n1 its).toS) s.heap.objs.size n2 ks hsz few (show A.units + 3 < cLine by omega) (fun i v hv => ?_) (fun p hp => ?_) (its.size - 0) 0 _ (by omega) (Nat.zero_le _) ⟨⟨_, Heap.get?_push_size _ rfl, rfl, rfl⟩, (hl1.push _)⟩ (fun p hp => isK_up (hk p hp) fun o e => Heap.get?_push_of_some _ (Heap.get?_push_of_some _ e)) ⟨[], freshK (Heap.get?_push_of_some _ hS), ⟨(fun q z => nomatch z), (fun q z => by simp at z), Nat.le_refl _⟩⟩ ?_
        · have hv : its[i]? = some v := hv
          rw [← Array.getElem?_toList, hit, List.getElem?_map, Option.map_eq_some_iff] at hv
          obtain ⟨x, e1, e2⟩ := hv
          exact ⟨x, e1, e2.symm⟩
        · have := klt p hp
          refine ⟨Nat.ne_of_lt this, fun z => ?_⟩
          rw [Heap.size_push, List.mem_singleton] at z
          exact absurd (Nat.lt_trans this (Nat.lt_succ_self _)) (by rw [z]; exact Nat.lt_irrefl _)
        intro s' r mv S g
        obtain ⟨h', g', d', tk', os'⟩ := s'
        obtain rfl : g' = s.gens := mv.gens
        obtain rfl : d' = s.drawn := mv.drawn
        obtain rfl : os' = s.os := mv.os
        show wpAny _ _ _ _ _ _
        refine wpAny_pure ?_
        show wpAny _ _ (ret Value.none) _ _ _
        refine wpAny_pure ⟨rfl, h', tk', rfl, ⟨r, S, by rw [hsz] at g; exact g⟩, fun b o e => ?_⟩
        have lb : b < s.heap.objs.size := Heap.lt_size e
        refine mv.heap b o ?_ (Heap.get?_push_of_some _ (Heap.get?_push_of_some _ e))
        rw [Heap.size_push]; simp only [List.mem_cons, List.not_mem_nil, or_false, not_or]; exact ⟨Nat.ne_of_lt lb, Nat.ne_of_lt (Nat.lt_succ_of_lt lb)⟩
      · cases r2 with
        | error e => exact hr2
        | ok fl2 =>
          cases fl2 with
          | ret r =>
            obtain ⟨rfl, h', tk, rfl, ⟨r, S, g⟩, kp⟩ := hr2
            repeat (any_goals (first | assumption | wp_step))
            exact q _ _ r S g kp
          | _ => exact hr2.elim
    | _ => exact hr.elim
end
end FR

namespace FR
open PySem PySem.Spec PyProof.Rows L2 PySem.Froz
/-! ### in the layer -/
def KObj (P : Program) (w : World) (a : Addr) (l : List AK) : HO := .ext fun h => ∃ o es ep t, h.get? a = some o ∧ o.ExactSet ∧ o.data = .set es ep t ∧ TabK P w l es t
theorem kObj_ok {P : Program} {w : World} {H : Hp} {h : Heap} {a : Addr} {l : List AK} (S : KSet P w h a l) : ObjOk P w H h a (KObj P w a l) :=
  let ⟨⟨o, es, ep, t, g, r⟩, _⟩ := S
  ⟨⟨o, es, ep, t, g, r⟩, ⟨o, g⟩, fun _ _ ⟨o, es, ep, t, g, r⟩ k => ⟨o, es, ep, t, k o g, r⟩⟩
theorem items_vals {P : Program} {w : World} : ∀ {k : List Key} {us : List Value}, Vals (k.map kV) us → ItemsAre (mixKind P w) k us
  | [], _, h => by cases h; exact .nil
  | _ :: _, _, h => by
    cases h with
    | cons a b => exact .cons (kV_is a) (items_vals b)
section
variable {X : Cx}
theorem key_at {pins : List (Addr × Obj)} {σ : L2.St} {H : Hp} {s : Shared} (I : Inv X pins σ H s) {b : Addr} {k : List Key} (h : SqT X.K H b (k.map kV)) : isK X.prog X.w s.heap k b := by
  obtain ⟨its, rv, ⟨o, g, c, n, d⟩, _⟩ := I.tuple h
  exact ⟨o, its.toArray, n, g, c, d, items_vals rv⟩
def rSetK (X : Cx) : List V → Hp → VK → Prop := fun xs H Q => ∃ (a : Addr) (ks : List AK), xs = [.ref a] ∧ SqL X.K H a (ks.map fun q => V.ref q.1) ∧ (∀ q ∈ ks, SqT X.K H q.1 (q.2.map kV)) ∧ ks.length < 64 ∧
  ∀ p l, H p = none → GotK ks ks.length l → (l.map (·.2)).Nodup → Q (.ref p) (upd H p (KObj X.prog X.w p l))
theorem cr_setK (hc : X.calm = true) (hu : X.A.units + 64 < cLine) : CallR X (.type "set") (rSetK X) := by
  intro pins s σ H xs us Q I r h
  obtain ⟨a, ks, rfl, sq, st, few, q⟩ := h
  rw [Vals.ref1 r]
  obtain ⟨its, rv, hl, hz⟩ := I.list sq
  have ei : its = ks.map fun q => Value.ref q.1 := by
    have : Vals ((ks.map (·.1)).map V.ref) its := by rw [List.map_map]; exact rv
    rw [refs_at this, List.map_map]; rfl
  refine set_keys (I.ok.hd hc) hu hl.isList (by rw [List.toList_toArray]; exact ei) (fun q hq => key_at I (st q hq)) few fun h' tk r S g kp => ?_
  have nd : (r.map (·.2)).Nodup := by obtain ⟨⟨_, _, _, _, _, _, _, T⟩, _⟩ := S; exact T.once
  exact ⟨.ref _, upd H s.heap.objs.size (KObj X.prog X.w s.heap.objs.size r), I.laid (t' := tk) kp (Nat.le_refl _) (kObj_ok S), rfl, q _ r (I.hok.fresh (Nat.le_refl _)) g nd⟩
theorem perm_lift {α β : Type} {f : α → β} {vs ws : List β} (h : vs.Perm ws) : ∀ {l : List α}, ws = l.map f → ∃ bs : List α, bs.Perm l ∧ vs = bs.map f := by
  induction h with
  | nil => intro l e; exact ⟨[], (by cases l with | nil => exact List.Perm.nil | cons _ _ => cases e), rfl⟩
  | cons x _ ih =>
    intro l e
    cases l with
    | nil => cases e
    | cons y l =>
      rw [List.map_cons] at e
      obtain ⟨rfl, e2⟩ := List.cons.inj e
      obtain ⟨bs, p, rfl⟩ := ih e2
      exact ⟨y :: bs, p.cons y, rfl⟩
  | swap x y t =>
    intro l e
    match l, e with
    | a :: b :: l, e =>
      rw [List.map_cons, List.map_cons] at e
      obtain ⟨rfl, e2⟩ := List.cons.inj e
      obtain ⟨rfl, rfl⟩ := List.cons.inj e2
      exact ⟨b :: a :: l, List.Perm.swap a b l, rfl⟩
  | trans _ _ ih1 ih2 =>
    intro l e
    obtain ⟨b2, p2, e2⟩ := ih2 e
    obtain ⟨b1, p1, e1⟩ := ih1 e2
    exact ⟨b1, p1.trans p2, e1⟩
theorem each_of {α β : Type} {R : α → β → Prop} {f : β → α} (h : ∀ b, R (f b) b) : ∀ bs : List β, PySem.W.EachIs R (bs.map f) bs
  | [] => .nil
  | b :: bs => .cons (h b) (each_of h bs)
theorem each_refs {β : Type} {f : β → Addr} : ∀ {vs : List Value} {bs : List β}, PySem.W.EachIs (fun v b => v = .ref (f b)) vs bs → Vals (bs.map fun b => V.ref (f b)) vs
  | _, _, .nil => .nil
  | _, _, .cons h t => .cons (by subst h; rfl) (each_refs t)
theorem each_mem {α β : Type} {R : α → β → Prop} {f : β → α} : ∀ {bs : List β}, (∀ b ∈ bs, R (f b) b) → PySem.W.EachIs R (bs.map f) bs
  | [], _ => .nil
  | b :: bs, h => .cons (h b List.mem_cons_self) (each_mem fun c hc => h c (List.mem_cons_of_mem _ hc))
def rSortedK {α : Type} (X : Cx) (kf : α → List Key) (en : α → PyData) : List V → Hp → VK → Prop := fun xs H Q => ∃ (a : Addr) (l : List (Addr × α)), xs = [.ref a] ∧ H a = some (KObj X.prog X.w a (l.map fun q => (q.1, kf q.2))) ∧ (∀ q ∈ l, L2.Dp X.K H (.ref q.1) (en q.2)) ∧
  ∀ (p : Addr) (bs : List (Addr × α)), bs.Perm l → H p = none → Q (.ref p) (upd H p (.lst ((bs.mergeSort (PySem.W.dataLe false fun b : Addr × α => en b.2)).map fun q => V.ref q.1)))
theorem cr_sortedK {α : Type} {kf : α → List Key} {en : α → PyData} (hal : ∀ x y, PySem.W.alike (en x) (en y) = true) (htu : ∀ x, ∃ y r, en x = .tuple (y :: r)) (hdep : ∀ x, (en x).depth ≤ 8) (hc : X.calm = true) (hu : X.A.units + 64 < cLine) : CallR X (.builtin "sorted") (rSortedK X kf en) := by
  intro pins s σ H xs us Q I r h
  obtain ⟨a, l, rfl, ha, st, q⟩ := h
  rw [Vals.ref1 r]
  obtain ⟨o, es, ep, t, ho, ex, dd, T⟩ := (I.hok a _ ha).1
  have few := T.few
  rw [List.length_map] at few
  have hsz : es.size = l.length := by rw [T.size, List.length_map]
  refine Calls.call_function_entry kind_sorted plain_sorted entry_sorted (args_sorted1 _) ?_; unfold Builtin.«sorted»
  refine wpAny_bind (m := checkCount "sorted" 1 1 _) (wpAny_pure ?_)
  refine wpAny_bind (collect_set (A := X.A.in1) (I.ok.hd hc) ⟨_, ho, ex.1, dd⟩ T.fits (by rw [hsz]; unfold scanBound; omega) T.tab.ris T.ord fun s1 vs k1 hz g1 o1 pm1 => ?_)
  have pm2 : vs.Perm (l.map fun q => Value.ref q.1) := by
    refine pm1.trans (List.Perm.of_eq ?_)
    rw [T.ent, entK, List.map_map, List.map_map]; rfl
  obtain ⟨bs, pb, rfl⟩ := perm_lift pm2 rfl
  have hb : (bs.map fun q => Value.ref q.1).length ≤ sizeLine := by rw [List.length_map, pb.length_eq, sizeLine_eq]; omega
  refine wpAny_bind (wpAny_newList ?_ hb)
  have hL : (s1.heap.push (seqObj "list" (bs.map fun q => Value.ref q.1).toArray 0)).get? s1.heap.objs.size = some (seqObj "list" (bs.map fun q => Value.ref q.1).toArray 0) := Heap.get?_push_size _ rfl
  have rd : ∀ b ∈ bs, ∃ as, Reads (s1.heap.push (seqObj "list" (bs.map fun q => Value.ref q.1).toArray 0)) (.ref b.1) (en b.2) as ∧ s1.heap.objs.size ∉ as := fun b hb => by
    obtain ⟨as, rr⟩ := L2.Dp.reads I (en b.2) (.ref b.1) (.ref b.1) (st b (pb.mem_iff.mp hb)) rfl
    refine ⟨as, PyProof.Rows.Reads.keeps (fun c u e => Heap.get?_push_of_some _ (k1 c u e)) rr, fun z => ?_⟩
    obtain ⟨u, e⟩ := PyProof.On.reads_mem_get rr _ z
    exact absurd (Heap.lt_size (k1 _ u e)) (Nat.lt_irrefl _)
  refine wpAny_bind (wpAny_holding (PySem.W.list_sort_data (enc := fun b : Addr × α => en b.2) (R := fun v b => v = Value.ref b.1) hL (each_of (f := fun q : Addr × α => Value.ref q.1) (fun _ => rfl) bs) (each_mem rd) (PySem.W.AllAlike.of fun _ _ => hal _ _) (PySem.W.Sortable.tuples fun b => htu b.2) (by rw [List.length_map] at hb; exact hb) (fun b _ => ?_) fun out lo eo => ?_))
  · show X.A.units + 1 + 1 + PyData.depth (en b.2) < cLine
    have := hdep b.2; omega
  obtain ⟨c, hcc⟩ := sortedHeap_at (vs := bs.map fun q => Value.ref q.1) (out := out.toArray) hL
  refine wpAny_pure ⟨_, rfl, ?_⟩
  have kp : ∀ b u, s.heap.get? b = some u → (sortedHeap (s1.heap.push (seqObj "list" (bs.map fun q => Value.ref q.1).toArray 0)) s1.heap.objs.size (bs.map fun q => Value.ref q.1) out.toArray).get? b = some u := fun b u z => by
    have z1 := k1 b u z
    have lt := Heap.lt_size z1
    rw [sortedHeap_old (Nat.ne_of_lt lt) (by rw [size_push']; exact Nat.lt_succ_of_lt lt)]
    exact Heap.get?_push_of_some _ z1
  have hn : H s1.heap.objs.size = none := I.hok.fresh hz
  have hlen : ((bs.mergeSort (PySem.W.dataLe false fun b : Addr × α => en b.2)).map fun q => V.ref q.1).length ≤ sizeLine := by
    rw [List.length_map] at hb
    rw [List.length_map, List.length_mergeSort]; exact hb
  have J := I.call' (s' := { s1 with heap := sortedHeap (s1.heap.push (seqObj "list" (bs.map fun q => Value.ref q.1).toArray 0)) s1.heap.objs.size (bs.map fun q => Value.ref q.1) out.toArray }) (ch := []) o1 (Un.laid (o := .lst ((bs.mergeSort (PySem.W.dataLe false fun b : Addr × α => en b.2)).map fun q => V.ref q.1)) kp hz hn)
    (I.hok.laid kp hz ⟨hlen, out, c, each_refs (f := fun q : Addr × α => q.1) eo, hcc⟩) (by show AllBare s1.gens; rw [g1]; exact I.bare) (fun _ z => nomatch z)
  exact ⟨.ref _, _, J, rfl, q _ bs pb hn⟩
end
/-! ### by data -/
/-- a kind of tuples of ints and texts -/
structure KeyT (α : Type) where
  en : α → PyData
  kf : α → List Key
  he : ∀ x, en x = .tuple ((kf x).map keyD)
  inj : ∀ x y, kf x = kf y → x = y
  alk : ∀ x y, PySem.W.alike (en x) (en y) = true
  ne : ∀ x, ∃ y r, en x = .tuple (y :: r)
  dep : ∀ x, (en x).depth ≤ 8
  nod : ∀ x, (en x).hasDict = false
  anti : ∀ x y, PySem.W.dataLe false en x y = true → PySem.W.dataLe false en y x = true → x = y
  tot : ∀ x y, (PySem.W.dataLe false en x y || PySem.W.dataLe false en y x) = true
  tra : ∀ x y z, PySem.W.dataLe false en x y = true → PySem.W.dataLe false en y z = true → PySem.W.dataLe false en x z = true
def uniT {α : Type} [DecidableEq α] : List α → List α
  | [] => []
  | x :: xs => if x ∈ uniT xs then uniT xs else x :: uniT xs
theorem uniT_mem {α : Type} [DecidableEq α] {x : α} : ∀ {xs : List α}, x ∈ uniT xs ↔ x ∈ xs
  | [] => Iff.rfl
  | y :: xs => by
    unfold uniT
    by_cases h : y ∈ uniT xs
    · rw [if_pos h, uniT_mem, List.mem_cons]
      exact ⟨.inr, fun z => z.elim (fun e => e ▸ uniT_mem.mp h) id⟩
    · rw [if_neg h, List.mem_cons, List.mem_cons, uniT_mem]
theorem uniT_nodup {α : Type} [DecidableEq α] : ∀ (xs : List α), (uniT xs).Nodup
  | [] => List.nodup_nil
  | y :: xs => by
    unfold uniT
    by_cases h : y ∈ uniT xs
    · rw [if_pos h]; exact uniT_nodup xs
    · rw [if_neg h]; exact List.nodup_cons.mpr ⟨h, uniT_nodup xs⟩
def srtT {α : Type} [DecidableEq α] (T : KeyT α) (xs : List α) : List α := (uniT xs).mergeSort (PySem.W.dataLe false T.en)
def srtSetT {α : Type} [DecidableEq α] (T : KeyT α) (xs : List α) : Option (List α) := if xs.length < 64 then some (srtT T xs) else none
theorem srtT_perm {α : Type} [DecidableEq α] (T : KeyT α) (xs : List α) : (srtT T xs).Perm (uniT xs) := List.mergeSort_perm _ _
theorem srtT_mem {α : Type} [DecidableEq α] (T : KeyT α) {xs : List α} {x : α} : x ∈ srtT T xs ↔ x ∈ xs := (srtT_perm T xs).mem_iff.trans uniT_mem
theorem srtT_nodup {α : Type} [DecidableEq α] (T : KeyT α) (xs : List α) : (srtT T xs).Nodup := (srtT_perm T xs).nodup_iff.mpr (uniT_nodup xs)
theorem srtT_pair {α : Type} [DecidableEq α] (T : KeyT α) (xs : List α) : (srtT T xs).Pairwise fun a b => PySem.W.dataLe false T.en a b = true := List.pairwise_mergeSort (fun a b c h1 h2 => T.tra a b c h1 h2) T.tot _
theorem srtT_unique {α : Type} [DecidableEq α] (T : KeyT α) {xs ys : List α} (nd : ys.Nodup) (hm : ∀ x, x ∈ ys ↔ x ∈ xs) (hs : ys.Pairwise fun a b => PySem.W.dataLe false T.en a b = true) : ys = srtT T xs :=
  List.Perm.eq_of_pairwise (fun a b _ _ h1 h2 => T.anti a b h1 h2) hs (srtT_pair T xs) ((List.perm_ext_iff_of_nodup nd (srtT_nodup T xs)).mpr fun x => (hm x).trans (srtT_mem T).symm)
/-- (number, text) -/
theorem le_IS (p q : Int × Str) : PySem.W.dataLe false (eP2 eI eS) p q = true ↔ p.1 < q.1 ∨ (p.1 = q.1 ∧ leS p.2 q.2 = true) := by
  obtain ⟨a, x⟩ := p
  obtain ⟨b, y⟩ := q
  show (!PySem.W.dataLt (.tuple [.int b, .str y]) (.tuple [.int a, .str x])) = true ↔ _
  rw [lt_pair, leS_iff]
  by_cases h : b = a
  · rw [if_pos h]
    subst h
    simp only [Bool.not_eq_true', decide_eq_false_iff_not, Int.lt_irrefl, true_and, false_or]
    exact List.not_lt
  · rw [if_neg h]
    simp only [Bool.not_eq_true', decide_eq_false_iff_not]
    omega
def kIS : KeyT (Int × Str) where
  en := eP2 eI eS
  kf := fun p => [.inl p.1, .inr p.2]
  he := fun _ => rfl
  inj := fun x y h => by
    obtain ⟨a, z⟩ := x
    obtain ⟨b, u⟩ := y
    simp only [List.cons.injEq, Sum.inl.injEq, Sum.inr.injEq, and_true] at h
    rw [h.1, h.2]
  alk := fun x y => by simp [PySem.W.alike, PySem.W.alikeAll]
  ne := fun x => ⟨_, _, rfl⟩
  dep := fun x => by show PyData.depth (.tuple [.int x.1, .str x.2]) ≤ 8; simp [PyData.depth, PyData.depthAll]
  nod := fun x => rfl
  anti := fun x y h1 h2 => by
    rw [le_IS] at h1 h2
    have e1 : x.1 = y.1 := by omega
    have e2 : x.2 = y.2 := leS_anti _ _ (by rcases h1 with h | h; · omega
                                            · exact h.2) (by rcases h2 with h | h; · omega
                                                             · exact h.2)
    exact Prod.ext e1 e2
  tot := fun x y => by
    rw [Bool.or_eq_true, le_IS, le_IS]
    rcases Int.lt_trichotomy x.1 y.1 with h | h | h
    · exact .inl (.inl h)
    · have := leS_total x.2 y.2
      rw [Bool.or_eq_true] at this
      exact this.elim (fun z => .inl (.inr ⟨h, z⟩)) fun z => .inr (.inr ⟨h.symm, z⟩)
    · exact .inr (.inl h)
  tra := fun x y z h1 h2 => by
    rw [le_IS] at h1 h2 ⊢
    rcases h1 with h | ⟨h, h'⟩
    · exact .inl (by omega)
    · rcases h2 with k | ⟨k, k'⟩
      · exact .inl (by omega)
      · exact .inr ⟨h.trans k, leS_trans _ _ _ h' k'⟩
theorem keys_vals {K : KW} {F : Hp} : ∀ {k : List Key} {vs : List V}, DpAll K F vs (k.map keyD) → vs = k.map kV
  | [], _, h => by cases h; rfl
  | _ :: _, _, h => by
    cases h with
    | cons a b => rw [List.map_cons, key_v a, keys_vals b]
theorem dp_refs {α : Type} {K : KW} {F : Hp} (T : KeyT α) : ∀ {xs : List α} {vs : List V}, DpAll K F vs (xs.map T.en) → ∃ ks : List (Addr × α), vs = (ks.map fun q => V.ref q.1) ∧ ks.map (·.2) = xs ∧ ∀ q ∈ ks, Dp K F (.ref q.1) (T.en q.2)
  | [], _, h => by cases h; exact ⟨[], rfl, rfl, fun q z => nomatch z⟩
  | x :: xs, _, h => by
    cases h with
    | cons a b =>
      obtain ⟨ks, rfl, e2, e3⟩ := dp_refs T b
      have a' := a
      rw [T.he] at a'
      obtain ⟨r, us, rfl, _, _⟩ := dT a'
      exact ⟨(r, x) :: ks, rfl, by rw [List.map_cons, e2], fun q hq => (List.mem_cons.mp hq).elim (fun e => e ▸ a) (e3 q)⟩
theorem lift_map {α β : Type} {f : α → β} {ks : List α} : ∀ {l : List β}, (∀ q ∈ l, q ∈ ks.map f) → ∃ l2 : List α, l = l2.map f ∧ ∀ q ∈ l2, q ∈ ks
  | [], _ => ⟨[], rfl, fun q z => nomatch z⟩
  | x :: l, h => by
    obtain ⟨y, hy, rfl⟩ := List.mem_map.mp (h x List.mem_cons_self)
    obtain ⟨l2, rfl, e⟩ := lift_map (l := l) fun q hq => h q (List.mem_cons_of_mem _ hq)
    exact ⟨y :: l2, rfl, fun q hq => (List.mem_cons.mp hq).elim (fun z => z ▸ hy) (e q)⟩
theorem dpAll_each {α : Type} {K : KW} {F : Hp} {en : α → PyData} : ∀ {bs : List (Addr × α)}, (∀ q ∈ bs, Dp K F (.ref q.1) (en q.2)) → DpAll K F (bs.map fun q => V.ref q.1) ((bs.map (·.2)).map en)
  | [], _ => .nil
  | b :: bs, h => .cons (h b List.mem_cons_self) (dpAll_each fun q hq => h q (List.mem_cons_of_mem _ hq))
section
variable {X : Cx} {e : Expr} {env : AEnv} {k : Nat} {p p2 pos pos2 : Pos}
theorem xm_srtSetK {α : Type} [DecidableEq α] (T : KeyT α) {xs v : List α} (hr : Room k X.A) (h : XD X e env (.list (xs.map T.en))) (q : srtSetT T xs = some v) (hm : X.mg "sorted" = none) (hm2 : X.mg "set" = none) (hg : Gl X "sorted" := by rfl) (hg2 : Gl X "set" := by rfl) (hc : X.calm = true := by rfl)
    (hs : starEach [e] X.env = (false, eval e X.env) :: starEach [] X.env := by rfl) (hpl : (backTo pos2 (starEach [] X.env)).any (·.1) = false := by rfl)
    (hs2 : starEach [.Call (.Name "set" p2) [e] [] pos2] X.env = (false, eval (.Call (.Name "set" p2) [e] [] pos2) X.env) :: starEach [] X.env := by rfl) (hpl2 : (backTo pos (starEach [] X.env)).any (·.1) = false := by rfl) :
    XL X (.Call (.Name "sorted" p) [.Call (.Name "set" p2) [e] [] pos2] [] pos) env (v.map T.en) := fun F0 H0 F σ H E Q qq => by
  unfold srtSetT at q
  split at q
  · rename_i few
    cases q
    refine e_of (pe_callB (cr_sortedK (kf := T.kf) T.alk T.ne T.dep hc hr.units) hg hm (by decide +kernel) (pa_cons (pe_callTy (cr_setK hc hr.units) hg2 hm2 (by decide +kernel) (pa_cons e_w pa_nil hs) (by decide) (by decide) hs hpl) pa_nil hs2) (by decide) (by decide) hs2 hpl2) ?_
    refine h _ _ F σ H E _ fun w F1 H1 g1 p1 => ?_
    obtain ⟨a, vs, rfl, z1, z2⟩ := dL p1
    obtain ⟨ks, rfl, ek, dk⟩ := dp_refs T z2
    have sq : ∀ q ∈ ks, SqT X.K F1 q.1 ((T.kf q.2).map kV) := fun q hq => by
      have d := dk q hq
      rw [T.he] at d
      obtain ⟨r, us, e1, s1, s2⟩ := dT d
      cases e1
      rw [← keys_vals s2]; exact s1
    refine ⟨a, ks.map fun q => (q.1, T.kf q.2), rfl, by rw [List.map_map]; exact g1.fr.seq z1, fun q hq => ?_, ?_, fun r l hr got nd => ?_⟩
    · obtain ⟨q0, h0, rfl⟩ := List.mem_map.mp hq
      exact seqT_mono g1.fr (sq q0 h0)
    · rw [List.length_map, ← List.length_map (f := (·.2)), ek]; exact few
    · obtain ⟨l2, rfl, hl2⟩ := lift_map (f := fun q : Addr × α => (q.1, T.kf q.2)) (ks := ks) fun q hq => List.mem_of_mem_take (got.fr q hq)
      have g2 := Gro.own (o := KObj X.prog X.w r (l2.map fun q => (q.1, T.kf q.2))) g1.fr hr
      refine ⟨r, l2, rfl, upd_same, fun q hq => (dp_mono g2.fr (dk q (hl2 q hq))).lib (T.nod _), fun p2 bs pb hp2 => ?_⟩
      have g3 := Gro.own (o := .lst ((bs.mergeSort (PySem.W.dataLe false fun b : Addr × α => T.en b.2)).map fun q => V.ref q.1)) g2.fr hp2
      have pm := List.mergeSort_perm bs (PySem.W.dataLe false fun b : Addr × α => T.en b.2)
      have ev : (bs.mergeSort (PySem.W.dataLe false fun b : Addr × α => T.en b.2)).map (·.2) = srtT T xs := by
        refine srtT_unique T ?_ (fun x => ?_) ?_
        · rw [((pm.trans pb).map (·.2)).nodup_iff]
          rw [List.map_map] at nd
          exact L2.nodup_of_map (f := T.kf) (by rw [List.map_map]; exact nd)
        · rw [((pm.trans pb).map (·.2)).mem_iff]
          constructor
          · intro hx
            obtain ⟨q, hq, rfl⟩ := List.mem_map.mp hx
            rw [← ek]
            exact List.mem_map.mpr ⟨q, hl2 q hq, rfl⟩
          · intro hx
            rw [← ek] at hx
            obtain ⟨q, hq, rfl⟩ := List.mem_map.mp hx
            have := got.all (q.1, T.kf q.2) (by rw [List.take_length]; exact List.mem_map.mpr ⟨q, hq, rfl⟩)
            rw [List.map_map] at this
            obtain ⟨q2, hq2, e2⟩ := List.mem_map.mp this
            exact List.mem_map.mpr ⟨q2, hq2, T.inj _ _ e2⟩
        · rw [List.pairwise_map]
          exact List.pairwise_mergeSort (le := PySem.W.dataLe false fun b : Addr × α => T.en b.2) (fun a b c h1 h2 => T.tra a.2 b.2 c.2 h1 h2) (fun a b => T.tot a.2 b.2) bs
      refine qq p2 _ F1 _ ((g1.trans g2).trans g3) ((g1.trans g2).h.free hp2) (g2.fr.free hp2) upd_same ?_
      rw [← ev]
      exact dpAll_each fun q hq => dk q (hl2 q ((pm.trans pb).mem_iff.mp hq))
  · cases q
end
end FR

namespace My
open PySem PySem.Spec PyProof.Rows L2 FR
def topS (i : Nat) : Stmt := PySem.Challenge.pw_fromruns_k01_runs_in_order.main.body.getD i (.Pass ⟨0, 0, 0, 0⟩)
abbrev s_in_order : Stmt := topS 1
theorem sc_in_order : FnScope ["runs"] ["runs"] (defScope s_in_order) := ⟨rfl, rfl, rfl, by decide +kernel, rfl, by decide +kernel, by decide +kernel⟩
abbrev s_beginnings : Stmt := topS 2
theorem sc_beginnings : FnScope ["runs", "run", "many"] ["runs"] (defScope s_beginnings) := ⟨rfl, rfl, rfl, by decide +kernel, rfl, by decide +kernel, by decide +kernel⟩
abbrev s_law_cell : Stmt := topS 4
theorem sc_law_cell : FnScope ["script", "k"] ["script", "k"] (defScope s_law_cell) := ⟨rfl, rfl, rfl, by decide +kernel, rfl, by decide +kernel, by decide +kernel⟩
abbrev s_law_draws : Stmt := topS 5
theorem sc_law_draws : FnScope ["cell", "count", "rest", "digits", "seed", "draws", "k", "mixed"] ["cell", "count"] (defScope s_law_draws) := ⟨rfl, rfl, rfl, by decide +kernel, rfl, by decide +kernel, by decide +kernel⟩
abbrev s_law_is_run : Stmt := topS 6
theorem sc_law_is_run : FnScope ["value", "letter"] ["value"] (defScope s_law_is_run) := ⟨rfl, rfl, rfl, by decide +kernel, rfl, by decide +kernel, by decide +kernel⟩
abbrev s_law_letters : Stmt := topS 7
theorem sc_law_letters : FnScope ["draw", "count", "start", "step", "k"] ["draw", "count"] (defScope s_law_letters) := ⟨rfl, rfl, rfl, by decide +kernel, rfl, by decide +kernel, by decide +kernel⟩
abbrev s_law_word : Stmt := topS 8
theorem sc_law_word : FnScope ["draw", "letters", "longest", "size", "rest", "word", "k"] ["draw", "letters", "longest"] (defScope s_law_word) := ⟨rfl, rfl, rfl, by decide +kernel, rfl, by decide +kernel, by decide +kernel⟩
abbrev s_law_runs : Stmt := topS 9
theorem sc_law_runs : FnScope ["cell", "letters", "count", "longest", "draws", "parts", "runs", "r", "draw", "run", "middle", "k"] ["cell", "letters", "count", "longest"] (defScope s_law_runs) := ⟨rfl, rfl, rfl, by decide +kernel, rfl, by decide +kernel, by decide +kernel⟩
abbrev s_law_ordered : Stmt := topS 10
theorem sc_law_ordered : FnScope ["runs", "run", "pair"] ["runs"] (defScope s_law_ordered) := ⟨rfl, rfl, rfl, by decide +kernel, rfl, by decide +kernel, by decide +kernel⟩
abbrev s_law_beginnings : Stmt := topS 11
theorem sc_law_beginnings : FnScope ["runs", "found", "run", "end"] ["runs"] (defScope s_law_beginnings) := ⟨rfl, rfl, rfl, by decide +kernel, rfl, by decide +kernel, by decide +kernel⟩
abbrev s_law_fit : Stmt := topS 12
theorem sc_law_fit : FnScope ["runs", "most", "kept", "left", "run"] ["runs", "most"] (defScope s_law_fit) := ⟨rfl, rfl, rfl, by decide +kernel, rfl, by decide +kernel, by decide +kernel⟩
abbrev s_law_long_runs : Stmt := topS 13
theorem sc_law_long_runs : FnScope ["cell", "letters", "draws", "kind", "base", "at", "first", "second", "third", "word", "head", "runs", "r", "rest"] ["cell", "letters"] (defScope s_law_long_runs) := ⟨rfl, rfl, rfl, by decide +kernel, rfl, by decide +kernel, by decide +kernel⟩
abbrev s_law_is_runs : Stmt := topS 14
theorem sc_law_is_runs : FnScope ["value", "run"] ["value"] (defScope s_law_is_runs) := ⟨rfl, rfl, rfl, by decide +kernel, rfl, by decide +kernel, by decide +kernel⟩
abbrev s_law_rising : Stmt := topS 15
theorem sc_law_rising : FnScope ["runs", "at"] ["runs"] (defScope s_law_rising) := ⟨rfl, rfl, rfl, by decide +kernel, rfl, by decide +kernel, by decide +kernel⟩
abbrev s_law_great_runs : Stmt := topS 16
theorem sc_law_great_runs : FnScope ["cell", "letters", "draws", "run", "at", "cut", "r"] ["cell", "letters"] (defScope s_law_great_runs) := ⟨rfl, rfl, rfl, by decide +kernel, rfl, by decide +kernel, by decide +kernel⟩
abbrev s_law_passed : Stmt := topS 17
theorem sc_law_passed : FnScope ["script", "draws", "letters"] ["script"] (defScope s_law_passed) := ⟨rfl, rfl, rfl, by decide +kernel, rfl, by decide +kernel, by decide +kernel⟩
abbrev s_law_again : Stmt := topS 18
theorem sc_law_again : FnScope ["runs", "cell", "draws", "again", "draw", "run"] ["runs", "cell"] (defScope s_law_again) := ⟨rfl, rfl, rfl, by decide +kernel, rfl, by decide +kernel, by decide +kernel⟩
abbrev s_law : Stmt := topS 19
theorem sc_law : FnScope ["script", "runs", "told", "run", "begun", "word", "again", "other", "due", "end"] ["script"] (defScope s_law) := ⟨rfl, rfl, rfl, by decide +kernel, rfl, by decide +kernel, by decide +kernel⟩
structure Bi (mg : Str → Option Value) : Prop where
  z_tuple : mg "tuple" = none
  z_sorted : mg "sorted" = none
  z_set : mg "set" = none
  z_len : mg "len" = none
  z_range : mg "range" = none
  z_abs : mg "abs" = none
  z_int : mg "int" = none
  z_isinstance : mg "isinstance" = none
  z_str : mg "str" = none
  z_all : mg "all" = none
  z_list : mg "list" = none
  z_any : mg "any" = none
  z_sum : mg "sum" = none
  z_max : mg "max" = none
def m_law_cell (script_p : (List Int)) (k_p : Int) : Option Int :=
  if (decide (k_p < (script_p.length : Int))) = true then Option.bind (atI script_p k_p) fun v1 => some v1 else some (((5 : Int) * k_p) + (3 : Int))
def C_law_cell : Cn where
  ι := (List Int) × Int × Int
  n := 2
  args := fun i => [((eL eI) i.1), (eI i.2.1)]
  ok := fun i => m_law_cell i.1 i.2.1 = some i.2.2
  post := fun i r => r = (eI i.2.2)
  hl := fun _ => rfl
def m_law_draws (cell_p : Int) (count_p : Int) : Option (List Int) :=
  Option.bind (some (if cell_p < 0 then -cell_p else cell_p)) fun rest_1 => Option.bind (some (decide ((1000000000000000000 : Int) ≤ rest_1))) fun digits_3 => Option.bind (some rest_1) fun seed_5 => Option.bind (some ([] : List Int)) fun draws_7 => Option.bind (rng1 count_p) fun v9 => Option.bind (loopM (σ := ((List Int) × Int)) (ρ := Unit) (fun y10 s11 => Option.bind (α := Sum ((List Int) × Int) (Ctl ((List Int) × Int) Unit)) (if (digits_3 && (decide ((0 : Int) < s11.2))) = true then Option.bind (lApp s11.1 (s11.2 % (5040 : Int))) fun draws_13 => Option.bind (some (s11.2 / (5040 : Int))) fun rest_15 => some (Sum.inl (draws_13, rest_15)) else Option.bind (some ((((seed_5 * (48271 : Int)) + ((y10 + (1 : Int)) * (69621 : Int))) + (11 : Int)) % (2147483647 : Int))) fun mixed_17 => Option.bind (iMul mixed_17 mixed_17) fun v19 => Option.bind (some ((v19 + ((40692 : Int) * (y10 + (3 : Int)))) % (2147483399 : Int))) fun mixed_20 => Option.bind (lApp s11.1 ((mixed_20 / (64 : Int)) % (5040 : Int))) fun draws_22 => some (Sum.inl (draws_22, s11.2))) fun j12 => jn j12 (fun s12 => some (Ctl.nx (s12.1, s12.2))) (fun r0 => some r0)) v9 (draws_7, rest_1)) fun c24 => jn c24 (fun s24 => some s24.1) (fun r0 => none)
def C_law_draws : Cn where
  ι := Int × Int × (List Int)
  n := 2
  args := fun i => [(eI i.1), (eI i.2.1)]
  ok := fun i => m_law_draws i.1 i.2.1 = some i.2.2
  post := fun i r => r = ((eL eI) i.2.2)
  hl := fun _ => rfl
def m_law_letters (draw_p : Int) (count_p : Int) : Option (List Str) :=
  Option.bind (some (draw_p % (26 : Int))) fun start_1 => Option.bind (some ((1 : Int) + ((draw_p / (26 : Int)) % (12 : Int)))) fun step_3 => Option.bind (rng1 count_p) fun v5 => Option.bind (compM (fun y6 => Option.bind (iMul step_3 y6) fun v7 => Option.bind (sIx ("abcdefghijklmnopqrstuvwxyz" : Str) ((start_1 + v7) % (26 : Int))) fun v8 => some v8) v5) fun v9 => Option.bind (srtM v9) fun v10 => some v10
def C_law_letters : Cn where
  ι := Int × Int × (List Str)
  n := 2
  args := fun i => [(eI i.1), (eI i.2.1)]
  ok := fun i => m_law_letters i.1 i.2.1 = some i.2.2
  post := fun i r => r = ((eL eS) i.2.2)
  hl := fun _ => rfl
def m_law_word (draw_p : Int) (letters_p : (List Str)) (longest_p : Int) : Option Str :=
  Option.bind (iMod draw_p (longest_p + (1 : Int))) fun v1 => Option.bind (iDiv draw_p (longest_p + (1 : Int))) fun v4 => Option.bind (some ("" : Str)) fun word_7 => Option.bind (rng1 v1) fun v9 => Option.bind (loopM (σ := (Str × Int)) (ρ := Unit) (fun y10 s11 => Option.bind (iMod s11.2 (letters_p.length : Int)) fun v12 => Option.bind (atI letters_p v12) fun v13 => Option.bind (sAdd s11.1 v13) fun v14 => Option.bind (iDiv s11.2 (letters_p.length : Int)) fun v17 => Option.bind (some (v17 + ((37 : Int) * (y10 + (1 : Int))))) fun rest_18 => some (Ctl.nx (v14, rest_18))) v9 (word_7, v4)) fun c20 => jn c20 (fun s20 => some s20.1) (fun r0 => none)
def C_law_word : Cn where
  ι := Int × (List Str) × Int × Str
  n := 3
  args := fun i => [(eI i.1), ((eL eS) i.2.1), (eI i.2.2.1)]
  ok := fun i => m_law_word i.1 i.2.1 i.2.2.1 = some i.2.2.2
  post := fun i r => r = (eS i.2.2.2)
  hl := fun _ => rfl
def m_law_fit (runs_p : (List Str)) (most_p : Int) : Option (List Str) :=
  Option.bind (some ([] : List Str)) fun kept_1 => Option.bind (some most_p) fun left_3 => Option.bind (loopM (σ := ((List Str) × Int)) (ρ := Unit) (fun y5 s6 => Option.bind (sLen y5) fun v7 => if (decide (v7 ≤ s6.2)) = true then Option.bind (lApp s6.1 y5) fun kept_8 => Option.bind (sLen y5) fun v10 => Option.bind (some (s6.2 - v10)) fun left_11 => some (Ctl.nx (kept_8, left_11)) else some (Ctl.bk (s6.1, s6.2))) runs_p (kept_1, left_3)) fun c13 => jn c13 (fun s13 => some s13.1) (fun r0 => none)
def C_law_fit : Cn where
  ι := (List Str) × Int × (List Str)
  n := 2
  args := fun i => [((eL eS) i.1), (eI i.2.1)]
  ok := fun i => m_law_fit i.1 i.2.1 = some i.2.2
  post := fun i r => r = ((eV eS) i.2.2)
  hl := fun _ => rfl
def m_law_long_runs (cell_p : Int) (letters_p : (List Str)) : Option (List Str) :=
  Option.bind (m_law_draws cell_p (70 : Int)) fun v1 => Option.bind (atI v1 (0 : Int)) fun v4 => Option.bind (some (v4 % (4 : Int))) fun kind_5 => Option.bind (some ("" : Str)) fun base_7 => Option.bind (atI v1 (1 : Int)) fun v9 => Option.bind (rng1 ((60 : Int) - ((v9 / (8 : Int)) % (3 : Int)))) fun v10 => Option.bind (loopM (σ := (Str)) (ρ := Unit) (fun y11 s12 => Option.bind (atI v1 ((10 : Int) + y11)) fun v13 => Option.bind (iMod v13 (letters_p.length : Int)) fun v14 => Option.bind (atI letters_p v14) fun v15 => Option.bind (sAdd s12 v15) fun v16 => some (Ctl.nx (v16))) v10 (base_7)) fun c19 => jn c19 (fun s19 => Option.bind (if (decide (kind_5 = (0 : Int))) = true then Option.bind (atI v1 (1 : Int)) fun v20 => some (decide ((v20 % (8 : Int)) = (0 : Int))) else some false) fun v21 => if v21 = true then some ([s19] : List Str) else if (decide (kind_5 = (0 : Int))) = true then Option.bind (atI v1 (2 : Int)) fun v22 => Option.bind (sCut s19 none (some ((12 : Int) + (v22 % (9 : Int))))) fun v23 => Option.bind (atI v1 (3 : Int)) fun v26 => Option.bind (sLen v23) fun v27 => Option.bind (iMod v26 (v27 + (1 : Int))) fun v28 => Option.bind (sCut v23 none (some v28)) fun v29 => Option.bind (atI v1 (4 : Int)) fun v30 => Option.bind (sLen v23) fun v31 => Option.bind (iMod v30 (v31 + (1 : Int))) fun v32 => Option.bind (sCut v23 (some v32) none) fun v33 => Option.bind (sAdd v29 v33) fun v34 => Option.bind (atI v1 (5 : Int)) fun v37 => Option.bind (sLen v23) fun v38 => Option.bind (iMod v37 v38) fun v39 => Option.bind (sCut v23 (some v39) none) fun v40 => Option.bind (sAdd v40 v23) fun v41 => Option.bind (sCut v34 none (some (20 : Int))) fun v44 => Option.bind (sCut v41 none (some (20 : Int))) fun v45 => some ([v23, v44, v45] : List Str) else if (decide (kind_5 = (1 : Int))) = true then Option.bind (atI v1 (2 : Int)) fun v46 => Option.bind (m_law_word v46 letters_p (4 : Int)) fun v47 => Option.bind (atI letters_p (0 : Int)) fun v48 => Option.bind (sAdd v47 v48) fun v49 => Option.bind (atI v1 (3 : Int)) fun v52 => Option.bind (m_law_word v52 letters_p (3 : Int)) fun v53 => Option.bind (sMul v49 (60 : Int)) fun v56 => Option.bind (atI v1 (4 : Int)) fun v57 => Option.bind (sCut v56 none (some ((38 : Int) - (v57 % (9 : Int))))) fun v58 => Option.bind (sAdd v53 v58) fun v59 => Option.bind (atI v1 (5 : Int)) fun v60 => Option.bind (sMul v49 ((1 : Int) + (v60 % (3 : Int)))) fun v61 => Option.bind (sAdd v53 v61) fun v62 => some ([v59, v62] : List Str) else if (decide (kind_5 = (2 : Int))) = true then Option.bind (some ([] : List Str)) fun runs_63 => Option.bind (rng1 (4 : Int)) fun v65 => Option.bind (loopM (σ := ((List Str))) (ρ := Unit) (fun y66 s67 => Option.bind (atI v1 ((10 : Int) + ((4 : Int) * y66))) fun v68 => Option.bind (m_law_word v68 letters_p (3 : Int)) fun v69 => Option.bind (atI v1 ((11 : Int) + ((4 : Int) * y66))) fun v70 => Option.bind (iMod v70 (letters_p.length : Int)) fun v71 => Option.bind (atI letters_p v71) fun v72 => Option.bind (sAdd v69 v72) fun v73 => Option.bind (atI v1 ((12 : Int) + ((4 : Int) * y66))) fun v76 => Option.bind (m_law_word v76 letters_p (3 : Int)) fun v77 => Option.bind (sMul v73 (20 : Int)) fun v80 => Option.bind (atI v1 ((13 : Int) + ((4 : Int) * y66))) fun v81 => Option.bind (sCut v80 none (some ((8 : Int) + (v81 % (15 : Int))))) fun v82 => Option.bind (sAdd v82 v77) fun v83 => Option.bind (lApp s67 v83) fun runs_84 => some (Ctl.nx (runs_84))) v65 (runs_63)) fun c86 => jn c86 (fun s86 => Option.bind (m_law_fit s86 (60 : Int)) fun v87 => some v87) (fun r0 => none) else Option.bind (rng1 (59 : Int)) fun v88 => Option.bind (compM (fun y89 => Option.bind (atI v1 ((10 : Int) + y89)) fun v90 => Option.bind (atI v1 (5 : Int)) fun v91 => Option.bind (m_law_word v90 letters_p ((1 : Int) + (v91 % (4 : Int)))) fun v92 => some v92) v88) fun v93 => Option.bind (m_law_fit v93 (60 : Int)) fun v94 => some v94) (fun r0 => none)
def C_law_long_runs : Cn where
  ι := Int × (List Str) × (List Str)
  n := 2
  args := fun i => [(eI i.1), ((eL eS) i.2.1)]
  ok := fun i => m_law_long_runs i.1 i.2.1 = some i.2.2
  post := fun i r => r = ((eV eS) i.2.2)
  hl := fun _ => rfl
def m_law_great_runs (cell_p : Int) (letters_p : (List Str)) : Option (List Str) :=
  Option.bind (m_law_draws cell_p (90 : Int)) fun v1 => Option.bind (atI v1 (0 : Int)) fun v4 => if (decide ((v4 % (3 : Int)) = (0 : Int))) = true then Option.bind (some ("" : Str)) fun run_5 => Option.bind (rng1 (64 : Int)) fun v7 => Option.bind (loopM (σ := (Str)) (ρ := Unit) (fun y8 s9 => Option.bind (atI v1 ((10 : Int) + y8)) fun v10 => Option.bind (iMod v10 (letters_p.length : Int)) fun v11 => Option.bind (atI letters_p v11) fun v12 => Option.bind (sAdd s9 v12) fun v13 => some (Ctl.nx (v13))) v7 (run_5)) fun c16 => jn c16 (fun s16 => Option.bind (atI v1 (1 : Int)) fun v17 => Option.bind (some (v17 % (65 : Int))) fun cut_18 => Option.bind (sCut s16 none (some cut_18)) fun v20 => Option.bind (sCut s16 none (some ((64 : Int) - cut_18))) fun v21 => Option.bind (sAdd v20 v21) fun v22 => Option.bind (sRev s16) fun v23 => Option.bind (atI v1 (2 : Int)) fun v24 => Option.bind (sCut v23 none (some (v24 % (9 : Int)))) fun v25 => Option.bind (sCut s16 none (some cut_18)) fun v26 => some ([s16, v22, v25, v26] : List Str)) (fun r0 => none) else Option.bind (atI v1 (0 : Int)) fun v27 => if (decide ((v27 % (3 : Int)) = (1 : Int))) = true then Option.bind (rng1 (80 : Int)) fun v28 => Option.bind (compM (fun y29 => Option.bind (atI v1 ((10 : Int) + y29)) fun v30 => Option.bind (m_law_word v30 letters_p (4 : Int)) fun v31 => some v31) v28) fun v32 => Option.bind (m_law_fit v32 (200 : Int)) fun v33 => some v33 else Option.bind (m_law_long_runs cell_p letters_p) fun v34 => some v34
def C_law_great_runs : Cn where
  ι := Int × (List Str) × (List Str)
  n := 2
  args := fun i => [(eI i.1), ((eL eS) i.2.1)]
  ok := fun i => m_law_great_runs i.1 i.2.1 = some i.2.2
  post := fun i r => r = ((eV eS) i.2.2)
  hl := fun _ => rfl
def m_law_runs (cell_p : Int) (letters_p : (List Str)) (count_p : Int) (longest_p : Int) : Option (List Str) :=
  Option.bind (m_law_draws cell_p ((5 : Int) + ((4 : Int) * count_p))) fun v1 => Option.bind (rng1 (4 : Int)) fun v4 => Option.bind (compM (fun y5 => Option.bind (atI v1 ((1 : Int) + y5)) fun v6 => Option.bind (m_law_word v6 letters_p (2 : Int)) fun v7 => some v7) v4) fun v8 => Option.bind (some ([] : List Str)) fun runs_9 => Option.bind (atI v1 (0 : Int)) fun v11 => Option.bind (iMod v11 (count_p + (1 : Int))) fun v12 => Option.bind (rng1 v12) fun v13 => Option.bind (loopM (σ := ((List Str))) (ρ := Unit) (fun y14 s15 => Option.bind (atI v1 ((5 : Int) + ((4 : Int) * y14))) fun v16 => Option.bind (α := Sum (Str) (Ctl ((List Str)) Unit)) (if (decide ((v16 % (3 : Int)) = (0 : Int))) = true then Option.bind (atI v1 ((6 : Int) + ((4 : Int) * y14))) fun v20 => Option.bind (m_law_word v20 letters_p longest_p) fun v21 => some (Sum.inl (v21)) else Option.bind (α := Sum (Str) (Sum (Str) (Ctl ((List Str)) Unit))) (if (decide ((v16 % (3 : Int)) = (1 : Int))) = true then Option.bind (atI v1 ((7 : Int) + ((4 : Int) * y14))) fun v25 => Option.bind (atI v8 (v25 % (4 : Int))) fun v26 => Option.bind (atI v1 ((6 : Int) + ((4 : Int) * y14))) fun v29 => Option.bind (atI v8 (v29 % (4 : Int))) fun v30 => Option.bind (atI v1 ((8 : Int) + ((4 : Int) * y14))) fun v31 => Option.bind (sMul v26 (v31 % (4 : Int))) fun v32 => Option.bind (sAdd v30 v32) fun v33 => Option.bind (atI v1 ((8 : Int) + ((4 : Int) * y14))) fun v34 => Option.bind (atI v8 ((v34 / (4 : Int)) % (4 : Int))) fun v35 => Option.bind (sAdd v33 v35) fun v36 => some (Sum.inl (v36)) else Option.bind (atI v1 ((6 : Int) + ((4 : Int) * y14))) fun v39 => Option.bind (atI v8 (v39 % (4 : Int))) fun v40 => Option.bind (atI v1 ((7 : Int) + ((4 : Int) * y14))) fun v41 => Option.bind (m_law_word v41 letters_p (2 : Int)) fun v42 => Option.bind (sAdd v40 v42) fun v43 => Option.bind (atI v1 ((8 : Int) + ((4 : Int) * y14))) fun v44 => Option.bind (atI v8 (v44 % (4 : Int))) fun v45 => Option.bind (sAdd v43 v45) fun v46 => some (Sum.inl (v46))) fun j24 => jn j24 (fun s24 => some (Sum.inl (s24))) (fun r0 => some r0)) fun j19 => jn j19 (fun s19 => Option.bind (sCut s19 none (some longest_p)) fun v49 => Option.bind (lApp s15 v49) fun runs_50 => some (Ctl.nx (runs_50))) (fun r0 => some r0)) v13 (runs_9)) fun c52 => jn c52 (fun s52 => some s52) (fun r0 => none)
def C_law_runs : Cn where
  ι := Int × (List Str) × Int × Int × (List Str)
  n := 4
  args := fun i => [(eI i.1), ((eL eS) i.2.1), (eI i.2.2.1), (eI i.2.2.2.1)]
  ok := fun i => m_law_runs i.1 i.2.1 i.2.2.1 i.2.2.2.1 = some i.2.2.2.2
  post := fun i r => r = ((eV eS) i.2.2.2.2)
  hl := fun _ => rfl
def m_law_passed (script_p : (List Int)) : Option (List Str) :=
  Option.bind (m_law_cell script_p (0 : Int)) fun v1 => Option.bind (m_law_draws v1 (4 : Int)) fun v2 => Option.bind (atI v2 (0 : Int)) fun v5 => Option.bind (atI v2 (1 : Int)) fun v6 => Option.bind (atI ([(2 : Int), (1 : Int), (3 : Int), (2 : Int), (4 : Int), (6 : Int)] : List Int) (v6 % (6 : Int))) fun v7 => Option.bind (m_law_letters v5 v7) fun v8 => Option.bind (atI v2 (2 : Int)) fun v11 => if (decide ((v11 % (8 : Int)) = (5 : Int))) = true then Option.bind (m_law_cell script_p (1 : Int)) fun v12 => Option.bind (m_law_great_runs v12 v8) fun v13 => some v13 else Option.bind (m_law_cell script_p (1 : Int)) fun v14 => Option.bind (m_law_runs v14 v8 (8 : Int) (8 : Int)) fun v15 => some v15
def C_law_passed : Cn where
  ι := (List Int) × (List Str)
  n := 1
  args := fun i => [((eL eI) i.1)]
  ok := fun i => m_law_passed i.1 = some i.2
  post := fun i r => r = ((eV eS) i.2)
  hl := fun _ => rfl
def m_in_order (runs_p : (List Str)) : Option (List Str) :=
  Option.bind (srtSetM runs_p) fun v1 => Option.bind (srtLenM v1) fun v2 => some v2
def C_in_order : Cn where
  ι := (List Str) × (List Str)
  n := 1
  args := fun i => [((eV eS) i.1)]
  ok := fun i => m_in_order i.1 = some i.2
  post := fun i r => r = ((eV eS) i.2)
  hl := fun _ => rfl
def m_law_is_run (value_p : Str) : Option Bool :=
  Option.bind (if true = true then Option.bind (compM (fun y1 => Option.bind (sIn y1 ("abcdefghijklmnopqrstuvwxyz" : Str)) fun v2 => some v2) (chs value_p)) fun v3 => some (v3.all id) else some false) fun v4 => some v4
def C_law_is_run : Cn where
  ι := Str × Bool
  n := 1
  args := fun i => [(eS i.1)]
  ok := fun i => m_law_is_run i.1 = some i.2
  post := fun i r => r = (eB i.2)
  hl := fun _ => rfl
def m_law_is_runs (value_p : (List Str)) : Option Bool :=
  Option.bind (if true = true then Option.bind (compM (fun y1 => Option.bind (m_law_is_run y1) fun v2 => some v2) value_p) fun v3 => some (v3.all id) else some false) fun v4 => some v4
def C_law_is_runs : Cn where
  ι := (List Str) × Bool
  n := 1
  args := fun i => [((eV eS) i.1)]
  ok := fun i => m_law_is_runs i.1 = some i.2
  post := fun i r => r = (eB i.2)
  hl := fun _ => rfl
def m_law_rising (runs_p : (List Str)) : Option Bool :=
  Option.bind (rng2 (1 : Int) (runs_p.length : Int)) fun v1 => Option.bind (loopM (σ := Unit) (ρ := Bool) (fun y2 s3 => Option.bind (atI runs_p (y2 - (1 : Int))) fun v4 => Option.bind (sLen v4) fun v5 => Option.bind (atI runs_p (y2 - (1 : Int))) fun v6 => Option.bind (atI runs_p y2) fun v7 => Option.bind (sLen v7) fun v8 => Option.bind (atI runs_p y2) fun v9 => Option.bind (ltD ((eP2 eI eS) (v5, v6)) ((eP2 eI eS) (v8, v9))) fun v10 => if (!v10) = true then some (Ctl.rt false) else some (Ctl.nx ())) v1 ()) fun c11 => jn c11 (fun s11 => some true) (fun r0 => some r0)
def C_law_rising : Cn where
  ι := (List Str) × Bool
  n := 1
  args := fun i => [((eV eS) i.1)]
  ok := fun i => m_law_rising i.1 = some i.2
  post := fun i r => r = (eB i.2)
  hl := fun _ => rfl
def m_in_order_1 (runs_p : (List Str)) : Option (List Str) :=
  Option.bind (srtSetM runs_p) fun v1 => Option.bind (srtLenM v1) fun v2 => some v2
def C_in_order_1 : Cn where
  ι := (List Str) × (List Str)
  n := 1
  args := fun i => [((eL eS) i.1)]
  ok := fun i => m_in_order_1 i.1 = some i.2
  post := fun i r => r = ((eV eS) i.2)
  hl := fun _ => rfl
def m_beginnings (runs_p : (List Str)) : Option (List Str) :=
  Option.bind (comp2M (fun y1 => Option.bind (sLen y1) fun v3 => Option.bind (rng1 (v3 + (1 : Int))) fun v4 => some v4) (fun y1 y2 => Option.bind (sCut y1 none (some y2)) fun v5 => some v5) runs_p) fun v6 => Option.bind (m_in_order_1 v6) fun v7 => some v7
def C_beginnings : Cn where
  ι := (List Str) × (List Str)
  n := 1
  args := fun i => [((eV eS) i.1)]
  ok := fun i => m_beginnings i.1 = some i.2
  post := fun i r => r = ((eV eS) i.2)
  hl := fun _ => rfl
def m_law_again (runs_p : (List Str)) (cell_p : Int) : Option (List Str) :=
  Option.bind (m_law_draws cell_p (4 : Int)) fun v1 => Option.bind (some (List.reverse runs_p)) fun again_4 => Option.bind (α := Sum ((List Str)) (List Str)) (if ((decide ((0 : Int) < (runs_p.length : Int))) && (decide ((runs_p.length : Int) ≤ (8 : Int)))) = true then Option.bind (loopM (σ := ((List Str))) (ρ := Unit) (fun y7 s8 => Option.bind (iMod y7 (runs_p.length : Int)) fun v9 => Option.bind (atI runs_p v9) fun v10 => Option.bind (α := Sum ((List Str)) (Ctl ((List Str)) Unit)) (if (decide (((y7 / (80 : Int)) % (2 : Int)) = (0 : Int))) = true then Option.bind (lCat ([v10] : List Str) s8) fun v14 => some (Sum.inl (v14)) else Option.bind (lCat s8 ([v10] : List Str)) fun v17 => some (Sum.inl (v17))) fun j13 => jn j13 (fun s13 => some (Ctl.nx (s13))) (fun r0 => some r0)) v1 (again_4)) fun c20 => jn c20 (fun s20 => some (Sum.inl (s20))) (fun r0 => none) else some (Sum.inl (again_4))) fun j6 => jn j6 (fun s6 => some s6) (fun r0 => some r0)
def C_law_again : Cn where
  ι := (List Str) × Int × (List Str)
  n := 2
  args := fun i => [((eV eS) i.1), (eI i.2.1)]
  ok := fun i => m_law_again i.1 i.2.1 = some i.2.2
  post := fun i r => r = ((eV eS) i.2.2)
  hl := fun _ => rfl
def m_law_ordered (runs_p : (List Str)) : Option (List Str) :=
  Option.bind (compM (fun y1 => Option.bind (sLen y1) fun v2 => some (v2, y1)) runs_p) fun v3 => Option.bind (srtSetT kIS v3) fun v4 => Option.bind (compM (fun y5 => some y5.2) v4) fun v6 => some v6
def C_law_ordered : Cn where
  ι := (List Str) × (List Str)
  n := 1
  args := fun i => [((eV eS) i.1)]
  ok := fun i => m_law_ordered i.1 = some i.2
  post := fun i r => r = ((eL eS) i.2)
  hl := fun _ => rfl
def m_law_ordered_1 (runs_p : (List Str)) : Option (List Str) :=
  Option.bind (compM (fun y1 => Option.bind (sLen y1) fun v2 => some (v2, y1)) runs_p) fun v3 => Option.bind (srtSetT kIS v3) fun v4 => Option.bind (compM (fun y5 => some y5.2) v4) fun v6 => some v6
def C_law_ordered_1 : Cn where
  ι := (List Str) × (List Str)
  n := 1
  args := fun i => [((eL eS) i.1)]
  ok := fun i => m_law_ordered_1 i.1 = some i.2
  post := fun i r => r = ((eL eS) i.2)
  hl := fun _ => rfl
def m_law_beginnings (runs_p : (List Str)) : Option (List Str) :=
  Option.bind (some ([] : List Str)) fun found_1 => Option.bind (loopM (σ := ((List Str))) (ρ := Unit) (fun y3 s4 => Option.bind (sLen y3) fun v5 => Option.bind (rng1 (v5 + (1 : Int))) fun v6 => Option.bind (compM (fun y7 => Option.bind (sCut y3 none (some y7)) fun v8 => some v8) v6) fun v9 => Option.bind (lCat s4 v9) fun v10 => some (Ctl.nx (v10))) runs_p (found_1)) fun c13 => jn c13 (fun s13 => Option.bind (m_law_ordered_1 s13) fun v14 => some v14) (fun r0 => none)
def C_law_beginnings : Cn where
  ι := (List Str) × (List Str)
  n := 1
  args := fun i => [((eV eS) i.1)]
  ok := fun i => m_law_beginnings i.1 = some i.2
  post := fun i r => r = ((eL eS) i.2)
  hl := fun _ => rfl
def m_law (script_p : (List Int)) : Option Bool :=
  Option.bind (m_law_passed script_p) fun v1 => Option.bind (m_in_order v1) fun v4 => Option.bind (m_law_is_runs v4) fun v7 => Option.bind (if (!v7) = true then some true else Option.bind (m_law_rising v4) fun v8 => some (!v8)) fun v9 => if v9 = true then some false else Option.bind (compM (fun y10 => some (decide (y10 ∈ v4))) v1) fun v11 => Option.bind (if (!(v11.all id)) = true then some true else Option.bind (compM (fun y12 => some (decide (y12 ∈ v1))) v4) fun v13 => some (!(v13.all id))) fun v14 => if v14 = true then some false else Option.bind (m_beginnings v1) fun v15 => Option.bind (m_law_is_runs v15) fun v18 => Option.bind (if (!v18) = true then some true else Option.bind (m_law_rising v15) fun v19 => some (!v19)) fun v20 => if v20 = true then some false else Option.bind (loopM (σ := Unit) (ρ := Bool) (fun y21 s22 => Option.bind (sLen y21) fun v23 => Option.bind (rng1 (v23 + (1 : Int))) fun v24 => Option.bind (compM (fun y25 => Option.bind (sCut y21 none (some y25)) fun v26 => some (decide (v26 ∈ v15))) v24) fun v27 => if (!(v27.all id)) = true then some (Ctl.rt false) else some (Ctl.nx ())) v1 ()) fun c28 => jn c28 (fun s28 => Option.bind (loopM (σ := Unit) (ρ := Bool) (fun y29 s30 => Option.bind (compM (fun y31 => Option.bind (sLen y29) fun v32 => Option.bind (sCut y31 none (some v32)) fun v33 => some (decide (v33 = y29))) v1) fun v34 => if (!(v34.any id)) = true then some (Ctl.rt false) else some (Ctl.nx ())) v15 ()) fun c35 => jn c35 (fun s35 => Option.bind (some (List.reverse v1)) fun again_36 => Option.bind (compM (fun y38 => Option.bind (sLen y38) fun v39 => some v39) v1) fun v40 => Option.bind (if (decide ((v40.sum) ≤ (64 : Int))) = true then Option.bind (compM (fun y41 => Option.bind (sLen y41) fun v42 => some v42) v1) fun v43 => Option.bind (lCat ([(0 : Int)] : List Int) v43) fun v44 => Option.bind (maxM v44) fun v45 => some (decide (v45 ≤ (34 : Int))) else some false) fun v46 => Option.bind (α := Sum ((List Str)) Bool) (if v46 = true then Option.bind (m_law_cell script_p (2 : Int)) fun v48 => Option.bind (m_law_again v1 v48) fun v49 => some (Sum.inl (v49)) else some (Sum.inl (again_36))) fun j47 => jn j47 (fun s47 => Option.bind (m_in_order s47) fun v52 => Option.bind (eqD ((eV eS) v52) ((eV eS) v4)) fun v53 => Option.bind (if (!v53) = true then some true else Option.bind (m_beginnings s47) fun v54 => Option.bind (eqD ((eV eS) v54) ((eV eS) v15)) fun v55 => Option.bind (if (!v55) = true then some true else Option.bind (m_in_order v4) fun v56 => Option.bind (eqD ((eV eS) v56) ((eV eS) v4)) fun v57 => some (!v57)) fun v58 => some v58) fun v59 => if v59 = true then some false else Option.bind (m_law_cell script_p (3 : Int)) fun v60 => Option.bind (m_law_runs v60 ([("a" : Str), ("z" : Str)] : List Str) (3 : Int) (4 : Int)) fun v61 => Option.bind (m_law_ordered v61) fun v64 => Option.bind (m_in_order v61) fun v67 => Option.bind (eqD ((eL eS) v67) ((eL eS) v64)) fun v68 => Option.bind (if (!v68) = true then some true else Option.bind (m_beginnings v61) fun v69 => Option.bind (m_law_beginnings v61) fun v70 => Option.bind (eqD ((eL eS) v69) ((eL eS) v70)) fun v71 => some (!v71)) fun v72 => if v72 = true then some false else Option.bind (m_in_order v1) fun v73 => Option.bind (eqD ((eV eS) v73) ((eV eS) v4)) fun v74 => Option.bind (if v74 = true then Option.bind (m_beginnings v1) fun v75 => Option.bind (eqD ((eV eS) v75) ((eV eS) v15)) fun v76 => some v76 else some false) fun v77 => some v77) (fun r0 => some r0)) (fun r0 => some r0)) (fun r0 => some r0)
theorem cell_ok {ns : List Int} {k : Int} (h : 0 ≤ k) : Ex (m_law_cell ns k) fun _ => True := by
  unfold m_law_cell
  refine ex_if (fun hc => ?_) fun _ => ex_some trivial
  have hc := of_decide_eq_true hc
  exact ex_at ⟨h, hc⟩ fun x _ _ => ex_some trivial
def Drw (n : Int) (ds : List Int) : Prop := (ds.length : Int) = n ∧ ∀ x ∈ ds, 0 ≤ x ∧ x < 5040
theorem draws_ok {c n : Int} (h : 0 ≤ n ∧ n ≤ 5000) : Ex (m_law_draws c n) (Drw n) := by
  unfold m_law_draws
  have ha : 0 ≤ (if c < 0 then -c else c) := by split <;> omega
  generalize (if c < 0 then -c else c) = a at ha
  refine ex_id (ex_id (ex_id (ex_id ?_)))
  generalize (decide ((1000000000000000000 : Int) ≤ a)) = dg
  refine ex_rng1 h.1 (by omega) ?_
  refine ex_loop (fun i (s : List Int × Int) => s.1.length = i ∧ i ≤ n.toNat ∧ ∀ x ∈ s.1, 0 ≤ x ∧ x < 5040) ⟨rfl, Nat.zero_le _, fun x hx => by cases hx⟩ ?_ ?_
  · rintro i x ⟨ds, r⟩ hx ⟨p1, p2, p3⟩
    simp only at p1 p2 p3
    have hi : i < n.toNat := by
      have := (List.getElem?_eq_some_iff.mp hx).1
      simpa using this
    have app : ∀ x : Int, 0 ≤ x ∧ x < 5040 → ∀ y ∈ ds ++ [x], 0 ≤ y ∧ y < 5040 := fun x hx y hy => by
      rcases List.mem_append.mp hy with q | q
      · exact p3 y q
      · rw [List.mem_singleton] at q; subst q; exact hx
    refine ex_jn1 (fun s : List Int × Int => s.1.length = i + 1 ∧ ∀ x ∈ s.1, 0 ≤ x ∧ x < 5040) (ex_if (fun _ => ?_) fun _ => ?_) fun s p => ex_some ⟨_, rfl, p.1, hi, p.2⟩
    · exact ex_app (by simp only; omega) (ex_id (ex_some ⟨_, rfl, by simp [p1], app _ (by omega)⟩))
    · refine ex_id (ex_mul (.inl ⟨by omega, by omega⟩) (ex_id (ex_app (by simp only; omega) (ex_some ⟨_, rfl, by simp [p1], app _ (by omega)⟩))))
  · rintro ⟨ds, r⟩ ⟨p1, p2, p3⟩
    exact ex_some ⟨by simp only at p1 ⊢; rw [p1, List.length_map, List.length_range]; omega, p3⟩
theorem ex_drw {β : Type} {Q : β → Prop} {ds : List Int} {n i : Int} {f : Int → Option β} (h : Drw n ds) (hi : 0 ≤ i ∧ i < n) (k : ∀ x, 0 ≤ x ∧ x < 5040 → Ex (f x) Q) : Ex (Option.bind (atI ds i) f) Q :=
  ex_at (by rw [h.1]; exact hi) fun x hx _ => k x (h.2 x hx)
theorem letters_ok {d n : Int} (h : 0 ≤ n ∧ n < 64) : Ex (m_law_letters d n) fun ls => (ls.length : Int) = n ∧ Letters ls := by
  unfold m_law_letters
  refine ex_id (ex_id (ex_rng1 h.1 (by omega) ?_))
  refine ex_comp (fun (_ : Int) (y : Str) => ∃ c : Nat, y = ⟨#[c]⟩ ∧ 97 ≤ c ∧ c ≤ 122) (fun x _ => ?_) (by simp; omega) fun ys h2 h3 => ?_
  · refine ex_mul (.inl ⟨by omega, by omega⟩) ?_
    show Ex (Option.bind (sIx alphaS _) _) _
    obtain ⟨c, e, hc⟩ := sIx_ok (z := alphaS) (i := ((d % (26 : Int)) + (1 + d / 26 % 12) * x) % (26 : Int)) (by rw [alpha_len]; decide) (by rw [alpha_len]; constructor <;> omega)
    exact ex_is e (ex_some ⟨c, rfl, alpha_bnd hc⟩)
  · rw [List.length_map, List.length_range] at h2
    refine ex_is (srtM_ok (by omega)) (ex_some ⟨by rw [srtS_length]; omega, fun z hz => ?_⟩)
    obtain ⟨_, _, q⟩ := h3 z ((srtS_perm _).mem_iff.mp hz)
    exact q
structure Ltr (ls : List Str) : Prop where
  pos : 0 < ls.length
  few : ls.length ≤ 64
  ltr : Letters ls
theorem ex_ltr {β : Type} {Q : β → Prop} {ls : List Str} {a : Int} {f : Int → Option β} (h : Ltr ls) (k : ∀ j, 0 ≤ j ∧ j < (ls.length : Int) → Ex (f j) Q) : Ex (Option.bind (iMod a (ls.length : Int)) f) Q := by
  have := h.pos
  exact ex_mod (by omega) (k _ ⟨Int.emod_nonneg _ (by omega), Int.emod_lt_of_pos _ (by omega)⟩)
theorem word_ok {d lg : Int} {ls : List Str} (hl : Ltr ls) (hd : 0 ≤ d) (hg : 0 ≤ lg ∧ lg ≤ 1000) : Ex (m_law_word d ls lg) fun z => (z.length : Int) ≤ lg ∧ isRun z := by
  unfold m_law_word
  have h1 := hl.pos
  have h2 := hl.few
  refine ex_mod (by omega) (ex_div (by omega) (by omega) (ex_id ?_))
  have hm : 0 ≤ d % (lg + 1) ∧ d % (lg + 1) < lg + 1 := ⟨Int.emod_nonneg _ (by omega), Int.emod_lt_of_pos _ (by omega)⟩
  have hq : 0 ≤ d / (lg + 1) := Int.ediv_nonneg hd (by omega)
  generalize d % (lg + 1) = sz at hm
  generalize d / (lg + 1) = q0 at hq
  refine ex_rng1 hm.1 (by omega) ?_
  refine ex_loop (fun i (s : Str × Int) => s.1.length = i ∧ i ≤ sz.toNat ∧ isRun s.1 ∧ 0 ≤ s.2) ⟨rfl, Nat.zero_le _, isRun_nil, hq⟩ ?_ ?_
  · rintro i x ⟨z, r⟩ hx ⟨p1, p2, p3, p4⟩
    have hi : i < sz.toNat := by
      have := (List.getElem?_eq_some_iff.mp hx).1
      simpa using this
    have hx2 : x = (i : Int) := by simpa [hi] using hx.symm
    simp only at p1 p2 p3 p4
    refine ex_ltr hl fun j hj => ex_at hj fun y hy _ => ?_
    obtain ⟨w1, w2⟩ := hl.ltr.run hy
    have hq2 : 0 ≤ r / (ls.length : Int) := Int.ediv_nonneg p4 (by omega)
    exact ex_sadd (by simp only; omega) (ex_div (by omega) (by omega) (ex_id (ex_some ⟨_, rfl, by rw [len_app, p1, w1], hi, isRun_app p3 w2, by simp only; omega⟩)))
  · rintro ⟨z, r⟩ ⟨p1, p2, p3, p4⟩
    rw [List.length_map, List.length_range] at p1
    exact ex_some ⟨by simp only at p1 ⊢; omega, p3⟩
theorem sum_app1 {rs : List Str} {z : Str} : sumL (rs ++ [z]) = sumL rs + z.length := by
  rw [sumL_app, sumL_cons]; simp [sumL]
theorem runs_ok {c n lg : Int} {ls : List Str} (hl : Ltr ls) (hn : 0 ≤ n ∧ n ≤ 80) (hg : 0 ≤ lg ∧ lg ≤ 64) : Ex (m_law_runs c ls n lg) fun rs => (rs.length : Int) ≤ n ∧ ∀ z ∈ rs, (z.length : Int) ≤ lg ∧ isRun z := by
  unfold m_law_runs
  refine ex_bind (draws_ok (by omega)) fun ds hd => ?_
  refine ex_rng1 (by decide) (by decide) ?_
  refine ex_comp (fun (_ : Int) (z : Str) => (z.length : Int) ≤ 2 ∧ isRun z) (fun x hx => ?_) (by decide) fun ps hp hps => ?_
  · have hx4 : 0 ≤ x ∧ x < 4 := by
      obtain ⟨k, hk, rfl⟩ := List.mem_map.mp hx
      have := List.mem_range.mp hk
      have e : (4 : Int).toNat = 4 := rfl
      omega
    exact ex_drw hd (by omega) fun y hy => ex_bind (word_ok hl hy.1 (by decide)) fun z hz => ex_some hz
  · have hp4 : ps.length = 4 := hp
    have part : ∀ z ∈ ps, z.length ≤ 2 ∧ isRun z := fun z hz => by
      obtain ⟨_, _, a, b⟩ := hps z hz; exact ⟨by omega, b⟩
    refine ex_id (ex_drw hd (by omega) fun x0 h0 => ex_mod (by omega) ?_)
    have hm : 0 ≤ x0 % (n + 1) ∧ x0 % (n + 1) < n + 1 := ⟨Int.emod_nonneg _ (by omega), Int.emod_lt_of_pos _ (by omega)⟩
    generalize x0 % (n + 1) = cnt at hm
    refine ex_rng1 hm.1 (by omega) ?_
    refine ex_loop (fun i (rs : List Str) => rs.length = i ∧ i ≤ cnt.toNat ∧ ∀ z ∈ rs, (z.length : Int) ≤ lg ∧ isRun z) ⟨rfl, Nat.zero_le _, fun z hz => by cases hz⟩ ?_ ?_
    · rintro i x rs hx ⟨p1, p2, p3⟩
      have hi : i < cnt.toNat := by
        have := (List.getElem?_eq_some_iff.mp hx).1
        simpa using this
      have hx2 : x = (i : Int) := by simpa [hi] using hx.symm
      have prt : ∀ {β : Type} {Q : β → Prop} {f : Str → Option β} {a : Int}, (∀ z, z.length ≤ 2 ∧ isRun z → Ex (f z) Q) → Ex (Option.bind (atI ps (a % 4)) f) Q := fun {β Q f a} k => ex_at (by rw [hp4]; omega) fun z hz _ => k z (part z hz)
      refine ex_drw hd (by omega) fun d5 h5 => ?_
      refine ex_jn1 (fun z : Str => z.length ≤ 1000 ∧ isRun z) (ex_if (fun _ => ?_) fun _ => ?_) fun z hz => ?_
      · exact ex_drw hd (by omega) fun d6 h6 => ex_bind (word_ok hl h6.1 (by omega)) fun z hz => ex_some ⟨_, rfl, by omega, hz.2⟩
      · refine ex_jn1 (fun z : Str => z.length ≤ 1000 ∧ isRun z) (ex_if (fun _ => ?_) fun _ => ?_) fun z hz => ex_some ⟨_, rfl, hz⟩
        · refine ex_drw hd (by omega) fun d7 h7 => prt fun z7 q7 => ex_drw hd (by omega) fun d6 h6 => prt fun z6 q6 => ex_drw hd (by omega) fun d8 h8 => ?_
          have hr : z7.length * (d8 % 4).toNat ≤ 6 := Nat.mul_le_mul q7.1 (show (d8 % 4).toNat ≤ 3 by omega)
          have hr2 : (repS z7 (d8 % 4).toNat).length ≤ 6 := by rw [repS_len, Nat.mul_comm]; exact hr
          refine ex_smul (by omega) (by omega) (ex_sadd (by omega) (ex_drw hd (by omega) fun d8' h8' => prt fun z8 q8 => ex_sadd (by rw [len_app]; omega) (ex_some ⟨_, rfl, by rw [len_app, len_app]; omega, isRun_app (isRun_app q6.2 (isRun_rep q7.2 _)) q8.2⟩)))
        · refine ex_drw hd (by omega) fun d6 h6 => prt fun z6 q6 => ex_drw hd (by omega) fun d7 h7 => ex_bind (word_ok hl h7.1 (by decide)) fun z7 q7 => ex_sadd (by omega) (ex_drw hd (by omega) fun d8 h8 => prt fun z8 q8 => ex_sadd (by rw [len_app]; omega) (ex_some ⟨_, rfl, by rw [len_app, len_app]; omega, isRun_app (isRun_app q6.2 q7.2) q8.2⟩))
      · have hc := cutToI z hg.1
        refine ex_scut (by omega) (ex_app (by omega) (ex_some ⟨_, rfl, by simp [p1], hi, fun y hy => ?_⟩))
        rcases List.mem_append.mp hy with q | q
        · exact p3 y q
        · rw [List.mem_singleton] at q; subst q; exact ⟨hc, isRun_cut hz.2 _ _⟩
    · rintro rs ⟨p1, p2, p3⟩
      rw [List.length_map, List.length_range] at p1
      exact ex_some ⟨by omega, p3⟩
theorem fit_ok {rs : List Str} {most : Int} (h : ∀ z ∈ rs, z.length ≤ 1000 ∧ isRun z) (hn : rs.length ≤ 100000) (hm : 0 ≤ most ∧ most ≤ 1000) : Ex (m_law_fit rs most) fun out => Runs out rs.length most.toNat := by
  unfold m_law_fit
  refine ex_id (ex_id ?_)
  refine ex_loopX (fun i (s : List Str × Int) => s.1.length ≤ i ∧ (sumL s.1 : Int) + s.2 = most ∧ 0 ≤ s.2 ∧ ∀ z ∈ s.1, isRun z) (fun s => s.1.length ≤ rs.length ∧ (sumL s.1 : Int) ≤ most ∧ ∀ z ∈ s.1, isRun z) (fun _ => False) ⟨Nat.le_refl _, by simp [sumL], hm.1, fun z hz => by cases hz⟩ ?_ ?_ ?_ (fun _ f => f.elim)
  · rintro i z ⟨ks, left⟩ hz ⟨p1, p2, p3, p4⟩
    simp only at p1 p2 p3 p4
    have hi := (List.getElem?_eq_some_iff.mp hz).1
    have hmz := h z (List.mem_of_getElem? hz)
    refine ex_slen (by omega) (ex_if (fun hc => ?_) fun _ => ?_)
    · have hc := of_decide_eq_true hc
      simp only at hc
      refine ex_app (by simp only; omega) (ex_slen (by omega) (ex_id (ex_some (.inl ⟨_, rfl, by simp; omega, ?_, by simp only; omega, fun y hy => ?_⟩))))
      · simp only; rw [sumL_app, sumL_cons]; simp only [sumL, List.map_nil, List.sum_nil] at p2 ⊢; omega
      · rcases List.mem_append.mp hy with q | q
        · exact p4 y q
        · rw [List.mem_singleton] at q; subst q; exact hmz.2
    · exact ex_some (.inr (.inl ⟨_, rfl, by simp only; omega, by simp only; omega, p4⟩))
  · rintro ⟨ks, left⟩ ⟨p1, p2, p3, p4⟩
    exact ⟨p1, by simp only at p2 p3 ⊢; omega, p4⟩
  · rintro ⟨ks, left⟩ ⟨p1, p2, p3⟩
    exact ex_some ⟨p1, by simp only at p2 ⊢; omega, p3⟩
theorem is_run_ok {z : Str} (h : isRun z) (hz : z.length ≤ 1000) : m_law_is_run z = some true := by
  unfold m_law_is_run
  rw [if_pos rfl, compM_map (fun _ => true) (fun x hx => ?_) (by simp [chs]; have : z.cps.size = z.length := rfl; omega)]
  · simp only [Option.bind_some]
    rw [all_true fun _ _ => rfl]
  · obtain ⟨c, hc, rfl⟩ := List.mem_map.mp hx
    have := h c hc
    show Option.bind (sIn _ alphaS) _ = _
    rw [sIn_ok, decide_eq_true (alpha_mem c (by omega) this.1)]; rfl
theorem is_runs_ok {rs : List Str} (h : ∀ z ∈ rs, isRun z ∧ z.length ≤ 1000) (hn : rs.length ≤ 100000) : m_law_is_runs rs = some true := by
  unfold m_law_is_runs
  rw [if_pos rfl, compM_map (fun _ => true) (fun x hx => by rw [is_run_ok (h x hx).1 (h x hx).2]; rfl) hn]
  simp only [Option.bind_some]
  rw [all_true fun _ _ => rfl]
theorem rising_ok {rs : List Str} (h : rs.Pairwise ltR) (hl : ∀ z ∈ rs, z.length ≤ 1000) (hn : rs.length ≤ 100000) : Ex (m_law_rising rs) fun b => b = true := by
  unfold m_law_rising
  refine ex_rng2 (by omega) ?_
  refine ex_loop (fun _ _ => True) trivial ?_ fun _ _ => ex_some rfl
  rintro i x s hx -
  obtain ⟨hi, hx2⟩ := rng_get hx
  have e1 : (x - 1).toNat = i := by omega
  have e2 : x.toNat = i + 1 := by omega
  refine ex_at (by omega) fun a ma ga => ex_slen (by have := hl a ma; omega) (ex_at (by omega) fun a' _ ga' => ex_at (by omega) fun b mb gb => ex_slen (by have := hl b mb; omega) (ex_at (by omega) fun b' _ gb' => ?_))
  rw [ga] at ga'; cases ga'
  rw [gb] at gb'; cases gb'
  rw [e1] at ga
  rw [e2] at gb
  have hp := pair_next h (i := i) (by omega)
  rw [List.getElem?_eq_getElem (by omega)] at ga gb
  cases ga; cases gb
  exact ex_is (ltD_ltR hp) (ex_if (fun z => nomatch z) fun _ => ex_some ⟨_, rfl, trivial⟩)
theorem runs_one {a : Str} {n : Nat} (h : isRun a) (hl : a.length ≤ n) : Runs [a] 80 n := ⟨by simp, by simp [sumL]; omega, fun z hz => by simp at hz; subst hz; exact h⟩
theorem long_ok {c : Int} {ls : List Str} (hl : Ltr ls) : Ex (m_law_long_runs c ls) fun rs => Runs rs 80 200 := by
  unfold m_law_long_runs
  refine ex_bind (draws_ok (by decide)) fun ds hd => ex_drw hd (by decide) fun d0 _ => ex_id (ex_id (ex_drw hd (by decide) fun d1 h1 => ?_))
  refine ex_rng1 (by omega) (by omega) ?_
  have h60 : 58 ≤ 60 - d1 / 8 % 3 ∧ 60 - d1 / 8 % 3 ≤ 60 := by omega
  generalize 60 - d1 / 8 % 3 = n60 at h60
  refine ex_loop (fun i (z : Str) => z.length = i ∧ i ≤ n60.toNat ∧ isRun z) ⟨rfl, Nat.zero_le _, isRun_nil⟩ ?_ ?_
  · rintro i x z hx ⟨p1, p2, p3⟩
    have hi : i < n60.toNat := by
      have := (List.getElem?_eq_some_iff.mp hx).1
      simpa using this
    have hx2 : x = (i : Int) := by simpa [hi] using hx.symm
    refine ex_drw hd (by omega) fun d _ => ex_ltr hl fun j hj => ex_at hj fun y hy _ => ?_
    obtain ⟨w1, w2⟩ := hl.ltr.run hy
    exact ex_sadd (by omega) (ex_some ⟨_, rfl, by rw [len_app, p1, w1], hi, isRun_app p3 w2⟩)
  rintro base ⟨p1, _, p3⟩
  rw [List.length_map, List.length_range] at p1
  refine ex_bind (P := fun _ => True) (ex_if (fun _ => ex_drw hd (by decide) fun _ _ => ex_some trivial) fun _ => ex_some trivial) fun b _ => ?_
  refine ex_if (fun _ => ex_some (runs_one p3 (by omega))) fun _ => ?_
  refine ex_if (fun _ => ?_) fun _ => ?_
  · refine ex_drw hd (by decide) fun d2 h2 => ex_scut (by omega) ?_
    have c1 := cutToI base (n := 12 + d2 % 9) (by omega)
    have r1 := isRun_cut p3 none (some (12 + d2 % 9))
    have l1 : (cutS base none (some (12 + d2 % 9))).length = (12 + d2 % 9).toNat := by
      unfold cutS
      rw [show (12 + d2 % 9 : Int) = (((12 + d2 % 9).toNat : Nat) : Int) by omega, HT.sIx_nat, HT.sIx_none]
      show (List.toArray _).size = _
      rw [List.size_toArray, List.length_take, List.length_drop, str_len]
      omega
    generalize cutS base none (some (12 + d2 % 9)) = first at c1 r1 l1
    have cl : ∀ a b, (cutS first a b).length ≤ 20 := fun a b => by have := cutS_length first a b; omega
    refine ex_drw hd (by decide) fun d3 _ => ex_slen (by omega) (ex_mod (by omega) (ex_scut (by omega) (ex_drw hd (by decide) fun d4 _ => ex_slen (by omega) (ex_mod (by omega) (ex_scut (by omega) ?_)))))
    have a1 := cl none (some (d3 % ((first.length : Int) + 1)))
    have a2 := cl (some (d4 % ((first.length : Int) + 1))) none
    refine ex_sadd (by omega) (ex_id (ex_drw hd (by decide) fun d5 _ => ex_slen (by omega) (ex_mod (by omega) (ex_scut (by omega) ?_))))
    have a3 := cl (some (d5 % (first.length : Int))) none
    refine ex_sadd (by omega) (ex_id (ex_scut (by rw [len_app]; omega) (ex_scut (by rw [len_app]; omega) (ex_some ⟨by simp, ?_, fun z hz => ?_⟩))))
    · have b1 := cutTo (cutS first none (some (d3 % ((first.length : Int) + 1))) ++ cutS first (some (d4 % ((first.length : Int) + 1))) none) 20
      have b2 := cutTo (cutS first (some (d5 % (first.length : Int))) none ++ first) 20
      simp only [sumL, List.map_cons, List.map_nil, List.sum_cons, List.sum_nil]
      have e20 : ((20 : Nat) : Int) = 20 := rfl
      rw [e20] at b1 b2
      omega
    · simp only [List.mem_cons, List.not_mem_nil, or_false] at hz
      rcases hz with rfl | rfl | rfl
      · exact r1
      · exact isRun_cut (isRun_app (isRun_cut r1 _ _) (isRun_cut r1 _ _)) _ _
      · exact isRun_cut (isRun_app (isRun_cut r1 _ _) r1) _ _
  refine ex_if (fun _ => ?_) fun _ => ?_
  · refine ex_drw hd (by decide) fun d2 h2 => ex_bind (word_ok hl h2.1 (by decide)) fun w hw => ex_at (by have := hl.pos; omega) fun y hy _ => ?_
    obtain ⟨w1, w2⟩ := hl.ltr.run hy
    refine ex_sadd (by omega) (ex_id (ex_drw hd (by decide) fun d3 h3 => ex_bind (word_ok hl h3.1 (by decide)) fun hdw hh => ?_))
    have lw : (w ++ y).length ≤ 5 := by rw [len_app]; omega
    have rw' := isRun_app hw.2 w2
    generalize w ++ y = word at lw rw'
    have m1 : word.length * (60 : Int).toNat ≤ 300 := Nat.mul_le_mul lw (Nat.le_refl 60)
    have m2 : (repS word (60 : Int).toNat).length ≤ 300 := by rw [repS_len, Nat.mul_comm]; exact m1
    refine ex_smul (by decide) (by omega) (ex_drw hd (by decide) fun d4 h4 => ex_scut (by omega) ?_)
    have c1 := cutToI (repS word (60 : Int).toNat) (n := 38 - d4 % 9) (by omega)
    refine ex_sadd (by omega) (ex_drw hd (by decide) fun d5 h5 => ?_)
    have m3 : word.length * (1 + d5 % 3).toNat ≤ 15 := Nat.mul_le_mul lw (show (1 + d5 % 3).toNat ≤ 3 by omega)
    have m4 : (repS word (1 + d5 % 3).toNat).length ≤ 15 := by rw [repS_len, Nat.mul_comm]; exact m3
    refine ex_smul (by omega) (by omega) (ex_sadd (by omega) (ex_some ⟨by simp, ?_, fun z hz => ?_⟩))
    · simp only [sumL, List.map_cons, List.map_nil, List.sum_cons, List.sum_nil]
      rw [len_app, len_app]
      omega
    · simp only [List.mem_cons, List.not_mem_nil, or_false] at hz
      rcases hz with rfl | rfl
      · exact isRun_app hh.2 (isRun_cut (isRun_rep rw' _) _ _)
      · exact isRun_app hh.2 (isRun_rep rw' _)
  refine ex_if (fun _ => ?_) fun _ => ?_
  · refine ex_id (ex_rng1 (by decide) (by decide) ?_)
    refine ex_loop (fun i (rs : List Str) => rs.length = i ∧ ∀ z ∈ rs, z.length ≤ 1000 ∧ isRun z) ⟨rfl, fun z hz => by cases hz⟩ ?_ ?_
    · rintro i x rs hx ⟨q1, q2⟩
      obtain ⟨hi, hx2⟩ := rng_get hx
      have hi : i < 4 := hi
      refine ex_drw hd (by omega) fun d _ => ex_bind (word_ok hl (by omega) (by decide)) fun w hw => ex_drw hd (by omega) fun d' _ => ex_ltr hl fun j hj => ex_at hj fun y hy _ => ?_
      obtain ⟨w1, w2⟩ := hl.ltr.run hy
      refine ex_sadd (by omega) (ex_id (ex_drw hd (by omega) fun d2 h2 => ex_bind (word_ok hl h2.1 (by decide)) fun rest hr => ?_))
      have lw : (w ++ y).length ≤ 4 := by rw [len_app]; omega
      have rw' := isRun_app hw.2 w2
      generalize w ++ y = word at lw rw'
      have m1 : word.length * (20 : Int).toNat ≤ 80 := Nat.mul_le_mul lw (Nat.le_refl 20)
      have m2 : (repS word (20 : Int).toNat).length ≤ 80 := by rw [repS_len, Nat.mul_comm]; exact m1
      refine ex_smul (by decide) (by omega) (ex_drw hd (by omega) fun d3 h3 => ex_scut (by omega) ?_)
      have c1 := cutS_length (repS word (20 : Int).toNat) none (some (8 + d3 % 15))
      refine ex_sadd (by omega) (ex_app (by omega) (ex_some ⟨_, rfl, by simp [q1], fun z hz => ?_⟩))
      rcases List.mem_append.mp hz with q | q
      · exact q2 z q
      · rw [List.mem_singleton] at q; subst q
        exact ⟨by rw [len_app]; omega, isRun_app (isRun_cut (isRun_rep rw' _) _ _) hr.2⟩
    · rintro rs ⟨q1, q2⟩
      have q1 : rs.length = 4 := q1
      exact ex_bind (fit_ok q2 (by omega) (by decide)) fun out ho => ex_some ⟨by have := ho.num; omega, Nat.le_trans ho.all (by decide), ho.run⟩
  · refine ex_rng1 (by decide) (by decide) ?_
    refine ex_comp (fun (_ : Int) (z : Str) => z.length ≤ 1000 ∧ isRun z) (fun x hx => ?_) (by decide) fun ys hy hys => ?_
    · have hx4 : 0 ≤ x ∧ x < 59 := by
        obtain ⟨k, hk, rfl⟩ := List.mem_map.mp hx
        have := List.mem_range.mp hk
        have e : (59 : Int).toNat = 59 := rfl
        omega
      exact ex_drw hd (by omega) fun y hy => ex_drw hd (by decide) fun d5 h5 => ex_bind (word_ok hl hy.1 (by omega)) fun z hz => ex_some ⟨by omega, hz.2⟩
    · have hy : ys.length = 59 := hy
      exact ex_bind (fit_ok (fun z hz => let ⟨_, _, q⟩ := hys z hz; q) (by omega) (by decide)) fun out ho => ex_some ⟨by have := ho.num; omega, Nat.le_trans ho.all (by decide), ho.run⟩
theorem great_ok {c : Int} {ls : List Str} (hl : Ltr ls) : Ex (m_law_great_runs c ls) fun rs => Runs rs 80 400 := by
  unfold m_law_great_runs
  refine ex_bind (draws_ok (by decide)) fun ds hd => ex_drw hd (by decide) fun d0 _ => ex_if (fun _ => ?_) fun _ => ?_
  · refine ex_id (ex_rng1 (by decide) (by decide) ?_)
    refine ex_loop (fun i (z : Str) => z.length = i ∧ isRun z) ⟨rfl, isRun_nil⟩ ?_ ?_
    · rintro i x z hx ⟨p1, p3⟩
      obtain ⟨hi, hx2⟩ := rng_get hx
      have hi : i < 64 := hi
      refine ex_drw hd (by omega) fun d _ => ex_ltr hl fun j hj => ex_at hj fun y hy _ => ?_
      obtain ⟨w1, w2⟩ := hl.ltr.run hy
      exact ex_sadd (by omega) (ex_some ⟨_, rfl, by rw [len_app, p1, w1], isRun_app p3 w2⟩)
    rintro z ⟨p1, p3⟩
    have p1 : z.length = 64 := p1
    refine ex_drw hd (by decide) fun d1 _ => ex_id (ex_scut (by omega) (ex_scut (by omega) ?_))
    have a1 := cutS_length z none (some (d1 % 65))
    have a2 := cutS_length z none (some (64 - d1 % 65))
    refine ex_sadd (by omega) (ex_srev (by omega) (ex_drw hd (by decide) fun d2 _ => ex_scut (by rw [revS_len]; omega) (ex_scut (by omega) (ex_some ⟨by simp, ?_, fun y hy => ?_⟩))))
    · have a3 := cutS_length (revS z) none (some (d2 % 9))
      rw [revS_len] at a3
      simp only [sumL, List.map_cons, List.map_nil, List.sum_cons, List.sum_nil]
      rw [len_app]
      omega
    · simp only [List.mem_cons, List.not_mem_nil, or_false] at hy
      rcases hy with rfl | rfl | rfl | rfl
      · exact p3
      · exact isRun_app (isRun_cut p3 _ _) (isRun_cut p3 _ _)
      · exact isRun_cut (isRun_rev p3) _ _
      · exact isRun_cut p3 _ _
  · refine ex_drw hd (by decide) fun d0 _ => ex_if (fun _ => ?_) fun _ => ?_
    · refine ex_rng1 (by decide) (by decide) ?_
      refine ex_comp (fun (_ : Int) (z : Str) => z.length ≤ 1000 ∧ isRun z) (fun x hx => ?_) (by decide) fun ys hy hys => ?_
      · have hx4 : 0 ≤ x ∧ x < 80 := by
          obtain ⟨k, hk, rfl⟩ := List.mem_map.mp hx
          have := List.mem_range.mp hk
          have e : (80 : Int).toNat = 80 := rfl
          omega
        exact ex_drw hd (by omega) fun y hy => ex_bind (word_ok hl hy.1 (by decide)) fun z hz => ex_some ⟨by omega, hz.2⟩
      · have hy : ys.length = 80 := hy
        exact ex_bind (fit_ok (fun z hz => let ⟨_, _, q⟩ := hys z hz; q) (by omega) (by decide)) fun out ho => ex_some ⟨by have := ho.num; omega, Nat.le_trans ho.all (by decide), ho.run⟩
    · exact ex_bind (long_ok hl) fun rs h => ex_some ⟨h.num, Nat.le_trans h.all (by decide), h.run⟩
theorem order_ok {rs : List Str} (hn : rs.length + 1 < 4096) (hl : ∀ z ∈ rs, z.length ≤ 1000000) : m_in_order rs = some (ordS rs) := by
  unfold m_in_order
  rw [srtSetM_ok hn]
  simp only [Option.bind_some]
  rw [srtLenM_ok fun z hz => hl z ((uni_mem rs z).mp ((srtS_perm _).mem_iff.mp hz))]
  rfl
theorem cut_len {r : Str} {i : Nat} (h : i ≤ r.length) : (cutS r none (some (i : Int))).length = i := by
  unfold cutS
  rw [HT.sIx_nat, HT.sIx_none]
  show (List.toArray _).size = _
  rw [List.size_toArray, List.length_take, List.length_drop, str_len]
  omega
def prefs (rs : List Str) : List Str := rs.flatMap fun r => ((List.range ((r.length : Int) + 1).toNat).map fun i : Nat => (i : Int)).map fun y => cutS r none (some y)
theorem prefs_mem {rs : List Str} {z : Str} : z ∈ prefs rs ↔ ∃ r, r ∈ rs ∧ ∃ j : Nat, j ≤ r.length ∧ z = cutS r none (some (j : Int)) := by
  unfold prefs
  rw [List.mem_flatMap]
  constructor
  · rintro ⟨r, a, b⟩
    obtain ⟨y, c, rfl⟩ := List.mem_map.mp b
    obtain ⟨i, d, rfl⟩ := List.mem_map.mp c
    have := List.mem_range.mp d
    exact ⟨r, a, i, by omega, rfl⟩
  · rintro ⟨r, a, j, b, rfl⟩
    exact ⟨r, a, List.mem_map.mpr ⟨(j : Int), List.mem_map.mpr ⟨j, List.mem_range.mpr (by omega), rfl⟩, rfl⟩⟩
theorem sum_one : ∀ rs : List Str, (rs.map fun r => r.length + 1).sum = sumL rs + rs.length
  | [] => rfl
  | r :: rs => by rw [List.map_cons, List.sum_cons, sum_one rs, sumL_cons, List.length_cons]; omega
theorem prefs_len (rs : List Str) : (prefs rs).length ≤ sumL rs + rs.length := by
  unfold prefs
  refine Nat.le_trans (flatMap_len _ (fun r => r.length + 1) _ fun r _ => ?_) (Nat.le_of_eq (sum_one rs))
  rw [List.length_map, List.length_map, List.length_range]; omega
theorem prefs_same {xs ys : List Str} (h : ∀ z, z ∈ xs ↔ z ∈ ys) (z : Str) : z ∈ prefs xs ↔ z ∈ prefs ys := by
  rw [prefs_mem, prefs_mem]
  exact ⟨fun ⟨r, a, b⟩ => ⟨r, (h r).mp a, b⟩, fun ⟨r, a, b⟩ => ⟨r, (h r).mpr a, b⟩⟩
theorem prefs_ok {rs : List Str} {n : Nat} (h : ∀ z ∈ rs, z.length ≤ n ∧ isRun z) : ∀ z ∈ prefs rs, z.length ≤ n ∧ isRun z := fun z hz => by
  obtain ⟨r, a, j, b, rfl⟩ := prefs_mem.mp hz
  exact ⟨by rw [cut_len b]; have := (h r a).1; omega, isRun_cut (h r a).2 _ _⟩
theorem beg_ok {rs : List Str} (h : ∀ z ∈ rs, z.length ≤ 1000) (hn : sumL rs + rs.length ≤ 3000) : m_beginnings rs = some (ordS (prefs rs)) := by
  unfold m_beginnings
  have hl := prefs_len rs
  have io : ∀ xs, m_in_order_1 xs = m_in_order xs := fun _ => rfl
  have hf : comp2M (fun y1 : Str => Option.bind (sLen y1) fun v3 => Option.bind (rng1 (v3 + (1 : Int))) fun v4 => some v4) (fun y1 y2 => Option.bind (sCut y1 none (some y2)) fun v5 => some v5) rs = some (prefs rs) :=
    comp2M_flat (fun r => (List.range ((r.length : Int) + 1).toNat).map fun i : Nat => (i : Int)) (fun r y => cutS r none (some y)) (fun r hr => by
      have := h r hr
      exact ⟨bS (sLen_ok (by omega)) (bS (rng1_ok (by omega) (by omega)) rfl), by rw [List.length_map, List.length_range]; omega, fun y _ => bS (sCut_ok (by omega)) rfl⟩) (by omega) (Nat.le_trans hl (by omega))
  refine bS hf (bS (x := ordS (prefs rs)) ?_ rfl)
  rw [io]
  generalize hp : prefs rs = ps at hl
  refine order_ok (by omega) fun z hz => ?_
  rw [← hp] at hz
  obtain ⟨r, a, j, b, rfl⟩ := prefs_mem.mp hz
  rw [cut_len b]; have := h r a; omega
theorem pairs_ordS (rs : List Str) : (srtT kIS (rs.map fun r => ((r.length : Int), r))).map (·.2) = ordS rs := by
  have e : (ordS rs).map (fun r => ((r.length : Int), r)) = srtT kIS (rs.map fun r => ((r.length : Int), r)) := by
    refine srtT_unique kIS ?_ (fun x => ?_) ?_
    · refine List.Pairwise.map _ (fun a b hne e => hne (congrArg Prod.snd e)) (ordS_nodup rs)
    · rw [List.mem_map, List.mem_map]
      exact ⟨fun ⟨r, a, b⟩ => ⟨r, (ordS_mem rs r).mp a, b⟩, fun ⟨r, a, b⟩ => ⟨r, (ordS_mem rs r).mpr a, b⟩⟩
    · rw [List.pairwise_map]
      refine (ordS_pair rs).imp fun {a b} h => ?_
      show PySem.W.dataLe false (eP2 eI eS) _ _ = true
      rw [le_IS, leS_iff]
      rcases h with h | ⟨h, h2⟩
      · exact .inl (by show (a.length : Int) < b.length; omega)
      · exact .inr ⟨by show (a.length : Int) = b.length; omega, List.le_of_lt h2⟩
  rw [← e, List.map_map]
  conv => rhs; rw [← List.map_id (ordS rs)]
  rfl
theorem ordered_ok {rs : List Str} (h : ∀ z ∈ rs, z.length ≤ 1000) (hn : rs.length < 64) : m_law_ordered rs = some (ordS rs) := by
  unfold m_law_ordered
  rw [compM_map (fun r => ((r.length : Int), r)) (fun r hr => by rw [sLen_ok (by have := h r hr; omega)]; rfl) (by omega)]
  simp only [Option.bind_some]
  have e : srtSetT kIS (rs.map fun r => ((r.length : Int), r)) = some (srtT kIS (rs.map fun r => ((r.length : Int), r))) := by
    unfold srtSetT; rw [if_pos (by rw [List.length_map]; exact hn)]
  rw [e]
  simp only [Option.bind_some]
  have hl : (srtT kIS (rs.map fun r => ((r.length : Int), r))).length ≤ 100000 := by
    have := congrArg List.length (pairs_ordS rs)
    rw [List.length_map] at this
    rw [this]
    have := ordS_len rs
    omega
  rw [compM_map (fun y : Int × Str => y.2) (fun _ _ => rfl) hl]
  simp only [Option.bind_some]
  rw [pairs_ordS]
theorem flat_take {α β : Type} {f : α → List β} {xs : List α} {i : Nat} {x : α} (h : xs[i]? = some x) : (xs.take (i + 1)).flatMap f = (xs.take i).flatMap f ++ f x := by
  rw [List.take_add_one, h, List.flatMap_append]; simp
theorem law_beg_ok {rs : List Str} (h : ∀ z ∈ rs, z.length ≤ 1000) (hn : sumL rs + rs.length < 64) : m_law_beginnings rs = some (ordS (prefs rs)) := by
  unfold m_law_beginnings
  suffices Ex (Option.bind (some ([] : List Str)) fun found_1 => Option.bind (loopM (σ := ((List Str))) (ρ := Unit) (fun y3 s4 => Option.bind (sLen y3) fun v5 => Option.bind (rng1 (v5 + (1 : Int))) fun v6 => Option.bind (compM (fun y7 => Option.bind (sCut y3 none (some y7)) fun v8 => some v8) v6) fun v9 => Option.bind (lCat s4 v9) fun v10 => some (Ctl.nx (v10))) rs (found_1)) fun c13 => jn c13 (fun s13 => Option.bind (m_law_ordered_1 s13) fun v14 => some v14) (fun r0 => none)) fun v => v = ordS (prefs rs) by
    obtain ⟨v, hv, rfl⟩ := this
    exact hv
  have pl := prefs_len rs
  refine ex_id (ex_loop (fun i s => s = prefs (rs.take i) ∧ s.length ≤ 100 * i) ⟨rfl, Nat.zero_le _⟩ ?_ ?_)
  · rintro i r s hr ⟨rfl, hs⟩
    have hm := List.mem_of_getElem? hr
    have hz := h r hm
    have hb := len_sumL hm
    have hi := (List.getElem?_eq_some_iff.mp hr).1
    refine ex_slen (by omega) (ex_rng1 (by omega) (by omega) ?_)
    refine ex_compF (fun y => cutS r none (some y)) (fun y _ => by rw [sCut_ok (by omega)]; rfl) (by rw [List.length_map, List.length_range]; omega) ?_
    have e : prefs (rs.take (i + 1)) = prefs (rs.take i) ++ ((List.range ((r.length : Int) + 1).toNat).map fun i : Nat => (i : Int)).map fun y => cutS r none (some y) := flat_take hr
    have l2 : (((List.range ((r.length : Int) + 1).toNat).map fun i : Nat => (i : Int)).map fun y => cutS r none (some y)).length ≤ 64 := by
      rw [List.length_map, List.length_map, List.length_range]; omega
    refine ex_lcat (by omega) (ex_some ⟨_, rfl, e.symm, ?_⟩)
    rw [List.length_append]; omega
  · rintro s ⟨rfl, _⟩
    rw [List.take_length]
    have : m_law_ordered_1 (prefs rs) = some (ordS (prefs rs)) := ordered_ok (fun z hz => by
      obtain ⟨r, a, j, b, rfl⟩ := prefs_mem.mp hz
      rw [cut_len b]; have := h r a; omega) (by omega)
    exact ex_is this (ex_some rfl)
theorem passed_ok {ns : List Int} : Ex (m_law_passed ns) fun rs => rs.length ≤ 80 ∧ sumL rs ≤ 400 ∧ ∀ z ∈ rs, z.length ≤ 400 ∧ isRun z := by
  unfold m_law_passed
  refine ex_bind (cell_ok (by decide)) fun c0 _ => ex_bind (draws_ok (by decide)) fun ds hd => ?_
  refine ex_drw hd (by decide) fun d0 h0 => ex_drw hd (by decide) fun d1 h1 => ex_at (by simp only [List.length_cons, List.length_nil]; omega) fun m hm _ => ?_
  have hm6 : 1 ≤ m ∧ m ≤ 6 := by
    simp only [List.mem_cons, List.not_mem_nil, or_false] at hm
    omega
  refine ex_bind (letters_ok (by omega)) fun ls hls => ?_
  have hl : Ltr ls := ⟨by omega, by omega, hls.2⟩
  refine ex_drw hd (by decide) fun d2 h2 => ex_if (fun _ => ?_) fun _ => ?_
  · refine ex_bind (cell_ok (by decide)) fun c1 _ => ex_bind (great_ok hl) fun rs hr => ex_some ⟨hr.num, hr.all, fun z hz => ⟨hr.len hz, hr.run z hz⟩⟩
  · refine ex_bind (cell_ok (by decide)) fun c1 _ => ex_bind (runs_ok hl (by decide) (by decide)) fun rs hr => ?_
    have hz : ∀ z ∈ rs, z.length ≤ 8 := fun z hz => by have := (hr.2 z hz).1; omega
    have := sumL_le hz
    have hn : rs.length ≤ 8 := by omega
    have : rs.length * 8 ≤ 8 * 8 := Nat.mul_le_mul_right _ hn
    exact ex_some ⟨by omega, by omega, fun z hz => ⟨by have := (hr.2 z hz).1; omega, (hr.2 z hz).2⟩⟩
theorem again_ok {rs : List Str} {c : Int} (hn : rs.length ≤ 80) : Ex (m_law_again rs c) fun ag => (∀ z, z ∈ ag ↔ z ∈ rs) ∧ (ag.length ≤ 12 ∨ ag = rs.reverse) := by
  unfold m_law_again
  refine ex_bind (draws_ok (by decide)) fun ds hd => ex_id ?_
  refine ex_jn1 (fun ag : List Str => (∀ z, z ∈ ag ↔ z ∈ rs) ∧ (ag.length ≤ 12 ∨ ag = rs.reverse)) (ex_if (fun hc => ?_) fun _ => ex_some ⟨_, rfl, fun z => List.mem_reverse, .inr rfl⟩) fun s p => ex_some p
  rw [Bool.and_eq_true, decide_eq_true_eq, decide_eq_true_eq] at hc
  have hd4 := hd.1
  refine ex_loop (fun i (s : List Str) => s.length ≤ rs.length + i ∧ i ≤ 4 ∧ ∀ z, z ∈ s ↔ z ∈ rs) ⟨by simp, Nat.zero_le _, fun z => List.mem_reverse⟩ ?_ ?_
  · rintro i d s hd ⟨p1, p2, p3⟩
    have hi := (List.getElem?_eq_some_iff.mp hd).1
    refine ex_mod (by omega) (ex_at ⟨Int.emod_nonneg _ (by omega), Int.emod_lt_of_pos _ (by omega)⟩ fun r hr _ => ?_)
    refine ex_jn1 (fun s' : List Str => s'.length ≤ rs.length + (i + 1) ∧ ∀ z, z ∈ s' ↔ z ∈ rs) (ex_if (fun _ => ?_) fun _ => ?_) fun s' p => ex_some ⟨_, rfl, p.1, by omega, p.2⟩
    · refine ex_lcat (by simp; omega) (ex_some ⟨_, rfl, by simp; omega, fun z => ?_⟩)
      rw [List.mem_append, List.mem_singleton, p3]
      exact ⟨fun h => h.elim (fun e => e ▸ hr) id, .inr⟩
    · refine ex_lcat (by simp; omega) (ex_some ⟨_, rfl, by simp; omega, fun z => ?_⟩)
      rw [List.mem_append, List.mem_singleton, p3]
      exact ⟨fun h => h.elim id (fun e => e ▸ hr), .inl⟩
  · rintro s ⟨p1, p2, p3⟩
    exact ex_some ⟨_, rfl, p3, .inl (by omega)⟩
theorem maxM_ok {x : Int} {xs : List Int} : ∃ v, maxM (x :: xs) = some v := by
  unfold maxM
  cases h : (x :: xs).max? with
  | none => simp at h
  | some v => exact ⟨v, rfl⟩
theorem law_true : ∀ ns : List Int, ns.length ≤ 63 → m_law ns = some true := by
  intro ns _
  suffices Ex (m_law ns) fun b => b = true by
    obtain ⟨b, h, rfl⟩ := this; exact h
  unfold m_law
  refine ex_bind passed_ok fun rs ⟨hn, hs, hr⟩ => ?_
  have hl : ∀ z ∈ rs, z.length ≤ 1000 := fun z hz => by have := (hr z hz).1; omega
  have io : ∀ xs, xs.length + 1 < 4096 → (∀ z ∈ xs, z.length ≤ 1000) → m_in_order xs = some (ordS xs) := fun xs h1 h2 => order_ok h1 fun z hz => by have := h2 z hz; omega
  have or_ok : ∀ z ∈ ordS rs, isRun z ∧ z.length ≤ 1000 := fun z hz => by
    have hz := (ordS_mem rs z).mp hz
    exact ⟨(hr z hz).2, hl z hz⟩
  have on := ordS_len rs
  have pr := prefs_ok hr
  have pl := prefs_len rs
  have bn := ordS_len (prefs rs)
  have be_ok : ∀ z ∈ ordS (prefs rs), isRun z ∧ z.length ≤ 1000 := fun z hz => by
    have hz := (ordS_mem _ z).mp hz
    exact ⟨(pr z hz).2, by have := (pr z hz).1; omega⟩
  refine ex_is (io rs (by omega) hl) (ex_is (is_runs_ok or_ok (by omega)) (ex_is (x := false) ?_ (ex_if (fun f => nomatch f) fun _ => ?_)))
  · rw [if_neg (by decide)]
    obtain ⟨v, e, rfl⟩ := rising_ok (ordS_pair rs) (fun z hz => (or_ok z hz).2) (by omega)
    rw [e]; rfl
  refine ex_compF (fun y => decide (y ∈ ordS rs)) (fun _ _ => rfl) (by omega) (ex_is (x := false) ?_ (ex_if (fun f => nomatch f) fun _ => ?_))
  · rw [all_true fun x hx => decide_eq_true ((ordS_mem rs x).mpr hx), if_neg (by decide), compM_map (fun y => decide (y ∈ rs)) (fun _ _ => rfl) (by omega)]
    simp only [Option.bind_some]
    rw [all_true fun x hx => decide_eq_true ((ordS_mem rs x).mp hx)]; rfl
  refine ex_is (beg_ok hl (by omega)) (ex_is (is_runs_ok be_ok (by omega)) (ex_is (x := false) ?_ (ex_if (fun f => nomatch f) fun _ => ?_)))
  · rw [if_neg (by decide)]
    obtain ⟨v, e, rfl⟩ := rising_ok (ordS_pair (prefs rs)) (fun z hz => (be_ok z hz).2) (by omega)
    rw [e]; rfl
  refine ex_loop (fun _ _ => True) trivial (fun i r s hri _ => ?_) fun _ _ => ?_
  · have hm := List.mem_of_getElem? hri
    have := hl r hm
    refine ex_slen (by omega) (ex_rng1 (by omega) (by omega) ?_)
    refine ex_compF (fun y => decide (cutS r none (some y) ∈ ordS (prefs rs))) (fun y _ => bS (sCut_ok (by omega)) rfl) (by rw [List.length_map, List.length_range]; omega) (ex_if (fun f => ?_) fun _ => ex_some ⟨_, rfl, trivial⟩)
    rw [all_true fun y hy => decide_eq_true ((ordS_mem _ _).mpr (prefs_mem.mpr ?_))] at f
    · cases f
    · obtain ⟨j, hj, rfl⟩ := List.mem_map.mp hy
      have := List.mem_range.mp hj
      exact ⟨r, hm, j, by omega, rfl⟩
  refine ex_loop (fun _ _ => True) trivial (fun i z s hzi _ => ?_) fun _ _ => ?_
  · have hm := List.mem_of_getElem? hzi
    obtain ⟨r, hr1, j, hj, rfl⟩ := prefs_mem.mp ((ordS_mem _ _).mp hm)
    have cl := cut_len hj
    refine ex_compF (fun y => decide (cutS y none (some (j : Int)) = cutS r none (some (j : Int)))) (fun y hy => ?_) (by omega) (ex_if (fun f => ?_) fun _ => ex_some ⟨_, rfl, trivial⟩)
    · refine bS (x := (j : Int)) ?_ (bS (sCut_ok (by have := hl y hy; omega)) rfl)
      rw [sLen_ok (by have := hl r hr1; omega), cl]
    · have : ((rs.map fun y => decide (cutS y none (some (j : Int)) = cutS r none (some (j : Int)))).any id) = true := by
        rw [List.any_eq_true]
        exact ⟨true, List.mem_map.mpr ⟨r, hr1, decide_eq_true rfl⟩, rfl⟩
      rw [this] at f
      cases f
  refine ex_id (ex_compF (fun y => (y.length : Int)) (fun y hy => bS (sLen_ok (by have := hl y hy; omega)) rfl) (by omega) ?_)
  have sc : ∀ xs : List Str, (xs.map fun y => (y.length : Int)).sum = (sumL xs : Int) := fun xs => by
    induction xs with
    | nil => rfl
    | cons x xs ih => rw [List.map_cons, List.sum_cons, ih, sumL_cons]; omega
  refine ex_bind (P := fun b => b = true → sumL rs ≤ 64) (ex_if (fun hc => ?_) fun _ => ex_some fun f => nomatch f) fun b hb => ?_
  · have hc := of_decide_eq_true hc
    rw [sc] at hc
    refine ex_compF (fun y => (y.length : Int)) (fun y hy => bS (sLen_ok (by have := hl y hy; omega)) rfl) (by omega) (ex_lcat (by simp; omega) ?_)
    obtain ⟨v, e⟩ := maxM_ok (x := 0) (xs := rs.map fun y => (y.length : Int))
    exact ex_is e (ex_some fun _ => by omega)
  refine ex_jn (fun ag : List Str => (∀ z, z ∈ ag ↔ z ∈ rs) ∧ ((ag.length ≤ 12 ∧ sumL rs ≤ 64) ∨ ag = rs.reverse)) (fun _ => False) (ex_if (fun hc => ?_) fun _ => ex_some (.inl ⟨_, rfl, fun z => List.mem_reverse, .inr rfl⟩)) (fun ag ⟨hag, hag2⟩ => ?_) fun _ f => f.elim
  · exact ex_bind (cell_ok (by decide)) fun _ _ => ex_bind (again_ok hn) fun ag p => ex_some (.inl ⟨_, rfl, p.1, p.2.imp (fun z => ⟨z, hb hc⟩) id⟩)
  have hal : ∀ z ∈ ag, z.length ≤ 400 ∧ isRun z := fun z hz => hr z ((hag z).mp hz)
  have hal' : ∀ z ∈ ag, z.length ≤ 1000 := fun z hz => by have := (hal z hz).1; omega
  have hsum : sumL ag + ag.length ≤ 1000 ∧ ag.length ≤ 80 := by
    rcases hag2 with ⟨h, h64⟩ | h
    · have := sumL_le (rs := ag) (n := 64) fun z hz => Nat.le_trans (len_sumL ((hag z).mp hz)) h64
      have h2 : ag.length * 64 ≤ 12 * 64 := Nat.mul_le_mul_right _ h
      omega
    · have e1 : sumL rs.reverse = sumL rs := by unfold sumL; rw [List.map_reverse, List.sum_reverse]
      rw [h, e1, List.length_reverse]; omega
  have eo : ordS ag = ordS rs := ordS_eq hag
  have eb : ordS (prefs ag) = ordS (prefs rs) := ordS_eq (prefs_same hag)
  have ee : ordS (ordS rs) = ordS rs := ordS_eq fun z => ordS_mem rs z
  have q1 := eqD_runs fun z hz => (or_ok z hz).1
  have q2 := eqD_runs fun z hz => (be_ok z hz).1
  refine ex_is (io ag (by omega) hal') ?_
  rw [eo]
  refine ex_is q1 (ex_is (x := false) ?_ (ex_if (fun f => nomatch f) fun _ => ?_))
  · rw [if_neg (by decide)]
    refine bS (beg_ok hal' (by omega)) ?_
    rw [eb]
    refine bS q2 (bS (x := false) ?_ rfl)
    rw [if_neg (by decide)]
    refine bS (io (ordS rs) (by omega) fun z hz => (or_ok z hz).2) ?_
    rw [ee]
    exact bS q1 rfl
  refine ex_bind (cell_ok (by decide)) fun c3 _ => ?_
  have hL : Ltr [("a" : Str), ("z" : Str)] := ⟨by decide, by decide, fun z hz => by
    simp only [List.mem_cons, List.not_mem_nil, or_false] at hz
    rcases hz with rfl | rfl
    · exact ⟨97, rfl, by decide, by decide⟩
    · exact ⟨122, rfl, by decide, by decide⟩⟩
  refine ex_bind (runs_ok hL (by decide) (by decide)) fun os ho => ?_
  have ol : ∀ z ∈ os, z.length ≤ 4 := fun z hz => by have := (ho.2 z hz).1; omega
  have ol' : ∀ z ∈ os, z.length ≤ 1000 := fun z hz => by have := ol z hz; omega
  have os3 : os.length ≤ 3 := by omega
  have osum := sumL_le ol
  have o12 : os.length * 4 ≤ 3 * 4 := Nat.mul_le_mul_right _ os3
  have q3 : eqD (eL eS (ordS os)) (eL eS (ordS os)) = some true := eqD_runsL fun z hz => (ho.2 z ((ordS_mem os z).mp hz)).2
  have q4 : eqD (eL eS (ordS (prefs os))) (eL eS (ordS (prefs os))) = some true := eqD_runsL fun z hz => (prefs_ok (n := 1000) (fun y hy => ⟨ol' y hy, (ho.2 y hy).2⟩) z ((ordS_mem _ z).mp hz)).2
  refine ex_is (ordered_ok ol' (by omega)) (ex_is (io os (by omega) ol') (ex_is q3 (ex_is (x := false) ?_ (ex_if (fun f => nomatch f) fun _ => ?_))))
  · rw [if_neg (by decide)]
    exact bS (beg_ok ol' (by omega)) (bS (law_beg_ok ol' (by omega)) (bS q4 rfl))
  refine ex_is (io rs (by omega) hl) (ex_is q1 (ex_is (x := true) ?_ (ex_some rfl)))
  rw [if_pos rfl]
  exact bS (beg_ok hl (by omega)) (bS q2 rfl)
section
variable {P : Program} {w : World} {K : PySem.W.Frag} {mg : Str → Option Value} {base : Heap}
set_option maxHeartbeats 4000000 in
theorem ok_law_cell {f : Addr} {fd : FuncData} (F : Fun K "_law_cell" "_law_cell" s_law_cell f fd) (B : L2.Binds K fd ["script", "k"] []) (g : mg "_law_cell" = some (.ref f)) (T : Bi mg) : DefOk P w K mg base "_law_cell" 1 C_law_cell := by
  obtain ⟨z_tuple, z_sorted, z_set, z_len, z_range, z_abs, z_int, z_isinstance, z_str, z_all, z_list, z_any, z_sum, z_max⟩ := T
  refine defOk_mk F B g sc_law_cell ?_
  intro cdv A outer s H E hr hN nd ii hok
  obtain ⟨script_p, k_p, res⟩ := ii
  have h : m_law_cell script_p k_p = some res := hok
  unfold m_law_cell at h
  show XB _ _ [some (.d ((eL eI) script_p)), some (.d (eI k_p))] _
  refine xb_cons ?_
  refine xs_if (b := (decide (k_p < (script_p.length : Int)))) (q_cmpT hr (d1 := (eI k_p)) (d2 := (eI (script_p.length : Int))) (n_var hN (.there (.here))) (xm_llen (en := eI) (n_var hN (.here)) z_len) (.of CmpD.ltI)) (fun hc => ?_) (fun hc => ?_)
  · have h := ifT h hc
    obtain ⟨v1, q1, h⟩ := obS h
    refine xb_cons ?_
    refine xs_ret (d := (eI v1)) (xm_lix (en := eI) (xs := script_p) (n_var hN (.here)) (n_var hN (.there (.here))) q1) ?_
    obtain rfl := Option.some.inj h
    exact rfl
  · have h := ifF h hc
    refine xb_nil ?_
    refine xb_cons ?_
    refine xs_ret (d := (eI (((5 : Int) * k_p) + (3 : Int)))) (xd_add (xd_mul xd_int (n_var hN (.there (.here))) (Or.inl ⟨by decide, by decide⟩)) xd_int) ?_
    obtain rfl := Option.some.inj h
    exact rfl
set_option maxHeartbeats 4000000 in
theorem ok_law_draws {f : Addr} {fd : FuncData} (F : Fun K "_law_draws" "_law_draws" s_law_draws f fd) (B : L2.Binds K fd ["cell", "count"] []) (g : mg "_law_draws" = some (.ref f)) (T : Bi mg) : DefOk P w K mg base "_law_draws" 1 C_law_draws := by
  obtain ⟨z_tuple, z_sorted, z_set, z_len, z_range, z_abs, z_int, z_isinstance, z_str, z_all, z_list, z_any, z_sum, z_max⟩ := T
  refine defOk_mk F B g sc_law_draws ?_
  intro cdv A outer s H E hr hN nd ii hok
  obtain ⟨cell_p, count_p, res⟩ := ii
  have h : m_law_draws cell_p count_p = some res := hok
  unfold m_law_draws at h
  show XB _ _ [some (.d (eI cell_p)), some (.d (eI count_p)), none, none, none, none, none, none] _
  obtain ⟨rest_1, q2, h⟩ := obS h
  refine xb_cons ?_
  refine n_set (d := (eI rest_1)) (XD.o (en := eI) (v := (if cell_p < 0 then -cell_p else cell_p)) (xd_abs (xd_int1 (n_var hN (.here)) z_int) z_abs) q2) hN nd (.there (.there (.here))) ?_
  obtain ⟨digits_3, q4, h⟩ := obS h
  refine xb_cons ?_
  refine n_set (d := (eB digits_3)) (XD.o (en := eB) (v := (decide ((1000000000000000000 : Int) ≤ rest_1))) (q_cmp hr (d1 := (eI rest_1)) (d2 := (eI (1000000000000000000 : Int))) (n_var hN (.there (.there (.here)))) (XD.is (d2 := .int 1000000000000000000) (xd_pow xd_int xd_int ⟨by decide, by decide, by decide⟩) (congrArg PyData.int (by decide +kernel))) (.of CmpD.geI)) q4) hN nd (.there (.there (.there (.here)))) ?_
  obtain ⟨seed_5, q6, h⟩ := obS h
  refine xb_cons ?_
  refine n_set (d := (eI seed_5)) (XD.o (en := eI) (v := rest_1) (n_var hN (.there (.there (.here)))) q6) hN nd (.there (.there (.there (.there (.here))))) ?_
  obtain ⟨draws_7, q8, h⟩ := obS h
  refine xb_cons ?_
  refine n_setL (xs := List.map eI draws_7) (xl_to (xl_lst (ds := []) xa_nil (show (0 : Nat) ≤ sizeLine by decide)) (by cases q8; rfl)) hN nd (.there (.there (.there (.there (.there (.here)))))) ?_
  obtain ⟨v9, q9, h⟩ := obS h
  obtain ⟨c24, q24, h⟩ := obS h
  refine xb_cut (M := fun e => ∃ s11 : ((List Int) × Int), c24 = Sum.inl s11 ∧ e = [some (.d (eI cell_p)), some (.d (eI count_p)), some (.d (eI s11.2)), some (.d (eB digits_3)), some (.d (eI seed_5)), some (.l (List.map eI s11.1)), none, none]) (nm_for (s0 := (draws_7, rest_1)) (en := eI) (eR := eN) (js := [6]) (eX := fun s11 y10 => [some (.d (eI cell_p)), some (.d (eI count_p)), some (.d (eI s11.2)), some (.d (eB digits_3)), some (.d (eI seed_5)), some (.l (List.map eI s11.1)), some (.d (eI y10)), none]) q24 (fun s11 => [some (.d (eI cell_p)), some (.d (eI count_p)), some (.d (eI s11.2)), some (.d (eB digits_3)), some (.d (eI seed_5)), some (.l (List.map eI s11.1)), none, none]) (it_rng1 (n_var hN (.there (.here))) q9 z_range) (fun s11 y10 => (n_gname hN nd (.there (.there (.there (.there (.there (.there (.here))))))))) (fun y10 s11 r h => ?_) (fun s0 hs => ⟨s0, hs, rfl⟩) (fun r0 hs => ?_)) ?_
  · skip
    obtain ⟨j12, q12, h⟩ := obS h
    have hj12 := h
    refine xb_cut (M := fun e => ∃ s12 : ((List Int) × Int), j12 = Sum.inl s12 ∧ e = [some (.d (eI cell_p)), some (.d (eI count_p)), some (.d (eI s12.2)), some (.d (eB digits_3)), some (.d (eI seed_5)), some (.l (List.map eI s12.1)), some (.d (eI y10)), none]) (xs_if (b := (digits_3 && (decide ((0 : Int) < s11.2)))) (XW.t (xw_and (a := digits_3) (b := (decide ((0 : Int) < s11.2))) (xt_val (n_var hN (.there (.there (.there (.here)))))) fun _ => (xw_and1 (q_cmpT hr (d1 := (eI s11.2)) (d2 := (eI (0 : Int))) (n_var hN (.there (.there (.here)))) xd_int (.of CmpD.gtI))))) (fun hc => ?_) (fun hc => ?_)) ?_
    · have h := ifT q12 hc
      obtain ⟨draws_13, q14, h⟩ := obS h
      refine xb_cons ?_
      refine nm_append (en := eI) (y := (s11.2 % (5040 : Int))) hN (.there (.there (.there (.there (.there (.here)))))) (xd_mod (xd_int1 (n_var hN (.there (.there (.here)))) z_int) xd_int (by decide)) q14 (.there (.there (.there (.there (.there (.here)))))) nd ?_
      obtain ⟨rest_15, q16, h⟩ := obS h
      refine xb_cons ?_
      refine n_set (d := (eI rest_15)) (XD.o (en := eI) (v := (s11.2 / (5040 : Int))) (xd_div (n_var hN (.there (.there (.here)))) xd_int ⟨by decide, by decide⟩) q16) hN nd (.there (.there (.here))) ?_
      refine xb_nil ?_
      obtain rfl := Option.some.inj h
      exact ⟨_, rfl, rfl⟩
    · have h := ifF q12 hc
      obtain ⟨mixed_17, q18, h⟩ := obS h
      refine xb_cons ?_
      refine n_set (d := (eI mixed_17)) (XD.o (en := eI) (v := ((((seed_5 * (48271 : Int)) + ((y10 + (1 : Int)) * (69621 : Int))) + (11 : Int)) % (2147483647 : Int))) (xd_mod (xd_int1 (xd_add (xd_add (xd_mul (n_var hN (.there (.there (.there (.there (.here)))))) xd_int (Or.inr ⟨by decide, by decide⟩)) (xd_mul (xd_add (n_var hN (.there (.there (.there (.there (.there (.there (.here)))))))) xd_int) xd_int (Or.inr ⟨by decide, by decide⟩))) xd_int) z_int) xd_int (by decide)) q18) hN nd (.there (.there (.there (.there (.there (.there (.there (.here)))))))) ?_
      obtain ⟨v19, q19, h⟩ := obS h
      obtain ⟨mixed_20, q21, h⟩ := obS h
      refine xb_cons ?_
      refine n_set (d := (eI mixed_20)) (XD.o (en := eI) (v := ((v19 + ((40692 : Int) * (y10 + (3 : Int)))) % (2147483399 : Int))) (xd_mod (xd_int1 (xd_add (xm_mul (n_var hN (.there (.there (.there (.there (.there (.there (.there (.here))))))))) (n_var hN (.there (.there (.there (.there (.there (.there (.there (.here))))))))) q19) (xd_mul xd_int (xd_add (n_var hN (.there (.there (.there (.there (.there (.there (.here)))))))) xd_int) (Or.inl ⟨by decide, by decide⟩))) z_int) xd_int (by decide)) q21) hN nd (.there (.there (.there (.there (.there (.there (.there (.here)))))))) ?_
      obtain ⟨draws_22, q23, h⟩ := obS h
      refine xb_cons ?_
      refine nm_append (en := eI) (y := ((mixed_20 / (64 : Int)) % (5040 : Int))) hN (.there (.there (.there (.there (.there (.here)))))) (xd_mod (xd_int1 (xd_div (n_var hN (.there (.there (.there (.there (.there (.there (.there (.here))))))))) xd_int ⟨by decide, by decide⟩) z_int) xd_int (by decide)) q23 (.there (.there (.there (.there (.there (.here)))))) nd ?_
      refine xb_fg (.keep (.keep (.keep (.keep (.keep (.keep (.keep (.drop (Fg.nil))))))))) ?_
      refine xb_nil ?_
      obtain rfl := Option.some.inj h
      exact ⟨_, rfl, rfl⟩
    rintro _ ⟨s12, hs0, rfl⟩
    rw [hs0] at h
    have h := jnI h
    refine xb_fg (.keep (.keep (.keep (.keep (.keep (.keep (.drop (.keep (Fg.nil))))))))) ?_
    refine xb_nil ?_
    obtain rfl := Option.some.inj h
    exact ⟨_, rfl, rfl⟩
  · rw [hs] at h
    exact nomatch (jnR h)
  rintro _ ⟨s24, hs0, rfl⟩
  rw [hs0] at h
  have h := jnI h
  refine n_freeze "draws" hN nd (.there (.there (.there (.there (.there (.here)))))) (.there (.there (.there (.there (.there (.here)))))) ?_
  refine xb_cons ?_
  refine xs_ret (d := ((eL eI) s24.1)) (n_var hN (.there (.there (.there (.there (.there (.here))))))) ?_
  obtain rfl := Option.some.inj h
  exact rfl
set_option maxHeartbeats 4000000 in
theorem ok_law_letters {f : Addr} {fd : FuncData} (F : Fun K "_law_letters" "_law_letters" s_law_letters f fd) (B : L2.Binds K fd ["draw", "count"] []) (g : mg "_law_letters" = some (.ref f)) (T : Bi mg) : DefOk P w K mg base "_law_letters" 1 C_law_letters := by
  obtain ⟨z_tuple, z_sorted, z_set, z_len, z_range, z_abs, z_int, z_isinstance, z_str, z_all, z_list, z_any, z_sum, z_max⟩ := T
  refine defOk_mk F B g sc_law_letters ?_
  intro cdv A outer s H E hr hN nd ii hok
  obtain ⟨draw_p, count_p, res⟩ := ii
  have h : m_law_letters draw_p count_p = some res := hok
  unfold m_law_letters at h
  show XB _ _ [some (.d (eI draw_p)), some (.d (eI count_p)), none, none, none] _
  obtain ⟨start_1, q2, h⟩ := obS h
  refine xb_cons ?_
  refine n_set (d := (eI start_1)) (XD.o (en := eI) (v := (draw_p % (26 : Int))) (xd_mod (xd_int1 (n_var hN (.here)) z_int) xd_int (by decide)) q2) hN nd (.there (.there (.here))) ?_
  obtain ⟨step_3, q4, h⟩ := obS h
  refine xb_cons ?_
  refine n_set (d := (eI step_3)) (XD.o (en := eI) (v := ((1 : Int) + ((draw_p / (26 : Int)) % (12 : Int)))) (xd_add xd_int (xd_mod (xd_div (xd_int1 (n_var hN (.here)) z_int) xd_int ⟨by decide, by decide⟩) xd_int (by decide))) q4) hN nd (.there (.there (.there (.here)))) ?_
  obtain ⟨v5, q5, h⟩ := obS h
  obtain ⟨v9, q9, h⟩ := obS h
  obtain ⟨v10, q10, h⟩ := obS h
  refine xb_cons ?_
  refine xs_ret (d := ((eL eS) v10)) (XL.dat (xm_srt (XL.dat (nm_comp (S := defScope s_law_letters) (en := eI) (eb := eS) (eX := fun y6 => [some (.d (eI draw_p)), some (.d (eI count_p)), some (.d (eI start_1)), some (.d (eI step_3)), some (.d (eI y6))]) [(("k" : Str), 4)] q9 hN nd (it_rng1 (n_var hN (.there (.here))) q5 z_range) (by decide +kernel) (fun y6 s_ Hb C cl fp => (n_gname hN nd (.there (.there (.there (.there (.here))))))) (fun y6 r h s_ Hb C cl fp => by obtain ⟨v7, q7, h⟩ := obS h; obtain ⟨v8, q8, h⟩ := obS h; exact XD.o (en := eS) (v := v8) (xm_six xd_str (xd_mod (xd_add (n_var hN (.there (.there (.here)))) (xm_mul (n_var hN (.there (.there (.there (.here))))) (n_var hN (.there (.there (.there (.there (.here)))))) q7)) xd_int (by decide)) q8) h))) q10 z_sorted)) ?_
  obtain rfl := Option.some.inj h
  exact rfl
set_option maxHeartbeats 4000000 in
theorem ok_law_word {f : Addr} {fd : FuncData} (F : Fun K "_law_word" "_law_word" s_law_word f fd) (B : L2.Binds K fd ["draw", "letters", "longest"] []) (g : mg "_law_word" = some (.ref f)) (T : Bi mg) : DefOk P w K mg base "_law_word" 1 C_law_word := by
  obtain ⟨z_tuple, z_sorted, z_set, z_len, z_range, z_abs, z_int, z_isinstance, z_str, z_all, z_list, z_any, z_sum, z_max⟩ := T
  refine defOk_mk F B g sc_law_word ?_
  intro cdv A outer s H E hr hN nd ii hok
  obtain ⟨draw_p, letters_p, longest_p, res⟩ := ii
  have h : m_law_word draw_p letters_p longest_p = some res := hok
  unfold m_law_word at h
  show XB _ _ [some (.d (eI draw_p)), some (.d ((eL eS) letters_p)), some (.d (eI longest_p)), none, none, none, none] _
  obtain ⟨v1, q1, h⟩ := obS h
  refine xb_cons ?_
  refine n_set (d := (eI v1)) (xm_mod (xd_int1 (n_var hN (.here)) z_int) (xd_add (n_var hN (.there (.there (.here)))) xd_int) q1) hN nd (.there (.there (.there (.here)))) ?_
  obtain ⟨v4, q4, h⟩ := obS h
  refine xb_cons ?_
  refine n_set (d := (eI v4)) (xm_div (xd_int1 (n_var hN (.here)) z_int) (xd_add (n_var hN (.there (.there (.here)))) xd_int) q4) hN nd (.there (.there (.there (.there (.here))))) ?_
  obtain ⟨word_7, q8, h⟩ := obS h
  refine xb_cons ?_
  refine n_set (d := (eS word_7)) (XD.o (en := eS) (v := ("" : Str)) xd_str q8) hN nd (.there (.there (.there (.there (.there (.here)))))) ?_
  obtain ⟨v9, q9, h⟩ := obS h
  obtain ⟨c20, q20, h⟩ := obS h
  refine xb_cut (M := fun e => ∃ s11 : (Str × Int), c20 = Sum.inl s11 ∧ e = [some (.d (eI draw_p)), some (.d ((eL eS) letters_p)), some (.d (eI longest_p)), some (.d (eI v1)), some (.d (eI s11.2)), some (.d (eS s11.1)), none]) (nm_for (s0 := (word_7, v4)) (en := eI) (eR := eN) (js := [6]) (eX := fun s11 y10 => [some (.d (eI draw_p)), some (.d ((eL eS) letters_p)), some (.d (eI longest_p)), some (.d (eI v1)), some (.d (eI s11.2)), some (.d (eS s11.1)), some (.d (eI y10))]) q20 (fun s11 => [some (.d (eI draw_p)), some (.d ((eL eS) letters_p)), some (.d (eI longest_p)), some (.d (eI v1)), some (.d (eI s11.2)), some (.d (eS s11.1)), none]) (it_rng1 (n_var hN (.there (.there (.there (.here))))) q9 z_range) (fun s11 y10 => (n_gname hN nd (.there (.there (.there (.there (.there (.there (.here))))))))) (fun y10 s11 r h => ?_) (fun s0 hs => ⟨s0, hs, rfl⟩) (fun r0 hs => ?_)) ?_
  · skip
    obtain ⟨v12, q12, h⟩ := obS h
    obtain ⟨v13, q13, h⟩ := obS h
    obtain ⟨v14, q14, h⟩ := obS h
    refine xb_cons ?_
    refine n_set (d := (eS v14)) (xm_sadd (n_var hN (.there (.there (.there (.there (.there (.here))))))) (xm_lix (en := eS) (xs := letters_p) (n_var hN (.there (.here))) (xm_mod (xd_int1 (n_var hN (.there (.there (.there (.there (.here)))))) z_int) (xm_llen (en := eS) (n_var hN (.there (.here))) z_len) q12) q13) q14) hN nd (.there (.there (.there (.there (.there (.here)))))) ?_
    obtain ⟨v17, q17, h⟩ := obS h
    obtain ⟨rest_18, q19, h⟩ := obS h
    refine xb_cons ?_
    refine n_set (d := (eI rest_18)) (XD.o (en := eI) (v := (v17 + ((37 : Int) * (y10 + (1 : Int))))) (xd_add (xm_div (n_var hN (.there (.there (.there (.there (.here)))))) (xm_llen (en := eS) (n_var hN (.there (.here))) z_len) q17) (xd_mul xd_int (xd_add (n_var hN (.there (.there (.there (.there (.there (.there (.here)))))))) xd_int) (Or.inl ⟨by decide, by decide⟩))) q19) hN nd (.there (.there (.there (.there (.here))))) ?_
    refine xb_fg (.keep (.keep (.keep (.keep (.keep (.keep (.drop (Fg.nil)))))))) ?_
    refine xb_nil ?_
    obtain rfl := Option.some.inj h
    exact ⟨_, rfl, rfl⟩
  · rw [hs] at h
    exact nomatch (jnR h)
  rintro _ ⟨s20, hs0, rfl⟩
  rw [hs0] at h
  have h := jnI h
  refine xb_cons ?_
  refine xs_ret (d := (eS s20.1)) (n_var hN (.there (.there (.there (.there (.there (.here))))))) ?_
  obtain rfl := Option.some.inj h
  exact rfl
set_option maxHeartbeats 4000000 in
theorem ok_law_fit {f : Addr} {fd : FuncData} (F : Fun K "_law_fit" "_law_fit" s_law_fit f fd) (B : L2.Binds K fd ["runs", "most"] []) (g : mg "_law_fit" = some (.ref f)) (T : Bi mg) : DefOk P w K mg base "_law_fit" 1 C_law_fit := by
  obtain ⟨z_tuple, z_sorted, z_set, z_len, z_range, z_abs, z_int, z_isinstance, z_str, z_all, z_list, z_any, z_sum, z_max⟩ := T
  refine defOk_mk F B g sc_law_fit ?_
  intro cdv A outer s H E hr hN nd ii hok
  obtain ⟨runs_p, most_p, res⟩ := ii
  have h : m_law_fit runs_p most_p = some res := hok
  unfold m_law_fit at h
  show XB _ _ [some (.d ((eL eS) runs_p)), some (.d (eI most_p)), none, none, none] _
  obtain ⟨kept_1, q2, h⟩ := obS h
  refine xb_cons ?_
  refine n_setL (xs := List.map eS kept_1) (xl_to (xl_lst (ds := []) xa_nil (show (0 : Nat) ≤ sizeLine by decide)) (by cases q2; rfl)) hN nd (.there (.there (.here))) ?_
  obtain ⟨left_3, q4, h⟩ := obS h
  refine xb_cons ?_
  refine n_set (d := (eI left_3)) (XD.o (en := eI) (v := most_p) (n_var hN (.there (.here))) q4) hN nd (.there (.there (.there (.here)))) ?_
  obtain ⟨c13, q13, h⟩ := obS h
  refine xb_cut (M := fun e => ∃ s6 : ((List Str) × Int), c13 = Sum.inl s6 ∧ e = [some (.d ((eL eS) runs_p)), some (.d (eI most_p)), some (.l (List.map eS s6.1)), some (.d (eI s6.2)), none]) (nm_for (s0 := (kept_1, left_3)) (en := eS) (eR := eN) (js := [4]) (eX := fun s6 y5 => [some (.d ((eL eS) runs_p)), some (.d (eI most_p)), some (.l (List.map eS s6.1)), some (.d (eI s6.2)), some (.d (eS y5))]) q13 (fun s6 => [some (.d ((eL eS) runs_p)), some (.d (eI most_p)), some (.l (List.map eS s6.1)), some (.d (eI s6.2)), none]) (it_list (en := eS) (n_var hN (.here))) (fun s6 y5 => (n_gname hN nd (.there (.there (.there (.there (.here))))))) (fun y5 s6 r h => ?_) (fun s0 hs => ⟨s0, hs, rfl⟩) (fun r0 hs => ?_)) ?_
  · skip
    obtain ⟨v7, q7, h⟩ := obS h
    refine xb_cons ?_
    refine xs_if (b := (decide (v7 ≤ s6.2))) (q_cmpT hr (d1 := (eI v7)) (d2 := (eI s6.2)) (xm_slen (n_var hN (.there (.there (.there (.there (.here)))))) q7 z_len) (n_var hN (.there (.there (.there (.here))))) (.of CmpD.leI)) (fun hc => ?_) (fun hc => ?_)
    · have h := ifT h hc
      obtain ⟨kept_8, q9, h⟩ := obS h
      refine xb_cons ?_
      refine nm_append (en := eS) (y := y5) hN (.there (.there (.here))) (n_var hN (.there (.there (.there (.there (.here)))))) q9 (.there (.there (.here))) nd ?_
      obtain ⟨v10, q10, h⟩ := obS h
      obtain ⟨left_11, q12, h⟩ := obS h
      refine xb_cons ?_
      refine n_set (d := (eI left_11)) (XD.o (en := eI) (v := (s6.2 - v10)) (xd_sub (n_var hN (.there (.there (.there (.here))))) (xm_slen (n_var hN (.there (.there (.there (.there (.here)))))) q10 z_len)) q12) hN nd (.there (.there (.there (.here)))) ?_
      refine xb_nil ?_
      refine xb_fg (.keep (.keep (.keep (.keep (.drop (Fg.nil)))))) ?_
      refine xb_nil ?_
      obtain rfl := Option.some.inj h
      exact ⟨_, rfl, rfl⟩
    · have h := ifF h hc
      refine xb_fg (.keep (.keep (.keep (.keep (.drop (Fg.nil)))))) ?_
      refine xb_cons ?_
      refine xs_break ?_
      obtain rfl := Option.some.inj h
      exact ⟨_, rfl, rfl⟩
  · rw [hs] at h
    exact nomatch (jnR h)
  rintro _ ⟨s13, hs0, rfl⟩
  rw [hs0] at h
  have h := jnI h
  refine xb_cons ?_
  refine xs_ret (d := ((eV eS) s13.1)) (xd_lend hN nd (.there (.there (.here))) (.there (.there (.here))) (xd_tupleL (n_var hN (.there (.there (.here)))) z_tuple) ((nl_V nl_S) _)) ?_
  obtain rfl := Option.some.inj h
  exact rfl
set_option maxHeartbeats 4000000 in
theorem ok_law_long_runs {f : Addr} {fd : FuncData} (F : Fun K "_law_long_runs" "_law_long_runs" s_law_long_runs f fd) (B : L2.Binds K fd ["cell", "letters"] []) (g : mg "_law_long_runs" = some (.ref f)) (T : Bi mg) (D_law_draws : DefOk P w K mg base "_law_draws" 1 C_law_draws) (D_law_word : DefOk P w K mg base "_law_word" 1 C_law_word) (D_law_fit : DefOk P w K mg base "_law_fit" 1 C_law_fit) : DefOk P w K mg base "_law_long_runs" 2 C_law_long_runs := by
  obtain ⟨z_tuple, z_sorted, z_set, z_len, z_range, z_abs, z_int, z_isinstance, z_str, z_all, z_list, z_any, z_sum, z_max⟩ := T
  refine defOk_mk F B g sc_law_long_runs ?_
  intro cdv A outer s H E hr hN nd ii hok
  obtain ⟨cell_p, letters_p, res⟩ := ii
  have h : m_law_long_runs cell_p letters_p = some res := hok
  unfold m_law_long_runs at h
  show XB _ _ [some (.d (eI cell_p)), some (.d ((eL eS) letters_p)), none, none, none, none, none, none, none, none, none, none, none, none] _
  obtain ⟨v1, q1, h⟩ := obS h
  refine xb_cons ?_
  refine n_set (d := ((eL eI) v1)) (xd_call D_law_draws hr (i := (cell_p, (70 : Int), v1)) (d := ((eL eI) v1)) (xa_cons (d := (eI cell_p)) (n_var hN (.here)) (xa_cons (d := (eI (70 : Int))) xd_int xa_nil hs_Constant) hs_Name) q1 (fun _ h => h)) hN nd (.there (.there (.here))) ?_
  obtain ⟨v4, q4, h⟩ := obS h
  obtain ⟨kind_5, q6, h⟩ := obS h
  refine xb_cons ?_
  refine n_set (d := (eI kind_5)) (XD.o (en := eI) (v := (v4 % (4 : Int))) (xd_mod (xd_int1 (xm_lix (en := eI) (xs := v1) (n_var hN (.there (.there (.here)))) xd_int q4) z_int) xd_int (by decide)) q6) hN nd (.there (.there (.there (.here)))) ?_
  obtain ⟨base_7, q8, h⟩ := obS h
  refine xb_cons ?_
  refine n_set (d := (eS base_7)) (XD.o (en := eS) (v := ("" : Str)) xd_str q8) hN nd (.there (.there (.there (.there (.here))))) ?_
  obtain ⟨v9, q9, h⟩ := obS h
  obtain ⟨v10, q10, h⟩ := obS h
  obtain ⟨c19, q19, h⟩ := obS h
  refine xb_cut (M := fun e => ∃ s12 : (Str), c19 = Sum.inl s12 ∧ e = [some (.d (eI cell_p)), some (.d ((eL eS) letters_p)), some (.d ((eL eI) v1)), some (.d (eI kind_5)), some (.d (eS s12)), none, none, none, none, none, none, none, none, none]) (nm_for (s0 := (base_7)) (en := eI) (eR := eN) (js := [5]) (eX := fun s12 y11 => [some (.d (eI cell_p)), some (.d ((eL eS) letters_p)), some (.d ((eL eI) v1)), some (.d (eI kind_5)), some (.d (eS s12)), some (.d (eI y11)), none, none, none, none, none, none, none, none]) q19 (fun s12 => [some (.d (eI cell_p)), some (.d ((eL eS) letters_p)), some (.d ((eL eI) v1)), some (.d (eI kind_5)), some (.d (eS s12)), none, none, none, none, none, none, none, none, none]) (it_rng1 (xd_sub xd_int (xd_mod (xd_div (xd_int1 (xm_lix (en := eI) (xs := v1) (n_var hN (.there (.there (.here)))) xd_int q9) z_int) xd_int ⟨by decide, by decide⟩) xd_int (by decide))) q10 z_range) (fun s12 y11 => (n_gname hN nd (.there (.there (.there (.there (.there (.here)))))))) (fun y11 s12 r h => ?_) (fun s0 hs => ⟨s0, hs, rfl⟩) (fun r0 hs => ?_)) ?_
  · skip
    obtain ⟨v13, q13, h⟩ := obS h
    obtain ⟨v14, q14, h⟩ := obS h
    obtain ⟨v15, q15, h⟩ := obS h
    obtain ⟨v16, q16, h⟩ := obS h
    refine xb_cons ?_
    refine n_set (d := (eS v16)) (xm_sadd (n_var hN (.there (.there (.there (.there (.here)))))) (xm_lix (en := eS) (xs := letters_p) (n_var hN (.there (.here))) (xm_mod (xd_int1 (xm_lix (en := eI) (xs := v1) (n_var hN (.there (.there (.here)))) (xd_add xd_int (n_var hN (.there (.there (.there (.there (.there (.here)))))))) q13) z_int) (xm_llen (en := eS) (n_var hN (.there (.here))) z_len) q14) q15) q16) hN nd (.there (.there (.there (.there (.here))))) ?_
    refine xb_fg (.keep (.keep (.keep (.keep (.keep (.drop (.keep (.keep (.keep (.keep (.keep (.keep (.keep (.keep (Fg.nil))))))))))))))) ?_
    refine xb_nil ?_
    obtain rfl := Option.some.inj h
    exact ⟨_, rfl, rfl⟩
  · rw [hs] at h
    exact nomatch (jnR h)
  rintro _ ⟨s19, hs0, rfl⟩
  rw [hs0] at h
  have h := jnI h
  obtain ⟨v21, q21, h⟩ := obS h
  refine xb_cons ?_
  refine xs_if (b := v21) (XW.t (xw_andM (a := (decide (kind_5 = (0 : Int)))) (q_cmpT hr (d1 := (eI kind_5)) (d2 := (eI (0 : Int))) (n_var hN (.there (.there (.there (.here))))) xd_int (.of CmpD.eqI)) (fun hc b' h => by obtain ⟨v20, q20, h⟩ := obS h; obtain rfl := Option.some.inj h; exact (xw_and1 (q_cmpT hr (d1 := (eI (v20 % (8 : Int)))) (d2 := (eI (0 : Int))) (xd_mod (xd_int1 (xm_lix (en := eI) (xs := v1) (n_var hN (.there (.there (.here)))) xd_int q20) z_int) xd_int (by decide)) xd_int (.of CmpD.eqI)))) q21)) (fun hc => ?_) (fun hc => ?_)
  · have h := ifT h hc
    refine xb_cons ?_
    refine xs_ret (d := ((eV eS) ([s19] : List Str))) (xd_tup (ds := [(eS s19)]) (xa_cons (d := (eS s19)) (n_var hN (.there (.there (.there (.there (.here)))))) xa_nil hs_Name) (show (1 : Nat) ≤ sizeLine by decide)) ?_
    obtain rfl := Option.some.inj h
    exact rfl
  · have h := ifF h hc
    refine xb_nil ?_
    refine xb_cons ?_
    refine xs_if (b := (decide (kind_5 = (0 : Int)))) (q_cmpT hr (d1 := (eI kind_5)) (d2 := (eI (0 : Int))) (n_var hN (.there (.there (.there (.here))))) xd_int (.of CmpD.eqI)) (fun hc => ?_) (fun hc => ?_)
    · have h := ifT h hc
      obtain ⟨v22, q22, h⟩ := obS h
      obtain ⟨v23, q23, h⟩ := obS h
      refine xb_cons ?_
      refine n_set (d := (eS v23)) (xm_scut (n_var hN (.there (.there (.there (.there (.here)))))) xo_none (xo_some (xd_add xd_int (xd_mod (xd_int1 (xm_lix (en := eI) (xs := v1) (n_var hN (.there (.there (.here)))) xd_int q22) z_int) xd_int (by decide)))) q23) hN nd (.there (.there (.there (.there (.there (.there (.here))))))) ?_
      obtain ⟨v26, q26, h⟩ := obS h
      obtain ⟨v27, q27, h⟩ := obS h
      obtain ⟨v28, q28, h⟩ := obS h
      obtain ⟨v29, q29, h⟩ := obS h
      obtain ⟨v30, q30, h⟩ := obS h
      obtain ⟨v31, q31, h⟩ := obS h
      obtain ⟨v32, q32, h⟩ := obS h
      obtain ⟨v33, q33, h⟩ := obS h
      obtain ⟨v34, q34, h⟩ := obS h
      refine xb_cons ?_
      refine n_set (d := (eS v34)) (xm_sadd (xm_scut (n_var hN (.there (.there (.there (.there (.there (.there (.here)))))))) xo_none (xo_some (xm_mod (xd_int1 (xm_lix (en := eI) (xs := v1) (n_var hN (.there (.there (.here)))) xd_int q26) z_int) (xd_add (xm_slen (n_var hN (.there (.there (.there (.there (.there (.there (.here)))))))) q27 z_len) xd_int) q28)) q29) (xm_scut (n_var hN (.there (.there (.there (.there (.there (.there (.here)))))))) (xo_some (xm_mod (xd_int1 (xm_lix (en := eI) (xs := v1) (n_var hN (.there (.there (.here)))) xd_int q30) z_int) (xd_add (xm_slen (n_var hN (.there (.there (.there (.there (.there (.there (.here)))))))) q31 z_len) xd_int) q32)) xo_none q33) q34) hN nd (.there (.there (.there (.there (.there (.there (.there (.here)))))))) ?_
      obtain ⟨v37, q37, h⟩ := obS h
      obtain ⟨v38, q38, h⟩ := obS h
      obtain ⟨v39, q39, h⟩ := obS h
      obtain ⟨v40, q40, h⟩ := obS h
      obtain ⟨v41, q41, h⟩ := obS h
      refine xb_cons ?_
      refine n_set (d := (eS v41)) (xm_sadd (xm_scut (n_var hN (.there (.there (.there (.there (.there (.there (.here)))))))) (xo_some (xm_mod (xd_int1 (xm_lix (en := eI) (xs := v1) (n_var hN (.there (.there (.here)))) xd_int q37) z_int) (xm_slen (n_var hN (.there (.there (.there (.there (.there (.there (.here)))))))) q38 z_len) q39)) xo_none q40) (n_var hN (.there (.there (.there (.there (.there (.there (.here)))))))) q41) hN nd (.there (.there (.there (.there (.there (.there (.there (.there (.here))))))))) ?_
      obtain ⟨v44, q44, h⟩ := obS h
      obtain ⟨v45, q45, h⟩ := obS h
      refine xb_cons ?_
      refine xs_ret (d := ((eV eS) ([v23, v44, v45] : List Str))) (xd_tup (ds := [(eS v23), (eS v44), (eS v45)]) (xa_cons (d := (eS v23)) (n_var hN (.there (.there (.there (.there (.there (.there (.here)))))))) (xa_cons (d := (eS v44)) (xm_scut (n_var hN (.there (.there (.there (.there (.there (.there (.there (.here))))))))) xo_none (xo_some xd_int) q44) (xa_cons (d := (eS v45)) (xm_scut (n_var hN (.there (.there (.there (.there (.there (.there (.there (.there (.here)))))))))) xo_none (xo_some xd_int) q45) xa_nil hs_Subscript) hs_Subscript) hs_Name) (show (3 : Nat) ≤ sizeLine by decide)) ?_
      obtain rfl := Option.some.inj h
      exact rfl
    · have h := ifF h hc
      refine xb_nil ?_
      refine xb_cons ?_
      refine xs_if (b := (decide (kind_5 = (1 : Int)))) (q_cmpT hr (d1 := (eI kind_5)) (d2 := (eI (1 : Int))) (n_var hN (.there (.there (.there (.here))))) xd_int (.of CmpD.eqI)) (fun hc => ?_) (fun hc => ?_)
      · have h := ifT h hc
        obtain ⟨v46, q46, h⟩ := obS h
        obtain ⟨v47, q47, h⟩ := obS h
        obtain ⟨v48, q48, h⟩ := obS h
        obtain ⟨v49, q49, h⟩ := obS h
        refine xb_cons ?_
        refine n_set (d := (eS v49)) (xm_sadd (xd_call D_law_word hr (i := (v46, letters_p, (4 : Int), v47)) (d := (eS v47)) (xa_cons (d := (eI v46)) (xm_lix (en := eI) (xs := v1) (n_var hN (.there (.there (.here)))) xd_int q46) (xa_cons (d := ((eL eS) letters_p)) (n_var hN (.there (.here))) (xa_cons (d := (eI (4 : Int))) xd_int xa_nil hs_Constant) hs_Name) hs_Subscript) q47 (fun _ h => h)) (xm_lix (en := eS) (xs := letters_p) (n_var hN (.there (.here))) xd_int q48) q49) hN nd (.there (.there (.there (.there (.there (.there (.there (.there (.there (.here)))))))))) ?_
        obtain ⟨v52, q52, h⟩ := obS h
        obtain ⟨v53, q53, h⟩ := obS h
        refine xb_cons ?_
        refine n_set (d := (eS v53)) (xd_call D_law_word hr (i := (v52, letters_p, (3 : Int), v53)) (d := (eS v53)) (xa_cons (d := (eI v52)) (xm_lix (en := eI) (xs := v1) (n_var hN (.there (.there (.here)))) xd_int q52) (xa_cons (d := ((eL eS) letters_p)) (n_var hN (.there (.here))) (xa_cons (d := (eI (3 : Int))) xd_int xa_nil hs_Constant) hs_Name) hs_Subscript) q53 (fun _ h => h)) hN nd (.there (.there (.there (.there (.there (.there (.there (.there (.there (.there (.here))))))))))) ?_
        obtain ⟨v56, q56, h⟩ := obS h
        obtain ⟨v57, q57, h⟩ := obS h
        obtain ⟨v58, q58, h⟩ := obS h
        obtain ⟨v59, q59, h⟩ := obS h
        obtain ⟨v60, q60, h⟩ := obS h
        obtain ⟨v61, q61, h⟩ := obS h
        obtain ⟨v62, q62, h⟩ := obS h
        refine xb_cons ?_
        refine xs_ret (d := ((eV eS) ([v59, v62] : List Str))) (xd_tup (ds := [(eS v59), (eS v62)]) (xa_cons (d := (eS v59)) (xm_sadd (n_var hN (.there (.there (.there (.there (.there (.there (.there (.there (.there (.there (.here)))))))))))) (xm_scut (xm_smul (n_var hN (.there (.there (.there (.there (.there (.there (.there (.there (.there (.here))))))))))) xd_int q56) xo_none (xo_some (xd_sub xd_int (xd_mod (xd_int1 (xm_lix (en := eI) (xs := v1) (n_var hN (.there (.there (.here)))) xd_int q57) z_int) xd_int (by decide)))) q58) q59) (xa_cons (d := (eS v62)) (xm_sadd (n_var hN (.there (.there (.there (.there (.there (.there (.there (.there (.there (.there (.here)))))))))))) (xm_smul (n_var hN (.there (.there (.there (.there (.there (.there (.there (.there (.there (.here))))))))))) (xd_add xd_int (xd_mod (xd_int1 (xm_lix (en := eI) (xs := v1) (n_var hN (.there (.there (.here)))) xd_int q60) z_int) xd_int (by decide))) q61) q62) xa_nil hs_BinOp) hs_BinOp) (show (2 : Nat) ≤ sizeLine by decide)) ?_
        obtain rfl := Option.some.inj h
        exact rfl
      · have h := ifF h hc
        refine xb_nil ?_
        refine xb_cons ?_
        refine xs_if (b := (decide (kind_5 = (2 : Int)))) (q_cmpT hr (d1 := (eI kind_5)) (d2 := (eI (2 : Int))) (n_var hN (.there (.there (.there (.here))))) xd_int (.of CmpD.eqI)) (fun hc => ?_) (fun hc => ?_)
        · have h := ifT h hc
          obtain ⟨runs_63, q64, h⟩ := obS h
          refine xb_cons ?_
          refine n_setL (xs := List.map eS runs_63) (xl_to (xl_lst (ds := []) xa_nil (show (0 : Nat) ≤ sizeLine by decide)) (by cases q64; rfl)) hN nd (.there (.there (.there (.there (.there (.there (.there (.there (.there (.there (.there (.here)))))))))))) ?_
          obtain ⟨v65, q65, h⟩ := obS h
          obtain ⟨c86, q86, h⟩ := obS h
          refine xb_cut (M := fun e => ∃ s67 : ((List Str)), c86 = Sum.inl s67 ∧ e = [some (.d (eI cell_p)), some (.d ((eL eS) letters_p)), some (.d ((eL eI) v1)), some (.d (eI kind_5)), some (.d (eS s19)), none, none, none, none, none, none, some (.l (List.map eS s67)), none, none]) (nm_for (s0 := (runs_63)) (en := eI) (eR := eN) (js := [12]) (eX := fun s67 y66 => [some (.d (eI cell_p)), some (.d ((eL eS) letters_p)), some (.d ((eL eI) v1)), some (.d (eI kind_5)), some (.d (eS s19)), none, none, none, none, none, none, some (.l (List.map eS s67)), some (.d (eI y66)), none]) q86 (fun s67 => [some (.d (eI cell_p)), some (.d ((eL eS) letters_p)), some (.d ((eL eI) v1)), some (.d (eI kind_5)), some (.d (eS s19)), none, none, none, none, none, none, some (.l (List.map eS s67)), none, none]) (it_rng1 xd_int q65 z_range) (fun s67 y66 => (n_gname hN nd (.there (.there (.there (.there (.there (.there (.there (.there (.there (.there (.there (.there (.here))))))))))))))) (fun y66 s67 r h => ?_) (fun s0 hs => ⟨s0, hs, rfl⟩) (fun r0 hs => ?_)) ?_
          · skip
            obtain ⟨v68, q68, h⟩ := obS h
            obtain ⟨v69, q69, h⟩ := obS h
            obtain ⟨v70, q70, h⟩ := obS h
            obtain ⟨v71, q71, h⟩ := obS h
            obtain ⟨v72, q72, h⟩ := obS h
            obtain ⟨v73, q73, h⟩ := obS h
            refine xb_cons ?_
            refine n_set (d := (eS v73)) (xm_sadd (xd_call D_law_word hr (i := (v68, letters_p, (3 : Int), v69)) (d := (eS v69)) (xa_cons (d := (eI v68)) (xm_lix (en := eI) (xs := v1) (n_var hN (.there (.there (.here)))) (xd_add xd_int (xd_mul xd_int (n_var hN (.there (.there (.there (.there (.there (.there (.there (.there (.there (.there (.there (.there (.here)))))))))))))) (Or.inl ⟨by decide, by decide⟩))) q68) (xa_cons (d := ((eL eS) letters_p)) (n_var hN (.there (.here))) (xa_cons (d := (eI (3 : Int))) xd_int xa_nil hs_Constant) hs_Name) hs_Subscript) q69 (fun _ h => h)) (xm_lix (en := eS) (xs := letters_p) (n_var hN (.there (.here))) (xm_mod (xd_int1 (xm_lix (en := eI) (xs := v1) (n_var hN (.there (.there (.here)))) (xd_add xd_int (xd_mul xd_int (n_var hN (.there (.there (.there (.there (.there (.there (.there (.there (.there (.there (.there (.there (.here)))))))))))))) (Or.inl ⟨by decide, by decide⟩))) q70) z_int) (xm_llen (en := eS) (n_var hN (.there (.here))) z_len) q71) q72) q73) hN nd (.there (.there (.there (.there (.there (.there (.there (.there (.there (.here)))))))))) ?_
            obtain ⟨v76, q76, h⟩ := obS h
            obtain ⟨v77, q77, h⟩ := obS h
            refine xb_cons ?_
            refine n_set (d := (eS v77)) (xd_call D_law_word hr (i := (v76, letters_p, (3 : Int), v77)) (d := (eS v77)) (xa_cons (d := (eI v76)) (xm_lix (en := eI) (xs := v1) (n_var hN (.there (.there (.here)))) (xd_add xd_int (xd_mul xd_int (n_var hN (.there (.there (.there (.there (.there (.there (.there (.there (.there (.there (.there (.there (.here)))))))))))))) (Or.inl ⟨by decide, by decide⟩))) q76) (xa_cons (d := ((eL eS) letters_p)) (n_var hN (.there (.here))) (xa_cons (d := (eI (3 : Int))) xd_int xa_nil hs_Constant) hs_Name) hs_Subscript) q77 (fun _ h => h)) hN nd (.there (.there (.there (.there (.there (.there (.there (.there (.there (.there (.there (.there (.there (.here)))))))))))))) ?_
            obtain ⟨v80, q80, h⟩ := obS h
            obtain ⟨v81, q81, h⟩ := obS h
            obtain ⟨v82, q82, h⟩ := obS h
            obtain ⟨v83, q83, h⟩ := obS h
            obtain ⟨runs_84, q85, h⟩ := obS h
            refine xb_cons ?_
            refine nm_append (en := eS) (y := v83) hN (.there (.there (.there (.there (.there (.there (.there (.there (.there (.there (.there (.here)))))))))))) (xm_sadd (xm_scut (xm_smul (n_var hN (.there (.there (.there (.there (.there (.there (.there (.there (.there (.here))))))))))) xd_int q80) xo_none (xo_some (xd_add xd_int (xd_mod (xd_int1 (xm_lix (en := eI) (xs := v1) (n_var hN (.there (.there (.here)))) (xd_add xd_int (xd_mul xd_int (n_var hN (.there (.there (.there (.there (.there (.there (.there (.there (.there (.there (.there (.there (.here)))))))))))))) (Or.inl ⟨by decide, by decide⟩))) q81) z_int) xd_int (by decide)))) q82) (n_var hN (.there (.there (.there (.there (.there (.there (.there (.there (.there (.there (.there (.there (.there (.here))))))))))))))) q83) q85 (.there (.there (.there (.there (.there (.there (.there (.there (.there (.there (.there (.here)))))))))))) nd ?_
            refine xb_fg (.keep (.keep (.keep (.keep (.keep (.keep (.keep (.keep (.keep (.drop (.keep (.keep (.drop (.drop (Fg.nil))))))))))))))) ?_
            refine xb_nil ?_
            obtain rfl := Option.some.inj h
            exact ⟨_, rfl, rfl⟩
          · rw [hs] at h
            exact nomatch (jnR h)
          rintro _ ⟨s86, hs0, rfl⟩
          rw [hs0] at h
          have h := jnI h
          obtain ⟨v87, q87, h⟩ := obS h
          refine xb_cons ?_
          refine xs_ret (d := ((eV eS) v87)) (xd_lend hN nd (.there (.there (.there (.there (.there (.there (.there (.there (.there (.there (.there (.here)))))))))))) (.there (.there (.there (.there (.there (.there (.there (.there (.there (.there (.there (.here)))))))))))) (xd_call D_law_fit hr (i := (s86, (60 : Int), v87)) (d := ((eV eS) v87)) (xa_cons (d := ((eL eS) s86)) (n_var hN (.there (.there (.there (.there (.there (.there (.there (.there (.there (.there (.there (.here))))))))))))) (xa_cons (d := (eI (60 : Int))) xd_int xa_nil hs_Constant) hs_Name) q87 (fun _ h => h)) ((nl_V nl_S) _)) ?_
          obtain rfl := Option.some.inj h
          exact rfl
        · have h := ifF h hc
          refine xb_nil ?_
          obtain ⟨v88, q88, h⟩ := obS h
          obtain ⟨v93, q93, h⟩ := obS h
          obtain ⟨v94, q94, h⟩ := obS h
          refine xb_cons ?_
          refine xs_ret (d := ((eV eS) v94)) (xd_call D_law_fit hr (i := (v93, (60 : Int), v94)) (d := ((eV eS) v94)) (xa_cons (d := ((eL eS) v93)) (XL.dat (nm_comp (S := defScope s_law_long_runs) (en := eI) (eb := eS) (eX := fun y89 => [some (.d (eI cell_p)), some (.d ((eL eS) letters_p)), some (.d ((eL eI) v1)), some (.d (eI kind_5)), some (.d (eS s19)), none, none, none, none, none, none, none, some (.d (eI y89)), none]) [(("r" : Str), 12)] q93 hN nd (it_rng1 xd_int q88 z_range) (by decide +kernel) (fun y89 s_ Hb C cl fp => (n_gname hN nd (.there (.there (.there (.there (.there (.there (.there (.there (.there (.there (.there (.there (.here))))))))))))))) (fun y89 r h s_ Hb C cl fp => by obtain ⟨v90, q90, h⟩ := obS h; obtain ⟨v91, q91, h⟩ := obS h; obtain ⟨v92, q92, h⟩ := obS h; exact XD.o (en := eS) (v := v92) (xd_call D_law_word hr (i := (v90, letters_p, ((1 : Int) + (v91 % (4 : Int))), v92)) (d := (eS v92)) (xa_cons (d := (eI v90)) (xm_lix (en := eI) (xs := v1) (n_var hN (.there (.there (.here)))) (xd_add xd_int (n_var hN (.there (.there (.there (.there (.there (.there (.there (.there (.there (.there (.there (.there (.here))))))))))))))) q90) (xa_cons (d := ((eL eS) letters_p)) (n_var hN (.there (.here))) (xa_cons (d := (eI ((1 : Int) + (v91 % (4 : Int))))) (xd_add xd_int (xd_mod (xd_int1 (xm_lix (en := eI) (xs := v1) (n_var hN (.there (.there (.here)))) xd_int q91) z_int) xd_int (by decide))) xa_nil hs_BinOp) hs_Name) hs_Subscript) q92 (fun _ h => h)) h))) (xa_cons (d := (eI (60 : Int))) xd_int xa_nil hs_Constant) hs_ListComp) q94 (fun _ h => h)) ?_
          obtain rfl := Option.some.inj h
          exact rfl
set_option maxHeartbeats 4000000 in
theorem ok_law_great_runs {f : Addr} {fd : FuncData} (F : Fun K "_law_great_runs" "_law_great_runs" s_law_great_runs f fd) (B : L2.Binds K fd ["cell", "letters"] []) (g : mg "_law_great_runs" = some (.ref f)) (T : Bi mg) (D_law_draws : DefOk P w K mg base "_law_draws" 1 C_law_draws) (D_law_word : DefOk P w K mg base "_law_word" 1 C_law_word) (D_law_fit : DefOk P w K mg base "_law_fit" 1 C_law_fit) (D_law_long_runs : DefOk P w K mg base "_law_long_runs" 2 C_law_long_runs) : DefOk P w K mg base "_law_great_runs" 3 C_law_great_runs := by
  obtain ⟨z_tuple, z_sorted, z_set, z_len, z_range, z_abs, z_int, z_isinstance, z_str, z_all, z_list, z_any, z_sum, z_max⟩ := T
  have D_law_draws := D_law_draws.mono (k := 2) (by decide)
  have D_law_word := D_law_word.mono (k := 2) (by decide)
  have D_law_fit := D_law_fit.mono (k := 2) (by decide)
  refine defOk_mk F B g sc_law_great_runs ?_
  intro cdv A outer s H E hr hN nd ii hok
  obtain ⟨cell_p, letters_p, res⟩ := ii
  have h : m_law_great_runs cell_p letters_p = some res := hok
  unfold m_law_great_runs at h
  show XB _ _ [some (.d (eI cell_p)), some (.d ((eL eS) letters_p)), none, none, none, none, none] _
  obtain ⟨v1, q1, h⟩ := obS h
  refine xb_cons ?_
  refine n_set (d := ((eL eI) v1)) (xd_call D_law_draws hr (i := (cell_p, (90 : Int), v1)) (d := ((eL eI) v1)) (xa_cons (d := (eI cell_p)) (n_var hN (.here)) (xa_cons (d := (eI (90 : Int))) xd_int xa_nil hs_Constant) hs_Name) q1 (fun _ h => h)) hN nd (.there (.there (.here))) ?_
  obtain ⟨v4, q4, h⟩ := obS h
  refine xb_cons ?_
  refine xs_if (b := (decide ((v4 % (3 : Int)) = (0 : Int)))) (q_cmpT hr (d1 := (eI (v4 % (3 : Int)))) (d2 := (eI (0 : Int))) (xd_mod (xd_int1 (xm_lix (en := eI) (xs := v1) (n_var hN (.there (.there (.here)))) xd_int q4) z_int) xd_int (by decide)) xd_int (.of CmpD.eqI)) (fun hc => ?_) (fun hc => ?_)
  · have h := ifT h hc
    obtain ⟨run_5, q6, h⟩ := obS h
    refine xb_cons ?_
    refine n_set (d := (eS run_5)) (XD.o (en := eS) (v := ("" : Str)) xd_str q6) hN nd (.there (.there (.there (.here)))) ?_
    obtain ⟨v7, q7, h⟩ := obS h
    obtain ⟨c16, q16, h⟩ := obS h
    refine xb_cut (M := fun e => ∃ s9 : (Str), c16 = Sum.inl s9 ∧ e = [some (.d (eI cell_p)), some (.d ((eL eS) letters_p)), some (.d ((eL eI) v1)), some (.d (eS s9)), none, none, none]) (nm_for (s0 := (run_5)) (en := eI) (eR := eN) (js := [4]) (eX := fun s9 y8 => [some (.d (eI cell_p)), some (.d ((eL eS) letters_p)), some (.d ((eL eI) v1)), some (.d (eS s9)), some (.d (eI y8)), none, none]) q16 (fun s9 => [some (.d (eI cell_p)), some (.d ((eL eS) letters_p)), some (.d ((eL eI) v1)), some (.d (eS s9)), none, none, none]) (it_rng1 xd_int q7 z_range) (fun s9 y8 => (n_gname hN nd (.there (.there (.there (.there (.here))))))) (fun y8 s9 r h => ?_) (fun s0 hs => ⟨s0, hs, rfl⟩) (fun r0 hs => ?_)) ?_
    · skip
      obtain ⟨v10, q10, h⟩ := obS h
      obtain ⟨v11, q11, h⟩ := obS h
      obtain ⟨v12, q12, h⟩ := obS h
      obtain ⟨v13, q13, h⟩ := obS h
      refine xb_cons ?_
      refine n_set (d := (eS v13)) (xm_sadd (n_var hN (.there (.there (.there (.here))))) (xm_lix (en := eS) (xs := letters_p) (n_var hN (.there (.here))) (xm_mod (xd_int1 (xm_lix (en := eI) (xs := v1) (n_var hN (.there (.there (.here)))) (xd_add xd_int (n_var hN (.there (.there (.there (.there (.here))))))) q10) z_int) (xm_llen (en := eS) (n_var hN (.there (.here))) z_len) q11) q12) q13) hN nd (.there (.there (.there (.here)))) ?_
      refine xb_fg (.keep (.keep (.keep (.keep (.drop (.keep (.keep (Fg.nil)))))))) ?_
      refine xb_nil ?_
      obtain rfl := Option.some.inj h
      exact ⟨_, rfl, rfl⟩
    · rw [hs] at h
      exact nomatch (jnR h)
    rintro _ ⟨s16, hs0, rfl⟩
    rw [hs0] at h
    have h := jnI h
    obtain ⟨v17, q17, h⟩ := obS h
    obtain ⟨cut_18, q19, h⟩ := obS h
    refine xb_cons ?_
    refine n_set (d := (eI cut_18)) (XD.o (en := eI) (v := (v17 % (65 : Int))) (xd_mod (xd_int1 (xm_lix (en := eI) (xs := v1) (n_var hN (.there (.there (.here)))) xd_int q17) z_int) xd_int (by decide)) q19) hN nd (.there (.there (.there (.there (.there (.here)))))) ?_
    obtain ⟨v20, q20, h⟩ := obS h
    obtain ⟨v21, q21, h⟩ := obS h
    obtain ⟨v22, q22, h⟩ := obS h
    obtain ⟨v23, q23, h⟩ := obS h
    obtain ⟨v24, q24, h⟩ := obS h
    obtain ⟨v25, q25, h⟩ := obS h
    obtain ⟨v26, q26, h⟩ := obS h
    refine xb_cons ?_
    refine xs_ret (d := ((eV eS) ([s16, v22, v25, v26] : List Str))) (xd_tup (ds := [(eS s16), (eS v22), (eS v25), (eS v26)]) (xa_cons (d := (eS s16)) (n_var hN (.there (.there (.there (.here))))) (xa_cons (d := (eS v22)) (xm_sadd (xm_scut (n_var hN (.there (.there (.there (.here))))) xo_none (xo_some (n_var hN (.there (.there (.there (.there (.there (.here)))))))) q20) (xm_scut (n_var hN (.there (.there (.there (.here))))) xo_none (xo_some (xd_sub xd_int (n_var hN (.there (.there (.there (.there (.there (.here))))))))) q21) q22) (xa_cons (d := (eS v25)) (xm_scut (xm_srev (n_var hN (.there (.there (.there (.here))))) q23) xo_none (xo_some (xd_mod (xd_int1 (xm_lix (en := eI) (xs := v1) (n_var hN (.there (.there (.here)))) xd_int q24) z_int) xd_int (by decide))) q25) (xa_cons (d := (eS v26)) (xm_scut (n_var hN (.there (.there (.there (.here))))) xo_none (xo_some (n_var hN (.there (.there (.there (.there (.there (.here)))))))) q26) xa_nil hs_Subscript) hs_Subscript) hs_BinOp) hs_Name) (show (4 : Nat) ≤ sizeLine by decide)) ?_
    obtain rfl := Option.some.inj h
    exact rfl
  · have h := ifF h hc
    refine xb_nil ?_
    obtain ⟨v27, q27, h⟩ := obS h
    refine xb_cons ?_
    refine xs_if (b := (decide ((v27 % (3 : Int)) = (1 : Int)))) (q_cmpT hr (d1 := (eI (v27 % (3 : Int)))) (d2 := (eI (1 : Int))) (xd_mod (xd_int1 (xm_lix (en := eI) (xs := v1) (n_var hN (.there (.there (.here)))) xd_int q27) z_int) xd_int (by decide)) xd_int (.of CmpD.eqI)) (fun hc => ?_) (fun hc => ?_)
    · have h := ifT h hc
      obtain ⟨v28, q28, h⟩ := obS h
      obtain ⟨v32, q32, h⟩ := obS h
      obtain ⟨v33, q33, h⟩ := obS h
      refine xb_cons ?_
      refine xs_ret (d := ((eV eS) v33)) (xd_call D_law_fit hr (i := (v32, (200 : Int), v33)) (d := ((eV eS) v33)) (xa_cons (d := ((eL eS) v32)) (XL.dat (nm_comp (S := defScope s_law_great_runs) (en := eI) (eb := eS) (eX := fun y29 => [some (.d (eI cell_p)), some (.d ((eL eS) letters_p)), some (.d ((eL eI) v1)), none, none, none, some (.d (eI y29))]) [(("r" : Str), 6)] q32 hN nd (it_rng1 xd_int q28 z_range) (by decide +kernel) (fun y29 s_ Hb C cl fp => (n_gname hN nd (.there (.there (.there (.there (.there (.there (.here))))))))) (fun y29 r h s_ Hb C cl fp => by obtain ⟨v30, q30, h⟩ := obS h; obtain ⟨v31, q31, h⟩ := obS h; exact XD.o (en := eS) (v := v31) (xd_call D_law_word hr (i := (v30, letters_p, (4 : Int), v31)) (d := (eS v31)) (xa_cons (d := (eI v30)) (xm_lix (en := eI) (xs := v1) (n_var hN (.there (.there (.here)))) (xd_add xd_int (n_var hN (.there (.there (.there (.there (.there (.there (.here))))))))) q30) (xa_cons (d := ((eL eS) letters_p)) (n_var hN (.there (.here))) (xa_cons (d := (eI (4 : Int))) xd_int xa_nil hs_Constant) hs_Name) hs_Subscript) q31 (fun _ h => h)) h))) (xa_cons (d := (eI (200 : Int))) xd_int xa_nil hs_Constant) hs_ListComp) q33 (fun _ h => h)) ?_
      obtain rfl := Option.some.inj h
      exact rfl
    · have h := ifF h hc
      refine xb_nil ?_
      obtain ⟨v34, q34, h⟩ := obS h
      refine xb_cons ?_
      refine xs_ret (d := ((eV eS) v34)) (xd_call D_law_long_runs hr (i := (cell_p, letters_p, v34)) (d := ((eV eS) v34)) (xa_cons (d := (eI cell_p)) (n_var hN (.here)) (xa_cons (d := ((eL eS) letters_p)) (n_var hN (.there (.here))) xa_nil hs_Name) hs_Name) q34 (fun _ h => h)) ?_
      obtain rfl := Option.some.inj h
      exact rfl
set_option maxHeartbeats 4000000 in
theorem ok_law_runs {f : Addr} {fd : FuncData} (F : Fun K "_law_runs" "_law_runs" s_law_runs f fd) (B : L2.Binds K fd ["cell", "letters", "count", "longest"] []) (g : mg "_law_runs" = some (.ref f)) (T : Bi mg) (D_law_draws : DefOk P w K mg base "_law_draws" 1 C_law_draws) (D_law_word : DefOk P w K mg base "_law_word" 1 C_law_word) : DefOk P w K mg base "_law_runs" 2 C_law_runs := by
  obtain ⟨z_tuple, z_sorted, z_set, z_len, z_range, z_abs, z_int, z_isinstance, z_str, z_all, z_list, z_any, z_sum, z_max⟩ := T
  refine defOk_mk F B g sc_law_runs ?_
  intro cdv A outer s H E hr hN nd ii hok
  obtain ⟨cell_p, letters_p, count_p, longest_p, res⟩ := ii
  have h : m_law_runs cell_p letters_p count_p longest_p = some res := hok
  unfold m_law_runs at h
  show XB _ _ [some (.d (eI cell_p)), some (.d ((eL eS) letters_p)), some (.d (eI count_p)), some (.d (eI longest_p)), none, none, none, none, none, none, none, none] _
  obtain ⟨v1, q1, h⟩ := obS h
  refine xb_cons ?_
  refine n_set (d := ((eL eI) v1)) (xd_call D_law_draws hr (i := (cell_p, ((5 : Int) + ((4 : Int) * count_p)), v1)) (d := ((eL eI) v1)) (xa_cons (d := (eI cell_p)) (n_var hN (.here)) (xa_cons (d := (eI ((5 : Int) + ((4 : Int) * count_p)))) (xd_add xd_int (xd_mul xd_int (n_var hN (.there (.there (.here)))) (Or.inl ⟨by decide, by decide⟩))) xa_nil hs_BinOp) hs_Name) q1 (fun _ h => h)) hN nd (.there (.there (.there (.there (.here))))) ?_
  obtain ⟨v4, q4, h⟩ := obS h
  obtain ⟨v8, q8, h⟩ := obS h
  refine xb_cons ?_
  refine nm_setComp (S := defScope s_law_runs) (en := eI) (eb := eS) (eX := fun y5 => [some (.d (eI cell_p)), some (.d ((eL eS) letters_p)), some (.d (eI count_p)), some (.d (eI longest_p)), some (.d ((eL eI) v1)), none, none, none, none, none, none, some (.d (eI y5))]) [(("k" : Str), 11)] q8 hN nd (it_rng1 xd_int q4 z_range) (by decide +kernel) (fun y5 s_ Hb C cl fp => (n_gname hN nd (.there (.there (.there (.there (.there (.there (.there (.there (.there (.there (.there (.here)))))))))))))) (fun y5 r h s_ Hb C cl fp => by obtain ⟨v6, q6, h⟩ := obS h; obtain ⟨v7, q7, h⟩ := obS h; exact XD.o (en := eS) (v := v7) (xd_call D_law_word hr (i := (v6, letters_p, (2 : Int), v7)) (d := (eS v7)) (xa_cons (d := (eI v6)) (xm_lix (en := eI) (xs := v1) (n_var hN (.there (.there (.there (.there (.here)))))) (xd_add xd_int (n_var hN (.there (.there (.there (.there (.there (.there (.there (.there (.there (.there (.there (.here)))))))))))))) q6) (xa_cons (d := ((eL eS) letters_p)) (n_var hN (.there (.here))) (xa_cons (d := (eI (2 : Int))) xd_int xa_nil hs_Constant) hs_Name) hs_Subscript) q7 (fun _ h => h)) h) (.there (.there (.there (.there (.there (.here)))))) ?_
  refine n_freeze "parts" hN nd (.there (.there (.there (.there (.there (.here)))))) (.there (.there (.there (.there (.there (.here)))))) ?_
  obtain ⟨runs_9, q10, h⟩ := obS h
  refine xb_cons ?_
  refine n_setL (xs := List.map eS runs_9) (xl_to (xl_lst (ds := []) xa_nil (show (0 : Nat) ≤ sizeLine by decide)) (by cases q10; rfl)) hN nd (.there (.there (.there (.there (.there (.there (.here))))))) ?_
  obtain ⟨v11, q11, h⟩ := obS h
  obtain ⟨v12, q12, h⟩ := obS h
  obtain ⟨v13, q13, h⟩ := obS h
  obtain ⟨c52, q52, h⟩ := obS h
  refine xb_cut (M := fun e => ∃ s15 : ((List Str)), c52 = Sum.inl s15 ∧ e = [some (.d (eI cell_p)), some (.d ((eL eS) letters_p)), some (.d (eI count_p)), some (.d (eI longest_p)), some (.d ((eL eI) v1)), some (.d ((eL eS) v8)), some (.l (List.map eS s15)), none, none, none, none, none]) (nm_for (s0 := (runs_9)) (en := eI) (eR := eN) (js := [7]) (eX := fun s15 y14 => [some (.d (eI cell_p)), some (.d ((eL eS) letters_p)), some (.d (eI count_p)), some (.d (eI longest_p)), some (.d ((eL eI) v1)), some (.d ((eL eS) v8)), some (.l (List.map eS s15)), some (.d (eI y14)), none, none, none, none]) q52 (fun s15 => [some (.d (eI cell_p)), some (.d ((eL eS) letters_p)), some (.d (eI count_p)), some (.d (eI longest_p)), some (.d ((eL eI) v1)), some (.d ((eL eS) v8)), some (.l (List.map eS s15)), none, none, none, none, none]) (it_rng1 (xm_mod (xm_lix (en := eI) (xs := v1) (n_var hN (.there (.there (.there (.there (.here)))))) xd_int q11) (xd_add (n_var hN (.there (.there (.here)))) xd_int) q12) q13 z_range) (fun s15 y14 => (n_gname hN nd (.there (.there (.there (.there (.there (.there (.there (.here)))))))))) (fun y14 s15 r h => ?_) (fun s0 hs => ⟨s0, hs, rfl⟩) (fun r0 hs => ?_)) ?_
  · skip
    obtain ⟨v16, q16, h⟩ := obS h
    refine xb_cons ?_
    refine n_set (d := (eI v16)) (xm_lix (en := eI) (xs := v1) (n_var hN (.there (.there (.there (.there (.here)))))) (xd_add xd_int (xd_mul xd_int (n_var hN (.there (.there (.there (.there (.there (.there (.there (.here))))))))) (Or.inl ⟨by decide, by decide⟩))) q16) hN nd (.there (.there (.there (.there (.there (.there (.there (.there (.here))))))))) ?_
    obtain ⟨j19, q19, h⟩ := obS h
    have hj19 := h
    refine xb_cut (M := fun e => ∃ s19 : (Str), j19 = Sum.inl s19 ∧ e = [some (.d (eI cell_p)), some (.d ((eL eS) letters_p)), some (.d (eI count_p)), some (.d (eI longest_p)), some (.d ((eL eI) v1)), some (.d ((eL eS) v8)), some (.l (List.map eS s15)), some (.d (eI y14)), some (.d (eI v16)), some (.d (eS s19)), none, none]) (xs_if (b := (decide ((v16 % (3 : Int)) = (0 : Int)))) (q_cmpT hr (d1 := (eI (v16 % (3 : Int)))) (d2 := (eI (0 : Int))) (xd_mod (n_var hN (.there (.there (.there (.there (.there (.there (.there (.there (.here)))))))))) xd_int (by decide)) xd_int (.of CmpD.eqI)) (fun hc => ?_) (fun hc => ?_)) ?_
    · have h := ifT q19 hc
      obtain ⟨v20, q20, h⟩ := obS h
      obtain ⟨v21, q21, h⟩ := obS h
      refine xb_cons ?_
      refine n_set (d := (eS v21)) (xd_call D_law_word hr (i := (v20, letters_p, longest_p, v21)) (d := (eS v21)) (xa_cons (d := (eI v20)) (xm_lix (en := eI) (xs := v1) (n_var hN (.there (.there (.there (.there (.here)))))) (xd_add xd_int (xd_mul xd_int (n_var hN (.there (.there (.there (.there (.there (.there (.there (.here))))))))) (Or.inl ⟨by decide, by decide⟩))) q20) (xa_cons (d := ((eL eS) letters_p)) (n_var hN (.there (.here))) (xa_cons (d := (eI longest_p)) (n_var hN (.there (.there (.there (.here))))) xa_nil hs_Name) hs_Name) hs_Subscript) q21 (fun _ h => h)) hN nd (.there (.there (.there (.there (.there (.there (.there (.there (.there (.here)))))))))) ?_
      refine xb_nil ?_
      obtain rfl := Option.some.inj h
      exact ⟨_, rfl, rfl⟩
    · have h := ifF q19 hc
      obtain ⟨j24, q24, h⟩ := obS h
      have hj24 := h
      refine xb_cut (M := fun e => ∃ s24 : (Str), j24 = Sum.inl s24 ∧ e = [some (.d (eI cell_p)), some (.d ((eL eS) letters_p)), some (.d (eI count_p)), some (.d (eI longest_p)), some (.d ((eL eI) v1)), some (.d ((eL eS) v8)), some (.l (List.map eS s15)), some (.d (eI y14)), some (.d (eI v16)), some (.d (eS s24)), none, none]) (xs_if (b := (decide ((v16 % (3 : Int)) = (1 : Int)))) (q_cmpT hr (d1 := (eI (v16 % (3 : Int)))) (d2 := (eI (1 : Int))) (xd_mod (n_var hN (.there (.there (.there (.there (.there (.there (.there (.there (.here)))))))))) xd_int (by decide)) xd_int (.of CmpD.eqI)) (fun hc => ?_) (fun hc => ?_)) ?_
      · have h := ifT q24 hc
        obtain ⟨v25, q25, h⟩ := obS h
        obtain ⟨v26, q26, h⟩ := obS h
        refine xb_cons ?_
        refine n_set (d := (eS v26)) (xm_lix (en := eS) (xs := v8) (n_var hN (.there (.there (.there (.there (.there (.here))))))) (xd_mod (xm_lix (en := eI) (xs := v1) (n_var hN (.there (.there (.there (.there (.here)))))) (xd_add xd_int (xd_mul xd_int (n_var hN (.there (.there (.there (.there (.there (.there (.there (.here))))))))) (Or.inl ⟨by decide, by decide⟩))) q25) xd_int (by decide)) q26) hN nd (.there (.there (.there (.there (.there (.there (.there (.there (.there (.there (.here))))))))))) ?_
        obtain ⟨v29, q29, h⟩ := obS h
        obtain ⟨v30, q30, h⟩ := obS h
        obtain ⟨v31, q31, h⟩ := obS h
        obtain ⟨v32, q32, h⟩ := obS h
        obtain ⟨v33, q33, h⟩ := obS h
        obtain ⟨v34, q34, h⟩ := obS h
        obtain ⟨v35, q35, h⟩ := obS h
        obtain ⟨v36, q36, h⟩ := obS h
        refine xb_cons ?_
        refine n_set (d := (eS v36)) (xm_sadd (xm_sadd (xm_lix (en := eS) (xs := v8) (n_var hN (.there (.there (.there (.there (.there (.here))))))) (xd_mod (xm_lix (en := eI) (xs := v1) (n_var hN (.there (.there (.there (.there (.here)))))) (xd_add xd_int (xd_mul xd_int (n_var hN (.there (.there (.there (.there (.there (.there (.there (.here))))))))) (Or.inl ⟨by decide, by decide⟩))) q29) xd_int (by decide)) q30) (xm_smul (n_var hN (.there (.there (.there (.there (.there (.there (.there (.there (.there (.there (.here)))))))))))) (xd_mod (xm_lix (en := eI) (xs := v1) (n_var hN (.there (.there (.there (.there (.here)))))) (xd_add xd_int (xd_mul xd_int (n_var hN (.there (.there (.there (.there (.there (.there (.there (.here))))))))) (Or.inl ⟨by decide, by decide⟩))) q31) xd_int (by decide)) q32) q33) (xm_lix (en := eS) (xs := v8) (n_var hN (.there (.there (.there (.there (.there (.here))))))) (xd_mod (xd_div (xm_lix (en := eI) (xs := v1) (n_var hN (.there (.there (.there (.there (.here)))))) (xd_add xd_int (xd_mul xd_int (n_var hN (.there (.there (.there (.there (.there (.there (.there (.here))))))))) (Or.inl ⟨by decide, by decide⟩))) q34) xd_int ⟨by decide, by decide⟩) xd_int (by decide)) q35) q36) hN nd (.there (.there (.there (.there (.there (.there (.there (.there (.there (.here)))))))))) ?_
        refine xb_fg (.keep (.keep (.keep (.keep (.keep (.keep (.keep (.keep (.keep (.keep (.drop (.keep (Fg.nil))))))))))))) ?_
        refine xb_nil ?_
        obtain rfl := Option.some.inj h
        exact ⟨_, rfl, rfl⟩
      · have h := ifF q24 hc
        obtain ⟨v39, q39, h⟩ := obS h
        obtain ⟨v40, q40, h⟩ := obS h
        obtain ⟨v41, q41, h⟩ := obS h
        obtain ⟨v42, q42, h⟩ := obS h
        obtain ⟨v43, q43, h⟩ := obS h
        obtain ⟨v44, q44, h⟩ := obS h
        obtain ⟨v45, q45, h⟩ := obS h
        obtain ⟨v46, q46, h⟩ := obS h
        refine xb_cons ?_
        refine n_set (d := (eS v46)) (xm_sadd (xm_sadd (xm_lix (en := eS) (xs := v8) (n_var hN (.there (.there (.there (.there (.there (.here))))))) (xd_mod (xm_lix (en := eI) (xs := v1) (n_var hN (.there (.there (.there (.there (.here)))))) (xd_add xd_int (xd_mul xd_int (n_var hN (.there (.there (.there (.there (.there (.there (.there (.here))))))))) (Or.inl ⟨by decide, by decide⟩))) q39) xd_int (by decide)) q40) (xd_call D_law_word hr (i := (v41, letters_p, (2 : Int), v42)) (d := (eS v42)) (xa_cons (d := (eI v41)) (xm_lix (en := eI) (xs := v1) (n_var hN (.there (.there (.there (.there (.here)))))) (xd_add xd_int (xd_mul xd_int (n_var hN (.there (.there (.there (.there (.there (.there (.there (.here))))))))) (Or.inl ⟨by decide, by decide⟩))) q41) (xa_cons (d := ((eL eS) letters_p)) (n_var hN (.there (.here))) (xa_cons (d := (eI (2 : Int))) xd_int xa_nil hs_Constant) hs_Name) hs_Subscript) q42 (fun _ h => h)) q43) (xm_lix (en := eS) (xs := v8) (n_var hN (.there (.there (.there (.there (.there (.here))))))) (xd_mod (xm_lix (en := eI) (xs := v1) (n_var hN (.there (.there (.there (.there (.here)))))) (xd_add xd_int (xd_mul xd_int (n_var hN (.there (.there (.there (.there (.there (.there (.there (.here))))))))) (Or.inl ⟨by decide, by decide⟩))) q44) xd_int (by decide)) q45) q46) hN nd (.there (.there (.there (.there (.there (.there (.there (.there (.there (.here)))))))))) ?_
        refine xb_nil ?_
        obtain rfl := Option.some.inj h
        exact ⟨_, rfl, rfl⟩
      rintro _ ⟨s24, hs0, rfl⟩
      rw [hs0] at h
      have h := jnI h
      refine xb_nil ?_
      obtain rfl := Option.some.inj h
      exact ⟨_, rfl, rfl⟩
    rintro _ ⟨s19, hs0, rfl⟩
    rw [hs0] at h
    have h := jnI h
    obtain ⟨v49, q49, h⟩ := obS h
    obtain ⟨runs_50, q51, h⟩ := obS h
    refine xb_cons ?_
    refine nm_append (en := eS) (y := v49) hN (.there (.there (.there (.there (.there (.there (.here))))))) (xm_scut (n_var hN (.there (.there (.there (.there (.there (.there (.there (.there (.there (.here))))))))))) xo_none (xo_some (n_var hN (.there (.there (.there (.here)))))) q49) q51 (.there (.there (.there (.there (.there (.there (.here))))))) nd ?_
    refine xb_fg (.keep (.keep (.keep (.keep (.keep (.keep (.keep (.drop (.drop (.drop (.keep (.keep (Fg.nil))))))))))))) ?_
    refine xb_nil ?_
    obtain rfl := Option.some.inj h
    exact ⟨_, rfl, rfl⟩
  · rw [hs] at h
    exact nomatch (jnR h)
  rintro _ ⟨s52, hs0, rfl⟩
  rw [hs0] at h
  have h := jnI h
  refine xb_cons ?_
  refine xs_ret (d := ((eV eS) s52)) (xd_lend hN nd (.there (.there (.there (.there (.there (.there (.here))))))) (.there (.there (.there (.there (.there (.there (.here))))))) (xd_tupleL (n_var hN (.there (.there (.there (.there (.there (.there (.here)))))))) z_tuple) ((nl_V nl_S) _)) ?_
  obtain rfl := Option.some.inj h
  exact rfl
set_option maxHeartbeats 4000000 in
theorem ok_law_passed {f : Addr} {fd : FuncData} (F : Fun K "_law_passed" "_law_passed" s_law_passed f fd) (B : L2.Binds K fd ["script"] []) (g : mg "_law_passed" = some (.ref f)) (T : Bi mg) (D_law_cell : DefOk P w K mg base "_law_cell" 1 C_law_cell) (D_law_draws : DefOk P w K mg base "_law_draws" 1 C_law_draws) (D_law_letters : DefOk P w K mg base "_law_letters" 1 C_law_letters) (D_law_great_runs : DefOk P w K mg base "_law_great_runs" 3 C_law_great_runs) (D_law_runs : DefOk P w K mg base "_law_runs" 2 C_law_runs) : DefOk P w K mg base "_law_passed" 4 C_law_passed := by
  obtain ⟨z_tuple, z_sorted, z_set, z_len, z_range, z_abs, z_int, z_isinstance, z_str, z_all, z_list, z_any, z_sum, z_max⟩ := T
  have D_law_cell := D_law_cell.mono (k := 3) (by decide)
  have D_law_draws := D_law_draws.mono (k := 3) (by decide)
  have D_law_letters := D_law_letters.mono (k := 3) (by decide)
  have D_law_runs := D_law_runs.mono (k := 3) (by decide)
  refine defOk_mk F B g sc_law_passed ?_
  intro cdv A outer s H E hr hN nd ii hok
  obtain ⟨script_p, res⟩ := ii
  have h : m_law_passed script_p = some res := hok
  unfold m_law_passed at h
  show XB _ _ [some (.d ((eL eI) script_p)), none, none] _
  obtain ⟨v1, q1, h⟩ := obS h
  obtain ⟨v2, q2, h⟩ := obS h
  refine xb_cons ?_
  refine n_set (d := ((eL eI) v2)) (xd_call D_law_draws hr (i := (v1, (4 : Int), v2)) (d := ((eL eI) v2)) (xa_cons (d := (eI v1)) (xd_call D_law_cell hr (i := (script_p, (0 : Int), v1)) (d := (eI v1)) (xa_cons (d := ((eL eI) script_p)) (n_var hN (.here)) (xa_cons (d := (eI (0 : Int))) xd_int xa_nil hs_Constant) hs_Name) q1 (fun _ h => h)) (xa_cons (d := (eI (4 : Int))) xd_int xa_nil hs_Constant) hs_Call) q2 (fun _ h => h)) hN nd (.there (.here)) ?_
  obtain ⟨v5, q5, h⟩ := obS h
  obtain ⟨v6, q6, h⟩ := obS h
  obtain ⟨v7, q7, h⟩ := obS h
  obtain ⟨v8, q8, h⟩ := obS h
  refine xb_cons ?_
  refine n_set (d := ((eL eS) v8)) (xd_call D_law_letters hr (i := (v5, v7, v8)) (d := ((eL eS) v8)) (xa_cons (d := (eI v5)) (xm_lix (en := eI) (xs := v2) (n_var hN (.there (.here))) xd_int q5) (xa_cons (d := (eI v7)) (xm_vix (en := eI) (xs := ([(2 : Int), (1 : Int), (3 : Int), (2 : Int), (4 : Int), (6 : Int)] : List Int)) (xd_tup (ds := [(eI (2 : Int)), (eI (1 : Int)), (eI (3 : Int)), (eI (2 : Int)), (eI (4 : Int)), (eI (6 : Int))]) (xa_cons (d := (eI (2 : Int))) xd_int (xa_cons (d := (eI (1 : Int))) xd_int (xa_cons (d := (eI (3 : Int))) xd_int (xa_cons (d := (eI (2 : Int))) xd_int (xa_cons (d := (eI (4 : Int))) xd_int (xa_cons (d := (eI (6 : Int))) xd_int xa_nil hs_Constant) hs_Constant) hs_Constant) hs_Constant) hs_Constant) hs_Constant) (show (6 : Nat) ≤ sizeLine by decide)) (xd_mod (xd_int1 (xm_lix (en := eI) (xs := v2) (n_var hN (.there (.here))) xd_int q6) z_int) xd_int (by decide)) q7) xa_nil hs_Subscript) hs_Subscript) q8 (fun _ h => h)) hN nd (.there (.there (.here))) ?_
  obtain ⟨v11, q11, h⟩ := obS h
  refine xb_cons ?_
  refine xs_if (b := (decide ((v11 % (8 : Int)) = (5 : Int)))) (q_cmpT hr (d1 := (eI (v11 % (8 : Int)))) (d2 := (eI (5 : Int))) (xd_mod (xd_int1 (xm_lix (en := eI) (xs := v2) (n_var hN (.there (.here))) xd_int q11) z_int) xd_int (by decide)) xd_int (.of CmpD.eqI)) (fun hc => ?_) (fun hc => ?_)
  · have h := ifT h hc
    obtain ⟨v12, q12, h⟩ := obS h
    obtain ⟨v13, q13, h⟩ := obS h
    refine xb_cons ?_
    refine xs_ret (d := ((eV eS) v13)) (xd_call D_law_great_runs hr (i := (v12, v8, v13)) (d := ((eV eS) v13)) (xa_cons (d := (eI v12)) (xd_call D_law_cell hr (i := (script_p, (1 : Int), v12)) (d := (eI v12)) (xa_cons (d := ((eL eI) script_p)) (n_var hN (.here)) (xa_cons (d := (eI (1 : Int))) xd_int xa_nil hs_Constant) hs_Name) q12 (fun _ h => h)) (xa_cons (d := ((eL eS) v8)) (n_var hN (.there (.there (.here)))) xa_nil hs_Name) hs_Call) q13 (fun _ h => h)) ?_
    obtain rfl := Option.some.inj h
    exact rfl
  · have h := ifF h hc
    refine xb_nil ?_
    obtain ⟨v14, q14, h⟩ := obS h
    obtain ⟨v15, q15, h⟩ := obS h
    refine xb_cons ?_
    refine xs_ret (d := ((eV eS) v15)) (xd_call D_law_runs hr (i := (v14, v8, (8 : Int), (8 : Int), v15)) (d := ((eV eS) v15)) (xa_cons (d := (eI v14)) (xd_call D_law_cell hr (i := (script_p, (1 : Int), v14)) (d := (eI v14)) (xa_cons (d := ((eL eI) script_p)) (n_var hN (.here)) (xa_cons (d := (eI (1 : Int))) xd_int xa_nil hs_Constant) hs_Name) q14 (fun _ h => h)) (xa_cons (d := ((eL eS) v8)) (n_var hN (.there (.there (.here)))) (xa_cons (d := (eI (8 : Int))) xd_int (xa_cons (d := (eI (8 : Int))) xd_int xa_nil hs_Constant) hs_Constant) hs_Name) hs_Call) q15 (fun _ h => h)) ?_
    obtain rfl := Option.some.inj h
    exact rfl
set_option maxHeartbeats 4000000 in
theorem ok_in_order {f : Addr} {fd : FuncData} (F : Fun K "in_order" "in_order" s_in_order f fd) (B : L2.Binds K fd ["runs"] []) (g : mg "in_order" = some (.ref f)) (T : Bi mg) : DefOk P w K mg base "in_order" 1 C_in_order := by
  obtain ⟨z_tuple, z_sorted, z_set, z_len, z_range, z_abs, z_int, z_isinstance, z_str, z_all, z_list, z_any, z_sum, z_max⟩ := T
  refine defOk_mk F B g sc_in_order ?_
  intro cdv A outer s H E hr hN nd ii hok
  obtain ⟨runs_p, res⟩ := ii
  have h : m_in_order runs_p = some res := hok
  unfold m_in_order at h
  show XB _ _ [some (.d ((eV eS) runs_p))] _
  obtain ⟨v1, q1, h⟩ := obS h
  obtain ⟨v2, q2, h⟩ := obS h
  refine xb_cons ?_
  refine xs_ret (d := ((eV eS) v2)) (xd_tupleL (XL.dat (xm_srtLen hr (xm_srtSet hr (.inr (n_var hN (.here))) q1 z_sorted z_set) q2 z_sorted z_len)) z_tuple) ?_
  obtain rfl := Option.some.inj h
  exact rfl
set_option maxHeartbeats 4000000 in
theorem ok_law_is_run {f : Addr} {fd : FuncData} (F : Fun K "_law_is_run" "_law_is_run" s_law_is_run f fd) (B : L2.Binds K fd ["value"] []) (g : mg "_law_is_run" = some (.ref f)) (T : Bi mg) : DefOk P w K mg base "_law_is_run" 1 C_law_is_run := by
  obtain ⟨z_tuple, z_sorted, z_set, z_len, z_range, z_abs, z_int, z_isinstance, z_str, z_all, z_list, z_any, z_sum, z_max⟩ := T
  refine defOk_mk F B g sc_law_is_run ?_
  intro cdv A outer s H E hr hN nd ii hok
  obtain ⟨value_p, res⟩ := ii
  have h : m_law_is_run value_p = some res := hok
  unfold m_law_is_run at h
  show XB _ _ [some (.d (eS value_p)), none] _
  obtain ⟨v4, q4, h⟩ := obS h
  refine xb_cons ?_
  refine xs_ret (d := (eB v4)) (xd_andM (a := true) (g_isi' (d1 := (eS value_p)) (n_var hN (.here)) kb_ss z_isinstance z_str boot_str' nn_str nd_str) (fun hc b' h => by obtain ⟨v3, q3, h⟩ := obS h; obtain rfl := Option.some.inj h; exact (xd_one (xd_all (bs := v3) (XL.dat (nm_comp (S := defScope s_law_is_run) (en := eS) (eb := eB) (eX := fun y1 => [some (.d (eS value_p)), some (.d (eS y1))]) [(("letter" : Str), 1)] q3 hN nd (it_str (n_var hN (.here))) (by decide +kernel) (fun y1 s_ Hb C cl fp => (n_gname hN nd (.there (.here)))) (fun y1 r h s_ Hb C cl fp => by obtain ⟨v2, q2, h⟩ := obS h; exact XD.o (en := eB) (v := v2) (q_cmp hr (d1 := (eS y1)) (d2 := (eS ("abcdefghijklmnopqrstuvwxyz" : Str))) (n_var hN (.there (.here))) xd_str (cq_inS q2)) h))) z_all))) q4) ?_
  obtain rfl := Option.some.inj h
  exact rfl
set_option maxHeartbeats 4000000 in
theorem ok_law_is_runs {f : Addr} {fd : FuncData} (F : Fun K "_law_is_runs" "_law_is_runs" s_law_is_runs f fd) (B : L2.Binds K fd ["value"] []) (g : mg "_law_is_runs" = some (.ref f)) (T : Bi mg) (D_law_is_run : DefOk P w K mg base "_law_is_run" 1 C_law_is_run) : DefOk P w K mg base "_law_is_runs" 2 C_law_is_runs := by
  obtain ⟨z_tuple, z_sorted, z_set, z_len, z_range, z_abs, z_int, z_isinstance, z_str, z_all, z_list, z_any, z_sum, z_max⟩ := T
  refine defOk_mk F B g sc_law_is_runs ?_
  intro cdv A outer s H E hr hN nd ii hok
  obtain ⟨value_p, res⟩ := ii
  have h : m_law_is_runs value_p = some res := hok
  unfold m_law_is_runs at h
  show XB _ _ [some (.d ((eV eS) value_p)), none] _
  obtain ⟨v4, q4, h⟩ := obS h
  refine xb_cons ?_
  refine xs_ret (d := (eB v4)) (xd_andM (a := true) (g_isi' (d1 := ((eV eS) value_p)) (n_var hN (.here)) kb_tt z_isinstance z_tuple boot_tuple' nn_tuple nd_tuple) (fun hc b' h => by obtain ⟨v3, q3, h⟩ := obS h; obtain rfl := Option.some.inj h; exact (xd_one (xd_all (bs := v3) (XL.dat (nm_comp (S := defScope s_law_is_runs) (en := eS) (eb := eB) (eX := fun y1 => [some (.d ((eV eS) value_p)), some (.d (eS y1))]) [(("run" : Str), 1)] q3 hN nd (it_tup (en := eS) (n_var hN (.here))) (by decide +kernel) (fun y1 s_ Hb C cl fp => (n_gname hN nd (.there (.here)))) (fun y1 r h s_ Hb C cl fp => by obtain ⟨v2, q2, h⟩ := obS h; exact XD.o (en := eB) (v := v2) (xd_call D_law_is_run hr (i := (y1, v2)) (d := (eB v2)) (xa_cons (d := (eS y1)) (n_var hN (.there (.here))) xa_nil hs_Name) q2 (fun _ h => h)) h))) z_all))) q4) ?_
  obtain rfl := Option.some.inj h
  exact rfl
set_option maxHeartbeats 4000000 in
theorem ok_law_rising {f : Addr} {fd : FuncData} (F : Fun K "_law_rising" "_law_rising" s_law_rising f fd) (B : L2.Binds K fd ["runs"] []) (g : mg "_law_rising" = some (.ref f)) (T : Bi mg) : DefOk P w K mg base "_law_rising" 1 C_law_rising := by
  obtain ⟨z_tuple, z_sorted, z_set, z_len, z_range, z_abs, z_int, z_isinstance, z_str, z_all, z_list, z_any, z_sum, z_max⟩ := T
  refine defOk_mk F B g sc_law_rising ?_
  intro cdv A outer s H E hr hN nd ii hok
  obtain ⟨runs_p, res⟩ := ii
  have h : m_law_rising runs_p = some res := hok
  unfold m_law_rising at h
  show XB _ _ [some (.d ((eV eS) runs_p)), none] _
  obtain ⟨v1, q1, h⟩ := obS h
  obtain ⟨c11, q11, h⟩ := obS h
  refine xb_cut (M := fun e => ∃ s3 : Unit, c11 = Sum.inl s3 ∧ e = [some (.d ((eV eS) runs_p)), none]) (nm_for (s0 := ()) (en := eI) (eR := eB) (js := [1]) (eX := fun s3 y2 => [some (.d ((eV eS) runs_p)), some (.d (eI y2))]) q11 (fun s3 => [some (.d ((eV eS) runs_p)), none]) (it_rng2 xd_int (xm_vlen (en := eS) (n_var hN (.here)) z_len) q1 z_range) (fun s3 y2 => (n_gname hN nd (.there (.here)))) (fun y2 s3 r h => ?_) (fun s0 hs => ⟨s0, hs, rfl⟩) (fun r0 hs => ?_)) ?_
  · skip
    obtain ⟨v4, q4, h⟩ := obS h
    obtain ⟨v5, q5, h⟩ := obS h
    obtain ⟨v6, q6, h⟩ := obS h
    obtain ⟨v7, q7, h⟩ := obS h
    obtain ⟨v8, q8, h⟩ := obS h
    obtain ⟨v9, q9, h⟩ := obS h
    obtain ⟨v10, q10, h⟩ := obS h
    refine xb_cons ?_
    refine xs_if (b := (!v10)) (q_cmpT hr (d1 := ((eP2 eI eS) (v5, v6))) (d2 := ((eP2 eI eS) (v8, v9))) (xd_tup (ds := [(eI v5), (eS v6)]) (xa_cons (d := (eI v5)) (xm_slen (xm_vix (en := eS) (xs := runs_p) (n_var hN (.here)) (xd_sub (n_var hN (.there (.here))) xd_int) q4) q5 z_len) (xa_cons (d := (eS v6)) (xm_vix (en := eS) (xs := runs_p) (n_var hN (.here)) (xd_sub (n_var hN (.there (.here))) xd_int) q6) xa_nil hs_Subscript) hs_Call) (show (2 : Nat) ≤ sizeLine by decide)) (xd_tup (ds := [(eI v8), (eS v9)]) (xa_cons (d := (eI v8)) (xm_slen (xm_vix (en := eS) (xs := runs_p) (n_var hN (.here)) (n_var hN (.there (.here))) q7) q8 z_len) (xa_cons (d := (eS v9)) (xm_vix (en := eS) (xs := runs_p) (n_var hN (.here)) (n_var hN (.there (.here))) q9) xa_nil hs_Subscript) hs_Call) (show (2 : Nat) ≤ sizeLine by decide)) (.ge q10)) (fun hc => ?_) (fun hc => ?_)
    · have h := ifT h hc
      refine xb_cons ?_
      refine xs_ret (d := (eB false)) xd_bl ?_
      obtain rfl := Option.some.inj h
      exact ⟨_, rfl, rfl⟩
    · have h := ifF h hc
      refine xb_nil ?_
      refine xb_fg (.keep (.drop (Fg.nil))) ?_
      refine xb_nil ?_
      obtain rfl := Option.some.inj h
      exact ⟨_, rfl, rfl⟩
  · rw [hs] at h
    have h := jnR h
    obtain rfl := Option.some.inj h
    exact rfl
  rintro _ ⟨s11, hs0, rfl⟩
  rw [hs0] at h
  have h := jnI h
  refine xb_cons ?_
  refine xs_ret (d := (eB true)) xd_bl ?_
  obtain rfl := Option.some.inj h
  exact rfl
set_option maxHeartbeats 4000000 in
theorem ok_in_order_1 {f : Addr} {fd : FuncData} (F : Fun K "in_order" "in_order" s_in_order f fd) (B : L2.Binds K fd ["runs"] []) (g : mg "in_order" = some (.ref f)) (T : Bi mg) : DefOk P w K mg base "in_order" 1 C_in_order_1 := by
  obtain ⟨z_tuple, z_sorted, z_set, z_len, z_range, z_abs, z_int, z_isinstance, z_str, z_all, z_list, z_any, z_sum, z_max⟩ := T
  refine defOk_mk F B g sc_in_order ?_
  intro cdv A outer s H E hr hN nd ii hok
  obtain ⟨runs_p, res⟩ := ii
  have h : m_in_order_1 runs_p = some res := hok
  unfold m_in_order_1 at h
  show XB _ _ [some (.d ((eL eS) runs_p))] _
  obtain ⟨v1, q1, h⟩ := obS h
  obtain ⟨v2, q2, h⟩ := obS h
  refine xb_cons ?_
  refine xs_ret (d := ((eV eS) v2)) (xd_tupleL (XL.dat (xm_srtLen hr (xm_srtSet hr (.inl (n_var hN (.here))) q1 z_sorted z_set) q2 z_sorted z_len)) z_tuple) ?_
  obtain rfl := Option.some.inj h
  exact rfl
set_option maxHeartbeats 4000000 in
theorem ok_beginnings {f : Addr} {fd : FuncData} (F : Fun K "beginnings" "beginnings" s_beginnings f fd) (B : L2.Binds K fd ["runs"] []) (g : mg "beginnings" = some (.ref f)) (T : Bi mg) (D_in_order_1 : DefOk P w K mg base "in_order" 1 C_in_order_1) : DefOk P w K mg base "beginnings" 2 C_beginnings := by
  obtain ⟨z_tuple, z_sorted, z_set, z_len, z_range, z_abs, z_int, z_isinstance, z_str, z_all, z_list, z_any, z_sum, z_max⟩ := T
  refine defOk_mk F B g sc_beginnings ?_
  intro cdv A outer s H E hr hN nd ii hok
  obtain ⟨runs_p, res⟩ := ii
  have h : m_beginnings runs_p = some res := hok
  unfold m_beginnings at h
  show XB _ _ [some (.d ((eV eS) runs_p)), none, none] _
  obtain ⟨v6, q6, h⟩ := obS h
  obtain ⟨v7, q7, h⟩ := obS h
  refine xb_cons ?_
  refine xs_ret (d := ((eV eS) v7)) (xd_call D_in_order_1 hr (i := (v6, v7)) (d := ((eV eS) v7)) (xa_cons (d := ((eL eS) v6)) (XL.dat (nm_comp2 (S := defScope s_beginnings) (en := eS) (e1 := eI) (eb := eS) (eX := fun y1 => [some (.d ((eV eS) runs_p)), some (.d (eS y1)), none]) (eW := fun y1 => [some (.d ((eV eS) runs_p)), some (.d (eS y1)), none]) (eY := fun y1 y2 => [some (.d ((eV eS) runs_p)), some (.d (eS y1)), some (.d (eI y2))]) [(("run" : Str), 1), (("many" : Str), 2)] [2] q6 hN nd (it_tup (en := eS) (n_var hN (.here))) (by decide +kernel) (by decide) (fun y1 s_ Hb C cl fp => (n_gname hN nd (.there (.here)))) (fun _ => rfl) (fun y1 zs h s_ Hb C cl fp => by obtain ⟨v3, q3, h⟩ := obS h; obtain ⟨v4, q4, h⟩ := obS h; obtain rfl := Option.some.inj h; exact (it_rng1 (xd_add (xm_slen (n_var hN (.there (.here))) q3 z_len) xd_int) q4 z_range)) (fun y1 y2 s_ Hb C cl fp => (n_gname hN nd (.there (.there (.here))))) (fun y1 y2 r h s_ Hb C cl fp => by obtain ⟨v5, q5, h⟩ := obS h; exact XD.o (en := eS) (v := v5) (xm_scut (n_var hN (.there (.here))) xo_none (xo_some (n_var hN (.there (.there (.here))))) q5) h))) xa_nil hs_ListComp) q7 (fun _ h => h)) ?_
  obtain rfl := Option.some.inj h
  exact rfl
set_option maxHeartbeats 4000000 in
theorem ok_law_again {f : Addr} {fd : FuncData} (F : Fun K "_law_again" "_law_again" s_law_again f fd) (B : L2.Binds K fd ["runs", "cell"] []) (g : mg "_law_again" = some (.ref f)) (T : Bi mg) (D_law_draws : DefOk P w K mg base "_law_draws" 1 C_law_draws) : DefOk P w K mg base "_law_again" 2 C_law_again := by
  obtain ⟨z_tuple, z_sorted, z_set, z_len, z_range, z_abs, z_int, z_isinstance, z_str, z_all, z_list, z_any, z_sum, z_max⟩ := T
  refine defOk_mk F B g sc_law_again ?_
  intro cdv A outer s H E hr hN nd ii hok
  obtain ⟨runs_p, cell_p, res⟩ := ii
  have h : m_law_again runs_p cell_p = some res := hok
  unfold m_law_again at h
  show XB _ _ [some (.d ((eV eS) runs_p)), some (.d (eI cell_p)), none, none, none, none] _
  obtain ⟨v1, q1, h⟩ := obS h
  refine xb_cons ?_
  refine n_set (d := ((eL eI) v1)) (xd_call D_law_draws hr (i := (cell_p, (4 : Int), v1)) (d := ((eL eI) v1)) (xa_cons (d := (eI cell_p)) (n_var hN (.there (.here))) (xa_cons (d := (eI (4 : Int))) xd_int xa_nil hs_Constant) hs_Name) q1 (fun _ h => h)) hN nd (.there (.there (.here))) ?_
  obtain ⟨again_4, q5, h⟩ := obS h
  refine xb_cons ?_
  refine n_set (d := ((eL eS) again_4)) (XD.o (en := (eL eS)) (v := (List.reverse runs_p)) (xd_listT (xm_vrev (en := eS) (n_var hN (.here))) z_list) q5) hN nd (.there (.there (.there (.here)))) ?_
  obtain ⟨j6, q6, h⟩ := obS h
  have hj6 := h
  refine xb_cut (M := fun e => ∃ s6 : ((List Str)), j6 = Sum.inl s6 ∧ e = [some (.d ((eV eS) runs_p)), some (.d (eI cell_p)), some (.d ((eL eI) v1)), some (.d ((eL eS) s6)), none, none]) (xs_if (b := ((decide ((0 : Int) < (runs_p.length : Int))) && (decide ((runs_p.length : Int) ≤ (8 : Int))))) (XW.t (xw_and (a := (decide ((0 : Int) < (runs_p.length : Int)))) (b := (decide ((runs_p.length : Int) ≤ (8 : Int)))) (q_cmpT hr (d1 := (eI (runs_p.length : Int))) (d2 := (eI (0 : Int))) (xm_vlen (en := eS) (n_var hN (.here)) z_len) xd_int (.of CmpD.gtI)) fun _ => (xw_and1 (q_cmpT hr (d1 := (eI (runs_p.length : Int))) (d2 := (eI (8 : Int))) (xm_vlen (en := eS) (n_var hN (.here)) z_len) xd_int (.of CmpD.leI))))) (fun hc => ?_) (fun hc => ?_)) ?_
  · have h := ifT q6 hc
    obtain ⟨c20, q20, h⟩ := obS h
    refine xb_cut (M := fun e => ∃ s8 : ((List Str)), c20 = Sum.inl s8 ∧ e = [some (.d ((eV eS) runs_p)), some (.d (eI cell_p)), some (.d ((eL eI) v1)), some (.d ((eL eS) s8)), none, none]) (nm_for (s0 := (again_4)) (en := eI) (eR := eN) (js := [4]) (eX := fun s8 y7 => [some (.d ((eV eS) runs_p)), some (.d (eI cell_p)), some (.d ((eL eI) v1)), some (.d ((eL eS) s8)), some (.d (eI y7)), none]) q20 (fun s8 => [some (.d ((eV eS) runs_p)), some (.d (eI cell_p)), some (.d ((eL eI) v1)), some (.d ((eL eS) s8)), none, none]) (it_list (en := eI) (n_var hN (.there (.there (.here))))) (fun s8 y7 => (n_gname hN nd (.there (.there (.there (.there (.here))))))) (fun y7 s8 r h => ?_) (fun s0 hs => ⟨s0, hs, rfl⟩) (fun r0 hs => ?_)) ?_
    · skip
      obtain ⟨v9, q9, h⟩ := obS h
      obtain ⟨v10, q10, h⟩ := obS h
      refine xb_cons ?_
      refine n_set (d := (eS v10)) (xm_vix (en := eS) (xs := runs_p) (n_var hN (.here)) (xm_mod (xd_int1 (n_var hN (.there (.there (.there (.there (.here)))))) z_int) (xm_vlen (en := eS) (n_var hN (.here)) z_len) q9) q10) hN nd (.there (.there (.there (.there (.there (.here)))))) ?_
      obtain ⟨j13, q13, h⟩ := obS h
      have hj13 := h
      refine xb_cut (M := fun e => ∃ s13 : ((List Str)), j13 = Sum.inl s13 ∧ e = [some (.d ((eV eS) runs_p)), some (.d (eI cell_p)), some (.d ((eL eI) v1)), some (.d ((eL eS) s13)), some (.d (eI y7)), some (.d (eS v10))]) (xs_if (b := (decide (((y7 / (80 : Int)) % (2 : Int)) = (0 : Int)))) (q_cmpT hr (d1 := (eI ((y7 / (80 : Int)) % (2 : Int)))) (d2 := (eI (0 : Int))) (xd_mod (xd_div (xd_int1 (n_var hN (.there (.there (.there (.there (.here)))))) z_int) xd_int ⟨by decide, by decide⟩) xd_int (by decide)) xd_int (.of CmpD.eqI)) (fun hc => ?_) (fun hc => ?_)) ?_
      · have h := ifT q13 hc
        obtain ⟨v14, q14, h⟩ := obS h
        refine xb_cons ?_
        refine n_set (d := ((eL eS) v14)) (XL.dat (xm_lcat (en := eS) (XL.dat (xl_lst (ds := [(eS v10)]) (xa_cons (d := (eS v10)) (n_var hN (.there (.there (.there (.there (.there (.here))))))) xa_nil hs_Name) (show (1 : Nat) ≤ sizeLine by decide))) (n_var hN (.there (.there (.there (.here))))) q14)) hN nd (.there (.there (.there (.here)))) ?_
        refine xb_nil ?_
        obtain rfl := Option.some.inj h
        exact ⟨_, rfl, rfl⟩
      · have h := ifF q13 hc
        obtain ⟨v17, q17, h⟩ := obS h
        refine xb_cons ?_
        refine n_set (d := ((eL eS) v17)) (XL.dat (xm_lcat (en := eS) (n_var hN (.there (.there (.there (.here))))) (XL.dat (xl_lst (ds := [(eS v10)]) (xa_cons (d := (eS v10)) (n_var hN (.there (.there (.there (.there (.there (.here))))))) xa_nil hs_Name) (show (1 : Nat) ≤ sizeLine by decide))) q17)) hN nd (.there (.there (.there (.here)))) ?_
        refine xb_nil ?_
        obtain rfl := Option.some.inj h
        exact ⟨_, rfl, rfl⟩
      rintro _ ⟨s13, hs0, rfl⟩
      rw [hs0] at h
      have h := jnI h
      refine xb_fg (.keep (.keep (.keep (.keep (.drop (.drop (Fg.nil))))))) ?_
      refine xb_nil ?_
      obtain rfl := Option.some.inj h
      exact ⟨_, rfl, rfl⟩
    · rw [hs] at h
      exact nomatch (jnR h)
    rintro _ ⟨s20, hs0, rfl⟩
    rw [hs0] at h
    have h := jnI h
    refine xb_nil ?_
    obtain rfl := Option.some.inj h
    exact ⟨_, rfl, rfl⟩
  · have h := ifF q6 hc
    refine xb_nil ?_
    obtain rfl := Option.some.inj h
    exact ⟨_, rfl, rfl⟩
  rintro _ ⟨s6, hs0, rfl⟩
  rw [hs0] at h
  have h := jnI h
  refine xb_cons ?_
  refine xs_ret (d := ((eV eS) s6)) (xd_tupleL (n_var hN (.there (.there (.there (.here))))) z_tuple) ?_
  obtain rfl := Option.some.inj h
  exact rfl
set_option maxHeartbeats 4000000 in
theorem ok_law_ordered {f : Addr} {fd : FuncData} (F : Fun K "_law_ordered" "_law_ordered" s_law_ordered f fd) (B : L2.Binds K fd ["runs"] []) (g : mg "_law_ordered" = some (.ref f)) (T : Bi mg) : DefOk P w K mg base "_law_ordered" 1 C_law_ordered := by
  obtain ⟨z_tuple, z_sorted, z_set, z_len, z_range, z_abs, z_int, z_isinstance, z_str, z_all, z_list, z_any, z_sum, z_max⟩ := T
  refine defOk_mk F B g sc_law_ordered ?_
  intro cdv A outer s H E hr hN nd ii hok
  obtain ⟨runs_p, res⟩ := ii
  have h : m_law_ordered runs_p = some res := hok
  unfold m_law_ordered at h
  show XB _ _ [some (.d ((eV eS) runs_p)), none, none] _
  obtain ⟨v3, q3, h⟩ := obS h
  obtain ⟨v4, q4, h⟩ := obS h
  obtain ⟨v6, q6, h⟩ := obS h
  refine xb_cons ?_
  refine xs_ret (d := ((eL eS) v6)) (XL.dat (nm_comp (S := defScope s_law_ordered) (en := (eP2 eI eS)) (eb := eS) (eX := fun y5 => [some (.d ((eV eS) runs_p)), none, some (.d ((eP2 eI eS) y5))]) [(("pair" : Str), 2)] q6 hN nd (it_list (en := (eP2 eI eS)) (XL.dat (xm_srtSetK kIS hr (XL.dat (nm_comp (S := defScope s_law_ordered) (en := eS) (eb := (eP2 eI eS)) (eX := fun y1 => [some (.d ((eV eS) runs_p)), some (.d (eS y1)), none]) [(("run" : Str), 1)] q3 hN nd (it_tup (en := eS) (n_var hN (.here))) (by decide +kernel) (fun y1 s_ Hb C cl fp => (n_gname hN nd (.there (.here)))) (fun y1 r h s_ Hb C cl fp => by obtain ⟨v2, q2, h⟩ := obS h; exact XD.o (en := (eP2 eI eS)) (v := (v2, y1)) (xd_tup (ds := [(eI v2), (eS y1)]) (xa_cons (d := (eI v2)) (xm_slen (n_var hN (.there (.here))) q2 z_len) (xa_cons (d := (eS y1)) (n_var hN (.there (.here))) xa_nil hs_Name) hs_Call) (show (2 : Nat) ≤ sizeLine by decide)) h))) q4 z_sorted z_set))) (by decide +kernel) (fun y5 s_ Hb C cl fp => (n_gname hN nd (.there (.there (.here))))) (fun y5 r h s_ Hb C cl fp => by exact XD.o (en := eS) (v := y5.2) (xd_ixT (n_var hN (.there (.there (.here)))) xd_int rfl) h))) ?_
  obtain rfl := Option.some.inj h
  exact rfl
set_option maxHeartbeats 4000000 in
theorem ok_law_ordered_1 {f : Addr} {fd : FuncData} (F : Fun K "_law_ordered" "_law_ordered" s_law_ordered f fd) (B : L2.Binds K fd ["runs"] []) (g : mg "_law_ordered" = some (.ref f)) (T : Bi mg) : DefOk P w K mg base "_law_ordered" 1 C_law_ordered_1 := by
  obtain ⟨z_tuple, z_sorted, z_set, z_len, z_range, z_abs, z_int, z_isinstance, z_str, z_all, z_list, z_any, z_sum, z_max⟩ := T
  refine defOk_mk F B g sc_law_ordered ?_
  intro cdv A outer s H E hr hN nd ii hok
  obtain ⟨runs_p, res⟩ := ii
  have h : m_law_ordered_1 runs_p = some res := hok
  unfold m_law_ordered_1 at h
  show XB _ _ [some (.d ((eL eS) runs_p)), none, none] _
  obtain ⟨v3, q3, h⟩ := obS h
  obtain ⟨v4, q4, h⟩ := obS h
  obtain ⟨v6, q6, h⟩ := obS h
  refine xb_cons ?_
  refine xs_ret (d := ((eL eS) v6)) (XL.dat (nm_comp (S := defScope s_law_ordered) (en := (eP2 eI eS)) (eb := eS) (eX := fun y5 => [some (.d ((eL eS) runs_p)), none, some (.d ((eP2 eI eS) y5))]) [(("pair" : Str), 2)] q6 hN nd (it_list (en := (eP2 eI eS)) (XL.dat (xm_srtSetK kIS hr (XL.dat (nm_comp (S := defScope s_law_ordered) (en := eS) (eb := (eP2 eI eS)) (eX := fun y1 => [some (.d ((eL eS) runs_p)), some (.d (eS y1)), none]) [(("run" : Str), 1)] q3 hN nd (it_list (en := eS) (n_var hN (.here))) (by decide +kernel) (fun y1 s_ Hb C cl fp => (n_gname hN nd (.there (.here)))) (fun y1 r h s_ Hb C cl fp => by obtain ⟨v2, q2, h⟩ := obS h; exact XD.o (en := (eP2 eI eS)) (v := (v2, y1)) (xd_tup (ds := [(eI v2), (eS y1)]) (xa_cons (d := (eI v2)) (xm_slen (n_var hN (.there (.here))) q2 z_len) (xa_cons (d := (eS y1)) (n_var hN (.there (.here))) xa_nil hs_Name) hs_Call) (show (2 : Nat) ≤ sizeLine by decide)) h))) q4 z_sorted z_set))) (by decide +kernel) (fun y5 s_ Hb C cl fp => (n_gname hN nd (.there (.there (.here))))) (fun y5 r h s_ Hb C cl fp => by exact XD.o (en := eS) (v := y5.2) (xd_ixT (n_var hN (.there (.there (.here)))) xd_int rfl) h))) ?_
  obtain rfl := Option.some.inj h
  exact rfl
set_option maxHeartbeats 4000000 in
theorem ok_law_beginnings {f : Addr} {fd : FuncData} (F : Fun K "_law_beginnings" "_law_beginnings" s_law_beginnings f fd) (B : L2.Binds K fd ["runs"] []) (g : mg "_law_beginnings" = some (.ref f)) (T : Bi mg) (D_law_ordered_1 : DefOk P w K mg base "_law_ordered" 1 C_law_ordered_1) : DefOk P w K mg base "_law_beginnings" 2 C_law_beginnings := by
  obtain ⟨z_tuple, z_sorted, z_set, z_len, z_range, z_abs, z_int, z_isinstance, z_str, z_all, z_list, z_any, z_sum, z_max⟩ := T
  refine defOk_mk F B g sc_law_beginnings ?_
  intro cdv A outer s H E hr hN nd ii hok
  obtain ⟨runs_p, res⟩ := ii
  have h : m_law_beginnings runs_p = some res := hok
  unfold m_law_beginnings at h
  show XB _ _ [some (.d ((eV eS) runs_p)), none, none, none] _
  obtain ⟨found_1, q2, h⟩ := obS h
  refine xb_cons ?_
  refine n_set (d := ((eL eS) found_1)) (XD.o (en := (eL eS)) (v := ([] : List Str)) (XL.dat (xl_lst (ds := []) xa_nil (show (0 : Nat) ≤ sizeLine by decide))) q2) hN nd (.there (.here)) ?_
  obtain ⟨c13, q13, h⟩ := obS h
  refine xb_cut (M := fun e => ∃ s4 : ((List Str)), c13 = Sum.inl s4 ∧ e = [some (.d ((eV eS) runs_p)), some (.d ((eL eS) s4)), none, none]) (nm_for (s0 := (found_1)) (en := eS) (eR := eN) (js := [2]) (eX := fun s4 y3 => [some (.d ((eV eS) runs_p)), some (.d ((eL eS) s4)), some (.d (eS y3)), none]) q13 (fun s4 => [some (.d ((eV eS) runs_p)), some (.d ((eL eS) s4)), none, none]) (it_tup (en := eS) (n_var hN (.here))) (fun s4 y3 => (n_gname hN nd (.there (.there (.here))))) (fun y3 s4 r h => ?_) (fun s0 hs => ⟨s0, hs, rfl⟩) (fun r0 hs => ?_)) ?_
  · skip
    obtain ⟨v5, q5, h⟩ := obS h
    obtain ⟨v6, q6, h⟩ := obS h
    obtain ⟨v9, q9, h⟩ := obS h
    obtain ⟨v10, q10, h⟩ := obS h
    refine xb_cons ?_
    refine n_set (d := ((eL eS) v10)) (XL.dat (xm_lcat (en := eS) (n_var hN (.there (.here))) (XL.dat (nm_comp (S := defScope s_law_beginnings) (en := eI) (eb := eS) (eX := fun y7 => [some (.d ((eV eS) runs_p)), some (.d ((eL eS) s4)), some (.d (eS y3)), some (.d (eI y7))]) [(("end" : Str), 3)] q9 hN nd (it_rng1 (xd_add (xm_slen (n_var hN (.there (.there (.here)))) q5 z_len) xd_int) q6 z_range) (by decide +kernel) (fun y7 s_ Hb C cl fp => (n_gname hN nd (.there (.there (.there (.here)))))) (fun y7 r h s_ Hb C cl fp => by obtain ⟨v8, q8, h⟩ := obS h; exact XD.o (en := eS) (v := v8) (xm_scut (n_var hN (.there (.there (.here)))) xo_none (xo_some (n_var hN (.there (.there (.there (.here)))))) q8) h))) q10)) hN nd (.there (.here)) ?_
    refine xb_fg (.keep (.keep (.drop (.keep (Fg.nil))))) ?_
    refine xb_nil ?_
    obtain rfl := Option.some.inj h
    exact ⟨_, rfl, rfl⟩
  · rw [hs] at h
    exact nomatch (jnR h)
  rintro _ ⟨s13, hs0, rfl⟩
  rw [hs0] at h
  have h := jnI h
  obtain ⟨v14, q14, h⟩ := obS h
  refine xb_cons ?_
  refine xs_ret (d := ((eL eS) v14)) (xd_call D_law_ordered_1 hr (i := (s13, v14)) (d := ((eL eS) v14)) (xa_cons (d := ((eL eS) s13)) (n_var hN (.there (.here))) xa_nil hs_Name) q14 (fun _ h => h)) ?_
  obtain rfl := Option.some.inj h
  exact rfl
set_option maxHeartbeats 4000000 in
theorem ok_law {f : Addr} {fd : FuncData} (F : Fun K "law" "law" s_law f fd) (HL : ∀ ns : List Int, ns.length ≤ 63 → m_law ns = some true) (T : Bi mg) (D_law_passed : DefOk P w K mg base "_law_passed" 4 C_law_passed) (D_in_order : DefOk P w K mg base "in_order" 1 C_in_order) (D_law_is_runs : DefOk P w K mg base "_law_is_runs" 2 C_law_is_runs) (D_law_rising : DefOk P w K mg base "_law_rising" 1 C_law_rising) (D_beginnings : DefOk P w K mg base "beginnings" 2 C_beginnings) (D_law_cell : DefOk P w K mg base "_law_cell" 1 C_law_cell) (D_law_again : DefOk P w K mg base "_law_again" 2 C_law_again) (D_law_runs : DefOk P w K mg base "_law_runs" 2 C_law_runs) (D_law_ordered : DefOk P w K mg base "_law_ordered" 1 C_law_ordered) (D_law_beginnings : DefOk P w K mg base "_law_beginnings" 2 C_law_beginnings) : FnOk P w K mg base CX0 5 f fd ["script"] (SpD ⟨K, w⟩ FR.C_law) := by
  obtain ⟨z_tuple, z_sorted, z_set, z_len, z_range, z_abs, z_int, z_isinstance, z_str, z_all, z_list, z_any, z_sum, z_max⟩ := T
  have D_in_order := D_in_order.mono (k := 4) (by decide)
  have D_law_is_runs := D_law_is_runs.mono (k := 4) (by decide)
  have D_law_rising := D_law_rising.mono (k := 4) (by decide)
  have D_beginnings := D_beginnings.mono (k := 4) (by decide)
  have D_law_cell := D_law_cell.mono (k := 4) (by decide)
  have D_law_again := D_law_again.mono (k := 4) (by decide)
  have D_law_runs := D_law_runs.mono (k := 4) (by decide)
  have D_law_ordered := D_law_ordered.mono (k := 4) (by decide)
  have D_law_beginnings := D_law_beginnings.mono (k := 4) (by decide)
  refine lawOk_mk F sc_law ?_
  intro cdv A outer s H E hr hN nd ii hok
  obtain ⟨script_p, res, hres, h⟩ : ∃ (ns : List Int) (res : Bool), (ns = ii ∧ res = true) ∧ m_law ns = some res := ⟨ii, true, ⟨rfl, rfl⟩, HL ii hok⟩
  obtain ⟨rfl, hres⟩ := hres
  unfold m_law at h
  show XB _ _ [some (.d ((eL eI) script_p)), none, none, none, none, none, none, none, none, none] _
  obtain ⟨v1, q1, h⟩ := obS h
  refine xb_cons ?_
  refine n_set (d := ((eV eS) v1)) (xd_call D_law_passed hr (i := (script_p, v1)) (d := ((eV eS) v1)) (xa_cons (d := ((eL eI) script_p)) (n_var hN (.here)) xa_nil hs_Name) q1 (fun _ h => h)) hN nd (.there (.here)) ?_
  obtain ⟨v4, q4, h⟩ := obS h
  refine xb_cons ?_
  refine n_set (d := ((eV eS) v4)) (xd_call D_in_order hr (i := (v1, v4)) (d := ((eV eS) v4)) (xa_cons (d := ((eV eS) v1)) (n_var hN (.there (.here))) xa_nil hs_Name) q4 (fun _ h => h)) hN nd (.there (.there (.here))) ?_
  obtain ⟨v7, q7, h⟩ := obS h
  obtain ⟨v9, q9, h⟩ := obS h
  refine xb_cons ?_
  refine xs_if (b := v9) (XW.t (xw_orM (a := (!v7)) (xt_not (xt_val (xd_call D_law_is_runs hr (i := (v4, v7)) (d := (eB v7)) (xa_cons (d := ((eV eS) v4)) (n_var hN (.there (.there (.here)))) xa_nil hs_Name) q7 (fun _ h => h)))) (fun hc b' h => by obtain ⟨v8, q8, h⟩ := obS h; obtain rfl := Option.some.inj h; exact (xw_or1 (xt_not (xt_val (xd_call D_law_rising hr (i := (v4, v8)) (d := (eB v8)) (xa_cons (d := ((eV eS) v4)) (n_var hN (.there (.there (.here)))) xa_nil hs_Name) q8 (fun _ h => h)))))) q9)) (fun hc => ?_) (fun hc => ?_)
  · have h := ifT h hc
    refine xb_cons ?_
    refine xs_ret (d := (eB false)) xd_bl ?_
    obtain rfl := Option.some.inj h
    exact congrArg PyData.bool hres
  · have h := ifF h hc
    refine xb_nil ?_
    obtain ⟨v11, q11, h⟩ := obS h
    obtain ⟨v14, q14, h⟩ := obS h
    refine xb_cons ?_
    refine xs_if (b := v14) (XW.t (xw_orM (a := (!(v11.all id))) (xt_not (xt_val (xd_all (bs := v11) (XL.dat (nm_comp (S := defScope s_law) (en := eS) (eb := eB) (eX := fun y10 => [some (.d ((eL eI) script_p)), some (.d ((eV eS) v1)), some (.d ((eV eS) v4)), some (.d (eS y10)), none, none, none, none, none, none]) [(("run" : Str), 3)] q11 hN nd (it_tup (en := eS) (n_var hN (.there (.here)))) (by decide +kernel) (fun y10 s_ Hb C cl fp => (n_gname hN nd (.there (.there (.there (.here)))))) (fun y10 r h s_ Hb C cl fp => by exact XD.o (en := eB) (v := (decide (y10 ∈ v4))) (q_cmp hr (d1 := (eS y10)) (d2 := ((eV eS) v4)) (n_var hN (.there (.there (.there (.here))))) (n_var hN (.there (.there (.here)))) cq_inVS) h))) z_all))) (fun hc b' h => by obtain ⟨v13, q13, h⟩ := obS h; obtain rfl := Option.some.inj h; exact (xw_or1 (xt_not (xt_val (xd_all (bs := v13) (XL.dat (nm_comp (S := defScope s_law) (en := eS) (eb := eB) (eX := fun y12 => [some (.d ((eL eI) script_p)), some (.d ((eV eS) v1)), some (.d ((eV eS) v4)), some (.d (eS y12)), none, none, none, none, none, none]) [(("run" : Str), 3)] q13 hN nd (it_tup (en := eS) (n_var hN (.there (.there (.here))))) (by decide +kernel) (fun y12 s_ Hb C cl fp => (n_gname hN nd (.there (.there (.there (.here)))))) (fun y12 r h s_ Hb C cl fp => by exact XD.o (en := eB) (v := (decide (y12 ∈ v1))) (q_cmp hr (d1 := (eS y12)) (d2 := ((eV eS) v1)) (n_var hN (.there (.there (.there (.here))))) (n_var hN (.there (.here))) cq_inVS) h))) z_all))))) q14)) (fun hc => ?_) (fun hc => ?_)
    · have h := ifT h hc
      refine xb_cons ?_
      refine xs_ret (d := (eB false)) xd_bl ?_
      obtain rfl := Option.some.inj h
      exact congrArg PyData.bool hres
    · have h := ifF h hc
      refine xb_nil ?_
      obtain ⟨v15, q15, h⟩ := obS h
      refine xb_cons ?_
      refine n_set (d := ((eV eS) v15)) (xd_call D_beginnings hr (i := (v1, v15)) (d := ((eV eS) v15)) (xa_cons (d := ((eV eS) v1)) (n_var hN (.there (.here))) xa_nil hs_Name) q15 (fun _ h => h)) hN nd (.there (.there (.there (.there (.here))))) ?_
      obtain ⟨v18, q18, h⟩ := obS h
      obtain ⟨v20, q20, h⟩ := obS h
      refine xb_cons ?_
      refine xs_if (b := v20) (XW.t (xw_orM (a := (!v18)) (xt_not (xt_val (xd_call D_law_is_runs hr (i := (v15, v18)) (d := (eB v18)) (xa_cons (d := ((eV eS) v15)) (n_var hN (.there (.there (.there (.there (.here)))))) xa_nil hs_Name) q18 (fun _ h => h)))) (fun hc b' h => by obtain ⟨v19, q19, h⟩ := obS h; obtain rfl := Option.some.inj h; exact (xw_or1 (xt_not (xt_val (xd_call D_law_rising hr (i := (v15, v19)) (d := (eB v19)) (xa_cons (d := ((eV eS) v15)) (n_var hN (.there (.there (.there (.there (.here)))))) xa_nil hs_Name) q19 (fun _ h => h)))))) q20)) (fun hc => ?_) (fun hc => ?_)
      · have h := ifT h hc
        refine xb_cons ?_
        refine xs_ret (d := (eB false)) xd_bl ?_
        obtain rfl := Option.some.inj h
        exact congrArg PyData.bool hres
      · have h := ifF h hc
        refine xb_nil ?_
        obtain ⟨c28, q28, h⟩ := obS h
        refine xb_cut (M := fun e => ∃ s22 : Unit, c28 = Sum.inl s22 ∧ e = [some (.d ((eL eI) script_p)), some (.d ((eV eS) v1)), some (.d ((eV eS) v4)), none, some (.d ((eV eS) v15)), none, none, none, none, none]) (nm_for (s0 := ()) (en := eS) (eR := eB) (js := [3]) (eX := fun s22 y21 => [some (.d ((eL eI) script_p)), some (.d ((eV eS) v1)), some (.d ((eV eS) v4)), some (.d (eS y21)), some (.d ((eV eS) v15)), none, none, none, none, none]) q28 (fun s22 => [some (.d ((eL eI) script_p)), some (.d ((eV eS) v1)), some (.d ((eV eS) v4)), none, some (.d ((eV eS) v15)), none, none, none, none, none]) (it_tup (en := eS) (n_var hN (.there (.here)))) (fun s22 y21 => (n_gname hN nd (.there (.there (.there (.here)))))) (fun y21 s22 r h => ?_) (fun s0 hs => ⟨s0, hs, rfl⟩) (fun r0 hs => ?_)) ?_
        · skip
          obtain ⟨v23, q23, h⟩ := obS h
          obtain ⟨v24, q24, h⟩ := obS h
          obtain ⟨v27, q27, h⟩ := obS h
          refine xb_cons ?_
          refine xs_if (b := (!(v27.all id))) (xt_not (xt_val (xd_all (bs := v27) (XL.dat (nm_comp (S := defScope s_law) (en := eI) (eb := eB) (eX := fun y25 => [some (.d ((eL eI) script_p)), some (.d ((eV eS) v1)), some (.d ((eV eS) v4)), some (.d (eS y21)), some (.d ((eV eS) v15)), none, none, none, none, some (.d (eI y25))]) [(("end" : Str), 9)] q27 hN nd (it_rng1 (xd_add (xm_slen (n_var hN (.there (.there (.there (.here))))) q23 z_len) xd_int) q24 z_range) (by decide +kernel) (fun y25 s_ Hb C cl fp => (n_gname hN nd (.there (.there (.there (.there (.there (.there (.there (.there (.there (.here)))))))))))) (fun y25 r h s_ Hb C cl fp => by obtain ⟨v26, q26, h⟩ := obS h; exact XD.o (en := eB) (v := (decide (v26 ∈ v15))) (q_cmp hr (d1 := (eS v26)) (d2 := ((eV eS) v15)) (xm_scut (n_var hN (.there (.there (.there (.here))))) xo_none (xo_some (n_var hN (.there (.there (.there (.there (.there (.there (.there (.there (.there (.here)))))))))))) q26) (n_var hN (.there (.there (.there (.there (.here)))))) cq_inVS) h))) z_all))) (fun hc => ?_) (fun hc => ?_)
          · have h := ifT h hc
            refine xb_cons ?_
            refine xs_ret (d := (eB false)) xd_bl ?_
            obtain rfl := Option.some.inj h
            exact ⟨_, rfl, rfl⟩
          · have h := ifF h hc
            refine xb_nil ?_
            refine xb_fg (.keep (.keep (.keep (.drop (.keep (.keep (.keep (.keep (.keep (.keep (Fg.nil))))))))))) ?_
            refine xb_nil ?_
            obtain rfl := Option.some.inj h
            exact ⟨_, rfl, rfl⟩
        · rw [hs] at h
          have h := jnR h
          obtain rfl := Option.some.inj h
          exact congrArg PyData.bool hres
        rintro _ ⟨s28, hs0, rfl⟩
        rw [hs0] at h
        have h := jnI h
        obtain ⟨c35, q35, h⟩ := obS h
        refine xb_cut (M := fun e => ∃ s30 : Unit, c35 = Sum.inl s30 ∧ e = [some (.d ((eL eI) script_p)), some (.d ((eV eS) v1)), some (.d ((eV eS) v4)), none, some (.d ((eV eS) v15)), none, none, none, none, none]) (nm_for (s0 := ()) (en := eS) (eR := eB) (js := [5]) (eX := fun s30 y29 => [some (.d ((eL eI) script_p)), some (.d ((eV eS) v1)), some (.d ((eV eS) v4)), none, some (.d ((eV eS) v15)), some (.d (eS y29)), none, none, none, none]) q35 (fun s30 => [some (.d ((eL eI) script_p)), some (.d ((eV eS) v1)), some (.d ((eV eS) v4)), none, some (.d ((eV eS) v15)), none, none, none, none, none]) (it_tup (en := eS) (n_var hN (.there (.there (.there (.there (.here))))))) (fun s30 y29 => (n_gname hN nd (.there (.there (.there (.there (.there (.here)))))))) (fun y29 s30 r h => ?_) (fun s0 hs => ⟨s0, hs, rfl⟩) (fun r0 hs => ?_)) ?_
        · skip
          obtain ⟨v34, q34, h⟩ := obS h
          refine xb_cons ?_
          refine xs_if (b := (!(v34.any id))) (xt_not (xt_val (xd_any (bs := v34) (XL.dat (nm_comp (S := defScope s_law) (en := eS) (eb := eB) (eX := fun y31 => [some (.d ((eL eI) script_p)), some (.d ((eV eS) v1)), some (.d ((eV eS) v4)), some (.d (eS y31)), some (.d ((eV eS) v15)), some (.d (eS y29)), none, none, none, none]) [(("run" : Str), 3)] q34 hN nd (it_tup (en := eS) (n_var hN (.there (.here)))) (by decide +kernel) (fun y31 s_ Hb C cl fp => (n_gname hN nd (.there (.there (.there (.here)))))) (fun y31 r h s_ Hb C cl fp => by obtain ⟨v32, q32, h⟩ := obS h; obtain ⟨v33, q33, h⟩ := obS h; exact XD.o (en := eB) (v := (decide (v33 = y29))) (q_cmp hr (d1 := (eS v33)) (d2 := (eS y29)) (xm_scut (n_var hN (.there (.there (.there (.here))))) xo_none (xo_some (xm_slen (n_var hN (.there (.there (.there (.there (.there (.here))))))) q32 z_len)) q33) (n_var hN (.there (.there (.there (.there (.there (.here))))))) (.of CmpD.eqS)) h))) z_any))) (fun hc => ?_) (fun hc => ?_)
          · have h := ifT h hc
            refine xb_cons ?_
            refine xs_ret (d := (eB false)) xd_bl ?_
            obtain rfl := Option.some.inj h
            exact ⟨_, rfl, rfl⟩
          · have h := ifF h hc
            refine xb_nil ?_
            refine xb_fg (.keep (.keep (.keep (.keep (.keep (.drop (.keep (.keep (.keep (.keep (Fg.nil))))))))))) ?_
            refine xb_nil ?_
            obtain rfl := Option.some.inj h
            exact ⟨_, rfl, rfl⟩
        · rw [hs] at h
          have h := jnR h
          obtain rfl := Option.some.inj h
          exact congrArg PyData.bool hres
        rintro _ ⟨s35, hs0, rfl⟩
        rw [hs0] at h
        have h := jnI h
        obtain ⟨again_36, q37, h⟩ := obS h
        refine xb_cons ?_
        refine n_set (d := ((eV eS) again_36)) (XD.o (en := (eV eS)) (v := (List.reverse v1)) (xm_vrev (en := eS) (n_var hN (.there (.here)))) q37) hN nd (.there (.there (.there (.there (.there (.there (.here))))))) ?_
        obtain ⟨v40, q40, h⟩ := obS h
        obtain ⟨v46, q46, h⟩ := obS h
        obtain ⟨j47, q47, h⟩ := obS h
        have hj47 := h
        refine xb_cut (M := fun e => ∃ s47 : ((List Str)), j47 = Sum.inl s47 ∧ e = [some (.d ((eL eI) script_p)), some (.d ((eV eS) v1)), some (.d ((eV eS) v4)), none, some (.d ((eV eS) v15)), none, some (.d ((eV eS) s47)), none, none, none]) (xs_if (b := v46) (XW.t (xw_andM (a := (decide ((v40.sum) ≤ (64 : Int)))) (q_cmpT hr (d1 := (eI (v40.sum))) (d2 := (eI (64 : Int))) (xd_sum (ns := v40) (XL.dat (nm_comp (S := defScope s_law) (en := eS) (eb := eI) (eX := fun y38 => [some (.d ((eL eI) script_p)), some (.d ((eV eS) v1)), some (.d ((eV eS) v4)), some (.d (eS y38)), some (.d ((eV eS) v15)), none, some (.d ((eV eS) again_36)), none, none, none]) [(("run" : Str), 3)] q40 hN nd (it_tup (en := eS) (n_var hN (.there (.here)))) (by decide +kernel) (fun y38 s_ Hb C cl fp => (n_gname hN nd (.there (.there (.there (.here)))))) (fun y38 r h s_ Hb C cl fp => by obtain ⟨v39, q39, h⟩ := obS h; exact XD.o (en := eI) (v := v39) (xm_slen (n_var hN (.there (.there (.there (.here))))) q39 z_len) h))) z_sum) xd_int (.of CmpD.leI)) (fun hc b' h => by obtain ⟨v43, q43, h⟩ := obS h; obtain ⟨v44, q44, h⟩ := obS h; obtain ⟨v45, q45, h⟩ := obS h; obtain rfl := Option.some.inj h; exact (xw_and1 (q_cmpT hr (d1 := (eI v45)) (d2 := (eI (34 : Int))) (xm_maxL (XL.dat (xm_lcat (en := eI) (XL.dat (xl_lst (ds := [(eI (0 : Int))]) (xa_cons (d := (eI (0 : Int))) xd_int xa_nil hs_Constant) (show (1 : Nat) ≤ sizeLine by decide))) (XL.dat (nm_comp (S := defScope s_law) (en := eS) (eb := eI) (eX := fun y41 => [some (.d ((eL eI) script_p)), some (.d ((eV eS) v1)), some (.d ((eV eS) v4)), some (.d (eS y41)), some (.d ((eV eS) v15)), none, some (.d ((eV eS) again_36)), none, none, none]) [(("run" : Str), 3)] q43 hN nd (it_tup (en := eS) (n_var hN (.there (.here)))) (by decide +kernel) (fun y41 s_ Hb C cl fp => (n_gname hN nd (.there (.there (.there (.here)))))) (fun y41 r h s_ Hb C cl fp => by obtain ⟨v42, q42, h⟩ := obS h; exact XD.o (en := eI) (v := v42) (xm_slen (n_var hN (.there (.there (.there (.here))))) q42 z_len) h))) q44)) q45 z_max) xd_int (.of CmpD.leI)))) q46)) (fun hc => ?_) (fun hc => ?_)) ?_
        · have h := ifT q47 hc
          obtain ⟨v48, q48, h⟩ := obS h
          obtain ⟨v49, q49, h⟩ := obS h
          refine xb_cons ?_
          refine n_set (d := ((eV eS) v49)) (xd_call D_law_again hr (i := (v1, v48, v49)) (d := ((eV eS) v49)) (xa_cons (d := ((eV eS) v1)) (n_var hN (.there (.here))) (xa_cons (d := (eI v48)) (xd_call D_law_cell hr (i := (script_p, (2 : Int), v48)) (d := (eI v48)) (xa_cons (d := ((eL eI) script_p)) (n_var hN (.here)) (xa_cons (d := (eI (2 : Int))) xd_int xa_nil hs_Constant) hs_Name) q48 (fun _ h => h)) xa_nil hs_Call) hs_Name) q49 (fun _ h => h)) hN nd (.there (.there (.there (.there (.there (.there (.here))))))) ?_
          refine xb_nil ?_
          obtain rfl := Option.some.inj h
          exact ⟨_, rfl, rfl⟩
        · have h := ifF q47 hc
          refine xb_nil ?_
          obtain rfl := Option.some.inj h
          exact ⟨_, rfl, rfl⟩
        rintro _ ⟨s47, hs0, rfl⟩
        rw [hs0] at h
        have h := jnI h
        obtain ⟨v52, q52, h⟩ := obS h
        obtain ⟨v53, q53, h⟩ := obS h
        obtain ⟨v59, q59, h⟩ := obS h
        refine xb_cons ?_
        refine xs_if (b := v59) (XW.t (xw_orM (a := (!v53)) (q_cmpT hr (d1 := ((eV eS) v52)) (d2 := ((eV eS) v4)) (xd_call D_in_order hr (i := (s47, v52)) (d := ((eV eS) v52)) (xa_cons (d := ((eV eS) s47)) (n_var hN (.there (.there (.there (.there (.there (.there (.here)))))))) xa_nil hs_Name) q52 (fun _ h => h)) (n_var hN (.there (.there (.here)))) (.ne q53)) (fun hc b' h => by obtain ⟨v54, q54, h⟩ := obS h; obtain ⟨v55, q55, h⟩ := obS h; obtain ⟨v58, q58, h⟩ := obS h; obtain rfl := Option.some.inj h; exact (xw_orM (a := (!v55)) (q_cmpT hr (d1 := ((eV eS) v54)) (d2 := ((eV eS) v15)) (xd_call D_beginnings hr (i := (s47, v54)) (d := ((eV eS) v54)) (xa_cons (d := ((eV eS) s47)) (n_var hN (.there (.there (.there (.there (.there (.there (.here)))))))) xa_nil hs_Name) q54 (fun _ h => h)) (n_var hN (.there (.there (.there (.there (.here)))))) (.ne q55)) (fun hc b' h => by obtain ⟨v56, q56, h⟩ := obS h; obtain ⟨v57, q57, h⟩ := obS h; obtain rfl := Option.some.inj h; exact (xw_or1 (q_cmpT hr (d1 := ((eV eS) v56)) (d2 := ((eV eS) v4)) (xd_call D_in_order hr (i := (v4, v56)) (d := ((eV eS) v56)) (xa_cons (d := ((eV eS) v4)) (n_var hN (.there (.there (.here)))) xa_nil hs_Name) q56 (fun _ h => h)) (n_var hN (.there (.there (.here)))) (.ne q57)))) q58)) q59)) (fun hc => ?_) (fun hc => ?_)
        · have h := ifT h hc
          refine xb_cons ?_
          refine xs_ret (d := (eB false)) xd_bl ?_
          obtain rfl := Option.some.inj h
          exact congrArg PyData.bool hres
        · have h := ifF h hc
          refine xb_nil ?_
          obtain ⟨v60, q60, h⟩ := obS h
          obtain ⟨v61, q61, h⟩ := obS h
          refine xb_cons ?_
          refine n_set (d := ((eV eS) v61)) (xd_call D_law_runs hr (i := (v60, ([("a" : Str), ("z" : Str)] : List Str), (3 : Int), (4 : Int), v61)) (d := ((eV eS) v61)) (xa_cons (d := (eI v60)) (xd_call D_law_cell hr (i := (script_p, (3 : Int), v60)) (d := (eI v60)) (xa_cons (d := ((eL eI) script_p)) (n_var hN (.here)) (xa_cons (d := (eI (3 : Int))) xd_int xa_nil hs_Constant) hs_Name) q60 (fun _ h => h)) (xa_cons (d := ((eL eS) ([("a" : Str), ("z" : Str)] : List Str))) (XL.dat (xl_lst (ds := [(eS ("a" : Str)), (eS ("z" : Str))]) (xa_cons (d := (eS ("a" : Str))) xd_str (xa_cons (d := (eS ("z" : Str))) xd_str xa_nil hs_Constant) hs_Constant) (show (2 : Nat) ≤ sizeLine by decide))) (xa_cons (d := (eI (3 : Int))) xd_int (xa_cons (d := (eI (4 : Int))) xd_int xa_nil hs_Constant) hs_Constant) hs_List) hs_Call) q61 (fun _ h => h)) hN nd (.there (.there (.there (.there (.there (.there (.there (.here)))))))) ?_
          obtain ⟨v64, q64, h⟩ := obS h
          refine xb_cons ?_
          refine n_set (d := ((eL eS) v64)) (xd_call D_law_ordered hr (i := (v61, v64)) (d := ((eL eS) v64)) (xa_cons (d := ((eV eS) v61)) (n_var hN (.there (.there (.there (.there (.there (.there (.there (.here))))))))) xa_nil hs_Name) q64 (fun _ h => h)) hN nd (.there (.there (.there (.there (.there (.there (.there (.there (.here))))))))) ?_
          obtain ⟨v67, q67, h⟩ := obS h
          obtain ⟨v68, q68, h⟩ := obS h
          obtain ⟨v72, q72, h⟩ := obS h
          refine xb_cons ?_
          refine xs_if (b := v72) (XW.t (xw_orM (a := (!v68)) (q_cmpT hr (d1 := ((eL eS) v67)) (d2 := ((eL eS) v64)) (xd_listT (xd_call D_in_order hr (i := (v61, v67)) (d := ((eV eS) v67)) (xa_cons (d := ((eV eS) v61)) (n_var hN (.there (.there (.there (.there (.there (.there (.there (.here))))))))) xa_nil hs_Name) q67 (fun _ h => h)) z_list) (n_var hN (.there (.there (.there (.there (.there (.there (.there (.there (.here)))))))))) (.ne q68)) (fun hc b' h => by obtain ⟨v69, q69, h⟩ := obS h; obtain ⟨v70, q70, h⟩ := obS h; obtain ⟨v71, q71, h⟩ := obS h; obtain rfl := Option.some.inj h; exact (xw_or1 (q_cmpT hr (d1 := ((eL eS) v69)) (d2 := ((eL eS) v70)) (xd_listT (xd_call D_beginnings hr (i := (v61, v69)) (d := ((eV eS) v69)) (xa_cons (d := ((eV eS) v61)) (n_var hN (.there (.there (.there (.there (.there (.there (.there (.here))))))))) xa_nil hs_Name) q69 (fun _ h => h)) z_list) (xd_call D_law_beginnings hr (i := (v61, v70)) (d := ((eL eS) v70)) (xa_cons (d := ((eV eS) v61)) (n_var hN (.there (.there (.there (.there (.there (.there (.there (.here))))))))) xa_nil hs_Name) q70 (fun _ h => h)) (.ne q71)))) q72)) (fun hc => ?_) (fun hc => ?_)
          · have h := ifT h hc
            refine xb_cons ?_
            refine xs_ret (d := (eB false)) xd_bl ?_
            obtain rfl := Option.some.inj h
            exact congrArg PyData.bool hres
          · have h := ifF h hc
            refine xb_nil ?_
            obtain ⟨v73, q73, h⟩ := obS h
            obtain ⟨v74, q74, h⟩ := obS h
            obtain ⟨v77, q77, h⟩ := obS h
            refine xb_cons ?_
            refine xs_ret (d := (eB v77)) (xd_andM (a := v74) (q_cmp hr (d1 := ((eV eS) v73)) (d2 := ((eV eS) v4)) (xd_call D_in_order hr (i := (v1, v73)) (d := ((eV eS) v73)) (xa_cons (d := ((eV eS) v1)) (n_var hN (.there (.here))) xa_nil hs_Name) q73 (fun _ h => h)) (n_var hN (.there (.there (.here)))) (.eq q74)) (fun hc b' h => by obtain ⟨v75, q75, h⟩ := obS h; obtain ⟨v76, q76, h⟩ := obS h; obtain rfl := Option.some.inj h; exact (xd_one (q_cmp hr (d1 := ((eV eS) v75)) (d2 := ((eV eS) v15)) (xd_call D_beginnings hr (i := (v1, v75)) (d := ((eV eS) v75)) (xa_cons (d := ((eV eS) v1)) (n_var hN (.there (.here))) xa_nil hs_Name) q75 (fun _ h => h)) (n_var hN (.there (.there (.there (.there (.here)))))) (.eq q76)))) q77) ?_
            obtain rfl := Option.some.inj h
            exact congrArg PyData.bool hres
end
theorem all_mk {l : PySem.W.OpenLaw} {w : World} {K : PySem.W.Frag} {h : Heap} {mg : Str → Option Value} {fa f0 f1 f2 f3 f4 f5 f6 f7 f8 f9 f10 f11 f12 f13 f14 f15 f16 f17 : Addr} (X : K.In h) (G : h.Ns mainGlobals mg) (hfa : mg "law" = some (.ref fa))
    {od0 an0 od1 an1 od2 an2 od3 an3 od4 an4 od5 an5 od6 an6 od7 an7 od8 an8 od9 an9 od10 an10 od11 an11 od12 an12 od13 an13 od14 an14 od15 an15 od16 an16 od17 an17 : Option Addr} {sl0 sl1 sl2 sl3 sl4 sl5 sl6 sl7 sl8 sl9 sl10 sl11 sl12 sl13 sl14 sl15 sl16 sl17 : Array (Option Value)} {oc0 kV0 dc0 pm0 cd0 ct0 oc1 kV1 dc1 pm1 cd1 ct1 oc2 kV2 dc2 pm2 cd2 ct2 oc3 kV3 dc3 pm3 cd3 ct3 oc4 kV4 dc4 pm4 cd4 ct4 oc5 kV5 dc5 pm5 cd5 ct5 oc6 kV6 dc6 pm6 cd6 ct6 oc7 kV7 dc7 pm7 cd7 ct7 oc8 kV8 dc8 pm8 cd8 ct8 oc9 kV9 dc9 pm9 cd9 ct9 oc10 kV10 dc10 pm10 cd10 ct10 oc11 kV11 dc11 pm11 cd11 ct11 oc12 kV12 dc12 pm12 cd12 ct12 oc13 kV13 dc13 pm13 cd13 ct13 oc14 kV14 dc14 pm14 cd14 ct14 oc15 kV15 dc15 pm15 cd15 ct15 oc16 kV16 dc16 pm16 cd16 ct16 oc17 kV17 dc17 pm17 cd17 ct17 : Value}
    (a0 : PySem.W.nsIn K mainGlobals "_law_cell" = some (some (.ref f0))) (l0 : K.lookup f0 = some ⟨oc0, od0, .func (PySem.W.fnOf "_law_cell" "_law_cell" (defArgs s_law_cell) (defBody s_law_cell) (defScope s_law_cell) .none kV0 dc0 pm0 an0 cd0 ct0), sl0⟩) (c0 : PySem.W.codeIn K cd0 "_law_cell" = true) (k0 : PySem.W.keepIn K (.ref f0) = true)
    (a1 : PySem.W.nsIn K mainGlobals "_law_draws" = some (some (.ref f1))) (l1 : K.lookup f1 = some ⟨oc1, od1, .func (PySem.W.fnOf "_law_draws" "_law_draws" (defArgs s_law_draws) (defBody s_law_draws) (defScope s_law_draws) .none kV1 dc1 pm1 an1 cd1 ct1), sl1⟩) (c1 : PySem.W.codeIn K cd1 "_law_draws" = true) (k1 : PySem.W.keepIn K (.ref f1) = true)
    (a2 : PySem.W.nsIn K mainGlobals "_law_letters" = some (some (.ref f2))) (l2 : K.lookup f2 = some ⟨oc2, od2, .func (PySem.W.fnOf "_law_letters" "_law_letters" (defArgs s_law_letters) (defBody s_law_letters) (defScope s_law_letters) .none kV2 dc2 pm2 an2 cd2 ct2), sl2⟩) (c2 : PySem.W.codeIn K cd2 "_law_letters" = true) (k2 : PySem.W.keepIn K (.ref f2) = true)
    (a3 : PySem.W.nsIn K mainGlobals "_law_word" = some (some (.ref f3))) (l3 : K.lookup f3 = some ⟨oc3, od3, .func (PySem.W.fnOf "_law_word" "_law_word" (defArgs s_law_word) (defBody s_law_word) (defScope s_law_word) .none kV3 dc3 pm3 an3 cd3 ct3), sl3⟩) (c3 : PySem.W.codeIn K cd3 "_law_word" = true) (k3 : PySem.W.keepIn K (.ref f3) = true)
    (a4 : PySem.W.nsIn K mainGlobals "_law_fit" = some (some (.ref f4))) (l4 : K.lookup f4 = some ⟨oc4, od4, .func (PySem.W.fnOf "_law_fit" "_law_fit" (defArgs s_law_fit) (defBody s_law_fit) (defScope s_law_fit) .none kV4 dc4 pm4 an4 cd4 ct4), sl4⟩) (c4 : PySem.W.codeIn K cd4 "_law_fit" = true) (k4 : PySem.W.keepIn K (.ref f4) = true)
    (a5 : PySem.W.nsIn K mainGlobals "_law_long_runs" = some (some (.ref f5))) (l5 : K.lookup f5 = some ⟨oc5, od5, .func (PySem.W.fnOf "_law_long_runs" "_law_long_runs" (defArgs s_law_long_runs) (defBody s_law_long_runs) (defScope s_law_long_runs) .none kV5 dc5 pm5 an5 cd5 ct5), sl5⟩) (c5 : PySem.W.codeIn K cd5 "_law_long_runs" = true) (k5 : PySem.W.keepIn K (.ref f5) = true)
    (a6 : PySem.W.nsIn K mainGlobals "_law_great_runs" = some (some (.ref f6))) (l6 : K.lookup f6 = some ⟨oc6, od6, .func (PySem.W.fnOf "_law_great_runs" "_law_great_runs" (defArgs s_law_great_runs) (defBody s_law_great_runs) (defScope s_law_great_runs) .none kV6 dc6 pm6 an6 cd6 ct6), sl6⟩) (c6 : PySem.W.codeIn K cd6 "_law_great_runs" = true) (k6 : PySem.W.keepIn K (.ref f6) = true)
    (a7 : PySem.W.nsIn K mainGlobals "_law_runs" = some (some (.ref f7))) (l7 : K.lookup f7 = some ⟨oc7, od7, .func (PySem.W.fnOf "_law_runs" "_law_runs" (defArgs s_law_runs) (defBody s_law_runs) (defScope s_law_runs) .none kV7 dc7 pm7 an7 cd7 ct7), sl7⟩) (c7 : PySem.W.codeIn K cd7 "_law_runs" = true) (k7 : PySem.W.keepIn K (.ref f7) = true)
    (a8 : PySem.W.nsIn K mainGlobals "_law_passed" = some (some (.ref f8))) (l8 : K.lookup f8 = some ⟨oc8, od8, .func (PySem.W.fnOf "_law_passed" "_law_passed" (defArgs s_law_passed) (defBody s_law_passed) (defScope s_law_passed) .none kV8 dc8 pm8 an8 cd8 ct8), sl8⟩) (c8 : PySem.W.codeIn K cd8 "_law_passed" = true) (k8 : PySem.W.keepIn K (.ref f8) = true)
    (a9 : PySem.W.nsIn K mainGlobals "in_order" = some (some (.ref f9))) (l9 : K.lookup f9 = some ⟨oc9, od9, .func (PySem.W.fnOf "in_order" "in_order" (defArgs s_in_order) (defBody s_in_order) (defScope s_in_order) .none kV9 dc9 pm9 an9 cd9 ct9), sl9⟩) (c9 : PySem.W.codeIn K cd9 "in_order" = true) (k9 : PySem.W.keepIn K (.ref f9) = true)
    (a10 : PySem.W.nsIn K mainGlobals "_law_is_run" = some (some (.ref f10))) (l10 : K.lookup f10 = some ⟨oc10, od10, .func (PySem.W.fnOf "_law_is_run" "_law_is_run" (defArgs s_law_is_run) (defBody s_law_is_run) (defScope s_law_is_run) .none kV10 dc10 pm10 an10 cd10 ct10), sl10⟩) (c10 : PySem.W.codeIn K cd10 "_law_is_run" = true) (k10 : PySem.W.keepIn K (.ref f10) = true)
    (a11 : PySem.W.nsIn K mainGlobals "_law_is_runs" = some (some (.ref f11))) (l11 : K.lookup f11 = some ⟨oc11, od11, .func (PySem.W.fnOf "_law_is_runs" "_law_is_runs" (defArgs s_law_is_runs) (defBody s_law_is_runs) (defScope s_law_is_runs) .none kV11 dc11 pm11 an11 cd11 ct11), sl11⟩) (c11 : PySem.W.codeIn K cd11 "_law_is_runs" = true) (k11 : PySem.W.keepIn K (.ref f11) = true)
    (a12 : PySem.W.nsIn K mainGlobals "_law_rising" = some (some (.ref f12))) (l12 : K.lookup f12 = some ⟨oc12, od12, .func (PySem.W.fnOf "_law_rising" "_law_rising" (defArgs s_law_rising) (defBody s_law_rising) (defScope s_law_rising) .none kV12 dc12 pm12 an12 cd12 ct12), sl12⟩) (c12 : PySem.W.codeIn K cd12 "_law_rising" = true) (k12 : PySem.W.keepIn K (.ref f12) = true)
    (a13 : PySem.W.nsIn K mainGlobals "beginnings" = some (some (.ref f13))) (l13 : K.lookup f13 = some ⟨oc13, od13, .func (PySem.W.fnOf "beginnings" "beginnings" (defArgs s_beginnings) (defBody s_beginnings) (defScope s_beginnings) .none kV13 dc13 pm13 an13 cd13 ct13), sl13⟩) (c13 : PySem.W.codeIn K cd13 "beginnings" = true) (k13 : PySem.W.keepIn K (.ref f13) = true)
    (a14 : PySem.W.nsIn K mainGlobals "_law_again" = some (some (.ref f14))) (l14 : K.lookup f14 = some ⟨oc14, od14, .func (PySem.W.fnOf "_law_again" "_law_again" (defArgs s_law_again) (defBody s_law_again) (defScope s_law_again) .none kV14 dc14 pm14 an14 cd14 ct14), sl14⟩) (c14 : PySem.W.codeIn K cd14 "_law_again" = true) (k14 : PySem.W.keepIn K (.ref f14) = true)
    (a15 : PySem.W.nsIn K mainGlobals "_law_ordered" = some (some (.ref f15))) (l15 : K.lookup f15 = some ⟨oc15, od15, .func (PySem.W.fnOf "_law_ordered" "_law_ordered" (defArgs s_law_ordered) (defBody s_law_ordered) (defScope s_law_ordered) .none kV15 dc15 pm15 an15 cd15 ct15), sl15⟩) (c15 : PySem.W.codeIn K cd15 "_law_ordered" = true) (k15 : PySem.W.keepIn K (.ref f15) = true)
    (a16 : PySem.W.nsIn K mainGlobals "_law_beginnings" = some (some (.ref f16))) (l16 : K.lookup f16 = some ⟨oc16, od16, .func (PySem.W.fnOf "_law_beginnings" "_law_beginnings" (defArgs s_law_beginnings) (defBody s_law_beginnings) (defScope s_law_beginnings) .none kV16 dc16 pm16 an16 cd16 ct16), sl16⟩) (c16 : PySem.W.codeIn K cd16 "_law_beginnings" = true) (k16 : PySem.W.keepIn K (.ref f16) = true)
    (a17 : PySem.W.nsIn K mainGlobals "law" = some (some (.ref f17))) (l17 : K.lookup f17 = some ⟨oc17, od17, .func (PySem.W.fnOf "law" "law" (defArgs s_law) (defBody s_law) (defScope s_law) .none kV17 dc17 pm17 an17 cd17 ct17), sl17⟩) (c17 : PySem.W.codeIn K cd17 "law" = true) (k17 : PySem.W.keepIn K (.ref f17) = true)
    (z_tuple : PySem.W.nsIn K mainGlobals "tuple" = some none) (z_sorted : PySem.W.nsIn K mainGlobals "sorted" = some none) (z_set : PySem.W.nsIn K mainGlobals "set" = some none) (z_len : PySem.W.nsIn K mainGlobals "len" = some none) (z_range : PySem.W.nsIn K mainGlobals "range" = some none) (z_abs : PySem.W.nsIn K mainGlobals "abs" = some none) (z_int : PySem.W.nsIn K mainGlobals "int" = some none) (z_isinstance : PySem.W.nsIn K mainGlobals "isinstance" = some none) (z_str : PySem.W.nsIn K mainGlobals "str" = some none) (z_all : PySem.W.nsIn K mainGlobals "all" = some none) (z_list : PySem.W.nsIn K mainGlobals "list" = some none) (z_any : PySem.W.nsIn K mainGlobals "any" = some none) (z_sum : PySem.W.nsIn K mainGlobals "sum" = some none) (z_max : PySem.W.nsIn K mainGlobals "max" = some none) :
    ∃ fd : FuncData, (∀ (s : Shared) (v : Value), BindsTo s fd ⟨[v], []⟩ [("script", v)]) ∧ ∀ base : Heap, K.In base → base.Ns mainGlobals mg → FnOk l.prog w K mg base CX0 5 fa fd ["script"] (SpD ⟨K, w⟩ FR.C_law) := by
  have e := hfa.symm.trans (PySem.W.mg_of X G a17)
  cases e
  have T : Bi mg := ⟨PySem.W.mg_none_of X G z_tuple, PySem.W.mg_none_of X G z_sorted, PySem.W.mg_none_of X G z_set, PySem.W.mg_none_of X G z_len, PySem.W.mg_none_of X G z_range, PySem.W.mg_none_of X G z_abs, PySem.W.mg_none_of X G z_int, PySem.W.mg_none_of X G z_isinstance, PySem.W.mg_none_of X G z_str, PySem.W.mg_none_of X G z_all, PySem.W.mg_none_of X G z_list, PySem.W.mg_none_of X G z_any, PySem.W.mg_none_of X G z_sum, PySem.W.mg_none_of X G z_max⟩
  have F0 := fun_mk (st := s_law_cell) l0 c0 k0
  have F1 := fun_mk (st := s_law_draws) l1 c1 k1
  have F2 := fun_mk (st := s_law_letters) l2 c2 k2
  have F3 := fun_mk (st := s_law_word) l3 c3 k3
  have F4 := fun_mk (st := s_law_fit) l4 c4 k4
  have F5 := fun_mk (st := s_law_long_runs) l5 c5 k5
  have F6 := fun_mk (st := s_law_great_runs) l6 c6 k6
  have F7 := fun_mk (st := s_law_runs) l7 c7 k7
  have F8 := fun_mk (st := s_law_passed) l8 c8 k8
  have F9 := fun_mk (st := s_in_order) l9 c9 k9
  have F10 := fun_mk (st := s_law_is_run) l10 c10 k10
  have F11 := fun_mk (st := s_law_is_runs) l11 c11 k11
  have F12 := fun_mk (st := s_law_rising) l12 c12 k12
  have F13 := fun_mk (st := s_beginnings) l13 c13 k13
  have F14 := fun_mk (st := s_law_again) l14 c14 k14
  have F15 := fun_mk (st := s_law_ordered) l15 c15 k15
  have F16 := fun_mk (st := s_law_beginnings) l16 c16 k16
  have F17 := fun_mk (st := s_law) l17 c17 k17
  have b0 := F0.binds (ps := ["script", "k"]) fun _ _ _ _ _ _ us hl => match us, hl with | [_, _], _ => rfl
  have b1 := F1.binds (ps := ["cell", "count"]) fun _ _ _ _ _ _ us hl => match us, hl with | [_, _], _ => rfl
  have b2 := F2.binds (ps := ["draw", "count"]) fun _ _ _ _ _ _ us hl => match us, hl with | [_, _], _ => rfl
  have b3 := F3.binds (ps := ["draw", "letters", "longest"]) fun _ _ _ _ _ _ us hl => match us, hl with | [_, _, _], _ => rfl
  have b4 := F4.binds (ps := ["runs", "most"]) fun _ _ _ _ _ _ us hl => match us, hl with | [_, _], _ => rfl
  have b5 := F5.binds (ps := ["cell", "letters"]) fun _ _ _ _ _ _ us hl => match us, hl with | [_, _], _ => rfl
  have b6 := F6.binds (ps := ["cell", "letters"]) fun _ _ _ _ _ _ us hl => match us, hl with | [_, _], _ => rfl
  have b7 := F7.binds (ps := ["cell", "letters", "count", "longest"]) fun _ _ _ _ _ _ us hl => match us, hl with | [_, _, _, _], _ => rfl
  have b8 := F8.binds (ps := ["script"]) fun _ _ _ _ _ _ us hl => match us, hl with | [_], _ => rfl
  have b9 := F9.binds (ps := ["runs"]) fun _ _ _ _ _ _ us hl => match us, hl with | [_], _ => rfl
  have b10 := F10.binds (ps := ["value"]) fun _ _ _ _ _ _ us hl => match us, hl with | [_], _ => rfl
  have b11 := F11.binds (ps := ["value"]) fun _ _ _ _ _ _ us hl => match us, hl with | [_], _ => rfl
  have b12 := F12.binds (ps := ["runs"]) fun _ _ _ _ _ _ us hl => match us, hl with | [_], _ => rfl
  have b13 := F13.binds (ps := ["runs"]) fun _ _ _ _ _ _ us hl => match us, hl with | [_], _ => rfl
  have b14 := F14.binds (ps := ["runs", "cell"]) fun _ _ _ _ _ _ us hl => match us, hl with | [_, _], _ => rfl
  have b15 := F15.binds (ps := ["runs"]) fun _ _ _ _ _ _ us hl => match us, hl with | [_], _ => rfl
  have b16 := F16.binds (ps := ["runs"]) fun _ _ _ _ _ _ us hl => match us, hl with | [_], _ => rfl
  refine ⟨PySem.W.fnOf "law" "law" (defArgs s_law) (defBody s_law) (defScope s_law) .none kV17 dc17 pm17 an17 cd17 ct17, fun s v => .of_eq rfl, fun base _ _ => ?_⟩
  have D_law_cell := ok_law_cell (P := l.prog) (w := w) (base := base) F0 b0 (PySem.W.mg_of X G a0) T 
  have D_law_draws := ok_law_draws (P := l.prog) (w := w) (base := base) F1 b1 (PySem.W.mg_of X G a1) T 
  have D_law_letters := ok_law_letters (P := l.prog) (w := w) (base := base) F2 b2 (PySem.W.mg_of X G a2) T 
  have D_law_word := ok_law_word (P := l.prog) (w := w) (base := base) F3 b3 (PySem.W.mg_of X G a3) T 
  have D_law_fit := ok_law_fit (P := l.prog) (w := w) (base := base) F4 b4 (PySem.W.mg_of X G a4) T 
  have D_law_long_runs := ok_law_long_runs (P := l.prog) (w := w) (base := base) F5 b5 (PySem.W.mg_of X G a5) T D_law_draws D_law_word D_law_fit
  have D_law_great_runs := ok_law_great_runs (P := l.prog) (w := w) (base := base) F6 b6 (PySem.W.mg_of X G a6) T D_law_draws D_law_word D_law_fit D_law_long_runs
  have D_law_runs := ok_law_runs (P := l.prog) (w := w) (base := base) F7 b7 (PySem.W.mg_of X G a7) T D_law_draws D_law_word
  have D_law_passed := ok_law_passed (P := l.prog) (w := w) (base := base) F8 b8 (PySem.W.mg_of X G a8) T D_law_cell D_law_draws D_law_letters D_law_great_runs D_law_runs
  have D_in_order := ok_in_order (P := l.prog) (w := w) (base := base) F9 b9 (PySem.W.mg_of X G a9) T 
  have D_law_is_run := ok_law_is_run (P := l.prog) (w := w) (base := base) F10 b10 (PySem.W.mg_of X G a10) T 
  have D_law_is_runs := ok_law_is_runs (P := l.prog) (w := w) (base := base) F11 b11 (PySem.W.mg_of X G a11) T D_law_is_run
  have D_law_rising := ok_law_rising (P := l.prog) (w := w) (base := base) F12 b12 (PySem.W.mg_of X G a12) T 
  have D_in_order_1 := ok_in_order_1 (P := l.prog) (w := w) (base := base) F9 b9 (PySem.W.mg_of X G a9) T 
  have D_beginnings := ok_beginnings (P := l.prog) (w := w) (base := base) F13 b13 (PySem.W.mg_of X G a13) T D_in_order_1
  have D_law_again := ok_law_again (P := l.prog) (w := w) (base := base) F14 b14 (PySem.W.mg_of X G a14) T D_law_draws
  have D_law_ordered := ok_law_ordered (P := l.prog) (w := w) (base := base) F15 b15 (PySem.W.mg_of X G a15) T 
  have D_law_ordered_1 := ok_law_ordered_1 (P := l.prog) (w := w) (base := base) F15 b15 (PySem.W.mg_of X G a15) T 
  have D_law_beginnings := ok_law_beginnings (P := l.prog) (w := w) (base := base) F16 b16 (PySem.W.mg_of X G a16) T D_law_ordered_1
  exact ok_law F17 law_true T D_law_passed D_in_order D_law_is_runs D_law_rising D_beginnings D_law_cell D_law_again D_law_runs D_law_ordered D_law_beginnings
end My
open PySem PySem.W PyProof.Rows in
set_option maxRecDepth 100000 in
set_option maxHeartbeats 0 in
theorem PySem.Challenge.cw_fromruns_k01_runs_in_order_holds : PySem.Challenge.rw_fromruns_k01_runs_in_order.Holds := by
  w_on; o_law; k_head; (case hw => w_witness2)
  k_fill
  refine L2.walk_of (l := PySem.Challenge.rw_fromruns_k01_runs_in_order) (n := 63) (k := 5) (x := "script") (CX := fun _ => L2.CX0) (sp := fun w => FR.SpD ⟨_, w⟩ FR.C_law) rfl (by decide) rfl ⟨rfl, by decide, by decide⟩ (fun w h Y => PySem.W.kIn_of Y) ?F (fun _ _ a ns hl _ hS => FR.law_end hl hS fun _ => rfl) (fun _ _ _ _ _ h => h)
  case F =>
    intro w mg fa h KX G hmg
    refine' My.all_mk KX G hmg ?a0 ?l0 ?c0 ?k0 ?a1 ?l1 ?c1 ?k1 ?a2 ?l2 ?c2 ?k2 ?a3 ?l3 ?c3 ?k3 ?a4 ?l4 ?c4 ?k4 ?a5 ?l5 ?c5 ?k5 ?a6 ?l6 ?c6 ?k6 ?a7 ?l7 ?c7 ?k7 ?a8 ?l8 ?c8 ?k8 ?a9 ?l9 ?c9 ?k9 ?a10 ?l10 ?c10 ?k10 ?a11 ?l11 ?c11 ?k11 ?a12 ?l12 ?c12 ?k12 ?a13 ?l13 ?c13 ?k13 ?a14 ?l14 ?c14 ?k14 ?a15 ?l15 ?c15 ?k15 ?a16 ?l16 ?c16 ?k16 ?a17 ?l17 ?c17 ?k17 ?z_tuple ?z_sorted ?z_set ?z_len ?z_range ?z_abs ?z_int ?z_isinstance ?z_str ?z_all ?z_list ?z_any ?z_sum ?z_max
    (case a0 => k_is)
    (case l0 => k_is)
    (case c0 => k_is)
    (case k0 => k_is)
    (case a1 => k_is)
    (case l1 => k_is)
    (case c1 => k_is)
    (case k1 => k_is)
    (case a2 => k_is)
    (case l2 => k_is)
    (case c2 => k_is)
    (case k2 => k_is)
    (case a3 => k_is)
    (case l3 => k_is)
    (case c3 => k_is)
    (case k3 => k_is)
    (case a4 => k_is)
    (case l4 => k_is)
    (case c4 => k_is)
    (case k4 => k_is)
    (case a5 => k_is)
    (case l5 => k_is)
    (case c5 => k_is)
    (case k5 => k_is)
    (case a6 => k_is)
    (case l6 => k_is)
    (case c6 => k_is)
    (case k6 => k_is)
    (case a7 => k_is)
    (case l7 => k_is)
    (case c7 => k_is)
    (case k7 => k_is)
    (case a8 => k_is)
    (case l8 => k_is)
    (case c8 => k_is)
    (case k8 => k_is)
    (case a9 => k_is)
    (case l9 => k_is)
    (case c9 => k_is)
    (case k9 => k_is)
    (case a10 => k_is)
    (case l10 => k_is)
    (case c10 => k_is)
    (case k10 => k_is)
    (case a11 => k_is)
    (case l11 => k_is)
    (case c11 => k_is)
    (case k11 => k_is)
    (case a12 => k_is)
    (case l12 => k_is)
    (case c12 => k_is)
    (case k12 => k_is)
    (case a13 => k_is)
    (case l13 => k_is)
    (case c13 => k_is)
    (case k13 => k_is)
    (case a14 => k_is)
    (case l14 => k_is)
    (case c14 => k_is)
    (case k14 => k_is)
    (case a15 => k_is)
    (case l15 => k_is)
    (case c15 => k_is)
    (case k15 => k_is)
    (case a16 => k_is)
    (case l16 => k_is)
    (case c16 => k_is)
    (case k16 => k_is)
    (case a17 => k_is)
    (case l17 => k_is)
    (case c17 => k_is)
    (case k17 => k_is)
    (case z_tuple => k_is)
    (case z_sorted => k_is)
    (case z_set => k_is)
    (case z_len => k_is)
    (case z_range => k_is)
    (case z_abs => k_is)
    (case z_int => k_is)
    (case z_isinstance => k_is)
    (case z_str => k_is)
    (case z_all => k_is)
    (case z_list => k_is)
    (case z_any => k_is)
    (case z_sum => k_is)
    (case z_max => k_is)
