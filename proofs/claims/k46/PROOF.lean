import PyProof.Rows.All
import Wide.All
import OpenK.AllK
import Wide.FinOn
import HandS.ForMost
import HandS.Evl
import HandS.IsInst
import HandS.Gcd
import HandS.Wide
import HandS.WideBits
import HandS.Conv
import HandS.RaiseMore
import HandS.Deep
import HandS.TupAny
import HandS.SortInts
import HandS.Text
import HandS.Zip
import HandS.Style
import HandS.WideMore
import PySem.Challenge.RW_loopworth_k46_whole_middles_far_off
set_option Elab.async false
set_option linter.all false
set_option maxRecDepth 100000
set_option maxHeartbeats 4000000
/-! Data that a value stands for, worlds that grow, and what an expression comes to, told over data alone. -/
namespace Kt
open PySem L2 PyProof.Rows
open Evl (Ex)

def kD : Key → PyData
  | .inl i => .int i
  | .inr s => .str s
mutual
/-- the value v stands for the data d in F -/
def Dr (K : PySem.W.Frag) (F : Hp) : PyData → V → Prop
  | .none, v => v = .non
  | .bool b, v => v = .bl b
  | .int i, v => v = .int i
  | .str x, v => v = .str x
  | .list ds, v => ∃ a xs, v = .ref a ∧ F a = some (.lst xs) ∧ DrA K F ds xs
  | .tuple ds, v => ∃ a xs, v = .ref a ∧ SqT K F a xs ∧ DrA K F ds xs
  | .dict kvs, v => ∃ a ks, v = .ref a ∧ F a = some (.dK ks) ∧ DrK K F kvs ks
def DrA (K : PySem.W.Frag) (F : Hp) : List PyData → List V → Prop
  | [], vs => vs = []
  | d :: ds, vs => ∃ v r, vs = v :: r ∧ Dr K F d v ∧ DrA K F ds r
def DrK (K : PySem.W.Frag) (F : Hp) : List (PyData × PyData) → List (Key × V) → Prop
  | [], ks => ks = []
  | (k, d) :: r, ks => ∃ k' v r', ks = (k', v) :: r' ∧ k = kD k' ∧ Dr K F d v ∧ DrK K F r r'
end
section
variable {K : PySem.W.Frag} {F F' H H' : Hp}
mutual
theorem Dr.mono (e : Ex F F') : ∀ (d : PyData) {v : V}, Dr K F d v → Dr K F' d v
  | .none, _, h => h
  | .bool _, _, h => h
  | .int _, _, h => h
  | .str _, _, h => h
  | .list ds, _, ⟨a, xs, h1, h2, h3⟩ => ⟨a, xs, h1, e _ _ h2, DrA.mono e ds h3⟩
  | .tuple ds, _, ⟨a, xs, h1, h2, h3⟩ => ⟨a, xs, h1, Evl.ex_t e h2, DrA.mono e ds h3⟩
  | .dict kvs, _, ⟨a, ks, h1, h2, h3⟩ => ⟨a, ks, h1, e _ _ h2, DrK.mono e kvs h3⟩
theorem DrA.mono (e : Ex F F') : ∀ (ds : List PyData) {vs : List V}, DrA K F ds vs → DrA K F' ds vs
  | [], _, h => h
  | d :: ds, _, ⟨v, r, h1, h2, h3⟩ => ⟨v, r, h1, Dr.mono e d h2, DrA.mono e ds h3⟩
theorem DrK.mono (e : Ex F F') : ∀ (ds : List (PyData × PyData)) {ks : List (Key × V)}, DrK K F ds ks → DrK K F' ds ks
  | [], _, h => h
  | (k, d) :: r, _, ⟨k', v, r', h1, h2, h3, h4⟩ => ⟨k', v, r', h1, h2, Dr.mono e d h3, DrK.mono e r h4⟩
end
theorem DrA.length : ∀ {ds : List PyData} {vs : List V}, DrA K F ds vs → vs.length = ds.length
  | [], _, h => by rw [show _ = [] from h]; rfl
  | d :: ds, _, ⟨v, r, h1, _, h3⟩ => by rw [h1, List.length_cons, List.length_cons, DrA.length h3]
theorem DrA.append : ∀ {ds es : List PyData} {vs us : List V}, DrA K F ds vs → DrA K F es us → DrA K F (ds ++ es) (vs ++ us)
  | [], _, _, _, h, k => by rw [show _ = [] from h]; exact k
  | d :: ds, _, _, _, ⟨v, r, h1, h2, h3⟩, k => by rw [h1]; exact ⟨v, r ++ _, rfl, h2, DrA.append h3 k⟩
theorem DrA.get : ∀ {ds : List PyData} {vs : List V} {i : Nat} {d : PyData}, DrA K F ds vs → ds[i]? = some d → ∃ v, vs[i]? = some v ∧ Dr K F d v
  | [], _, _, _, _, k => by simp at k
  | d :: ds, _, 0, e, ⟨v, r, h1, h2, _⟩, k => by rw [h1]; cases k; exact ⟨v, rfl, h2⟩
  | d :: ds, _, i + 1, e, ⟨v, r, h1, _, h3⟩, k => by rw [h1]; exact DrA.get (i := i) h3 (by simpa using k)
theorem DrA.take : ∀ {ds : List PyData} {vs : List V} (n : Nat), DrA K F ds vs → DrA K F (ds.take n) (vs.take n)
  | [], _, n, h => by rw [show _ = [] from h]; simp [DrA]
  | d :: ds, _, 0, _ => by simp [DrA]
  | d :: ds, _, n + 1, ⟨v, r, h1, h2, h3⟩ => by rw [h1]; exact ⟨v, r.take n, rfl, h2, DrA.take n h3⟩
theorem DrA.drop : ∀ {ds : List PyData} {vs : List V} (n : Nat), DrA K F ds vs → DrA K F (ds.drop n) (vs.drop n)
  | [], _, n, h => by rw [show _ = [] from h]; simp [DrA]
  | d :: ds, _, 0, h => h
  | d :: ds, _, n + 1, ⟨v, r, h1, h2, h3⟩ => by rw [h1]; exact DrA.drop n h3
theorem DrA.reverse : ∀ {ds : List PyData} {vs : List V}, DrA K F ds vs → DrA K F ds.reverse vs.reverse
  | [], _, h => by rw [show _ = [] from h]; simp [DrA]
  | d :: ds, _, ⟨v, r, h1, h2, h3⟩ => by
    rw [h1, List.reverse_cons, List.reverse_cons]
    exact DrA.append (DrA.reverse h3) ⟨v, [], rfl, h2, rfl⟩
theorem DrA.set : ∀ {ds : List PyData} {vs : List V} {d : PyData} {v : V} (i : Nat), Dr K F d v → DrA K F ds vs → DrA K F (ds.set i d) (vs.set i v)
  | [], _, _, _, _, _, h => by rw [show _ = [] from h]; simp [DrA]
  | d :: ds, _, _, _, 0, k, ⟨v, r, h1, h2, h3⟩ => by rw [h1]; exact ⟨_, r, rfl, k, h3⟩
  | d :: ds, _, _, _, n + 1, k, ⟨v, r, h1, h2, h3⟩ => by rw [h1]; exact ⟨v, _, rfl, h2, DrA.set n k h3⟩
theorem DrA.nil : DrA K F [] [] := rfl
theorem DrA.cons {d : PyData} {v : V} {ds : List PyData} {vs : List V} (h : Dr K F d v) (k : DrA K F ds vs) : DrA K F (d :: ds) (v :: vs) := ⟨v, vs, rfl, h, k⟩
theorem DrA.ints (ns : List Int) : DrA K F (ns.map PyData.int) (ns.map V.int) := by
  induction ns with
  | nil => rfl
  | cons n r ih => exact ⟨_, _, rfl, rfl, ih⟩
end

/-! ### reading -/
section
variable {X : Cx} {pins : List (Addr × Obj)} {σ : L2.St} {F H : Hp} {s : Shared}
theorem keyIs_reads {h : Heap} {k : Key} {v : Value} (e : keyIs k v = true) : Reads h v (kD k) [] := by
  rcases keyIs_shape e with ⟨i, t, rfl, rfl⟩ | ⟨x, t, rfl, rfl⟩
  · exact Reads.int i t
  · exact Reads.str x t
mutual
theorem Dr.reads (I : Inv X pins σ H s) (e : Ex F H) : ∀ (d : PyData) (v : V) (u : Value), Dr X.K F d v → RelV v u → ∃ as, Reads s.heap u d as
  | .none, _, _, h, r => by
    cases (show _ = V.non from h); cases r; exact ⟨_, Reads.none⟩
  | .bool b, _, _, h, r => by
    cases (show _ = V.bl b from h); cases r; exact ⟨_, Reads.bool b⟩
  | .int i, _, _, h, r => by
    cases (show _ = V.int i from h); obtain ⟨t, rfl⟩ := r; exact ⟨_, Reads.int i t⟩
  | .str x, _, _, h, r => by
    cases (show _ = V.str x from h); obtain ⟨t, rfl⟩ := r; exact ⟨_, Reads.str x t⟩
  | .list ds, _, _, ⟨a, xs, h1, hs, ha⟩, r => by
    subst h1
    cases r
    obtain ⟨its, rv, ⟨o, n, ho, hc, _, hd⟩, _⟩ := I.list (SqL.of (e _ _ hs))
    obtain ⟨as, hr⟩ := Dr.readsAll I e ds _ its ha rv
    exact ⟨_, Reads.list ho hc hd hr⟩
  | .tuple ds, _, _, ⟨a, xs, h1, hs, ha⟩, r => by
    subst h1
    cases r
    obtain ⟨its, rv, ⟨o, ho, hc, n, hd⟩, _⟩ := I.tuple (Evl.ex_t e hs)
    obtain ⟨as, hr⟩ := Dr.readsAll I e ds _ its ha rv
    exact ⟨_, Reads.tuple ho hc hd hr⟩
  | .dict kvs, _, _, ⟨a, ks, h1, hk, ha⟩, r => by
    subst h1
    cases r
    obtain ⟨_, _, vs, rv, o, es, ep, ho, hx, hd, _, hp, _⟩ := (show ObjOk X.prog X.w H s.heap a (.dK ks) from I.hok a _ (e _ _ hk))
    obtain ⟨as, bs, q1, q2⟩ := Dr.readsKv I e kvs ks vs es.toList ha rv hp
    exact ⟨_, Reads.dict ho hx.1 hd q1 q2⟩
theorem Dr.readsAll (I : Inv X pins σ H s) (e : Ex F H) : ∀ (ds : List PyData) (vs : List V) (us : List Value), DrA X.K F ds vs → Vals vs us → ∃ as, ReadsAll s.heap us ds as
  | [], _, _, h, r => by
    cases (show _ = [] from h); cases r; exact ⟨_, ReadsAll.nil⟩
  | d :: ds, _, _, ⟨v, t, h1, h2, h3⟩, r => by
    subst h1
    cases r with
    | cons r1 r2 =>
      obtain ⟨as, q1⟩ := Dr.reads I e d _ _ h2 r1
      obtain ⟨bs, q2⟩ := Dr.readsAll I e ds _ _ h3 r2
      exact ⟨_, ReadsAll.cons q1 q2⟩
theorem Dr.readsKv (I : Inv X pins σ H s) (e : Ex F H) : ∀ (kvs : List (PyData × PyData)) (ks : List (Key × V)) (vs : List (Key × Value)) (es : List DictEntry), DrK X.K F kvs ks → KV ks vs → Pairs (mixKind X.prog X.w) es vs →
    ∃ as bs, ReadsAll s.heap (es.map (·.key)) (kvs.map (·.1)) as ∧ ReadsAll s.heap (es.map (·.val)) (kvs.map (·.2)) bs
  | [], _, _, _, h, r, p => by
    cases (show _ = [] from h)
    cases r
    cases p
    exact ⟨_, _, ReadsAll.nil, ReadsAll.nil⟩
  | (k, d) :: kvs, _, _, _, ⟨k', v, r', h1, h2, h3, h4⟩, r, p => by
    subst h1
    subst h2
    cases r with
    | cons r1 r2 =>
      cases p with
      | cons p1 p2 p3 =>
        obtain ⟨e1, e2⟩ := r1
        obtain ⟨as, bs, q1, q2⟩ := Dr.readsKv I e kvs _ _ _ h4 r2 p3
        rw [← e1] at p1
        have g : Reads s.heap _ (kD k') [] := keyIs_reads p1
        rw [← p2] at e2
        obtain ⟨cs, q3⟩ := Dr.reads I e d _ _ h3 e2
        exact ⟨_, _, ReadsAll.cons g q1, ReadsAll.cons q3 q2⟩
end
end
end Kt

namespace Kt
open PySem L2 PyProof.Rows
open Evl (Ex)

/-! ### the law's source of draws: a dict at s, its list of cells at c -/
def srcK (c : Addr) (l m t : Int) : List (Key × V) := [(Sum.inr "cells", .ref c), (Sum.inr "left", .int l), (Sum.inr "mixed", .int m), (Sum.inr "turn", .int t)]
abbrev SR := Option (Addr × Addr)
def inS : SR → Addr → Prop
  | none, _ => False
  | some (s, c), a => a = s ∨ a = c
def SrcAt (s c : Addr) (H : Hp) : Prop := s ≠ c ∧ ∃ (l m t : Int) (ns : List Int), H s = some (.dK (srcK c l m t)) ∧ H c = some (.lst (ns.map V.int)) ∧ 0 ≤ l ∧ (∀ n ∈ ns, 0 ≤ n) ∧ 0 ≤ m ∧ m < 2147483629 ∧ 0 ≤ t
def SrcOk : SR → Hp → Prop
  | none, _ => True
  | some (s, c), H => SrcAt s c H

/-- from (F, H) to (F', H'): what F knows stays; all of H but the source stays; F' knows of H's things what F does -/
structure Nw (S : SR) (F H F' H' : Hp) : Prop where
  ff : Ex F F'
  fh : Ex F' H'
  hh : ∀ a o, ¬ inS S a → H a = some o → H' a = some o
  old : ∀ a o, H a = some o → F' a = F a
  src : SrcOk S H'
  sf : ∀ a, inS S a → F' a = none
structure Wk (S : SR) (F H : Hp) : Prop where
  fh : Ex F H
  src : SrcOk S H
  sf : ∀ a, inS S a → F a = none
section
variable {S : SR} {F H F1 H1 F2 H2 F' H' : Hp}
theorem Wk.nw (w : Wk S F H) : Nw S F H F H := ⟨Ex.refl F, w.fh, fun _ _ _ h => h, fun _ _ _ => rfl, w.src, w.sf⟩
theorem Nw.wk (n : Nw S F H F' H') : Wk S F' H' := ⟨n.fh, n.src, n.sf⟩
theorem srcOk_some {a : Addr} (h : SrcOk S H) (i : inS S a) : ∃ o, H a = some o := by
  cases S with
  | none => exact i.elim
  | some p =>
    obtain ⟨s, c⟩ := p
    obtain ⟨_, l, m, t, ns, h1, h2, _⟩ := h
    rcases i with rfl | rfl
    · exact ⟨_, h1⟩
    · exact ⟨_, h2⟩
theorem Nw.trans (a : Nw S F H F1 H1) (b : Nw S F1 H1 F2 H2) : Nw S F H F2 H2 := ⟨a.ff.trans b.ff, b.fh, fun x o n h => b.hh x o n (a.hh x o n h), fun x o h => by
  by_cases i : inS S x
  · obtain ⟨o', h'⟩ := srcOk_some a.src i
    rw [b.old x o' h', a.old x o h]
  · rw [b.old x o (a.hh x o i h), a.old x o h], b.src, b.sf⟩
theorem SrcOk.ex (h : SrcOk S H) (e : ∀ a o, inS S a → H a = some o → H' a = some o) : SrcOk S H' := by
  cases S with
  | none => exact trivial
  | some p =>
    obtain ⟨s, c⟩ := p
    obtain ⟨n, l, m, t, ns, h1, h2, r⟩ := h
    exact ⟨n, l, m, t, ns, e _ _ (Or.inl rfl) h1, e _ _ (Or.inr rfl) h2, r⟩
/-- a new thing at p, known -/
theorem Wk.new (w : Wk S F H) {p : Addr} {o : HO} (h : H p = none) : Nw S F H (upd F p o) (upd H p o) := by
  have nf : F p = none := Evl.fresh_back w.fh h
  have np : ¬ inS S p := fun i => by
    obtain ⟨o', h'⟩ := srcOk_some w.src i
    rw [h] at h'; cases h'
  refine ⟨Ex.new nf, fun a u e => ?_, fun a u _ e => ?_, fun a u e => ?_, w.src.ex fun a u _ e => ?_, fun a i => ?_⟩
  · by_cases ha : a = p
    · subst ha; rw [upd_same] at e ⊢; exact e
    · rw [upd_ne ha] at e ⊢; exact w.fh a u e
  · rw [upd_ne (ne_of_none e h)]; exact e
  · rw [upd_ne (ne_of_none e h)]
  · rw [upd_ne (ne_of_none e h)]; exact e
  · rw [upd_ne (fun z : a = p => np (by rw [← z]; exact i))]; exact w.sf a i
/-- a new thing at p, not yet known (it will change) -/
theorem Wk.newO (w : Wk S F H) {p : Addr} {o : HO} (h : H p = none) : Nw S F H F (upd H p o) := by
  have np : ¬ inS S p := fun i => by
    obtain ⟨o', h'⟩ := srcOk_some w.src i
    rw [h] at h'; cases h'
  refine ⟨Ex.refl F, fun a u e => ?_, fun a u _ e => ?_, fun a u e => rfl, w.src.ex fun a u _ e => ?_, w.sf⟩
  · rw [upd_ne (ne_of_none (w.fh _ _ e) h)]; exact w.fh a u e
  · rw [upd_ne (ne_of_none e h)]; exact e
  · rw [upd_ne (ne_of_none e h)]; exact e
theorem upd_upd2 {p : Addr} {o o' : HO} : upd (upd H p o) p o' = upd H p o' := L2.upd_upd
end

/-! ### slots -/
inductive Sl where
  | no
  | dat (d : PyData)
  | own (ds : List PyData)
  | src
  | cel
structure Gh where
  S : SR
  F0 : Hp
  H0 : Hp
def SlOk (K : PySem.W.Frag) (G : Gh) (F H : Hp) : Sl → Option (Option V) → Prop
  | .no, _ => True
  | .dat d, o => ∃ v, o = some (some v) ∧ Dr K F d v
  | .own ds, o => ∃ a xs, o = some (some (.ref a)) ∧ G.H0 a = none ∧ F a = none ∧ H a = some (.lst xs) ∧ DrA K F ds xs
  | .src, o => ∃ s c, G.S = some (s, c) ∧ o = some (some (.ref s))
  | .cel, o => ∃ s c, G.S = some (s, c) ∧ o = some (some (.ref c))
def isOwn : Option Sl → Prop
  | some (.own _) => True
  | _ => False
structure ES (K : PySem.W.Frag) (G : Gh) (σ : L2.St) (F H : Hp) (ρ : List Sl) : Prop where
  nw : Nw G.S G.F0 G.H0 F H
  s0 : SrcOk G.S G.H0
  len : σ.length = ρ.length
  sl : ∀ (i : Nat) (s : Sl), ρ[i]? = some s → SlOk K G F H s σ[i]?
  ap : ∀ (i j : Nat), i ≠ j → isOwn ρ[i]? → isOwn ρ[j]? → σ[i]? ≠ σ[j]?
section
variable {K : PySem.W.Frag} {G : Gh} {σ : L2.St} {F H F' H' : Hp} {ρ : List Sl}
theorem ES.wk (e : ES K G σ F H ρ) : Wk G.S F H := e.nw.wk
theorem notS {a : Addr} (s0 : SrcOk G.S G.H0) (h : G.H0 a = none) : ¬ inS G.S a := fun i => by
  obtain ⟨o, e⟩ := srcOk_some s0 i
  rw [h] at e; cases e
theorem ES.mono (e : ES K G σ F H ρ) (n : Nw G.S F H F' H') : ES K G σ F' H' ρ := by
  refine ⟨e.nw.trans n, e.s0, e.len, fun i s hs => ?_, e.ap⟩
  have q := e.sl i s hs
  cases s with
  | no => exact trivial
  | dat d => obtain ⟨v, h1, h2⟩ := q; exact ⟨v, h1, Dr.mono n.ff d h2⟩
  | own ds =>
    obtain ⟨a, xs, h1, h2, h3, h4, h5⟩ := q
    exact ⟨a, xs, h1, h2, (n.old a _ h4).trans h3, n.hh a _ (notS e.s0 h2) h4, DrA.mono n.ff ds h5⟩
  | src => exact q
  | cel => exact q
theorem ES.dat {i : Nat} {d : PyData} (e : ES K G σ F H ρ) (h : ρ[i]? = some (.dat d)) : ∃ v, σ[i]? = some (some v) ∧ Dr K F d v := e.sl i _ h
/-- a slot that holds known data -/
theorem ES.set {i : Nat} {d : PyData} {v : V} (e : ES K G σ F H ρ) (h : Dr K F d v) : ES K G (σ.set i (some v)) F H (ρ.set i (.dat d)) := by
  refine ⟨e.nw, e.s0, by rw [List.length_set, List.length_set]; exact e.len, fun j s hs => ?_, fun j k hjk hj hk => ?_⟩
  · by_cases hij : i = j
    · subst hij
      by_cases hl : i < ρ.length
      · rw [List.getElem?_set_self hl] at hs; cases hs
        exact ⟨v, List.getElem?_set_self (by rw [e.len]; exact hl), h⟩
      · rw [List.getElem?_eq_none (by rw [List.length_set]; omega)] at hs; cases hs
    · rw [List.getElem?_set_ne hij] at hs ⊢; exact e.sl j s hs
  · have f : ∀ (m : Nat), isOwn (ρ.set i (.dat d))[m]? → i ≠ m ∧ isOwn ρ[m]? := fun m hm => by
      by_cases him : i = m
      · subst him
        by_cases hl : i < ρ.length
        · rw [List.getElem?_set_self hl] at hm; exact hm.elim
        · rw [List.getElem?_eq_none (by rw [List.length_set]; omega)] at hm; exact hm.elim
      · rw [List.getElem?_set_ne him] at hm; exact ⟨him, hm⟩
    obtain ⟨a1, a2⟩ := f j hj
    obtain ⟨b1, b2⟩ := f k hk
    rw [List.getElem?_set_ne a1, List.getElem?_set_ne b1]
    exact e.ap j k hjk a2 b2
theorem ES.forget {i : Nat} {o : Option V} (e : ES K G σ F H ρ) : ES K G (σ.set i o) F H (ρ.set i .no) := by
  refine ⟨e.nw, e.s0, by rw [List.length_set, List.length_set]; exact e.len, fun j s hs => ?_, fun j k hjk hj hk => ?_⟩
  · by_cases hij : i = j
    · subst hij
      by_cases hl : i < ρ.length
      · rw [List.getElem?_set_self hl] at hs; cases hs
        exact trivial
      · rw [List.getElem?_eq_none (by rw [List.length_set]; omega)] at hs; cases hs
    · rw [List.getElem?_set_ne hij] at hs ⊢; exact e.sl j s hs
  · have f : ∀ (m : Nat), isOwn (ρ.set i .no)[m]? → i ≠ m ∧ isOwn ρ[m]? := fun m hm => by
      by_cases him : i = m
      · subst him
        by_cases hl : i < ρ.length
        · rw [List.getElem?_set_self hl] at hm; exact hm.elim
        · rw [List.getElem?_eq_none (by rw [List.length_set]; omega)] at hm; exact hm.elim
      · rw [List.getElem?_set_ne him] at hm; exact ⟨him, hm⟩
    obtain ⟨a1, a2⟩ := f j hj
    obtain ⟨b1, b2⟩ := f k hk
    rw [List.getElem?_set_ne a1, List.getElem?_set_ne b1]
    exact e.ap j k hjk a2 b2
/-- a slot that holds a new list of its own -/
theorem ES.setOwn {i : Nat} {ds : List PyData} {xs : List V} {a : Addr} (e : ES K G σ F H ρ) (hn : H a = none) (h : DrA K F ds xs) : ES K G (σ.set i (some (.ref a))) F (upd H a (.lst xs)) (ρ.set i (.own ds)) := by
  have n := e.wk.newO (o := .lst xs) hn
  have e' := e.mono n
  have fa : F a = none := Evl.fresh_back e.wk.fh hn
  have h0 : G.H0 a = none := by
    cases q : G.H0 a with
    | none => rfl
    | some o =>
      by_cases i : inS G.S a
      · obtain ⟨o', q'⟩ := srcOk_some e.nw.src i
        rw [hn] at q'; cases q'
      · rw [e.nw.hh a o i q] at hn; cases hn
  have apart : ∀ (m : Nat), isOwn ρ[m]? → σ[m]? ≠ some (some (V.ref a)) := fun m hm q => by
    cases hr : ρ[m]? with
    | none => rw [hr] at hm; exact hm
    | some s =>
      cases s with
      | own ds' =>
        obtain ⟨a', xs', h1, _, _, h4, _⟩ := e.sl m _ hr
        rw [q] at h1; cases h1
        rw [hn] at h4; cases h4
      | no => rw [hr] at hm; exact hm
      | dat d => rw [hr] at hm; exact hm
      | src => rw [hr] at hm; exact hm
      | cel => rw [hr] at hm; exact hm
  refine ⟨e'.nw, e.s0, by rw [List.length_set, List.length_set]; exact e.len, fun j s hs => ?_, fun j k hjk hj hk => ?_⟩
  · by_cases hij : i = j
    · subst hij
      by_cases hl : i < ρ.length
      · rw [List.getElem?_set_self hl] at hs; cases hs
        exact ⟨a, xs, List.getElem?_set_self (by rw [e.len]; exact hl), h0, fa, upd_same, h⟩
      · rw [List.getElem?_eq_none (by rw [List.length_set]; omega)] at hs; cases hs
    · rw [List.getElem?_set_ne hij] at hs ⊢; exact e'.sl j s hs
  · by_cases hij : i = j
    · subst hij
      have hik : i ≠ k := hjk
      rw [List.getElem?_set_ne hik]
      rw [List.getElem?_set_ne hik] at hk
      intro q
      by_cases hl : i < σ.length
      · rw [List.getElem?_set_self hl] at q
        exact apart k hk q.symm
      · rw [List.getElem?_eq_none (by rw [List.length_set, ← e.len]; omega)] at hj
        exact hj
    · rw [List.getElem?_set_ne hij]
      rw [List.getElem?_set_ne hij] at hj
      by_cases hik : i = k
      · subst hik
        intro q
        by_cases hl : i < σ.length
        · rw [List.getElem?_set_self hl] at q
          exact apart j hj q
        · rw [List.getElem?_eq_none (by rw [List.length_set, ← e.len]; omega)] at hk
          exact hk
      · rw [List.getElem?_set_ne hik]
        rw [List.getElem?_set_ne hik] at hk
        exact e.ap j k hjk hj hk
/-- an own list changes -/
theorem ES.mut {i : Nat} {ds es : List PyData} (e : ES K G σ F H ρ) (hi : ρ[i]? = some (.own ds)) {a : Addr} {ys : List V} (ha : σ[i]? = some (some (.ref a))) (h : DrA K F es ys) : ES K G σ F (upd H a (.lst ys)) (ρ.set i (.own es)) := by
  obtain ⟨a', xs, h1, h2, h3, h4, h5⟩ := e.sl i _ hi
  rw [ha] at h1; cases h1
  have ns := notS e.s0 h2
  refine ⟨⟨e.nw.ff, fun b o q => ?_, fun b o n q => ?_, e.nw.old, e.nw.src.ex fun b o n q => ?_, e.nw.sf⟩, e.s0, by rw [List.length_set]; exact e.len, fun j s hs => ?_, fun j k hjk hj hk => ?_⟩
  · rw [upd_ne (ne_of_none q h3)]; exact e.nw.fh b o q
  · rw [upd_ne (ne_of_none q h2)]; exact e.nw.hh b o n q
  · rw [upd_ne (fun z : b = a => ns (by rw [← z]; exact n))]; exact q
  · by_cases hij : i = j
    · subst hij
      by_cases hl : i < ρ.length
      · rw [List.getElem?_set_self hl] at hs; cases hs
        exact ⟨a, ys, ha, h2, h3, upd_same, h⟩
      · rw [List.getElem?_eq_none (by rw [List.length_set]; omega)] at hs; cases hs
    · rw [List.getElem?_set_ne hij] at hs
      have q := e.sl j s hs
      cases s with
      | no => exact trivial
      | dat d => exact q
      | own ds' =>
        obtain ⟨b, zs, g1, g2, g3, g4, g5⟩ := q
        have nb : b ≠ a := fun z => by
          have w := e.ap i j hij (by rw [hi]; exact trivial) (by rw [hs]; exact trivial)
          rw [ha, g1, z] at w
          exact w rfl
        exact ⟨b, zs, g1, g2, g3, by rw [upd_ne nb]; exact g4, g5⟩
      | src => exact q
      | cel => exact q
  · have f : ∀ (m : Nat), isOwn (ρ.set i (.own es))[m]? → isOwn ρ[m]? := fun m hm => by
      by_cases him : i = m
      · subst him; rw [hi]; exact trivial
      · rw [List.getElem?_set_ne him] at hm; exact hm
    exact e.ap j k hjk (f j hj) (f k hk)
/-- an own list is from now on known data -/
theorem ES.freeze {i : Nat} {ds : List PyData} (e : ES K G σ F H ρ) (hi : ρ[i]? = some (.own ds)) : ∃ F' v, σ[i]? = some (some v) ∧ Nw G.S G.F0 G.H0 F' H ∧ Ex F F' ∧ Dr K F' (.list ds) v ∧ ES K G σ F' H (ρ.set i (.dat (.list ds))) := by
  obtain ⟨a, xs, h1, h2, h3, h4, h5⟩ := e.sl i _ hi
  have ns := notS e.s0 h2
  have x1 : Ex F (upd F a (.lst xs)) := Ex.new h3
  have n1 : Nw G.S G.F0 G.H0 (upd F a (.lst xs)) H := ⟨e.nw.ff.trans x1, fun b o q => by
    by_cases hb : b = a
    · subst hb; rw [upd_same] at q; cases q; exact h4
    · rw [upd_ne hb] at q; exact e.nw.fh b o q, e.nw.hh, fun b o q => by rw [upd_ne (ne_of_none q h2)]; exact e.nw.old b o q, e.nw.src, fun b i => by rw [upd_ne (fun z : b = a => ns (by rw [← z]; exact i))]; exact e.nw.sf b i⟩
  have dr : Dr K (upd F a (.lst xs)) (.list ds) (.ref a) := ⟨a, xs, rfl, upd_same, DrA.mono x1 ds h5⟩
  refine ⟨upd F a (.lst xs), .ref a, h1, n1, x1, dr, ⟨n1, e.s0, by rw [List.length_set]; exact e.len, fun j s hs => ?_, fun j k hjk hj hk => ?_⟩⟩
  · by_cases hij : i = j
    · subst hij
      by_cases hl : i < ρ.length
      · rw [List.getElem?_set_self hl] at hs; cases hs
        exact ⟨.ref a, h1, dr⟩
      · rw [List.getElem?_eq_none (by rw [List.length_set]; omega)] at hs; cases hs
    · rw [List.getElem?_set_ne hij] at hs
      have q := e.sl j s hs
      cases s with
      | no => exact trivial
      | dat d => obtain ⟨v, g1, g2⟩ := q; exact ⟨v, g1, Dr.mono x1 d g2⟩
      | own ds' =>
        obtain ⟨b, zs, g1, g2, g3, g4, g5⟩ := q
        have nb : b ≠ a := fun z => by
          have w := e.ap i j hij (by rw [hi]; exact trivial) (by rw [hs]; exact trivial)
          rw [h1, g1, z] at w
          exact w rfl
        exact ⟨b, zs, g1, g2, by rw [upd_ne nb]; exact g3, g4, DrA.mono x1 ds' g5⟩
      | src => exact q
      | cel => exact q
  · have f : ∀ (m : Nat), isOwn (ρ.set i (.dat (.list ds)))[m]? → isOwn ρ[m]? := fun m hm => by
      by_cases him : i = m
      · subst him; rw [hi]; exact trivial
      · rw [List.getElem?_set_ne him] at hm; exact hm
    exact e.ap j k hjk (f j hj) (f k hk)
/-- slots may be forgotten -/
def Le : Sl → Sl → Prop := fun a b => a = .no ∨ a = b
theorem ES.weak {ρ' : List Sl} (e : ES K G σ F H ρ) (hl : ρ'.length = ρ.length) (h : ∀ (i : Nat) s, ρ'[i]? = some s → s = .no ∨ ρ[i]? = some s) : ES K G σ F H ρ' := by
  refine ⟨e.nw, e.s0, e.len.trans hl.symm, fun j s hs => ?_, fun j k hjk hj hk => ?_⟩
  · rcases h j s hs with rfl | q
    · exact trivial
    · exact e.sl j s q
  · have f : ∀ (m : Nat), isOwn ρ'[m]? → isOwn ρ[m]? := fun m hm => by
      cases q : ρ'[m]? with
      | none => rw [q] at hm; exact hm.elim
      | some s =>
        rcases h m s q with rfl | q'
        · rw [q] at hm; exact hm.elim
        · rw [q', ← q]; exact hm
    exact e.ap j k hjk (f j hj) (f k hk)
end
end Kt

/-! A def's promise where no text of a container is being made around it (guards: none). -/
namespace Kt
open PySem L2 PyProof.Rows PySem.Spec
open Evl (Ex)
structure FnG (P : Program) (w : World) (K : PySem.W.Frag) (mg : Str → Option Value) (base : Heap)
    (k : Nat) (f : Addr) (fd : FuncData) (ps : List Str) (sp : Sp) : Prop where
  len : ∀ vs H Q E, sp vs H Q E → vs.length = ps.length
  go : ∀ (A : Around) (ol : List Env) (s : Shared) (H : Hp) (ar : Args) (us : List Value) (vs : List V) (Q : VK) (E : XK),
    A.guards = some [] → Room k A → Env0 P w K mg base A ol s H → BindsTo s fd ar (ps.zip us) → Vals vs us →
    sp vs H Q E → codeAny (model P w) A (.call (.ref f) ar) (CR CX0 ol P w H s Q E) s
section
variable {P : Program} {w : World} {K : PySem.W.Frag} {mg : Str → Option Value} {base : Heap}
theorem FnG.mono {j k : Nat} {f : Addr} {fd : FuncData} {ps : List Str} {sp : Sp}
    (F : FnG P w K mg base j f fd ps sp) (h : j ≤ k) : FnG P w K mg base k f fd ps sp :=
  ⟨F.len, fun A ol s H ar us vs Q E g hr => F.go A ol s H ar us vs Q E g (hr.mono h)⟩
/-- a def of the text keeps its promise if its body does -/
theorem Fun.okG {x qual : Str} {st : Stmt} {f : Addr} {fd : FuncData} {N ps : List Str} {k : Nat} {sp : Sp}
    (F : Fun K x qual st f fd) (S : FnScope N ps (defScope st)) (len : ∀ vs H Q E, sp vs H Q E → vs.length = ps.length)
    (body : ∀ (cdv : Value) (A : Around) (ol : List Env) (s : Shared) (H : Hp) (vs : List V) (Q : VK) (E : XK),
      A.guards = some [] → Room k (A.deeper (envOfC qual (defScope st) s.heap.objs.size f cdv)) → sp vs H Q E →
      ∃ t, PSs (cxOf CX0 P w K mg base N qual (defScope st) f cdv A ol s H E).nox (defBody st) t ∧
        t { nx := fun _ H' => Q .non H', rt := Q } (start N vs) H) : FnG P w K mg base (k + 1) f fd ps sp := by
  obtain ⟨oc, od, kV, doc, pm, an, cdv, ct, osl, rfl, lk, hcd⟩ := F.ex
  refine ⟨len, ?_⟩
  intro A ol s H ar us vs Q E hgd hr e0 hbind rv hsp
  have hlen := len vs H Q E hsp
  have keep : ∀ b o, base.get? b = some o → s.heap.get? b = some o := fun b o q => (e0.bs b o q).1
  have kin : K.In s.heap := e0.mod.kin.keeps keep
  have nolim : s.heap.NoLimit := e0.mod.nolimit.keeps keep
  have kinds : ∀ y ∈ ps.zip us, (defScope st).names.lookup y.1 = some .local ∨
      ((defScope st).names.lookup y.1 = some .cell ∧
        ((cellsFrom (s.heap.objs.size + 1) (defScope st).names []).lookup y.1).isSome = true) := by
    rintro ⟨n, v⟩ hy
    have hm := S.par n (List.of_mem_zip hy).1
    rcases hm with q | q
    · exact Or.inl q
    · exact Or.inr ⟨q, PySem.W.cellsFrom_some _ _ _ (Or.inl q)⟩
  refine codeAny_call_function hr.depth (kin _ _ lk) rfl S.co S.gen rfl
    (PySem.W.codeRec_of kin hcd) (hbind _ _ _ _ ?_)
  refine wpAny_newFunctionEnv_cells S.kind kinds ?_
  intro env ee s1 ic
  subst ee
  refine ⟨nolim.keeps ic.toInCall.keep, codeAny_func ?_⟩
  obtain ⟨t, ht, hq⟩ := body cdv A ol s H vs Q E hgd (hr.deeper _) hsp
  have I0 := inv_start (CX := CX0) (P := P) (E := E) S hr.hd e0 hlen rv ic
  have done : ∀ {σ' : L2.St} {H' : Hp} {v : V} {u : Value} {s' : Shared},
      Inv (cxOf CX0 P w K mg base N qual (defScope st) f cdv A ol s H E) [] σ' H' s' →
      RelV v u → Q v H' → CE ol P w H s Q u s' := by
    intro σ' H' v u s' J ru q
    exact ⟨v, H', J.os, J.bare, J.base, J.hok, ru, q⟩
  refine wpAny_mono (ht.nox.run [] s1 (start N vs) H _ I0 hq) ?_ (fun _ _ z => z)
  intro fl s' h
  cases fl with
  | brk => obtain ⟨_, _, _, z⟩ := h; exact z.elim
  | cont => obtain ⟨_, _, _, z⟩ := h; exact z.elim
  | next => obtain ⟨_, _, J, q⟩ := h; exact done (v := .non) J rfl q
  | ret u => obtain ⟨_, _, _, J, ru, q⟩ := h; exact done J ru q
end
section
variable {X : Cx} {k : Nat} {f : Addr} {fd : FuncData} {ps : List Str} {sp : Sp} {x : Str} {p pos : Pos} {e : Expr} {es : List Expr} {t : TA}
theorem runG {pins : List (Addr × Obj)} {σ : L2.St} {H : Hp} {s : Shared} {Q : VK} {us : List Value} {vs : List V}
    (F : FnG X.prog X.w X.K X.mg X.base k f fd ps sp) (hgd : X.A.guards = some []) (hr : Room k X.A)
    (hb : Binds X.K fd ps []) (I : Inv X pins σ H s) (r : Vals vs us) (h : sp vs H Q E0) :
    wpAny (model X.prog X.w) X.A (call (.ref f) us) (EP X pins σ Q) X.xe s := by
  have hl : us.length = ps.length := r.length.symm.trans (F.len vs H Q E0 h)
  have hb' := hb s us I.kIn (by rw [List.append_nil]; exact hl)
  rw [List.append_nil] at hb'
  have main := F.go X.A X.stack s H ⟨us, []⟩ us vs Q E0 hgd hr I.env0 hb' r h
  refine wpAny_call (codeAny_mono main ?_)
  intro res s' hq
  match res, hq with
  | .ok (.ret u), hq => exact I.after hq
  | .ok .next, hq => exact (show False from hq).elim
  | .ok .brk, hq => exact (show False from hq).elim
  | .ok .cont, hq => exact (show False from hq).elim
  | .error e, hq => exact (show False from hq).elim
def tCallG (sp : Sp) (t : TA) : TE := fun σ H Q => t σ H fun vs H1 => sp vs H1 Q E0
theorem pe_callG (F : FnG X.prog X.w X.K X.mg X.base k f fd ps sp) (hgd : X.A.guards = some []) (hr : Room k X.A)
    (hg : Gl X x) (hm : X.mg x = some (.ref f)) (hk : PySem.W.keepIn X.K (.ref f) = true) (hb : Binds X.K fd ps [])
    (ha : PA X (e :: es) t) (hdb : (x == ("__debug__" : Str)) = false := by decide)
    (he : starEach (e :: es) X.env = (false, eval e X.env) :: starEach es X.env := by rfl)
    (hpl : (backTo pos (starEach es X.env)).any (·.1) = false := by rfl) :
    PE X (.Call (.Name x p) (e :: es) [] pos) (tCallG sp t) := by
  refine ⟨?_⟩
  intro pins s σ H Q I h
  refine wpAny_Call_Name_kw (ld_glob I hg hm ?_ hdb)
  refine PySem.W.callWith_K (h₀ := X.base) I.ok.mod.kin hk (thn (ha.run pos pins s σ H _ I h) ?_) he hpl
  rintro us s1 ⟨vs, H1, I1, r, q⟩
  exact ⟨I1.kIn, runG F hgd hr hb I1 r q⟩
/-- a call without arguments -/
theorem pe_callG0 (F : FnG X.prog X.w X.K X.mg X.base k f fd ps sp) (hgd : X.A.guards = some []) (hr : Room k X.A)
    (hg : Gl X x) (hm : X.mg x = some (.ref f)) (hk : PySem.W.keepIn X.K (.ref f) = true) (hb : Binds X.K fd ps [])
    (hdb : (x == ("__debug__" : Str)) = false := by decide) :
    PE X (.Call (.Name x p) [] [] pos) (fun _ H Q => sp [] H Q E0) := by
  refine ⟨?_⟩
  intro pins s σ H Q I h
  exact wpAny_Call_Name_kw (ld_glob I hg hm (PySem.W.callWith_K0 I.kIn hk (runG (us := []) F hgd hr hb I .nil h)) hdb)
end
/-- the law's call at the heap behind the top -/
theorem lawG {P : Program} {w : World} {K : PySem.W.Frag} {mg mb : Str → Option Value} {k : Nat} {fa a : Addr} {fd : FuncData}
    {x : Str} {sp : Sp} {s1 : Shared} {vs : List Value} {ns : List Int}
    (kin : K.In s1.heap) (hns : s1.heap.Ns mainGlobals mg) (hb : s1.heap.Ns builtinsNs mb)
    (hbb : ∀ x : Str, x ≠ "__name__" → mb x = bootBuiltins x) (hlim : s1.heap.NoLimit) (hg : s1.gens = #[])
    (ha : s1.heap.get? a = some { cls := .type "list", data := .seq vs.toArray }) (hi : IntsAre vs ns)
    (hl : ns.length ≤ sizeLine) (hr : Room k callerA)
    (F : ∀ base : Heap, K.In base → base.Ns mainGlobals mg → FnG P w K mg base k fa fd [x] sp)
    (hbind : ∀ (s : Shared) (u : Value), BindsTo s fd ⟨[u], []⟩ [(x, u)])
    (hsp : ∀ H : Hp, SqL K H a (ns.map V.int) → sp [.ref a] H (fun v _ => v = .bl true) fun _ _ _ => False) :
    codeAny (model P w) callerA (.call (.ref fa) ⟨[.ref a], []⟩)
      (fun r s' => r = .ok (.ret (.bool true)) ∧ OldK s1.heap s'.heap ∧ s'.os = s1.os ∧ AllBare s'.gens) s1 := by
  have rv := vals_ints hi
  let ob : Obj := { cls := .type "list", data := .seq vs.toArray }
  -- the script is tracked as a thing that stands, unless it is one of the top's own
  have go : ∀ H : Hp, SqL K H a (ns.map V.int) → (∀ b u, H b = some u → b = a ∧ u = .frz ob (.lst (ns.map V.int)) ∧ K.lookup a = none) →
      codeAny (model P w) callerA (.call (.ref fa) ⟨[.ref a], []⟩)
        (fun r s' => r = .ok (.ret (.bool true)) ∧ OldK s1.heap s'.heap ∧ s'.os = s1.os ∧ AllBare s'.gens) s1 := by
    intro H hS hH
    have ok : HOk P w H s1.heap := by
      intro b u z
      obtain ⟨rfl, rfl, _⟩ := hH b u z
      exact ⟨ha, by rw [List.length_map]; exact hl, vs, _, rv, ha⟩
    have free : ∀ {b : Addr} {o : Obj}, s1.heap.get? b = some o → (∀ es ep, o.data ≠ .dict es ep → True) → (∃ es ep, o.data = .dict es ep) → H b = none := by
      intro b o q _ ⟨es, ep, d⟩
      cases z : H b with
      | none => rfl
      | some u =>
        obtain ⟨rfl, _⟩ := hH b u z
        rw [ha] at q
        cases q
        cases (show Data.seq vs.toArray _ = Data.dict es ep from d)
    have nsH : ∀ {b : Addr} {m : Str → Option Value}, s1.heap.Ns b m → (hidT s1.heap H).Ns b m := by
      rintro b m ⟨o, es, ep, q, d, r⟩
      exact ⟨o, es, ep, hidT_get q (free q (fun _ _ _ => trivial) ⟨es, ep, d⟩), d, r⟩
    have kinH : K.In (hidT s1.heap H) := by
      intro b o q
      refine hidT_get (kin b o q) ?_
      cases z : H b with
      | none => rfl
      | some u =>
        obtain ⟨rfl, _, n⟩ := hH b u z
        rw [n] at q; cases q
    obtain ⟨mc, l1, l2⟩ := hlim
    have e0 : Env0 P w K mg (hidT s1.heap H) callerA [] s1 H := by
      refine ⟨rfl, ⟨kinH, nsH hns, ⟨mb, nsH hb, hbb⟩, ⟨mc, nsH l1, l2⟩⟩, fun b o q => of_hidT q, Nat.le_of_eq (hidT_size _ _), trivial, ?_, ok, .of_eq hg⟩
      intro b hb
      cases hb
    have main := (F _ kinH (nsH hns)).go callerA [] s1 H ⟨[.ref a], []⟩ [.ref a] [.ref a] _ _ rfl hr e0 (hbind s1 (.ref a)) (.cons rfl .nil) (hsp H hS)
    refine codeAny_mono main ?_
    intro r s' h
    match r, h with
    | .error _, h => exact (show False from h).elim
    | .ok .next, h => exact (show False from h).elim
    | .ok .brk, h => exact (show False from h).elim
    | .ok .cont, h => exact (show False from h).elim
    | .ok (.ret u), h =>
      obtain ⟨v, H', os, bare, un, ok', ru, q⟩ := h
      obtain rfl : v = .bl true := q
      obtain rfl : u = Value.bool true := ru
      refine ⟨rfl, OldK.of_keep ?_, os, bare⟩
      intro b o q
      cases z : H b with
      | none => exact un.keep b o q z (fun z => by cases z) (fun z => by cases z)
      | some u =>
        obtain ⟨rfl, rfl, _⟩ := hH b u z
        obtain ⟨e1, _⟩ := ok b _ z
        obtain ⟨e2, _⟩ := ok' b _ (un.frzs b ob _ z)
        rw [q] at e1
        cases e1
        exact e2
  cases hk : K.lookup a with
  | some o =>
    have q := kin a o hk
    rw [ha] at q
    cases q
    refine go (fun _ => none) (Or.inr ⟨_, vs.toArray, _, hk, rfl, rfl, rfl, ?_, by simpa using rv⟩) (fun b u z => by cases (show (none : Option HO) = some u from z))
    rw [List.size_toArray, hi.length]
    exact hl
  | none =>
    refine go (upd (fun _ => none) a (.frz ob (.lst (ns.map V.int)))) (Or.inl (Or.inr ⟨ob, upd_same⟩)) ?_
    intro b u z
    by_cases hb : b = a
    · subst hb
      rw [upd_same] at z
      exact ⟨rfl, (Option.some.inj z).symm, hk⟩
    · rw [upd_ne hb] at z
      cases z
theorem walkG {l : PySem.W.OpenLaw} {n k : Nat} {q : Program} {loose : List Str} {XP : (Str → Option Value) → Heap → Prop}
    {YP : World → Heap → Prop} {d : DefRec} {K : Params → PySem.W.Frag} {sp : World → Sp} {x : Str}
    (hn : l.most = some n) (hn2 : n ≤ sizeLine) (hdf : d.params.defaults = []) (hr : Room k callerA)
    (hY : ∀ (w : World) (h : Heap), YP w h → (K w.params).In h)
    (F : ∀ (w : World) (mg : Str → Option Value) (fa : Addr) (h : Heap), (K w.params).In h → h.Ns mainGlobals mg → mg d.name = some (.ref fa) →
      ∃ fd : FuncData, (∀ (s : Shared) (u : Value), BindsTo s fd ⟨[u], []⟩ [(x, u)]) ∧
        ∀ base : Heap, (K w.params).In base → base.Ns mainGlobals mg → FnG l.prog w (K w.params) mg base k fa fd [x] (sp w))
    (hsp : ∀ (w : World) (H : Hp) (a : Addr) (ns : List Int), ns.length ≤ n → SqL (K w.params) H a (ns.map V.int) →
      sp w [.ref a] H (fun v _ => v = .bl true) fun _ _ _ => False) :
    PySem.W.WalkO q loose XP YP l.row.toRowW d [] (fun f vs => PySem.call f vs) := by
  refine Att.attach_call hn hdf ?_
  intro w s0 s1 mg mb fa o pm cd doc a vs ns G Y ho hd hcd hmg hobj hints hlen hgens
  have kin := hY w _ Y
  obtain ⟨fd, hb, hF⟩ := F w mg fa _ kin G.T.g hmg
  exact lawG kin G.T.g G.T.b G.T.builtins G.T.nolimit hgens hobj hints (Nat.le_trans hlen hn2) hr hF hb (fun H hS => hsp w H a ns hlen hS)
end Kt

namespace Kt
open PySem L2 PyProof.Rows
open Evl (Ex)

/-! ### what is asked of an expression, by whatever rule -/
def wE (X : Cx) (e : Expr) : TE := fun σ H Q => ∃ t, PE X e t ∧ t σ H Q
def wT (X : Cx) (e : Expr) : TT := fun σ H Q => ∃ t, PT X e t ∧ t σ H Q
def wW (X : Cx) (e : Expr) : TT := fun σ H Q => ∃ t, PW X e t ∧ t σ H Q
def wA (X : Cx) (es : List Expr) : TA := fun σ H Q => ∃ t, PA X es t ∧ t σ H Q
def wS (X : Cx) (st : Stmt) : TS := fun D σ H => ∃ t, PS X st t ∧ t D σ H
def wSs (X : Cx) (sts : List Stmt) : TS := fun D σ H => ∃ t, PSs X sts t ∧ t D σ H
section
variable {X : Cx}
theorem pe_w {e : Expr} : PE X e (wE X e) := ⟨fun pins s σ H Q I h => by obtain ⟨t, p, q⟩ := h; exact p.run pins s σ H Q I q⟩
theorem pt_w {e : Expr} : PT X e (wT X e) := ⟨fun pins s σ H Q I h => by obtain ⟨t, p, q⟩ := h; exact p.run pins s σ H Q I q⟩
theorem pw_w {e : Expr} : PW X e (wW X e) := ⟨fun w pins s σ H Q I h => by obtain ⟨t, p, q⟩ := h; exact p.run w pins s σ H Q I q⟩
theorem pa_w {es : List Expr} : PA X es (wA X es) := ⟨fun pos pins s σ H Q I h => by obtain ⟨t, p, q⟩ := h; exact p.run pos pins s σ H Q I q⟩
theorem ps_w {st : Stmt} : PS X st (wS X st) := ⟨fun pins s σ H D I h => by obtain ⟨t, p, q⟩ := h; exact p.run pins s σ H D I q⟩
theorem pss_w {sts : List Stmt} : PSs X sts (wSs X sts) := ⟨fun pins s σ H D I h => by obtain ⟨t, p, q⟩ := h; exact p.run pins s σ H D I q⟩
end

/-- what is known of a def's context -/
structure Ctx (P : Program) (w : World) (K : PySem.W.Frag) (mg : Str → Option Value) (base : Heap) (N : List Str) (sc : Scope) (k : Nat) (X : Cx) : Prop where
  prog : X.prog = P
  wd : X.w = w
  kk : X.K = K
  mg : X.mg = mg
  base : X.base = base
  nn : X.N = N
  scope : X.env.scope = sc
  room : Room k X.A
  calm : X.calm = true
  xe : X.xe = fun _ _ => False
  nd : N.Nodup
  gd : X.A.guards = some []

/-- an expression comes to some data of which P holds -/
def EN (X : Cx) (e : Expr) (ρ : List Sl) (P : PyData → Prop) : Prop := ∀ (G : Gh) σ F H, ES X.K G σ F H ρ → ∀ Q : VK, (∀ d v F' H', P d → Nw G.S F H F' H' → Dr X.K F' d v → Q v H') → wE X e σ H Q
def TN (X : Cx) (e : Expr) (ρ : List Sl) (P : Bool → Prop) : Prop := ∀ (G : Gh) σ F H, ES X.K G σ F H ρ → ∀ Q : Bool → Hp → Prop, (∀ b F' H', P b → Nw G.S F H F' H' → Q b H') → wT X e σ H Q
def WN (X : Cx) (e : Expr) (ρ : List Sl) (P : Bool → Prop) : Prop := ∀ (G : Gh) σ F H, ES X.K G σ F H ρ → ∀ Q : Bool → Hp → Prop, (∀ b F' H', P b → Nw G.S F H F' H' → Q b H') → wW X e σ H Q
/-- arguments: data, or the source -/
def ArgR (K : PySem.W.Frag) (S : SR) (F : Hp) : Sl → V → Prop
  | .dat d, v => Dr K F d v
  | .src, v => ∃ s c, S = some (s, c) ∧ v = .ref s
  | _, _ => False
def ArgsR (K : PySem.W.Frag) (S : SR) (F : Hp) : List Sl → List V → Prop
  | [], vs => vs = []
  | a :: as, vs => ∃ v r, vs = v :: r ∧ ArgR K S F a v ∧ ArgsR K S F as r
def AN (X : Cx) (es : List Expr) (ρ : List Sl) (P : List Sl → Prop) : Prop := ∀ (G : Gh) σ F H, ES X.K G σ F H ρ → ∀ Q : List V → Hp → Prop, (∀ as vs F' H', P as → Nw G.S F H F' H' → ArgsR X.K G.S F' as vs → Q vs H') → wA X es σ H Q
/-- a list of expressions, data alone -/
def LN (X : Cx) (es : List Expr) (ρ : List Sl) (P : List PyData → Prop) : Prop := ∀ (G : Gh) σ F H, ES X.K G σ F H ρ → ∀ Q : List V → Hp → Prop, (∀ ds vs F' H', P ds → Nw G.S F H F' H' → DrA X.K F' ds vs → Q vs H') → wA X es σ H Q
/-- an operation on two things, on one, a call, by data -/
def D2 (K : PySem.W.Frag) (r : R2) (x y : PyData) (P : PyData → Prop) : Prop := ∀ (S : SR) F H, Wk S F H → ∀ v u, Dr K F x v → Dr K F y u → ∀ Q : VK, (∀ d v' F' H', P d → Nw S F H F' H' → Dr K F' d v' → Q v' H') → r v u H Q
def D1 (K : PySem.W.Frag) (r : V → Hp → VK → Prop) (x : PyData) (P : PyData → Prop) : Prop := ∀ (S : SR) F H, Wk S F H → ∀ v, Dr K F x v → ∀ Q : VK, (∀ d v' F' H', P d → Nw S F H F' H' → Dr K F' d v' → Q v' H') → r v H Q
def DC (K : PySem.W.Frag) (r : List V → Hp → VK → Prop) (xs : List PyData) (P : PyData → Prop) : Prop := ∀ (S : SR) F H, Wk S F H → ∀ vs, DrA K F xs vs → ∀ Q : VK, (∀ d v' F' H', P d → Nw S F H F' H' → Dr K F' d v' → Q v' H') → r vs H Q
section
variable {Pg : Program} {w : World} {K : PySem.W.Frag} {mg : Str → Option Value} {base : Heap} {N : List Str} {sc : Scope} {k : Nat} {X : Cx} {ρ : List Sl} {P : PyData → Prop} {a b c e : Expr} {pos : Pos}
theorem ArgsR.mono {S : SR} {F F' : Hp} (x : Ex F F') : ∀ {as : List Sl} {vs : List V}, ArgsR K S F as vs → ArgsR K S F' as vs
  | [], _, h => h
  | s :: as, _, ⟨v, r, h1, h2, h3⟩ => ⟨v, r, h1, by
    cases s with
    | dat d => exact Dr.mono x d h2
    | src => exact h2
    | no => exact h2
    | cel => exact h2
    | own _ => exact h2, ArgsR.mono x h3⟩
theorem ArgsR.length {S : SR} {F : Hp} : ∀ {as : List Sl} {vs : List V}, ArgsR K S F as vs → vs.length = as.length
  | [], _, h => by rw [show _ = [] from h]; rfl
  | _ :: _, _, ⟨v, r, h1, _, h3⟩ => by rw [h1, List.length_cons, List.length_cons, ArgsR.length h3]
theorem EN.mono {P' : PyData → Prop} (h : EN X e ρ P) (k : ∀ d, P d → P' d) : EN X e ρ P' := fun G σ F H E Q q => h _ σ F H E Q fun d v F' H' p n r => q d v F' H' (k d p) n r
theorem TN.mono {P P' : Bool → Prop} (h : TN X e ρ P) (k : ∀ d, P d → P' d) : TN X e ρ P' := fun G σ F H E Q q => h _ σ F H E Q fun d F' H' p n => q d F' H' (k d p) n
/-- by a rule whose reading gives a value -/
theorem EN.by {t : TE} (p : PE X e t) (h : ∀ (G : Gh) σ F H, ES X.K G σ F H ρ → ∀ Q : VK, (∀ d v F' H', P d → Nw G.S F H F' H' → Dr X.K F' d v → Q v H') → t σ H Q) : EN X e ρ P := fun G σ F H E Q q => ⟨t, p, h _ σ F H E Q q⟩
theorem TN.by {t : TT} {P : Bool → Prop} (p : PT X e t) (h : ∀ (G : Gh) σ F H, ES X.K G σ F H ρ → ∀ Q : Bool → Hp → Prop, (∀ b F' H', P b → Nw G.S F H F' H' → Q b H') → t σ H Q) : TN X e ρ P := fun G σ F H E Q q => ⟨t, p, h _ σ F H E Q q⟩
theorem EN.var {i : Nat} {x : Str} {d : PyData} (C : Ctx Pg w K mg base N sc k X) (hN : N[i]? = some x) (hv : Vis sc x) (h : ρ[i]? = some (.dat d)) (p : P d) (hd : (x == ("__debug__" : Str)) = false := by decide) (hcd : (x == ("__classdict__" : Str)) = false := by decide) : EN X (.Name x pos) ρ P :=
  EN.by (pe_var (i := i) (by rw [C.nn]; exact hN) (by rw [C.scope]; exact hv) hd hcd) fun G σ F H E Q q => by
    obtain ⟨v, h1, h2⟩ := E.dat h
    exact ⟨v, h1, q d v F H p E.wk.nw h2⟩
theorem EN.con {v : V} {d : PyData} (p : PE X e (tC v)) (h : ∀ F, Dr X.K F d v) (q : P d) : EN X e ρ P := EN.by p fun G σ F H E Q k => k d v F H q E.wk.nw (h F)
theorem EN.int {i : Int} {j} (q : P (.int i)) : EN X (.Constant (.int i) j pos) ρ P := EN.con (d := .int i) pe_int (fun _ => rfl) q
theorem EN.bl {i : Bool} {j} (q : P (.bool i)) : EN X (.Constant (.bool i) j pos) ρ P := EN.con (d := .bool i) pe_bl (fun _ => rfl) q
theorem EN.non {j} (q : P .none) : EN X (.Constant .none j pos) ρ P := EN.con (d := .none) pe_non (fun _ => rfl) q
theorem EN.str {x : Str} {j} (q : P (.str x)) : EN X (.Constant (.str x) j pos) ρ P := EN.con (d := .str x) pe_str (fun _ => rfl) q
/-- two parts, one after another -/
theorem two {G : Gh} {Pb : PyData → PyData → Prop} (h : EN X a ρ fun x => EN X b ρ fun y => Pb x y) {σ F H} (E : ES X.K G σ F H ρ) {R : V → V → Hp → Prop} (q : ∀ x y v u F' H', Pb x y → Nw G.S F H F' H' → Dr X.K F' x v → Dr X.K F' y u → R v u H') : wE X a σ H fun v H1 => wE X b σ H1 fun u H2 => R v u H2 :=
  h _ σ F H E _ fun x v F1 H1 p n r => p _ σ F1 H1 (E.mono n) _ fun y u F2 H2 p2 n2 r2 => q x y v u F2 H2 p2 (n.trans n2) (Dr.mono n2.ff x r) r2
theorem EN.op2 {op : Operator} {r : R2} (ho : OpR X (binaryOp op) r) (h : EN X a ρ fun x => EN X b ρ fun y => D2 X.K r x y P) : EN X (.BinOp a op b pos) ρ P :=
  EN.by (pe_op ho pe_w pe_w) fun G σ F H E Q q => two h E fun x y v u F' H' p n rx ry => p _ F' H' n.wk v u rx ry Q fun d v' F2 H2 pd n2 rd => q d v' F2 H2 pd (n.trans n2) rd
theorem EN.un1 {op : UnaryOp} {r : V → Hp → VK → Prop} (ho : UnR X (unaryOp op) r) (h : EN X a ρ fun x => D1 X.K r x P) : EN X (.UnaryOp op a pos) ρ P :=
  EN.by (pe_un ho pe_w) fun G σ F H E Q q => h _ σ F H E _ fun x v F' H' p n rx => p _ F' H' n.wk v rx Q fun d v' F2 H2 pd n2 rd => q d v' F2 H2 pd (n.trans n2) rd
theorem EN.cmp {op : CmpOp} {r : R2} (ho : OpR X (compareOp op) r) (hm : behindInMarks op b = false) (h : EN X a ρ fun x => EN X b ρ fun y => D2 X.K r x y P) : EN X (.Compare a [op] [b] pos) ρ P :=
  EN.by (pe_cmpR ho pe_w pe_w hm) fun G σ F H E Q q => two h E fun x y v u F' H' p n rx ry => p _ F' H' n.wk v u rx ry Q fun d v' F2 H2 pd n2 rd => q d v' F2 H2 pd (n.trans n2) rd
theorem TN.cmp {op : CmpOp} {r : R2} {P : Bool → Prop} (ho : OpR X (compareOp op) r) (hm : behindInMarks op b = false) (h : EN X a ρ fun x => EN X b ρ fun y => D2 X.K r x y fun d => ∃ k, d = .bool k ∧ P k) : TN X (.Compare a [op] [b] pos) ρ P :=
  TN.by (pt_cmpR ho pe_w pe_w hm) fun G σ F H E Q q => two h E fun x y v u F' H' p n rx ry => p _ F' H' n.wk v u rx ry _ fun d v' F2 H2 ⟨k, e, pd⟩ n2 rd => by
    subst e
    exact ⟨k, rd, q k F2 H2 pd (n.trans n2)⟩
/-- a test that is an expression which comes to a bool -/
def Tb (P : Bool → Prop) (k : Bool) : Prop := P k
theorem TN.val {P : Bool → Prop} (he : ∀ whole, isTrue e X.env whole = (do let v ← whole; standAt e.pos; holding [v] (truthy v))) (h : EN X e ρ fun d => ∃ k, d = .bool k ∧ Tb P k) : TN X e ρ P :=
  TN.by (pt_val pe_w he) fun G σ F H E Q q => h _ σ F H E _ fun d v F' H' ⟨k, e, pd⟩ n rd => by
    subst e
    exact ⟨k, rd, q k F' H' pd n⟩
theorem WN.tn {P : Bool → Prop} (h : WN X e ρ P) : TN X e ρ P := fun G σ F H E Q q => by
  obtain ⟨t, p, z⟩ := h _ σ F H E Q q
  exact ⟨t, p.pt, z⟩
theorem WN.and1 {P : Bool → Prop} (h : TN X a ρ P) : WN X (.BoolOp .And [a] pos) ρ P := fun G σ F H E Q q => ⟨_, pw_and1 pt_w, h _ σ F H E Q q⟩
theorem WN.or1 {P : Bool → Prop} (h : TN X a ρ P) : WN X (.BoolOp .Or [a] pos) ρ P := fun G σ F H E Q q => ⟨_, pw_or1 pt_w, h _ σ F H E Q q⟩
theorem WN.and {P : Bool → Prop} {rest : List Expr} (h : TN X a ρ fun k => (k = true → WN X (.BoolOp .And (b :: rest) pos) ρ P) ∧ (k = false → P false)) : WN X (.BoolOp .And (a :: b :: rest) pos) ρ P := fun G σ F H E Q q =>
  ⟨_, pw_and pt_w pw_w, h _ σ F H E _ fun k F' H' p n => by
    cases k with
    | true => exact iteT (p.1 rfl _ σ F' H' (E.mono n) Q fun k2 F2 H2 p2 n2 => q k2 F2 H2 p2 (n.trans n2))
    | false => exact iteF (q false F' H' (p.2 rfl) n)⟩
theorem WN.or {P : Bool → Prop} {rest : List Expr} (h : TN X a ρ fun k => (k = true → P true) ∧ (k = false → WN X (.BoolOp .Or (b :: rest) pos) ρ P)) : WN X (.BoolOp .Or (a :: b :: rest) pos) ρ P := fun G σ F H E Q q =>
  ⟨_, pw_or pt_w pw_w, h _ σ F H E _ fun k F' H' p n => by
    cases k with
    | true => exact iteT (q true F' H' (p.1 rfl) n)
    | false => exact iteF (p.2 rfl _ σ F' H' (E.mono n) Q fun k2 F2 H2 p2 n2 => q k2 F2 H2 p2 (n.trans n2))⟩
theorem TN.not {P : Bool → Prop} (h : TN X a ρ fun k => P (!k)) : TN X (.UnaryOp .Not a pos) ρ P := TN.by (pt_not pt_w) fun G σ F H E Q q => h _ σ F H E _ fun k F' H' p n => q (!k) F' H' p n
theorem EN.not (h : EN X a ρ fun d => ∃ k, d = .bool k ∧ P (.bool (!k))) : EN X (.UnaryOp .Not a pos) ρ P :=
  EN.by (pe_not pe_w) fun G σ F H E Q q => h _ σ F H E _ fun d v F' H' ⟨k, e, p⟩ n rd => by
    subst e
    exact ⟨k, rd, q _ _ F' H' p n rfl⟩
theorem EN.one {op} (h : EN X a ρ P) : EN X (.BoolOp op [a] pos) ρ P := EN.by (pe_one pe_w) h
theorem EN.and {rest : List Expr} (h : EN X a ρ fun d => ∃ k, d = .bool k ∧ (k = true → EN X (.BoolOp .And (b :: rest) pos) ρ P) ∧ (k = false → P (.bool false))) : EN X (.BoolOp .And (a :: b :: rest) pos) ρ P :=
  EN.by (pe_and pe_w pe_w) fun G σ F H E Q q => h _ σ F H E _ fun d v F' H' ⟨k, e, p1, p2⟩ n rd => by
    subst e
    refine ⟨k, rd, ?_⟩
    cases k with
    | true => exact iteT (p1 rfl _ σ F' H' (E.mono n) Q fun d2 v2 F2 H2 p n2 r2 => q d2 v2 F2 H2 p (n.trans n2) r2)
    | false => exact iteF (q _ _ F' H' (p2 rfl) n rfl)
theorem EN.or {rest : List Expr} (h : EN X a ρ fun d => ∃ k, d = .bool k ∧ (k = true → P (.bool true)) ∧ (k = false → EN X (.BoolOp .Or (b :: rest) pos) ρ P)) : EN X (.BoolOp .Or (a :: b :: rest) pos) ρ P :=
  EN.by (pe_or pe_w pe_w) fun G σ F H E Q q => h _ σ F H E _ fun d v F' H' ⟨k, e, p1, p2⟩ n rd => by
    subst e
    refine ⟨k, rd, ?_⟩
    cases k with
    | true => exact iteT (q _ _ F' H' (p1 rfl) n rfl)
    | false => exact iteF (p2 rfl _ σ F' H' (E.mono n) Q fun d2 v2 F2 H2 p n2 r2 => q d2 v2 F2 H2 p (n.trans n2) r2)
theorem EN.ife (h : TN X c ρ fun k => (k = true → EN X a ρ P) ∧ (k = false → EN X b ρ P)) : EN X (.IfExp c a b pos) ρ P :=
  EN.by (pe_ifExp pt_w pe_w pe_w) fun G σ F H E Q q => h _ σ F H E _ fun k F' H' p n => by
    cases k with
    | true => exact iteT (p.1 rfl _ σ F' H' (E.mono n) Q fun d2 v2 F2 H2 p n2 r2 => q d2 v2 F2 H2 p (n.trans n2) r2)
    | false => exact iteF (p.2 rfl _ σ F' H' (E.mono n) Q fun d2 v2 F2 H2 p n2 r2 => q d2 v2 F2 H2 p (n.trans n2) r2)
/-! lists of expressions -/
theorem LN.nil {P : List PyData → Prop} (h : P []) : LN X [] ρ P := fun G σ F H E Q q => ⟨_, pa_nil, q [] [] F H h E.wk.nw rfl⟩
theorem LN.cons {es : List Expr} {P : List PyData → Prop} (hs : starEach (e :: es) X.env = (false, eval e X.env) :: starEach es X.env) (h : EN X e ρ fun x => LN X es ρ fun xs => P (x :: xs)) : LN X (e :: es) ρ P := fun G σ F H E Q q =>
  ⟨_, pa_cons pe_w pa_w hs, h _ σ F H E _ fun x v F1 H1 p n r => p _ σ F1 H1 (E.mono n) _ fun ds vs F2 H2 p2 n2 r2 => q (x :: ds) (v :: vs) F2 H2 p2 (n.trans n2) ⟨v, vs, rfl, Dr.mono n2.ff x r, r2⟩⟩
theorem AN.nil {P : List Sl → Prop} (h : P []) : AN X [] ρ P := fun G σ F H E Q q => ⟨_, pa_nil, q [] [] F H h E.wk.nw rfl⟩
theorem AN.cons {es : List Expr} {P : List Sl → Prop} (hs : starEach (e :: es) X.env = (false, eval e X.env) :: starEach es X.env) (h : EN X e ρ fun x => AN X es ρ fun xs => P (.dat x :: xs)) : AN X (e :: es) ρ P := fun G σ F H E Q q =>
  ⟨_, pa_cons pe_w pa_w hs, h _ σ F H E _ fun x v F1 H1 p n r => p _ σ F1 H1 (E.mono n) _ fun ds vs F2 H2 p2 n2 r2 => q (.dat x :: ds) (v :: vs) F2 H2 p2 (n.trans n2) ⟨v, vs, rfl, Dr.mono n2.ff x r, r2⟩⟩
theorem AN.src {es : List Expr} {i : Nat} {x : Str} {P : List Sl → Prop} (C : Ctx Pg w K mg base N sc k X) (hN : N[i]? = some x) (hv : Vis sc x) (hi : ρ[i]? = some .src) (hs : starEach (.Name x pos :: es) X.env = (false, eval (.Name x pos) X.env) :: starEach es X.env)
    (h : AN X es ρ fun xs => P (.src :: xs)) (hd : (x == ("__debug__" : Str)) = false := by decide) (hcd : (x == ("__classdict__" : Str)) = false := by decide) : AN X (.Name x pos :: es) ρ P := fun G σ F H E Q q =>
  ⟨_, pa_cons (pe_var (i := i) (by rw [C.nn]; exact hN) (by rw [C.scope]; exact hv) hd hcd) pa_w hs, by
    obtain ⟨s, c, h1, h2⟩ := E.sl i _ hi
    exact ⟨_, h2, h _ σ F H E _ fun ds vs F2 H2 p2 n2 r2 => q (.src :: ds) (.ref s :: vs) F2 H2 p2 n2 ⟨_, vs, rfl, ⟨s, c, h1, rfl⟩, r2⟩⟩⟩
/-! displays -/
theorem EN.tup {es : List Expr} {x1} (h : LN X es ρ fun ds => ds.length ≤ sizeLine ∧ P (.tuple ds)) : EN X (.Tuple es x1 pos) ρ P :=
  EN.by (pe_tup pa_w) fun G σ F H E Q q => h _ σ F H E _ fun ds vs F1 H1 ⟨hl, p⟩ n r => ⟨by rw [r.length]; exact hl, fun a ha => q _ _ _ _ p (n.trans (n.wk.new ha)) ⟨a, vs, rfl, SqT.of upd_same, DrA.mono (n.wk.new (o := .tup vs) ha).ff ds r⟩⟩
theorem EN.lst {es : List Expr} (h : LN X es ρ fun ds => ds.length ≤ sizeLine ∧ P (.list ds)) : EN X (.List es pos) ρ P :=
  EN.by (pe_lst pa_w) fun G σ F H E Q q => h _ σ F H E _ fun ds vs F1 H1 ⟨hl, p⟩ n r => ⟨by rw [r.length]; exact hl, fun a ha => q _ _ _ _ p (n.trans (n.wk.new ha)) ⟨a, vs, rfl, upd_same, DrA.mono (n.wk.new (o := .lst vs) ha).ff ds r⟩⟩
/-! calls of built-ins -/
theorem EN.callB {id : String} {r : List V → Hp → VK → Prop} {x : Str} {es : List Expr} {npos : Pos} (C : Ctx Pg w K mg base N sc k X) (hc : CallR X (.builtin id) r) (hg : sc.names.lookup x = some .globalImplicit) (hm : mg x = none) (hv : bootBuiltins x = some (.builtin id))
    (h : LN X (e :: es) ρ fun xs => DC X.K r xs P) (he : starEach (e :: es) X.env = (false, eval e X.env) :: starEach es X.env) (hpl : (backTo pos (starEach es X.env)).any (·.1) = false) (hn : x ≠ "__name__" := by decide) (hdb : (x == ("__debug__" : Str)) = false := by decide) :
    EN X (.Call (.Name x npos) (e :: es) [] pos) ρ P :=
  EN.by (pe_callB hc (by unfold Gl Env.kindOf; rw [C.scope]; exact hg) (by rw [C.mg]; exact hm) hv pa_w hn hdb he hpl) fun G σ F H E Q q => h _ σ F H E _ fun ds vs F1 H1 p n r => p _ F1 H1 n.wk vs r Q fun d v' F2 H2 pd n2 rd => q d v' F2 H2 pd (n.trans n2) rd
theorem EN.callT {T : String} {r : List V → Hp → VK → Prop} {x : Str} {es : List Expr} {npos : Pos} (C : Ctx Pg w K mg base N sc k X) (hc : CallR X (.type T) r) (hg : sc.names.lookup x = some .globalImplicit) (hm : mg x = none) (hv : bootBuiltins x = some (.type T))
    (h : LN X (e :: es) ρ fun xs => DC X.K r xs P) (he : starEach (e :: es) X.env = (false, eval e X.env) :: starEach es X.env) (hpl : (backTo pos (starEach es X.env)).any (·.1) = false) (hn : x ≠ "__name__" := by decide) (hdb : (x == ("__debug__" : Str)) = false := by decide) :
    EN X (.Call (.Name x npos) (e :: es) [] pos) ρ P :=
  EN.by (pe_callTy hc (by unfold Gl Env.kindOf; rw [C.scope]; exact hg) (by rw [C.mg]; exact hm) hv pa_w hn hdb he hpl) fun G σ F H E Q q => h _ σ F H E _ fun ds vs F1 H1 p n r => p _ F1 H1 n.wk vs r Q fun d v' F2 H2 pd n2 rd => q d v' F2 H2 pd (n.trans n2) rd
end
/-! ### calls of the text's own defs -/
abbrev Wp := List Sl → (PyData → Prop) → Prop
def spOf (K : PySem.W.Frag) (W : Wp) : Sp := fun vs H Q _ => ∃ (S : SR) (F : Hp) (as : List Sl) (P : PyData → Prop), Wk S F H ∧ ArgsR K S F as vs ∧ W as P ∧ ∀ d v F' H', P d → Nw S F H F' H' → Dr K F' d v → Q v H'
/-- the def called x keeps the promise W, within k levels -/
structure Fd (Pg : Program) (w : World) (K : PySem.W.Frag) (mg : Str → Option Value) (base : Heap) (k : Nat) (x : Str) (W : Wp) : Prop where
  ex : ∃ (f : Addr) (fd : FuncData) (ps : List Str), FnG Pg w K mg base k f fd ps (spOf K W) ∧ mg x = some (.ref f) ∧ PySem.W.keepIn K (.ref f) = true ∧ Binds K fd ps []
section
variable {Pg : Program} {w : World} {K : PySem.W.Frag} {mg : Str → Option Value} {base : Heap} {N : List Str} {sc : Scope} {k j : Nat} {X : Cx} {ρ : List Sl} {P : PyData → Prop} {a b c e : Expr} {pos : Pos}
theorem EN.call {x : Str} {es : List Expr} {npos : Pos} {W : Wp} (C : Ctx Pg w K mg base N sc k X) (FO : Fd Pg w K mg base j x W) (hj : j ≤ k) (hg : sc.names.lookup x = some .globalImplicit)
    (h : AN X (e :: es) ρ fun as => W as P) (he : starEach (e :: es) X.env = (false, eval e X.env) :: starEach es X.env) (hpl : (backTo pos (starEach es X.env)).any (·.1) = false) (hdb : (x == ("__debug__" : Str)) = false := by decide) :
    EN X (.Call (.Name x npos) (e :: es) [] pos) ρ P := by
  obtain ⟨f, fd, ps, F, hm, hk, hb⟩ := FO.ex
  have c1 := C.prog; have c2 := C.wd; have c3 := C.kk; have c4 := C.mg; have c5 := C.base
  subst c1 c2 c3 c4 c5
  refine EN.by (pe_callG F C.gd (C.room.mono hj) (by unfold Gl Env.kindOf; rw [C.scope]; exact hg) hm hk hb pa_w hdb he hpl) ?_
  intro G σ F H E Q q
  exact h _ σ F H E _ fun as vs F1 H1 p n r => ⟨G.S, F1, as, P, n.wk, r, p, fun d v F2 H2 pd n2 rd => q d v F2 H2 pd (n.trans n2) rd⟩
theorem EN.call0 {x : Str} {npos : Pos} {W : Wp} (C : Ctx Pg w K mg base N sc k X) (FO : Fd Pg w K mg base j x W) (hj : j ≤ k) (hg : sc.names.lookup x = some .globalImplicit)
    (h : W [] P) (hdb : (x == ("__debug__" : Str)) = false := by decide) :
    EN X (.Call (.Name x npos) [] [] pos) ρ P := by
  obtain ⟨f, fd, ps, F, hm, hk, hb⟩ := FO.ex
  have c1 := C.prog; have c2 := C.wd; have c3 := C.kk; have c4 := C.mg; have c5 := C.base
  subst c1 c2 c3 c4 c5
  refine EN.by (pe_callG0 F C.gd (C.room.mono hj) (by unfold Gl Env.kindOf; rw [C.scope]; exact hg) hm hk hb hdb) ?_
  intro G σ F H E Q q
  exact ⟨G.S, F, [], P, E.wk, rfl, h, q⟩
/-! ### operators by data -/
section
variable {x y : PyData} {r r' : R2}
theorem D2.or1 (h : D2 K r x y P) : D2 K (fun x y H Q => r x y H Q ∨ r' x y H Q) x y P := fun S F H w v u a b Q q => Or.inl (h _ F H w v u a b Q q)
theorem D2.or2 (h : D2 K r' x y P) : D2 K (fun x y H Q => r x y H Q ∨ r' x y H Q) x y P := fun S F H w v u a b Q q => Or.inr (h _ F H w v u a b Q q)
theorem D2.i0 {g : Int → Int → V} {gd : Int → Int → PyData} {i j : Int} (hg : ∀ F, Dr K F (gd i j) (g i j)) (p : P (gd i j)) : D2 K (rI0 g) (.int i) (.int j) P := fun S F H w v u a b Q q => ⟨i, j, a, b, q _ _ F H p w.nw (hg F)⟩
theorem D2.ic {g : Int → Int → V} {Cc : Int → Int → Prop} {gd : Int → Int → PyData} {i j : Int} (hc : Cc i j) (hg : ∀ F, Dr K F (gd i j) (g i j)) (p : P (gd i j)) : D2 K (rI Cc g) (.int i) (.int j) P := fun S F H w v u a b Q q => ⟨i, j, a, b, hc, q _ _ F H p w.nw (hg F)⟩
end
def AddD (x y : PyData) (P : PyData → Prop) : Prop := match x, y with
  | .int i, .int j => P (.int (i + j))
  | .list a, .list b => a.length + b.length ≤ sizeLine ∧ P (.list (a ++ b))
  | .str a, .str b => a.length + b.length ≤ sizeLine ∧ P (.str (a ++ b))
  | _, _ => False
theorem EN.add (h : EN X a ρ fun x => EN X b ρ fun y => AddD x y P) : EN X (.BinOp a .Add b pos) ρ P := by
  refine EN.op2 (op_add.or (op_cat.or op_add_str)) (h.mono fun x h => h.mono fun y h => ?_)
  unfold AddD at h
  split at h
  · exact D2.or1 (D2.i0 (gd := fun i j => .int (i + j)) (fun _ => rfl) h)
  · refine D2.or2 (D2.or1 ?_)
    rintro S F H w v u ⟨p, xs, rfl, h1, h2⟩ ⟨q, ys, rfl, g1, g2⟩ Q k
    refine ⟨p, q, xs, ys, rfl, rfl, w.fh _ _ h1, w.fh _ _ g1, by rw [h2.length, g2.length]; exact h.1, fun z hz => ?_⟩
    exact k _ _ _ _ h.2 (w.new hz) ⟨z, _, rfl, upd_same, DrA.mono (w.new (o := .lst (xs ++ ys)) hz).ff _ (h2.append g2)⟩
  · refine D2.or2 (D2.or2 ?_)
    intro S F H w v u h1 h2 Q k
    exact ⟨_, _, h1, h2, h.1, k _ _ _ _ h.2 w.nw rfl⟩
  · exact h.elim
def Int2 (C : Int → Int → Prop) (g : Int → Int → PyData) (x y : PyData) (P : PyData → Prop) : Prop := match x, y with
  | .int i, .int j => C i j ∧ P (g i j)
  | _, _ => False
theorem Int2.d2 {Cc : Int → Int → Prop} {g : Int → Int → V} {gd : Int → Int → PyData} {x y : PyData} (hg : ∀ i j F, Dr K F (gd i j) (g i j)) (h : Int2 Cc gd x y P) : D2 K (rI Cc g) x y P := by
  unfold Int2 at h
  split at h
  · exact D2.ic (gd := gd) h.1 (hg _ _) h.2
  · exact h.elim
theorem Int2.d20 {g : Int → Int → V} {gd : Int → Int → PyData} {x y : PyData} (hg : ∀ i j F, Dr K F (gd i j) (g i j)) (h : Int2 (fun _ _ => True) gd x y P) : D2 K (rI0 g) x y P := by
  unfold Int2 at h
  split at h
  · exact D2.i0 (gd := gd) (hg _ _) h.2
  · exact h.elim
theorem EN.sub (h : EN X a ρ fun x => EN X b ρ fun y => Int2 (fun _ _ => True) (fun i j => .int (i - j)) x y P) : EN X (.BinOp a .Sub b pos) ρ P :=
  EN.op2 op_sub (h.mono fun x h => h.mono fun y h => Int2.d20 (gd := fun i j => .int (i - j)) (fun _ _ _ => rfl) h)
/-- products: one factor small, or both together below a million bits; a list so many times -/
def MulOk (i j : Int) : Prop := CMul i j ∨ CMulW i j
def MulD (x y : PyData) (P : PyData → Prop) : Prop := match x, y with
  | .int i, .int j => MulOk i j ∧ P (.int (i * j))
  | .list a, .int j => (-(2 ^ 63) ≤ j ∧ j < 2 ^ 63 ∧ a.length * j.toNat ≤ sizeLine) ∧ P (.list (List.replicate j.toNat a).flatten)
  | _, _ => False
theorem DrA.rep {F : Hp} {ds : List PyData} {vs : List V} (h : DrA K F ds vs) : ∀ n : Nat, DrA K F (List.replicate n ds).flatten (List.replicate n vs).flatten
  | 0 => by simp [DrA]
  | n + 1 => by rw [List.replicate_succ, List.replicate_succ, List.flatten_cons, List.flatten_cons]; exact h.append (DrA.rep h n)
theorem EN.mul (h : EN X a ρ fun x => EN X b ρ fun y => MulD x y P) : EN X (.BinOp a .Mult b pos) ρ P := by
  refine EN.op2 (op_mul.or (op_mulW.or op_rep)) (h.mono fun x h => h.mono fun y h => ?_)
  unfold MulD at h
  split at h
  · obtain ⟨h1 | h1, h2⟩ := h
    · exact D2.or1 (D2.ic (gd := fun i j => .int (i * j)) h1 (fun _ => rfl) h2)
    · exact D2.or2 (D2.or1 (D2.ic (gd := fun i j => .int (i * j)) h1 (fun _ => rfl) h2))
  · refine D2.or2 (D2.or2 ?_)
    rintro S F H w v u ⟨p, xs, rfl, h1, h2⟩ g Q k
    obtain ⟨⟨a1, a2, a3⟩, a4⟩ := h
    refine ⟨p, _, xs, rfl, g, w.fh _ _ h1, a1, a2, by rw [h2.length]; exact a3, fun z hz => ?_⟩
    exact k _ _ _ _ a4 (w.new hz) ⟨z, _, rfl, upd_same, DrA.mono (w.new (o := .lst _) hz).ff _ (h2.rep _)⟩
  · exact h.elim
def CDivX (_ j : Int) : Prop := j ≠ 0 ∧ j.natAbs.log2 < 9000
theorem op_fdivX : OpR X (binaryOp .FloorDiv) (rI CDivX fun i j => .int (i.fdiv j)) := opI fun i j _ _ _ _ _ hc q => floordiv_int hc.1 q (.inl (PyProof.noPylong_of_log2 hc.2))
theorem EN.div (h : EN X a ρ fun x => EN X b ρ fun y => Int2 CDivX (fun i j => .int (i.fdiv j)) x y P) : EN X (.BinOp a .FloorDiv b pos) ρ P :=
  EN.op2 op_fdivX (h.mono fun x h => h.mono fun y h => Int2.d2 (gd := fun i j => .int (i.fdiv j)) (fun _ _ _ => rfl) h)
theorem EN.mod (h : EN X a ρ fun x => EN X b ρ fun y => Int2 (fun _ j => j ≠ 0) (fun i j => .int (i.fmod j)) x y P) : EN X (.BinOp a .Mod b pos) ρ P :=
  EN.op2 op_modN (h.mono fun x h => h.mono fun y h => Int2.d2 (gd := fun i j => .int (i.fmod j)) (fun _ _ _ => rfl) h)
theorem EN.pow (h : EN X a ρ fun x => EN X b ρ fun y => Int2 CPow (fun i j => .int (i ^ j.toNat)) x y P) : EN X (.BinOp a .Pow b pos) ρ P :=
  EN.op2 op_pow (h.mono fun x h => h.mono fun y h => Int2.d2 (gd := fun i j => .int (i ^ j.toNat)) (fun _ _ _ => rfl) h)
theorem EN.neg (h : EN X a ρ fun x => ∃ i, x = .int i ∧ P (.int (-i))) : EN X (.UnaryOp .USub a pos) ρ P :=
  EN.un1 un_neg (h.mono fun x ⟨i, e, p⟩ => by
    subst e
    intro S F H w v g Q k
    exact ⟨i, g, k _ _ F H p w.nw rfl⟩)
/-! comparisons -/
theorem Dr.dp {F H : Hp} (e : Ex F H) : ∀ (d : PyData) {v : V}, d.canLay0 = true → Dr K F d v → Dp K H v d := by
  intro d
  exact PyData.rec (motive_1 := fun d => ∀ {v : V}, d.canLay0 = true → Dr K F d v → Dp K H v d)
    (motive_2 := fun ds => ∀ {vs : List V}, PyData.canLayAll0 ds = true → DrA K F ds vs → DpAll K H vs ds) (motive_3 := fun _ => True) (motive_4 := fun _ => True)
    (fun _ h => by cases (show _ = V.non from h); exact .non) (fun b v _ h => by cases (show _ = V.bl b from h); exact .bl b) (fun i v _ h => by cases (show _ = V.int i from h); exact .int i) (fun x v _ h => by cases (show _ = V.str x from h); exact .str x)
    (fun ds ih v hl ⟨a, xs, h1, h2, h3⟩ => by subst h1; exact .lst (SqL.of (e _ _ h2)) (ih hl h3))
    (fun ds ih v hl ⟨a, xs, h1, h2, h3⟩ => by subst h1; exact .tup (Evl.ex_t e h2) (ih hl h3))
    (fun kvs _ v hl _ => by cases (show false = true from hl))
    (fun {vs} _ h => by cases (show _ = ([] : List V) from h); exact .nil)
    (fun d ds ih1 ih2 vs hl ⟨v, r, h1, h2, h3⟩ => by
      subst h1
      have hl' : (d.canLay0 && PyData.canLayAll0 ds) = true := hl
      rw [Bool.and_eq_true] at hl'
      exact .cons (ih1 hl'.1 h2) (ih2 hl'.2 h3))
    trivial (fun _ _ _ _ => trivial) (fun _ _ _ _ => trivial) d
def EqD (x y : PyData) (P : PyData → Prop) : Prop := SeqAt.shaped x = true ∧ SeqAt.shaped y = true ∧ P (.bool (PyData.eqv x y))
def NeD (x y : PyData) (P : PyData → Prop) : Prop := SeqAt.shaped x = true ∧ SeqAt.shaped y = true ∧ P (.bool (!PyData.eqv x y))
theorem EqD.d2 {x y : PyData} (h : EqD x y P) : D2 K (rEqD K) x y P := fun S F H w v u a b Q k => ⟨x, y, Dr.dp w.fh x (SeqAt.canLay_of_shaped h.1) a, Dr.dp w.fh y (SeqAt.canLay_of_shaped h.2.1) b, h.1, h.2.1, k _ _ F H h.2.2 w.nw rfl⟩
theorem NeD.d2 {x y : PyData} (h : NeD x y P) : D2 K (rNeD K) x y P := fun S F H w v u a b Q k => ⟨x, y, Dr.dp w.fh x (SeqAt.canLay_of_shaped h.1) a, Dr.dp w.fh y (SeqAt.canLay_of_shaped h.2.1) b, h.1, h.2.1, k _ _ F H h.2.2 w.nw rfl⟩
theorem EN.eq (C : Ctx Pg w K mg base N sc k X) (h : EN X a ρ fun x => EN X b ρ fun y => EqD x y P) : EN X (.Compare a [.Eq] [b] pos) ρ P :=
  EN.cmp (op_eqD C.room.units) (nomark _) (h.mono fun _ h => h.mono fun _ h => h.d2)
theorem EN.ne (C : Ctx Pg w K mg base N sc k X) (h : EN X a ρ fun x => EN X b ρ fun y => NeD x y P) : EN X (.Compare a [.NotEq] [b] pos) ρ P :=
  EN.cmp (op_neD C.room.units) (nomark _) (h.mono fun _ h => h.mono fun _ h => h.d2)
def Bp (P : Bool → Prop) (d : PyData) : Prop := ∃ k, d = .bool k ∧ P k
def EqT (x y : PyData) (P : Bool → Prop) : Prop := SeqAt.shaped x = true ∧ SeqAt.shaped y = true ∧ P (PyData.eqv x y)
def NeT (x y : PyData) (P : Bool → Prop) : Prop := SeqAt.shaped x = true ∧ SeqAt.shaped y = true ∧ P (!PyData.eqv x y)
theorem TN.eq {P : Bool → Prop} (C : Ctx Pg w K mg base N sc k X) (h : EN X a ρ fun x => EN X b ρ fun y => EqT x y P) : TN X (.Compare a [.Eq] [b] pos) ρ P :=
  TN.cmp (op_eqD C.room.units) (nomark _) (h.mono fun _ h => h.mono fun _ h => EqD.d2 ⟨h.1, h.2.1, _, rfl, h.2.2⟩)
theorem TN.ne {P : Bool → Prop} (C : Ctx Pg w K mg base N sc k X) (h : EN X a ρ fun x => EN X b ρ fun y => NeT x y P) : TN X (.Compare a [.NotEq] [b] pos) ρ P :=
  TN.cmp (op_neD C.room.units) (nomark _) (h.mono fun _ h => h.mono fun _ h => NeD.d2 ⟨h.1, h.2.1, _, rfl, h.2.2⟩)
def Ib (g : Int → Int → Bool) (x y : PyData) (P : Bool → Prop) : Prop := match x, y with
  | .int i, .int j => P (g i j)
  | _, _ => False
theorem Ib.d2 {g : Int → Int → Bool} {x y : PyData} {P : Bool → Prop} (h : Ib g x y P) : D2 K (rI0 fun i j => .bl (g i j)) x y fun d => ∃ k, d = .bool k ∧ P k := by
  unfold Ib at h
  split at h
  · exact D2.i0 (gd := fun i j => .bool (g i j)) (fun _ => rfl) ⟨_, rfl, h⟩
  · exact h.elim
theorem TN.lt {P : Bool → Prop} (h : EN X a ρ fun x => EN X b ρ fun y => Ib (fun i j => decide (i < j)) x y P) : TN X (.Compare a [.Lt] [b] pos) ρ P := TN.cmp op_lt (nomark _) (h.mono fun _ h => h.mono fun _ h => h.d2)
theorem TN.le {P : Bool → Prop} (h : EN X a ρ fun x => EN X b ρ fun y => Ib (fun i j => decide (i ≤ j)) x y P) : TN X (.Compare a [.LtE] [b] pos) ρ P := TN.cmp op_le (nomark _) (h.mono fun _ h => h.mono fun _ h => h.d2)
theorem TN.gt {P : Bool → Prop} (h : EN X a ρ fun x => EN X b ρ fun y => Ib (fun i j => decide (j < i)) x y P) : TN X (.Compare a [.Gt] [b] pos) ρ P := TN.cmp op_gt (nomark _) (h.mono fun _ h => h.mono fun _ h => h.d2)
theorem TN.ge {P : Bool → Prop} (h : EN X a ρ fun x => EN X b ρ fun y => Ib (fun i j => decide (j ≤ i)) x y P) : TN X (.Compare a [.GtE] [b] pos) ρ P := TN.cmp op_ge (nomark _) (h.mono fun _ h => h.mono fun _ h => h.d2)
theorem EN.lt (h : EN X a ρ fun x => EN X b ρ fun y => Ib (fun i j => decide (i < j)) x y fun k => P (.bool k)) : EN X (.Compare a [.Lt] [b] pos) ρ P := EN.cmp op_lt (nomark _) (h.mono fun _ h => h.mono fun _ h => fun S F H w v u x y Q q => h.d2 _ F H w v u x y Q fun d v' F' H' ⟨k, e, p⟩ => q d v' F' H' (e ▸ p))
theorem EN.le (h : EN X a ρ fun x => EN X b ρ fun y => Ib (fun i j => decide (i ≤ j)) x y fun k => P (.bool k)) : EN X (.Compare a [.LtE] [b] pos) ρ P := EN.cmp op_le (nomark _) (h.mono fun _ h => h.mono fun _ h => fun S F H w v u x y Q q => h.d2 _ F H w v u x y Q fun d v' F' H' ⟨k, e, p⟩ => q d v' F' H' (e ▸ p))
theorem EN.gt (h : EN X a ρ fun x => EN X b ρ fun y => Ib (fun i j => decide (j < i)) x y fun k => P (.bool k)) : EN X (.Compare a [.Gt] [b] pos) ρ P := EN.cmp op_gt (nomark _) (h.mono fun _ h => h.mono fun _ h => fun S F H w v u x y Q q => h.d2 _ F H w v u x y Q fun d v' F' H' ⟨k, e, p⟩ => q d v' F' H' (e ▸ p))
theorem EN.ge (h : EN X a ρ fun x => EN X b ρ fun y => Ib (fun i j => decide (j ≤ i)) x y fun k => P (.bool k)) : EN X (.Compare a [.GtE] [b] pos) ρ P := EN.cmp op_ge (nomark _) (h.mono fun _ h => h.mono fun _ h => fun S F H w v u x y Q q => h.d2 _ F H w v u x y Q fun d v' F' H' ⟨k, e, p⟩ => q d v' F' H' (e ▸ p))
def isNon : PyData → Bool
  | .none => true
  | _ => false
theorem isNon_v {F : Hp} {d : PyData} {v : V} (h : Dr K F d v) : decide (v = .non) = isNon d := by
  cases d with
  | none => rw [show v = .non from h]; rfl
  | bool b => rw [show v = .bl b from h]; rfl
  | int i => rw [show v = .int i from h]; rfl
  | str x => rw [show v = .str x from h]; rfl
  | list ds => obtain ⟨_, _, e, _⟩ := h; rw [e]; rfl
  | tuple ds => obtain ⟨_, _, e, _⟩ := h; rw [e]; rfl
  | dict ds => obtain ⟨_, _, e, _⟩ := h; rw [e]; rfl
theorem TN.isN {j p2} {P : Bool → Prop} (h : EN X a ρ fun x => Tb P (isNon x)) : TN X (.Compare a [.Is] [.Constant .none j p2] pos) ρ P :=
  TN.cmp op_isN (nomark _) (h.mono fun x h => EN.non (fun S F H w v u g1 g2 Q q => ⟨g2, q (.bool (isNon x)) _ F H ⟨_, rfl, h⟩ w.nw (by rw [isNon_v g1]; rfl)⟩))
theorem TN.notN {j p2} {P : Bool → Prop} (h : EN X a ρ fun x => Tb P (!isNon x)) : TN X (.Compare a [.IsNot] [.Constant .none j p2] pos) ρ P :=
  TN.cmp op_notN (nomark _) (h.mono fun x h => EN.non (fun S F H w v u g1 g2 Q q => ⟨g2, q (.bool (!isNon x)) _ F H ⟨_, rfl, h⟩ w.nw (by rw [isNon_v g1]; rfl)⟩))
theorem EN.notN {j p2} (h : EN X a ρ fun x => P (.bool (!isNon x))) : EN X (.Compare a [.IsNot] [.Constant .none j p2] pos) ρ P :=
  EN.cmp op_notN (nomark _) (h.mono fun x h => EN.non (fun S F H w v u g1 g2 Q q => ⟨g2, q (.bool (!isNon x)) _ F H h w.nw (by rw [isNon_v g1]; rfl)⟩))
theorem EN.isN {j p2} (h : EN X a ρ fun x => P (.bool (isNon x))) : EN X (.Compare a [.Is] [.Constant .none j p2] pos) ρ P :=
  EN.cmp op_isN (nomark _) (h.mono fun x h => EN.non (fun S F H w v u g1 g2 Q q => ⟨g2, q (.bool (isNon x)) _ F H h w.nw (by rw [isNon_v g1]; rfl)⟩))
/-! items, parts -/
theorem atI_dr {F : Hp} {ds : List PyData} {vs : List V} {i : Int} {d : PyData} (h : DrA K F ds vs) (e : atI ds i = some d) : ∃ v, atI vs i = some v ∧ Dr K F d v := by
  unfold atI at e ⊢
  rw [h.length]
  cases q : ixN ds.length i with
  | none => rw [q] at e; cases e
  | some j => rw [q] at e; exact h.get e
def IxD (x y : PyData) (P : PyData → Prop) : Prop := match x, y with
  | .list ds, .int i => ∃ d, atI ds i = some d ∧ P d
  | .tuple ds, .int i => ∃ d, atI ds i = some d ∧ P d
  | .str z, .int i => z.length ≤ sizeLine ∧ ∃ c, atI z.cps.toList i = some c ∧ P (.str ⟨#[c]⟩)
  | _, _ => False
theorem EN.ix (hs : PlainIx b) (h : EN X a ρ fun x => EN X b ρ fun y => IxD x y P) : EN X (.Subscript a b pos) ρ P :=
  EN.by (pe_ix ix_seq pe_w pe_w hs) fun G σ F H E Q q => two h E fun x y v u F' H' p n rx ry => by
    unfold IxD at p
    split at p
    · obtain ⟨d, e, pd⟩ := p
      obtain ⟨z, xs, rfl, h1, h2⟩ := rx
      obtain ⟨v', e', r'⟩ := atI_dr h2 e
      exact Or.inl ⟨z, xs, _, v', rfl, ry, SqL.of (n.fh _ _ h1), e', q _ _ F' H' pd n r'⟩
    · obtain ⟨d, e, pd⟩ := p
      obtain ⟨z, xs, rfl, h1, h2⟩ := rx
      obtain ⟨v', e', r'⟩ := atI_dr h2 e
      exact Or.inr (Or.inl ⟨z, xs, _, v', rfl, ry, Evl.ex_t n.fh h1, e', q _ _ F' H' pd n r'⟩)
    · obtain ⟨h1, c, e, pd⟩ := p
      exact Or.inr (Or.inr ⟨_, _, c, rx, ry, h1, e, q _ _ F' H' pd n rfl⟩)
    · exact p.elim
def ON (X : Cx) (o : Option Expr) (ρ : List Sl) (P : Option Int → Prop) : Prop := match o with
  | none => P none
  | some e => EN X e ρ fun d => ∃ i, d = .int i ∧ P (some i)
def cutD (ds : List PyData) (lo hi : Option Int) : List PyData := (ds.drop (HT.sIx ds.length 0 lo)).take (HT.sIx ds.length ds.length hi - HT.sIx ds.length 0 lo)
def CutD (x : PyData) (lo hi : Option Int) (P : PyData → Prop) : Prop := match x with
  | .list ds => P (.list (cutD ds lo hi))
  | _ => False
theorem cut_dr {F : Hp} {ds : List PyData} {vs : List V} (h : DrA K F ds vs) (lo hi : Option Int) : DrA K F (cutD ds lo hi) (cutV vs lo hi) := by
  unfold cutD cutV
  rw [h.length]
  exact (h.drop _).take _
def wO (X : Cx) (o : Option Expr) : TO := fun σ H Q => ∃ t, PO X o t ∧ t σ H Q
theorem po_w {o : Option Expr} : PO X o (wO X o) := ⟨fun pins s σ H Q I h => by obtain ⟨t, p, q⟩ := h; exact p.run pins s σ H Q I q⟩
theorem ON.go {G : Gh} {o : Option Expr} {P : Option Int → Prop} (h : ON X o ρ P) {σ F H} (E : ES X.K G σ F H ρ) {Q : Option Int → Hp → Prop} (q : ∀ i F' H', P i → Nw G.S F H F' H' → Q i H') : wO X o σ H Q := by
  cases o with
  | none => exact ⟨_, po_none, q none F H h E.wk.nw⟩
  | some e => exact ⟨_, po_some pe_w, h _ σ F H E _ fun d v F' H' ⟨i, e, p⟩ n r => by subst e; exact ⟨i, r, q _ F' H' p n⟩⟩
theorem EN.sl {lo hi : Option Expr} {p2 : Pos} (h : EN X a ρ fun x => ON X lo ρ fun l => ON X hi ρ fun u => CutD x l u P) : EN X (.Subscript a (.Slice lo hi none p2) pos) ρ P :=
  EN.by (pe_slice sl_list pe_w po_w po_w) fun G σ F H E Q q => h _ σ F H E _ fun x v F1 H1 p1 n1 r1 => p1.go (E.mono n1) fun l F2 H2 p2 n2 => p2.go ((E.mono n1).mono n2) fun u F3 H3 p3 n3 => by
    unfold CutD at p3
    split at p3
    · obtain ⟨z, xs, rfl, h1, h2⟩ := r1
      have f2 := n2.trans n3
      exact ⟨z, xs, rfl, SqL.of (f2.fh _ _ (f2.ff _ _ h1)), fun w hw => q _ _ _ _ p3 (n1.trans (f2.trans (n3.wk.new hw))) ⟨w, _, rfl, upd_same, DrA.mono (n3.wk.new (o := .lst _) hw).ff _ (cut_dr (DrA.mono f2.ff _ h2) l u)⟩⟩
    · exact p3.elim
end
end Kt

namespace Kt
open PySem L2 PyProof.Rows
open Evl (Ex)
section
variable {Pg : Program} {w : World} {K : PySem.W.Frag} {mg : Str → Option Value} {base : Heap} {N : List Str} {sc : Scope} {k j : Nat} {X : Cx} {ρ : List Sl} {P : PyData → Prop} {a b c e : Expr} {pos : Pos}
def Gi (sc : Scope) (x : Str) : Prop := sc.names.lookup x = some .globalImplicit
/-! ### texts of data -/
theorem call_reprD (C : Ctx Pg w K mg base N sc k X) : CallR X (.builtin "repr") (fun xs H Q => ∃ v d F, xs = [v] ∧ Ex F H ∧ Dr X.K F d v ∧ d.showable = true ∧ d.hasDict = false ∧ d.depth ≤ 40 ∧ d.shown.length ≤ sizeLine ∧ Q (.str d.shown) H) := by
  intro pins s σ H xs us Q I r h
  obtain ⟨v, d, F, rfl, ef, dr, h1, h2, h3, h4, q⟩ := h
  obtain ⟨u, rfl, ru⟩ := vals1 r
  have hun := C.room.units
  cases d with
  | none =>
    obtain rfl : v = .non := dr
    obtain rfl : u = Value.none := ru
    exact PySem.P.repr_of_none ⟨.str _, H, I.tok _, ⟨_, rfl⟩, q⟩
  | bool b =>
    obtain rfl : v = .bl b := dr
    obtain rfl : u = Value.bool b := ru
    exact PySem.P.repr_of_bool ⟨.str _, H, I.tok _, ⟨_, rfl⟩, q⟩
  | int i =>
    obtain rfl : v = .int i := dr
    obtain ⟨t, rfl⟩ := ru
    exact PySem.P.repr_of_int (of_decide_eq_true h1) ⟨.str _, H, I.tok _, ⟨_, rfl⟩, q⟩
  | str x =>
    obtain rfl : v = .str x := dr
    obtain ⟨t, rfl⟩ := ru
    exact PySem.P.repr_of_str ⟨.str _, H, I.tok _, ⟨_, rfl⟩, q⟩ h4
  | dict kvs => cases (show true = false from h2)
  | list ds =>
    obtain ⟨as, rd⟩ := Dr.reads I ef _ _ _ dr ru
    obtain ⟨p, xs, rfl, _⟩ := dr
    obtain rfl : u = Value.ref p := ru
    exact repr_of_reads' rd h1 (fun z => by rw [h2] at z; cases z) C.gd (by omega) (fun _ _ z => z) (fun h' u tk hk => ⟨.str _, H, I.kept hk, ⟨_, rfl⟩, q⟩) h4
  | tuple ds =>
    obtain ⟨as, rd⟩ := Dr.reads I ef _ _ _ dr ru
    obtain ⟨p, xs, rfl, _⟩ := dr
    obtain rfl : u = Value.ref p := ru
    exact repr_of_reads' rd h1 (fun z => by rw [h2] at z; cases z) C.gd (by omega) (fun _ _ z => z) (fun h' u tk hk => ⟨.str _, H, I.kept hk, ⟨_, rfl⟩, q⟩) h4
/-- a text of it can be made -/
def Rp (d : PyData) : Prop := d.showable = true ∧ d.hasDict = false ∧ d.depth ≤ 40 ∧ d.shown.length ≤ sizeLine
theorem EN.repr {npos : Pos} (C : Ctx Pg w K mg base N sc k X) (hg : Gi sc "repr") (hm : mg "repr" = none)
    (h : EN X e ρ fun d => Rp d ∧ P (.str d.shown)) (he : starEach [e] X.env = (false, eval e X.env) :: starEach [] X.env) (hpl : (backTo pos (starEach [] X.env)).any (·.1) = false) : EN X (.Call (.Name "repr" npos) [e] [] pos) ρ P :=
  EN.callB C (call_reprD C) hg hm (by decide +kernel) (LN.cons he (h.mono fun d hd => LN.nil (by
    rintro S F H w vs ⟨v, r, rfl, h1, h2⟩ Q q
    obtain rfl : r = [] := h2
    obtain ⟨⟨a1, a2, a3, a4⟩, a5⟩ := hd
    exact ⟨v, d, F, rfl, w.fh, h1, a1, a2, a3, a4, q _ _ F H a5 w.nw rfl⟩))) he hpl
/-! ### len, abs, int, gcd, list, tuple -/
def LenD (x : PyData) (P : PyData → Prop) : Prop := match x with
  | .list ds => P (.int ds.length)
  | .tuple ds => P (.int ds.length)
  | .str z => z.length ≤ sizeLine ∧ P (.int z.length)
  | _ => False
theorem EN.len {npos : Pos} (C : Ctx Pg w K mg base N sc k X) (hg : Gi sc "len") (hm : mg "len" = none)
    (h : EN X e ρ fun d => LenD d P) (he : starEach [e] X.env = (false, eval e X.env) :: starEach [] X.env) (hpl : (backTo pos (starEach [] X.env)).any (·.1) = false) : EN X (.Call (.Name "len" npos) [e] [] pos) ρ P :=
  EN.callB C call_len hg hm (by decide +kernel) (LN.cons he (h.mono fun d hd => LN.nil (by
    rintro S F H w vs ⟨v, r, rfl, h1, h2⟩ Q q
    obtain rfl : r = [] := h2
    unfold LenD at hd
    split at hd
    · obtain ⟨z, xs, rfl, g1, g2⟩ := h1
      exact ⟨_, xs.length, rfl, Or.inl ⟨xs, SqL.of (w.fh _ _ g1), rfl⟩, by rw [g2.length]; exact q _ _ F H hd w.nw rfl⟩
    · obtain ⟨z, xs, rfl, g1, g2⟩ := h1
      exact ⟨_, xs.length, rfl, Or.inr ⟨xs, Evl.ex_t w.fh g1, rfl⟩, by rw [g2.length]; exact q _ _ F H hd w.nw rfl⟩
    · obtain rfl := (show v = V.str _ from h1)
      exact ⟨_, _, rfl, ⟨hd.1, rfl⟩, q _ _ F H hd.2 w.nw rfl⟩
    · exact hd.elim))) he hpl
theorem EN.abs {npos : Pos} (C : Ctx Pg w K mg base N sc k X) (hg : Gi sc "abs") (hm : mg "abs" = none)
    (h : EN X e ρ fun d => ∃ i, d = .int i ∧ P (.int (if i < 0 then -i else i))) (he : starEach [e] X.env = (false, eval e X.env) :: starEach [] X.env) (hpl : (backTo pos (starEach [] X.env)).any (·.1) = false) : EN X (.Call (.Name "abs" npos) [e] [] pos) ρ P :=
  EN.callB C call_abs hg hm (by decide +kernel) (LN.cons he (h.mono fun d hd => LN.nil (by
    rintro S F H w vs ⟨v, r, rfl, h1, h2⟩ Q q
    obtain rfl : r = [] := h2
    obtain ⟨i, rfl, p⟩ := hd
    exact ⟨i, by rw [show v = V.int i from h1], q _ _ F H p w.nw rfl⟩))) he hpl
def IntD (x : PyData) (P : PyData → Prop) : Prop := match x with
  | .int i => P (.int i)
  | .bool b => P (.int (if b then 1 else 0))
  | _ => False
theorem EN.intc {npos : Pos} (C : Ctx Pg w K mg base N sc k X) (hg : Gi sc "int") (hm : mg "int" = none)
    (h : EN X e ρ fun d => IntD d P) (he : starEach [e] X.env = (false, eval e X.env) :: starEach [] X.env) (hpl : (backTo pos (starEach [] X.env)).any (·.1) = false) : EN X (.Call (.Name "int" npos) [e] [] pos) ρ P :=
  EN.callT C call_int1 hg hm (by decide +kernel) (LN.cons he (h.mono fun d hd => LN.nil (by
    rintro S F H w vs ⟨v, r, rfl, h1, h2⟩ Q q
    obtain rfl : r = [] := h2
    unfold IntD at hd
    split at hd
    · exact Or.inl ⟨_, by rw [show v = V.int _ from h1], q _ _ F H hd w.nw rfl⟩
    · exact Or.inr ⟨_, by rw [show v = V.bl _ from h1], q _ _ F H hd w.nw rfl⟩
    · exact hd.elim))) he hpl
def SeqD (x : PyData) (P : List PyData → Prop) : Prop := match x with
  | .list ds => P ds
  | .tuple ds => P ds
  | _ => False
theorem EN.listc {npos : Pos} (C : Ctx Pg w K mg base N sc k X) (hg : Gi sc "list") (hm : mg "list" = none)
    (h : EN X e ρ fun d => SeqD d fun ds => P (.list ds)) (he : starEach [e] X.env = (false, eval e X.env) :: starEach [] X.env) (hpl : (backTo pos (starEach [] X.env)).any (·.1) = false) : EN X (.Call (.Name "list" npos) [e] [] pos) ρ P :=
  EN.callT C call_list_of hg hm (by decide +kernel) (LN.cons he (h.mono fun d hd => LN.nil (by
    rintro S F H w vs ⟨v, r, rfl, h1, h2⟩ Q q
    obtain rfl : r = [] := h2
    unfold SeqD at hd
    split at hd
    · obtain ⟨z, xs, rfl, g1, g2⟩ := h1
      exact ⟨z, xs, rfl, Or.inl (SqL.of (w.fh _ _ g1)), fun l hl => q _ _ _ _ hd (w.new hl) ⟨l, xs, rfl, upd_same, DrA.mono (w.new (o := .lst xs) hl).ff _ g2⟩⟩
    · obtain ⟨z, xs, rfl, g1, g2⟩ := h1
      exact ⟨z, xs, rfl, Or.inr (Evl.ex_t w.fh g1), fun l hl => q _ _ _ _ hd (w.new hl) ⟨l, xs, rfl, upd_same, DrA.mono (w.new (o := .lst xs) hl).ff _ g2⟩⟩
    · exact hd.elim))) he hpl
theorem EN.tuplec {npos : Pos} (C : Ctx Pg w K mg base N sc k X) (hg : Gi sc "tuple") (hm : mg "tuple" = none)
    (h : EN X e ρ fun d => SeqD d fun ds => P (.tuple ds)) (he : starEach [e] X.env = (false, eval e X.env) :: starEach [] X.env) (hpl : (backTo pos (starEach [] X.env)).any (·.1) = false) : EN X (.Call (.Name "tuple" npos) [e] [] pos) ρ P :=
  EN.callT C call_tuple_of hg hm (by decide +kernel) (LN.cons he (h.mono fun d hd => LN.nil (by
    rintro S F H w vs ⟨v, r, rfl, h1, h2⟩ Q q
    obtain rfl : r = [] := h2
    unfold SeqD at hd
    split at hd
    · obtain ⟨z, xs, rfl, g1, g2⟩ := h1
      exact ⟨z, xs, rfl, Or.inl ⟨SqL.of (w.fh _ _ g1), fun l hl => q _ _ _ _ hd (w.new hl) ⟨l, xs, rfl, SqT.of upd_same, DrA.mono (w.new (o := .tup xs) hl).ff _ g2⟩⟩⟩
    · obtain ⟨z, xs, rfl, g1, g2⟩ := h1
      exact ⟨z, xs, rfl, Or.inr ⟨Evl.ex_t w.fh g1, q _ _ F H hd w.nw ⟨z, xs, rfl, g1, g2⟩⟩⟩
    · exact hd.elim))) he hpl
/-! ### isinstance -/
def tyD : PyData → String
  | .none => "NoneType"
  | .bool _ => "bool"
  | .int _ => "int"
  | .str _ => "str"
  | .list _ => "list"
  | .tuple _ => "tuple"
  | .dict _ => "dict"
theorem tyx_of {F H : Hp} (x : Ex F H) {d : PyData} {v : V} (h : Dr K F d v) : TyX K H v (.type (tyD d)) := by
  cases d with
  | none => rw [show v = .non from h]; exact .base .non
  | bool b => rw [show v = .bl b from h]; exact .base (.bl b)
  | int i => rw [show v = .int i from h]; exact .base (.int i)
  | str z => rw [show v = .str z from h]; exact .base (.str z)
  | list ds => obtain ⟨p, xs, e, h1, _⟩ := h; rw [e]; exact .base (.lst (x _ _ h1))
  | tuple ds =>
    obtain ⟨p, xs, e, h1, _⟩ := h
    rw [e]
    rcases Evl.ex_t x h1 with (q | ⟨o, q⟩) | ⟨o, its, n, q1, q2, _⟩
    · exact .base (.tup q)
    · exact .fTuple q
    · exact .kTuple q1 q2
  | dict ds => obtain ⟨p, xs, e, h1, _⟩ := h; rw [e]; exact .base (.dK (x _ _ h1))
theorem EN.isi {T : Str} {t : String} {npos tp : Pos} (C : Ctx Pg w K mg base N sc k X) (hg : Gi sc "isinstance") (hm : mg "isinstance" = none)
    (hg2 : Gi sc T) (hm2 : mg T = none) (hv : bootBuiltins T = some (.type t)) (hn : T ≠ "__name__") (hdb : (T == ("__debug__" : Str)) = false)
    (h : EN X e ρ fun d => ∃ r, kitB (tyD d) t = some r ∧ P (.bool r)) (he : starEach [e, .Name T tp] X.env = (false, eval e X.env) :: starEach [.Name T tp] X.env) (he2 : starEach [.Name T tp] X.env = (false, eval (.Name T tp) X.env) :: starEach [] X.env)
    (hpl : (backTo pos (starEach [.Name T tp] X.env)).any (·.1) = false) : EN X (.Call (.Name "isinstance" npos) [e, .Name T tp] [] pos) ρ P :=
  EN.by (pe_callB call_isi (by unfold Gl Env.kindOf; rw [C.scope]; exact hg) (by rw [C.mg]; exact hm) (by decide +kernel) (pa_cons pe_w (pa_cons (pe_bltn (v := .ty t) (by unfold Gl Env.kindOf; rw [C.scope]; exact hg2) (by rw [C.mg]; exact hm2) hv rfl hn hdb) pa_nil he2) he) (by decide) (by decide) he hpl)
    fun G σ F H E Q q => h _ σ F H E _ fun d v F1 H1 ⟨r, e1, p⟩ n rd => ⟨v, .ty t, _, _, r, rfl, .ty t, tyx_of n.fh rd, kit_ty e1, q _ _ F1 H1 p n rfl⟩
end
end Kt

namespace Kt
open PySem L2 PyProof.Rows
open Evl (Ex)
/-! ### statements, told over data -/
structure Kn where
  nx : List Sl → Prop
  rt : PyData → Prop
  bk : List Sl → Prop := fun _ => False
  ct : List Sl → Prop := fun _ => False
  rn : List PyData → Prop := fun _ => False
/-- v is a list of ds that was not there in H0, and that nobody knows -/
def NewL (K : PySem.W.Frag) (H0 F H : Hp) (ds : List PyData) (v : V) : Prop := ∃ a xs, v = .ref a ∧ H0 a = none ∧ F a = none ∧ H a = some (.lst xs) ∧ DrA K F ds xs
structure Adm (K : PySem.W.Frag) (G : Gh) (κ : Kn) (D : Ends) : Prop where
  nx : ∀ ρ σ F H, κ.nx ρ → ES K G σ F H ρ → D.nx σ H
  rt : ∀ d v F H, κ.rt d → Nw G.S G.F0 G.H0 F H → Dr K F d v → D.rt v H
  bk : ∀ ρ σ F H, κ.bk ρ → ES K G σ F H ρ → D.bk σ H
  ct : ∀ ρ σ F H, κ.ct ρ → ES K G σ F H ρ → D.ct σ H
  rn : ∀ ds v F H, κ.rn ds → Nw G.S G.F0 G.H0 F H → NewL K G.H0 F H ds v → D.rt v H
def SN (X : Cx) (st : Stmt) (ρ : List Sl) (κ : Kn) : Prop := ∀ (G : Gh) σ F H, ES X.K G σ F H ρ → ∀ D, Adm X.K G κ D → wS X st D σ H
def BN (X : Cx) (sts : List Stmt) (ρ : List Sl) (κ : Kn) : Prop := ∀ (G : Gh) σ F H, ES X.K G σ F H ρ → ∀ D, Adm X.K G κ D → wSs X sts D σ H
def wG (X : Cx) (tg : Expr) : TG := fun v σ H Q => ∃ g, PG X tg g ∧ g v σ H Q
def wGs (X : Cx) (ts : List Expr) : TGs := fun vs σ H Q => ∃ g, PGs X ts g ∧ g vs σ H Q
def wI (X : Cx) (tg iter : Expr) : TI := fun σ H R => ∃ t, PI X tg iter t ∧ t σ H R
section
variable {X : Cx}
theorem pg_w {tg : Expr} : PG X tg (wG X tg) := by
  refine ⟨?_⟩
  intros
  rename_i h
  obtain ⟨t, p, q⟩ := h
  exact p.run _ _ _ _ _ _ _ (by assumption) (by assumption) q
theorem pi_w {tg iter : Expr} : PI X tg iter (wI X tg iter) := ⟨fun pins s σ H R I h => by obtain ⟨t, p, q⟩ := h; exact p.run pins s σ H R I q⟩
end
/-- storing the data d in a target -/
def GN (X : Cx) (tg : Expr) (d : PyData) (ρ : List Sl) (P : List Sl → Prop) : Prop := ∀ (G : Gh) σ F H, ES X.K G σ F H ρ → ∀ v, Dr X.K F d v → ∀ Q : L2.St → Hp → Prop, (∀ ρ' σ' F' H', P ρ' → ES X.K G σ' F' H' ρ' → Ex F F' → Q σ' H') → wG X tg v σ H Q
def GNs (X : Cx) (ts : List Expr) (ds : List PyData) (ρ : List Sl) (P : List Sl → Prop) : Prop := ∀ (G : Gh) σ F H, ES X.K G σ F H ρ → ∀ vs, DrA X.K F ds vs → ∀ Q : L2.St → Hp → Prop, (∀ ρ' σ' F' H', P ρ' → ES X.K G σ' F' H' ρ' → Ex F F' → Q σ' H') → wGs X ts vs σ H Q
section
variable {Pg : Program} {w : World} {K : PySem.W.Frag} {mg : Str → Option Value} {base : Heap} {N : List Str} {sc : Scope} {k j : Nat} {X : Cx} {ρ : List Sl} {P : PyData → Prop} {a b c e : Expr} {pos : Pos} {κ : Kn} {st : Stmt} {rest : List Stmt}
theorem BN.nil (h : κ.nx ρ) : BN X [] ρ κ := fun G σ F H E D A => ⟨_, pss_nil, A.nx ρ σ F H h E⟩
theorem BN.cons (h : SN X st ρ { κ with nx := fun ρ' => BN X rest ρ' κ }) : BN X (st :: rest) ρ κ := fun G σ F H E D A =>
  ⟨_, pss_cons ps_w pss_w, h G σ F H E _ ⟨fun ρ' σ' F' H' p E' => p G σ' F' H' E' D A, A.rt, A.bk, A.ct, A.rn⟩⟩
theorem SN.by {t : TS} (p : PS X st t) (h : ∀ (G : Gh) σ F H, ES X.K G σ F H ρ → ∀ D, Adm X.K G κ D → t D σ H) : SN X st ρ κ := fun G σ F H E D A => ⟨t, p, h G σ F H E D A⟩
theorem SN.pass (h : κ.nx ρ) : SN X (.Pass pos) ρ κ := SN.by ps_pass fun G σ F H E D A => A.nx _ _ _ _ h E
theorem SN.brk (h : κ.bk ρ) : SN X (.Break pos) ρ κ := SN.by ps_break fun G σ F H E D A => A.bk _ _ _ _ h E
theorem SN.cont (h : κ.ct ρ) : SN X (.Continue pos) ρ κ := SN.by ps_continue fun G σ F H E D A => A.ct _ _ _ _ h E
theorem SN.ret (h : EN X e ρ κ.rt) : SN X (.Return (some e) pos) ρ κ := SN.by (ps_ret pe_w) fun G σ F H E D A => h G σ F H E _ fun d v F' H' p n r => A.rt d v F' H' p (E.nw.trans n) r
theorem SN.retN (h : κ.rt .none) : SN X (.Return none pos) ρ κ := SN.by ps_retN fun G σ F H E D A => A.rt .none .non F H h E.nw rfl
theorem SN.drop (hs : swapsWith e none pos.line X.env = pure false) (h : EN X e ρ fun _ => κ.nx ρ) : SN X (.Expr e pos) ρ κ := SN.by (ps_expr pe_w hs) fun G σ F H E D A => h G σ F H E _ fun d v F' H' p n r => A.nx ρ σ F' H' p (E.mono n)
theorem SN.ife {A B : List Stmt} (h : TN X c ρ fun k => (k = true → BN X A ρ κ) ∧ (k = false → BN X B ρ κ)) : SN X (.If c A B pos) ρ κ := SN.by (ps_if pt_w pss_w pss_w) fun G σ F H E D M => h G σ F H E _ fun k F' H' p n => by
  cases k with
  | true => exact iteT (p.1 rfl G σ F' H' (E.mono n) D M)
  | false => exact iteF (p.2 rfl G σ F' H' (E.mono n) D M)
/-- name = e -/
theorem SN.asg {i : Nat} {x : Str} {p2 : Pos} (C : Ctx Pg w K mg base N sc k X) (Fx : ∀ x, X.fn x = true) (hN : N[i]? = some x) (hx : L2.Loc sc x) (hs : swapsWith e (some (.Name x p2)) pos.line X.env = pure false)
    (h : EN X e ρ fun d => κ.nx (ρ.set i (.dat d))) : SN X (.Assign [.Name x p2] e pos) ρ κ :=
  SN.by (ps_set (i := i) (by rw [C.nn]; exact C.nd) (by rw [C.nn]; exact hN) (by unfold L2.Loc; rw [C.scope]; exact hx) pe_w hs (.inl (Fx x))) fun G σ F H E D A => h G σ F H E _ fun d v F' H' p n r => A.nx _ _ _ _ p ((E.mono n).set r)
/-- name = [..], a list that will change -/
theorem SN.own {i : Nat} {x : Str} {p2 p3 : Pos} {es : List Expr} (C : Ctx Pg w K mg base N sc k X) (Fx : ∀ x, X.fn x = true) (hN : N[i]? = some x) (hx : L2.Loc sc x) (hs : swapsWith (.List es p3) (some (.Name x p2)) pos.line X.env = pure false)
    (h : LN X es ρ fun ds => ds.length ≤ sizeLine ∧ κ.nx (ρ.set i (.own ds))) : SN X (.Assign [.Name x p2] (.List es p3) pos) ρ κ :=
  SN.by (ps_set (i := i) (by rw [C.nn]; exact C.nd) (by rw [C.nn]; exact hN) (by unfold L2.Loc; rw [C.scope]; exact hx) (pe_lst pa_w) hs (.inl (Fx x))) fun G σ F H E D A =>
    h G σ F H E _ fun ds vs F' H' ⟨hl, p⟩ n r => ⟨by rw [r.length]; exact hl, fun z hz => A.nx _ _ _ _ p ((E.mono n).setOwn hz r)⟩
/-- an own list is frozen -/
theorem BN.freeze {i : Nat} {ds : List PyData} (hi : ρ[i]? = some (.own ds)) (h : BN X rest (ρ.set i (.dat (.list ds))) κ) : BN X rest ρ κ := fun G σ F H E D A => by
  obtain ⟨F', v, _, _, _, _, E'⟩ := E.freeze hi
  exact h G σ F' H E' D A
theorem SN.freeze {i : Nat} {ds : List PyData} (hi : ρ[i]? = some (.own ds)) (h : SN X st (ρ.set i (.dat (.list ds))) κ) : SN X st ρ κ := fun G σ F H E D A => by
  obtain ⟨F', v, _, _, _, _, E'⟩ := E.freeze hi
  exact h G σ F' H E' D A
theorem BN.weak {ρ' : List Sl} (hl : ρ'.length = ρ.length) (hw : ∀ (i : Nat) s, ρ'[i]? = some s → s = .no ∨ ρ[i]? = some s) (h : BN X rest ρ' κ) : BN X rest ρ κ := fun G σ F H E D A => h G σ F H (E.weak hl hw) D A
/-- r.append(e), r a name -/
theorem SN.app {i : Nat} {x : Str} {p1 p2 p3 : Pos} {ds : List PyData} (C : Ctx Pg w K mg base N sc k X) (hN : N[i]? = some x) (hv : Vis sc x) (hi : ρ[i]? = some (.own ds))
    (h : EN X e ρ fun d => ds.length < sizeLine ∧ κ.nx (ρ.set i (.own (ds ++ [d]))))
    (hs : swapsWith (.Call (.Attribute (.Name x p1) "append" p2) [e] [] p3) none pos.line X.env = pure false)
    (hbase : attributeBase (.Name x p1) "append" X.env (eval (.Name x p1) X.env) = eval (.Name x p1) X.env)
    (hfew : ((backTo p3 (starEach [e] X.env)).all (fun x => !x.1) && (backToKw p3 (keywordEach [] X.env)).all (fun x => x.1.isSome) && decide ([e].length + ([] : List Keyword).length + (if ([] : List Keyword).isEmpty then 0 else 1) < 30)) = true)
    (hline : (p2.endLine == p3.line) = true) (he : starEach [e] X.env = (false, eval e X.env) :: starEach [] X.env) (hplain : (backTo p3 (starEach [] X.env)).any (·.1) = false)
    (hd : (x == ("__debug__" : Str)) = false := by decide) (hcd : (x == ("__classdict__" : Str)) = false := by decide) : SN X (.Expr (.Call (.Attribute (.Name x p1) "append" p2) [e] [] p3) pos) ρ κ :=
  SN.by (ps_expr (pe_bm PySem.F.plainAttrs_list PySem.F.slot_list_append PySem.F.type_list_append mt_append (pe_var (i := i) (by rw [C.nn]; exact hN) (by rw [C.scope]; exact hv) hd hcd) (pa_cons pe_w pa_nil he) hbase hfew hline he hplain) hs)
    fun G σ F H E D A => by
      obtain ⟨z, xs, h1, h2, h3, h4, h5⟩ := E.sl i _ hi
      refine ⟨_, h1, Or.inl ⟨rfl, xs, SqL.of h4⟩, h G σ F H E _ ?_⟩
      intro d v F' H' ⟨hl, p⟩ n r
      have E' := E.mono n
      obtain ⟨z', xs', g1, g2, g3, g4, g5⟩ := E'.sl i _ hi
      rw [h1] at g1
      cases g1
      exact ⟨z, xs', v, rfl, rfl, g4, by rw [g5.length]; exact hl, A.nx _ _ _ _ p (E'.mut hi h1 (g5.append ⟨v, [], rfl, r, rfl⟩))⟩
/-! reading an own list -/
theorem EN.lenO {i : Nat} {x : Str} {ds : List PyData} {npos p1 : Pos} (C : Ctx Pg w K mg base N sc k X) (hg : Gi sc "len") (hm : mg "len" = none) (hN : N[i]? = some x) (hv : Vis sc x) (hi : ρ[i]? = some (.own ds)) (p : P (.int ds.length))
    (he : starEach [.Name x p1] X.env = (false, eval (.Name x p1) X.env) :: starEach [] X.env) (hpl : (backTo pos (starEach [] X.env)).any (·.1) = false) (hd : (x == ("__debug__" : Str)) = false := by decide) (hcd : (x == ("__classdict__" : Str)) = false := by decide) : EN X (.Call (.Name "len" npos) [.Name x p1] [] pos) ρ P :=
  EN.by (pe_callB call_len (by unfold Gl Env.kindOf; rw [C.scope]; exact hg) (by rw [C.mg]; exact hm) (by decide +kernel) (pa_cons (pe_var (i := i) (by rw [C.nn]; exact hN) (by rw [C.scope]; exact hv) hd hcd) pa_nil he) (by decide) (by decide) he hpl) fun G σ F H E Q q => by
    obtain ⟨z, xs, h1, h2, h3, h4, h5⟩ := E.sl i _ hi
    exact ⟨_, h1, _, xs.length, rfl, Or.inl ⟨xs, SqL.of h4, rfl⟩, q (.int xs.length) _ F H (by rw [h5.length]; exact p) E.wk.nw rfl⟩
theorem EN.ixO {i : Nat} {x : Str} {ds : List PyData} {p1 : Pos} (C : Ctx Pg w K mg base N sc k X) (hN : N[i]? = some x) (hv : Vis sc x) (hi : ρ[i]? = some (.own ds)) (hs : PlainIx b)
    (h : EN X b ρ fun y => ∃ n d, y = .int n ∧ atI ds n = some d ∧ P d) (hd : (x == ("__debug__" : Str)) = false := by decide) (hcd : (x == ("__classdict__" : Str)) = false := by decide) : EN X (.Subscript (.Name x p1) b pos) ρ P :=
  EN.by (pe_ix ix_list (pe_var (i := i) (by rw [C.nn]; exact hN) (by rw [C.scope]; exact hv) hd hcd) pe_w hs) fun G σ F H E Q q => by
    obtain ⟨z, xs, h1, h2, h3, h4, h5⟩ := E.sl i _ hi
    refine ⟨_, h1, h G σ F H E _ ?_⟩
    rintro y v F' H' ⟨n, d, rfl, e1, p⟩ nw r
    obtain ⟨z', xs', g1, g2, g3, g4, g5⟩ := (E.mono nw).sl i _ hi
    rw [h1] at g1
    cases g1
    obtain ⟨v', e2, r2⟩ := atI_dr g5 e1
    exact ⟨z, xs', n, v', rfl, r, SqL.of g4, e2, q d v' F' H' p nw r2⟩
/-! targets -/
theorem GN.name {i : Nat} {x : Str} {d : PyData} {P : List Sl → Prop} (C : Ctx Pg w K mg base N sc k X) (hN : N[i]? = some x) (hx : L2.Loc sc x) (hf : X.fn x = true ∨ sc.names.lookup x = some .local) (p : P (ρ.set i (.dat d))) : GN X (.Name x pos) d ρ P := fun G σ F H E v r Q q =>
  ⟨_, pg_name (i := i) (by rw [C.nn]; exact C.nd) (by rw [C.nn]; exact hN) (by unfold L2.Loc; rw [C.scope]; exact hx) (by rw [C.scope]; exact hf), q _ _ _ _ p (E.set r) (Ex.refl F)⟩
theorem GNs.nil {P : List Sl → Prop} (p : P ρ) : GNs X [] [] ρ P := fun G σ F H E vs r Q q => ⟨_, pgs_nil, r, q _ _ _ _ p E (Ex.refl F)⟩
theorem GNs.cons {d : PyData} {ds : List PyData} {es : List Expr} {P : List Sl → Prop} (hs : (assignEach (e :: es) X.env).map (·.2) = assign e X.env :: (assignEach es X.env).map (·.2)) (h : GN X e d ρ fun ρ' => GNs X es ds ρ' P) : GNs X (e :: es) (d :: ds) ρ P := fun G σ F H E vs ⟨v, r, h1, h2, h3⟩ Q q =>
  ⟨_, pgs_cons pg_w (⟨fun pins s σ H vs us Q I r h => by obtain ⟨t, p, q⟩ := h; exact p.run pins s σ H vs us Q I r q⟩ : PGs X es (wGs X es)) hs, ⟨v, r, h1, h G σ F H E v h2 _ fun ρ' σ' F' H' p E' x => p G σ' F' H' E' r (DrA.mono x _ h3) Q fun ρ2 σ2 F2 H2 p2 E2 x2 => q ρ2 σ2 F2 H2 p2 E2 (x.trans x2)⟩⟩
theorem GN.tup {ds : List PyData} {es : List Expr} {kk : Nat} {n : Nat} {P : List Sl → Prop} (C : Ctx Pg w K mg base N sc k X) (hn : (assignEach es X.env).length = n) (hst : (assignEach es X.env).findIdx? (·.1) = none) (hl : ds.length = n) (h : GNs X es ds ρ P) : GN X (.Tuple es kk pos) (.tuple ds) ρ P := fun G σ F H E v ⟨z, xs, h1, h2, h3⟩ Q q =>
  ⟨_, pg_tup C.calm (⟨fun pins s σ H vs us Q I r h => by obtain ⟨t, p, q⟩ := h; exact p.run pins s σ H vs us Q I r q⟩ : PGs X es (wGs X es)) hn hst, ⟨z, xs, h1, Evl.ex_t E.nw.fh h2, by rw [h3.length]; exact hl, h G σ F H E xs h3 Q q⟩⟩
/-- target = e -/
theorem SN.asgT {tg : Expr} (C : Ctx Pg w K mg base N sc k X) (hs : swapsWithSole [tg] e pos.line X.env = pure false) (hw : ∀ en : Env, en.scope = sc → swappedStores [tg] e en = pure none) (h1 : (assignEach [tg] X.env).map (·.2) = [assign tg X.env]) (h : EN X e ρ fun d => GN X tg d ρ κ.nx) : SN X (.Assign [tg] e pos) ρ κ :=
  SN.by (ps_asg pe_w pg_w hs (hw _ C.scope) h1) fun G σ F H E D A => h G σ F H E _ fun d v F' H' p n r => p G σ F' H' (E.mono n) v r _ fun ρ2 σ2 F2 H2 p2 E2 _ => A.nx ρ2 σ2 F2 H2 p2 E2
/-! ### what is walked -/
structure IterOk (K : PySem.W.Frag) (F0 : Hp) (J : It) (ds : List PyData) : Prop where
  go : ∀ S F H, Ex F0 F → Wk S F H → ∀ i d, ds[i]? = some d → J.go i H ∧ ∀ x H', J.yld i H x H' → ∃ F', Nw S F H F' H' ∧ Dr K F' d x
  stop : ∀ F H, Ex F0 F → Ex F H → J.stop ds.length H
def IN (X : Cx) (tg iter : Expr) (ρ : List Sl) (P : List PyData → Prop) : Prop := ∀ (G : Gh) σ F H, ES X.K G σ F H ρ → ∀ R : It → Hp → Prop, (∀ ds J F' H', P ds → Nw G.S F H F' H' → IterOk X.K F' J ds → R J H') → wI X tg iter σ H R
theorem IterOk.range (lo : Int) (n : Nat) (F : Hp) : IterOk K F (Itr lo n) ((List.range n).map fun i => PyData.int (lo + (i : Nat))) := by
  refine ⟨fun S F1 H _ W i d e => ?_, fun F1 H _ _ => ?_⟩
  · rw [List.getElem?_map] at e
    by_cases hi : i < n
    · rw [List.getElem?_range hi] at e
      cases e
      refine ⟨hi, fun x H' y => ?_⟩
      obtain ⟨e1, e2⟩ := y
      subst e1 e2
      exact ⟨F1, W.nw, rfl⟩
    · rw [List.getElem?_eq_none (by rw [List.length_range]; omega)] at e
      cases e
  · rw [List.length_map, List.length_range]
    exact Nat.le_refl _
theorem IterOk.list {a : Addr} {xs : List V} {ds : List PyData} {F : Hp} (h : F a = some (.lst xs)) (r : DrA K F ds xs) : IterOk K F (Itl K a) ds := by
  refine ⟨fun S F1 H x W i d e => ?_, fun F1 H x y => ?_⟩
  · have hs : SqL K H a xs := SqL.of (W.fh _ _ (x _ _ h))
    obtain ⟨v, e1, r1⟩ := r.get e
    refine ⟨⟨xs, v, hs, e1⟩, fun z H' y => ?_⟩
    obtain ⟨e2, y⟩ := y
    subst e2
    have := y xs hs
    rw [e1] at this
    cases this
    exact ⟨F1, W.nw, Dr.mono x d r1⟩
  · exact ⟨xs, SqL.of (y _ _ (x _ _ h)), by rw [r.length]; exact Nat.le_refl _⟩
theorem IterOk.tup {a : Addr} {xs : List V} {ds : List PyData} {F : Hp} (h : SqT K F a xs) (r : DrA K F ds xs) : IterOk K F (Itt K a) ds := by
  refine ⟨fun S F1 H x W i d e => ?_, fun F1 H x y => ?_⟩
  · have hs : SqT K H a xs := Evl.ex_t (x.trans W.fh) h
    obtain ⟨v, e1, r1⟩ := r.get e
    refine ⟨⟨xs, v, hs, e1⟩, fun z H' y => ?_⟩
    obtain ⟨e2, y⟩ := y
    subst e2
    have := y xs hs
    rw [e1] at this
    cases this
    exact ⟨F1, W.nw, Dr.mono x d r1⟩
  · exact ⟨xs, Evl.ex_t (x.trans y) h, by rw [r.length]; exact Nat.le_refl _⟩
section
variable {pins : List (Addr × Obj)} {σ : L2.St} {H : Hp} {s1 : Shared} {tg : Expr} {R : It → Hp → Prop} {a : Addr} {xs : List V}
/-- an iterator just made -/
theorem newIt (I : Inv X pins σ H s1) {J : It} {T : Nat → Heap → Prop} (o : Obj) (hT : Turn X.prog X.w X.K tg J [s1.heap.objs.size] s1.heap.objs.size T)
    (h0 : T 0 (s1.heap.push o)) (q : R J H) : PIE X pins σ tg R (.ref s1.heap.objs.size) { s1 with heap := s1.heap.push o } := by
  refine ⟨s1.heap.objs.size, [s1.heap.objs.size], T, J, H, rfl, ?_, hT, h0, ?_, q⟩
  · exact I.kept (t' := s1.toks) (fun b u e => Heap.get?_push_of_some _ e)
  · intro b hb
    obtain rfl : b = s1.heap.objs.size := List.mem_singleton.mp hb
    exact I.fpOk (Nat.le_refl _) (I.hok.fresh (Nat.le_refl _))
theorem iter_L (I : Inv X pins σ H s1) (hq : SqL X.K H a xs) (q : R (Itl X.K a) H) : wpAny (model X.prog X.w) X.A (pyIter (.ref a)) (PIE X pins σ tg R) X.xe s1 := by
  obtain ⟨its, rv, pl, _⟩ := I.list hq
  exact wpAny_pyIter_list pl.isList (newIt I _ (turn_list a _) ⟨_, Heap.get?_push_size _ rfl, rfl, rfl⟩ q)
theorem iter_T (I : Inv X pins σ H s1) (hq : SqT X.K H a xs) (q : R (Itt X.K a) H) : wpAny (model X.prog X.w) X.A (pyIter (.ref a)) (PIE X pins σ tg R) X.xe s1 := by
  obtain ⟨its, rv, pt, _⟩ := I.tuple hq
  exact wpAny_pyIter_tuple (show s1.heap.IsTuple a its.toArray from pt) (newIt I _ (turn_tuple a _) ⟨_, Heap.get?_push_size _ rfl, rfl, rfl⟩ q)
end
theorem IN.seq {tg : Expr} {P : List PyData → Prop} (h : EN X e ρ fun d => SeqD d P) : IN X tg e ρ P := fun G σ F H E R q => by
  refine ⟨fun σ H R => wE X e σ H fun x H1 => (∃ a, x = .ref a ∧ (∃ xs, SqL X.K H1 a xs) ∧ R (Itl X.K a) H1) ∨ (∃ a, x = .ref a ∧ (∃ xs, SqT X.K H1 a xs) ∧ R (Itt X.K a) H1), ⟨fun pins s σ H R I hw => ?_⟩, ?_⟩
  · refine thn (pe_w.run pins s σ H _ I hw) ?_
    rintro v s1 ⟨x, H1, I1, rx, ⟨a, rfl, ⟨xs, hx⟩, hr⟩ | ⟨a, rfl, ⟨xs, hx⟩, hr⟩⟩
    · obtain rfl : v = Value.ref a := rx
      exact iter_L I1 hx hr
    · obtain rfl : v = Value.ref a := rx
      exact iter_T I1 hx hr
  · refine h G σ F H E _ fun d v F' H' p n r => ?_
    have p' : SeqD d P := p
    unfold SeqD at p'
    split at p'
    · obtain ⟨z, xs, rfl, g1, g2⟩ := r
      exact Or.inl ⟨z, rfl, ⟨xs, SqL.of (n.fh _ _ g1)⟩, q _ _ F' H' p' n (IterOk.list g1 g2)⟩
    · obtain ⟨z, xs, rfl, g1, g2⟩ := r
      exact Or.inr ⟨z, rfl, ⟨xs, Evl.ex_t n.fh g1⟩, q _ _ F' H' p' n (IterOk.tup g1 g2)⟩
    · exact p'.elim
def rngD (lo hi : Int) : List PyData := (List.range (hi - lo).toNat).map fun i => PyData.int (lo + (i : Nat))
theorem IN.r1 {tg : Expr} {p1 : Pos} {P : List PyData → Prop} (C : Ctx Pg w K mg base N sc k X) (hg : Gi sc "range") (hm : mg "range" = none) (hs : starEach [e] X.env = [(false, eval e X.env)]) (he : starEach [e] X.env = (false, eval e X.env) :: starEach [] X.env)
    (h : EN X e ρ fun d => ∃ n, d = .int n ∧ -(2 ^ 62) ≤ n ∧ n < 2 ^ 62 ∧ P (rngD 0 n)) : IN X tg (.Call (.Name "range" p1) [e] [] pos) ρ P := fun G σ F H E R q =>
  ⟨_, pi_range1 (by unfold Gl Env.kindOf; rw [C.scope]; exact hg) (by rw [C.mg]; exact hm) (pa_cons pe_w pa_nil he) hs, h G σ F H E _ fun d v F' H' ⟨n, e1, h1, h2, p⟩ nw r => by
    subst e1
    obtain rfl : v = .int n := r
    refine ⟨n, rfl, h1, h2, q _ _ F' H' p nw ?_⟩
    have := IterOk.range (K := X.K) 0 n.toNat F'
    unfold rngD
    rw [Int.sub_zero]
    exact this⟩
theorem IN.r2 {tg : Expr} {p1 : Pos} {P : List PyData → Prop} (C : Ctx Pg w K mg base N sc k X) (hg : Gi sc "range") (hm : mg "range" = none) (hs : starEach [a, b] X.env = [(false, eval a X.env), (false, eval b X.env)]) (hs2 : starEach [b] X.env = [(false, eval b X.env)])
    (he : starEach [a, b] X.env = (false, eval a X.env) :: starEach [b] X.env) (he2 : starEach [b] X.env = (false, eval b X.env) :: starEach [] X.env)
    (h : EN X a ρ fun x => EN X b ρ fun y => ∃ lo hi, x = .int lo ∧ y = .int hi ∧ (-(2 ^ 62) ≤ lo ∧ lo < 2 ^ 62 ∧ -(2 ^ 62) ≤ hi ∧ hi < 2 ^ 62) ∧ P (rngD lo hi)) : IN X tg (.Call (.Name "range" p1) [a, b] [] pos) ρ P := fun G σ F H E R q =>
  ⟨_, pi_range2 (by unfold Gl Env.kindOf; rw [C.scope]; exact hg) (by rw [C.mg]; exact hm) (pa_cons pe_w (pa_cons pe_w pa_nil he2) he) hs hs2, two (R := fun x y H2 => ∃ i j : Int, [x, y] = [V.int i, V.int j] ∧ (-(2 ^ 62) ≤ i ∧ i < 2 ^ 62 ∧ -(2 ^ 62) ≤ j ∧ j < 2 ^ 62) ∧ R (Itr i (j - i).toNat) H2) h E fun x y v u F' H' ⟨lo, hi, e1, e2, hb, p⟩ nw rx ry => by
    subst e1 e2
    obtain rfl : v = .int lo := rx
    obtain rfl : u = .int hi := ry
    exact ⟨lo, hi, rfl, hb, q _ _ F' H' p nw (IterOk.range (K := X.K) lo (hi - lo).toNat F')⟩⟩
/-! ### loops -/
theorem ES.rebase {G : Gh} {σ : L2.St} {F H F1 : Hp} (E : ES K G σ F H ρ) (x : Ex F1 F) (h : ∀ a o, G.H0 a = some o → F a = F1 a) : ES K { G with F0 := F1 } σ F H ρ :=
  ⟨⟨x, E.nw.fh, E.nw.hh, h, E.nw.src, E.nw.sf⟩, E.s0, E.len, fun i s hs => E.sl i s hs, E.ap⟩
theorem ES.unbase {G : Gh} {σ : L2.St} {F H F1 : Hp} (E : ES K { G with F0 := F1 } σ F H ρ) (x : Ex G.F0 F1) (h : ∀ a o, G.H0 a = some o → F1 a = G.F0 a) : ES K G σ F H ρ :=
  ⟨⟨x.trans E.nw.ff, E.nw.fh, E.nw.hh, fun a o q => (E.nw.old a o q).trans (h a o q), E.nw.src, E.nw.sf⟩, E.s0, E.len, fun i s hs => E.sl i s hs, E.ap⟩
theorem SN.for {tg iter : Expr} {body : List Stmt} (C : Ctx Pg w K mg base N sc k X)
    (hf : ∀ x, foldedSetIterable iter X.env x = pure x)
    (h : IN X tg iter ρ fun ds => ∃ I : Nat → List Sl → Prop, I 0 ρ ∧ (∀ m d ρ', ds[m]? = some d → I m ρ' → GN X tg d ρ' fun ρ2 => BN X body ρ2 { κ with nx := I (m + 1), ct := I (m + 1), bk := κ.nx }) ∧ ∀ ρ', I ds.length ρ' → κ.nx ρ') : SN X (.For tg iter body [] pos) ρ κ :=
  SN.by (ps_for (by rw [C.xe]; exact PassesOwn.never) C.calm pi_w pg_w pss_w hf) fun G σ F H E D A => by
    refine h G σ F H E _ ?_
    rintro ds J F1 H1 ⟨I, i0, turn, done⟩ n1 J1
    have E1 := E.mono n1
    have b1 : Ex G.F0 F1 := E1.nw.ff
    have b2 : ∀ a o, G.H0 a = some o → F1 a = G.F0 a := E1.nw.old
    refine ⟨fun i m σ' H' => m = ds.length - i ∧ i ≤ ds.length ∧ ∃ F' ρ', I i ρ' ∧ ES X.K { G with F0 := F1 } σ' F' H' ρ', ⟨_, rfl, Nat.zero_le _, F1, ρ, i0, E1.rebase (Ex.refl F1) (fun _ _ _ => rfl)⟩, ?_⟩
    rintro i m σ' H' ⟨rfl, hi, F', ρ', hI, E'⟩
    have x1 : Ex F1 F' := E'.nw.ff
    by_cases hlt : i < ds.length
    · have hd : ds[i]? = some ds[i] := List.getElem?_eq_getElem hlt
      have jg := (J1.go G.S F' H' x1 E'.wk i _ hd)
      refine Or.inr ⟨jg.1, fun σ2 H2 => ∃ F2 ρ2, I (i + 1) ρ2 ∧ ES X.K { G with F0 := F1 } σ2 F2 H2 ρ2, ?_, ?_⟩
      · rintro σ2 H2 ⟨F2, ρ2, p2, E2⟩
        exact ⟨ds.length - (i + 1), by omega, rfl, hlt, F2, ρ2, p2, E2⟩
      · intro x H2 hy
        obtain ⟨F2, n2, r2⟩ := jg.2 x H2 hy
        refine turn i _ ρ' hd hI { G with F0 := F1 } σ' F2 H2 (E'.mono n2) x r2 _ ?_
        intro ρ3 σ3 F3 H3 p3 E3 x3
        refine p3 { G with F0 := F1 } σ3 F3 H3 E3 _ ⟨?_, ?_, ?_, ?_, fun ds v F4 H4 p4 n4 r4 => A.rn ds v F4 H4 p4 ⟨b1.trans n4.ff, n4.fh, n4.hh, fun a o q => (n4.old a o q).trans (b2 a o q), n4.src, n4.sf⟩ r4⟩
        · intro ρ4 σ4 F4 H4 p4 E4
          exact ⟨F4, ρ4, p4, E4⟩
        · intro d v F4 H4 p4 n4 r4
          exact A.rt d v F4 H4 p4 ⟨b1.trans n4.ff, n4.fh, n4.hh, fun a o q => (n4.old a o q).trans (b2 a o q), n4.src, n4.sf⟩ r4
        · intro ρ4 σ4 F4 H4 p4 E4
          exact A.nx ρ4 σ4 F4 H4 p4 (E4.unbase b1 b2)
        · intro ρ4 σ4 F4 H4 p4 E4
          exact ⟨F4, ρ4, p4, E4⟩
    · obtain rfl : i = ds.length := by omega
      exact Or.inl ⟨J1.stop F' H' x1 E'.nw.fh, A.nx ρ' σ' F' H' (done ρ' hI) (E'.unbase b1 b2)⟩
theorem SN.while {body : List Stmt} (C : Ctx Pg w K mg base N sc k X) (I : Nat → List Sl → Prop) (m0 : Nat) (i0 : I m0 ρ)
    (h : ∀ m ρ', I m ρ' → TN X c ρ' fun b => (b = true → BN X body ρ' { κ with nx := fun ρ2 => ∃ m', m' < m ∧ I m' ρ2, ct := fun ρ2 => ∃ m', m' < m ∧ I m' ρ2, bk := κ.nx }) ∧ (b = false → κ.nx ρ')) : SN X (.While c body [] pos) ρ κ :=
  SN.by (ps_while (by rw [C.xe]; exact PassesOwn.never) pt_w pss_w) fun G σ F H E D A => by
    refine ⟨fun m σ' H' => ∃ F' ρ', I m ρ' ∧ ES X.K G σ' F' H' ρ', ⟨m0, F, ρ, i0, E⟩, ?_⟩
    rintro m σ' H' ⟨F', ρ', hI, E'⟩
    refine h m ρ' hI G σ' F' H' E' _ fun b F2 H2 p n2 => ?_
    cases b with
    | false => exact iteF (A.nx ρ' σ' F2 H2 (p.2 rfl) (E'.mono n2))
    | true =>
      refine iteT ⟨fun σ3 H3 => ∃ m', m' < m ∧ ∃ F3 ρ3, I m' ρ3 ∧ ES X.K G σ3 F3 H3 ρ3, ?_, ?_⟩
      · rintro σ3 H3 ⟨m', hm, F3, ρ3, q3, E3⟩
        exact ⟨m', hm, F3, ρ3, q3, E3⟩
      · refine p.1 rfl G σ' F2 H2 (E'.mono n2) _ ⟨?_, A.rt, A.nx, ?_, A.rn⟩
        · rintro ρ3 σ3 F3 H3 ⟨m', hm, q3⟩ E3
          exact ⟨m', hm, F3, ρ3, q3, E3⟩
        · rintro ρ3 σ3 F3 H3 ⟨m', hm, q3⟩ E3
          exact ⟨m', hm, F3, ρ3, q3, E3⟩
end
end Kt

namespace Kt
open PySem L2 PyProof.Rows
open Evl (Ex)
section
variable {Pg : Program} {w : World} {K : PySem.W.Frag} {mg : Str → Option Value} {base : Heap} {N : List Str} {sc : Scope} {k j : Nat} {X : Cx} {ρ : List Sl} {P : PyData → Prop} {a b c e : Expr} {pos : Pos} {κ : Kn} {st : Stmt} {rest : List Stmt}
/-! ### list comprehensions -/
/-- a comprehension's tests -/
def wTs (X : Cx) (ifs : List Expr) : TT := fun σ H Q => ∃ t, PTs X ifs t ∧ t σ H Q
def CN (X : Cx) (ifs : List Expr) (ρ : List Sl) (P : Bool → Prop) : Prop := match ifs with
  | [] => P true
  | [c] => TN X c ρ P
  | _ => False
theorem pts_w {ifs : List Expr} : PTs X ifs (wTs X ifs) := ⟨fun pins s σ H Q I h => by obtain ⟨t, p, q⟩ := h; exact p.run pins s σ H Q I q⟩
theorem CN.go {ifs : List Expr} {P : Bool → Prop} (h : CN X ifs ρ P) {G : Gh} {σ F H} (E : ES X.K G σ F H ρ) {Q : Bool → Hp → Prop} (q : ∀ b F' H', P b → Nw G.S F H F' H' → Q b H') : wTs X ifs σ H Q := by
  unfold CN at h
  split at h
  · exact ⟨_, pts_nil, q true F H h E.wk.nw⟩
  · exact ⟨_, pts_one pt_w, h _ σ F H E Q q⟩
  · exact h.elim
def isBlk (X : Cx) (scope : Scope) (Y : Cx) : Prop := ∃ (s : Shared) (H : Hp) (Cl : Addr) (cl : List (Str × Addr)) (fp : List Addr), Y = X.blk s H scope (compEnvC scope cl Cl X.env) fp
def bT (X : Cx) (scope : Scope) (ifs : List Expr) : TT := fun σ H Q => ∀ Y, isBlk X scope Y → wTs Y ifs σ H Q
def bE (X : Cx) (scope : Scope) (e : Expr) : TE := fun σ H Q => ∀ Y, isBlk X scope Y → wE Y e σ H Q
theorem isBlk.ctx {scope : Scope} {Y : Cx} (C : Ctx Pg w K mg base N sc k X) (h : isBlk X scope Y) : Ctx Pg w K mg base N (relS scope sc) k Y := by
  obtain ⟨s, H, Cl, cl, fp, rfl⟩ := h
  refine ⟨C.prog, C.wd, C.kk, C.mg, C.base, C.nn, ?_, C.room, C.calm, rfl, C.nd, C.gd⟩
  rw [← C.scope]
  rfl
theorem bT_ok {scope : Scope} {ifs : List Expr} {Y : Cx} (h : isBlk X scope Y) : PTs Y ifs (bT X scope ifs) := ⟨fun pins s σ H Q I q => pts_w.run pins s σ H Q I (q Y h)⟩
theorem bE_ok {scope : Scope} {Y : Cx} (h : isBlk X scope Y) : PE Y e (bE X scope e) := ⟨fun pins s σ H Q I q => pe_w.run pins s σ H Q I (q Y h)⟩
theorem bG_ok {scope : Scope} {Y : Cx} {x : Str} {tp : Pos} {i : Nat} (C : Ctx Pg w K mg base N sc k X) (hN : N[i]? = some x) (hx : (relS scope sc).names.lookup x = some .local) (h : isBlk X scope Y) : PG Y (.Name x tp) (gName i) := by
  have C' := h.ctx C
  exact pg_name (i := i) (by rw [C'.nn]; exact C.nd) (by rw [C'.nn]; exact hN) (by rw [C'.scope]; exact Or.inl hx) (by rw [C'.scope]; exact Or.inr hx)
/-- what is asked of a comprehension: I holds of what is made so far -/
def LcI (Pg : Program) (w : World) (K : PySem.W.Frag) (mg : Str → Option Value) (base : Heap) (N : List Str) (sc : Scope) (k : Nat) (ρ : List Sl) (i : Nat) (scope : Scope) (ifs : List Expr) (elt : Expr) (ds : List PyData) (P : PyData → Prop) : Prop :=
  ds.length ≤ 100000 ∧ ∃ I : Nat → List PyData → Prop, I 0 [] ∧ (∀ m d acc, ds[m]? = some d → I m acc → ∀ Y : Cx, Ctx Pg w K mg base N (relS scope sc) k Y →
        CN Y ifs (ρ.set i (.dat d)) fun b => (b = true → ∀ Y : Cx, Ctx Pg w K mg base N (relS scope sc) k Y → EN Y elt (ρ.set i (.dat d)) fun y => I (m + 1) (acc ++ [y])) ∧ (b = false → I (m + 1) acc)) ∧ ∀ acc, I ds.length acc → P (.list acc)
theorem lc_readN {elt tg iter : Expr} {ifs : List Expr} {scope : Scope} {i : Nat} (C : Ctx Pg w K mg base N sc k X)
    (h : IN X tg iter ρ fun ds => LcI Pg w K mg base N sc k ρ i scope ifs elt ds P) (G : Gh) (σ : L2.St) (F H : Hp) (E : ES X.K G σ F H ρ) (Q : VK) (q : ∀ ds v F' H', P (.list ds) → Nw G.S F H F' H' → NewL X.K H F' H' ds v → Q v H') :
    tLc (wI X tg iter) (gName i) (bT X scope ifs) (bE X scope elt) [i] σ H Q := by
  have c1 := C.prog; have c2 := C.wd; have c3 := C.kk; have c4 := C.mg; have c5 := C.base; have c6 := C.nn; have c7 := C.scope
  subst c1 c2 c3 c4 c5 c6 c7
  refine h G σ F H E _ ?_
  rintro ds J F1 H1 ⟨hl, I, i0, turn, done⟩ n1 J1 D hD
  have E1 := E.mono n1
  have nD : ¬ inS G.S D := fun z => by
    obtain ⟨o, e⟩ := srcOk_some E1.nw.src z
    rw [hD] at e; cases e
  have nO := E1.wk.newO (o := .lst []) hD
  refine ⟨fun m r H' => r = ds.length - m ∧ m ≤ ds.length ∧ ∃ F' acc xs, Nw G.S F1 H1 F' H' ∧ F' D = none ∧ H' D = some (.lst xs) ∧ DrA X.K F' acc xs ∧ I m acc ∧ acc.length ≤ m, ⟨_, rfl, Nat.zero_le _, F1, [], [], nO, Evl.fresh_back E1.wk.fh hD, upd_same, rfl, i0, Nat.le_refl _⟩, ?_⟩
  rintro m r H' ⟨rfl, hm, F', acc, xs, n2, hF, hH, ra, hI, hal⟩
  by_cases hlt : m < ds.length
  · have hd : ds[m]? = some ds[m] := List.getElem?_eq_getElem hlt
    have jg := J1.go G.S F' H' n2.ff n2.wk m _ hd
    refine Or.inr ⟨jg.1, fun H' => ∃ F' acc xs, Nw G.S F1 H1 F' H' ∧ F' D = none ∧ H' D = some (.lst xs) ∧ DrA X.K F' acc xs ∧ I (m + 1) acc ∧ acc.length ≤ m + 1, ?_, ?_⟩
    · rintro H3 ⟨F3, acc3, xs3, z⟩
      exact ⟨ds.length - (m + 1), by omega, rfl, hlt, F3, acc3, xs3, z⟩
    · intro v H2 hy
      obtain ⟨F2, n3, r3⟩ := jg.2 v H2 hy
      have n4 := n2.trans n3
      have E4 := (E1.mono n4).set (i := i) r3
      have hσ : (wipe σ [i]).set i (some v) = σ.set i (some v) := by
        show (σ.set i none).set i (some v) = _
        rw [List.set_set]
      show wipe ((wipe σ [i]).set i (some v)) [i] = wipe σ [i] ∧ _
      refine ⟨?_, ?_⟩
      · rw [hσ]
        show (σ.set i (some v)).set i none = σ.set i none
        rw [List.set_set]
      · show bT X scope ifs ((wipe σ [i]).set i (some v)) H2 _
        rw [hσ]
        rintro Y hY
        have hK : Y.K = X.K := (hY.ctx C).kk
        have t1 := turn m _ acc hd hI Y (hY.ctx C)
        refine t1.go (G := G) (F := F2) (by rw [hK]; exact E4) ?_
        intro b F5 H5 p5 n5
        cases b with
        | false =>
          refine iteF ⟨F5, acc, xs, n4.trans n5, ?_, ?_, DrA.mono (n3.ff.trans n5.ff) _ ra, p5.2 rfl, by omega⟩
          · rw [n5.old D _ (n3.hh D _ nD hH), n3.old D _ hH]; exact hF
          · exact n5.hh D _ nD (n3.hh D _ nD hH)
        | true =>
          refine iteT ?_
          rintro Z hZ
          have hK2 : Z.K = X.K := (hZ.ctx C).kk
          refine p5.1 rfl Z (hZ.ctx C) G _ F5 H5 (by rw [hK2]; exact E4.mono n5) _ ?_
          intro y u F6 H6 p6 n6 r6
          have n56 := n5.trans n6
          have h6 : H6 D = some (.lst xs) := n56.hh D _ nD (n3.hh D _ nD hH)
          have f6 : F6 D = none := by rw [n56.old D _ (n3.hh D _ nD hH), n3.old D _ hH]; exact hF
          have n7 := n4.trans n56
          refine ⟨xs, h6, by rw [ra.length]; exact Nat.lt_of_lt_of_le (show acc.length < 16777216 by omega) (by decide), F6, acc ++ [y], xs ++ [u], ⟨n7.ff, fun b o z => ?_, fun b o nb z => ?_, n7.old, n7.src.ex fun b o ib z => ?_, n7.sf⟩, f6, upd_same, (DrA.mono (n3.ff.trans n56.ff) _ ra).append ⟨u, [], rfl, by rw [← hK2]; exact r6, rfl⟩, p6, by rw [List.length_append, List.length_singleton]; omega⟩
          · rw [upd_ne (ne_of_none z f6)]; exact n7.fh b o z
          · rw [upd_ne (ne_of_none z hD)]; exact n7.hh b o nb z
          · rw [upd_ne (fun z' : b = D => nD (by rw [← z']; exact ib))]; exact z
  · obtain rfl : m = ds.length := by omega
    refine Or.inl ⟨J1.stop F' H' n2.ff n2.fh, ?_⟩
    have hD0 : H D = none := by
      cases z : H D with
      | none => rfl
      | some o => rw [n1.hh D o nD z] at hD; cases hD
    exact q acc (.ref D) F' H' (done acc hI) (n1.trans n2) ⟨D, xs, rfl, hD0, hF, hH, ra⟩
/-- a new list becomes known -/
theorem NewL.freeze {S : SR} {F H F' H' : Hp} {ds : List PyData} {v : V} (w0 : Wk S F H) (n : Nw S F H F' H') (r : NewL K H F' H' ds v) : ∃ F2, Nw S F H F2 H' ∧ Dr K F2 (.list ds) v := by
  obtain ⟨D, xs, rfl, hD, hF, hH, ra⟩ := r
  have nD : ¬ inS S D := fun z => by
    obtain ⟨o, e⟩ := srcOk_some w0.src z
    rw [hD] at e; cases e
  have xD : Ex F' (upd F' D (.lst xs)) := Ex.new hF
  refine ⟨upd F' D (.lst xs), ⟨n.ff.trans xD, fun b o z => ?_, n.hh, fun b o z => ?_, n.src, fun b ib => ?_⟩, ⟨D, xs, rfl, upd_same, DrA.mono xD _ ra⟩⟩
  · by_cases hb : b = D
    · subst hb; rw [upd_same] at z; cases z; exact hH
    · rw [upd_ne hb] at z; exact n.fh b o z
  · rw [upd_ne (ne_of_none z hD)]; exact n.old b o z
  · rw [upd_ne (fun z' : b = D => nD (by rw [← z']; exact ib))]; exact n.sf b ib
theorem lc_read {elt tg iter : Expr} {ifs : List Expr} {scope : Scope} {i : Nat} (C : Ctx Pg w K mg base N sc k X)
    (h : IN X tg iter ρ fun ds => LcI Pg w K mg base N sc k ρ i scope ifs elt ds P) (G : Gh) (σ : L2.St) (F H : Hp) (E : ES X.K G σ F H ρ) (Q : VK) (q : ∀ d v F' H', P d → Nw G.S F H F' H' → Dr X.K F' d v → Q v H') :
    tLc (wI X tg iter) (gName i) (bT X scope ifs) (bE X scope elt) [i] σ H Q :=
  lc_readN C h G σ F H E Q fun ds v F' H' p n r => by
    obtain ⟨F2, n2, r2⟩ := NewL.freeze E.wk n r
    exact q _ v F2 H' p n2 r2
theorem EN.lc {elt iter : Expr} {ifs : List Expr} {scope : Scope} {x : Str} {tp : Pos} {i : Nat} (C : Ctx Pg w K mg base N sc k X) (ok : blkC N sc scope [(x, i)] = true) (hN : N[i]? = some x) (hx : (relS scope sc).names.lookup x = some .local)
    (hs : ∀ x, foldedSetIterable iter X.env x = pure x) (h : IN X (.Name x tp) iter ρ fun ds => LcI Pg w K mg base N sc k ρ i scope ifs elt ds P) : EN X (.ListComp elt [⟨.Name x tp, iter, ifs, 0⟩] scope pos) ρ P :=
  EN.by (pe_lc (own := [(x, i)]) C.calm (by rw [C.nn]; exact C.nd) pi_w (blkOk_by (by rw [C.nn, C.scope]; exact ok)) (fun s H Cl cl fp => bG_ok C hN hx ⟨s, H, Cl, cl, fp, rfl⟩) (fun s H Cl cl fp => bT_ok ⟨s, H, Cl, cl, fp, rfl⟩) (fun s H Cl cl fp => bE_ok ⟨s, H, Cl, cl, fp, rfl⟩) hs)
    fun G σ F H E Q q => lc_read C h G σ F H E Q q
/-- name = [..] -/
theorem SN.asgLc {elt iter : Expr} {ifs : List Expr} {scope : Scope} {x y : Str} {tp yp spos : Pos} {i j : Nat} (C : Ctx Pg w K mg base N sc k X) (ok : blkC N sc scope [(x, i)] = true) (hN : N[i]? = some x) (hx : (relS scope sc).names.lookup x = some .local)
    (hy : N[j]? = some y) (hyl : sc.names.lookup y = some .local) (hsw : ∀ en : Env, en.scope = sc → swapsWith (.ListComp elt [⟨.Name x tp, iter, ifs, 0⟩] scope pos) (some (.Name y yp)) spos.line en = pure true)
    (hs : ∀ x, foldedSetIterable iter X.env x = pure x) (h : IN X (.Name x tp) iter ρ fun ds => LcI Pg w K mg base N sc k ρ i scope ifs elt ds fun d => κ.nx (ρ.set j (.dat d))) : SN X (.Assign [.Name y yp] (.ListComp elt [⟨.Name x tp, iter, ifs, 0⟩] scope pos) spos) ρ κ :=
  SN.by (ps_setLc (i := j) (own := [(x, i)]) C.calm (by rw [C.nn]; exact C.nd) (by rw [C.nn]; exact hy) (by rw [C.scope]; exact hyl) (hsw _ C.scope) pi_w (blkOk_by (by rw [C.nn, C.scope]; exact ok)) (fun s H Cl cl fp => bG_ok C hN hx ⟨s, H, Cl, cl, fp, rfl⟩) (fun s H Cl cl fp => bT_ok ⟨s, H, Cl, cl, fp, rfl⟩) (fun s H Cl cl fp => bE_ok ⟨s, H, Cl, cl, fp, rfl⟩) hs)
    fun G σ F H E D A => lc_read C h G σ F H E _ fun d v F' H' p n r => A.nx _ _ _ _ p ((E.mono n).set r)

/-! ### a def of the text -/
def startS (N : List Str) (as : List Sl) : List Sl := as ++ List.replicate (N.length - as.length) .no
theorem ArgsR.get {S : SR} {F : Hp} : ∀ {as : List Sl} {vs : List V} {i : Nat} {s : Sl}, ArgsR K S F as vs → as[i]? = some s → ∃ v, vs[i]? = some v ∧ ArgR K S F s v
  | [], _, _, _, _, h => by simp at h
  | a :: as, _, 0, s, ⟨v, r, h1, h2, _⟩, h => by rw [h1]; cases h; exact ⟨v, rfl, h2⟩
  | a :: as, _, i + 1, s, ⟨v, r, h1, _, h3⟩, h => by rw [h1]; exact ArgsR.get (i := i) h3 (by simpa using h)
theorem ES.start {S : SR} {F H : Hp} {as : List Sl} {vs : List V} (W : Wk S F H) (r : ArgsR K S F as vs) (hl : vs.length ≤ N.length) : ES K ⟨S, F, H⟩ (L2.start N vs) F H (startS N as) := by
  have hr := r.length
  have at1 : ∀ (i : Nat) s, (startS N as)[i]? = some s → s = .no ∨ ∃ v, (L2.start N vs)[i]? = some (some v) ∧ ArgR K S F s v := by
    intro i s h
    unfold startS at h
    by_cases hi : i < as.length
    · rw [List.getElem?_append_left hi] at h
      obtain ⟨v, e, q⟩ := r.get h
      refine Or.inr ⟨v, ?_, q⟩
      unfold L2.start
      rw [List.getElem?_append_left (by rw [List.length_map]; omega), List.getElem?_map, e]
      rfl
    · rw [List.getElem?_append_right (by omega)] at h
      have := List.mem_of_getElem? h
      exact Or.inl (List.eq_of_mem_replicate this)
  refine ⟨W.nw, W.src, ?_, fun i s h => ?_, fun i j _ hi _ => ?_⟩
  · unfold L2.start startS
    rw [List.length_append, List.length_map, List.length_replicate, List.length_append, List.length_replicate, hr]
  · rcases at1 i s h with rfl | ⟨v, e, q⟩
    · exact trivial
    · cases s with
      | no => exact trivial
      | dat d => exact ⟨v, e, q⟩
      | own ds => exact q.elim
      | src => obtain ⟨a, c, h1, rfl⟩ := q; exact ⟨a, c, h1, e⟩
      | cel => exact q.elim
  · exfalso
    cases h : (startS N as)[i]? with
    | none => rw [h] at hi; exact hi
    | some s =>
      rw [h] at hi
      rcases at1 i s h with rfl | ⟨v, e, q⟩
      · exact hi
      · cases s with
        | own ds => exact q
        | no => exact hi
        | dat d => exact hi
        | src => exact hi
        | cel => exact hi
theorem okFn {x qual : Str} {f : Addr} {fd : FuncData} {ps : List Str} {W : Wp} (F : Fun K x qual st f fd) (S : FnScope N ps (defScope st)) (hl : ∀ as Q, W as Q → as.length = ps.length)
    (hb : ∀ X : Cx, Ctx Pg w K mg base N (defScope st) k X → (∀ x, X.fn x = true) → ∀ as Q, W as Q → BN X (defBody st) (startS N as) { nx := fun _ => Q .none, rt := Q }) : FnG Pg w K mg base (k + 1) f fd ps (spOf K W) := by
  have hps : ps.length ≤ N.length := by
    have := congrArg List.length S.pre
    rw [List.length_take] at this
    omega
  refine Fun.okG F S ?_ ?_
  · rintro vs H Q E ⟨S', F', as, P', W', r, hw, _⟩
    rw [r.length]
    exact hl as P' hw
  · rintro cdv A ol s H vs Q E hgd hr ⟨S', F', as, P', W', r, hw, q⟩
    have C : Ctx Pg w K mg base N (defScope st) k (cxOf CX0 Pg w K mg base N qual (defScope st) f cdv A ol s H E).nox := ⟨rfl, rfl, rfl, rfl, rfl, rfl, rfl, hr, rfl, rfl, S.nd, hgd⟩
    have E0 : ES K ⟨S', F', H⟩ (L2.start N vs) F' H (startS N as) := ES.start W' r (by rw [r.length, hl as P' hw]; exact hps)
    refine hb _ C (fun _ => rfl) as P' hw _ _ _ _ E0 _ ⟨?_, ?_, ?_, ?_, fun _ _ _ _ z => z.elim⟩
    · intro ρ σ F2 H2 p E2
      exact q _ .non F2 H2 p E2.nw rfl
    · intro d v F2 H2 p n2 r2
      exact q d v F2 H2 p n2 r2
    · exact fun _ _ _ _ z => z.elim
    · exact fun _ _ _ _ z => z.elim
theorem Fd.mk' {x : Str} {f : Addr} {fd : FuncData} {ps : List Str} {W : Wp} (F : FnG Pg w K mg base k f fd ps (spOf K W)) (hm : mg x = some (.ref f)) (hk : PySem.W.keepIn K (.ref f) = true) (hb : Binds K fd ps []) : Fd Pg w K mg base k x W := ⟨⟨f, fd, ps, F, hm, hk, hb⟩⟩
end
end Kt

namespace Kt
open PySem L2 PyProof.Rows
open Evl (Ex)
section
variable {Pg : Program} {w : World} {K : PySem.W.Frag} {mg : Str → Option Value} {base : Heap} {N : List Str} {sc : Scope} {k j : Nat} {X : Cx} {ρ : List Sl} {P : PyData → Prop} {a b c e : Expr} {pos : Pos} {κ : Kn} {st : Stmt} {rest : List Stmt}
/-! ### small steps by shape -/
theorem AddD.i {i j : Int} (h : P (.int (i + j))) : AddD (.int i) (.int j) P := h
theorem AddD.l {x y : List PyData} (hl : x.length + y.length ≤ sizeLine) (h : P (.list (x ++ y))) : AddD (.list x) (.list y) P := ⟨hl, h⟩
theorem SubI.i {i j : Int} (h : P (.int (i - j))) : Int2 (fun _ _ => True) (fun i j => .int (i - j)) (.int i) (.int j) P := ⟨trivial, h⟩
theorem MulD.i {i j : Int} (hm : MulOk i j) (h : P (.int (i * j))) : MulD (.int i) (.int j) P := ⟨hm, h⟩
theorem mul_l {i j : Int} (h1 : -(2 ^ 64) < i) (h2 : i < 2 ^ 64) : MulOk i j := Or.inl (Or.inl ⟨h1, h2⟩)
theorem mul_r {i j : Int} (h1 : -(2 ^ 64) < j) (h2 : j < 2 ^ 64) : MulOk i j := Or.inl (Or.inr ⟨h1, h2⟩)
theorem ModI.i {i j : Int} (h0 : 0 < j) (h : P (.int (i % j))) : Int2 (fun _ j => j ≠ 0) (fun i j => .int (i.fmod j)) (.int i) (.int j) P := ⟨by omega, by show P (.int (i.fmod j)); rw [Int.fmod_eq_emod_of_nonneg i (by omega)]; exact h⟩
theorem DivI.i {i j : Int} (h0 : 0 < j) (hb : j < 2 ^ 200) (h : P (.int (i / j))) : Int2 CDivX (fun i j => .int (i.fdiv j)) (.int i) (.int j) P := ⟨⟨by omega, by
  have : j.natAbs < 2 ^ 200 := by omega
  have h1 := Nat.log2_lt (n := j.natAbs) (k := 200) (by omega)
  have h2 := h1.mpr this
  omega⟩, by show P (.int (i.fdiv j)); rw [Int.fdiv_eq_ediv_of_nonneg i (by omega)]; exact h⟩
theorem PowI.i {i j : Int} (hc : CPow i j) (h : P (.int (i ^ j.toNat))) : Int2 CPow (fun i j => .int (i ^ j.toNat)) (.int i) (.int j) P := ⟨hc, h⟩
theorem Ib.i {g : Int → Int → Bool} {i j : Int} {P : Bool → Prop} (h : P (g i j)) : Ib g (.int i) (.int j) P := h
theorem IxD.l {ds : List PyData} {i : Int} {d : PyData} (e : atI ds i = some d) (h : P d) : IxD (.list ds) (.int i) P := ⟨d, e, h⟩
theorem IxD.t {ds : List PyData} {i : Int} {d : PyData} (e : atI ds i = some d) (h : P d) : IxD (.tuple ds) (.int i) P := ⟨d, e, h⟩
theorem CutD.l {ds : List PyData} {lo hi : Option Int} (h : P (.list (cutD ds lo hi))) : CutD (.list ds) lo hi P := h
theorem shi (i : Int) : SeqAt.shaped (.int i) = true := rfl
theorem shn : SeqAt.shaped .none = true := rfl
/-- a test comes to a bool -/
theorem byB {P : Bool → Prop} (k : Bool) (h1 : k = true → P true) (h2 : k = false → P false) : Tb P k := by cases k <;> first | exact h1 rfl | exact h2 rfl
theorem yes {A B : Prop} (h : A) : (true = true → A) ∧ (true = false → B) := ⟨fun _ => h, fun z => Bool.noConfusion z⟩
theorem noo {A B : Prop} (h : B) : (false = true → A) ∧ (false = false → B) := ⟨fun z => Bool.noConfusion z, fun _ => h⟩
theorem Eqi {i j : Int} {P : Bool → Prop} (h1 : i = j → P true) (h2 : i ≠ j → P false) : EqT (.int i) (.int j) P := ⟨rfl, rfl, by
  show P (i == j)
  by_cases h : i = j
  · rw [beq_iff_eq.mpr h]; exact h1 h
  · rw [beq_eq_false_iff_ne.mpr h]; exact h2 h⟩
theorem Nei {i j : Int} {P : Bool → Prop} (h1 : i ≠ j → P true) (h2 : i = j → P false) : NeT (.int i) (.int j) P := ⟨rfl, rfl, by
  show P (!(i == j))
  by_cases h : i = j
  · rw [beq_iff_eq.mpr h]; exact h2 h
  · rw [beq_eq_false_iff_ne.mpr h]; exact h1 h⟩
/-- the same told by data: two of the same are equal -/
theorem shaped_same {x y : PyData} {P : Bool → Prop} (hx : SeqAt.shaped x = true) (hy : SeqAt.shaped y = true) (h : ∀ r, PyData.eqv x y = r → P r) : EqT x y P := ⟨hx, hy, h _ rfl⟩
theorem Ibd {c : Int → Int → Prop} [∀ i j, Decidable (c i j)] {i j : Int} {P : Bool → Prop} (h1 : c i j → P true) (h2 : ¬ c i j → P false) : Ib (fun i j => decide (c i j)) (.int i) (.int j) P := by
  show P (decide (c i j))
  by_cases h : c i j
  · rw [decide_eq_true h]; exact h1 h
  · rw [decide_eq_false h]; exact h2 h
/-- an int as a test -/
theorem TN.trI {P : Bool → Prop} (he : ∀ whole, isTrue e X.env whole = (do let v ← whole; standAt e.pos; holding [v] (truthy v))) (h : EN X e ρ fun d => ∃ i : Int, d = .int i ∧ Tb P (i != 0)) : TN X e ρ P :=
  TN.by (pt_truth pe_w he) fun G σ F H E Q q => h _ σ F H E _ fun d v F' H' ⟨i, e1, p⟩ n r => by
    subst e1
    obtain rfl : v = .int i := r
    exact ⟨_, rfl, q _ F' H' p n⟩
/-- a = e1, b = e2 on one line -/
theorem SN.par {i j : Nat} {x y : Str} {px py pt pt2 : Pos} {kt k2} (C : Ctx Pg w K mg base N sc k X) (hi : N[i]? = some x) (hj : N[j]? = some y) (hij : i ≠ j) (hx : sc.names.lookup x = some .local) (hy : sc.names.lookup y = some .local)
    (hw : ∀ en : Env, en.scope = sc → swappedStores [.Tuple [.Name x px, .Name y py] kt pt] (.Tuple [a, b] k2 pt2) en = pure (some [x, y])) (hs : swapsWithSole [.Tuple [.Name x px, .Name y py] kt pt] (.Tuple [a, b] k2 pt2) pos.line X.env = pure false)
    (he : starEach [a, b] X.env = (false, eval a X.env) :: starEach [b] X.env) (he2 : starEach [b] X.env = (false, eval b X.env) :: starEach [] X.env)
    (h : EN X a ρ fun d => EN X b ρ fun d2 => κ.nx ((ρ.set i (.dat d)).set j (.dat d2))) : SN X (.Assign [.Tuple [.Name x px, .Name y py] kt pt] (.Tuple [a, b] k2 pt2) pos) ρ κ :=
  SN.by (ps_par (i := i) (j := j) C.calm (by rw [C.nn]; exact C.nd) (by rw [C.nn]; exact hi) (by rw [C.nn]; exact hj) hij (by rw [C.scope]; exact hx) (by rw [C.scope]; exact hy) (pa_cons pe_w (pa_cons pe_w pa_nil he2) he) (hw _ C.scope) hs)
    fun G σ F H E D A => two (R := fun v u H2 => ∃ v' w', [v, u] = [v', w'] ∧ D.nx ((σ.set i (some v')).set j (some w')) H2) h E fun d d2 v u F' H' p n r1 r2 => ⟨v, u, rfl, A.nx _ _ _ _ p (((E.mono n).set r1).set r2)⟩
/-- x = x op e, by the same slot -/
theorem SN.augAdd {i : Nat} {x : Str} {p2 : Pos} {m : Int} (C : Ctx Pg w K mg base N sc k X) (Fx : ∀ x, X.fn x = true) (hN : N[i]? = some x) (hx : L2.Loc sc x) (hi : ρ[i]? = some (.dat (.int m))) (h : EN X e ρ fun d => ∃ n, d = .int n ∧ κ.nx (ρ.set i (.dat (.int (m + n))))) : SN X (.AugAssign (.Name x p2) .Add e pos) ρ κ :=
  SN.by (ps_aug (i := i) (by rw [C.nn]; exact C.nd) (by rw [C.nn]; exact hN) (by unfold L2.Loc; rw [C.scope]; exact hx) pe_w ip_add (.inl (Fx x))) fun G σ F H E D A => by
    obtain ⟨v, h1, h2⟩ := E.dat hi
    obtain rfl : v = .int m := h2
    refine ⟨_, h1, h G σ F H E _ ?_⟩
    rintro d v F' H' ⟨n, rfl, p⟩ nw r
    obtain rfl : v = .int n := r
    exact ⟨m, n, rfl, rfl, A.nx _ _ _ _ p ((E.mono nw).set rfl)⟩
end
/-- the built-ins by their names, none of them bound by the text -/
structure Blt (mg : Str → Option Value) : Prop where
  len : mg "len" = none
  repr : mg "repr" = none
  int : mg "int" = none
  abs : mg "abs" = none
  range : mg "range" = none
  list : mg "list" = none
  tuple : mg "tuple" = none
  isi : mg "isinstance" = none
  bool : mg "bool" = none
  max : mg "max" = none
  min : mg "min" = none
  all : mg "all" = none
  str : mg "str" = none
  sorted : mg "sorted" = none
  enumerate : mg "enumerate" = none
  dict : mg "dict" = none
  sum : mg "sum" = none
  zip : mg "zip" = none
  any : mg "any" = none
  set : mg "set" = none
  reversed : mg "reversed" = none
end Kt

namespace Kt
open PySem L2 PyProof.Rows
open Evl (Ex)
section
variable {Pg : Program} {w : World} {K : PySem.W.Frag} {mg : Str → Option Value} {base : Heap} {N : List Str} {sc : Scope} {k j : Nat} {X : Cx} {ρ : List Sl} {P : PyData → Prop} {a b c e : Expr} {pos : Pos} {κ : Kn} {st : Stmt} {rest : List Stmt}
theorem Ctx.u65 (C : Ctx Pg w K mg base N sc k X) : X.A.units + 65 < cLine := by have := C.room.un; omega
/-- x in a list of data -/
def InD (x y : PyData) (P : Bool → Prop) : Prop := match y with
  | .list ds => SeqAt.shaped x = true ∧ SeqAt.shaped (.list ds) = true ∧ P (ds.any fun z => PyData.eqv z x)
  | _ => False
theorem TN.inL {P : Bool → Prop} (C : Ctx Pg w K mg base N sc k X) (hm : behindInMarks .In b = false) (h : EN X a ρ fun x => EN X b ρ fun y => InD x y P) : TN X (.Compare a [.In] [b] pos) ρ P :=
  TN.cmp (op_inD C.u65) hm (h.mono fun x h => h.mono fun y h => fun S F H W v u r1 r2 Q q => by
    unfold InD at h
    split at h
    · exact ⟨x, _, Dr.dp W.fh x (SeqAt.canLay_of_shaped h.1) r1, Dr.dp W.fh _ (SeqAt.canLay_of_shaped h.2.1) r2, h.1, h.2.1, q (.bool _) _ F H ⟨_, rfl, h.2.2⟩ W.nw rfl⟩
    · exact h.elim)
theorem TN.ninL {P : Bool → Prop} (C : Ctx Pg w K mg base N sc k X) (hm : behindInMarks .NotIn b = false) (h : EN X a ρ fun x => EN X b ρ fun y => InD x y fun k => P (!k)) : TN X (.Compare a [.NotIn] [b] pos) ρ P :=
  TN.cmp (op_notInD C.u65) hm (h.mono fun x h => h.mono fun y h => fun S F H W v u r1 r2 Q q => by
    unfold InD at h
    split at h
    · exact ⟨x, _, Dr.dp W.fh x (SeqAt.canLay_of_shaped h.1) r1, Dr.dp W.fh _ (SeqAt.canLay_of_shaped h.2.1) r2, h.1, h.2.1, q (.bool _) _ F H ⟨_, rfl, h.2.2⟩ W.nw rfl⟩
    · exact h.elim)
/-- x in a tuple of flat things (ints here) -/
def InT (x y : PyData) (P : Bool → Prop) : Prop := ∃ (i : Int) (ns : List Int), x = .int i ∧ y = .tuple (ns.map PyData.int) ∧ P (decide (i ∈ ns))
theorem dr_ints {F : Hp} : ∀ {ns : List Int} {vs : List V}, DrA K F (ns.map PyData.int) vs → vs = ns.map V.int
  | [], _, h => h
  | n :: ns, _, ⟨v, r, h1, h2, h3⟩ => by rw [h1, dr_ints h3, show v = V.int n from h2]; rfl
theorem inV_ints (i : Int) (ns : List Int) : inV (.int i) (ns.map V.int) = decide (i ∈ ns) := by
  induction ns with
  | nil => rfl
  | cons n r ih =>
    show (eqV (.int n) (.int i) || inV (.int i) (r.map V.int)) = decide (i ∈ n :: r)
    rw [ih]
    show ((n == i) || decide (i ∈ r)) = decide (i ∈ n :: r)
    by_cases h : n = i
    · subst h; simp
    · have : i ≠ n := fun z => h z.symm
      simp [h, this]
theorem flat_ints (ns : List Int) : (ns.map V.int).all flatV = true := by
  induction ns with
  | nil => rfl
  | cons n r ih => exact ih
theorem TN.inT {P : Bool → Prop} (hm : behindInMarks .In b = false) (h : EN X a ρ fun x => EN X b ρ fun y => InT x y P) : TN X (.Compare a [.In] [b] pos) ρ P :=
  TN.cmp op_in_seq hm (h.mono fun x h => h.mono fun y ⟨i, ns, e1, e2, p⟩ => fun S F H W v u r1 r2 Q q => by
    subst e1 e2
    obtain ⟨z, xs, rfl, g1, g2⟩ := r2
    obtain rfl := dr_ints g2
    obtain rfl : v = V.int i := r1
    refine ⟨z, _, rfl, Or.inr (Evl.ex_t W.fh g1), rfl, flat_ints ns, ?_⟩
    refine q (.bool (decide (i ∈ ns))) _ F H ⟨_, rfl, p⟩ W.nw ?_
    rw [if_neg Bool.false_ne_true, inV_ints]
    rfl)
theorem TN.ninT {P : Bool → Prop} (hm : behindInMarks .NotIn b = false) (h : EN X a ρ fun x => EN X b ρ fun y => InT x y fun k => P (!k)) : TN X (.Compare a [.NotIn] [b] pos) ρ P :=
  TN.cmp op_notIn_seq hm (h.mono fun x h => h.mono fun y ⟨i, ns, e1, e2, p⟩ => fun S F H W v u r1 r2 Q q => by
    subst e1 e2
    obtain ⟨z, xs, rfl, g1, g2⟩ := r2
    obtain rfl := dr_ints g2
    obtain rfl : v = V.int i := r1
    refine ⟨z, _, rfl, Or.inr (Evl.ex_t W.fh g1), rfl, flat_ints ns, ?_⟩
    refine q (.bool (!decide (i ∈ ns))) _ F H ⟨_, rfl, p⟩ W.nw ?_
    rw [if_pos rfl, inV_ints]
    rfl)
/-- xs.index(e), there -/
theorem EN.index {p2 p3 : Pos} (C : Ctx Pg w K mg base N sc k X)
    (h : EN X a ρ fun x => ∃ ds : List PyData, x = .list ds ∧ EN X b ρ fun y => ∃ (j : Nat) (z : PyData), SeqAt.shaped (.list ds) = true ∧ SeqAt.shaped y = true ∧ ds[j]? = some z ∧ PyData.eqv z y = true ∧ (∀ (m : Nat) (z' : PyData), m < j → ds[m]? = some z' → PyData.eqv z' y = false) ∧ P (.int (j : Nat)))
    (hbase : attributeBase a "index" X.env (eval a X.env) = eval a X.env)
    (hfew : ((backTo p3 (starEach [b] X.env)).all (fun x => !x.1) && (backToKw p3 (keywordEach [] X.env)).all (fun x => x.1.isSome) && decide ([b].length + ([] : List Keyword).length + (if ([] : List Keyword).isEmpty then 0 else 1) < 30)) = true)
    (hline : (p2.endLine == p3.line) = true) (he : starEach [b] X.env = (false, eval b X.env) :: starEach [] X.env) (hplain : (backTo p3 (starEach [] X.env)).any (·.1) = false) : EN X (.Call (.Attribute a "index" p2) [b] [] p3) ρ P :=
  EN.by (pe_bm PySem.F.plainAttrs_list PySem.F.slot_list_index PySem.F.type_list_index (mt_indexD C.u65) pe_w (pa_cons pe_w pa_nil he) hbase hfew hline he hplain) fun G σ F H E Q q =>
    h G σ F H E _ fun x v F1 H1 ⟨ds, e0, p1⟩ n1 r1 => by
      subst e0
      obtain ⟨l, xs, rfl, g1, g2⟩ := r1
      refine ⟨Or.inl ⟨rfl, xs, SqL.of (n1.fh _ _ g1)⟩, p1 G σ F1 H1 (E.mono n1) _ ?_⟩
      rintro y u F2 H2 ⟨j, z, s1, s2, e1, e2, e3, p⟩ n2 r2
      exact ⟨l, u, y, ds, j, z, rfl, rfl, Dr.dp n2.fh _ (SeqAt.canLay_of_shaped s1) ⟨l, xs, rfl, n2.ff _ _ g1, DrA.mono n2.ff _ g2⟩, Dr.dp n2.fh _ (SeqAt.canLay_of_shaped s2) r2, s1, s2, e1, e2, e3, q _ _ F2 H2 p (n1.trans n2) rfl⟩
theorem EN.listRg1 {npos p1 p2 : Pos} (C : Ctx Pg w K mg base N sc k X) (hg : Gi sc "list") (hm : mg "list" = none) (hg2 : Gi sc "range") (hm2 : mg "range" = none)
    (na : starEach [a] X.env = (false, eval a X.env) :: starEach [] X.env) (nb : starEach [.Call (.Name "range" p1) [a] [] p2] X.env = (false, eval (.Call (.Name "range" p1) [a] [] p2) X.env) :: starEach [] X.env)
    (h : EN X a ρ fun x => ∃ n, x = .int n ∧ 0 ≤ n ∧ n ≤ 16777216 ∧ P (.list (rngD 0 n))) : EN X (.Call (.Name "list" npos) [.Call (.Name "range" p1) [a] [] p2] [] pos) ρ P :=
  EN.by (pe_listRg C.calm (by unfold Gl Env.kindOf; rw [C.scope]; exact hg) (by rw [C.mg]; exact hm) (prg_1 (by unfold Gl Env.kindOf; rw [C.scope]; exact hg2) (by rw [C.mg]; exact hm2) pe_w na) nb) fun G σ F H E Q q =>
    h G σ F H E _ fun x v F1 H1 ⟨n, e1, h1, h2, p⟩ n1 r1 => by
      subst e1
      obtain rfl : v = V.int n := r1
      refine ⟨n, rfl, RgOk.of_le (by decide) h2 (by decide) h1, fun z hz => ?_⟩
      refine q _ _ _ _ p (n1.trans (n1.wk.new hz)) ⟨z, rgV 0 n, rfl, upd_same, ?_⟩
      unfold rngD rgV
      have := DrA.ints (K := X.K) (F := upd F1 z (.lst (rgV 0 n))) ((List.range (n - 0).toNat).map fun i => (0 : Int) + (i : Nat))
      rw [List.map_map, List.map_map] at this
      exact this
theorem EN.maxL {npos : Pos} (C : Ctx Pg w K mg base N sc k X) (hg : Gi sc "max") (hm : mg "max" = none)
    (h : EN X e ρ fun d => ∃ ns : List Int, d = .list (ns.map PyData.int) ∧ 0 < ns.length ∧ ∀ m, m ∈ ns → (∀ y, y ∈ ns → y ≤ m) → P (.int m)) (he : starEach [e] X.env = (false, eval e X.env) :: starEach [] X.env) (hpl : (backTo pos (starEach [] X.env)).any (·.1) = false) : EN X (.Call (.Name "max" npos) [e] [] pos) ρ P :=
  EN.callB C (cr_max C.calm) hg hm (by decide +kernel) (LN.cons he (h.mono fun d hd => LN.nil (by
    rintro S F H w vs ⟨v, r, rfl, h1, h2⟩ Q q
    obtain rfl : r = [] := h2
    obtain ⟨ns, rfl, hl, p⟩ := hd
    obtain ⟨z, xs, rfl, g1, g2⟩ := h1
    obtain rfl := dr_ints g2
    exact ⟨z, ns, rfl, SqL.of (w.fh _ _ g1), hl, fun m h1 h2 => q _ _ F H (p m h1 h2) w.nw rfl⟩))) he hpl
theorem EN.minL {npos : Pos} (C : Ctx Pg w K mg base N sc k X) (hg : Gi sc "min") (hm : mg "min" = none)
    (h : EN X e ρ fun d => ∃ ns : List Int, d = .list (ns.map PyData.int) ∧ 0 < ns.length ∧ ∀ m, m ∈ ns → (∀ y, y ∈ ns → m ≤ y) → P (.int m)) (he : starEach [e] X.env = (false, eval e X.env) :: starEach [] X.env) (hpl : (backTo pos (starEach [] X.env)).any (·.1) = false) : EN X (.Call (.Name "min" npos) [e] [] pos) ρ P :=
  EN.callB C (cr_min C.calm) hg hm (by decide +kernel) (LN.cons he (h.mono fun d hd => LN.nil (by
    rintro S F H w vs ⟨v, r, rfl, h1, h2⟩ Q q
    obtain rfl : r = [] := h2
    obtain ⟨ns, rfl, hl, p⟩ := hd
    obtain ⟨z, xs, rfl, g1, g2⟩ := h1
    obtain rfl := dr_ints g2
    exact ⟨z, ns, rfl, SqL.of (w.fh _ _ g1), hl, fun m h1 h2 => q _ _ F H (p m h1 h2) w.nw rfl⟩))) he hpl
theorem EN.gcd {x : Str} {npos : Pos} (C : Ctx Pg w K mg base N sc k X) (hg : Gi sc x) (hm : mg x = some (.builtin "math.gcd")) (hdb : (x == ("__debug__" : Str)) = false)
    (h : EN X a ρ fun d => EN X b ρ fun d2 => ∃ i j : Int, d = .int i ∧ d2 = .int j ∧ P (.int ((Nat.gcd i.natAbs j.natAbs : Nat) : Int))) (he : starEach [a, b] X.env = (false, eval a X.env) :: starEach [b] X.env) (he2 : starEach [b] X.env = (false, eval b X.env) :: starEach [] X.env) (hpl : (backTo pos (starEach [b] X.env)).any (·.1) = false) : EN X (.Call (.Name x npos) [a, b] [] pos) ρ P :=
  EN.by (pe_callBfun cr_gcd (by unfold Gl Env.kindOf; rw [C.scope]; exact hg) (by rw [C.mg]; exact hm) (pa_cons pe_w (pa_cons pe_w pa_nil he2) he) hdb he hpl) fun G σ F H E Q q =>
    two (R := fun v u H2 => ∃ a b : Int, [v, u] = [.int a, .int b] ∧ Q (.int ((Nat.gcd a.natAbs b.natAbs : Nat) : Int)) H2) h E fun x y v u F' H' ⟨i, j, e1, e2, p⟩ n r1 r2 => by
      subst e1 e2
      obtain rfl : v = V.int i := r1
      obtain rfl : u = V.int j := r2
      exact ⟨i, j, rfl, q _ _ F' H' p n rfl⟩
/-- a constant of the text: a plain int -/
theorem EN.globI {x : Str} {i : Int} {t : Tok} (C : Ctx Pg w K mg base N sc k X) (hg : Gi sc x) (hm : mg x = some (.int i t)) (p : P (.int i)) (hd : (x == ("__debug__" : Str)) = false := by decide) : EN X (.Name x pos) ρ P :=
  EN.con (d := .int i) (pe_glob (v := .int i) (by unfold Gl Env.kindOf; rw [C.scope]; exact hg) (by rw [C.mg]; exact hm) ⟨t, rfl⟩ hd) (fun _ => rfl) p
end
end Kt

set_option autoImplicit false
namespace Kt
open PySem L2 PyProof.Rows
/-! ### texts of data are short -/
mutual
def wt : PyData → Nat
  | .none => 4
  | .bool _ => 5
  | .int _ => 1922
  | .str x => (reprText x).length
  | .list xs => wtA xs + 2
  | .tuple xs => wtA xs + 3
  | .dict _ => 100000000
def wtA : List PyData → Nat
  | [] => 0
  | x :: xs => wt x + 2 + wtA xs
end
theorem textFrom_le : ∀ (ts : List Str) (k : Nat) (acc : Str), (textFrom k acc ts).length ≤ acc.length + (ts.map fun t => t.length + 2).sum
  | [], _, acc => by simp [textFrom]
  | t :: r, k, acc => by
    unfold textFrom
    refine Nat.le_trans (textFrom_le r _ _) ?_
    rw [List.map_cons, List.sum_cons]
    have e0 : (Str.ofString ", ").length = 2 := by decide +kernel
    have e1 : (Str.ofString "").length = 0 := by decide +kernel
    split
    · rw [strLen_append, strLen_append, e0]; omega
    · rw [strLen_append, strLen_append, e1]; omega
theorem join_le : ∀ (ts : List Str), (Str.join ", " ts).length ≤ (ts.map fun t => t.length + 2).sum
  | [] => by simp [Str.join]; decide
  | [t] => by simp [Str.join]
  | t :: u :: r => by
    show (t ++ ", " ++ Str.join ", " (u :: r)).length ≤ _
    rw [strLen_append, strLen_append, List.map_cons, List.sum_cons]
    have := join_le (u :: r)
    have : ((", " : Str)).length = 2 := by decide +kernel
    omega
mutual
theorem shown_le : ∀ d : PyData, d.showable = true → d.hasDict = false → d.shown.length ≤ wt d
  | .none, _, _ => by show ("None" : Str).length ≤ 4; decide +kernel
  | .bool b, _, _ => by cases b <;> decide +kernel
  | .int i, h, _ => by
    have h1 : i.natAbs.log2 < 1920 := of_decide_eq_true h
    have h2 := int_text_length_le (a := i) (k := 1920) (by omega) h1
    show (Str.ofString (toString i)).length ≤ 1922
    rw [PySem.ofString_length]
    omega
  | .str x, _, _ => Nat.le_refl _
  | .list xs, h, g => by
    have := shownA_le xs h g
    show (textFrom 0 "[" (PyData.shownAll xs) ++ "]").length ≤ wtA xs + 2
    rw [strLen_append]
    have h2 := textFrom_le (PyData.shownAll xs) 0 "["
    have e1 : ("[" : Str).length = 1 := by decide +kernel
    have e2 : ("]" : Str).length = 1 := by decide +kernel
    omega
  | .tuple xs, h, g => by
    have := shownA_le xs h g
    have h2 := join_le (PyData.shownAll xs)
    show (("(" : Str) ++ Str.join ", " (PyData.shownAll xs) ++ (if (PyData.shownAll xs).length == 1 then ",)" else ")" : String)).length ≤ wtA xs + 3
    rw [strLen_append, strLen_append]
    have e1 : ("(" : Str).length = 1 := by decide +kernel
    have e2 : (Str.ofString (if (PyData.shownAll xs).length == 1 then ",)" else ")" : String)).length ≤ 2 := by split <;> decide +kernel
    omega
  | .dict _, _, g => by cases (show true = false from g)
theorem shownA_le : ∀ ds : List PyData, PyData.showableAll ds = true → PyData.hasDictAll ds = false → ((PyData.shownAll ds).map fun t => t.length + 2).sum ≤ wtA ds
  | [], _, _ => Nat.le_refl _
  | d :: ds, h, g => by
    have h' : (d.showable && PyData.showableAll ds) = true := h
    have g' : (d.hasDict || PyData.hasDictAll ds) = false := g
    rw [Bool.and_eq_true] at h'
    rw [Bool.or_eq_false_iff] at g'
    have a := shown_le d h'.1 g'.1
    have b := shownA_le ds h'.2 g'.2
    show ((d.shown :: PyData.shownAll ds).map fun t => t.length + 2).sum ≤ wt d + 2 + wtA ds
    rw [List.map_cons, List.sum_cons]
    omega
end
theorem Rp.of {d : PyData} (h1 : d.showable = true) (h2 : d.hasDict = false) (h3 : d.depth ≤ 40) (h4 : wt d ≤ 16777216) : Rp d := ⟨h1, h2, h3, Nat.le_trans (shown_le d h1 h2) h4⟩
/-! ### lists of ints -/
def il (ns : List Int) : List PyData := ns.map PyData.int
theorem il_len (ns : List Int) : (il ns).length = ns.length := List.length_map ..
theorem il_lay : ∀ ns : List Int, PyData.canLayAll0 (il ns) = true
  | [] => rfl
  | _ :: r => il_lay r
theorem il_depth : ∀ ns : List Int, PyData.depthAll (il ns) = 0
  | [] => rfl
  | _ :: r => by show max 0 (PyData.depthAll (il r)) = 0; rw [il_depth r]; rfl
theorem il_shaped (ns : List Int) : SeqAt.shaped (.list (il ns)) = true := by
  show (PyData.canLayAll0 (il ns) && decide (PyData.depthAll (il ns) + 1 ≤ 64)) = true
  rw [il_lay, il_depth]; rfl
theorem il_shapedT (ns : List Int) : SeqAt.shaped (.tuple (il ns)) = true := il_shaped ns
theorem il_showable : ∀ ns : List Int, (∀ n ∈ ns, n.natAbs < 2 ^ 1900) → PyData.showableAll (il ns) = true
  | [], _ => rfl
  | n :: r, h => by
    show (decide (n.natAbs.log2 < 1920) && PyData.showableAll (il r)) = true
    have h1 := h n List.mem_cons_self
    have h2 : n.natAbs.log2 < 1920 := by
      by_cases h0 : n.natAbs = 0
      · rw [h0]; decide
      · have := (Nat.log2_lt h0 (k := 1900)).mpr h1
        omega
    rw [decide_eq_true h2, il_showable r fun m hm => h m (List.mem_cons_of_mem _ hm)]
    rfl
theorem il_noDict : ∀ ns : List Int, PyData.hasDictAll (il ns) = false
  | [] => rfl
  | _ :: r => il_noDict r
theorem il_wt : ∀ ns : List Int, wtA (il ns) = 1924 * ns.length
  | [] => rfl
  | n :: r => by
    show 1922 + 2 + wtA (il r) = _
    rw [il_wt r, List.length_cons]; omega
theorem il_rp {ns : List Int} (h : ∀ n ∈ ns, n.natAbs < 2 ^ 1900) (hl : ns.length ≤ 5000) : Rp (.list (il ns)) :=
  Rp.of (il_showable ns h) (il_noDict ns) (by show PyData.depthAll (il ns) + 1 ≤ 40; rw [il_depth]; decide) (by show wtA (il ns) + 2 ≤ _; rw [il_wt]; omega)
theorem il_rpT {ns : List Int} (h : ∀ n ∈ ns, n.natAbs < 2 ^ 1900) (hl : ns.length ≤ 5000) : Rp (.tuple (il ns)) :=
  Rp.of (il_showable ns h) (il_noDict ns) (by show PyData.depthAll (il ns) + 1 ≤ 40; rw [il_depth]; decide) (by show wtA (il ns) + 3 ≤ _; rw [il_wt]; omega)
theorem il_any (i : Int) : ∀ ns : List Int, ((il ns).any fun z => PyData.eqv z (.int i)) = decide (i ∈ ns)
  | [] => rfl
  | n :: r => by
    show ((n == i) || (il r).any fun z => PyData.eqv z (.int i)) = _
    rw [il_any i r]
    by_cases h : n = i
    · subst h; simp
    · have : i ≠ n := fun z => h z.symm
      simp [h, this]
theorem il_at {ns : List Int} {i : Int} {n : Int} (h : atI ns i = some n) : atI (il ns) i = some (.int n) := by
  unfold atI at h ⊢
  rw [il_len]
  cases e : ixN ns.length i with
  | none => rw [e] at h; cases h
  | some j =>
    rw [e] at h
    show (il ns)[j]? = _
    have h' : ns[j]? = some n := h
    unfold il
    rw [List.getElem?_map, h']
    rfl
theorem il_get {ns : List Int} {j : Nat} {n : Int} (h : ns[j]? = some n) : (il ns)[j]? = some (.int n) := by unfold il; rw [List.getElem?_map, h]; rfl
theorem il_append (a b : List Int) : il (a ++ b) = il a ++ il b := List.map_append ..
theorem il_eqv : ∀ (a b : List Int), PyData.eqvAll (il a) (il b) = decide (a = b)
  | [], [] => rfl
  | [], _ :: _ => rfl
  | _ :: _, [] => rfl
  | x :: a, y :: b => by
    show ((x == y) && PyData.eqvAll (il a) (il b)) = _
    rw [il_eqv a b]
    by_cases h : x = y
    · subst h; simp
    · simp [h]
theorem rngD_il (lo hi : Int) : rngD lo hi = il ((List.range (hi - lo).toNat).map fun i => lo + (i : Nat)) := by
  unfold rngD il
  rw [List.map_map]
  rfl
theorem atI_neg {α : Type} {xs : List α} {k : Nat} {v : α} (h1 : 1 ≤ k) (h2 : k ≤ xs.length) (h : xs[xs.length - k]? = some v) : atI xs (-(k : Int)) = some v := by
  unfold atI ixN
  rw [if_neg (by omega), if_pos (by omega)]
  show xs[(-(k : Int) + xs.length).toNat]? = some v
  rw [show (-(k : Int) + (xs.length : Int)).toNat = xs.length - k by omega]
  exact h
theorem rpI {i : Int} (h : i.natAbs < 2 ^ 1900) : Rp (.int i) := by
  have := il_showable [i] (by intro n hn; rw [List.mem_singleton.mp hn]; exact h)
  have h1 : (PyData.int i).showable = true := by
    have h2 : ((PyData.int i).showable && PyData.showableAll []) = true := this
    rw [Bool.and_eq_true] at h2
    exact h2.1
  exact Rp.of h1 rfl (by show 0 ≤ 40; decide) (by show 1922 ≤ 16777216; decide)
theorem rpN : Rp .none := Rp.of rfl rfl (by decide) (by decide)
theorem InI {i : Int} {ns : List Int} {P : Bool → Prop} (h1 : i ∈ ns → P true) (h2 : i ∉ ns → P false) : InD (.int i) (.list (il ns)) P := ⟨rfl, il_shaped ns, by
  rw [il_any]
  by_cases h : i ∈ ns
  · rw [decide_eq_true h]; exact h1 h
  · rw [decide_eq_false h]; exact h2 h⟩
theorem InTI {i : Int} {ns : List Int} {P : Bool → Prop} (h1 : i ∈ ns → P true) (h2 : i ∉ ns → P false) : InT (.int i) (.tuple (il ns)) P := ⟨i, ns, rfl, rfl, by
  by_cases h : i ∈ ns
  · rw [decide_eq_true h]; exact h1 h
  · rw [decide_eq_false h]; exact h2 h⟩
theorem SeqD.l {ds : List PyData} {P : List PyData → Prop} (h : P ds) : SeqD (.list ds) P := h
theorem SeqD.t {ds : List PyData} {P : List PyData → Prop} (h : P ds) : SeqD (.tuple ds) P := h
def rg (n : Int) : List Int := (List.range n.toNat).map fun (i : Nat) => (i : Int)
theorem rng0 (n : Int) : rngD 0 n = il (rg n) := by
  rw [rngD_il, Int.sub_zero]
  unfold rg
  congr 1
  funext
  simp
theorem rg_len (n : Int) : (rg n).length = n.toNat := by unfold rg; rw [List.length_map, List.length_range]
theorem rng_get {lo hi : Int} {m : Nat} {d : PyData} (h : (rngD lo hi)[m]? = some d) : d = .int (lo + m) ∧ lo + (m : Int) < hi := by
  unfold rngD at h
  rw [List.getElem?_map] at h
  by_cases hm : m < (hi - lo).toNat
  · rw [List.getElem?_range hm] at h
    cases h
    exact ⟨rfl, by omega⟩
  · rw [List.getElem?_eq_none (by rw [List.length_range]; omega)] at h
    cases h
theorem rng0_get {n : Int} {m : Nat} {d : PyData} (h : (rngD 0 n)[m]? = some d) : d = .int m ∧ (m : Int) < n := by
  obtain ⟨h1, h2⟩ := rng_get h
  rw [Int.zero_add] at h1 h2
  exact ⟨h1, h2⟩
theorem rng_len (lo hi : Int) : (rngD lo hi).length = (hi - lo).toNat := by unfold rngD; rw [List.length_map, List.length_range]
theorem rg_get {n : Int} {m : Nat} {d : PyData} (h : (il (rg n))[m]? = some d) : d = .int m ∧ (m : Int) < n := by
  rw [← rng0] at h
  exact rng0_get h
theorem rg_take (n : Int) (m : Nat) (h : (m : Int) < n) : (rg n).take (m + 1) = (rg n).take m ++ [(m : Int)] := by
  rw [List.take_add_one]
  unfold rg
  rw [List.getElem?_map, List.getElem?_range (by omega)]
  rfl
theorem rg_take_all (n : Int) : (rg n).take n.toNat = rg n := List.take_of_length_le (by rw [rg_len]; exact Nat.le_refl _)
end Kt

set_option autoImplicit false
namespace Kt
open PySem L2 PyProof.Rows
open Evl (Ex)
/-! ### the source of draws -/
theorem srcK_get (c : Addr) (l m t : Int) : valV (srcK c l m t) (Sum.inr "cells") = some (.ref c) ∧ valV (srcK c l m t) (Sum.inr "left") = some (.int l) ∧ valV (srcK c l m t) (Sum.inr "mixed") = some (.int m) ∧ valV (srcK c l m t) (Sum.inr "turn") = some (.int t) := ⟨rfl, rfl, rfl, rfl⟩
theorem srcK_left (c : Addr) (l m t v : Int) : putK (srcK c l m t) (Sum.inr "left") (.int v) = srcK c v m t := rfl
theorem srcK_turn (c : Addr) (l m t v : Int) : putK (srcK c l m t) (Sum.inr "turn") (.int v) = srcK c l m v := rfl
section
variable {Pg : Program} {w : World} {K : PySem.W.Frag} {mg : Str → Option Value} {base : Heap} {N : List Str} {sc : Scope} {k j : Nat} {X : Cx} {ρ : List Sl} {P : PyData → Prop} {a b e : Expr} {pos : Pos} {κ : Kn} {st : Stmt} {rest : List Stmt}
theorem Nw.atS {s c : Addr} {F H : Hp} {o : HO} {p : Addr} (W : Wk (some (s, c)) F H) (hp : p = s ∨ p = c) (h : SrcAt s c (upd H p o)) : Nw (some (s, c)) F H F (upd H p o) := by
  refine ⟨Ex.refl F, fun a u z => ?_, fun a u n z => ?_, fun _ _ _ => rfl, h, W.sf⟩
  · have : a ≠ p := fun q => by
      have := W.sf a (by rw [q]; exact hp)
      rw [this] at z; cases z
    rw [upd_ne this]; exact W.fh a u z
  · rw [upd_ne (fun q => n (by rw [q]; exact hp))]; exact z
theorem EN.srcI {i : Nat} {x : Str} {key : Str} {p1 p2 : Pos} {j2} (C : Ctx Pg w K mg base N sc k X) (hN : N[i]? = some x) (hv : Vis sc x) (hi : ρ[i]? = some .src) (hs : NoSl (.Constant (.str key) j2 p2))
    (h : ∀ s c H, SrcAt s c H → ∃ (l m t : Int) (ns : List Int) (v : Int), H s = some (.dK (srcK c l m t)) ∧ valV (srcK c l m t) (Sum.inr key) = some (.int v) ∧ P (.int v))
    (hd : (x == ("__debug__" : Str)) = false := by decide) (hcd : (x == ("__classdict__" : Str)) = false := by decide) : EN X (.Subscript (.Name x p1) (.Constant (.str key) j2 p2) pos) ρ P :=
  EN.by (pe_dget (hu_of C.room) (pe_var (i := i) (by rw [C.nn]; exact hN) (by rw [C.scope]; exact hv) hd hcd) pe_str hs) fun G σ F H E Q q => by
    obtain ⟨s, c, h1, h2⟩ := E.sl i _ hi
    have hsrc : SrcAt s c H := by have := E.nw.src; rw [h1] at this; exact this
    obtain ⟨l, m, t, ns, v, g1, g2, p⟩ := h s c H hsrc
    refine ⟨_, h2, s, .int v, rfl, ?_, q (.int v) _ F H p E.wk.nw rfl⟩
    have := DGet.k (k := (Sum.inr key : Key)) g1
    rw [g2] at this
    exact this
theorem EN.srcLeft {i : Nat} {x : Str} {p1 p2 : Pos} {j2} (C : Ctx Pg w K mg base N sc k X) (hN : N[i]? = some x) (hv : Vis sc x) (hi : ρ[i]? = some .src) (h : ∀ v : Int, 0 ≤ v → P (.int v))
    (hd : (x == ("__debug__" : Str)) = false := by decide) (hcd : (x == ("__classdict__" : Str)) = false := by decide) : EN X (.Subscript (.Name x p1) (.Constant (.str "left") j2 p2) pos) ρ P :=
  EN.srcI C hN hv hi (fun _ _ => rfl) (fun s c H ⟨_, l, m, t, ns, h1, h2, h3, h4, h5, h6, h7⟩ => ⟨l, m, t, ns, l, h1, rfl, h l h3⟩) hd hcd
theorem EN.srcMixed {i : Nat} {x : Str} {p1 p2 : Pos} {j2} (C : Ctx Pg w K mg base N sc k X) (hN : N[i]? = some x) (hv : Vis sc x) (hi : ρ[i]? = some .src) (h : ∀ v : Int, 0 ≤ v → v < 2147483629 → P (.int v))
    (hd : (x == ("__debug__" : Str)) = false := by decide) (hcd : (x == ("__classdict__" : Str)) = false := by decide) : EN X (.Subscript (.Name x p1) (.Constant (.str "mixed") j2 p2) pos) ρ P :=
  EN.srcI C hN hv hi (fun _ _ => rfl) (fun s c H ⟨_, l, m, t, ns, h1, h2, h3, h4, h5, h6, h7⟩ => ⟨l, m, t, ns, m, h1, rfl, h m h5 h6⟩) hd hcd
theorem EN.srcTurn {i : Nat} {x : Str} {p1 p2 : Pos} {j2} (C : Ctx Pg w K mg base N sc k X) (hN : N[i]? = some x) (hv : Vis sc x) (hi : ρ[i]? = some .src) (h : ∀ v : Int, 0 ≤ v → P (.int v))
    (hd : (x == ("__debug__" : Str)) = false := by decide) (hcd : (x == ("__classdict__" : Str)) = false := by decide) : EN X (.Subscript (.Name x p1) (.Constant (.str "turn") j2 p2) pos) ρ P :=
  EN.srcI C hN hv hi (fun _ _ => rfl) (fun s c H ⟨_, l, m, t, ns, h1, h2, h3, h4, h5, h6, h7⟩ => ⟨l, m, t, ns, t, h1, rfl, h t h7⟩) hd hcd
theorem SN.srcPut {i : Nat} {x : Str} {key : Str} {p1 p2 p3 : Pos} {j2} (C : Ctx Pg w K mg base N sc k X) (hN : N[i]? = some x) (hv : Vis sc x) (hi : ρ[i]? = some .src) (hkey : key = "left" ∨ key = "turn")
    (hs : swapsWith e (some (.Subscript (.Name x p1) (.Constant (.str key) j2 p2) p3)) pos.line X.env = pure false)
    (h : EN X e ρ fun d => ∃ v : Int, d = .int v ∧ 0 ≤ v ∧ κ.nx ρ)
    (hd : (x == ("__debug__" : Str)) = false := by decide) (hcd : (x == ("__classdict__" : Str)) = false := by decide) : SN X (.Assign [.Subscript (.Name x p1) (.Constant (.str key) j2 p2) p3] e pos) ρ κ :=
  SN.by (ps_dput (hu_of C.room) (pe_var (i := i) (by rw [C.nn]; exact hN) (by rw [C.scope]; exact hv) hd hcd) pe_str pe_w hs) fun G σ F H E D A => by
    refine h G σ F H E _ ?_
    rintro d v' F' H' ⟨v, rfl, h0, p⟩ n r
    obtain rfl : v' = .int v := r
    have E' := E.mono n
    obtain ⟨s, c, h1, h2⟩ := E'.sl i _ hi
    have hsrc : SrcAt s c H' := by have := E'.nw.src; rw [h1] at this; exact this
    obtain ⟨sc', l, m, t, ns, g1, g2, g3, g4, g5, g6, g7⟩ := hsrc
    have W : Wk (some (s, c)) F' H' := by have := E'.wk; rw [h1] at this; exact this
    refine ⟨_, h2, s, upd H' s (.dK (putK (srcK c l m t) (Sum.inr key) (.int v))), rfl, DPut.k (k := (Sum.inr key : Key)) g1 (by show 4 < sizeLine; decide), ?_⟩
    refine A.nx ρ σ F' _ p (E'.mono ?_)
    rw [h1]
    refine Nw.atS W (Or.inl rfl) ?_
    have g2' : ∀ o, (upd H' s o) c = some (.lst (ns.map V.int)) := fun o => by rw [upd_ne (fun z => sc' z.symm)]; exact g2
    rcases hkey with rfl | rfl
    · exact ⟨sc', v, m, t, ns, by rw [upd_same, srcK_left], g2' _, h0, g4, g5, g6, g7⟩
    · exact ⟨sc', l, m, v, ns, by rw [upd_same, srcK_turn], g2' _, g3, g4, g5, g6, h0⟩
/-- cells = source["cells"] -/
theorem SN.celGet {i i2 : Nat} {x y : Str} {p1 p2 p3 py : Pos} {j2} (C : Ctx Pg w K mg base N sc k X) (Fx : ∀ x, X.fn x = true) (hN : N[i]? = some x) (hv : Vis sc x) (hi : ρ[i]? = some .src) (hN2 : N[i2]? = some y) (hy : L2.Loc sc y)
    (hs : swapsWith (.Subscript (.Name x p1) (.Constant (.str "cells") j2 p2) p3) (some (.Name y py)) pos.line X.env = pure false) (h : κ.nx (ρ.set i2 .cel))
    (hd : (x == ("__debug__" : Str)) = false := by decide) (hcd : (x == ("__classdict__" : Str)) = false := by decide) : SN X (.Assign [.Name y py] (.Subscript (.Name x p1) (.Constant (.str "cells") j2 p2) p3) pos) ρ κ :=
  SN.by (ps_set (i := i2) (by rw [C.nn]; exact C.nd) (by rw [C.nn]; exact hN2) (by unfold L2.Loc; rw [C.scope]; exact hy) (pe_dget (hu_of C.room) (pe_var (i := i) (by rw [C.nn]; exact hN) (by rw [C.scope]; exact hv) hd hcd) pe_str (fun _ _ => rfl)) hs (.inl (Fx y))) fun G σ F H E D A => by
    obtain ⟨s, c, h1, h2⟩ := E.sl i _ hi
    have hsrc : SrcAt s c H := by have := E.nw.src; rw [h1] at this; exact this
    obtain ⟨sc', l, m, t, ns, g1, g2, _⟩ := hsrc
    refine ⟨_, h2, s, .ref c, rfl, DGet.k (k := (Sum.inr "cells" : Key)) g1, A.nx _ _ F H h ?_⟩
    have E2 := E.forget (i := i2) (o := some (V.ref c))
    refine ⟨E2.nw, E2.s0, by rw [List.length_set, List.length_set]; exact E.len, fun m z hz => ?_, fun m n hmn hm hn => ?_⟩
    · by_cases hm : i2 = m
      · subst hm
        by_cases hl : i2 < ρ.length
        · rw [List.getElem?_set_self hl] at hz; cases hz
          exact ⟨s, c, h1, List.getElem?_set_self (by rw [E.len]; exact hl)⟩
        · rw [List.getElem?_eq_none (by rw [List.length_set]; omega)] at hz; cases hz
      · have := E2.sl m z (by rw [List.getElem?_set_ne hm]; rw [List.getElem?_set_ne hm] at hz; exact hz)
        exact this
    · have f : ∀ q : Nat, isOwn (ρ.set i2 .cel)[q]? → isOwn (ρ.set i2 .no)[q]? := fun q hq => by
        by_cases hq2 : i2 = q
        · subst hq2
          by_cases hl : i2 < ρ.length
          · rw [List.getElem?_set_self hl] at hq; exact hq.elim
          · rw [List.getElem?_eq_none (by rw [List.length_set]; omega)] at hq; exact hq.elim
        · rw [List.getElem?_set_ne hq2] at hq ⊢; exact hq
      exact E2.ap m n hmn (f m hm) (f n hn)
/-- while source["left"] < 2 and len(cells) > 0: source["left"] = cells.pop() -/
theorem SN.srcWhile {i i2 : Nat} {x y : Str} {t p1 p2 p3 p4 p5 p6 p7 p8 p9 q1 q2 q3 q4 q5 q6 q7 q8 : Pos} {j1 j2 j3 j4} (C : Ctx Pg w K mg base N sc k X) (hN : N[i]? = some x) (hv : Vis sc x) (hi : ρ[i]? = some .src) (hN2 : N[i2]? = some y) (hv2 : Vis sc y) (hi2 : ρ[i2]? = some .cel)
    (hg : Gi sc "len") (hm : mg "len" = none) (h : κ.nx ρ)
    (hs : swapsWith (.Call (.Attribute (.Name y q1) "pop" q2) [] [] q3) (some (.Subscript (.Name x q4) (.Constant (.str "left") j4 q5) q6)) q7.line X.env = pure false)
    (hline : (q2.endLine == q3.line) = true)
    (hd : (x == ("__debug__" : Str)) = false := by decide) (hcd : (x == ("__classdict__" : Str)) = false := by decide) (hd2 : (y == ("__debug__" : Str)) = false := by decide) (hcd2 : (y == ("__classdict__" : Str)) = false := by decide) :
    SN X (.While (.BoolOp .And [.Compare (.Subscript (.Name x p1) (.Constant (.str "left") j1 p2) p3) [.Lt] [.Constant (.int 2) j2 p4] p5, .Compare (.Call (.Name "len" p6) [.Name y p7] [] p8) [.Gt] [.Constant (.int 0) j3 p9] q8] t)
      [.Assign [.Subscript (.Name x q4) (.Constant (.str "left") j4 q5) q6] (.Call (.Attribute (.Name y q1) "pop" q2) [] [] q3) q7] [] pos) ρ κ := by
  have pvx : ∀ {p : Pos}, PE X (.Name x p) (tVar i) := fun {p} => pe_var (i := i) (by rw [C.nn]; exact hN) (by rw [C.scope]; exact hv) hd hcd
  have pvy : ∀ {p : Pos}, PE X (.Name y p) (tVar i2) := fun {p} => pe_var (i := i2) (by rw [C.nn]; exact hN2) (by rw [C.scope]; exact hv2) hd2 hcd2
  have hu := hu_of C.room
  refine SN.by (ps_while (by rw [C.xe]; exact PassesOwn.never)
    (PW.pt (pw_and (pt_cmpR op_lt (pe_dget hu pvx pe_str (fun _ _ => rfl)) pe_int (nomark _)) (pw_and1 (pt_cmpR op_gt (pe_callB call_len (by unfold Gl Env.kindOf; rw [C.scope]; exact hg) (by rw [C.mg]; exact hm) (by decide +kernel) (pa_cons pvy pa_nil)) pe_int (nomark _)))))
    (pss_one (ps_dput hu pvx pe_str (pe_bm0 PySem.F.plainAttrs_list PySem.F.slot_list_pop PySem.F.type_list_pop mt_pop pvy rfl hline) hs))) ?_
  intro G σ F H E D A
  obtain ⟨s, c, h1, h2⟩ := E.sl i _ hi
  obtain ⟨s', c', h1', h2'⟩ := E.sl i2 _ hi2
  rw [h1] at h1'
  cases h1'
  have srcOf : ∀ {F H}, ES X.K G σ F H ρ → SrcAt s c H := fun {F H} E => by have := E.nw.src; rw [h1] at this; exact this
  obtain ⟨nsc, l0, mx0, tn0, ns0, a1, a2, a3, a4, a5, a6, a7⟩ := srcOf E
  refine ⟨fun m σ' H' => σ' = σ ∧ ∃ (F' : Hp) (ns : List Int), ES X.K G σ F' H' ρ ∧ H' c = some (.lst (ns.map V.int)) ∧ ns.length = m, ⟨ns0.length, rfl, F, ns0, E, a2, rfl⟩, ?_⟩
  rintro m σ' H' ⟨rfl, F', ns', E', hns, rfl⟩
  obtain ⟨_, l, mx, tn, ns, g1, g2, g3, g4, g5, g6, g7⟩ := srcOf E'
  have ens : ns = ns' := by
    rw [hns] at g2
    have e1 : ns'.map V.int = ns.map V.int := by injection (Option.some.inj g2)
    have inj : ∀ {a b : List Int}, a.map V.int = b.map V.int → a = b := by
      intro a
      induction a with
      | nil => intro b e; cases b with
        | nil => rfl
        | cons _ _ => cases e
      | cons x a ih => intro b e; cases b with
        | nil => cases e
        | cons y b =>
          injection e with e1 e2
          injection e1 with e1
          rw [e1, ih e2]
    exact (inj e1).symm
  subst ens
  -- the test
  refine ⟨_, h2, s, .int l, rfl, DGet.k (k := (Sum.inr "left" : Key)) g1, l, 2, rfl, rfl, decide (l < 2), rfl, ?_⟩
  refine ite2 (fun hb => ?_) (fun hb => ?_)
  · refine ⟨_, h2', _, ns.length, rfl, Or.inl ⟨_, SqL.of g2, (List.length_map ..).symm⟩, (ns.length : Int), 0, rfl, rfl, decide ((0 : Int) < ns.length), rfl, ?_⟩
    refine ite2 (fun hc => ?_) (fun hc => ?_)
    · have hpos : (0 : Int) < ns.length := of_decide_eq_true hc
      have hne : ns.length - 1 < ns.length := by omega
      refine ⟨fun σ2 H2 => σ2 = σ' ∧ ∃ (F2 : Hp) (ns2 : List Int), ES X.K G σ' F2 H2 ρ ∧ H2 c = some (.lst (ns2.map V.int)) ∧ ns2.length < ns.length, ?_, ?_⟩
      · rintro σ2 H2 ⟨rfl, F2, ns2, E2, q2, q3⟩
        exact ⟨ns2.length, q3, rfl, F2, ns2, E2, q2, rfl⟩
      · -- the popped cell
        have hv := List.getElem?_eq_getElem hne
        have hy : (ns.map V.int)[(ns.map V.int).length - 1]? = some (.int ns[ns.length - 1]) := by
          rw [List.length_map, List.getElem?_map, hv]; rfl
        refine ⟨_, h2', Or.inl ⟨rfl, _, SqL.of g2⟩, c, ns.map V.int, _, rfl, rfl, g2, hy, ?_⟩
        have csn : c ≠ s := fun z => nsc z.symm
        have g1' : (upd H' c (.lst (ns.map V.int).dropLast)) s = some (.dK (srcK c l mx tn)) := by rw [upd_ne nsc]; exact g1
        refine ⟨_, h2, s, _, rfl, DPut.k (k := (Sum.inr "left" : Key)) g1' (by show 4 < sizeLine; decide), rfl, F', ns.dropLast, ?_, ?_, ?_⟩
        · have W : Wk (some (s, c)) F' H' := by have := E'.wk; rw [h1] at this; exact this
          have hcell : 0 ≤ ns[ns.length - 1] := g4 _ (List.getElem_mem hne)
          have hdrop : (ns.map V.int).dropLast = ns.dropLast.map V.int := by rw [List.map_dropLast]
          have s1 : SrcAt s c (upd H' c (.lst (ns.map V.int).dropLast)) := ⟨nsc, l, mx, tn, ns.dropLast, g1', by rw [upd_same, hdrop], g3, fun n hn => g4 n (List.dropLast_subset ns hn), g5, g6, g7⟩
          have n1 := Nw.atS W (Or.inr rfl) s1
          have s2 : SrcAt s c (upd (upd H' c (.lst (ns.map V.int).dropLast)) s (.dK (putK (srcK c l mx tn) (Sum.inr "left") (.int ns[ns.length - 1])))) :=
            ⟨nsc, ns[ns.length - 1], mx, tn, ns.dropLast, by rw [upd_same, srcK_left], by rw [upd_ne csn, upd_same, hdrop], hcell, fun n hn => g4 n (List.dropLast_subset ns hn), g5, g6, g7⟩
          have n2 := Nw.atS n1.wk (Or.inl rfl) s2
          refine E'.mono ?_
          rw [h1]
          exact n1.trans n2
        · rw [upd_ne csn, upd_same, List.map_dropLast]
        · rw [List.length_dropLast]; omega
    · exact A.nx ρ σ' F' H' h E'
  · refine iteF ?_
    exact A.nx ρ σ' F' H' h E'
end
end Kt

namespace Kt
open PySem L2 PyProof.Rows
open Evl (Ex)
section
variable {Pg : Program} {w : World} {K : PySem.W.Frag} {mg : Str → Option Value} {base : Heap} {N : List Str} {sc : Scope} {k j : Nat} {X : Cx} {ρ : List Sl} {P : PyData → Prop} {a b c e : Expr} {pos : Pos} {κ : Kn} {st : Stmt} {rest : List Stmt}
theorem EN.cut {v : PyData} (h : EN X e ρ fun d => d = v) (p : P v) : EN X e ρ P := h.mono fun _ e => e ▸ p
theorem PowI.v {i j n : Int} (hc : CPow i j) (e : i ^ j.toNat = n) (h : P (.int n)) : Int2 CPow (fun i j => .int (i ^ j.toNat)) (.int i) (.int j) P := ⟨hc, by show P (.int (i ^ j.toNat)); rw [e]; exact h⟩
/-- two texts -/
def NeT2 (x y : PyData) (P : Bool → Prop) : Prop := ∃ s t : Str, x = .str s ∧ y = .str t ∧ P (!decide (s = t))
theorem TN.neS {P : Bool → Prop} (h : EN X a ρ fun x => EN X b ρ fun y => NeT2 x y P) : TN X (.Compare a [.NotEq] [b] pos) ρ P :=
  TN.cmp op_ne (nomark _) (h.mono fun _ h => h.mono fun _ ⟨s, t, e1, e2, p⟩ => by
    subst e1 e2
    intro S F H w v u x y Q q
    obtain rfl : v = .str s := x
    obtain rfl : u = .str t := y
    exact ⟨rfl, q (.bool (!decide (s = t))) _ F H ⟨_, rfl, p⟩ w.nw (by
      show V.bl (!decide (V.str s = V.str t)) = V.bl (!decide (s = t))
      rw [show decide (V.str s = V.str t) = decide (s = t) by rw [Bool.eq_iff_iff]; simp])⟩)
theorem NeS {s t : Str} {P : Bool → Prop} (h1 : s ≠ t → P true) (h2 : s = t → P false) : NeT2 (.str s) (.str t) P := ⟨s, t, rfl, rfl, by
  by_cases h : s = t
  · rw [decide_eq_true h]; exact h2 h
  · rw [decide_eq_false h]; exact h1 h⟩
theorem shSI {s : Str} (hs : PyData.canLay0 (.str s) = true) (i : Int) : SeqAt.shaped (.tuple [.str s, .int i]) = true := by
  have hd : PyData.depth (.tuple [.str s, .int i]) = 1 := rfl
  show ((PyData.canLay0 (.str s) && (true && true)) && decide (PyData.depth (.tuple [.str s, .int i]) ≤ 64)) = true
  rw [hs, hd]; rfl
theorem NeTI {s : Str} {i j : Int} {P : Bool → Prop} (hs : PyData.canLay0 (.str s) = true) (e : i = j) (h : P false) : NeT (.tuple [.str s, .int i]) (.tuple [.str s, .int j]) P := ⟨shSI hs _, shSI hs _, by
  subst e
  show P (!((s == s) && ((i == i) && true)))
  rw [beq_self_eq_true, beq_self_eq_true]; exact h⟩
theorem NeL {a b : List Int} {P : Bool → Prop} (h1 : a ≠ b → P true) (h2 : a = b → P false) : NeT (.list (il a)) (.list (il b)) P := ⟨il_shaped a, il_shaped b, by
  show P (!PyData.eqvAll (il a) (il b))
  rw [il_eqv]
  by_cases h : a = b
  · rw [decide_eq_true h]; exact h2 h
  · rw [decide_eq_false h]; exact h1 h⟩
/-- name = e, where the store may depend on what sort of name it is -/
theorem SN.asgW {i : Nat} {x : Str} {p2 : Pos} (C : Ctx Pg w K mg base N sc k X) (Fx : ∀ x, X.fn x = true) (hN : N[i]? = some x) (hx : L2.Loc sc x) (hs : ∀ en : Env, en.scope = sc → swapsWith e (some (.Name x p2)) pos.line en = pure false)
    (h : EN X e ρ fun d => κ.nx (ρ.set i (.dat d))) : SN X (.Assign [.Name x p2] e pos) ρ κ := SN.asg C Fx hN hx (hs _ C.scope) h
theorem two_get {x y : PyData} {m : Nat} {d : PyData} (h : [x, y][m]? = some d) : d = x ∨ d = y := by
  rcases List.mem_cons.mp (List.mem_of_getElem? h) with e | h2
  · exact Or.inl e
  · exact Or.inr (List.mem_singleton.mp h2)
end
end Kt

namespace Kt
open PySem L2 PyProof.Rows
open Evl (Ex)
/-! ### the law's own start, and what the top has written -/
def sp_open (K : PySem.W.Frag) : Sp := fun vs H Q _ => ∃ (a : Addr) (ns : List Int), vs = [.ref a] ∧ SqL K H a (ns.map V.int) ∧ ns.length ≤ 100 ∧
  ∀ (s c : Addr) (H' : Hp), (∀ b o, H b = some o → H' b = some o) → H s = none → H c = none → SrcAt s c H' → Q (.ref s) H'
def sp_law (K : PySem.W.Frag) : Sp := fun vs H Q _ => ∃ (a : Addr) (ns : List Int), vs = [.ref a] ∧ SqL K H a (ns.map V.int) ∧ ns.length ≤ 100 ∧ ∀ v H', v = .bl true → Q v H'
structure Fo (Pg : Program) (w : World) (K : PySem.W.Frag) (mg : Str → Option Value) (base : Heap) (k : Nat) : Prop where
  ex : ∃ (f : Addr) (fd : FuncData), FnG Pg w K mg base k f fd ["script"] (sp_open K) ∧ mg "_law_open_cells" = some (.ref f) ∧ PySem.W.keepIn K (.ref f) = true ∧ Binds K fd ["script"] []
def hid (s c : Addr) (H : Hp) : Hp := fun b => if b = s ∨ b = c then none else H b
theorem hid_no {s c b : Addr} {H : Hp} (h : b = s ∨ b = c) : hid s c H b = none := if_pos h
theorem hid_of {s c b : Addr} {H : Hp} {o : HO} (h : hid s c H b = some o) : H b = some o := by
  by_cases e : b = s ∨ b = c
  · rw [hid_no e] at h; cases h
  · rw [← h]; exact (if_neg e).symm
section
variable {Pg : Program} {w : World} {K : PySem.W.Frag} {mg : Str → Option Value} {base : Heap} {N : List Str} {sc : Scope} {k j : Nat} {X : Cx} {rest : List Stmt}
theorem es_open {s c : Addr} {H : Hp} {σ : L2.St} {n : Nat} (h : SrcAt s c H) (hl : σ.length = n + 2) (h1 : σ[1]? = some (some (.ref s))) : ES K ⟨some (s, c), hid s c H, H⟩ σ (hid s c H) H (.no :: .src :: List.replicate n .no) := by
  have w0 : Wk (some (s, c)) (hid s c H) H := ⟨fun b o e => hid_of e, h, fun b i => hid_no i⟩
  refine ⟨w0.nw, h, by rw [hl]; simp, fun i sl e => ?_, fun i l _ hi _ => ?_⟩
  · match i, e with
    | 0, e => cases e; exact trivial
    | 1, e => cases e; exact ⟨s, c, rfl, h1⟩
    | i + 2, e =>
      have e2 : (List.replicate n Sl.no)[i]? = some sl := e
      rw [List.getElem?_replicate] at e2
      by_cases hn : i < n
      · rw [if_pos hn] at e2; cases e2; exact trivial
      · rw [if_neg hn] at e2; cases e2
  · match i, hi with
    | 0, hi => exact hi.elim
    | 1, hi => exact hi.elim
    | i + 2, hi =>
      have e2 : (Sl.no :: Sl.src :: List.replicate n Sl.no)[i + 2]? = (List.replicate n Sl.no)[i]? := rfl
      rw [e2, List.getElem?_replicate] at hi
      by_cases hn : i < n
      · rw [if_pos hn] at hi; exact hi.elim
      · rw [if_neg hn] at hi; exact hi.elim
theorem lawStart {p1 p2 p3 p4 p5 : Pos} {n : Nat} (C : Ctx Pg w K mg base N sc k X) (Fx : ∀ x, X.fn x = true) (FO : Fo Pg w K mg base k) (h0 : N[0]? = some (Str.ofString "script")) (h1 : N[1]? = some (Str.ofString "source")) (hN : N.length = n + 2)
    (hx : L2.Loc sc "source") (hv : Vis sc "script") (hg : sc.names.lookup (Str.ofString "_law_open_cells") = some .globalImplicit) {a : Addr} {ns : List Int} {H : Hp} {Q : VK} (hS : SqL K H a (ns.map V.int)) (hlen : ns.length ≤ 100) (q : ∀ v H', v = .bl true → Q v H')
    (hb : BN X rest (.no :: .src :: List.replicate n .no) { nx := fun _ => False, rt := fun d => d = .bool true }) 
    (hs : swapsWith (.Call (.Name "_law_open_cells" p2) [.Name "script" p3] [] p4) (some (.Name "source" p1)) p5.line X.env = pure false) (he : starEach [.Name "script" p3] X.env = (false, eval (.Name "script" p3) X.env) :: starEach [] X.env) (hpl : (backTo p4 (starEach [] X.env)).any (·.1) = false) :
    ∃ t, PSs X (.Assign [.Name "source" p1] (.Call (.Name "_law_open_cells" p2) [.Name "script" p3] [] p4) p5 :: rest) t ∧ t { nx := fun _ H' => Q .non H', rt := Q } (L2.start N [.ref a]) H := by
  obtain ⟨f, fd, F, hm, hk, hbd⟩ := FO.ex
  have c1 := C.prog; have c2 := C.wd; have c3 := C.kk; have c4 := C.mg; have c5 := C.base
  subst c1 c2 c3 c4 c5
  refine ⟨_, pss_cons (ps_set (i := 1) (by rw [C.nn]; exact C.nd) (by rw [C.nn]; exact h1) (by unfold L2.Loc; rw [C.scope]; exact hx)
    (pe_callG F C.gd C.room (by unfold Gl Env.kindOf; rw [C.scope]; exact hg) hm hk hbd (pa_cons (pe_var (i := 0) (by rw [C.nn]; exact h0) (by rw [C.scope]; exact hv)) pa_nil he) (by decide) he hpl) hs (.inl (Fx _))) pss_w, ?_⟩
  have e0 : (L2.start N [.ref a])[0]? = some (some (.ref a)) := rfl
  refine ⟨_, e0, a, ns, rfl, hS, hlen, fun s c H' _ _ _ hsrc => ?_⟩
  have hl : (L2.start N [.ref a]).length = n + 2 := by
    unfold L2.start
    simp only [List.length_append, List.length_map, List.length_replicate, List.length_cons, List.length_nil]
    omega
  refine hb ⟨some (s, c), hid s c H', H'⟩ _ _ _ (es_open hsrc (by rw [List.length_set]; exact hl) (List.getElem?_set_self (by omega))) _ ⟨?_, ?_, ?_, ?_, fun _ _ _ _ z => z.elim⟩
  · exact fun _ _ _ _ z => z.elim
  · intro d v F2 H2 e _ r
    subst e
    exact q v H2 r
  · exact fun _ _ _ _ z => z.elim
  · exact fun _ _ _ _ z => z.elim
theorem Fd.mono {x : Str} {W : Wp} (h : Fd Pg w K mg base j x W) (hj : j ≤ k) : Fd Pg w K mg base k x W := by
  obtain ⟨f, fd, ps, F, r⟩ := h.ex
  exact ⟨⟨f, fd, ps, F.mono hj, r⟩⟩
theorem Fo.mono (h : Fo Pg w K mg base j) (hj : j ≤ k) : Fo Pg w K mg base k := by
  obtain ⟨f, fd, F, r⟩ := h.ex
  exact ⟨⟨f, fd, F.mono hj, r⟩⟩
end
/-- a def that the top has written -/
structure Df (K : PySem.W.Frag) (x : Str) (st : Stmt) : Prop where
  ex : ∃ (f : Addr) (fd : FuncData), PySem.W.nsIn K mainGlobals x = some (some (.ref f)) ∧ Fun K x x st f fd ∧ PySem.W.keepIn K (.ref f) = true
theorem Df.of {K : PySem.W.Frag} {x : Str} {st : Stmt} {f : Addr} {od an : Option Addr} {sl : Array (Option Value)} {oc kV dc pm cd ct : Value} (a : PySem.W.nsIn K mainGlobals x = some (some (.ref f)))
    (l : K.lookup f = some ⟨oc, od, .func (PySem.W.fnOf x x (defArgs st) (defBody st) (defScope st) .none kV dc pm an cd ct), sl⟩) (c : PySem.W.codeIn K cd x = true) (k : PySem.W.keepIn K (.ref f) = true) : Df K x st := ⟨⟨f, _, a, fun_mk l c k, k⟩⟩
section
variable {Pg : Program} {w : World} {K : PySem.W.Frag} {mg : Str → Option Value} {base : Heap} {k : Nat} {h : Heap} {x : Str} {st : Stmt} {ps : List Str}
theorem Df.fd {W : Wp} (D : Df K x st) (X : K.In h) (G : h.Ns mainGlobals mg) (ok : ∀ (f : Addr) (fd : FuncData), Fun K x x st f fd → FnG Pg w K mg base k f fd ps (spOf K W))
    (hb : ∀ (kV doc pm : Value) (an : Option Addr) (cdv ct : Value) (us : List Value), us.length = ps.length → bindArgs (PySem.W.fnOf x x (defArgs st) (defBody st) (defScope st) .none kV doc pm an cdv ct) ⟨us, []⟩ = pure (ps.zip us)) : Fd Pg w K mg base k x W := by
  obtain ⟨f, fd, a, F, kp⟩ := D.ex
  exact ⟨⟨f, fd, ps, ok f fd F, PySem.W.mg_of X G a, kp, F.binds hb⟩⟩
theorem Df.fo {st : Stmt} (D : Df K "_law_open_cells" st) (X : K.In h) (G : h.Ns mainGlobals mg) (ok : ∀ (f : Addr) (fd : FuncData), Fun K "_law_open_cells" "_law_open_cells" st f fd → FnG Pg w K mg base k f fd ["script"] (sp_open K))
    (hb : ∀ (kV doc pm : Value) (an : Option Addr) (cdv ct : Value) (us : List Value), us.length = 1 → bindArgs (PySem.W.fnOf "_law_open_cells" "_law_open_cells" (defArgs st) (defBody st) (defScope st) .none kV doc pm an cdv ct) ⟨us, []⟩ = pure ([Str.ofString "script"].zip us)) : Fo Pg w K mg base k := by
  obtain ⟨f, fd, a, F, kp⟩ := D.ex
  exact ⟨⟨f, fd, ok f fd F, PySem.W.mg_of X G a, kp, F.binds hb⟩⟩
end
end Kt

/-! Fractions: pairs in shortest terms. -/
namespace Kt
open PySem L2 PyProof.Rows
open Evl (Ex)
def fr (r : Rat) : PyData := .tuple [.int r.num, .int r.den]
/-- both numbers have at most n places of two -/
def Sz (n : Nat) (r : Rat) : Prop := r.num.natAbs < 2 ^ n ∧ r.den < 2 ^ n
def Lt2 (n : Nat) (i : Int) : Prop := i.natAbs < 2 ^ n
theorem Lt2.mono {n m : Nat} {i : Int} (h : Lt2 n i) (hn : n ≤ m) : Lt2 m i := Nat.lt_of_lt_of_le h (Nat.pow_le_pow_right (by decide) hn)
theorem Sz.mono {n m : Nat} {r : Rat} (h : Sz n r) (hn : n ≤ m) : Sz m r := ⟨Nat.lt_of_lt_of_le h.1 (Nat.pow_le_pow_right (by decide) hn), Nat.lt_of_lt_of_le h.2 (Nat.pow_le_pow_right (by decide) hn)⟩
theorem Sz.num {n : Nat} {r : Rat} (h : Sz n r) : Lt2 n r.num := h.1
theorem Sz.den {n : Nat} {r : Rat} (h : Sz n r) : Lt2 n (r.den : Int) := h.2
theorem Lt2.mul {n m : Nat} {i j : Int} (h1 : Lt2 n i) (h2 : Lt2 m j) : Lt2 (n + m) (i * j) := by
  unfold Lt2 at *
  rw [Int.natAbs_mul, Nat.pow_add]
  exact Nat.mul_lt_mul'' h1 h2
theorem Lt2.add {n : Nat} {i j : Int} (h1 : Lt2 n i) (h2 : Lt2 n j) : Lt2 (n + 1) (i + j) := by
  unfold Lt2 at *
  have := Int.natAbs_add_le i j
  rw [Nat.pow_succ]
  omega
theorem Lt2.sub {n : Nat} {i j : Int} (h1 : Lt2 n i) (h2 : Lt2 n j) : Lt2 (n + 1) (i - j) := by
  unfold Lt2 at *
  have := Int.natAbs_sub_le i j
  rw [Nat.pow_succ]
  omega
theorem Lt2.log {n : Nat} {i : Int} (h : Lt2 n i) (hn : 0 < n) : i.natAbs.log2 < n := by
  by_cases h0 : i.natAbs = 0
  · rw [h0]; exact hn
  · exact (Nat.log2_lt h0).mpr h
theorem mul_w {n m : Nat} {i j : Int} (h1 : Lt2 n i) (h2 : Lt2 m j) (hn : n ≤ 9000) (hm : m ≤ 9000) : MulOk i j := Or.inr (by
  have a := (h1.mono (Nat.le_max_left n 1)).log (by omega)
  have b := (h2.mono (Nat.le_max_left m 1)).log (by omega)
  show i.natAbs.log2 + j.natAbs.log2 < 1000000
  omega)
theorem DivI.b {n : Nat} {i j : Int} {P : PyData → Prop} (h0 : j ≠ 0) (hb : Lt2 n j) (hn : n ≤ 8999) (h : P (.int (i.fdiv j))) : Int2 CDivX (fun i j => .int (i.fdiv j)) (.int i) (.int j) P := ⟨⟨h0, by
  have := (hb.mono (Nat.le_max_left n 1)).log (by omega)
  omega⟩, h⟩
/-! the greatest common divisor takes a pair to its shortest terms -/
def gcI (u e : Int) : Int := ((Nat.gcd u.natAbs e.natAbs : Nat) : Int)
theorem gcI_pos {u e : Int} (h : e ≠ 0) : 0 < gcI u e := by
  have := Nat.gcd_pos_of_pos_right u.natAbs (Int.natAbs_pos.mpr h)
  unfold gcI
  omega
theorem gcI_lt {u e : Int} {n : Nat} (h : e ≠ 0) (hb : Lt2 n e) : Lt2 n (gcI u e) := by
  have := Nat.gcd_le_right u.natAbs (Int.natAbs_pos.mpr h)
  unfold Lt2 gcI at *
  rw [Int.natAbs_natCast]
  omega
theorem gcI_num (u e : Int) : gcI u e ∣ u := Int.ofNat_dvd_left.mpr (Nat.gcd_dvd_left ..)
theorem gcI_den (u e : Int) : gcI u e ∣ e := Int.ofNat_dvd_left.mpr (Nat.gcd_dvd_right ..)
theorem gc_int (u e : Int) : ((Int.gcd e u : Nat) : Int) = gcI u e := by unfold gcI Int.gcd; rw [Nat.gcd_comm]
theorem short_pos {u e : Int} (h : 0 < e) : u.fdiv (gcI u e) = (Rat.divInt u e).num ∧ e.fdiv (gcI u e) = ((Rat.divInt u e).den : Int) := by
  have hg := gcI_pos (u := u) (show e ≠ 0 by omega)
  constructor
  · rw [Rat.num_divInt, gc_int, Int.sign_eq_one_of_pos h, Int.one_mul, Int.fdiv_eq_ediv_of_nonneg _ (by omega)]
  · rw [Rat.den_divInt, if_neg (by omega), Int.fdiv_eq_ediv_of_nonneg _ (by omega), Int.natCast_ediv, gc_int, Int.natAbs_of_nonneg (by omega)]
theorem short_neg {u e : Int} (h : e < 0) : u.fdiv (-gcI u e) = (Rat.divInt u e).num ∧ e.fdiv (-gcI u e) = ((Rat.divInt u e).den : Int) := by
  have hg := gcI_pos (u := u) (show e ≠ 0 by omega)
  have f : ∀ x : Int, gcI u e ∣ x → x.fdiv (-gcI u e) = (-x) / gcI u e := by
    rintro x ⟨k, hk⟩
    rw [hk, show gcI u e * k = (-gcI u e) * (-k) by rw [Int.neg_mul_neg], Int.mul_fdiv_cancel_left _ (by omega), show -(-gcI u e * -k) = gcI u e * (-k) by rw [Int.neg_mul, Int.neg_neg], Int.mul_ediv_cancel_left _ (by omega)]
  constructor
  · rw [f u (gcI_num u e), Rat.num_divInt, gc_int, Int.sign_eq_neg_one_of_neg h, Int.neg_mul, Int.one_mul]
  · rw [f e (gcI_den u e), Rat.den_divInt, if_neg (by omega), Int.natCast_ediv, gc_int, Int.ofNat_natAbs_of_nonpos (by omega)]
theorem den_ne (r : Rat) : (r.den : Int) ≠ 0 := by have := r.den_nz; omega
theorem den_pos (r : Rat) : 0 < (r.den : Int) := by have := r.den_nz; omega
theorem q_mul (r s : Rat) : Rat.divInt (r.num * s.num) ((r.den : Int) * s.den) = r * s := by rw [Rat.mul_def', ← Rat.divInt_ofNat, Int.natCast_mul]
theorem q_add (r s : Rat) : Rat.divInt (r.num * s.den + s.num * r.den) ((r.den : Int) * s.den) = r + s := by rw [Rat.add_def', ← Rat.divInt_ofNat, Int.natCast_mul]
theorem q_sub (r s : Rat) : Rat.divInt (r.num * s.den - s.num * r.den) ((r.den : Int) * s.den) = r - s := by rw [Rat.sub_def', ← Rat.divInt_ofNat, Int.natCast_mul]
theorem q_div (r s : Rat) : Rat.divInt (r.num * s.den) ((r.den : Int) * s.num) = r / s := by
  rw [Rat.div_def, Rat.inv_def]
  conv => rhs; lhs; rw [← Rat.num_divInt_den r]
  rw [Rat.divInt_mul_divInt]
theorem num0 {s : Rat} (h : s ≠ 0) : s.num ≠ 0 := fun e => h (Rat.num_eq_zero.mp e)
theorem fr_int (n : Int) : fr (n : Rat) = .tuple [.int n, .int 1] := rfl
theorem fr_rp {n : Nat} {r : Rat} (h : Sz n r) (hn : n ≤ 1900) : Rp (fr r) := by
  have h := h.mono hn
  exact il_rpT (ns := [r.num, (r.den : Int)]) (fun z hz => by
    rcases List.mem_cons.mp hz with rfl | hz
    · exact h.1
    · rw [List.mem_singleton.mp hz]; exact h.2) (show 2 ≤ 5000 by decide)
theorem fr_eqv (r s : Rat) : PyData.eqv (fr r) (fr s) = decide (r = s) := by
  show (r.num == s.num && (((r.den : Int) == (s.den : Int)) && true)) = decide (r = s)
  rw [Bool.and_true]
  by_cases h : r = s
  · subst h
    rw [decide_eq_true rfl, beq_self_eq_true, beq_self_eq_true]; rfl
  · rw [decide_eq_false h]
    by_cases h1 : r.num = s.num
    · have h2 : (r.den : Int) ≠ (s.den : Int) := fun e => h (Rat.ext h1 (by omega))
      rw [beq_eq_false_iff_ne.mpr h2, Bool.and_false]
    · rw [beq_eq_false_iff_ne.mpr h1, Bool.false_and]
theorem fr_shaped (r : Rat) : SeqAt.shaped (fr r) = true := il_shapedT [r.num, (r.den : Int)]
end Kt
namespace Kt
open PySem L2 PyProof.Rows
open Evl (Ex)
section
variable {Pg : Program} {w : World} {K : PySem.W.Frag} {mg : Str → Option Value} {base : Heap} {N : List Str} {sc : Scope} {k j : Nat} {X : Cx} {ρ : List Sl} {P : PyData → Prop} {a b c e : Expr} {pos : Pos}
theorem EN.gcdI {x : Str} {npos : Pos} (C : Ctx Pg w K mg base N sc k X) (hg : Gi sc x) (hm : mg x = some (.builtin "math.gcd")) (hdb : (x == ("__debug__" : Str)) = false)
    (h : EN X a ρ fun d => EN X b ρ fun d2 => ∃ i j : Int, d = .int i ∧ d2 = .int j ∧ P (.int (gcI i j))) (he : starEach [a, b] X.env = (false, eval a X.env) :: starEach [b] X.env) (he2 : starEach [b] X.env = (false, eval b X.env) :: starEach [] X.env) (hpl : (backTo pos (starEach [b] X.env)).any (·.1) = false) : EN X (.Call (.Name x npos) [a, b] [] pos) ρ P := EN.gcd C hg hm hdb h he he2 hpl
end
/-- the divisor that brings the lower number above nought -/
def un (u e : Int) : Int := if 0 < e then gcI u e else -gcI u e
theorem un_ne {u e : Int} (h : e ≠ 0) : un u e ≠ 0 := by
  have := gcI_pos (u := u) h
  unfold un
  split <;> omega
theorem un_lt {u e : Int} {n : Nat} (h : e ≠ 0) (hb : Lt2 n e) : Lt2 n (un u e) := by
  have := gcI_lt (u := u) h hb
  unfold un
  split
  · exact this
  · unfold Lt2 at *; rw [Int.natAbs_neg]; exact this
theorem un_short {u e : Int} (h : e ≠ 0) : u.fdiv (un u e) = (Rat.divInt u e).num ∧ e.fdiv (un u e) = ((Rat.divInt u e).den : Int) := by
  unfold un
  by_cases h1 : 0 < e
  · rw [if_pos h1]; exact short_pos h1
  · rw [if_neg h1]; exact short_neg (by omega)
theorem un_pos {u e : Int} (h : 0 < e) : gcI u e = un u e := (if_pos h).symm
theorem un_neg {u e : Int} (h : ¬ 0 < e) : -gcI u e = un u e := (if_neg h).symm
theorem gcI_step {a b : Int} (ha : 0 ≤ a) (hb : 0 < b) : gcI b (a % b) = gcI a b := by
  have h0 := Int.emod_nonneg a (show b ≠ 0 by omega)
  have e1 : (a % b).natAbs = a.natAbs % b.natAbs := by
    have h2 : ((a.natAbs % b.natAbs : Nat) : Int) = a % b := by
      rw [Int.natCast_emod, Int.natAbs_of_nonneg ha, Int.natAbs_of_nonneg (by omega)]
    omega
  unfold gcI
  rw [e1, Nat.gcd_comm b.natAbs, ← Nat.gcd_rec, Nat.gcd_comm]
theorem gcI_zero {a : Int} (ha : 0 ≤ a) : gcI a 0 = a := by
  unfold gcI
  rw [show (0 : Int).natAbs = 0 from rfl, Nat.gcd_zero_right]
  omega
def ab (n : Int) : Int := if n < 0 then -n else n
theorem ab_nn (n : Int) : 0 ≤ ab n := by unfold ab; split <;> omega
theorem gcI_ab (a b : Int) : gcI (ab a) (ab b) = gcI a b := by
  have f : ∀ n : Int, (ab n).natAbs = n.natAbs := fun n => by unfold ab; split <;> omega
  unfold gcI
  rw [f, f]
theorem neg_q (s : Rat) : (((0 - 1 : Int) : Rat)) * s = -s := by
  have : (((0 - 1 : Int) : Rat)) = -1 := rfl
  rw [this]; grind
theorem Sz.neg {n : Nat} {r : Rat} (h : Sz n r) : Sz n (-r) := ⟨by rw [Rat.neg_num, Int.natAbs_neg]; exact h.1, by rw [Rat.neg_den]; exact h.2⟩
theorem plus_neg (r s : Rat) : r + -s = r - s := by grind
theorem m1_sz : Sz 1 (((0 - 1 : Int) : Rat)) := ⟨by decide, by decide⟩
end Kt

/-! Lists that are new: an expression may give one that nobody knows; it may be changed. -/
namespace Kt
open PySem L2 PyProof.Rows
open Evl (Ex)
def NN (X : Cx) (e : Expr) (ρ : List Sl) (P : List PyData → Prop) : Prop := ∀ (G : Gh) σ F H, ES X.K G σ F H ρ → ∀ Q : VK, (∀ ds v F' H', P ds → Nw G.S F H F' H' → NewL X.K H F' H' ds v → Q v H') → wE X e σ H Q
section
variable {Pg : Program} {w : World} {K : PySem.W.Frag} {mg : Str → Option Value} {base : Heap} {N : List Str} {sc : Scope} {k j : Nat} {X : Cx} {ρ : List Sl} {P : List PyData → Prop} {a b c e : Expr} {pos : Pos} {κ : Kn} {st : Stmt} {rest : List Stmt}
theorem none_back {S : SR} {F H F' H' : Hp} {D : Addr} (w0 : Wk S F H) (n : Nw S F H F' H') (h : H' D = none) : H D = none := by
  cases z : H D with
  | none => rfl
  | some o =>
    by_cases i : inS S D
    · obtain ⟨o', e⟩ := srcOk_some n.src i
      rw [h] at e; cases e
    · rw [n.hh D o i z] at h; cases h
theorem NN.en {P : PyData → Prop} (h : NN X e ρ fun ds => P (.list ds)) : EN X e ρ P := fun G σ F H E Q q => h G σ F H E Q fun ds v F' H' p n r => by
  obtain ⟨F2, n2, r2⟩ := NewL.freeze E.wk n r
  exact q _ v F2 H' p n2 r2
theorem NN.mono {P' : List PyData → Prop} (h : NN X e ρ P) (k : ∀ ds, P ds → P' ds) : NN X e ρ P' := fun G σ F H E Q q => h G σ F H E Q fun ds v F' H' p n r => q ds v F' H' (k ds p) n r
def onL (P : List PyData → Prop) : PyData → Prop
  | .list ds => P ds
  | _ => False
theorem NN.lc {elt iter : Expr} {ifs : List Expr} {scope : Scope} {x : Str} {tp : Pos} {i : Nat} (C : Ctx Pg w K mg base N sc k X) (ok : blkC N sc scope [(x, i)] = true) (hN : N[i]? = some x) (hx : (relS scope sc).names.lookup x = some .local)
    (hs : ∀ x, foldedSetIterable iter X.env x = pure x) (h : IN X (.Name x tp) iter ρ fun ds => LcI Pg w K mg base N sc k ρ i scope ifs elt ds (onL P)) : NN X (.ListComp elt [⟨.Name x tp, iter, ifs, 0⟩] scope pos) ρ P :=
  fun G σ F H E Q q => ⟨_, pe_lc (own := [(x, i)]) C.calm (by rw [C.nn]; exact C.nd) pi_w (blkOk_by (by rw [C.nn, C.scope]; exact ok)) (fun s H Cl cl fp => bG_ok C hN hx ⟨s, H, Cl, cl, fp, rfl⟩) (fun s H Cl cl fp => bT_ok ⟨s, H, Cl, cl, fp, rfl⟩) (fun s H Cl cl fp => bE_ok ⟨s, H, Cl, cl, fp, rfl⟩) hs,
    lc_readN C h G σ F H E Q q⟩
/-- a part of an own list -/
theorem NN.slO {i : Nat} {x : Str} {p1 p2 : Pos} {ds : List PyData} {lo hi : Option Expr} (C : Ctx Pg w K mg base N sc k X) (hN : N[i]? = some x) (hv : Vis sc x) (hi0 : ρ[i]? = some (.own ds))
    (h : ON X lo ρ fun l => ON X hi ρ fun u => P (cutD ds l u)) (hd : (x == ("__debug__" : Str)) = false := by decide) (hcd : (x == ("__classdict__" : Str)) = false := by decide) : NN X (.Subscript (.Name x p1) (.Slice lo hi none p2) pos) ρ P :=
  fun G σ F H E Q q => ⟨_, pe_slice sl_list (pe_var (i := i) (by rw [C.nn]; exact hN) (by rw [C.scope]; exact hv) hd hcd) po_w po_w, by
    obtain ⟨z, xs, h1, h2, h3, h4, h5⟩ := E.sl i _ hi0
    refine ⟨_, h1, h.go E fun l F2 H2 p2 n2 => p2.go (E.mono n2) fun u F3 H3 p3 n3 => ?_⟩
    have n23 := n2.trans n3
    obtain ⟨z', xs', g1, g2, g3, g4, g5⟩ := (E.mono n23).sl i _ hi0
    rw [h1] at g1
    cases g1
    refine ⟨z, xs', rfl, SqL.of g4, fun w9 hw => ?_⟩
    exact q _ _ F3 _ p3 (n23.trans (n3.wk.newO hw)) ⟨w9, _, rfl, none_back E.wk n23 hw, Evl.fresh_back n3.fh hw, upd_same, cut_dr g5 l u⟩⟩
/-- return a new list -/
theorem SN.retOwn (h : NN X e ρ κ.rn) : SN X (.Return (some e) pos) ρ κ := SN.by (ps_ret pe_w) fun G σ F H E D A => h G σ F H E _ fun ds v F' H' p n ⟨a, xs, e1, e2, e3, e4, e5⟩ => A.rn ds v F' H' p (E.nw.trans n) ⟨a, xs, e1, (by
  cases z : G.H0 a with
  | none => rfl
  | some o =>
    by_cases i : inS G.S a
    · obtain ⟨o', e⟩ := srcOk_some E.nw.src i
      rw [e2] at e; cases e
    · rw [E.nw.hh a o i z] at e2; cases e2), e3, e4, e5⟩
theorem ES.setNew {G : Gh} {σ : L2.St} {F H F' H' : Hp} {i : Nat} {ds : List PyData} {v : V} (E : ES K G σ F H ρ) (n : Nw G.S F H F' H') (r : NewL K H F' H' ds v) : ES K G (σ.set i (some v)) F' H' (ρ.set i (.own ds)) := by
  obtain ⟨a, xs, rfl, e2, e3, e4, e5⟩ := r
  have e' := E.mono n
  have h0 : G.H0 a = none := by
    cases z : G.H0 a with
    | none => rfl
    | some o =>
      by_cases i : inS G.S a
      · obtain ⟨o', e⟩ := srcOk_some E.nw.src i
        rw [e2] at e; cases e
      · rw [E.nw.hh a o i z] at e2; cases e2
  have far : ∀ (m : Nat), isOwn ρ[m]? → σ[m]? ≠ some (some (.ref a)) := fun m hm z => by
    cases hs : ρ[m]? with
    | none => rw [hs] at hm; exact hm
    | some s =>
      rw [hs] at hm
      cases s with
      | own es =>
        obtain ⟨b, ys, g1, g2, g3, g4, g5⟩ := E.sl m _ hs
        rw [z] at g1; cases g1
        rw [e2] at g4; cases g4
      | no => exact hm
      | dat d => exact hm
      | src => exact hm
      | cel => exact hm
  have f : ∀ (m : Nat), i ≠ m → isOwn (ρ.set i (.own ds))[m]? → isOwn ρ[m]? := fun m him hm => by rw [List.getElem?_set_ne him] at hm; exact hm
  refine ⟨e'.nw, e'.s0, by rw [List.length_set, List.length_set]; exact e'.len, fun j s hs => ?_, fun j k hjk hj hk => ?_⟩
  · by_cases hij : i = j
    · subst hij
      by_cases hl : i < ρ.length
      · rw [List.getElem?_set_self hl] at hs; cases hs
        exact ⟨a, xs, List.getElem?_set_self (by rw [e'.len]; exact hl), h0, e3, e4, e5⟩
      · rw [List.getElem?_eq_none (by rw [List.length_set]; omega)] at hs; cases hs
    · rw [List.getElem?_set_ne hij] at hs ⊢; exact e'.sl j s hs
  · by_cases hij : i = j
    · subst hij
      rw [List.getElem?_set_ne hjk]
      by_cases hl : i < σ.length
      · rw [List.getElem?_set_self hl]
        exact fun z => far k (f k hjk hk) z.symm
      · have : isOwn (ρ.set i (.own ds))[i]? := hj
        rw [List.getElem?_eq_none (by rw [List.length_set, ← e'.len]; omega)] at this
        exact this.elim
    · by_cases hik : i = k
      · subst hik
        rw [List.getElem?_set_ne hij]
        by_cases hl : i < σ.length
        · rw [List.getElem?_set_self hl]
          exact fun z => far j (f j hij hj) z
        · have : isOwn (ρ.set i (.own ds))[i]? := hk
          rw [List.getElem?_eq_none (by rw [List.length_set, ← e'.len]; omega)] at this
          exact this.elim
      · rw [List.getElem?_set_ne hij, List.getElem?_set_ne hik]
        exact e'.ap j k hjk (f j hij hj) (f k hik hk)
/-- name = a new list -/
theorem SN.asgN {i : Nat} {x : Str} {p2 : Pos} (C : Ctx Pg w K mg base N sc k X) (Fx : ∀ x, X.fn x = true) (hN : N[i]? = some x) (hx : L2.Loc sc x) (hs : ∀ en : Env, en.scope = sc → swapsWith e (some (.Name x p2)) pos.line en = pure false)
    (h : NN X e ρ fun ds => κ.nx (ρ.set i (.own ds))) : SN X (.Assign [.Name x p2] e pos) ρ κ :=
  SN.by (ps_set (i := i) (by rw [C.nn]; exact C.nd) (by rw [C.nn]; exact hN) (by unfold L2.Loc; rw [C.scope]; exact hx) pe_w (hs _ C.scope) (.inl (Fx x))) fun G σ F H E D A => h G σ F H E _ fun ds v F' H' p n r => A.nx _ _ _ _ p (E.setNew n r)
/-- f(..).append(e), f giving a new list -/
theorem SN.newApp {p2 p3 : Pos} (h : NN X a ρ fun ds => EN X e ρ fun _ => ds.length < sizeLine ∧ κ.nx ρ)
    (hs : swapsWith (.Call (.Attribute a "append" p2) [e] [] p3) none pos.line X.env = pure false)
    (hbase : attributeBase a "append" X.env (eval a X.env) = eval a X.env)
    (hfew : ((backTo p3 (starEach [e] X.env)).all (fun x => !x.1) && (backToKw p3 (keywordEach [] X.env)).all (fun x => x.1.isSome) && decide ([e].length + ([] : List Keyword).length + (if ([] : List Keyword).isEmpty then 0 else 1) < 30)) = true)
    (hline : (p2.endLine == p3.line) = true) (he : starEach [e] X.env = (false, eval e X.env) :: starEach [] X.env) (hplain : (backTo p3 (starEach [] X.env)).any (·.1) = false) : SN X (.Expr (.Call (.Attribute a "append" p2) [e] [] p3) pos) ρ κ :=
  SN.by (ps_expr (pe_bm PySem.F.plainAttrs_list PySem.F.slot_list_append PySem.F.type_list_append mt_append pe_w (pa_cons pe_w pa_nil he) hbase hfew hline he hplain) hs)
    fun G σ F H E D A => by
      refine h G σ F H E _ ?_
      rintro ds v F1 H1 p1 n1 ⟨a1, xs, rfl, e2, e3, e4, e5⟩
      have nD : ¬ inS G.S a1 := fun z => by
        obtain ⟨o, e⟩ := srcOk_some E.nw.src z
        rw [e2] at e; cases e
      refine ⟨Or.inl ⟨rfl, xs, SqL.of e4⟩, p1 G σ F1 H1 (E.mono n1) _ ?_⟩
      rintro d u F2 H2 ⟨hl, p⟩ n2 r2
      have h2 : H2 a1 = some (.lst xs) := n2.hh a1 _ nD e4
      have f2 : F2 a1 = none := (n2.old a1 _ e4).trans e3
      have n := n1.trans n2
      refine ⟨a1, xs, u, rfl, rfl, h2, by rw [e5.length]; exact hl, A.nx ρ σ F2 _ p (E.mono ⟨n.ff, fun b o z => ?_, fun b o nb z => ?_, n.old, n.src.ex fun b o ib z => ?_, n.sf⟩)⟩
      · rw [upd_ne (ne_of_none z f2)]; exact n.fh b o z
      · rw [upd_ne (ne_of_none z e2)]; exact n.hh b o nb z
      · rw [upd_ne (fun z' : b = a1 => nD (by rw [← z']; exact ib))]; exact z
/-- a text of an own list -/
theorem EN.reprO {i : Nat} {x : Str} {ds : List PyData} {npos p1 : Pos} {P : PyData → Prop} (C : Ctx Pg w K mg base N sc k X) (hg : Gi sc "repr") (hm : mg "repr" = none) (hN : N[i]? = some x) (hv : Vis sc x) (hi : ρ[i]? = some (.own ds)) (hr : Rp (.list ds)) (p : P (.str (PyData.list ds).shown))
    (he : starEach [.Name x p1] X.env = (false, eval (.Name x p1) X.env) :: starEach [] X.env) (hpl : (backTo pos (starEach [] X.env)).any (·.1) = false) (hd : (x == ("__debug__" : Str)) = false := by decide) (hcd : (x == ("__classdict__" : Str)) = false := by decide) : EN X (.Call (.Name "repr" npos) [.Name x p1] [] pos) ρ P :=
  EN.by (pe_callB (call_reprD C) (by unfold Gl Env.kindOf; rw [C.scope]; exact hg) (by rw [C.mg]; exact hm) (by decide +kernel) (pa_cons (pe_var (i := i) (by rw [C.nn]; exact hN) (by rw [C.scope]; exact hv) hd hcd) pa_nil he) (by decide) (by decide) he hpl) fun G σ F H E Q q => by
    obtain ⟨z, xs, h1, h2, h3, h4, h5⟩ := E.sl i _ hi
    have x1 : Ex F (upd F z (.lst xs)) := Ex.new h3
    obtain ⟨a1, a2, a3, a4⟩ := hr
    refine ⟨_, h1, _, .list ds, upd F z (.lst xs), rfl, fun b o q => ?_, ⟨z, xs, rfl, upd_same, DrA.mono x1 _ h5⟩, a1, a2, a3, a4, q _ _ F H p E.wk.nw rfl⟩
    by_cases hb : b = z
    · subst hb; rw [upd_same] at q; cases q; exact h4
    · rw [upd_ne hb] at q; exact E.wk.fh b o q
/-! defs that give new lists -/
abbrev Wn := List Sl → (List PyData → Prop) → Prop
def spOfN (K : PySem.W.Frag) (W : Wn) : Sp := fun vs H Q _ => ∃ (S : SR) (F : Hp) (as : List Sl) (P : List PyData → Prop), Wk S F H ∧ ArgsR K S F as vs ∧ W as P ∧ ∀ ds v F' H', P ds → Nw S F H F' H' → NewL K H F' H' ds v → Q v H'
structure Fn (Pg : Program) (w : World) (K : PySem.W.Frag) (mg : Str → Option Value) (base : Heap) (k : Nat) (x : Str) (W : Wn) : Prop where
  ex : ∃ (f : Addr) (fd : FuncData) (ps : List Str), FnG Pg w K mg base k f fd ps (spOfN K W) ∧ mg x = some (.ref f) ∧ PySem.W.keepIn K (.ref f) = true ∧ Binds K fd ps []
def asW (W : Wn) : Wp := fun as Q => W as fun ds => Q (.list ds)
theorem Fn.mono {x : Str} {W : Wn} (h : Fn Pg w K mg base j x W) (hj : j ≤ k) : Fn Pg w K mg base k x W := by
  obtain ⟨f, fd, ps, F, r⟩ := h.ex
  exact ⟨⟨f, fd, ps, F.mono hj, r⟩⟩
theorem spOfN.fd {W : Wn} {vs : List V} {H : Hp} {Q : VK} {E : XK} (h : spOf K (asW W) vs H Q E) : spOfN K W vs H Q E := by
  obtain ⟨S, F, as, P, w0, r, hw, q⟩ := h
  refine ⟨S, F, as, fun ds => P (.list ds), w0, r, hw, fun ds v F' H' p n r => ?_⟩
  obtain ⟨F2, n2, r2⟩ := NewL.freeze w0 n r
  exact q _ v F2 H' p n2 r2
theorem Fn.fd {x : Str} {W : Wn} (h : Fn Pg w K mg base k x W) : Fd Pg w K mg base k x (asW W) := by
  obtain ⟨f, fd, ps, F, r⟩ := h.ex
  exact ⟨⟨f, fd, ps, ⟨fun vs H Q E h => F.len vs H Q E (spOfN.fd h), fun A ol s H ar us vs Q E g hr e0 hb rv h => F.go A ol s H ar us vs Q E g hr e0 hb rv (spOfN.fd h)⟩, r⟩⟩
theorem NN.call {x : Str} {es : List Expr} {npos : Pos} {W : Wn} (C : Ctx Pg w K mg base N sc k X) (FO : Fn Pg w K mg base j x W) (hj : j ≤ k) (hg : sc.names.lookup x = some .globalImplicit)
    (h : AN X (e :: es) ρ fun as => W as P) (he : starEach (e :: es) X.env = (false, eval e X.env) :: starEach es X.env) (hpl : (backTo pos (starEach es X.env)).any (·.1) = false) (hdb : (x == ("__debug__" : Str)) = false := by decide) :
    NN X (.Call (.Name x npos) (e :: es) [] pos) ρ P := by
  obtain ⟨f, fd, ps, F, hm, hk, hb⟩ := FO.ex
  have c1 := C.prog; have c2 := C.wd; have c3 := C.kk; have c4 := C.mg; have c5 := C.base
  subst c1 c2 c3 c4 c5
  refine fun G σ F' H E Q q => ⟨_, pe_callG F C.gd (C.room.mono hj) (by unfold Gl Env.kindOf; rw [C.scope]; exact hg) hm hk hb pa_w hdb he hpl, ?_⟩
  refine h _ σ F' H E _ fun as vs F1 H1 p n r => ⟨G.S, F1, as, P, n.wk, r, p, fun ds v F2 H2 pd n2 ⟨a1, xs, e1, e2, e3, e4, e5⟩ => q ds v F2 H2 pd (n.trans n2) ⟨a1, xs, e1, none_back E.wk n e2, e3, e4, e5⟩⟩
theorem okFnN {x qual : Str} {f : Addr} {fd : FuncData} {ps : List Str} {W : Wn} (F : Fun K x qual st f fd) (S : FnScope N ps (defScope st)) (hl : ∀ as Q, W as Q → as.length = ps.length)
    (hb : ∀ X : Cx, Ctx Pg w K mg base N (defScope st) k X → (∀ x, X.fn x = true) → ∀ as Q, W as Q → BN X (defBody st) (startS N as) { nx := fun _ => False, rt := fun _ => False, rn := Q }) : FnG Pg w K mg base (k + 1) f fd ps (spOfN K W) := by
  have hps : ps.length ≤ N.length := by
    have := congrArg List.length S.pre
    rw [List.length_take] at this
    omega
  refine Fun.okG F S ?_ ?_
  · rintro vs H Q E ⟨S', F', as, P', W', r, hw, _⟩
    rw [r.length]
    exact hl as P' hw
  · rintro cdv A ol s H vs Q E hgd hr ⟨S', F', as, P', W', r, hw, q⟩
    have C : Ctx Pg w K mg base N (defScope st) k (cxOf CX0 Pg w K mg base N qual (defScope st) f cdv A ol s H E).nox := ⟨rfl, rfl, rfl, rfl, rfl, rfl, rfl, hr, rfl, rfl, S.nd, hgd⟩
    have E0 : ES K ⟨S', F', H⟩ (L2.start N vs) F' H (startS N as) := ES.start W' r (by rw [r.length, hl as P' hw]; exact hps)
    exact hb _ C (fun _ => rfl) as P' hw _ _ _ _ E0 _ ⟨fun _ _ _ _ z => z.elim, fun _ _ _ _ z => z.elim, fun _ _ _ _ z => z.elim, fun _ _ _ _ z => z.elim, fun ds v F2 H2 p n2 r2 => q ds v F2 H2 p n2 r2⟩
theorem Df.fn {h : Heap} {x : Str} {st : Stmt} {ps : List Str} {W : Wn} (D : Df K x st) (X : K.In h) (G : h.Ns mainGlobals mg) (ok : ∀ (f : Addr) (fd : FuncData), Fun K x x st f fd → FnG Pg w K mg base k f fd ps (spOfN K W))
    (hb : ∀ (kV doc pm : Value) (an : Option Addr) (cdv ct : Value) (us : List Value), us.length = ps.length → bindArgs (PySem.W.fnOf x x (defArgs st) (defBody st) (defScope st) .none kV doc pm an cdv ct) ⟨us, []⟩ = pure (ps.zip us)) : Fn Pg w K mg base k x W := by
  obtain ⟨f, fd, a, F, kp⟩ := D.ex
  exact ⟨⟨f, fd, ps, ok f fd F, PySem.W.mg_of X G a, kp, F.binds hb⟩⟩
end
end Kt

namespace Kt
open PySem L2 PyProof.Rows
open Evl (Ex)
section
variable {Pg : Program} {w : World} {K : PySem.W.Frag} {mg : Str → Option Value} {base : Heap} {N : List Str} {sc : Scope} {k j : Nat} {X : Cx} {ρ : List Sl} {P : PyData → Prop} {a b c e : Expr} {pos : Pos} {κ : Kn} {st : Stmt} {rest : List Stmt}
/-- {} -/
theorem EN.dict0 (p : P (.dict [])) : EN X (.Dict [] [] pos) ρ P := fun G σ F H E Q q => ⟨_, pe_dnewK, fun D hD => q _ _ _ _ p (E.wk.new hD) ⟨D, [], rfl, upd_same, rfl⟩⟩
theorem EqF {x y : PyData} {P : Bool → Prop} (hx : SeqAt.shaped x = true) (hy : SeqAt.shaped y = true) (e : PyData.eqv x y = false) (h : P false) : EqT x y P := ⟨hx, hy, by rw [e]; exact h⟩
theorem EqTr {x y : PyData} {P : Bool → Prop} (hx : SeqAt.shaped x = true) (hy : SeqAt.shaped y = true) (e : PyData.eqv x y = true) (h : P true) : EqT x y P := ⟨hx, hy, by rw [e]; exact h⟩
theorem EqFr {r s : Rat} {P : Bool → Prop} (h1 : r = s → P true) (h2 : r ≠ s → P false) : EqT (fr r) (fr s) P := ⟨fr_shaped r, fr_shaped s, by
  rw [fr_eqv]
  by_cases h : r = s
  · rw [decide_eq_true h]; exact h1 h
  · rw [decide_eq_false h]; exact h2 h⟩
/-! lists of fractions -/
def fl (rs : List Rat) : List PyData := rs.map fr
theorem fl_len (rs : List Rat) : (fl rs).length = rs.length := List.length_map ..
theorem fl_append (a b : List Rat) : fl (a ++ b) = fl a ++ fl b := List.map_append ..
theorem fl_lay : ∀ rs : List Rat, PyData.canLayAll0 (fl rs) = true
  | [] => rfl
  | r :: rs => by
    show (PyData.canLay0 (fr r) && PyData.canLayAll0 (fl rs)) = true
    rw [fl_lay rs]; rfl
theorem fl_depth : ∀ rs : List Rat, PyData.depthAll (fl rs) ≤ 1
  | [] => Nat.zero_le _
  | r :: rs => by
    show max (PyData.depth (fr r)) (PyData.depthAll (fl rs)) ≤ 1
    have := fl_depth rs
    have e : PyData.depth (fr r) = 1 := rfl
    omega
theorem fl_shaped (rs : List Rat) : SeqAt.shaped (.list (fl rs)) = true := by
  have h := fl_depth rs
  show (PyData.canLayAll0 (fl rs) && decide (PyData.depthAll (fl rs) + 1 ≤ 64)) = true
  rw [fl_lay, decide_eq_true (by omega)]; rfl
theorem fl_noDict : ∀ rs : List Rat, PyData.hasDictAll (fl rs) = false
  | [] => rfl
  | r :: rs => by
    show (PyData.hasDict (fr r) || PyData.hasDictAll (fl rs)) = false
    rw [fl_noDict rs]; rfl
theorem fr_showable {r : Rat} (h : Sz 1900 r) : PyData.showable (fr r) = true := (fr_rp h (Nat.le_refl _)).1
theorem fl_showable : ∀ rs : List Rat, (∀ r ∈ rs, Sz 1900 r) → PyData.showableAll (fl rs) = true
  | [], _ => rfl
  | r :: rs, h => by
    show (PyData.showable (fr r) && PyData.showableAll (fl rs)) = true
    rw [fr_showable (h r List.mem_cons_self), fl_showable rs fun s hs => h s (List.mem_cons_of_mem _ hs)]; rfl
theorem fr_wt (r : Rat) : wt (fr r) = wt (fr 0) := by
  show wt (.tuple (il [r.num, (r.den : Int)])) = wt (.tuple (il [0, 1]))
  have a := il_wt [r.num, (r.den : Int)]
  have b := il_wt [0, 1]
  simp only [wt] at *
  rw [a, b]; rfl
theorem fl_wt : ∀ rs : List Rat, wtA (fl rs) = (wt (fr 0) + 2) * rs.length
  | [] => rfl
  | r :: rs => by
    show wt (fr r) + 2 + wtA (fl rs) = _
    rw [fl_wt rs, fr_wt r, List.length_cons, Nat.mul_succ]; omega
theorem fl_rp {rs : List Rat} (h : ∀ r ∈ rs, Sz 1900 r) (hl : rs.length ≤ 2000) : Rp (.list (fl rs)) := by
  have hd := fl_depth rs
  have hw := fl_wt rs
  have h0 : wt (fr 0) ≤ 5000 := by decide +kernel
  refine Rp.of (fl_showable rs h) (fl_noDict rs) (show PyData.depthAll (fl rs) + 1 ≤ 40 by omega) ?_
  have : wt (.list (fl rs)) ≤ wtA (fl rs) + 10 := by simp only [wt]; omega
  have h2 : (wt (fr 0) + 2) * rs.length ≤ 5002 * 2000 := Nat.mul_le_mul (by omega) hl
  omega
theorem fl_rpT {rs : List Rat} (h : ∀ r ∈ rs, Sz 1900 r) (hl : rs.length ≤ 2000) : Rp (.tuple (fl rs)) := by
  have hd := fl_depth rs
  have hw := fl_wt rs
  have h0 : wt (fr 0) ≤ 5000 := by decide +kernel
  refine Rp.of (fl_showable rs h) (fl_noDict rs) (show PyData.depthAll (fl rs) + 1 ≤ 40 by omega) ?_
  have : wt (.tuple (fl rs)) ≤ wtA (fl rs) + 10 := by simp only [wt]; omega
  have h2 : (wt (fr 0) + 2) * rs.length ≤ 5002 * 2000 := Nat.mul_le_mul (by omega) hl
  omega
theorem fl_any (s : Rat) : ∀ rs : List Rat, ((fl rs).any fun z => PyData.eqv z (fr s)) = decide (s ∈ rs)
  | [] => rfl
  | r :: rs => by
    show (PyData.eqv (fr r) (fr s) || (fl rs).any fun z => PyData.eqv z (fr s)) = _
    rw [fl_any s rs, fr_eqv, Bool.eq_iff_iff]
    simp only [Bool.or_eq_true, decide_eq_true_eq, List.mem_cons]
    exact ⟨fun h => h.elim (fun e => Or.inl e.symm) Or.inr, fun h => h.elim (fun e => Or.inl e.symm) Or.inr⟩
theorem InFr {s : Rat} {rs : List Rat} {P : Bool → Prop} (h1 : s ∈ rs → P true) (h2 : s ∉ rs → P false) : InD (fr s) (.list (fl rs)) P := ⟨fr_shaped s, fl_shaped rs, by
  rw [fl_any]
  by_cases h : s ∈ rs
  · rw [decide_eq_true h]; exact h1 h
  · rw [decide_eq_false h]; exact h2 h⟩
theorem fl_get {rs : List Rat} {j : Nat} {r : Rat} (h : rs[j]? = some r) : (fl rs)[j]? = some (fr r) := by unfold fl; rw [List.getElem?_map, h]; rfl
end
end Kt

/-! More rules over data: chains, sums, sorted ints, parts of tuples and texts, texts walked sign by sign. -/
namespace Kt
open PySem L2 PyProof.Rows
open Evl (Ex)
section
variable {Pg : Program} {w : World} {K : PySem.W.Frag} {mg : Str → Option Value} {base : Heap} {N : List Str} {sc : Scope} {k j : Nat} {X : Cx} {ρ : List Sl} {P : PyData → Prop} {a b c e : Expr} {pos : Pos} {κ : Kn} {st : Stmt} {rest : List Stmt}
/-- a op b op' c over ints -/
theorem EN.chain {op op' : CmpOp} {g g' : Int → Int → Bool} (ho : OpR X (compareOp op) (rI0 fun i j => .bl (g i j))) (ho' : OpR X (compareOp op') (rI0 fun i j => .bl (g' i j)))
    (h : EN X a ρ fun x => EN X b ρ fun y => ∃ i j : Int, x = .int i ∧ y = .int j ∧ (g i j = true → EN X c ρ fun z => ∃ n : Int, z = .int n ∧ P (.bool (g' j n))) ∧ (g i j = false → P (.bool false)))
    (hm : lastMarks [op, op'] [b, c] = false) : EN X (.Compare a [op, op'] [b, c] pos) ρ P :=
  EN.by (pe_chain ho ho' pe_w pe_w pe_w hm) fun G σ F H E Q q => h G σ F H E _ fun x v F1 H1 p1 n1 r1 => p1 G σ F1 H1 (E.mono n1) _ fun y u F2 H2 p2 n2 r2 => by
    obtain ⟨i, j, rfl, rfl, p, p'⟩ := p2
    obtain rfl : v = .int i := r1
    obtain rfl : u = .int j := r2
    refine ⟨i, j, rfl, rfl, g i j, rfl, ?_⟩
    cases e : g i j with
    | true =>
      rw [if_pos rfl]
      refine p e G σ F2 H2 ((E.mono n1).mono n2) _ fun z t F3 H3 ⟨n, ez, pz⟩ n3 r3 => ?_
      subst ez
      obtain rfl : t = .int n := r3
      exact ⟨j, n, rfl, rfl, q (.bool (g' j n)) _ F3 H3 pz ((n1.trans n2).trans n3) rfl⟩
    | false =>
      rw [if_neg Bool.false_ne_true]
      exact q (.bool false) _ F2 H2 (p' e) (n1.trans n2) rfl
theorem TN.chain {op op' : CmpOp} {g g' : Int → Int → Bool} {P : Bool → Prop} (ho : OpR X (compareOp op) (rI0 fun i j => .bl (g i j))) (ho' : OpR X (compareOp op') (rI0 fun i j => .bl (g' i j)))
    (h : EN X a ρ fun x => EN X b ρ fun y => ∃ i j : Int, x = .int i ∧ y = .int j ∧ (g i j = true → EN X c ρ fun z => ∃ n : Int, z = .int n ∧ Tb P (g' j n)) ∧ (g i j = false → P false))
    (hm : lastMarks [op, op'] [b, c] = false) : TN X (.Compare a [op, op'] [b, c] pos) ρ P :=
  TN.by (pt_chain ho ho' pe_w pe_w pe_w hm) fun G σ F H E Q q => h G σ F H E _ fun x v F1 H1 p1 n1 r1 => p1 G σ F1 H1 (E.mono n1) _ fun y u F2 H2 p2 n2 r2 => by
    obtain ⟨i, j, rfl, rfl, p, p'⟩ := p2
    obtain rfl : v = .int i := r1
    obtain rfl : u = .int j := r2
    refine ⟨i, j, rfl, rfl, g i j, rfl, ?_⟩
    cases e : g i j with
    | true =>
      rw [if_pos rfl]
      refine p e G σ F2 H2 ((E.mono n1).mono n2) _ fun z t F3 H3 ⟨n, ez, pz⟩ n3 r3 => ?_
      subst ez
      obtain rfl : t = .int n := r3
      exact ⟨j, n, rfl, rfl, _, rfl, q _ F3 H3 pz ((n1.trans n2).trans n3)⟩
    | false =>
      rw [if_neg Bool.false_ne_true]
      exact ⟨_, rfl, q false F2 H2 (p' e) (n1.trans n2)⟩
/-! lists of bools, of ints -/
theorem dr_bools {F : Hp} : ∀ {bs : List Bool} {vs : List V}, DrA K F (bs.map PyData.bool) vs → vs = bs.map V.bl
  | [], _, h => h
  | b :: bs, _, ⟨v, r, e, h1, h2⟩ => by
    subst e
    rw [show v = V.bl b from h1, dr_bools h2]; rfl
theorem EN.all {npos : Pos} (C : Ctx Pg w K mg base N sc k X) (hg : Gi sc "all") (hm : mg "all" = none)
    (h : EN X e ρ fun d => ∃ bs : List Bool, d = .list (bs.map PyData.bool) ∧ P (.bool (bs.all id))) (he : starEach [e] X.env = (false, eval e X.env) :: starEach [] X.env) (hpl : (backTo pos (starEach [] X.env)).any (·.1) = false) : EN X (.Call (.Name "all" npos) [e] [] pos) ρ P :=
  EN.callB C (cr_all C.calm) hg hm (by decide +kernel) (LN.cons he (h.mono fun d hd => LN.nil (by
    rintro S F H w vs ⟨v, r, rfl, h1, h2⟩ Q q
    obtain rfl : r = [] := h2
    obtain ⟨bs, rfl, p⟩ := hd
    obtain ⟨z, xs, rfl, g1, g2⟩ := h1
    obtain rfl := dr_bools g2
    exact ⟨z, bs, rfl, SqL.of (w.fh _ _ g1), q _ _ F H p w.nw rfl⟩))) he hpl
theorem EN.any {npos : Pos} (C : Ctx Pg w K mg base N sc k X) (hg : Gi sc "any") (hm : mg "any" = none)
    (h : EN X e ρ fun d => ∃ bs : List Bool, d = .list (bs.map PyData.bool) ∧ P (.bool (bs.any id))) (he : starEach [e] X.env = (false, eval e X.env) :: starEach [] X.env) (hpl : (backTo pos (starEach [] X.env)).any (·.1) = false) : EN X (.Call (.Name "any" npos) [e] [] pos) ρ P :=
  EN.callB C (cr_any C.calm) hg hm (by decide +kernel) (LN.cons he (h.mono fun d hd => LN.nil (by
    rintro S F H w vs ⟨v, r, rfl, h1, h2⟩ Q q
    obtain rfl : r = [] := h2
    obtain ⟨bs, rfl, p⟩ := hd
    obtain ⟨z, xs, rfl, g1, g2⟩ := h1
    obtain rfl := dr_bools g2
    exact ⟨z, bs, rfl, SqL.of (w.fh _ _ g1), q _ _ F H p w.nw rfl⟩))) he hpl
theorem EN.sum {npos : Pos} (C : Ctx Pg w K mg base N sc k X) (hg : Gi sc "sum") (hm : mg "sum" = none)
    (h : EN X e ρ fun d => ∃ ns : List Int, d = .list (ns.map PyData.int) ∧ P (.int ns.sum)) (he : starEach [e] X.env = (false, eval e X.env) :: starEach [] X.env) (hpl : (backTo pos (starEach [] X.env)).any (·.1) = false) : EN X (.Call (.Name "sum" npos) [e] [] pos) ρ P :=
  EN.callB C (cr_sum C.calm) hg hm (by decide +kernel) (LN.cons he (h.mono fun d hd => LN.nil (by
    rintro S F H w vs ⟨v, r, rfl, h1, h2⟩ Q q
    obtain rfl : r = [] := h2
    obtain ⟨ns, rfl, p⟩ := hd
    obtain ⟨z, xs, rfl, g1, g2⟩ := h1
    obtain rfl := dr_ints g2
    exact ⟨z, ns, rfl, SqL.of (w.fh _ _ g1), q _ _ F H p w.nw rfl⟩))) he hpl
theorem ints_dr {F : Hp} : ∀ ns : List Int, DrA K F (ns.map PyData.int) (ns.map V.int)
  | [] => rfl
  | n :: ns => ⟨_, _, rfl, rfl, ints_dr ns⟩
theorem EN.sortedI {npos : Pos} (C : Ctx Pg w K mg base N sc k X) (hg : Gi sc "sorted") (hm : mg "sorted" = none)
    (h : EN X e ρ fun d => ∃ ns : List Int, d = .list (ns.map PyData.int) ∧ ∀ ns' : List Int, ns'.Perm ns → ns'.Pairwise (· ≤ ·) → P (.list (ns'.map PyData.int))) (he : starEach [e] X.env = (false, eval e X.env) :: starEach [] X.env) (hpl : (backTo pos (starEach [] X.env)).any (·.1) = false) : EN X (.Call (.Name "sorted" npos) [e] [] pos) ρ P :=
  EN.callB C cr_sortedI hg hm (by decide +kernel) (LN.cons he (h.mono fun d hd => LN.nil (by
    rintro S F H w vs ⟨v, r, rfl, h1, h2⟩ Q q
    obtain rfl : r = [] := h2
    obtain ⟨ns, rfl, p⟩ := hd
    obtain ⟨z, xs, rfl, g1, g2⟩ := h1
    obtain rfl := dr_ints g2
    exact ⟨z, ns, rfl, SqL.of (w.fh _ _ g1), fun ns' D hp ho hD => q _ _ _ _ (p ns' hp ho) (w.new hD) ⟨D, _, rfl, upd_same, ints_dr ns'⟩⟩))) he hpl
theorem EN.max2 {npos : Pos} (C : Ctx Pg w K mg base N sc k X) (hg : Gi sc "max") (hm : mg "max" = none)
    (h : EN X a ρ fun d => EN X b ρ fun d2 => ∃ i j : Int, d = .int i ∧ d2 = .int j ∧ P (.int (if j > i then j else i))) (he : starEach [a, b] X.env = (false, eval a X.env) :: starEach [b] X.env) (he2 : starEach [b] X.env = (false, eval b X.env) :: starEach [] X.env) (hpl : (backTo pos (starEach [b] X.env)).any (·.1) = false) : EN X (.Call (.Name "max" npos) [a, b] [] pos) ρ P :=
  EN.callB C (call_max2 C.calm) hg hm (by decide +kernel) (LN.cons he (h.mono fun x h => LN.cons he2 (h.mono fun y hd => LN.nil (by
    rintro S F H w vs ⟨v, r, rfl, h1, u, r2, rfl, h2, h3⟩ Q q
    obtain rfl : r2 = [] := h3
    obtain ⟨i, j, rfl, rfl, p⟩ := hd
    exact ⟨i, j, by rw [show v = V.int i from h1, show u = V.int j from h2], q _ _ F H p w.nw rfl⟩)))) he hpl
/-! parts -/
def CutA (x : PyData) (lo hi : Option Int) (P : PyData → Prop) : Prop := match x with
  | .list ds => P (.list (cutD ds lo hi))
  | .tuple ds => P (.tuple (cutD ds lo hi))
  | .str z => z.length ≤ sizeLine ∧ P (.str (cutS z lo hi))
  | _ => False
theorem cut_whole {α : Type} {xs : List α} {i j : Nat} (h1 : i = 0) (h2 : j = xs.length) : (xs.drop i).take (j - i) = xs := by
  subst h1 h2
  rw [List.drop_zero, Nat.sub_zero, List.take_length]
theorem EN.slA {lo hi : Option Expr} {p2 : Pos} (h : EN X a ρ fun x => ON X lo ρ fun l => ON X hi ρ fun u => CutA x l u P) : EN X (.Subscript a (.Slice lo hi none p2) pos) ρ P :=
  EN.by (pe_slice (sl_list.or (sl_tupA.or sl_str)) pe_w po_w po_w) fun G σ F H E Q q => h _ σ F H E _ fun x v F1 H1 p1 n1 r1 => p1.go (E.mono n1) fun l F2 H2 p2 n2 => p2.go ((E.mono n1).mono n2) fun u F3 H3 p3 n3 => by
    unfold CutA at p3
    have f2 := n2.trans n3
    split at p3
    · obtain ⟨z, xs, rfl, h1, h2⟩ := r1
      exact Or.inl ⟨z, xs, rfl, SqL.of (f2.fh _ _ (f2.ff _ _ h1)), fun w hw => q _ _ _ _ p3 (n1.trans (f2.trans (n3.wk.new hw))) ⟨w, _, rfl, upd_same, DrA.mono (n3.wk.new (o := .lst _) hw).ff _ (cut_dr (DrA.mono f2.ff _ h2) l u)⟩⟩
    · rename_i ds
      obtain ⟨z, xs, rfl, h1, h2⟩ := r1
      refine Or.inr (Or.inl ⟨z, xs, rfl, Evl.ex_t (f2.ff.trans f2.fh) h1, fun hw => ?_, fun _ D hD => ?_⟩)
      · refine q _ (.ref z) _ _ p3 (n1.trans f2) ⟨z, xs, rfl, Evl.ex_t f2.ff h1, ?_⟩
        have e : cutD ds l u = ds := by
          unfold cutD
          rw [h2.length] at hw
          exact cut_whole hw.1 hw.2
        rw [e]
        exact DrA.mono f2.ff _ h2
      · exact q _ _ _ _ p3 (n1.trans (f2.trans (n3.wk.new hD))) ⟨D, _, rfl, Or.inl (Or.inl upd_same), DrA.mono (n3.wk.new (o := .tup _) hD).ff _ (cut_dr (DrA.mono f2.ff _ h2) l u)⟩
    · exact Or.inr (Or.inr ⟨_, r1, p3.1, q _ _ _ _ p3.2 (n1.trans f2) rfl⟩)
    · exact p3.elim
end
end Kt
namespace Kt
open PySem L2 PyProof.Rows
open Evl (Ex)
section
variable {Pg : Program} {w : World} {K : PySem.W.Frag} {mg : Str → Option Value} {base : Heap} {N : List Str} {sc : Scope} {k j : Nat} {X : Cx} {ρ : List Sl} {P : PyData → Prop} {a b c e : Expr} {pos : Pos} {κ : Kn} {st : Stmt} {rest : List Stmt}
theorem EN.inT (hm : behindInMarks .In b = false) (h : EN X a ρ fun x => EN X b ρ fun y => InT x y fun k => P (.bool k)) : EN X (.Compare a [.In] [b] pos) ρ P :=
  EN.cmp op_in_seq hm (h.mono fun x h => h.mono fun y ⟨i, ns, e1, e2, p⟩ => fun S F H W v u r1 r2 Q q => by
    subst e1 e2
    obtain ⟨z, xs, rfl, g1, g2⟩ := r2
    obtain rfl := dr_ints g2
    obtain rfl : v = V.int i := r1
    refine ⟨z, _, rfl, Or.inr (Evl.ex_t W.fh g1), rfl, flat_ints ns, ?_⟩
    refine q (.bool (decide (i ∈ ns))) _ F H p W.nw ?_
    rw [if_neg Bool.false_ne_true, inV_ints]
    rfl)
/-- a constant of the text: a tuple of ints -/
theorem EN.globT {x : Str} {z : Addr} {ns : List Int} (C : Ctx Pg w K mg base N sc k X) (hg : Gi sc x) (hm : mg x = some (.ref z)) (hz : SqT K (fun _ => none) z (ns.map V.int)) (p : P (.tuple (ns.map PyData.int))) (hd : (x == ("__debug__" : Str)) = false := by decide) : EN X (.Name x pos) ρ P :=
  EN.con (d := .tuple (ns.map PyData.int)) (pe_glob (v := .ref z) (by unfold Gl Env.kindOf; rw [C.scope]; exact hg) (by rw [C.mg]; exact hm) rfl hd) (fun F => by
    have c3 := C.kk
    subst c3
    exact ⟨z, _, rfl, Evl.ex_t (fun _ _ e => by cases e) hz, ints_dr ns⟩) p
end
end Kt

/-! Programs lifted: what a def comes to as a function over plain data, told by what is still to come. Numbers and lists first. -/
namespace Kt
open PySem L2 PyProof.Rows
open Evl (Ex)
structure Dm (R : Type) where
  z : R
  Hd : R → Prop
  nz : ¬ Hd z
def dmO {α : Type} (r : α) : Dm (Option α) := ⟨none, fun x => x = some r, fun h => nomatch h⟩
def dmP : Dm Prop := ⟨False, fun p => p, fun h => h⟩
/-! ### ints, quick in the kernel -/
noncomputable def addI (x y : Int) : Int := Int.rec (motive := fun _ => Int) (fun m => Int.rec (motive := fun _ => Int) (fun n => .ofNat (Nat.add m n)) (fun n => Int.add (.ofNat m) (.negSucc n)) y) (fun m => Int.add (.negSucc m) y) x
noncomputable def subI (x y : Int) : Int := Int.rec (motive := fun _ => Int) (fun m => Int.rec (motive := fun _ => Int) (fun n => Bool.rec (Int.sub (.ofNat m) (.ofNat n)) (.ofNat (Nat.sub m n)) (Nat.ble n m)) (fun n => Int.sub (.ofNat m) (.negSucc n)) y) (fun m => Int.sub (.negSucc m) y) x
noncomputable def mulI (x y : Int) : Int := Int.rec (motive := fun _ => Int) (fun m => Int.rec (motive := fun _ => Int) (fun n => .ofNat (Nat.mul m n)) (fun n => Int.mul (.ofNat m) (.negSucc n)) y) (fun m => Int.mul (.negSucc m) y) x
noncomputable def fdivI (x y : Int) : Int := Int.rec (motive := fun _ => Int) (fun m => Int.rec (motive := fun _ => Int) (fun n => .ofNat (Nat.div m n)) (fun n => Int.fdiv (.ofNat m) (.negSucc n)) y) (fun m => Int.fdiv (.negSucc m) y) x
noncomputable def fmodI (x y : Int) : Int := Int.rec (motive := fun _ => Int) (fun m => Int.rec (motive := fun _ => Int) (fun n => .ofNat (Nat.mod m n)) (fun n => Int.fmod (.ofNat m) (.negSucc n)) y) (fun m => Int.fmod (.negSucc m) y) x
noncomputable def ltI (x y : Int) : Bool := Int.rec (motive := fun _ => Bool) (fun m => Int.rec (motive := fun _ => Bool) (fun n => Nat.blt m n) (fun _ => false) y) (fun m => Int.rec (motive := fun _ => Bool) (fun _ => true) (fun n => Nat.blt n m) y) x
noncomputable def leI (x y : Int) : Bool := Int.rec (motive := fun _ => Bool) (fun m => Int.rec (motive := fun _ => Bool) (fun n => Nat.ble m n) (fun _ => false) y) (fun m => Int.rec (motive := fun _ => Bool) (fun _ => true) (fun n => Nat.ble n m) y) x
noncomputable def eqI (x y : Int) : Bool := Int.rec (motive := fun _ => Bool) (fun m => Int.rec (motive := fun _ => Bool) (fun n => Nat.beq m n) (fun _ => false) y) (fun m => Int.rec (motive := fun _ => Bool) (fun _ => false) (fun n => Nat.beq m n) y) x
noncomputable def absI (x : Int) : Int := Int.rec (motive := fun _ => Int) (fun m => .ofNat m) (fun m => .ofNat (Nat.succ m)) x
noncomputable def negI (x : Int) : Int := subI 0 x
noncomputable def bK {R : Type} (b : Bool) (A B : R) : R := Bool.rec B A b
noncomputable def maxI (x y : Int) : Int := bK (ltI x y) y x
noncomputable def minI (x y : Int) : Int := bK (ltI y x) y x
noncomputable def notB (b : Bool) : Bool := Bool.rec true false b
theorem addI_eq (x y : Int) : addI x y = x + y := by cases x <;> cases y <;> rfl
theorem mulI_eq (x y : Int) : mulI x y = x * y := by cases x <;> cases y <;> rfl
theorem subI_eq (x y : Int) : subI x y = x - y := by
  cases x with
  | ofNat m => cases y with
    | ofNat n =>
      show Bool.rec (Int.sub (.ofNat m) (.ofNat n)) (Int.ofNat (Nat.sub m n)) (Nat.ble n m) = (m : Int) - n
      cases h : Nat.ble n m with
      | true =>
        have : n ≤ m := Nat.le_of_ble_eq_true h
        show ((m - n : Nat) : Int) = _
        omega
      | false => rfl
    | negSucc n => rfl
  | negSucc m => cases y <;> rfl
theorem fdivI_eq (x y : Int) : fdivI x y = x.fdiv y := by
  cases x with
  | ofNat m => cases y with
    | ofNat n => cases m with
      | zero => show Int.ofNat (Nat.div 0 n) = 0; rw [show Nat.div 0 n = 0 from Nat.zero_div n]; rfl
      | succ m => rfl
    | negSucc n => rfl
  | negSucc m => rfl
theorem fmodI_eq (x y : Int) : fmodI x y = x.fmod y := by
  cases x with
  | ofNat m => cases y with
    | ofNat n => cases m with
      | zero => show Int.ofNat (Nat.mod 0 n) = 0; rw [show Nat.mod 0 n = 0 from Nat.zero_mod n]; rfl
      | succ m => rfl
    | negSucc n => rfl
  | negSucc m => rfl
theorem bool_dec {b : Bool} {p : Prop} [Decidable p] (h : b = true ↔ p) : b = decide p := by
  by_cases q : p
  · rw [decide_eq_true q]; exact h.mpr q
  · rw [decide_eq_false q]; cases b with
    | true => exact absurd (h.mp rfl) q
    | false => rfl
theorem ltI_eq (x y : Int) : ltI x y = decide (x < y) := by
  refine bool_dec ?_
  cases x with
  | ofNat m => cases y with
    | ofNat n => show Nat.blt m n = true ↔ (m : Int) < n; rw [Nat.blt_eq]; omega
    | negSucc n => show false = true ↔ (m : Int) < Int.negSucc n; simp; omega
  | negSucc m => cases y with
    | ofNat n => show true = true ↔ Int.negSucc m < (n : Int); simp; omega
    | negSucc n => show Nat.blt n m = true ↔ Int.negSucc m < Int.negSucc n; rw [Nat.blt_eq]; omega
theorem leI_eq (x y : Int) : leI x y = decide (x ≤ y) := by
  refine bool_dec ?_
  cases x with
  | ofNat m => cases y with
    | ofNat n => show Nat.ble m n = true ↔ (m : Int) ≤ n; rw [Nat.ble_eq]; omega
    | negSucc n => show false = true ↔ (m : Int) ≤ Int.negSucc n; simp; omega
  | negSucc m => cases y with
    | ofNat n => show true = true ↔ Int.negSucc m ≤ (n : Int); simp; omega
    | negSucc n => show Nat.ble n m = true ↔ Int.negSucc m ≤ Int.negSucc n; rw [Nat.ble_eq]; omega
theorem eqI_eq (x y : Int) : eqI x y = decide (x = y) := by
  refine bool_dec ?_
  cases x with
  | ofNat m => cases y with
    | ofNat n => show Nat.beq m n = true ↔ (m : Int) = n; rw [Nat.beq_eq]; omega
    | negSucc n => show false = true ↔ (m : Int) = Int.negSucc n; simp
  | negSucc m => cases y with
    | ofNat n => show false = true ↔ Int.negSucc m = (n : Int); simp
    | negSucc n => show Nat.beq m n = true ↔ Int.negSucc m = Int.negSucc n; rw [Nat.beq_eq]; omega
theorem absI_eq (x : Int) : absI x = if x < 0 then -x else x := by
  cases x with
  | ofNat m => show (m : Int) = if (m : Int) < 0 then _ else _; rw [if_neg (by omega)]; rfl
  | negSucc m => show ((m + 1 : Nat) : Int) = _; rw [if_pos (by omega)]; rfl
theorem negI_eq (x : Int) : negI x = -x := by unfold negI; rw [subI_eq]; omega
theorem notB_eq (b : Bool) : notB b = !b := by cases b <;> rfl
theorem bK_true {R : Type} (A B : R) : bK true A B = A := rfl
theorem bK_false {R : Type} (A B : R) : bK false A B = B := rfl
theorem bK_eq {R : Type} (b : Bool) (A B : R) : bK b A B = if b = true then A else B := by cases b <;> rfl
theorem maxI_eq (x y : Int) : maxI x y = if y > x then y else x := by unfold maxI; rw [bK_eq, ltI_eq]; simp
/-! ### what is still to come -/
def big : Nat := 2 ^ 8000
noncomputable def bigI (x : Int) : Bool := Int.rec (motive := fun _ => Bool) (fun m => Nat.blt m big) (fun m => Nat.blt (Nat.succ m) big) x
instance (n : Nat) (x : Int) : Decidable (Lt2 n x) := by unfold Lt2; exact inferInstance
theorem bigI_eq (x : Int) : bigI x = decide (Lt2 8000 x) := by
  refine bool_dec ?_
  unfold Lt2
  cases x with
  | ofNat m => show Nat.blt m big = true ↔ m < 2 ^ 8000; rw [Nat.blt_eq]; rfl
  | negSucc m => show Nat.blt (m + 1) big = true ↔ m + 1 < 2 ^ 8000; rw [Nat.blt_eq]; rfl
noncomputable def letK {R α : Type} (v : α) (k : α → R) : R := k v
noncomputable def chkK {R : Type} (z : R) (c : Bool) (A : R) : R := Bool.rec z A c
noncomputable def callK {R α : Type} (z : R) (o : Option α) (k : α → R) : R := Option.rec z k o
noncomputable def mulK {R : Type} (z : R) (x y : Int) (k : Int → R) : R := chkK z (bK (bigI x) (bigI y) false) (k (mulI x y))
noncomputable def modK {R : Type} (z : R) (x y : Int) (k : Int → R) : R := bK (eqI y 0) z (k (fmodI x y))
noncomputable def divK {R : Type} (z : R) (x y : Int) (k : Int → R) : R := chkK z (bK (eqI y 0) false (bigI y)) (k (fdivI x y))
noncomputable def joinK {R β : Type} (J : β → R) (body : (β → R) → R) : R := body J
section
variable {R : Type} {D : Dm R} {α β σ : Type}
theorem letK_ok {v : α} {k : α → R} (h : D.Hd (letK v k)) : ∃ x, v = x ∧ D.Hd (k x) := ⟨v, rfl, h⟩
theorem chkK_ok {c : Bool} {A : R} (h : D.Hd (chkK D.z c A)) : c = true ∧ D.Hd A := by
  cases c with
  | true => exact ⟨rfl, h⟩
  | false => exact absurd h D.nz
theorem callK_ok {o : Option α} {k : α → R} (h : D.Hd (callK D.z o k)) : ∃ x, o = some x ∧ D.Hd (k x) := by
  cases o with
  | none => exact absurd h D.nz
  | some x => exact ⟨x, rfl, h⟩
theorem bK_t {b : Bool} {A B : R} (hb : b = true) (h : D.Hd (bK b A B)) : D.Hd A := by subst hb; exact h
theorem bK_f {b : Bool} {A B : R} (hb : b = false) (h : D.Hd (bK b A B)) : D.Hd B := by subst hb; exact h
theorem mulK_ok {x y : Int} {k : Int → R} (h : D.Hd (mulK D.z x y k)) : (Lt2 8000 x ∧ Lt2 8000 y) ∧ ∃ v, mulI x y = v ∧ D.Hd (k v) := by
  obtain ⟨h1, h2⟩ := chkK_ok h
  rw [bK_eq, bigI_eq, bigI_eq] at h1
  refine ⟨?_, _, rfl, h2⟩
  by_cases q : Lt2 8000 x
  · rw [if_pos (decide_eq_true q)] at h1; exact ⟨q, of_decide_eq_true h1⟩
  · rw [if_neg (by rw [decide_eq_false q]; decide)] at h1; cases h1
theorem modK_ok {x y : Int} {k : Int → R} (h : D.Hd (modK D.z x y k)) : y ≠ 0 ∧ ∃ v, fmodI x y = v ∧ D.Hd (k v) := by
  unfold modK at h
  rw [bK_eq, eqI_eq] at h
  by_cases q : y = 0
  · rw [if_pos (decide_eq_true q)] at h; exact absurd h D.nz
  · rw [if_neg (by rw [decide_eq_false q]; decide)] at h; exact ⟨q, _, rfl, h⟩
theorem divK_ok {x y : Int} {k : Int → R} (h : D.Hd (divK D.z x y k)) : (y ≠ 0 ∧ Lt2 8000 y) ∧ ∃ v, fdivI x y = v ∧ D.Hd (k v) := by
  obtain ⟨h1, h2⟩ := chkK_ok h
  rw [bK_eq, eqI_eq, bigI_eq] at h1
  by_cases q : y = 0
  · rw [if_pos (decide_eq_true q)] at h1; cases h1
  · rw [if_neg (by rw [decide_eq_false q]; decide)] at h1; exact ⟨⟨q, of_decide_eq_true h1⟩, _, rfl, h2⟩
end
/-! ### closers of the steps -/
section
variable {i j x : Int} {P : PyData → Prop} {Q : Bool → Prop}
theorem AddD.xx (e : addI i j = x) (h : P (.int x)) : AddD (.int i) (.int j) P := by rw [addI_eq] at e; subst e; exact h
theorem SubI.xx (e : subI i j = x) (h : P (.int x)) : Int2 (fun _ _ => True) (fun i j => .int (i - j)) (.int i) (.int j) P := by rw [subI_eq] at e; subst e; exact ⟨trivial, h⟩
theorem MulD.xx (c : Lt2 8000 i ∧ Lt2 8000 j) (e : mulI i j = x) (h : P (.int x)) : MulD (.int i) (.int j) P := by rw [mulI_eq] at e; subst e; exact ⟨mul_w c.1 c.2 (by decide) (by decide), h⟩
theorem ModI.xx (c : j ≠ 0) (e : fmodI i j = x) (h : P (.int x)) : Int2 (fun _ j => j ≠ 0) (fun i j => .int (i.fmod j)) (.int i) (.int j) P := by rw [fmodI_eq] at e; subst e; exact ⟨c, h⟩
theorem DivI.xx (c : j ≠ 0 ∧ Lt2 8000 j) (e : fdivI i j = x) (h : P (.int x)) : Int2 CDivX (fun i j => .int (i.fdiv j)) (.int i) (.int j) P := by rw [fdivI_eq] at e; subst e; exact DivI.b c.1 c.2 (by decide) h
theorem IbLt (h : Q (ltI i j)) : Ib (fun i j => decide (i < j)) (.int i) (.int j) Q := by rw [ltI_eq] at h; exact h
theorem IbLe (h : Q (leI i j)) : Ib (fun i j => decide (i ≤ j)) (.int i) (.int j) Q := by rw [leI_eq] at h; exact h
theorem IbGt (h : Q (ltI j i)) : Ib (fun i j => decide (j < i)) (.int i) (.int j) Q := by rw [ltI_eq] at h; exact h
theorem IbGe (h : Q (leI j i)) : Ib (fun i j => decide (j ≤ i)) (.int i) (.int j) Q := by rw [leI_eq] at h; exact h
theorem abs_x (e : absI i = x) (h : P (.int x)) : P (.int (if i < 0 then -i else i)) := by rw [absI_eq] at e; rw [e]; exact h
theorem neg_x (e : negI i = x) (h : P (.int x)) : P (.int (-i)) := by rw [negI_eq] at e; rw [e]; exact h
theorem max_x (e : maxI i j = x) (h : P (.int x)) : P (.int (if j > i then j else i)) := by rw [maxI_eq] at e; rw [e]; exact h
end
/-! ### injections, equality -/
abbrev lI {α : Type} (inj : α → PyData) (xs : List α) : PyData := .list (xs.map inj)
abbrev vI {α : Type} (inj : α → PyData) (xs : List α) : PyData := .tuple (xs.map inj)
abbrev pI {α β : Type} (a : α → PyData) (b : β → PyData) (x : α × β) : PyData := .tuple [a x.1, b x.2]
abbrev p3I {α β γ : Type} (a : α → PyData) (b : β → PyData) (c : γ → PyData) (x : α × β × γ) : PyData := .tuple [a x.1, b x.2.1, c x.2.2]
abbrev uI (_ : Unit) : PyData := .none
abbrev t0I (_ : Unit) : PyData := .tuple []
abbrev t1I {α : Type} (a : α → PyData) (x : α) : PyData := .tuple [a x]
def oI {α : Type} (inj : α → PyData) : Option α → PyData
  | none => .none
  | some x => inj x
structure Ev {α : Type} (inj : α → PyData) (eq : α → α → Bool) (n : Nat) : Prop where
  ev : ∀ a b, PyData.eqv (inj a) (inj b) = eq a b
  lay : ∀ a, PyData.canLay0 (inj a) = true
  dep : ∀ a, PyData.depth (inj a) ≤ n
noncomputable def eqB (a b : Bool) : Bool := Bool.rec (notB b) b a
noncomputable def eqL {α : Type} (eq : α → α → Bool) (xs : List α) : List α → Bool := List.rec (motive := fun _ => List α → Bool) (fun ys => List.rec (motive := fun _ => Bool) true (fun _ _ _ => false) ys) (fun x _ ih ys => List.rec (motive := fun _ => Bool) false (fun y ys _ => bK (eq x y) (ih ys) false) ys) xs
noncomputable def eqP {α β : Type} (ea : α → α → Bool) (eb : β → β → Bool) (x y : α × β) : Bool := bK (ea x.1 y.1) (eb x.2 y.2) false
theorem Ev.int : Ev PyData.int eqI 0 := ⟨fun a b => by rw [eqI_eq]; show (a == b) = _; rfl, fun _ => rfl, fun _ => Nat.le_refl _⟩
theorem Ev.bool : Ev PyData.bool eqB 0 := ⟨fun a b => by cases a <;> cases b <;> rfl, fun _ => rfl, fun _ => Nat.le_refl _⟩
theorem eqL_ev {α : Type} {inj : α → PyData} {eq : α → α → Bool} (h : ∀ a b, PyData.eqv (inj a) (inj b) = eq a b) : ∀ xs ys : List α, PyData.eqvAll (xs.map inj) (ys.map inj) = eqL eq xs ys
  | [], [] => rfl
  | [], _ :: _ => rfl
  | _ :: _, [] => rfl
  | x :: xs, y :: ys => by
    show (PyData.eqv (inj x) (inj y) && PyData.eqvAll (xs.map inj) (ys.map inj)) = bK (eq x y) (eqL eq xs ys) false
    rw [h, eqL_ev h xs ys]
    cases eq x y <;> rfl
theorem layA_map {α : Type} {inj : α → PyData} (h : ∀ a, PyData.canLay0 (inj a) = true) : ∀ xs : List α, PyData.canLayAll0 (xs.map inj) = true
  | [] => rfl
  | x :: xs => by show (PyData.canLay0 (inj x) && PyData.canLayAll0 (xs.map inj)) = true; rw [h, layA_map h xs]; rfl
theorem depA_map {α : Type} {inj : α → PyData} {n : Nat} (h : ∀ a, PyData.depth (inj a) ≤ n) : ∀ xs : List α, PyData.depthAll (xs.map inj) ≤ n
  | [] => Nat.zero_le _
  | x :: xs => by show Nat.max (PyData.depth (inj x)) (PyData.depthAll (xs.map inj)) ≤ n; exact Nat.max_le.mpr ⟨h x, depA_map h xs⟩
section
variable {α β γ : Type} {inj : α → PyData} {eq : α → α → Bool} {n m : Nat} {injb : β → PyData} {eqb : β → β → Bool} {x : α} {y : β} {Q : Bool → Prop}
theorem Ev.list (h : Ev inj eq n) : Ev (lI inj) (eqL eq) (n + 1) := ⟨fun a b => eqL_ev h.ev a b, fun a => layA_map h.lay a, fun a => by
  show PyData.depthAll (a.map inj) + 1 ≤ n + 1
  exact Nat.succ_le_succ (depA_map h.dep a)⟩
theorem Ev.tup (h : Ev inj eq n) : Ev (vI inj) (eqL eq) (n + 1) := ⟨fun a b => eqL_ev h.ev a b, fun a => layA_map h.lay a, fun a => by
  show PyData.depthAll (a.map inj) + 1 ≤ n + 1
  exact Nat.succ_le_succ (depA_map h.dep a)⟩
theorem Ev.pair (h : Ev inj eq n) (g : Ev injb eqb m) : Ev (pI inj injb) (eqP eq eqb) (n + m + 1) := ⟨fun a b => by
  show (PyData.eqv (inj a.1) (inj b.1) && (PyData.eqv (injb a.2) (injb b.2) && true)) = bK (eq a.1 b.1) (eqb a.2 b.2) false
  rw [h.ev, g.ev]
  cases eq a.1 b.1 <;> cases eqb a.2 b.2 <;> rfl, fun a => by
  show (PyData.canLay0 (inj a.1) && (PyData.canLay0 (injb a.2) && true)) = true
  rw [h.lay, g.lay]; rfl, fun a => by
  show Nat.max (PyData.depth (inj a.1)) (Nat.max (PyData.depth (injb a.2)) 0) + 1 ≤ n + m + 1
  have h1 := h.dep a.1
  have h2 := g.dep a.2
  refine Nat.succ_le_succ (Nat.max_le.mpr ⟨by omega, Nat.max_le.mpr ⟨by omega, by omega⟩⟩)⟩
theorem Ev.shaped (h : Ev inj eq n) (hn : n ≤ 64) (a : α) : SeqAt.shaped (inj a) = true := by
  show (PyData.canLay0 (inj a) && decide (PyData.depth (inj a) ≤ 64)) = true
  rw [h.lay, decide_eq_true (Nat.le_trans (h.dep a) hn)]; rfl
theorem EqT.xx {x y : α} (h : Ev inj eq n) (hn : n ≤ 64) (q : Q (eq x y)) : EqT (inj x) (inj y) Q := ⟨h.shaped hn x, h.shaped hn y, by rw [h.ev]; exact q⟩
theorem NeT.xx {x y : α} (h : Ev inj eq n) (hn : n ≤ 64) (q : Q (notB (eq x y))) : NeT (inj x) (inj y) Q := ⟨h.shaped hn x, h.shaped hn y, by rw [h.ev, ← notB_eq]; exact q⟩
theorem EqD.xx {P : PyData → Prop} {x y : α} (h : Ev inj eq n) (hn : n ≤ 64) (q : P (.bool (eq x y))) : EqD (inj x) (inj y) P := ⟨h.shaped hn x, h.shaped hn y, by rw [h.ev]; exact q⟩
theorem NeD.xx {P : PyData → Prop} {x y : α} (h : Ev inj eq n) (hn : n ≤ 64) (q : P (.bool (notB (eq x y)))) : NeD (inj x) (inj y) P := ⟨h.shaped hn x, h.shaped hn y, by rw [h.ev, ← notB_eq]; exact q⟩
/-- of different sorts -/
theorem EqT.u {a b : PyData} (ha : SeqAt.shaped a = true) (hb : SeqAt.shaped b = true) (e : PyData.eqv a b = false) (q : Q false) : EqT a b Q := ⟨ha, hb, by rw [e]; exact q⟩
theorem NeT.u {a b : PyData} (ha : SeqAt.shaped a = true) (hb : SeqAt.shaped b = true) (e : PyData.eqv a b = false) (q : Q true) : NeT a b Q := ⟨ha, hb, by rw [e]; exact q⟩
noncomputable def anyE (eq : α → α → Bool) (x : α) (xs : List α) : Bool := List.rec (motive := fun _ => Bool) false (fun y _ ih => bK (eq y x) true ih) xs
theorem anyE_ev (h : ∀ a b, PyData.eqv (inj a) (inj b) = eq a b) (x : α) : ∀ xs : List α, ((xs.map inj).any fun z => PyData.eqv z (inj x)) = anyE eq x xs
  | [] => rfl
  | y :: ys => by
    show (PyData.eqv (inj y) (inj x) || ((ys.map inj).any fun z => PyData.eqv z (inj x))) = bK (eq y x) true (anyE eq x ys)
    rw [h, anyE_ev h x ys]
    cases eq y x <;> rfl
theorem InD.xx {x : α} {xs : List α} (h : Ev inj eq n) (hn : n + 1 ≤ 64) (q : Q (anyE eq x xs)) : InD (inj x) (lI inj xs) Q := ⟨h.shaped (by omega) x, h.list.shaped hn xs, by rw [anyE_ev h.ev]; exact q⟩
theorem anyE_int (x : Int) : ∀ ns : List Int, decide (x ∈ ns) = anyE eqI x ns
  | [] => rfl
  | y :: ys => by
    show _ = bK (eqI y x) true (anyE eqI x ys)
    rw [← anyE_int x ys, eqI_eq, bK_eq]
    by_cases e : y = x
    · subst e; simp
    · have : x ≠ y := fun z => e z.symm
      simp [e, this]
theorem InT.xx {x : Int} {ns : List Int} (q : Q (anyE eqI x ns)) : InT (.int x) (.tuple (ns.map PyData.int)) Q := ⟨x, ns, rfl, rfl, by rw [anyE_int]; exact q⟩
theorem InT.x2 {x a b : Int} (q : Q (anyE eqI x [a, b])) : InT (.int x) (.tuple [.int a, .int b]) Q := InT.xx (ns := [a, b]) q
end
/-! ### lists -/
noncomputable def lenN {α : Type} (xs : List α) : Nat := List.rec (motive := fun _ => Nat) 0 (fun _ _ ih => Nat.succ ih) xs
theorem lenN_eq {α : Type} : ∀ xs : List α, lenN xs = xs.length
  | [] => rfl
  | _ :: xs => by show Nat.succ (lenN xs) = xs.length + 1; rw [lenN_eq xs]
noncomputable def lenI {α : Type} (xs : List α) : Int := .ofNat (lenN xs)
theorem lenI_eq {α : Type} (xs : List α) : lenI xs = (xs.length : Int) := by unfold lenI; rw [lenN_eq]; rfl
noncomputable def nthN {α : Type} (xs : List α) : Nat → Option α := List.rec (motive := fun _ => Nat → Option α) (fun _ => none) (fun x _ ih n => Nat.rec (motive := fun _ => Option α) (some x) (fun n _ => ih n) n) xs
theorem nthN_eq {α : Type} : ∀ (xs : List α) (n : Nat), nthN xs n = xs[n]?
  | [], n => by simp [nthN]
  | x :: xs, 0 => rfl
  | x :: xs, n + 1 => by show nthN xs n = _; rw [nthN_eq xs n]; simp
noncomputable def atF {α : Type} (xs : List α) (i : Int) : Option α := Int.rec (motive := fun _ => Option α) (fun n => nthN xs n) (fun n => bK (Nat.blt n (lenN xs)) (nthN xs (Nat.sub (lenN xs) (Nat.succ n))) none) i
theorem atF_eq {α : Type} (xs : List α) (i : Int) : atF xs i = atI xs i := by
  unfold atI ixN
  cases i with
  | ofNat n =>
    show nthN xs n = (if (0 : Int) ≤ (n : Int) then (if (n : Int) < xs.length then some (n : Int).toNat else none) else _).bind _
    rw [nthN_eq, if_pos (Int.natCast_nonneg n)]
    by_cases h : (n : Int) < xs.length
    · rw [if_pos h]; rfl
    · rw [if_neg h]
      exact List.getElem?_eq_none (by omega)
  | negSucc n =>
    show bK (Nat.blt n (lenN xs)) (nthN xs (lenN xs - (n + 1))) none = _
    rw [if_neg (by omega), lenN_eq, bK_eq]
    by_cases h : n < xs.length
    · rw [if_pos (Nat.blt_eq.mpr h), if_pos (by omega), nthN_eq]
      show _ = xs[(Int.negSucc n + xs.length).toNat]?
      congr 1
      omega
    · rw [if_neg (fun z => h (Nat.blt_eq.mp z)), if_neg (by omega)]; rfl
theorem atI_map {α β : Type} (f : α → β) (xs : List α) (i : Int) : atI (xs.map f) i = (atI xs i).map f := by
  unfold atI
  rw [List.length_map]
  cases ixN xs.length i with
  | none => rfl
  | some j => show (xs.map f)[j]? = (xs[j]?).map f; rw [List.getElem?_map]
theorem atF_at {α : Type} {inj : α → PyData} {xs : List α} {i : Int} {x : α} (e : atF xs i = some x) : atI (xs.map inj) i = some (inj x) := by rw [atI_map, ← atF_eq, e]; rfl
section
variable {α β : Type} {inj : α → PyData} {xs ys : List α} {x : α} {i : Int} {P : PyData → Prop}
theorem IxD.lx (e : atF xs i = some x) (h : P (inj x)) : IxD (lI inj xs) (.int i) P := ⟨_, atF_at e, h⟩
theorem IxD.vx (e : atF xs i = some x) (h : P (inj x)) : IxD (vI inj xs) (.int i) P := ⟨_, atF_at e, h⟩
theorem ixO_x (e : atF xs i = some x) (h : P (inj x)) : ∃ n d, PyData.int i = .int n ∧ atI (xs.map inj) n = some d ∧ P d := ⟨i, _, rfl, atF_at e, h⟩
theorem len_x {n : Int} (e : lenI xs = n) (h : P (.int n)) : P (.int ((xs.map inj).length : Nat)) := by rw [lenI_eq] at e; rw [List.length_map, e]; exact h
noncomputable def catL (xs ys : List α) : List α := List.rec (motive := fun _ => List α) ys (fun x _ ih => x :: ih) xs
theorem catL_eq : ∀ (xs ys : List α), catL xs ys = xs ++ ys
  | [], ys => rfl
  | x :: xs, ys => by show x :: catL xs ys = _; rw [catL_eq xs ys]; rfl
noncomputable def fewL {α : Type} (xs : List α) : Bool := Nat.ble (lenN xs) 100000
theorem fewL_ok (h : fewL xs = true) : xs.length ≤ 100000 := by have := Nat.le_of_ble_eq_true h; rw [lenN_eq] at this; exact this
theorem AddD.lx {zs : List α} (c : (bK (fewL xs) (fewL ys) false) = true) (e : catL xs ys = zs) (h : P (lI inj zs)) : AddD (lI inj xs) (lI inj ys) P := by
  rw [catL_eq] at e
  subst e
  rw [bK_eq] at c
  by_cases q : fewL xs = true
  · rw [if_pos q] at c
    have h1 := fewL_ok q
    have h2 := fewL_ok c
    refine ⟨?_, ?_⟩
    · rw [List.length_map, List.length_map]
      exact Nat.le_trans (show xs.length + ys.length ≤ 16777216 by omega) (by decide)
    · rw [← List.map_append]; exact h
  · rw [if_neg q] at c; cases c
theorem app_x (c : fewL xs = true) {κ : List PyData → Prop} (h : κ ((xs ++ [x]).map inj)) : (xs.map inj).length < sizeLine ∧ κ (xs.map inj ++ [inj x]) := by
  refine ⟨?_, by rw [List.map_append] at h; exact h⟩
  rw [List.length_map]
  have := fewL_ok c
  exact Nat.lt_of_lt_of_le (show xs.length < 16777216 by omega) (by decide)
noncomputable def sumI (xs : List Int) : Int := List.rec (motive := fun _ => Int) 0 (fun x _ ih => addI x ih) xs
theorem sumI_eq : ∀ xs : List Int, sumI xs = xs.sum
  | [] => rfl
  | x :: xs => by show addI x (sumI xs) = _; rw [addI_eq, sumI_eq xs]; rfl
noncomputable def allB (xs : List Bool) : Bool := List.rec (motive := fun _ => Bool) true (fun x _ ih => bK x ih false) xs
theorem allB_eq : ∀ xs : List Bool, allB xs = xs.all id
  | [] => rfl
  | x :: xs => by show bK x (allB xs) false = _; rw [allB_eq xs]; cases x <;> rfl
noncomputable def anyB (xs : List Bool) : Bool := List.rec (motive := fun _ => Bool) false (fun x _ ih => bK x true ih) xs
theorem anyB_eq : ∀ xs : List Bool, anyB xs = xs.any id
  | [] => rfl
  | x :: xs => by show bK x true (anyB xs) = _; rw [anyB_eq xs]; cases x <;> rfl
noncomputable def insI (x : Int) (xs : List Int) : List Int := List.rec (motive := fun _ => List Int) [x] (fun y ys ih => bK (leI x y) (x :: y :: ys) (y :: ih)) xs
noncomputable def sortI (xs : List Int) : List Int := List.rec (motive := fun _ => List Int) [] (fun x _ ih => insI x ih) xs
theorem insI_perm (x : Int) : ∀ xs : List Int, (insI x xs).Perm (x :: xs)
  | [] => List.Perm.refl _
  | y :: ys => by
    show (bK (leI x y) (x :: y :: ys) (y :: insI x ys)).Perm _
    cases leI x y with
    | true => exact List.Perm.refl _
    | false => exact ((insI_perm x ys).cons y).trans (List.Perm.swap x y ys)
theorem insI_sorted (x : Int) : ∀ xs : List Int, xs.Pairwise (· ≤ ·) → (insI x xs).Pairwise (· ≤ ·)
  | [], _ => List.pairwise_singleton _ _
  | y :: ys, h => by
    show (bK (leI x y) (x :: y :: ys) (y :: insI x ys)).Pairwise _
    rw [leI_eq, bK_eq]
    obtain ⟨h1, h2⟩ := List.pairwise_cons.mp h
    by_cases q : x ≤ y
    · rw [if_pos (decide_eq_true q)]
      refine List.pairwise_cons.mpr ⟨fun z hz => ?_, h⟩
      rcases List.mem_cons.mp hz with rfl | hz
      · exact q
      · exact Int.le_trans q (h1 z hz)
    · rw [if_neg (by rw [decide_eq_false q]; decide)]
      refine List.pairwise_cons.mpr ⟨fun z hz => ?_, insI_sorted x ys h2⟩
      rcases List.mem_cons.mp ((insI_perm x ys).mem_iff.mp hz) with rfl | hz
      · omega
      · exact h1 z hz
theorem sortI_perm : ∀ xs : List Int, (sortI xs).Perm xs
  | [] => List.Perm.refl _
  | x :: xs => (insI_perm x (sortI xs)).trans ((sortI_perm xs).cons x)
theorem sortI_sorted : ∀ xs : List Int, (sortI xs).Pairwise (· ≤ ·)
  | [] => List.Pairwise.nil
  | x :: xs => insI_sorted x _ (sortI_sorted xs)
theorem sorted_uniq {xs ys : List Int} (h : xs.Perm ys) (h1 : xs.Pairwise (· ≤ ·)) (h2 : ys.Pairwise (· ≤ ·)) : xs = ys := h.eq_of_pairwise (fun a b _ _ p q => Int.le_antisymm p q) h1 h2
theorem sort_x {ns ms : List Int} (e : sortI ns = ms) (h : P (lI PyData.int ms)) : ∃ ns' : List Int, PyData.list (ns.map PyData.int) = .list (ns'.map PyData.int) ∧ ∀ ms' : List Int, ms'.Perm ns' → ms'.Pairwise (· ≤ ·) → P (.list (ms'.map PyData.int)) := ⟨ns, rfl, fun ms' hp ho => by
  have : ms' = ms := sorted_uniq (hp.trans (e ▸ sortI_perm ns).symm) ho (e ▸ sortI_sorted ns)
  subst this
  exact h⟩
end
/-! ranges -/
noncomputable def rngF (c : Int) (n : Nat) : Int → List Int := Nat.rec (motive := fun _ => Int → List Int) (fun _ => []) (fun _ ih i => i :: ih (addI i c)) n
theorem rngF_get (c : Int) : ∀ (n : Nat) (lo : Int) (i : Nat), (rngF c n lo)[i]? = if i < n then some (lo + i * c) else none
  | 0, lo, i => by rw [if_neg (Nat.not_lt_zero i)]; rfl
  | n + 1, lo, 0 => by show some lo = _; simp
  | n + 1, lo, i + 1 => by
    show (rngF c n (addI lo c))[i]? = _
    rw [rngF_get c n, addI_eq]
    by_cases h : i < n
    · rw [if_pos h, if_pos (by omega)]
      congr 1
      rw [Int.add_assoc]
      congr 1
      push_cast
      rw [Int.add_mul, Int.one_mul, Int.add_comm]
    · rw [if_neg h, if_neg (by omega)]
theorem rngF_len (c : Int) : ∀ (n : Nat) (lo : Int), (rngF c n lo).length = n
  | 0, _ => rfl
  | n + 1, lo => by show (rngF c n (addI lo c)).length + 1 = n + 1; rw [rngF_len c n]
theorem rngF_D (c lo : Int) (n : Nat) : (rngF c n lo).map PyData.int = (List.range n).map fun i => PyData.int (lo + (i : Nat) * c) := by
  apply List.ext_getElem?
  intro i
  rw [List.getElem?_map, rngF_get, List.getElem?_map]
  by_cases h : i < n
  · rw [if_pos h, List.getElem?_range h]; rfl
  · rw [if_neg h, List.getElem?_eq_none (by rw [List.length_range]; omega)]; rfl
noncomputable def toNatI (x : Int) : Nat := Int.rec (motive := fun _ => Nat) (fun n => n) (fun _ => 0) x
theorem toNatI_eq (x : Int) : toNatI x = x.toNat := by cases x <;> rfl
noncomputable def rng2F (lo hi : Int) : List Int := rngF 1 (toNatI (subI hi lo)) lo
theorem rng2F_D (lo hi : Int) : rngD lo hi = (rng2F lo hi).map PyData.int := by
  unfold rng2F rngD
  rw [toNatI_eq, subI_eq, rngF_D]
  simp
noncomputable def midB (x : Int) : Bool := Int.rec (motive := fun _ => Bool) (fun m => Nat.blt m 4611686018427387904) (fun m => Nat.blt m 4611686018427387904) x
theorem midB_ok {x : Int} (h : midB x = true) : -(2 ^ 62) ≤ x ∧ x < 2 ^ 62 := by
  cases x with
  | ofNat m => have h2 : m < 4611686018427387904 := Nat.blt_eq.mp h; show -(2 ^ 62) ≤ (m : Int) ∧ (m : Int) < 2 ^ 62; omega
  | negSucc m => have h2 : m < 4611686018427387904 := Nat.blt_eq.mp h; constructor <;> omega
section
variable {R : Type} {D : Dm R} {k : List Int → R}
noncomputable def rng1K (z : R) (n : Int) (k : List Int → R) : R := chkK z (midB n) (k (rng2F 0 n))
noncomputable def rng2K (z : R) (a b : Int) (k : List Int → R) : R := chkK z (bK (midB a) (midB b) false) (k (rng2F a b))
theorem rng1K_ok {n : Int} (h : D.Hd (rng1K D.z n k)) : (-(2 ^ 62) ≤ n ∧ n < 2 ^ 62) ∧ ∃ xs, rng2F 0 n = xs ∧ D.Hd (k xs) := by
  obtain ⟨h1, h2⟩ := chkK_ok h
  exact ⟨midB_ok h1, _, rfl, h2⟩
theorem rng2K_ok {a b : Int} (h : D.Hd (rng2K D.z a b k)) : (-(2 ^ 62) ≤ a ∧ a < 2 ^ 62 ∧ -(2 ^ 62) ≤ b ∧ b < 2 ^ 62) ∧ ∃ xs, rng2F a b = xs ∧ D.Hd (k xs) := by
  obtain ⟨h1, h2⟩ := chkK_ok h
  rw [bK_eq] at h1
  by_cases q : midB a = true
  · rw [if_pos q] at h1
    exact ⟨⟨(midB_ok q).1, (midB_ok q).2, (midB_ok h1).1, (midB_ok h1).2⟩, _, rfl, h2⟩
  · rw [if_neg q] at h1; cases h1
theorem r1_x {n : Int} {xs : List Int} {P : List PyData → Prop} (c : -(2 ^ 62) ≤ n ∧ n < 2 ^ 62) (e : rng2F 0 n = xs) (h : P (xs.map PyData.int)) : ∃ m, PyData.int n = .int m ∧ -(2 ^ 62) ≤ m ∧ m < 2 ^ 62 ∧ P (rngD 0 m) := ⟨n, rfl, c.1, c.2, by rw [rng2F_D, e]; exact h⟩
theorem r2_x {a b : Int} {xs : List Int} {P : List PyData → Prop} (c : -(2 ^ 62) ≤ a ∧ a < 2 ^ 62 ∧ -(2 ^ 62) ≤ b ∧ b < 2 ^ 62) (e : rng2F a b = xs) (h : P (xs.map PyData.int)) : ∃ lo hi, PyData.int a = .int lo ∧ PyData.int b = .int hi ∧ (-(2 ^ 62) ≤ lo ∧ lo < 2 ^ 62 ∧ -(2 ^ 62) ≤ hi ∧ hi < 2 ^ 62) ∧ P (rngD lo hi) := ⟨a, b, rfl, rfl, c, by rw [rng2F_D, e]; exact h⟩
end
end Kt

/-! Loops and comprehensions, lifted. -/
namespace Kt
open PySem L2 PyProof.Rows
open Evl (Ex)
open RZ (ItzT pi_zipA)
noncomputable def forK {R α σ : Type} (fin : σ → R) (body : (σ → R) → α → σ → (σ → R) → R) (xs : List α) : σ → R := List.rec (motive := fun _ => σ → R) fin (fun x _ ih s => body fin x s ih) xs
noncomputable def whileK {R σ : Type} (z : R) (fin : σ → R) (test : σ → (Bool → R) → R) (body : (σ → R) → σ → (σ → R) → R) (n : Nat) : σ → R := Nat.rec (motive := fun _ => σ → R) (fun _ => z) (fun _ ih s => test s fun b => bK b (body fin s ih) (fin s)) n
noncomputable def lcG {R α β : Type} (f : α → (β → R) → R) (xs : List α) : (List β → R) → R := List.rec (motive := fun _ => (List β → R) → R) (fun k => k []) (fun x _ ih k => f x fun y => ih fun ys => k (y :: ys)) xs
noncomputable def lcFG {R α β : Type} (c : α → (Bool → R) → R) (f : α → (β → R) → R) (xs : List α) : (List β → R) → R := List.rec (motive := fun _ => (List β → R) → R) (fun k => k []) (fun x _ ih k => c x fun b => bK b (f x fun y => ih fun ys => k (y :: ys)) (ih k)) xs
noncomputable def lcK {R α β : Type} (z : R) (f : α → (β → R) → R) (xs : List α) (k : List β → R) : R := chkK z (fewL xs) (lcG f xs k)
noncomputable def lcFK {R α β : Type} (z : R) (c : α → (Bool → R) → R) (f : α → (β → R) → R) (xs : List α) (k : List β → R) : R := chkK z (fewL xs) (lcFG c f xs k)
/-- slots forgotten -/
inductive Wk2 : List Sl → List Sl → Prop
  | nil : Wk2 [] []
  | no {a r r'} : Wk2 r r' → Wk2 (.no :: r) (a :: r')
  | eq {a r r'} : Wk2 r r' → Wk2 (a :: r) (a :: r')
theorem Wk2.len {a b : List Sl} (h : Wk2 a b) : a.length = b.length := by
  induction h with
  | nil => rfl
  | no _ ih => rw [List.length_cons, List.length_cons, ih]
  | eq _ ih => rw [List.length_cons, List.length_cons, ih]
theorem Wk2.at {a b : List Sl} (h : Wk2 a b) : ∀ (i : Nat) s, a[i]? = some s → s = .no ∨ b[i]? = some s := by
  induction h with
  | nil => intro i s e; simp at e
  | no _ ih =>
    intro i s e
    cases i with
    | zero => exact Or.inl (by simpa using e.symm)
    | succ i => simpa using ih i s (by simpa using e)
  | eq _ ih =>
    intro i s e
    cases i with
    | zero => exact Or.inr e
    | succ i => simpa using ih i s (by simpa using e)
section
variable {Pg : Program} {w : World} {K : PySem.W.Frag} {mg : Str → Option Value} {base : Heap} {N : List Str} {sc : Scope} {k j : Nat} {X : Cx} {ρ ρ' : List Sl} {P : PyData → Prop} {a b c e : Expr} {pos : Pos} {κ κ' : Kn} {st : Stmt} {rest : List Stmt}
theorem BN.wk (h : Wk2 ρ' ρ) (q : BN X rest ρ' κ) : BN X rest ρ κ := BN.weak h.len h.at q
theorem Adm.mono {G : Gh} {D : Ends} (A : Adm K G κ' D) (nx : ∀ r, κ.nx r → κ'.nx r) (rt : ∀ d, κ.rt d → κ'.rt d) (bk : ∀ r, κ.bk r → κ'.bk r) (ct : ∀ r, κ.ct r → κ'.ct r) (rn : ∀ d, κ.rn d → κ'.rn d) : Adm K G κ D :=
  ⟨fun ρ σ F H p => A.nx ρ σ F H (nx _ p), fun d v F H p => A.rt d v F H (rt _ p), fun ρ σ F H p => A.bk ρ σ F H (bk _ p), fun ρ σ F H p => A.ct ρ σ F H (ct _ p), fun d v F H p => A.rn d v F H (rn _ p)⟩
theorem BN.monoK (h : BN X rest ρ κ) (nx : ∀ r, κ.nx r → κ'.nx r) (rt : ∀ d, κ.rt d → κ'.rt d) (bk : ∀ r, κ.bk r → κ'.bk r) (ct : ∀ r, κ.ct r → κ'.ct r) (rn : ∀ d, κ.rn d → κ'.rn d) : BN X rest ρ κ' := fun G σ F H E D A => h G σ F H E D (A.mono nx rt bk ct rn)
theorem SN.monoNx {Q : List Sl → Prop} (h : SN X st ρ { κ with nx := Q }) (nx : ∀ r, Q r → κ.nx r) : SN X st ρ κ := fun G σ F H E D A => h G σ F H E D (A.mono nx (fun _ z => z) (fun _ z => z) (fun _ z => z) (fun _ z => z))
section
variable {R : Type} {D : Dm R} {α β σ : Type} {inj : α → PyData} {injb : β → PyData}
/-- a statement with two ways that meet again -/
theorem SN.join {J : β → R} {body : (β → R) → R} (h : D.Hd (joinK J body)) (en : β → List Sl) (h1 : ∀ J', D.Hd (body J') → SN X st ρ { κ with nx := fun r => ∃ s, r = en s ∧ D.Hd (J' s) }) (h2 : ∀ s, D.Hd (J s) → κ.nx (en s)) : SN X st ρ κ :=
  SN.monoNx (h1 J h) fun r ⟨s, e, q⟩ => e ▸ h2 s q
theorem EN.join {J : β → R} {body : (β → R) → R} (h : D.Hd (joinK J body)) (injb : β → PyData) (h1 : ∀ J', D.Hd (body J') → EN X e ρ fun d => ∃ x, d = injb x ∧ D.Hd (J' x)) (h2 : ∀ x, D.Hd (J x) → P (injb x)) : EN X e ρ P :=
  (h1 J h).mono fun d ⟨x, e, q⟩ => e ▸ h2 x q
theorem TN.join {J : Bool → R} {body : (Bool → R) → R} {Q : Bool → Prop} (h : D.Hd (joinK J body)) (h1 : ∀ J', D.Hd (body J') → TN X e ρ fun b => D.Hd (J' b)) (h2 : ∀ b, D.Hd (J b) → Q b) : TN X e ρ Q := (h1 J h).mono h2
theorem forK_in {tg : Expr} {sts : List Stmt} {xs : List α} {s0 : σ} {fin : σ → R} {body : (σ → R) → α → σ → (σ → R) → R} (h : D.Hd (forK fin body xs s0)) (inj : α → PyData) (en : σ → List Sl) (h0 : ρ = en s0) (done : ∀ s, D.Hd (fin s) → κ.nx (en s))
    (turn : ∀ x s (fin' nx : σ → R), D.Hd (body fin' x s nx) → GN X tg (inj x) (en s) fun ρ2 => BN X sts ρ2 { κ with nx := fun r => ∃ s', r = en s' ∧ D.Hd (nx s'), ct := fun r => ∃ s', r = en s' ∧ D.Hd (nx s'), bk := fun r => ∃ s', r = en s' ∧ D.Hd (fin' s') }) :
    ∃ I : Nat → List Sl → Prop, I 0 ρ ∧ (∀ m d ρ', (xs.map inj)[m]? = some d → I m ρ' → GN X tg d ρ' fun ρ2 => BN X sts ρ2 { κ with nx := I (m + 1), ct := I (m + 1), bk := κ.nx }) ∧ ∀ ρ', I (xs.map inj).length ρ' → κ.nx ρ' := by
  refine ⟨fun m r => ∃ s, r = en s ∧ D.Hd (forK fin body (xs.drop m) s), ⟨s0, h0, h⟩, ?_, ?_⟩
  · rintro m d ρ' hd ⟨s, rfl, h1⟩
    rw [List.getElem?_map] at hd
    cases hx : xs[m]? with
    | none => rw [hx] at hd; cases hd
    | some x =>
      rw [hx] at hd
      cases hd
      have hm := (List.getElem?_eq_some_iff.mp hx).1
      rw [List.drop_eq_getElem_cons hm, (List.getElem?_eq_some_iff.mp hx).2] at h1
      have t := turn x s fin (forK fin body (xs.drop (m + 1))) h1
      intro G σ F H E v r Q q
      exact t G σ F H E v r Q fun ρ2 σ2 F2 H2 p2 E2 x2 => q ρ2 σ2 F2 H2 (p2.monoK (fun r z => z) (fun _ z => z) (fun r ⟨s', e, z⟩ => e ▸ done s' z) (fun r z => z) (fun _ z => z)) E2 x2
  · rintro ρ' ⟨s, rfl, h1⟩
    rw [List.length_map, List.drop_length] at h1
    exact done s h1
theorem SN.whileK {body : List Stmt} {s0 : σ} {fin : σ → R} {test : σ → (Bool → R) → R} {bd : (σ → R) → σ → (σ → R) → R} {n : Nat} (C : Ctx Pg w K mg base N sc k X) (h : D.Hd (Kt.whileK D.z fin test bd n s0)) (en : σ → List Sl) (h0 : ρ = en s0) (done : ∀ s, D.Hd (fin s) → κ.nx (en s))
    (ht : ∀ s (J : Bool → R), D.Hd (test s J) → TN X c (en s) fun b => D.Hd (J b))
    (turn : ∀ s (fin' nx : σ → R), D.Hd (bd fin' s nx) → BN X body (en s) { κ with nx := fun r => ∃ s', r = en s' ∧ D.Hd (nx s'), ct := fun r => ∃ s', r = en s' ∧ D.Hd (nx s'), bk := fun r => ∃ s', r = en s' ∧ D.Hd (fin' s') }) : SN X (.While c body [] pos) ρ κ := by
  refine SN.while C (fun m r => ∃ s, r = en s ∧ D.Hd (Kt.whileK D.z fin test bd m s)) n ⟨s0, h0, h⟩ ?_
  rintro m ρ' ⟨s, rfl, h1⟩
  cases m with
  | zero => exact absurd h1 D.nz
  | succ m =>
    refine (ht s _ h1).mono fun b hb => ?_
    cases b with
    | true =>
      refine ⟨fun _ => ?_, fun z => Bool.noConfusion z⟩
      refine (turn s fin (Kt.whileK D.z fin test bd m) hb).monoK ?_ (fun _ z => z) ?_ ?_ (fun _ z => z)
      · rintro r ⟨s', e, z⟩; exact ⟨m, Nat.lt_succ_self m, s', e, z⟩
      · rintro r ⟨s', e, z⟩; exact e ▸ done s' z
      · rintro r ⟨s', e, z⟩; exact ⟨m, Nat.lt_succ_self m, s', e, z⟩
    | false => exact ⟨fun z => Bool.noConfusion z, fun _ => done s hb⟩
theorem lcK_in {i : Nat} {scope : Scope} {elt : Expr} {xs : List α} {f : α → (β → R) → R} {kk : List β → R} (h : D.Hd (lcK D.z f xs kk)) (inj : α → PyData) (injb : β → PyData)
    (turn : ∀ x (k' : β → R), D.Hd (f x k') → ∀ Y : Cx, Ctx Pg w K mg base N (relS scope sc) k Y → EN Y elt (ρ.set i (.dat (inj x))) fun d => ∃ y, d = injb y ∧ D.Hd (k' y)) (done : ∀ ys, D.Hd (kk ys) → P (lI injb ys)) :
    LcI Pg w K mg base N sc k ρ i scope [] elt (xs.map inj) P := by
  obtain ⟨hc, h⟩ := chkK_ok h
  refine ⟨by rw [List.length_map]; exact fewL_ok hc, fun m acc => ∃ ys, acc = ys.map injb ∧ D.Hd (lcG f (xs.drop m) fun zs => kk (ys ++ zs)), ⟨[], rfl, h⟩, ?_, ?_⟩
  · rintro m d acc hd ⟨ys, rfl, h1⟩ Y CY
    rw [List.getElem?_map] at hd
    cases hx : xs[m]? with
    | none => rw [hx] at hd; cases hd
    | some x =>
      rw [hx] at hd
      cases hd
      have hm := (List.getElem?_eq_some_iff.mp hx).1
      rw [List.drop_eq_getElem_cons hm, (List.getElem?_eq_some_iff.mp hx).2] at h1
      refine ⟨fun _ Z CZ => ?_, fun z => Bool.noConfusion z⟩
      refine (turn x _ h1 Z CZ).mono ?_
      rintro d ⟨y, rfl, h2⟩
      refine ⟨ys ++ [y], by rw [List.map_append]; rfl, ?_⟩
      have e : (fun zs => kk (ys ++ [y] ++ zs)) = fun zs => kk (ys ++ y :: zs) := by funext zs; rw [List.append_assoc]; rfl
      rw [e]; exact h2
  · rintro acc ⟨ys, rfl, h1⟩
    rw [List.length_map, List.drop_length] at h1
    have h1 : D.Hd (kk (ys ++ [])) := h1
    rw [List.append_nil] at h1
    exact done ys h1
theorem lcFK_in {i : Nat} {scope : Scope} {elt cnd : Expr} {xs : List α} {cf : α → (Bool → R) → R} {f : α → (β → R) → R} {kk : List β → R} (h : D.Hd (lcFK D.z cf f xs kk)) (inj : α → PyData) (injb : β → PyData)
    (test : ∀ x (J : Bool → R), D.Hd (cf x J) → ∀ Y : Cx, Ctx Pg w K mg base N (relS scope sc) k Y → TN Y cnd (ρ.set i (.dat (inj x))) fun b => D.Hd (J b))
    (turn : ∀ x (k' : β → R), D.Hd (f x k') → ∀ Y : Cx, Ctx Pg w K mg base N (relS scope sc) k Y → EN Y elt (ρ.set i (.dat (inj x))) fun d => ∃ y, d = injb y ∧ D.Hd (k' y)) (done : ∀ ys, D.Hd (kk ys) → P (lI injb ys)) :
    LcI Pg w K mg base N sc k ρ i scope [cnd] elt (xs.map inj) P := by
  obtain ⟨hc, h⟩ := chkK_ok h
  refine ⟨by rw [List.length_map]; exact fewL_ok hc, fun m acc => ∃ ys, acc = ys.map injb ∧ D.Hd (lcFG cf f (xs.drop m) fun zs => kk (ys ++ zs)), ⟨[], rfl, h⟩, ?_, ?_⟩
  · rintro m d acc hd ⟨ys, rfl, h1⟩ Y CY
    rw [List.getElem?_map] at hd
    cases hx : xs[m]? with
    | none => rw [hx] at hd; cases hd
    | some x =>
      rw [hx] at hd
      cases hd
      have hm := (List.getElem?_eq_some_iff.mp hx).1
      rw [List.drop_eq_getElem_cons hm, (List.getElem?_eq_some_iff.mp hx).2] at h1
      refine (test x _ h1 Y CY).mono ?_
      intro b hb
      cases b with
      | true =>
        refine ⟨fun _ Z CZ => ?_, fun z => Bool.noConfusion z⟩
        refine (turn x _ hb Z CZ).mono ?_
        rintro d ⟨y, rfl, h2⟩
        refine ⟨ys ++ [y], by rw [List.map_append]; rfl, ?_⟩
        have e : (fun zs => kk (ys ++ [y] ++ zs)) = fun zs => kk (ys ++ y :: zs) := by funext zs; rw [List.append_assoc]; rfl
        rw [e]; exact h2
      | false => exact ⟨fun z => Bool.noConfusion z, fun _ => ⟨ys, rfl, hb⟩⟩
  · rintro acc ⟨ys, rfl, h1⟩
    rw [List.length_map, List.drop_length] at h1
    have h1 : D.Hd (kk (ys ++ [])) := h1
    rw [List.append_nil] at h1
    exact done ys h1
end
/-! enumerate, zip, range with a step -/
def enumD : Nat → List PyData → List PyData
  | _, [] => []
  | n, d :: r => .tuple [.int n, d] :: enumD (n + 1) r
def zipD : List PyData → List PyData → List PyData
  | x :: xs, y :: ys => .tuple [x, y] :: zipD xs ys
  | _, _ => []
theorem enumD_get : ∀ (ds : List PyData) (n i : Nat) (d : PyData), (enumD n ds)[i]? = some d → ∃ x, ds[i]? = some x ∧ d = .tuple [.int (n + i : Nat), x]
  | [], n, i, d, h => by simp [enumD] at h
  | x :: ds, n, 0, d, h => by cases h; exact ⟨x, rfl, rfl⟩
  | x :: ds, n, i + 1, d, h => by
    obtain ⟨y, h1, h2⟩ := enumD_get ds (n + 1) i d h
    exact ⟨y, h1, by rw [h2]; congr 4; omega⟩
theorem enumD_len : ∀ (ds : List PyData) (n : Nat), (enumD n ds).length = ds.length
  | [], _ => rfl
  | _ :: ds, n => by show (enumD (n + 1) ds).length + 1 = _; rw [enumD_len ds]; rfl
theorem zipD_get : ∀ (xs ys : List PyData) (i : Nat) (d : PyData), (zipD xs ys)[i]? = some d → ∃ x y, xs[i]? = some x ∧ ys[i]? = some y ∧ d = .tuple [x, y]
  | [], ys, i, d, h => by simp [zipD] at h
  | _ :: _, [], i, d, h => by simp [zipD] at h
  | x :: xs, y :: ys, 0, d, h => by cases h; exact ⟨x, y, rfl, rfl, rfl⟩
  | x :: xs, y :: ys, i + 1, d, h => zipD_get xs ys i d h
theorem zipD_len : ∀ (xs ys : List PyData), (zipD xs ys).length = min xs.length ys.length
  | [], ys => by simp [zipD]
  | _ :: _, [] => by simp [zipD]
  | x :: xs, y :: ys => by show (zipD xs ys).length + 1 = _; rw [zipD_len xs ys, List.length_cons, List.length_cons]; omega
theorem newPair {S : SR} {F H : Hp} {T : Addr} {x y : V} {d e : PyData} (W : Wk S F H) (h : H T = none) (r1 : Dr K F d x) (r2 : Dr K F e y) : ∃ F', Nw S F H F' (upd H T (.tup [x, y])) ∧ Dr K F' (.tuple [d, e]) (.ref T) := by
  have n := W.new (o := .tup [x, y]) h
  exact ⟨_, n, T, [x, y], rfl, SqT.of upd_same, ⟨x, [y], rfl, Dr.mono n.ff _ r1, y, [], rfl, Dr.mono n.ff _ r2, rfl⟩⟩
theorem IterOk.enum {z : Addr} {xs : List V} {ds : List PyData} {F : Hp} (h : F z = some (.lst xs)) (r : DrA K F ds xs) : IterOk K F (Ite K z) (enumD 0 ds) := by
  refine ⟨fun S F1 H x W i d e => ?_, fun F1 H x y => ?_⟩
  · have hs : SqL K H z xs := SqL.of (W.fh _ _ (x _ _ h))
    obtain ⟨d', e1, rfl⟩ := enumD_get ds 0 i d e
    obtain ⟨v, e2, r2⟩ := r.get e1
    refine ⟨⟨xs, v, hs, e2⟩, ?_⟩
    rintro u H' ⟨T, x', rfl, hT, rfl, hx⟩
    have := hx xs hs
    rw [e2] at this
    cases this
    rw [Nat.zero_add]
    exact newPair W hT (show Dr K F1 (.int i) (.int (i : Nat)) from rfl) (Dr.mono x _ r2)
  · exact ⟨xs, SqL.of (y _ _ (x _ _ h)), by rw [enumD_len, r.length]; exact Nat.le_refl _⟩
theorem IterOk.zip {z1 z2 : Addr} {xs ys : List V} {ds es : List PyData} {F : Hp} (h1 : F z1 = some (.lst xs)) (r1 : DrA K F ds xs) (h2 : F z2 = some (.lst ys)) (r2 : DrA K F es ys) : IterOk K F (Itz K z1 z2) (zipD ds es) := by
  refine ⟨fun S F1 H x W i d e => ?_, fun F1 H x y => ?_⟩
  · have hs1 : SqL K H z1 xs := SqL.of (W.fh _ _ (x _ _ h1))
    have hs2 : SqL K H z2 ys := SqL.of (W.fh _ _ (x _ _ h2))
    obtain ⟨d1, d2, e1, e2, rfl⟩ := zipD_get ds es i d e
    obtain ⟨v1, g1, q1⟩ := r1.get e1
    obtain ⟨v2, g2, q2⟩ := r2.get e2
    refine ⟨⟨xs, ys, v1, v2, hs1, hs2, g1, g2⟩, ?_⟩
    rintro u H' ⟨T, x', y', rfl, hT, rfl, hx, hy⟩
    have a1 := hx xs hs1
    have a2 := hy ys hs2
    rw [g1] at a1
    rw [g2] at a2
    cases a1; cases a2
    exact newPair W hT (Dr.mono x _ q1) (Dr.mono x _ q2)
  · refine ⟨xs, ys, SqL.of (y _ _ (x _ _ h1)), SqL.of (y _ _ (x _ _ h2)), ?_⟩
    rw [zipD_len, r1.length, r2.length]
    omega
theorem IterOk.zipT {z1 z2 : Addr} {xs ys : List V} {ds es : List PyData} {F : Hp} (h1 : SqT K F z1 xs) (r1 : DrA K F ds xs) (h2 : SqT K F z2 ys) (r2 : DrA K F es ys) : IterOk K F (ItzT K z1 z2) (zipD ds es) := by
  refine ⟨fun S F1 H x W i d e => ?_, fun F1 H x y => ?_⟩
  · have hs1 : SqT K H z1 xs := Evl.ex_t (x.trans W.fh) h1
    have hs2 : SqT K H z2 ys := Evl.ex_t (x.trans W.fh) h2
    obtain ⟨d1, d2, e1, e2, rfl⟩ := zipD_get ds es i d e
    obtain ⟨v1, g1, q1⟩ := r1.get e1
    obtain ⟨v2, g2, q2⟩ := r2.get e2
    refine ⟨⟨xs, ys, v1, v2, hs1, hs2, g1, g2⟩, ?_⟩
    rintro u H' ⟨T, x', y', rfl, hT, rfl, hx, hy⟩
    have a1 := hx xs hs1
    have a2 := hy ys hs2
    rw [g1] at a1
    rw [g2] at a2
    cases a1; cases a2
    exact newPair W hT (Dr.mono x _ q1) (Dr.mono x _ q2)
  · refine ⟨xs, ys, Evl.ex_t (x.trans y) h1, Evl.ex_t (x.trans y) h2, ?_⟩
    rw [zipD_len, r1.length, r2.length]
    omega
theorem IN.enum {elts : List Expr} {kk : Nat} {tpos p : Pos} {P : List PyData → Prop} (C : Ctx Pg w K mg base N sc k X) (hg : Gi sc "enumerate") (hm : mg "enumerate" = none) (hs : starEach [e] X.env = [(false, eval e X.env)]) (he : starEach [e] X.env = (false, eval e X.env) :: starEach [] X.env)
    (h : EN X e ρ fun d => ∃ ds, d = .list ds ∧ P (enumD 0 ds)) : IN X (.Tuple elts kk tpos) (.Call (.Name "enumerate" p) [e] [] pos) ρ P := fun G σ F H E R q => by
  have ck := C.kk
  subst ck
  refine ⟨_, pi_enum (by unfold Gl Env.kindOf; rw [C.scope]; exact hg) (by rw [C.mg]; exact hm) (pa_cons pe_w pa_nil he) hs, h G σ F H E _ ?_⟩
  rintro d v F' H' ⟨ds, rfl, p⟩ n r
  obtain ⟨z, xs, rfl, g1, g2⟩ := r
  exact ⟨z, xs, rfl, SqL.of (n.fh _ _ g1), q _ _ F' H' p n (IterOk.enum g1 g2)⟩
/-- both lists, or both tuples -/
def ZipD (x y : PyData) (P : List PyData → Prop) : Prop := match x, y with
  | .list ds, .list es => P (zipD ds es)
  | .tuple ds, .tuple es => P (zipD ds es)
  | _, _ => False
theorem IN.zip {elts : List Expr} {kk : Nat} {tpos p : Pos} {P : List PyData → Prop} (C : Ctx Pg w K mg base N sc k X) (hg : Gi sc "zip") (hm : mg "zip" = none) (hs : starEach [a, b] X.env = (false, eval a X.env) :: starEach [b] X.env) (he2 : starEach [b] X.env = (false, eval b X.env) :: starEach [] X.env) (hpl : (backTo pos (starEach [b] X.env)).any (·.1) = false)
    (h : EN X a ρ fun x => EN X b ρ fun y => ZipD x y P) : IN X (.Tuple elts kk tpos) (.Call (.Name "zip" p) [a, b] [] pos) ρ P := fun G σ F H E R q => by
  have ck := C.kk
  subst ck
  refine ⟨_, pi_zipA (by unfold Gl Env.kindOf; rw [C.scope]; exact hg) (by rw [C.mg]; exact hm) (pa_cons pe_w (pa_cons pe_w pa_nil he2) hs) hs hpl, ?_⟩
  refine two (R := fun v u H2 => ∃ a b xs ys, [v, u] = [V.ref a, V.ref b] ∧ ((SqL X.K H2 a xs ∧ SqL X.K H2 b ys ∧ R (Itz X.K a b) H2) ∨ (SqT X.K H2 a xs ∧ SqT X.K H2 b ys ∧ R (ItzT X.K a b) H2))) h E ?_
  intro x y v u F' H' p n r1 r2
  unfold ZipD at p
  split at p
  · obtain ⟨z1, xs, rfl, g1, q1⟩ := r1
    obtain ⟨z2, ys, rfl, g2, q2⟩ := r2
    exact ⟨z1, z2, xs, ys, rfl, Or.inl ⟨SqL.of (n.fh _ _ g1), SqL.of (n.fh _ _ g2), q _ _ F' H' p n (IterOk.zip g1 q1 g2 q2)⟩⟩
  · obtain ⟨z1, xs, rfl, g1, q1⟩ := r1
    obtain ⟨z2, ys, rfl, g2, q2⟩ := r2
    exact ⟨z1, z2, xs, ys, rfl, Or.inr ⟨Evl.ex_t n.fh g1, Evl.ex_t n.fh g2, q _ _ F' H' p n (IterOk.zipT g1 q1 g2 q2)⟩⟩
  · exact p.elim
noncomputable def enumF {α : Type} (xs : List α) : Int → List (Int × α) := List.rec (motive := fun _ => Int → List (Int × α)) (fun _ => []) (fun x _ ih i => (i, x) :: ih (addI i 1)) xs
theorem enumF_D {α : Type} {inj : α → PyData} : ∀ (xs : List α) (n : Nat), enumD n (xs.map inj) = (enumF xs n).map (pI PyData.int inj)
  | [], _ => rfl
  | x :: xs, n => by
    show PyData.tuple [.int n, inj x] :: enumD (n + 1) (xs.map inj) = PyData.tuple [.int n, inj x] :: (enumF xs (addI n 1)).map (pI PyData.int inj)
    rw [addI_eq, enumF_D xs (n + 1)]
    rfl
noncomputable def zipF {α β : Type} (xs : List α) : List β → List (α × β) := List.rec (motive := fun _ => List β → List (α × β)) (fun _ => []) (fun x _ ih ys => List.rec (motive := fun _ => List (α × β)) [] (fun y ys _ => (x, y) :: ih ys) ys) xs
theorem zipF_D {α β : Type} {inj : α → PyData} {injb : β → PyData} : ∀ (xs : List α) (ys : List β), zipD (xs.map inj) (ys.map injb) = (zipF xs ys).map (pI inj injb)
  | [], ys => by cases ys <;> rfl
  | x :: xs, [] => rfl
  | x :: xs, y :: ys => by
    show PyData.tuple [inj x, injb y] :: zipD (xs.map inj) (ys.map injb) = PyData.tuple [inj x, injb y] :: (zipF xs ys).map (pI inj injb)
    rw [zipF_D xs ys]
section
variable {α β : Type} {inj : α → PyData} {injb : β → PyData} {xs : List α} {ys : List β} {Q : List PyData → Prop}
theorem enum_x {zs : List (Int × α)} (e : enumF xs 0 = zs) (h : Q (zs.map (pI PyData.int inj))) : ∃ ds, lI inj xs = .list ds ∧ Q (enumD 0 ds) := ⟨_, rfl, by rw [enumF_D xs 0]; subst e; exact h⟩
theorem zip_ll {zs : List (α × β)} (e : zipF xs ys = zs) (h : Q (zs.map (pI inj injb))) : ZipD (lI inj xs) (lI injb ys) Q := by
  show Q (zipD (xs.map inj) (ys.map injb))
  rw [zipF_D, e]; exact h
theorem zip_vv {zs : List (α × β)} (e : zipF xs ys = zs) (h : Q (zs.map (pI inj injb))) : ZipD (vI inj xs) (vI injb ys) Q := by
  show Q (zipD (xs.map inj) (ys.map injb))
  rw [zipF_D, e]; exact h
end
end
end Kt

/-! Comprehensions over pairs. -/
namespace Kt
open PySem L2 PyProof.Rows
open Evl (Ex)
section
variable {Pg : Program} {w : World} {K : PySem.W.Frag} {mg : Str → Option Value} {base : Heap} {N : List Str} {sc : Scope} {k j : Nat} {X : Cx} {ρ : List Sl} {P : PyData → Prop} {a b c e : Expr} {pos : Pos} {κ : Kn} {st : Stmt} {rest : List Stmt}
/-- what is asked of a comprehension: I holds of what is made so far -/
def LcP (Pg : Program) (w : World) (K : PySem.W.Frag) (mg : Str → Option Value) (base : Heap) (N : List Str) (sc : Scope) (k : Nat) (ρ : List Sl) (i i2 : Nat) (scope : Scope) (ifs : List Expr) (elt : Expr) (ds : List PyData) (P : PyData → Prop) : Prop :=
  ds.length ≤ 100000 ∧ (∀ (m : Nat) (d : PyData), ds[m]? = some d → ∃ d1 d2, d = PyData.tuple [d1, d2]) ∧ ∃ I : Nat → List PyData → Prop, I 0 [] ∧ (∀ m d1 d2 acc, ds[m]? = some (.tuple [d1, d2]) → I m acc → ∀ Y : Cx, Ctx Pg w K mg base N (relS scope sc) k Y →
        CN Y ifs ((ρ.set i (.dat d1)).set i2 (.dat d2)) fun b => (b = true → ∀ Y : Cx, Ctx Pg w K mg base N (relS scope sc) k Y → EN Y elt ((ρ.set i (.dat d1)).set i2 (.dat d2)) fun y => I (m + 1) (acc ++ [y])) ∧ (b = false → I (m + 1) acc)) ∧ ∀ acc, I ds.length acc → P (.list acc)
theorem lc_readP {elt tg iter : Expr} {ifs : List Expr} {scope : Scope} {i i2 : Nat} (hne : i ≠ i2) (C : Ctx Pg w K mg base N sc k X)
    (h : IN X tg iter ρ fun ds => LcP Pg w K mg base N sc k ρ i i2 scope ifs elt ds P) (G : Gh) (σ : L2.St) (F H : Hp) (E : ES X.K G σ F H ρ) (Q : VK) (q : ∀ ds v F' H', P (.list ds) → Nw G.S F H F' H' → NewL X.K H F' H' ds v → Q v H') :
    tLc (wI X tg iter) (gTup X.K 2 (gCons (gName i) (gCons (gName i2) gNil))) (bT X scope ifs) (bE X scope elt) [i, i2] σ H Q := by
  have c1 := C.prog; have c2 := C.wd; have c3 := C.kk; have c4 := C.mg; have c5 := C.base; have c6 := C.nn; have c7 := C.scope
  subst c1 c2 c3 c4 c5 c6 c7
  refine h G σ F H E _ ?_
  rintro ds J F1 H1 ⟨hl, hpair, I, i0, turn, done⟩ n1 J1 D hD
  have E1 := E.mono n1
  have nD : ¬ inS G.S D := fun z => by
    obtain ⟨o, e⟩ := srcOk_some E1.nw.src z
    rw [hD] at e; cases e
  have nO := E1.wk.newO (o := .lst []) hD
  refine ⟨fun m r H' => r = ds.length - m ∧ m ≤ ds.length ∧ ∃ F' acc xs, Nw G.S F1 H1 F' H' ∧ F' D = none ∧ H' D = some (.lst xs) ∧ DrA X.K F' acc xs ∧ I m acc ∧ acc.length ≤ m, ⟨_, rfl, Nat.zero_le _, F1, [], [], nO, Evl.fresh_back E1.wk.fh hD, upd_same, rfl, i0, Nat.le_refl _⟩, ?_⟩
  rintro m r H' ⟨rfl, hm, F', acc, xs, n2, hF, hH, ra, hI, hal⟩
  by_cases hlt : m < ds.length
  · have hd : ds[m]? = some ds[m] := List.getElem?_eq_getElem hlt
    have jg := J1.go G.S F' H' n2.ff n2.wk m _ hd
    refine Or.inr ⟨jg.1, fun H' => ∃ F' acc xs, Nw G.S F1 H1 F' H' ∧ F' D = none ∧ H' D = some (.lst xs) ∧ DrA X.K F' acc xs ∧ I (m + 1) acc ∧ acc.length ≤ m + 1, ?_, ?_⟩
    · rintro H3 ⟨F3, acc3, xs3, z⟩
      exact ⟨ds.length - (m + 1), by omega, rfl, hlt, F3, acc3, xs3, z⟩
    · intro v H2 hy
      obtain ⟨F2, n3, r3⟩ := jg.2 v H2 hy
      have n4 := n2.trans n3
      obtain ⟨d1, d2, hdd⟩ := hpair m _ hd
      rw [hdd] at hd r3
      obtain ⟨T, zs, rfl, hT, v1, zr, rfl, q1, v2, zr2, rfl, q2, hz⟩ := r3
      obtain rfl : zr2 = [] := hz
      have E4 := ((E1.mono n4).set (i := i) q1).set (i := i2) q2
      have hσ : ((wipe σ [i, i2]).set i (some v1)).set i2 (some v2) = (σ.set i (some v1)).set i2 (some v2) := by
        show (((σ.set i2 none).set i none).set i (some v1)).set i2 (some v2) = _
        rw [List.set_set, List.set_comm _ _ (fun z => hne z.symm), List.set_set]
      refine ⟨T, [v1, v2], rfl, Evl.ex_t n3.fh hT, rfl, v1, [v2], rfl, v2, [], rfl, rfl, ?_⟩
      show wipe (((wipe σ [i, i2]).set i (some v1)).set i2 (some v2)) [i, i2] = wipe σ [i, i2] ∧ _
      refine ⟨?_, ?_⟩
      · rw [hσ]
        show (((σ.set i (some v1)).set i2 (some v2)).set i2 none).set i none = (σ.set i2 none).set i none
        rw [List.set_set, List.set_comm _ _ hne, List.set_set]
      · show bT X scope ifs (((wipe σ [i, i2]).set i (some v1)).set i2 (some v2)) H2 _
        rw [hσ]
        rintro Y hY
        have hK : Y.K = X.K := (hY.ctx C).kk
        have t1 := turn m d1 d2 acc hd hI Y (hY.ctx C)
        refine t1.go (G := G) (F := F2) (by rw [hK]; exact E4) ?_
        intro b F5 H5 p5 n5
        cases b with
        | false =>
          refine iteF ⟨F5, acc, xs, n4.trans n5, ?_, ?_, DrA.mono (n3.ff.trans n5.ff) _ ra, p5.2 rfl, by omega⟩
          · rw [n5.old D _ (n3.hh D _ nD hH), n3.old D _ hH]; exact hF
          · exact n5.hh D _ nD (n3.hh D _ nD hH)
        | true =>
          refine iteT ?_
          rintro Z hZ
          have hK2 : Z.K = X.K := (hZ.ctx C).kk
          refine p5.1 rfl Z (hZ.ctx C) G _ F5 H5 (by rw [hK2]; exact E4.mono n5) _ ?_
          intro y u F6 H6 p6 n6 r6
          have n56 := n5.trans n6
          have h6 : H6 D = some (.lst xs) := n56.hh D _ nD (n3.hh D _ nD hH)
          have f6 : F6 D = none := by rw [n56.old D _ (n3.hh D _ nD hH), n3.old D _ hH]; exact hF
          have n7 := n4.trans n56
          refine ⟨xs, h6, by rw [ra.length]; exact Nat.lt_of_lt_of_le (show acc.length < 16777216 by omega) (by decide), F6, acc ++ [y], xs ++ [u], ⟨n7.ff, fun b o z => ?_, fun b o nb z => ?_, n7.old, n7.src.ex fun b o ib z => ?_, n7.sf⟩, f6, upd_same, (DrA.mono (n3.ff.trans n56.ff) _ ra).append ⟨u, [], rfl, by rw [← hK2]; exact r6, rfl⟩, p6, by rw [List.length_append, List.length_singleton]; omega⟩
          · rw [upd_ne (ne_of_none z f6)]; exact n7.fh b o z
          · rw [upd_ne (ne_of_none z hD)]; exact n7.hh b o nb z
          · rw [upd_ne (fun z' : b = D => nD (by rw [← z']; exact ib))]; exact z
  · obtain rfl : m = ds.length := by omega
    refine Or.inl ⟨J1.stop F' H' n2.ff n2.fh, ?_⟩
    have hD0 : H D = none := by
      cases z : H D with
      | none => rfl
      | some o => rw [n1.hh D o nD z] at hD; cases hD
    exact q acc (.ref D) F' H' (done acc hI) (n1.trans n2) ⟨D, xs, rfl, hD0, hF, hH, ra⟩

theorem bP_ok {scope : Scope} {Y : Cx} {x y : Str} {tp tp2 tp3 : Pos} {kk : Nat} {i i2 : Nat} (C : Ctx Pg w K mg base N sc k X) (hN : N[i]? = some x) (hx : (relS scope sc).names.lookup x = some .local) (hN2 : N[i2]? = some y) (hy : (relS scope sc).names.lookup y = some .local)
    (h1 : ∀ Y : Cx, (assignEach [.Name x tp, .Name y tp2] Y.env).length = 2) (h2 : ∀ Y : Cx, (assignEach [.Name x tp, .Name y tp2] Y.env).findIdx? (·.1) = none)
    (h3 : ∀ Y : Cx, (assignEach [.Name x tp, .Name y tp2] Y.env).map (·.2) = assign (.Name x tp) Y.env :: (assignEach [.Name y tp2] Y.env).map (·.2)) (h4 : ∀ Y : Cx, (assignEach [.Name y tp2] Y.env).map (·.2) = assign (.Name y tp2) Y.env :: (assignEach [] Y.env).map (·.2))
    (h : isBlk X scope Y) : PG Y (.Tuple [.Name x tp, .Name y tp2] kk tp3) (gTup X.K 2 (gCons (gName i) (gCons (gName i2) gNil))) := by
  have C' := h.ctx C
  have hK : Y.K = X.K := C'.kk.trans C.kk.symm
  rw [← hK]
  refine pg_tup C'.calm (pgs_cons ?_ (pgs_cons ?_ pgs_nil (h4 Y)) (h3 Y)) (h1 Y) (h2 Y)
  · exact pg_name (i := i) (by rw [C'.nn]; exact C.nd) (by rw [C'.nn]; exact hN) (by rw [C'.scope]; exact Or.inl hx) (by rw [C'.scope]; exact Or.inr hx)
  · exact pg_name (i := i2) (by rw [C'.nn]; exact C.nd) (by rw [C'.nn]; exact hN2) (by rw [C'.scope]; exact Or.inl hy) (by rw [C'.scope]; exact Or.inr hy)
theorem EN.lcP {elt iter : Expr} {ifs : List Expr} {scope : Scope} {x y : Str} {tp tp2 tp3 : Pos} {kk : Nat} {i i2 : Nat} (C : Ctx Pg w K mg base N sc k X) (ok : blkC N sc scope [(x, i), (y, i2)] = true) (hN : N[i]? = some x) (hx : (relS scope sc).names.lookup x = some .local) (hN2 : N[i2]? = some y) (hy : (relS scope sc).names.lookup y = some .local) (hne : i ≠ i2)
    (hs : ∀ x, foldedSetIterable iter X.env x = pure x) (h1 : ∀ Y : Cx, (assignEach [.Name x tp, .Name y tp2] Y.env).length = 2) (h2 : ∀ Y : Cx, (assignEach [.Name x tp, .Name y tp2] Y.env).findIdx? (·.1) = none)
    (h3 : ∀ Y : Cx, (assignEach [.Name x tp, .Name y tp2] Y.env).map (·.2) = assign (.Name x tp) Y.env :: (assignEach [.Name y tp2] Y.env).map (·.2)) (h4 : ∀ Y : Cx, (assignEach [.Name y tp2] Y.env).map (·.2) = assign (.Name y tp2) Y.env :: (assignEach [] Y.env).map (·.2))
    (h : IN X (.Tuple [.Name x tp, .Name y tp2] kk tp3) iter ρ fun ds => LcP Pg w K mg base N sc k ρ i i2 scope ifs elt ds P) : EN X (.ListComp elt [⟨.Tuple [.Name x tp, .Name y tp2] kk tp3, iter, ifs, 0⟩] scope pos) ρ P :=
  EN.by (pe_lc (own := [(x, i), (y, i2)]) C.calm (by rw [C.nn]; exact C.nd) pi_w (blkOk_by (by rw [C.nn, C.scope]; exact ok)) (fun s H Cl cl fp => bP_ok C hN hx hN2 hy h1 h2 h3 h4 ⟨s, H, Cl, cl, fp, rfl⟩) (fun s H Cl cl fp => bT_ok ⟨s, H, Cl, cl, fp, rfl⟩) (fun s H Cl cl fp => bE_ok ⟨s, H, Cl, cl, fp, rfl⟩) hs)
    fun G σ F H E Q q => lc_readP hne C h G σ F H E Q fun ds v F' H' p n r => by
      obtain ⟨F2, n2, r2⟩ := NewL.freeze E.wk n r
      exact q _ v F2 H' p n2 r2
section
variable {R : Type} {D : Dm R} {α β γ : Type} {inj : α → PyData} {inj2 : γ → PyData} {injb : β → PyData}
theorem lcP_in {i i2 : Nat} {scope : Scope} {elt : Expr} {xs : List (α × γ)} {f : α × γ → (β → R) → R} {kk : List β → R} (h : D.Hd (lcK D.z f xs kk)) (inj : α → PyData) (inj2 : γ → PyData) (injb : β → PyData)
    (turn : ∀ x (k' : β → R), D.Hd (f x k') → ∀ Y : Cx, Ctx Pg w K mg base N (relS scope sc) k Y → EN Y elt ((ρ.set i (.dat (inj x.1))).set i2 (.dat (inj2 x.2))) fun d => ∃ y, d = injb y ∧ D.Hd (k' y)) (done : ∀ ys, D.Hd (kk ys) → P (lI injb ys)) :
    LcP Pg w K mg base N sc k ρ i i2 scope [] elt (xs.map (pI inj inj2)) P := by
  obtain ⟨hc, h⟩ := chkK_ok h
  refine ⟨by rw [List.length_map]; exact fewL_ok hc, ?_, fun m acc => ∃ ys, acc = ys.map injb ∧ D.Hd (lcG f (xs.drop m) fun zs => kk (ys ++ zs)), ⟨[], rfl, h⟩, ?_, ?_⟩
  · intro m d hd
    rw [List.getElem?_map] at hd
    cases hx : xs[m]? with
    | none => rw [hx] at hd; cases hd
    | some x => rw [hx] at hd; cases hd; exact ⟨_, _, rfl⟩
  · rintro m d1 d2 acc hd ⟨ys, rfl, h1⟩ Y CY
    rw [List.getElem?_map] at hd
    cases hx : xs[m]? with
    | none => rw [hx] at hd; cases hd
    | some x =>
      rw [hx] at hd
      cases hd
      have hm := (List.getElem?_eq_some_iff.mp hx).1
      rw [List.drop_eq_getElem_cons hm, (List.getElem?_eq_some_iff.mp hx).2] at h1
      refine ⟨fun _ Z CZ => ?_, fun z => Bool.noConfusion z⟩
      refine (turn x _ h1 Z CZ).mono ?_
      rintro d ⟨y, rfl, h2⟩
      refine ⟨ys ++ [y], by rw [List.map_append]; rfl, ?_⟩
      have e : (fun zs => kk (ys ++ [y] ++ zs)) = fun zs => kk (ys ++ y :: zs) := by funext zs; rw [List.append_assoc]; rfl
      rw [e]; exact h2
  · rintro acc ⟨ys, rfl, h1⟩
    rw [List.length_map, List.drop_length] at h1
    have h1 : D.Hd (kk (ys ++ [])) := h1
    rw [List.append_nil] at h1
    exact done ys h1
theorem lcFP_in {i i2 : Nat} {scope : Scope} {elt cnd : Expr} {xs : List (α × γ)} {cf : α × γ → (Bool → R) → R} {f : α × γ → (β → R) → R} {kk : List β → R} (h : D.Hd (lcFK D.z cf f xs kk)) (inj : α → PyData) (inj2 : γ → PyData) (injb : β → PyData)
    (test : ∀ x (J : Bool → R), D.Hd (cf x J) → ∀ Y : Cx, Ctx Pg w K mg base N (relS scope sc) k Y → TN Y cnd ((ρ.set i (.dat (inj x.1))).set i2 (.dat (inj2 x.2))) fun b => D.Hd (J b))
    (turn : ∀ x (k' : β → R), D.Hd (f x k') → ∀ Y : Cx, Ctx Pg w K mg base N (relS scope sc) k Y → EN Y elt ((ρ.set i (.dat (inj x.1))).set i2 (.dat (inj2 x.2))) fun d => ∃ y, d = injb y ∧ D.Hd (k' y)) (done : ∀ ys, D.Hd (kk ys) → P (lI injb ys)) :
    LcP Pg w K mg base N sc k ρ i i2 scope [cnd] elt (xs.map (pI inj inj2)) P := by
  obtain ⟨hc, h⟩ := chkK_ok h
  refine ⟨by rw [List.length_map]; exact fewL_ok hc, ?_, fun m acc => ∃ ys, acc = ys.map injb ∧ D.Hd (lcFG cf f (xs.drop m) fun zs => kk (ys ++ zs)), ⟨[], rfl, h⟩, ?_, ?_⟩
  · intro m d hd
    rw [List.getElem?_map] at hd
    cases hx : xs[m]? with
    | none => rw [hx] at hd; cases hd
    | some x => rw [hx] at hd; cases hd; exact ⟨_, _, rfl⟩
  · rintro m d1 d2 acc hd ⟨ys, rfl, h1⟩ Y CY
    rw [List.getElem?_map] at hd
    cases hx : xs[m]? with
    | none => rw [hx] at hd; cases hd
    | some x =>
      rw [hx] at hd
      cases hd
      have hm := (List.getElem?_eq_some_iff.mp hx).1
      rw [List.drop_eq_getElem_cons hm, (List.getElem?_eq_some_iff.mp hx).2] at h1
      refine (test x _ h1 Y CY).mono ?_
      intro b hb
      cases b with
      | true =>
        refine ⟨fun _ Z CZ => ?_, fun z => Bool.noConfusion z⟩
        refine (turn x _ hb Z CZ).mono ?_
        rintro d ⟨y, rfl, h2⟩
        refine ⟨ys ++ [y], by rw [List.map_append]; rfl, ?_⟩
        have e : (fun zs => kk (ys ++ [y] ++ zs)) = fun zs => kk (ys ++ y :: zs) := by funext zs; rw [List.append_assoc]; rfl
        rw [e]; exact h2
      | false => exact ⟨fun z => Bool.noConfusion z, fun _ => ⟨ys, rfl, hb⟩⟩
  · rintro acc ⟨ys, rfl, h1⟩
    rw [List.length_map, List.drop_length] at h1
    have h1 : D.Hd (kk (ys ++ [])) := h1
    rw [List.append_nil] at h1
    exact done ys h1
end
end
end Kt

/-! Several names at once, some of them lists of their own; small steps of lifted programs. -/
namespace Kt
open PySem L2 PyProof.Rows
open Evl (Ex)
def setV : L2.St → List Nat → List V → L2.St
  | σ, i :: is, v :: vs => setV (σ.set i (some v)) is vs
  | σ, _, _ => σ
def setS : List Sl → List Nat → List Sl → List Sl
  | ρ, i :: is, s :: ss => setS (ρ.set i s) is ss
  | ρ, _, _ => ρ
/-- these values may be stored in slots, as these things -/
def StO (K : PySem.W.Frag) (G : Gh) (F H F' H' : Hp) (its : List Sl) (vs : List V) : Prop := vs.length = its.length ∧ ∀ σ0 ρ0, ES K G σ0 F H ρ0 → ∀ is : List Nat, is.length = its.length → ES K G (setV σ0 is vs) F' H' (setS ρ0 is its)
def XA (X : Cx) (es : List Expr) (ρ : List Sl) (P : List Sl → Prop) : Prop := ∀ (G : Gh) σ F H, ES X.K G σ F H ρ → ∀ Q : List V → Hp → Prop, (∀ its vs F' H', P its → Nw G.S F H F' H' → StO X.K G F H F' H' its vs → Q vs H') → wA X es σ H Q
section
variable {Pg : Program} {w : World} {K : PySem.W.Frag} {mg : Str → Option Value} {base : Heap} {N : List Str} {sc : Scope} {k j : Nat} {X : Cx} {ρ : List Sl} {P : List Sl → Prop} {a b c e : Expr} {es : List Expr} {pos : Pos} {κ : Kn} {st : Stmt} {rest : List Stmt}
theorem XA.nil (h : P []) : XA X [] ρ P := fun G σ F H E Q q => ⟨_, pa_nil, q [] [] F H h E.wk.nw ⟨rfl, fun σ0 ρ0 E0 is hl => by
  obtain rfl : is = [] := List.length_eq_zero_iff.mp hl
  exact E0⟩⟩
theorem XA.dat (hs : starEach (e :: es) X.env = (false, eval e X.env) :: starEach es X.env) (h : EN X e ρ fun d => XA X es ρ fun its => P (.dat d :: its)) : XA X (e :: es) ρ P := fun G σ F H E Q q =>
  ⟨_, pa_cons pe_w pa_w hs, h G σ F H E _ fun d v F1 H1 p n r => p G σ F1 H1 (E.mono n) _ fun its vs F2 H2 p2 n2 ⟨l2, s2⟩ => q (.dat d :: its) (v :: vs) F2 H2 p2 (n.trans n2) ⟨by rw [List.length_cons, List.length_cons, l2], fun σ0 ρ0 E0 is hl => by
    cases is with
    | nil => cases hl
    | cons i is => exact s2 _ _ ((E0.mono n).set (i := i) r) is (by simpa using hl)⟩⟩
theorem XA.own (hs : starEach (e :: es) X.env = (false, eval e X.env) :: starEach es X.env) (h : NN X e ρ fun ds => XA X es ρ fun its => P (.own ds :: its)) : XA X (e :: es) ρ P := fun G σ F H E Q q =>
  ⟨_, pa_cons pe_w pa_w hs, h G σ F H E _ fun ds v F1 H1 p n r => p G σ F1 H1 (E.mono n) _ fun its vs F2 H2 p2 n2 ⟨l2, s2⟩ => q (.own ds :: its) (v :: vs) F2 H2 p2 (n.trans n2) ⟨by rw [List.length_cons, List.length_cons, l2], fun σ0 ρ0 E0 is hl => by
    cases is with
    | nil => cases hl
    | cons i is => exact s2 _ _ (E0.setNew (i := i) n r) is (by simpa using hl)⟩⟩
theorem NN.lst {Q : List PyData → Prop} (h : LN X es ρ fun ds => ds.length ≤ sizeLine ∧ Q ds) : NN X (.List es pos) ρ Q := fun G σ F H E R q =>
  ⟨_, pe_lst pa_w, h G σ F H E _ fun ds vs F' H' ⟨hl, p⟩ n r => ⟨by rw [r.length]; exact hl, fun z hz => q ds _ F' _ p (n.trans (n.wk.newO hz)) ⟨z, vs, rfl, none_back E.wk n hz, Evl.fresh_back n.fh hz, upd_same, r⟩⟩⟩
/-- a, b = .. -/
theorem SN.par2 {i j : Nat} {x y : Str} {px py pt pt2 : Pos} {kt k2} (C : Ctx Pg w K mg base N sc k X) (hi : N[i]? = some x) (hj : N[j]? = some y) (hij : i ≠ j) (hx : sc.names.lookup x = some .local) (hy : sc.names.lookup y = some .local)
    (hw : ∀ en : Env, en.scope = sc → swappedStores [.Tuple [.Name x px, .Name y py] kt pt] (.Tuple [a, b] k2 pt2) en = pure (some [x, y])) (hs : swapsWithSole [.Tuple [.Name x px, .Name y py] kt pt] (.Tuple [a, b] k2 pt2) pos.line X.env = pure false)
    (h : XA X [a, b] ρ fun its => its.length = 2 ∧ κ.nx (setS ρ [i, j] its)) : SN X (.Assign [.Tuple [.Name x px, .Name y py] kt pt] (.Tuple [a, b] k2 pt2) pos) ρ κ :=
  SN.by (ps_par (i := i) (j := j) C.calm (by rw [C.nn]; exact C.nd) (by rw [C.nn]; exact hi) (by rw [C.nn]; exact hj) hij (by rw [C.scope]; exact hx) (by rw [C.scope]; exact hy) pa_w (hw _ C.scope) hs)
    fun G σ F H E D A => h G σ F H E _ fun its vs F' H' ⟨hl, p⟩ n ⟨l2, s2⟩ => by
      match vs, l2.trans hl with
      | [v, u], _ => exact ⟨v, u, rfl, A.nx _ _ _ _ p (s2 σ ρ E [i, j] hl.symm)⟩
theorem SN.par3 {i j l : Nat} {x y z : Str} {px py pz pt pt2 : Pos} {kt k2} (C : Ctx Pg w K mg base N sc k X) (hi : N[i]? = some x) (hj : N[j]? = some y) (hl : N[l]? = some z) (hij : i ≠ j) (hil : i ≠ l) (hjl : j ≠ l) (hx : sc.names.lookup x = some .local) (hy : sc.names.lookup y = some .local) (hz : sc.names.lookup z = some .local)
    (hw : ∀ en : Env, en.scope = sc → swappedStores [.Tuple [.Name x px, .Name y py, .Name z pz] kt pt] (.Tuple [a, b, c] k2 pt2) en = pure (some [x, y, z])) (hs : swapsWithSole [.Tuple [.Name x px, .Name y py, .Name z pz] kt pt] (.Tuple [a, b, c] k2 pt2) pos.line X.env = pure false)
    (h : XA X [a, b, c] ρ fun its => its.length = 3 ∧ κ.nx (setS ρ [i, j, l] its)) : SN X (.Assign [.Tuple [.Name x px, .Name y py, .Name z pz] kt pt] (.Tuple [a, b, c] k2 pt2) pos) ρ κ :=
  SN.by (ps_par3 (i := i) (j := j) (l := l) C.calm (by rw [C.nn]; exact C.nd) (by rw [C.nn]; exact hi) (by rw [C.nn]; exact hj) (by rw [C.nn]; exact hl) hij hil hjl (by rw [C.scope]; exact hx) (by rw [C.scope]; exact hy) (by rw [C.scope]; exact hz) pa_w (hw _ C.scope) hs)
    fun G σ F H E D A => h G σ F H E _ fun its vs F' H' ⟨hl, p⟩ n ⟨l2, s2⟩ => by
      match vs, l2.trans hl with
      | [v, u, t], _ => exact ⟨v, u, t, rfl, A.nx _ _ _ _ p (s2 σ ρ E [i, j, l] hl.symm)⟩
/-- names in a row as a target -/
inductive NmT (N : List Str) (sc : Scope) : List Expr → List Nat → Prop
  | nil : NmT N sc [] []
  | cons {x : Str} {p : Pos} {i : Nat} {es : List Expr} {is : List Nat} (hN : N[i]? = some x) (hx : L2.Loc sc x) (hs : ∀ X : Cx, (assignEach (.Name x p :: es) X.env).map (·.2) = assign (.Name x p) X.env :: (assignEach es X.env).map (·.2)) (h : NmT N sc es is) : NmT N sc (.Name x p :: es) (i :: is)
def gNames : List Nat → TGs
  | [] => gNil
  | i :: is => gCons (gName i) (gNames is)
theorem gNames_go : ∀ (is : List Nat) (vs : List V) (σ : L2.St) (H : Hp) (Q : L2.St → Hp → Prop), vs.length = is.length → Q (setV σ is vs) H → gNames is vs σ H Q
  | [], [], σ, H, Q, _, q => ⟨rfl, q⟩
  | [], _ :: _, _, _, _, h, _ => by cases h
  | _ :: _, [], _, _, _, h, _ => by cases h
  | i :: is, v :: vs, σ, H, Q, h, q => ⟨v, vs, rfl, gNames_go is vs _ H Q (by simpa using h) q⟩
theorem NmT.pgs (C : Ctx Pg w K mg base N sc k X) (Fx : ∀ x, X.fn x = true) {ts : List Expr} {is : List Nat} (h : NmT N sc ts is) : PGs X ts (gNames is) := by
  induction h with
  | nil => exact pgs_nil
  | cons hN hx hs _ ih => exact pgs_cons (pg_name (by rw [C.nn]; exact C.nd) (by rw [C.nn]; exact hN) (by unfold L2.Loc; rw [C.scope]; exact hx) (.inl (Fx _))) ih (hs X)
theorem SN.asgX {ts es : List Expr} {is : List Nat} {n : Nat} {kt k2} {pt pt2 : Pos} (C : Ctx Pg w K mg base N sc k X) (Fx : ∀ x, X.fn x = true) (ht : NmT N sc ts is) (hn : is.length = n) (hl : n ≤ 1000) (ha : (assignEach ts X.env).length = n) (hst : (assignEach ts X.env).findIdx? (·.1) = none)
    (hs : swapsWithSole [.Tuple ts kt pt] (.Tuple es k2 pt2) pos.line X.env = pure false) (hw : ∀ en : Env, en.scope = sc → swappedStores [.Tuple ts kt pt] (.Tuple es k2 pt2) en = pure none) (h1 : (assignEach [.Tuple ts kt pt] X.env).map (·.2) = [assign (.Tuple ts kt pt) X.env])
    (h : XA X es ρ fun its => its.length = n ∧ κ.nx (setS ρ is its)) : SN X (.Assign [.Tuple ts kt pt] (.Tuple es k2 pt2) pos) ρ κ :=
  SN.by (ps_asg (pe_tup pa_w) (pg_tup C.calm (ht.pgs C Fx) ha hst) hs (hw _ C.scope) h1) fun G σ F H E D A => h G σ F H E _ fun its vs F' H' ⟨hl2, p⟩ nw ⟨l2, s2⟩ => by
    have hv : vs.length = n := l2.trans hl2
    refine ⟨by rw [hv]; exact Nat.le_trans hl (by decide), fun z hz => ?_⟩
    refine ⟨z, vs, rfl, SqT.of upd_same, hv, gNames_go is vs σ _ _ (by rw [hv, hn]) ?_⟩
    exact A.nx _ _ _ _ p ((s2 σ ρ E is (by rw [hn, hl2])).mono (nw.wk.newO hz))
/-! small steps -/
theorem tb_t {P : Bool → Prop} {b : Bool} (e : b = true) (h : P true) : Tb P b := by subst e; exact h
theorem tb_f {P : Bool → Prop} {b : Bool} (e : b = false) (h : P false) : Tb P b := by subst e; exact h
theorem tb_b {P : Bool → Prop} {b : Bool} (h : P b) : Tb P b := h
theorem not_xx {P : Bool → Prop} {b : Bool} (h : P (notB b)) : P (!b) := by rw [← notB_eq]; exact h
noncomputable def optK {R α : Type} (o : Option α) (A : R) (B : α → R) : R := Option.rec A B o
section
variable {R : Type} {D : Dm R} {α : Type}
theorem optK_n {A : R} {B : α → R} (h : D.Hd (optK none A B)) : D.Hd A := h
theorem optK_s {A : R} {B : α → R} {x : α} (h : D.Hd (optK (some x) A B)) : D.Hd (B x) := h
theorem dead {α : Prop} (h : D.Hd D.z) : α := absurd h D.nz
/-- texts of the same thing are the same -/
theorem NeS_same {x : PyData} {P : Bool → Prop} (h : P false) : NeT2 (.str x.shown) (.str x.shown) P := ⟨_, _, rfl, rfl, by rw [decide_eq_true rfl]; exact h⟩
end
theorem toP {p : Prop} (h : p) : dmP.Hd p := h
theorem toO {α : Type} {x : Option α} {r : α} (h : x = some r) : (dmO r).Hd x := h
def pickP (m : Int) (k : Int → Prop) : Prop := m < 2 ^ 200 ∧ (∀ r, 0 ≤ r → (r < m ∨ r = 0) → k r)
end
end Kt

/-! Small steps of lifted programs. -/
namespace Kt
open PySem L2 PyProof.Rows
open Evl (Ex)
theorem iop_fdivX {X : Cx} : OpR X (inplaceOp .FloorDiv) (rI CDivX fun i j => .int (i.fdiv j)) := opI fun i j _ _ _ _ _ hc q => ifloordiv_int hc.1 q (.inl (PyProof.noPylong_of_log2 hc.2))
theorem iop_mulW {X : Cx} : OpR X (inplaceOp .Mult) (rI CMulW fun i j => .int (i * j)) := opI fun _ _ _ _ _ _ _ hc q => imul_int q hc.ok
theorem iop_subX {X : Cx} : OpR X (inplaceOp .Sub) (rI (fun _ _ => True) fun i j => .int (i - j)) := opI fun _ _ _ _ _ _ _ _ q => isub_int q
theorem iop_addX {X : Cx} : OpR X (inplaceOp .Add) (rI (fun _ _ => True) fun i j => .int (i + j)) := opI fun _ _ _ _ _ _ _ _ q => iadd_int q
section
variable {Pg : Program} {w : World} {K : PySem.W.Frag} {mg : Str → Option Value} {base : Heap} {N : List Str} {sc : Scope} {k j : Nat} {X : Cx} {ρ ρ' : List Sl} {P : PyData → Prop} {a b c e : Expr} {pos : Pos} {κ κ' : Kn} {st : Stmt} {rest : List Stmt}
theorem SN.augI {op : Operator} {Cc : Int → Int → Prop} {g : Int → Int → Int} (ho : OpR X (inplaceOp op) (rI Cc fun i j => .int (g i j))) {i : Nat} {x : Str} {p2 : Pos} {m : Int} (C : Ctx Pg w K mg base N sc k X) (Fx : ∀ x, X.fn x = true) (hN : N[i]? = some x) (hx : L2.Loc sc x) (hi : ρ[i]? = some (.dat (.int m))) (h : EN X e ρ fun d => ∃ n, d = .int n ∧ Cc m n ∧ κ.nx (ρ.set i (.dat (.int (g m n))))) : SN X (.AugAssign (.Name x p2) op e pos) ρ κ :=
  SN.by (ps_aug (i := i) (by rw [C.nn]; exact C.nd) (by rw [C.nn]; exact hN) (by unfold L2.Loc; rw [C.scope]; exact hx) pe_w (show PIp X op _ from fun pins s σ H x y v u Q I r1 r2 h => ho pins s σ H x y v u Q I r1 r2 h) (.inl (Fx x))) fun G σ F H E D A => by
    obtain ⟨v, h1, h2⟩ := E.dat hi
    obtain rfl : v = .int m := h2
    refine ⟨_, h1, h G σ F H E _ ?_⟩
    rintro d v F' H' ⟨n, rfl, hc, p⟩ nw r
    obtain rfl : v = .int n := r
    exact ⟨m, n, rfl, rfl, hc, A.nx _ _ _ _ p ((E.mono nw).set rfl)⟩
theorem aug_add {m n y : Int} (e : addI m n = y) : m + n = y := by rw [addI_eq] at e; exact e
theorem aug_sub {m n y : Int} (e : subI m n = y) : m - n = y := by rw [subI_eq] at e; exact e
theorem aug_mul {m n y : Int} (e : mulI m n = y) : m * n = y := by rw [mulI_eq] at e; exact e
theorem aug_div {m n y : Int} (e : fdivI m n = y) : m.fdiv n = y := by rw [fdivI_eq] at e; exact e
theorem neg_r {i x : Int} (e : negI i = x) : -i = x := by rw [negI_eq] at e; exact e
theorem abs_r {i x : Int} (e : absI i = x) : (if i < 0 then -i else i) = x := by rw [absI_eq] at e; exact e
theorem max_r {i j x : Int} (e : maxI i j = x) : (if j > i then j else i) = x := by rw [maxI_eq] at e; exact e
theorem sum_r {ns : List Int} {s : Int} (e : sumI ns = s) : ns.sum = s := by rw [sumI_eq] at e; exact e
theorem all_r {bs : List Bool} {b : Bool} (e : allB bs = b) : bs.all id = b := by rw [allB_eq] at e; exact e
theorem any_r {bs : List Bool} {b : Bool} (e : anyB bs = b) : bs.any id = b := by rw [anyB_eq] at e; exact e
theorem sort_r {ns ms xs : List Int} (e : sortI ns = xs) (hp : ms.Perm ns) (ho : ms.Pairwise (· ≤ ·)) : ms = xs := sorted_uniq (hp.trans (e ▸ sortI_perm ns).symm) ho (e ▸ sortI_sorted ns)
theorem notv_r {b c : Bool} (e : notB b = c) : (!b) = c := by rw [notB_eq] at e; exact e
theorem len_r {α : Type} {inj : α → PyData} {xs : List α} {n : Int} (e : lenI xs = n) : ((xs.map inj).length : Int) = n := by rw [lenI_eq] at e; rw [List.length_map, e]
theorem LenD.lx {α : Type} {inj : α → PyData} {xs : List α} {n : Int} (e : lenI xs = n) (h : P (.int n)) : LenD (lI inj xs) P := by show P (.int ((xs.map inj).length : Nat)); rw [len_r e]; exact h
theorem LenD.vx {α : Type} {inj : α → PyData} {xs : List α} {n : Int} (e : lenI xs = n) (h : P (.int n)) : LenD (vI inj xs) P := by show P (.int ((xs.map inj).length : Nat)); rw [len_r e]; exact h
theorem rng1_r {n : Int} {xs : List Int} (e : rng2F 0 n = xs) : rngD 0 n = xs.map PyData.int := by rw [rng2F_D, e]
theorem rng2_r {a b : Int} {xs : List Int} (e : rng2F a b = xs) : rngD a b = xs.map PyData.int := by rw [rng2F_D, e]
theorem enum_r {α : Type} {inj : α → PyData} {xs : List α} {zs : List (Int × α)} (e : enumF xs 0 = zs) : enumD 0 (xs.map inj) = zs.map (pI PyData.int inj) := by rw [enumF_D xs 0, ← e]; rfl
theorem app_c {α : Type} {inj : α → PyData} {xs : List α} (c : fewL xs = true) : (xs.map inj).length < sizeLine := (by
  rw [List.length_map]
  have := fewL_ok c
  exact Nat.lt_of_lt_of_le (show xs.length < 16777216 by omega) (by decide))
theorem app_r {α : Type} {inj : α → PyData} {xs ys : List α} {x : α} (e : xs ++ [x] = ys) : xs.map inj ++ [inj x] = ys.map inj := by subst e; rw [List.map_append]; rfl
theorem mulW_c {m n : Int} (c : Lt2 8000 m ∧ Lt2 8000 n) : CMulW m n := (by
  rcases mul_w c.1 c.2 (by decide) (by decide) with h | h
  · exact wide_mul c.1 c.2 (by decide) (by decide) (by decide)
  · exact h)
theorem divX_c {m n : Int} (c : n ≠ 0 ∧ Lt2 8000 n) : CDivX m n := ⟨c.1, Nat.lt_trans (c.2.log (by decide)) (by decide)⟩
theorem tr_x {i : Int} {Q : Bool → Prop} (h : Q (notB (eqI i 0))) : Tb Q (i != 0) := by
  rw [notB_eq, eqI_eq] at h
  have e : (i != 0) = !decide (i = 0) := rfl
  exact (show Tb Q (!decide (i = 0)) from h)
noncomputable def gcdF (a b : Int) : Int := .ofNat (Nat.gcd (toNatI (absI a)) (toNatI (absI b)))
theorem gcdF_eq (a b : Int) : gcdF a b = gcI a b := by
  have h : ∀ a : Int, toNatI (absI a) = a.natAbs := fun a => by rw [toNatI_eq, absI_eq]; split <;> omega
  unfold gcdF gcI
  rw [h, h]; rfl
theorem gcd_r {a b x : Int} (e : gcdF a b = x) : gcI a b = x := by rw [gcdF_eq] at e; exact e
theorem EqT.s {x : PyData} {Q : Bool → Prop} (hx : SeqAt.shaped x = true) (e : PyData.eqv x x = true) (q : Q true) : EqT x x Q := ⟨hx, hx, by rw [e]; exact q⟩
theorem NeT.s {x : PyData} {Q : Bool → Prop} (hx : SeqAt.shaped x = true) (e : PyData.eqv x x = true) (q : Q false) : NeT x x Q := ⟨hx, hx, by rw [e]; exact q⟩
theorem rp_bool (b : Bool) : Rp (.bool b) := ⟨rfl, rfl, Nat.zero_le _, by cases b <;> decide +kernel⟩
theorem eqB_to {a b : Bool} (h : eqB a b = true) : a = b := by cases a <;> cases b <;> first | rfl | cases h
theorem reprSame {x y : PyData} {Q : Bool → Prop} (e : x = y) (h : Q false) : NeT2 (.str x.shown) (.str y.shown) Q := by subst e; exact NeS_same h
theorem bcase (b : Bool) : b = true ∨ b = false := by cases b <;> simp
theorem GN.wk {tg : Expr} {d : PyData} {Q : List Sl → Prop} (w : Wk2 ρ' ρ) (h : GN X tg d ρ' Q) : GN X tg d ρ Q := fun G σ F H E v r R q => h G σ F H (E.weak w.len w.at) v r R q
/-! parts -/
noncomputable def takeF {α : Type} (xs : List α) : Nat → List α := List.rec (motive := fun _ => Nat → List α) (fun _ => []) (fun x _ ih n => Nat.rec (motive := fun _ => List α) [] (fun n _ => x :: ih n) n) xs
noncomputable def dropF {α : Type} (xs : List α) : Nat → List α := List.rec (motive := fun _ => Nat → List α) (fun _ => []) (fun x xs ih n => Nat.rec (motive := fun _ => List α) (x :: xs) (fun n _ => ih n) n) xs
theorem takeF_eq {α : Type} : ∀ (xs : List α) (n : Nat), takeF xs n = xs.take n
  | [], n => by rw [List.take_nil]; rfl
  | x :: xs, 0 => rfl
  | x :: xs, n + 1 => by show x :: takeF xs n = _; rw [takeF_eq xs n]; rfl
theorem dropF_eq {α : Type} : ∀ (xs : List α) (n : Nat), dropF xs n = xs.drop n
  | [], n => by rw [List.drop_nil]; rfl
  | x :: xs, 0 => rfl
  | x :: xs, n + 1 => by show dropF xs n = _; rw [dropF_eq xs n]; rfl
noncomputable def sIxF (n d : Nat) (o : Option Int) : Nat := Option.rec (motive := fun _ => Nat) d (fun v => bK (ltI v 0) (toNatI (addI v (.ofNat n))) (bK (Nat.ble (toNatI v) n) (toNatI v) n)) o
theorem sIxF_eq (n d : Nat) (o : Option Int) : sIxF n d o = HT.sIx n d o := by
  cases o with
  | none => rfl
  | some v =>
    show bK (ltI v 0) (toNatI (addI v (.ofNat n))) (bK (Nat.ble (toNatI v) n) (toNatI v) n) = if v < 0 then (v + (n : Int)).toNat else min v.toNat n
    rw [bK_eq, ltI_eq, toNatI_eq, addI_eq, toNatI_eq, bK_eq]
    by_cases h : v < 0
    · rw [if_pos (decide_eq_true h), if_pos h]; rfl
    · rw [if_neg (by rw [decide_eq_false h]; decide), if_neg h]
      by_cases g : v.toNat ≤ n
      · rw [if_pos (Nat.ble_eq.mpr g), Nat.min_eq_left g]
      · rw [if_neg (fun z => g (Nat.ble_eq.mp z)), Nat.min_eq_right (by omega)]
noncomputable def cutF {α : Type} (xs : List α) (lo hi : Option Int) : List α := takeF (dropF xs (sIxF (lenN xs) 0 lo)) (Nat.sub (sIxF (lenN xs) (lenN xs) hi) (sIxF (lenN xs) 0 lo))
theorem cutF_eq {α : Type} (xs : List α) (lo hi : Option Int) : cutF xs lo hi = (xs.drop (HT.sIx xs.length 0 lo)).take (HT.sIx xs.length xs.length hi - HT.sIx xs.length 0 lo) := by
  unfold cutF
  rw [takeF_eq, dropF_eq, sIxF_eq, sIxF_eq, lenN_eq]; rfl
theorem cutF_D {α : Type} {inj : α → PyData} (xs : List α) (lo hi : Option Int) : cutD (xs.map inj) lo hi = (cutF xs lo hi).map inj := by
  unfold cutD
  rw [cutF_eq, List.length_map, List.map_take, List.map_drop]
theorem cutA_l {α : Type} {inj : α → PyData} {xs ys : List α} {lo hi : Option Int} (e : cutF xs lo hi = ys) (h : P (lI inj ys)) : CutA (lI inj xs) lo hi P := by
  show P (.list (cutD (xs.map inj) lo hi))
  rw [cutF_D, e]; exact h
theorem cutA_v {α : Type} {inj : α → PyData} {xs ys : List α} {lo hi : Option Int} (e : cutF xs lo hi = ys) (h : P (vI inj ys)) : CutA (vI inj xs) lo hi P := by
  show P (.tuple (cutD (xs.map inj) lo hi))
  rw [cutF_D, e]; exact h
/-- {a: b, ..}[e], ints -/
theorem tPairs_con : ∀ (kvs : List (Int × Int)) (σ : L2.St) (H : Hp) (Q : List (V × V) → Hp → Prop), Q (kvs.map fun kv => (V.int kv.1, V.int kv.2)) H → tPairs (kvs.map fun kv => (tC (.int kv.1), tC (.int kv.2))) σ H Q
  | [], _, _, _, q => q
  | (a, b) :: r, σ, H, Q, q => tPairs_con r σ H _ q
noncomputable def dixF (kvs : List (Int × Int)) (x : Int) : Option Int := match valV (mergeK [] (kvs.map fun kv => ((Sum.inl kv.1 : Key), V.int kv.2))) (Sum.inl x) with
  | some (.int v) => some v
  | _ => none
theorem EN.dix {keys : List (Option Expr)} {values : List Expr} {trs : List (TE × TE)} {kvs : List (Int × Int)} {i : Expr} {pos2 : Pos} (C : Ctx Pg w K mg base N sc k X) (hp : PPs X pos keys values trs) (ht : trs = kvs.map fun kv => (tC (.int kv.1), tC (.int kv.2))) (hall : keys.all (·.isSome) = true) (hl : keys.length = values.length) (h0 : keys ≠ []) (h15 : keys.length ≤ 15) (hk : kvs.length ≤ 15) (hs : NoSl i)
    (h : EN X i ρ fun d => ∃ x v, d = .int x ∧ dixF kvs x = some v ∧ P (.int v)) : EN X (.Subscript (.Dict keys values pos) i pos2) ρ P :=
  EN.by (pe_dget (hu_of C.room) (pe_disp hp hall hl h0 h15) pe_w hs) fun G σ F H E Q q => by
    subst ht
    intro p hp0
    refine tPairs_con kvs σ _ _ ⟨upd_same, kvs.map (fun kv => ((Sum.inl kv.1 : Key), V.int kv.2)), by rw [List.map_map]; rfl, by rw [List.length_map]; exact hk, ?_⟩
    rw [upd_upd2]
    have n1 := E.wk.newO (o := .dK (mergeK [] (kvs.map fun kv => ((Sum.inl kv.1 : Key), V.int kv.2)))) hp0
    have np : ¬ inS G.S p := fun z => by
      obtain ⟨o, e⟩ := srcOk_some E.wk.src z
      rw [hp0] at e; cases e
    refine h G σ F _ (E.mono n1) _ ?_
    rintro d u F2 H2 ⟨x, v, rfl, e1, pv⟩ n2 r
    obtain rfl : u = V.int x := r
    have g : H2 p = some (.dK (mergeK [] (kvs.map fun kv => ((Sum.inl kv.1 : Key), V.int kv.2)))) := n2.hh p _ np upd_same
    refine ⟨p, .int v, rfl, ?_, q _ _ F2 H2 pv (n1.trans n2) rfl⟩
    have := DGet.k (k := (Sum.inl x : Key)) g
    have e2 : valV (mergeK [] (kvs.map fun kv => ((Sum.inl kv.1 : Key), V.int kv.2))) (Sum.inl x) = some (.int v) := by
      unfold dixF at e1
      split at e1
      · rename_i v' hv; cases e1; exact hv
      · cases e1
    rw [e2] at this
    exact this
def rIsB (f : Bool → Bool → Bool) : R2 := fun x y H Q => ∃ a b, x = .bl a ∧ y = .bl b ∧ Q (.bl (f a b)) H
theorem op_isB : OpR X (compareOp .Is) (rIsB fun a b => a == b) := by
  intro pins s σ H x y v u Q I rx ry h
  obtain ⟨a, b, rfl, rfl, q⟩ := h
  cases rx; cases ry
  exact is_bool (fin_bl I q rfl)
theorem op_isnotB : OpR X (compareOp .IsNot) (rIsB fun a b => a != b) := by
  intro pins s σ H x y v u Q I rx ry h
  obtain ⟨a, b, rfl, rfl, q⟩ := h
  cases rx; cases ry
  exact isnot_bool (fin_bl I q rfl)
theorem eqB_beq (a b : Bool) : eqB a b = (a == b) := by cases a <;> cases b <;> rfl
theorem TN.isB {v : Bool} {t p2} {Q : Bool → Prop} (h : EN X a ρ fun x => ∃ b, x = .bool b ∧ Q (eqB b v)) : TN X (.Compare a [.Is] [.Constant (.bool v) t p2] pos) ρ Q :=
  TN.cmp op_isB (nomark _) (h.mono fun x ⟨b, e, q⟩ => EN.bl (by
    subst e
    rw [eqB_beq] at q
    exact fun S F H W v' u g1 g2 R r => ⟨b, _, g1, g2, r (.bool _) _ F H ⟨_, rfl, q⟩ W.nw rfl⟩))
theorem TN.isnotB {v : Bool} {t p2} {Q : Bool → Prop} (h : EN X a ρ fun x => ∃ b, x = .bool b ∧ Q (notB (eqB b v))) : TN X (.Compare a [.IsNot] [.Constant (.bool v) t p2] pos) ρ Q :=
  TN.cmp op_isnotB (nomark _) (h.mono fun x ⟨b, e, q⟩ => EN.bl (by
    subst e
    rw [notB_eq, eqB_beq] at q
    exact fun S F H W v' u g1 g2 R r => ⟨b, _, g1, g2, r (.bool _) _ F H ⟨_, rfl, q⟩ W.nw rfl⟩))
noncomputable def idxF {α : Type} (eq : α → α → Bool) (x : α) (xs : List α) : Option Int := List.rec (motive := fun _ => Int → Option Int) (fun _ => none) (fun y _ ih i => bK (eq y x) (some i) (ih (addI i 1))) xs 0
theorem idxG {α : Type} {eq : α → α → Bool} {x : α} : ∀ (xs : List α) (i j : Int), (List.rec (motive := fun _ => Int → Option Int) (fun _ => none) (fun y _ ih i => bK (eq y x) (some i) (ih (addI i 1))) xs i : Option Int) = some j → ∃ (m : Nat) (z : α), j = i + m ∧ xs[m]? = some z ∧ eq z x = true ∧ ∀ (m' : Nat) (z' : α), m' < m → xs[m']? = some z' → eq z' x = false
  | [], i, j, h => by cases h
  | y :: ys, i, j, h => by
    have h : bK (eq y x) (some i) (List.rec (motive := fun _ => Int → Option Int) (fun _ => none) (fun y _ ih i => bK (eq y x) (some i) (ih (addI i 1))) ys (addI i 1)) = some j := h
    cases e : eq y x with
    | true =>
      rw [e] at h
      cases h
      exact ⟨0, y, by simp, rfl, e, fun m' z' hm => absurd hm (Nat.not_lt_zero m')⟩
    | false =>
      rw [e] at h
      obtain ⟨m, z, h1, h2, h3, h4⟩ := idxG ys (addI i 1) j h
      refine ⟨m + 1, z, by rw [h1, addI_eq]; omega, h2, h3, fun m' z' hm hz => ?_⟩
      cases m' with
      | zero => cases hz; exact e
      | succ m' => exact h4 m' z' (by omega) hz
theorem idx_ok {α : Type} {inj : α → PyData} {eq : α → α → Bool} {n : Nat} {x : α} {xs : List α} {j : Int} (h : Ev inj eq n) (hn : n + 1 ≤ 64) (e : idxF eq x xs = some j) : ∃ (m : Nat) (z : PyData), SeqAt.shaped (.list (xs.map inj)) = true ∧ SeqAt.shaped (inj x) = true ∧ (xs.map inj)[m]? = some z ∧ PyData.eqv z (inj x) = true ∧ (∀ (m' : Nat) (z' : PyData), m' < m → (xs.map inj)[m']? = some z' → PyData.eqv z' (inj x) = false) ∧ ((m : Nat) : Int) = j := by
  obtain ⟨m, z, h1, h2, h3, h4⟩ := idxG xs 0 j e
  refine ⟨m, inj z, h.list.shaped hn xs, h.shaped (by omega) x, by rw [List.getElem?_map, h2]; rfl, by rw [h.ev]; exact h3, fun m' z' hm hz => ?_, by rw [h1, Int.zero_add]⟩
  rw [List.getElem?_map] at hz
  cases hq : xs[m']? with
  | none => rw [hq] at hz; cases hz
  | some y => rw [hq] at hz; cases hz; rw [h.ev]; exact h4 m' y hm hq
end
end Kt
namespace Kt
open PySem L2 PyProof.Rows
theorem FnG.or {P : Program} {w : World} {K : PySem.W.Frag} {mg : Str → Option Value} {base : Heap} {k : Nat} {f : Addr} {fd : FuncData} {ps : List Str} {W1 W2 : Wp} (h1 : FnG P w K mg base k f fd ps (spOf K W1)) (h2 : FnG P w K mg base k f fd ps (spOf K W2)) : FnG P w K mg base k f fd ps (spOf K fun as Q => W1 as Q ∨ W2 as Q) := by
  refine ⟨?_, ?_⟩
  · rintro vs H Q E ⟨S, F, as, P', a, b, c | c, d⟩
    · exact h1.len vs H Q E ⟨S, F, as, P', a, b, c, d⟩
    · exact h2.len vs H Q E ⟨S, F, as, P', a, b, c, d⟩
  · rintro A ol s H ar us vs Q E g r e bt vl ⟨S, F, as, P', a, b, c | c, d⟩
    · exact h1.go A ol s H ar us vs Q E g r e bt vl ⟨S, F, as, P', a, b, c, d⟩
    · exact h2.go A ol s H ar us vs Q E g r e bt vl ⟨S, F, as, P', a, b, c, d⟩
end Kt

local macro_rules | `(tactic| walk_at "vis") => `(tactic| first | exact Or.inl rfl | exact Or.inr rfl | exact Or.inr (Or.inl rfl) | exact Or.inr (Or.inr rfl))
local macro_rules | `(tactic| walk_at "go") => `(tactic| first | refine Kt.yes ?_ | refine Kt.noo ?_)
local macro_rules | `(tactic| walk_at "mulok") => `(tactic| first | exact Kt.mul_l (by omega) (by omega) | exact Kt.mul_r (by omega) (by omega) | exact Kt.mul_w (by assumption) (by assumption) (by decide) (by decide))
local macro_rules | `(tactic| walk_at "nn") => `(tactic| first | omega | exact Int.ediv_nonneg (by omega) (by omega))
namespace Kt
open PySem L2 PyProof.Rows
def topS (i : Nat) : Stmt := PySem.Challenge.pw_loopworth_k46_whole_middles_far_off.main.body.getD i (.Pass ⟨0, 0, 0, 0⟩)
abbrev dI (i : Int) : Sl := .dat (.int i)
noncomputable def f_law_draw_field  (kk : Int → Prop) : Prop := (pickP 10 fun x1 => (callK False (atF ([2, 3, 5, 7, 2, 3, 11, 13, 0, 5] : List Int) x1) fun x2 => (kk x2)))
noncomputable def f_law_draw_worth_P_I (a_p : Int) (kk : Int → Prop) : Prop := (bK (ltI 0 a_p) (pickP a_p fun x1 => (kk x1)) False)
noncomputable def f_law_number_P_II (a_p : Int) (a_n : Int) : Option Int := (bK (ltI 0 a_p) (modK none a_n a_p fun x1 => (some x1)) none)
noncomputable def f_law_times_P_III (a_p : Int) (a_x : Int) (a_y : Int) : Option Int := (bK (ltI 0 a_p) (mulK none a_x a_y fun x1 => (modK none x1 a_p fun x2 => (some x2))) none)
noncomputable def f_law_plus_P_III (a_p : Int) (a_x : Int) (a_y : Int) : Option Int := (bK (ltI 0 a_p) (letK (addI a_x a_y) fun x1 => (modK none x1 a_p fun x2 => (some x2))) none)
noncomputable def f_law_minus_P_III (a_p : Int) (a_x : Int) (a_y : Int) : Option Int := (letK (subI 0 1) fun x1 => (callK none (f_law_number_P_II a_p x1) fun x2 => (callK none (f_law_times_P_III a_p x2 a_y) fun x3 => (callK none (f_law_plus_P_III a_p a_x x3) fun x4 => (some x4)))))
noncomputable def f_law_worth_row_P_III (a_p : Int) (a_d : Int) (a_m : Int) : Option (List Int) := (callK none (f_law_number_P_II a_p 1) fun x1 => (whileK none (fun (s17 : ((List Int))) => (letK (addI a_m 1) fun x18 => (letK (cutF s17 none (some x18)) fun x19 => (some x19)))) (fun (s2 : ((List Int))) J5 => (letK (lenI s2) fun x6 => (letK (addI a_m 1) fun x7 => (J5 (ltI x6 x7))))) (fun fin3 (s2 : ((List Int))) nx4 => (letK (lenI s2) fun x8 => (letK (subI x8 1) fun x9 => (callK none (atF s2 x9) fun x10 => (callK none (f_law_times_P_III a_p a_d x10) fun x11 => (letK (lenI s2) fun x12 => (letK (subI x12 2) fun x13 => (callK none (atF s2 x13) fun x14 => (callK none (f_law_minus_P_III a_p x11 x14) fun x15 => (chkK none (fewL s2) (letK (s2 ++ [x15]) fun x16 => (nx4 (x16))))))))))))) 1000000 (([x1, a_d] : List Int))))
noncomputable def f_law_length_P_II (a_p : Int) (a_d : Int) : Option (Option Int) := (bK (ltI 0 a_p) (letK (addI a_p 2) fun x1 => (callK none (f_law_worth_row_P_III a_p a_d x1) fun x2 => (letK (lenI x2) fun x3 => (letK (addI x3 1) fun x4 => (rng2K none 2 x4 fun x5 => (lcFK none (fun (x7 : Int) J16 => (letK (subI x7 1) fun x17 => (callK none (atF x2 x17) fun x18 => (callK none (f_law_number_P_II a_p 0) fun x19 => (J16 (eqI x18 x19)))))) (fun (x7 : Int) (k8 : Int → _) => (k8 x7)) x5 fun ys9 => (joinK (fun (x13 : (Option Int)) => (optK x13 (some none) fun x14 => (some (some x14)))) fun J10 => (bK (notB ((eqL eqI) ys9 ([] : List Int))) (callK none (atF ys9 0) fun x12 => (J10 (some x12))) (J10 none))))))))) none)
noncomputable def f_law_draw_far_P_IN (a_p : Int) (a_l : Unit) (kk : Int → Prop) : Prop := (pickP 4 fun x1 => (callK False (dixF [(0, 40), (2, 80), (3, 50), (5, 36), (7, 30), (11, 25), (13, 24)] a_p) fun x5 => (pickP x5 fun x6 => (rng1K False x6 fun x7 => (forK (fun (s16 : (Int)) => (letK (maxI 2 a_p) fun x17 => (letK (subI x17 1) fun x18 => (pickP x18 fun x19 => (letK (addI 1 x19) fun x20 => (mulK False s16 x20 fun x21 => (letK (subI x21 1) fun x22 => (joinK (fun (s24 : (Int)) => (joinK (fun (x49 : Int) => (letK (maxI 1 x49) fun x50 => (kk x50))) fun J42 => (bK (ltI x1 3) (J42 s24) (pickP 1000000000000 fun x46 => (pickP 1000000000000 fun x47 => (mulK False x46 x47 fun x48 => (J42 x48))))))) fun J23 => (bK (eqI x1 1) (pickP 9 fun x25 => (letK (addI 1 x25) fun x26 => (pickP 14 fun x30 => (rng1K False x30 fun x31 => (forK (fun (s40 : (Int)) => (letK (addI x22 s40) fun x41 => (J23 (x41)))) (fun fin28 (x32 : Int) (s27 : (Int)) nx29 => (joinK (fun (x38 : Int) => (mulK False s27 x38 fun x39 => (nx29 (x39)))) fun J33 => (joinK (fun (b37 : Bool) => (bK b37 (J33 a_p) (J33 3))) fun J36 => (bK (ltI 0 a_p) (J36 (ltI 0 x32)) (J36 false))))) x31 (x26)))))) (J23 (x22))))))))))) (fun fin3 (x8 : Int) (s2 : (Int)) nx4 => (joinK (fun (x14 : Int) => (mulK False s2 x14 fun x15 => (nx4 (x15)))) fun J9 => (joinK (fun (b13 : Bool) => (bK b13 (J9 a_p) (J9 3))) fun J12 => (bK (ltI 0 a_p) (J12 (ltI 0 x8)) (J12 false))))) x7 (1))))))
noncomputable def f_law_digits_P_INI (a_p : Int) (a_l : Unit) (a_whole : Int) : Option (List Int) := (some ([a_whole] : List Int))
noncomputable def f_law_digits_P_III (a_p : Int) (a_l : Int) (a_whole : Int) : Option (List Int) := (modK none a_whole a_l fun x1 => (divK none a_whole a_l fun x2 => (whileK none (fun (s10 : ((List Int) × Int)) => (some (s10).1)) (fun (s3 : ((List Int) × Int)) J6 => (J6 (ltI 0 (s3).2))) (fun fin4 (s3 : ((List Int) × Int)) nx5 => (bK (ltI 0 a_p) (modK none (s3).2 a_p fun x7 => (chkK none (fewL (s3).1) (letK ((s3).1 ++ [x7]) fun x8 => (bK (ltI 0 a_p) (divK none (s3).2 a_p fun x9 => (nx5 (x8, x9))) none)))) none)) 1000000 (([x1] : List Int), x2))))
noncomputable def f_law_has_middle_P_III (a_p : Int) (a_d : Int) (a_n : Int) : Option Bool := (callK none (f_law_length_P_II a_p a_d) fun x1 => (optK x1 (letK (addI a_n 1) fun x3 => (callK none (f_law_digits_P_INI a_p () x3) fun x4 => (lcFK none (fun (x6 : Int) J11 => (J11 (notB (eqI x6 0)))) (fun (x6 : Int) (k7 : Int → _) => (k7 x6)) x4 fun ys8 => (letK (lenI ys8) fun x9 => (some (eqI x9 1)))))) fun x2 => (letK (addI a_n 1) fun x12 => (callK none (f_law_digits_P_III a_p x2 x12) fun x13 => (lcFK none (fun (x15 : Int) J20 => (J20 (notB (eqI x15 0)))) (fun (x15 : Int) (k16 : Int → _) => (k16 x15)) x13 fun ys17 => (letK (lenI ys17) fun x18 => (some (eqI x18 1))))))))
noncomputable def f_number_P_II (a_p : Int) (a_n : Int) : Option Int := (bK (eqI a_p 0) none (modK none a_n a_p fun x1 => (some x1)))
noncomputable def f_times_P_III (a_p : Int) (a_x : Int) (a_y : Int) : Option Int := (bK (eqI a_p 0) none (mulK none a_x a_y fun x1 => (modK none x1 a_p fun x2 => (some x2))))
noncomputable def f_minus_P_III (a_p : Int) (a_x : Int) (a_y : Int) : Option Int := (bK (eqI a_p 0) none (letK (subI a_x a_y) fun x1 => (modK none x1 a_p fun x2 => (some x2))))
noncomputable def f_worth_row_P_III (a_p : Int) (a_d : Int) (a_m : Int) : Option (List Int) := (callK none (f_number_P_II a_p 1) fun x1 => (whileK none (fun (s14 : ((List Int))) => (letK (addI a_m 1) fun x15 => (letK (cutF s14 none (some x15)) fun x16 => (some x16)))) (fun (s2 : ((List Int))) J5 => (letK (lenI s2) fun x6 => (J5 (leI x6 a_m)))) (fun fin3 (s2 : ((List Int))) nx4 => (letK (negI 1) fun x7 => (callK none (atF s2 x7) fun x8 => (callK none (f_times_P_III a_p a_d x8) fun x9 => (letK (negI 2) fun x10 => (callK none (atF s2 x10) fun x11 => (callK none (f_minus_P_III a_p x9 x11) fun x12 => (chkK none (fewL s2) (letK (s2 ++ [x12]) fun x13 => (nx4 (x13))))))))))) 1000000 (([x1, a_d] : List Int))))
noncomputable def f_length_P_II (a_p : Int) (a_d : Int) : Option (Option Int) := (bK (notB (eqI a_p 0)) (letK (addI a_p 1) fun x1 => (letK (subI x1 1) fun x2 => (callK none (f_worth_row_P_III a_p a_d x2) fun x3 => (callK none (f_number_P_II a_p 0) fun x4 => (joinK (fun (x10 : (Option Int)) => (optK x10 (some none) fun x11 => (some (some x11)))) fun J5 => (bK (anyE eqI x4 x3) (callK none (idxF eqI x4 x3) fun x8 => (letK (addI x8 1) fun x9 => (J5 (some x9)))) (J5 none))))))) none)
noncomputable def f_digits_P_INI (a_p : Int) (a_l : Unit) (a_N : Int) : Option (Int) := (some a_N)
noncomputable def f_parts_P_INvI (a_p : Int) (a_l : Unit) (a_told : (List Int)) : Option (List Int) := (forK (fun (s28 : ((List Int) × (Option Int))) => (some (s28).1)) (fun fin15 (x17 : Int) (s14 : ((List Int) × (Option Int))) nx16 => (optK (s14).2 none fun x18 => (mulK none x17 x18 fun x19 => (chkK none (fewL (s14).1) (letK ((s14).1 ++ [x19]) fun x20 => (joinK (fun (x26 : (Option Int)) => (optK x26 (nx16 (x20, none)) fun x27 => (nx16 (x20, (some x27))))) fun J21 => (letK (lenI x20) fun x24 => (bK (eqI x24 1) (J21 none) (mulK none x18 a_p fun x25 => (J21 (some x25))))))))))) a_told (([] : List Int), (some 1)))
noncomputable def f_of_digits_P_INvI (a_p : Int) (a_l : Unit) (a_told : (List Int)) : Option Int := (callK none (f_parts_P_INvI a_p a_l a_told) fun x1 => (letK (sumI x1) fun x2 => (some x2)))
noncomputable def f_digits_P_III (a_p : Int) (a_l : Int) (a_N : Int) : Option (List Int) := (modK none a_N a_l fun x1 => (divK none a_N a_l fun x2 => (whileK none (fun (s10 : ((List Int) × Int)) => (some (s10).1)) (fun (s3 : ((List Int) × Int)) J6 => (J6 (ltI 0 (s3).2))) (fun fin4 (s3 : ((List Int) × Int)) nx5 => (bK (eqI a_p 0) none (modK none (s3).2 a_p fun x7 => (chkK none (fewL (s3).1) (letK ((s3).1 ++ [x7]) fun x8 => (divK none (s3).2 a_p fun x9 => (nx5 (x8, x9)))))))) 1000000 (([x1] : List Int), x2))))
noncomputable def f_has_middle_P_III (a_p : Int) (a_d : Int) (a_n : Int) : Option Bool := (callK none (f_length_P_II a_p a_d) fun x1 => (optK x1 (letK (addI a_n 1) fun x3 => (callK none (f_digits_P_INI a_p () x3) fun x4 => (lcFK none (fun (x6 : Int) J11 => (J11 (notB (eqI x6 0)))) (fun (x6 : Int) (k7 : Int → _) => (k7 x6)) ([x4] : List Int) fun ys8 => (letK (lenI ys8) fun x9 => (some (eqI x9 1)))))) fun x2 => (letK (addI a_n 1) fun x12 => (callK none (f_digits_P_III a_p x2 x12) fun x13 => (lcFK none (fun (x15 : Int) J20 => (J20 (notB (eqI x15 0)))) (fun (x15 : Int) (k16 : Int → _) => (k16 x15)) x13 fun ys17 => (letK (lenI ys17) fun x18 => (some (eqI x18 1))))))))
noncomputable def f_parts_P_INTIe (a_p : Int) (a_l : Unit) (a_told : (Int)) : Option (List Int) := (forK (fun (s28 : ((List Int) × (Option Int))) => (some (s28).1)) (fun fin15 (x17 : Int) (s14 : ((List Int) × (Option Int))) nx16 => (optK (s14).2 none fun x18 => (mulK none x17 x18 fun x19 => (chkK none (fewL (s14).1) (letK ((s14).1 ++ [x19]) fun x20 => (joinK (fun (x26 : (Option Int)) => (optK x26 (nx16 (x20, none)) fun x27 => (nx16 (x20, (some x27))))) fun J21 => (letK (lenI x20) fun x24 => (bK (eqI x24 1) (J21 none) (mulK none x18 a_p fun x25 => (J21 (some x25))))))))))) ([a_told] : List Int) (([] : List Int), (some 1)))
noncomputable def f_support_P_INI (a_p : Int) (a_l : Unit) (a_N : Int) : Option (List Int) := (callK none (f_digits_P_INI a_p a_l a_N) fun x1 => (callK none (f_parts_P_INTIe a_p a_l x1) fun x2 => (letK (negI 1) fun x3 => (callK none (atF x2 x3) fun x4 => (letK (negI 1) fun x8 => (letK (cutF x2 none (some x8)) fun x9 => (forK (fun (s22 : ((List Int))) => (letK (sortI s22) fun x23 => (some x23))) (fun fin6 (x10 : Int) (s5 : ((List Int))) nx7 => (bK (notB (eqI x10 0)) (lcK none (fun (x12 : Int) (k13 : Int → _) => (letK (subI x12 x10) fun x15 => (k13 x15))) s5 fun ys14 => (lcK none (fun (x17 : Int) (k18 : Int → _) => (letK (addI x17 x10) fun x20 => (k18 x20))) s5 fun ys19 => (chkK none (bK (fewL ys14) (fewL ys19) false) (letK (catL ys14 ys19) fun x21 => (nx7 (x21)))))) (nx7 (s5)))) x9 (([x4] : List Int)))))))))
noncomputable def f_holds_P_INII (a_p : Int) (a_l : Unit) (a_k0 : Int) (a_r : Int) : Option Bool := (joinK (fun (b4 : Bool) => (bK b4 (some (eqI a_k0 a_r)) (letK (subI a_r a_k0) fun x5 => (divK none x5 2 fun x6 => (callK none (f_digits_P_INI a_p a_l x6) fun x7 => (letK (addI a_r 1) fun x8 => (callK none (f_digits_P_INI a_p a_l x8) fun x9 => (letK (zipF ([x7] : List Int) ([x9] : List Int)) fun x10 => (lcK none (fun (x12 : (Int × Int)) (k13 : Bool → _) => (k13 (anyE eqI (x12).1 [0, (x12).2]))) x10 fun ys14 => (letK (allB ys14) fun x15 => (some x15))))))))))) fun J1 => (bK (leI a_r a_k0) (J1 true) (letK (subI a_r a_k0) fun x2 => (modK none x2 2 fun x3 => (J1 (eqI x3 1))))))
noncomputable def f_first_not_dividing_P_INI (a_p : Int) (a_l : Unit) (a_N : Int) : Option Unit := (joinK (fun (b2 : Bool) => (bK b2 (some ()) none)) fun J1 => (J1 true))
noncomputable def f_next_over_P_INI (a_p : Int) (a_l : Unit) (a_k0 : Int) : Option Unit := (letK (addI a_k0 1) fun x1 => (callK none (f_first_not_dividing_P_INI a_p a_l x1) fun x2 => (some ())))
noncomputable def f_first_not_dividing_P_III (a_p : Int) (a_l : Int) (a_N : Int) : Option (Option Int) := (joinK (fun (b5 : Bool) => (bK b5 (some none) (whileK none (fun (s12 : (Int)) => (some (some s12))) (fun (s6 : (Int)) J9 => (modK none a_N s6 fun x10 => (J9 (eqI x10 0)))) (fun fin7 (s6 : (Int)) nx8 => (mulK none s6 a_p fun x11 => (nx8 (x11)))) 1000000 (a_l)))) fun J1 => (joinK (fun (b4 : Bool) => (J1 b4)) fun J2 => (bK (eqI a_p 0) (modK none a_N a_l fun x3 => (J2 (eqI x3 0))) (J2 false))))
noncomputable def f_next_over_P_III (a_p : Int) (a_l : Int) (a_k0 : Int) : Option (Option Int) := (letK (addI a_k0 1) fun x1 => (callK none (f_first_not_dividing_P_III a_p a_l x1) fun x2 => (optK x2 (some none) fun x3 => (divK none x1 x3 fun x4 => (mulK none x4 x3 fun x5 => (letK (addI x5 x3) fun x6 => (mulK none 2 x6 fun x7 => (letK (subI x7 x1) fun x8 => (letK (subI x8 1) fun x9 => (some (some x9)))))))))))
noncomputable def f_keeps_all_P_IIII (a_p : Int) (a_d : Int) (a_n : Int) (a_k0 : Int) : Option Bool := (callK none (f_length_P_II a_p a_d) fun x1 => (optK x1 (callK none (f_next_over_P_INI a_p () a_k0) fun x3 => (joinK (fun (b5 : Bool) => (some b5)) fun J4 => (J4 true))) fun x2 => (callK none (f_next_over_P_III a_p x2 a_k0) fun x6 => (optK x6 (joinK (fun (b9 : Bool) => (some b9)) fun J8 => (J8 true)) fun x7 => (joinK (fun (b11 : Bool) => (some b11)) fun J10 => (J10 (ltI a_n x7)))))))
noncomputable def f_law_draw_far_P_II (a_p : Int) (a_l : Int) (kk : Int → Prop) : Prop := (pickP 4 fun x1 => (callK False (dixF [(0, 40), (2, 80), (3, 50), (5, 36), (7, 30), (11, 25), (13, 24)] a_p) fun x5 => (pickP x5 fun x6 => (rng1K False x6 fun x7 => (forK (fun (s16 : (Int)) => (letK (maxI 2 a_p) fun x17 => (letK (subI x17 1) fun x18 => (pickP x18 fun x19 => (letK (addI 1 x19) fun x20 => (mulK False s16 x20 fun x21 => (letK (subI x21 1) fun x22 => (joinK (fun (s24 : (Int)) => (joinK (fun (x49 : Int) => (letK (maxI 1 x49) fun x50 => (kk x50))) fun J42 => (bK (ltI x1 3) (J42 s24) (pickP 1000000000000 fun x46 => (pickP 1000000000000 fun x47 => (mulK False x46 x47 fun x48 => (J42 x48))))))) fun J23 => (bK (eqI x1 1) (pickP 9 fun x25 => (letK (addI 1 x25) fun x26 => (pickP 14 fun x30 => (rng1K False x30 fun x31 => (forK (fun (s40 : (Int)) => (letK (addI x22 s40) fun x41 => (J23 (x41)))) (fun fin28 (x32 : Int) (s27 : (Int)) nx29 => (joinK (fun (x38 : Int) => (mulK False s27 x38 fun x39 => (nx29 (x39)))) fun J33 => (joinK (fun (b37 : Bool) => (bK b37 (J33 a_p) (J33 a_l))) fun J36 => (bK (ltI 0 a_p) (J36 (ltI 0 x32)) (J36 false))))) x31 (x26)))))) (J23 (x22))))))))))) (fun fin3 (x8 : Int) (s2 : (Int)) nx4 => (joinK (fun (x14 : Int) => (mulK False s2 x14 fun x15 => (nx4 (x15)))) fun J9 => (joinK (fun (b13 : Bool) => (bK b13 (J9 a_p) (J9 a_l))) fun J12 => (bK (ltI 0 a_p) (J12 (ltI 0 x8)) (J12 false))))) x7 (1))))))
noncomputable def f_parts_P_IIvI (a_p : Int) (a_l : Int) (a_told : (List Int)) : Option (List Int) := (forK (fun (s13 : ((List Int) × Int)) => (some (s13).1)) (fun fin2 (x4 : Int) (s1 : ((List Int) × Int)) nx3 => (mulK none x4 (s1).2 fun x5 => (chkK none (fewL (s1).1) (letK ((s1).1 ++ [x5]) fun x6 => (joinK (fun (x12 : Int) => (nx3 (x6, x12))) fun J7 => (letK (lenI x6) fun x10 => (bK (eqI x10 1) (J7 a_l) (mulK none (s1).2 a_p fun x11 => (J7 x11))))))))) a_told (([] : List Int), 1))
noncomputable def f_of_digits_P_IIvI (a_p : Int) (a_l : Int) (a_told : (List Int)) : Option Int := (callK none (f_parts_P_IIvI a_p a_l a_told) fun x1 => (letK (sumI x1) fun x2 => (some x2)))
noncomputable def f_support_P_III (a_p : Int) (a_l : Int) (a_N : Int) : Option (List Int) := (callK none (f_digits_P_III a_p a_l a_N) fun x1 => (callK none (f_parts_P_IIvI a_p a_l x1) fun x2 => (letK (negI 1) fun x3 => (callK none (atF x2 x3) fun x4 => (letK (negI 1) fun x8 => (letK (cutF x2 none (some x8)) fun x9 => (forK (fun (s22 : ((List Int))) => (letK (sortI s22) fun x23 => (some x23))) (fun fin6 (x10 : Int) (s5 : ((List Int))) nx7 => (bK (notB (eqI x10 0)) (lcK none (fun (x12 : Int) (k13 : Int → _) => (letK (subI x12 x10) fun x15 => (k13 x15))) s5 fun ys14 => (lcK none (fun (x17 : Int) (k18 : Int → _) => (letK (addI x17 x10) fun x20 => (k18 x20))) s5 fun ys19 => (chkK none (bK (fewL ys14) (fewL ys19) false) (letK (catL ys14 ys19) fun x21 => (nx7 (x21)))))) (nx7 (s5)))) x9 (([x4] : List Int)))))))))
noncomputable def f_holds_P_IIII (a_p : Int) (a_l : Int) (a_k0 : Int) (a_r : Int) : Option Bool := (joinK (fun (b4 : Bool) => (bK b4 (some (eqI a_k0 a_r)) (letK (subI a_r a_k0) fun x5 => (divK none x5 2 fun x6 => (callK none (f_digits_P_III a_p a_l x6) fun x7 => (letK (addI a_r 1) fun x8 => (callK none (f_digits_P_III a_p a_l x8) fun x9 => (letK (zipF x7 x9) fun x10 => (lcK none (fun (x12 : (Int × Int)) (k13 : Bool → _) => (k13 (anyE eqI (x12).1 [0, (x12).2]))) x10 fun ys14 => (letK (allB ys14) fun x15 => (some x15))))))))))) fun J1 => (bK (leI a_r a_k0) (J1 true) (letK (subI a_r a_k0) fun x2 => (modK none x2 2 fun x3 => (J1 (eqI x3 1))))))
noncomputable def f_law_common_II (a_a : Int) (a_b : Int) : Option Int := (letK (absI a_a) fun x1 => (letK (absI a_b) fun x2 => (whileK none (fun (s8 : (Int × Int)) => (some (s8).1)) (fun (s3 : (Int × Int)) J6 => (J6 (notB (eqI (s3).2 0)))) (fun fin4 (s3 : (Int × Int)) nx5 => (modK none (s3).1 (s3).2 fun x7 => (nx5 ((s3).2, x7)))) 1000000 (x1, x2))))
noncomputable def f_law_fraction_II (a_u : Int) (a_d : Int) : Option (Int × Int) := (callK none (f_law_common_II a_u a_d) fun x1 => (joinK (fun (x5 : Int) => (mulK none x1 x5 fun x6 => (divK none a_u x6 fun x7 => (divK none a_d x6 fun x8 => (some (x7, x8)))))) fun J2 => (bK (ltI 0 a_d) (J2 1) (letK (subI 0 1) fun x4 => (J2 x4)))))
noncomputable def f_law_draw_worth_Q_I (a_p : Int) (kk : (Int × Int) → Prop) : Prop := (bK (ltI 0 a_p) False (letK (subI 0 1) fun x1 => (letK (subI 0 2) fun x2 => (pickP 7 fun x3 => (callK False (atF ([0, 1, x1, 2, x2, 3, 1] : List Int) x3) fun x4 => (pickP 4 fun x5 => (callK False (atF ([1, 1, 1, 2] : List Int) x5) fun x6 => (callK False (f_law_fraction_II x4 x6) fun x7 => (kk x7)))))))))
noncomputable def f_law_number_Q_II (a_p : Int) (a_n : Int) : Option (Int × Int) := (bK (ltI 0 a_p) none (some (a_n, 1)))
noncomputable def f_law_times_Q_ITIIeTIIe (a_p : Int) (a_x : (Int × Int)) (a_y : (Int × Int)) : Option (Int × Int) := (bK (ltI 0 a_p) none (mulK none (a_x).1 (a_y).1 fun x1 => (mulK none (a_x).2 (a_y).2 fun x2 => (callK none (f_law_fraction_II x1 x2) fun x3 => (some x3)))))
noncomputable def f_law_plus_Q_ITIIeTIIe (a_p : Int) (a_x : (Int × Int)) (a_y : (Int × Int)) : Option (Int × Int) := (bK (ltI 0 a_p) none (mulK none (a_x).1 (a_y).2 fun x1 => (mulK none (a_y).1 (a_x).2 fun x2 => (letK (addI x1 x2) fun x3 => (mulK none (a_x).2 (a_y).2 fun x4 => (callK none (f_law_fraction_II x3 x4) fun x5 => (some x5)))))))
noncomputable def f_law_minus_Q_ITIIeTIIe (a_p : Int) (a_x : (Int × Int)) (a_y : (Int × Int)) : Option (Int × Int) := (letK (subI 0 1) fun x1 => (callK none (f_law_number_Q_II a_p x1) fun x2 => (callK none (f_law_times_Q_ITIIeTIIe a_p x2 a_y) fun x3 => (callK none (f_law_plus_Q_ITIIeTIIe a_p a_x x3) fun x4 => (some x4)))))
noncomputable def f_law_worth_row_Q_ITIIeI (a_p : Int) (a_d : (Int × Int)) (a_m : Int) : Option (List (Int × Int)) := (callK none (f_law_number_Q_II a_p 1) fun x1 => (whileK none (fun (s17 : ((List (Int × Int)))) => (letK (addI a_m 1) fun x18 => (letK (cutF s17 none (some x18)) fun x19 => (some x19)))) (fun (s2 : ((List (Int × Int)))) J5 => (letK (lenI s2) fun x6 => (letK (addI a_m 1) fun x7 => (J5 (ltI x6 x7))))) (fun fin3 (s2 : ((List (Int × Int)))) nx4 => (letK (lenI s2) fun x8 => (letK (subI x8 1) fun x9 => (callK none (atF s2 x9) fun x10 => (callK none (f_law_times_Q_ITIIeTIIe a_p a_d x10) fun x11 => (letK (lenI s2) fun x12 => (letK (subI x12 2) fun x13 => (callK none (atF s2 x13) fun x14 => (callK none (f_law_minus_Q_ITIIeTIIe a_p x11 x14) fun x15 => (chkK none (fewL s2) (letK (s2 ++ [x15]) fun x16 => (nx4 (x16))))))))))))) 1000000 (([x1, a_d] : List (Int × Int)))))
noncomputable def f_law_length_Q_ITIIe (a_p : Int) (a_d : (Int × Int)) : Option (Option Int) := (bK (ltI 0 a_p) none (callK none (f_law_worth_row_Q_ITIIeI a_p a_d 6) fun x1 => (letK (lenI x1) fun x2 => (letK (addI x2 1) fun x3 => (rng2K none 2 x3 fun x4 => (lcFK none (fun (x6 : Int) J15 => (letK (subI x6 1) fun x16 => (callK none (atF x1 x16) fun x17 => (callK none (f_law_number_Q_II a_p 0) fun x18 => (J15 ((eqP eqI eqI) x17 x18)))))) (fun (x6 : Int) (k7 : Int → _) => (k7 x6)) x4 fun ys8 => (joinK (fun (x12 : (Option Int)) => (optK x12 (some none) fun x13 => (some (some x13)))) fun J9 => (bK (notB ((eqL eqI) ys8 ([] : List Int))) (callK none (atF ys8 0) fun x11 => (J9 (some x11))) (J9 none)))))))))
noncomputable def f_law_draw_far_Q_IN (a_p : Int) (a_l : Unit) (kk : Int → Prop) : Prop := (pickP 4 fun x1 => (callK False (dixF [(0, 40), (2, 80), (3, 50), (5, 36), (7, 30), (11, 25), (13, 24)] a_p) fun x5 => (pickP x5 fun x6 => (rng1K False x6 fun x7 => (forK (fun (s16 : (Int)) => (letK (maxI 2 a_p) fun x17 => (letK (subI x17 1) fun x18 => (pickP x18 fun x19 => (letK (addI 1 x19) fun x20 => (mulK False s16 x20 fun x21 => (letK (subI x21 1) fun x22 => (joinK (fun (s24 : (Int)) => (joinK (fun (x49 : Int) => (letK (maxI 1 x49) fun x50 => (kk x50))) fun J42 => (bK (ltI x1 3) (J42 s24) (pickP 1000000000000 fun x46 => (pickP 1000000000000 fun x47 => (mulK False x46 x47 fun x48 => (J42 x48))))))) fun J23 => (bK (eqI x1 1) (pickP 9 fun x25 => (letK (addI 1 x25) fun x26 => (pickP 14 fun x30 => (rng1K False x30 fun x31 => (forK (fun (s40 : (Int)) => (letK (addI x22 s40) fun x41 => (J23 (x41)))) (fun fin28 (x32 : Int) (s27 : (Int)) nx29 => (joinK (fun (x38 : Int) => (mulK False s27 x38 fun x39 => (nx29 (x39)))) fun J33 => (joinK (fun (b37 : Bool) => (bK b37 (J33 a_p) (J33 3))) fun J36 => (bK (ltI 0 a_p) (J36 (ltI 0 x32)) (J36 false))))) x31 (x26)))))) (J23 (x22))))))))))) (fun fin3 (x8 : Int) (s2 : (Int)) nx4 => (joinK (fun (x14 : Int) => (mulK False s2 x14 fun x15 => (nx4 (x15)))) fun J9 => (joinK (fun (b13 : Bool) => (bK b13 (J9 a_p) (J9 3))) fun J12 => (bK (ltI 0 a_p) (J12 (ltI 0 x8)) (J12 false))))) x7 (1))))))
noncomputable def f_law_digits_Q_INI (a_p : Int) (a_l : Unit) (a_whole : Int) : Option (List Int) := (some ([a_whole] : List Int))
noncomputable def f_law_digits_Q_III (a_p : Int) (a_l : Int) (a_whole : Int) : Option (List Int) := (modK none a_whole a_l fun x1 => (divK none a_whole a_l fun x2 => (whileK none (fun (s8 : ((List Int) × Int)) => (some (s8).1)) (fun (s3 : ((List Int) × Int)) J6 => (J6 (ltI 0 (s3).2))) (fun fin4 (s3 : ((List Int) × Int)) nx5 => (bK (ltI 0 a_p) none (chkK none (fewL (s3).1) (letK ((s3).1 ++ [(s3).2]) fun x7 => (bK (ltI 0 a_p) none (nx5 (x7, 0))))))) 1000000 (([x1] : List Int), x2))))
noncomputable def f_law_has_middle_Q_ITIIeI (a_p : Int) (a_d : (Int × Int)) (a_n : Int) : Option Bool := (callK none (f_law_length_Q_ITIIe a_p a_d) fun x1 => (optK x1 (letK (addI a_n 1) fun x3 => (callK none (f_law_digits_Q_INI a_p () x3) fun x4 => (lcFK none (fun (x6 : Int) J11 => (J11 (notB (eqI x6 0)))) (fun (x6 : Int) (k7 : Int → _) => (k7 x6)) x4 fun ys8 => (letK (lenI ys8) fun x9 => (some (eqI x9 1)))))) fun x2 => (letK (addI a_n 1) fun x12 => (callK none (f_law_digits_Q_III a_p x2 x12) fun x13 => (lcFK none (fun (x15 : Int) J20 => (J20 (notB (eqI x15 0)))) (fun (x15 : Int) (k16 : Int → _) => (k16 x15)) x13 fun ys17 => (letK (lenI ys17) fun x18 => (some (eqI x18 1))))))))
noncomputable def f_number_Q_II (a_p : Int) (a_n : Int) : Option (Int × Int) := (bK (eqI a_p 0) (some (a_n, 1)) none)
noncomputable def f_shortened_II (a_u : Int) (a_e : Int) : Option (Int × Int) := (letK (gcdF a_u a_e) fun x1 => (joinK (fun (s3 : (Int)) => (divK none a_u s3 fun x5 => (divK none a_e s3 fun x6 => (some (x5, x6))))) fun J2 => (bK (ltI a_e 0) (letK (negI x1) fun x4 => (J2 (x4))) (J2 (x1)))))
noncomputable def f_times_Q_ITIIeTIIe (a_p : Int) (a_x : (Int × Int)) (a_y : (Int × Int)) : Option (Int × Int) := (bK (eqI a_p 0) (mulK none (a_x).1 (a_y).1 fun x1 => (mulK none (a_x).2 (a_y).2 fun x2 => (callK none (f_shortened_II x1 x2) fun x3 => (some x3)))) none)
noncomputable def f_minus_Q_ITIIeTIIe (a_p : Int) (a_x : (Int × Int)) (a_y : (Int × Int)) : Option (Int × Int) := (bK (eqI a_p 0) (mulK none (a_x).1 (a_y).2 fun x1 => (mulK none (a_y).1 (a_x).2 fun x2 => (letK (subI x1 x2) fun x3 => (mulK none (a_x).2 (a_y).2 fun x4 => (callK none (f_shortened_II x3 x4) fun x5 => (some x5)))))) none)
noncomputable def f_worth_row_Q_ITIIeI (a_p : Int) (a_d : (Int × Int)) (a_m : Int) : Option (List (Int × Int)) := (callK none (f_number_Q_II a_p 1) fun x1 => (whileK none (fun (s14 : ((List (Int × Int)))) => (letK (addI a_m 1) fun x15 => (letK (cutF s14 none (some x15)) fun x16 => (some x16)))) (fun (s2 : ((List (Int × Int)))) J5 => (letK (lenI s2) fun x6 => (J5 (leI x6 a_m)))) (fun fin3 (s2 : ((List (Int × Int)))) nx4 => (letK (negI 1) fun x7 => (callK none (atF s2 x7) fun x8 => (callK none (f_times_Q_ITIIeTIIe a_p a_d x8) fun x9 => (letK (negI 2) fun x10 => (callK none (atF s2 x10) fun x11 => (callK none (f_minus_Q_ITIIeTIIe a_p x9 x11) fun x12 => (chkK none (fewL s2) (letK (s2 ++ [x12]) fun x13 => (nx4 (x13))))))))))) 1000000 (([x1, a_d] : List (Int × Int)))))
noncomputable def f_length_Q_ITIIe (a_p : Int) (a_d : (Int × Int)) : Option (Option Int) := (bK (notB (eqI a_p 0)) none (letK (subI 3 1) fun x1 => (callK none (f_worth_row_Q_ITIIeI a_p a_d x1) fun x2 => (callK none (f_number_Q_II a_p 0) fun x3 => (joinK (fun (x9 : (Option Int)) => (optK x9 (some none) fun x10 => (some (some x10)))) fun J4 => (bK (anyE (eqP eqI eqI) x3 x2) (callK none (idxF (eqP eqI eqI) x3 x2) fun x7 => (letK (addI x7 1) fun x8 => (J4 (some x8)))) (J4 none)))))))
noncomputable def f_digits_Q_INI (a_p : Int) (a_l : Unit) (a_N : Int) : Option (Int) := (some a_N)
noncomputable def f_parts_Q_INvI (a_p : Int) (a_l : Unit) (a_told : (List Int)) : Option (List Int) := (forK (fun (s28 : ((List Int) × (Option Int))) => (some (s28).1)) (fun fin15 (x17 : Int) (s14 : ((List Int) × (Option Int))) nx16 => (optK (s14).2 none fun x18 => (mulK none x17 x18 fun x19 => (chkK none (fewL (s14).1) (letK ((s14).1 ++ [x19]) fun x20 => (joinK (fun (x26 : (Option Int)) => (optK x26 (nx16 (x20, none)) fun x27 => (nx16 (x20, (some x27))))) fun J21 => (letK (lenI x20) fun x24 => (bK (eqI x24 1) (J21 none) (mulK none x18 a_p fun x25 => (J21 (some x25))))))))))) a_told (([] : List Int), (some 1)))
noncomputable def f_of_digits_Q_INvI (a_p : Int) (a_l : Unit) (a_told : (List Int)) : Option Int := (callK none (f_parts_Q_INvI a_p a_l a_told) fun x1 => (letK (sumI x1) fun x2 => (some x2)))
noncomputable def f_digits_Q_III (a_p : Int) (a_l : Int) (a_N : Int) : Option (List Int) := (modK none a_N a_l fun x1 => (divK none a_N a_l fun x2 => (whileK none (fun (s8 : ((List Int) × Int)) => (some (s8).1)) (fun (s3 : ((List Int) × Int)) J6 => (J6 (ltI 0 (s3).2))) (fun fin4 (s3 : ((List Int) × Int)) nx5 => (bK (eqI a_p 0) (chkK none (fewL (s3).1) (letK ((s3).1 ++ [(s3).2]) fun x7 => (nx5 (x7, 0)))) none)) 1000000 (([x1] : List Int), x2))))
noncomputable def f_has_middle_Q_ITIIeI (a_p : Int) (a_d : (Int × Int)) (a_n : Int) : Option Bool := (callK none (f_length_Q_ITIIe a_p a_d) fun x1 => (optK x1 (letK (addI a_n 1) fun x3 => (callK none (f_digits_Q_INI a_p () x3) fun x4 => (lcFK none (fun (x6 : Int) J11 => (J11 (notB (eqI x6 0)))) (fun (x6 : Int) (k7 : Int → _) => (k7 x6)) ([x4] : List Int) fun ys8 => (letK (lenI ys8) fun x9 => (some (eqI x9 1)))))) fun x2 => (letK (addI a_n 1) fun x12 => (callK none (f_digits_Q_III a_p x2 x12) fun x13 => (lcFK none (fun (x15 : Int) J20 => (J20 (notB (eqI x15 0)))) (fun (x15 : Int) (k16 : Int → _) => (k16 x15)) x13 fun ys17 => (letK (lenI ys17) fun x18 => (some (eqI x18 1))))))))
noncomputable def f_parts_Q_INTIe (a_p : Int) (a_l : Unit) (a_told : (Int)) : Option (List Int) := (forK (fun (s28 : ((List Int) × (Option Int))) => (some (s28).1)) (fun fin15 (x17 : Int) (s14 : ((List Int) × (Option Int))) nx16 => (optK (s14).2 none fun x18 => (mulK none x17 x18 fun x19 => (chkK none (fewL (s14).1) (letK ((s14).1 ++ [x19]) fun x20 => (joinK (fun (x26 : (Option Int)) => (optK x26 (nx16 (x20, none)) fun x27 => (nx16 (x20, (some x27))))) fun J21 => (letK (lenI x20) fun x24 => (bK (eqI x24 1) (J21 none) (mulK none x18 a_p fun x25 => (J21 (some x25))))))))))) ([a_told] : List Int) (([] : List Int), (some 1)))
noncomputable def f_support_Q_INI (a_p : Int) (a_l : Unit) (a_N : Int) : Option (List Int) := (callK none (f_digits_Q_INI a_p a_l a_N) fun x1 => (callK none (f_parts_Q_INTIe a_p a_l x1) fun x2 => (letK (negI 1) fun x3 => (callK none (atF x2 x3) fun x4 => (letK (negI 1) fun x8 => (letK (cutF x2 none (some x8)) fun x9 => (forK (fun (s22 : ((List Int))) => (letK (sortI s22) fun x23 => (some x23))) (fun fin6 (x10 : Int) (s5 : ((List Int))) nx7 => (bK (notB (eqI x10 0)) (lcK none (fun (x12 : Int) (k13 : Int → _) => (letK (subI x12 x10) fun x15 => (k13 x15))) s5 fun ys14 => (lcK none (fun (x17 : Int) (k18 : Int → _) => (letK (addI x17 x10) fun x20 => (k18 x20))) s5 fun ys19 => (chkK none (bK (fewL ys14) (fewL ys19) false) (letK (catL ys14 ys19) fun x21 => (nx7 (x21)))))) (nx7 (s5)))) x9 (([x4] : List Int)))))))))
noncomputable def f_holds_Q_INII (a_p : Int) (a_l : Unit) (a_k0 : Int) (a_r : Int) : Option Bool := (joinK (fun (b4 : Bool) => (bK b4 (some (eqI a_k0 a_r)) (letK (subI a_r a_k0) fun x5 => (divK none x5 2 fun x6 => (callK none (f_digits_Q_INI a_p a_l x6) fun x7 => (letK (addI a_r 1) fun x8 => (callK none (f_digits_Q_INI a_p a_l x8) fun x9 => (letK (zipF ([x7] : List Int) ([x9] : List Int)) fun x10 => (lcK none (fun (x12 : (Int × Int)) (k13 : Bool → _) => (k13 (anyE eqI (x12).1 [0, (x12).2]))) x10 fun ys14 => (letK (allB ys14) fun x15 => (some x15))))))))))) fun J1 => (bK (leI a_r a_k0) (J1 true) (letK (subI a_r a_k0) fun x2 => (modK none x2 2 fun x3 => (J1 (eqI x3 1))))))
noncomputable def f_first_not_dividing_Q_INI (a_p : Int) (a_l : Unit) (a_N : Int) : Option Unit := (joinK (fun (b2 : Bool) => (bK b2 (some ()) none)) fun J1 => (J1 true))
noncomputable def f_next_over_Q_INI (a_p : Int) (a_l : Unit) (a_k0 : Int) : Option Unit := (letK (addI a_k0 1) fun x1 => (callK none (f_first_not_dividing_Q_INI a_p a_l x1) fun x2 => (some ())))
noncomputable def f_first_not_dividing_Q_III (a_p : Int) (a_l : Int) (a_N : Int) : Option (Option Int) := (joinK (fun (b5 : Bool) => (bK b5 (some none) (whileK none (fun (s12 : (Int)) => (some (some s12))) (fun (s6 : (Int)) J9 => (modK none a_N s6 fun x10 => (J9 (eqI x10 0)))) (fun fin7 (s6 : (Int)) nx8 => (mulK none s6 a_p fun x11 => (nx8 (x11)))) 1000000 (a_l)))) fun J1 => (joinK (fun (b4 : Bool) => (J1 b4)) fun J2 => (bK (eqI a_p 0) (modK none a_N a_l fun x3 => (J2 (eqI x3 0))) (J2 false))))
noncomputable def f_next_over_Q_III (a_p : Int) (a_l : Int) (a_k0 : Int) : Option (Option Int) := (letK (addI a_k0 1) fun x1 => (callK none (f_first_not_dividing_Q_III a_p a_l x1) fun x2 => (optK x2 (some none) fun x3 => (divK none x1 x3 fun x4 => (mulK none x4 x3 fun x5 => (letK (addI x5 x3) fun x6 => (mulK none 2 x6 fun x7 => (letK (subI x7 x1) fun x8 => (letK (subI x8 1) fun x9 => (some (some x9)))))))))))
noncomputable def f_keeps_all_Q_ITIIeII (a_p : Int) (a_d : (Int × Int)) (a_n : Int) (a_k0 : Int) : Option Bool := (callK none (f_length_Q_ITIIe a_p a_d) fun x1 => (optK x1 (callK none (f_next_over_Q_INI a_p () a_k0) fun x3 => (joinK (fun (b5 : Bool) => (some b5)) fun J4 => (J4 true))) fun x2 => (callK none (f_next_over_Q_III a_p x2 a_k0) fun x6 => (optK x6 (joinK (fun (b9 : Bool) => (some b9)) fun J8 => (J8 true)) fun x7 => (joinK (fun (b11 : Bool) => (some b11)) fun J10 => (J10 (ltI a_n x7)))))))
noncomputable def f_law_draw_far_Q_II (a_p : Int) (a_l : Int) (kk : Int → Prop) : Prop := (pickP 4 fun x1 => (callK False (dixF [(0, 40), (2, 80), (3, 50), (5, 36), (7, 30), (11, 25), (13, 24)] a_p) fun x5 => (pickP x5 fun x6 => (rng1K False x6 fun x7 => (forK (fun (s16 : (Int)) => (letK (maxI 2 a_p) fun x17 => (letK (subI x17 1) fun x18 => (pickP x18 fun x19 => (letK (addI 1 x19) fun x20 => (mulK False s16 x20 fun x21 => (letK (subI x21 1) fun x22 => (joinK (fun (s24 : (Int)) => (joinK (fun (x49 : Int) => (letK (maxI 1 x49) fun x50 => (kk x50))) fun J42 => (bK (ltI x1 3) (J42 s24) (pickP 1000000000000 fun x46 => (pickP 1000000000000 fun x47 => (mulK False x46 x47 fun x48 => (J42 x48))))))) fun J23 => (bK (eqI x1 1) (pickP 9 fun x25 => (letK (addI 1 x25) fun x26 => (pickP 14 fun x30 => (rng1K False x30 fun x31 => (forK (fun (s40 : (Int)) => (letK (addI x22 s40) fun x41 => (J23 (x41)))) (fun fin28 (x32 : Int) (s27 : (Int)) nx29 => (joinK (fun (x38 : Int) => (mulK False s27 x38 fun x39 => (nx29 (x39)))) fun J33 => (joinK (fun (b37 : Bool) => (bK b37 (J33 a_p) (J33 a_l))) fun J36 => (bK (ltI 0 a_p) (J36 (ltI 0 x32)) (J36 false))))) x31 (x26)))))) (J23 (x22))))))))))) (fun fin3 (x8 : Int) (s2 : (Int)) nx4 => (joinK (fun (x14 : Int) => (mulK False s2 x14 fun x15 => (nx4 (x15)))) fun J9 => (joinK (fun (b13 : Bool) => (bK b13 (J9 a_p) (J9 a_l))) fun J12 => (bK (ltI 0 a_p) (J12 (ltI 0 x8)) (J12 false))))) x7 (1))))))
noncomputable def f_parts_Q_IIvI (a_p : Int) (a_l : Int) (a_told : (List Int)) : Option (List Int) := (forK (fun (s13 : ((List Int) × Int)) => (some (s13).1)) (fun fin2 (x4 : Int) (s1 : ((List Int) × Int)) nx3 => (mulK none x4 (s1).2 fun x5 => (chkK none (fewL (s1).1) (letK ((s1).1 ++ [x5]) fun x6 => (joinK (fun (x12 : Int) => (nx3 (x6, x12))) fun J7 => (letK (lenI x6) fun x10 => (bK (eqI x10 1) (J7 a_l) (mulK none (s1).2 a_p fun x11 => (J7 x11))))))))) a_told (([] : List Int), 1))
noncomputable def f_of_digits_Q_IIvI (a_p : Int) (a_l : Int) (a_told : (List Int)) : Option Int := (callK none (f_parts_Q_IIvI a_p a_l a_told) fun x1 => (letK (sumI x1) fun x2 => (some x2)))
noncomputable def f_support_Q_III (a_p : Int) (a_l : Int) (a_N : Int) : Option (List Int) := (callK none (f_digits_Q_III a_p a_l a_N) fun x1 => (callK none (f_parts_Q_IIvI a_p a_l x1) fun x2 => (letK (negI 1) fun x3 => (callK none (atF x2 x3) fun x4 => (letK (negI 1) fun x8 => (letK (cutF x2 none (some x8)) fun x9 => (forK (fun (s22 : ((List Int))) => (letK (sortI s22) fun x23 => (some x23))) (fun fin6 (x10 : Int) (s5 : ((List Int))) nx7 => (bK (notB (eqI x10 0)) (lcK none (fun (x12 : Int) (k13 : Int → _) => (letK (subI x12 x10) fun x15 => (k13 x15))) s5 fun ys14 => (lcK none (fun (x17 : Int) (k18 : Int → _) => (letK (addI x17 x10) fun x20 => (k18 x20))) s5 fun ys19 => (chkK none (bK (fewL ys14) (fewL ys19) false) (letK (catL ys14 ys19) fun x21 => (nx7 (x21)))))) (nx7 (s5)))) x9 (([x4] : List Int)))))))))
noncomputable def f_holds_Q_IIII (a_p : Int) (a_l : Int) (a_k0 : Int) (a_r : Int) : Option Bool := (joinK (fun (b4 : Bool) => (bK b4 (some (eqI a_k0 a_r)) (letK (subI a_r a_k0) fun x5 => (divK none x5 2 fun x6 => (callK none (f_digits_Q_III a_p a_l x6) fun x7 => (letK (addI a_r 1) fun x8 => (callK none (f_digits_Q_III a_p a_l x8) fun x9 => (letK (zipF x7 x9) fun x10 => (lcK none (fun (x12 : (Int × Int)) (k13 : Bool → _) => (k13 (anyE eqI (x12).1 [0, (x12).2]))) x10 fun ys14 => (letK (allB ys14) fun x15 => (some x15))))))))))) fun J1 => (bK (leI a_r a_k0) (J1 true) (letK (subI a_r a_k0) fun x2 => (modK none x2 2 fun x3 => (J1 (eqI x3 1))))))
def w_law : Prop := (rng1K False 4 fun x7 => (forK (fun s => Sum.rec (motive := fun _ => Prop) (fun (v266 : (Int × Int)) => (rng2K False 1 100 fun x267 => (lcFK False (fun (x269 : Int) J281 => (callK False (f_has_middle_P_III (v266).1 (v266).2 x269) fun x282 => (J281 x282))) (fun (x269 : Int) (k270 : Int → _) => (k270 x269)) x267 fun ys271 => (rng2K False 1 100 fun x272 => (lcFK False (fun (x274 : Int) J278 => (callK False (f_law_has_middle_P_III (v266).1 (v266).2 x274) fun x279 => (J278 x279))) (fun (x274 : Int) (k275 : Int → _) => (k275 x274)) x272 fun ys276 => (((eqL eqI) ys271 ys276) = true)))))) (fun s => Sum.rec (motive := fun _ => Prop) (fun (v283 : (Int × (Int × Int))) => (rng2K False 1 100 fun x284 => (lcFK False (fun (x286 : Int) J298 => (callK False (f_has_middle_Q_ITIIeI (v283).1 (v283).2 x286) fun x299 => (J298 x299))) (fun (x286 : Int) (k287 : Int → _) => (k287 x286)) x284 fun ys288 => (rng2K False 1 100 fun x289 => (lcFK False (fun (x291 : Int) J295 => (callK False (f_law_has_middle_Q_ITIIeI (v283).1 (v283).2 x291) fun x296 => (J295 x296))) (fun (x291 : Int) (k292 : Int → _) => (k292 x291)) x289 fun ys293 => (((eqL eqI) ys288 ys293) = true)))))) (fun _ => False) s) s : ((Int × Int) ⊕ ((Int × (Int × Int)) ⊕ Unit)) → _) (fun fin4 (x8 : Int) (s6 : ((Int × Int) ⊕ ((Int × (Int × Int)) ⊕ Unit))) nx5 => (f_law_draw_field  fun x9 => (bK (ltI 0 x9) (f_law_draw_worth_P_I x9 fun x10 => (callK False (f_law_length_P_II x9 x10) fun x11 => (optK x11 (f_law_draw_far_P_IN x9 () fun x13 => (letK (addI x13 1) fun x14 => (callK False (f_law_digits_P_INI x9 () x14) fun x15 => (callK False (f_law_has_middle_P_III x9 x10 x13) fun x16 => (joinK (fun (b24 : Bool) => (bK b24 False (callK False (f_has_middle_P_III x9 x10 x13) fun x25 => (chkK False (eqB x25 x16) (bK x16 (rng1K False 4 fun x27 => (lcK False (fun (x29 : Int) (k30 : Int → _) => (pickP 30 fun x32 => (letK (addI 1 x32) fun x33 => (mulK False 2 x33 fun x34 => (letK (subI x13 x34) fun x35 => (k30 x35)))))) x27 fun ys31 => (joinK (fun (b47 : Bool) => (bK b47 False (nx5 ((Sum.inl ((x9, x10))))))) fun J36 => (letK (addI x13 1) fun x37 => (callK False (f_support_P_INI x9 () x37) fun x38 => (letK (addI x13 1) fun x39 => (bK (notB ((eqL eqI) x38 ([x39] : List Int))) (J36 true) (lcFK False (fun (x41 : Int) J46 => (J46 (leI 0 x41))) (fun (x41 : Int) (k42 : Bool → _) => (callK False (f_holds_P_INII x9 () x41 x13) fun x44 => (k42 x44))) ys31 fun ys43 => (J36 (anyE eqB true ys43)))))))))) False))))) fun J17 => (callK False (f_length_P_II x9 x10) fun x18 => (optK x18 (letK (addI x13 1) fun x20 => (callK False (f_digits_P_INI x9 () x20) fun x21 => (bK (notB ((eqL eqI) ([x21] : List Int) x15)) (J17 true) (callK False (f_of_digits_P_INvI x9 () x15) fun x22 => (letK (addI x13 1) fun x23 => (J17 (notB (eqI x22 x23)))))))) fun x19 => (J17 true)))))))) fun x12 => (f_law_draw_far_P_II x9 x12 fun x74 => (letK (addI x74 1) fun x75 => (callK False (f_law_digits_P_III x9 x12 x75) fun x76 => (callK False (f_law_has_middle_P_III x9 x10 x74) fun x77 => (joinK (fun (b85 : Bool) => (bK b85 False (callK False (f_has_middle_P_III x9 x10 x74) fun x86 => (chkK False (eqB x86 x77) (bK x77 (rng1K False 4 fun x88 => (lcK False (fun (x90 : Int) (k91 : Int → _) => (pickP 30 fun x93 => (letK (addI 1 x93) fun x94 => (mulK False 2 x94 fun x95 => (letK (subI x74 x95) fun x96 => (k91 x96)))))) x88 fun ys92 => (joinK (fun (b108 : Bool) => (bK b108 False (nx5 ((Sum.inl ((x9, x10))))))) fun J97 => (letK (addI x74 1) fun x98 => (callK False (f_support_P_III x9 x12 x98) fun x99 => (letK (addI x74 1) fun x100 => (bK (notB ((eqL eqI) x99 ([x100] : List Int))) (J97 true) (lcFK False (fun (x102 : Int) J107 => (J107 (leI 0 x102))) (fun (x102 : Int) (k103 : Bool → _) => (callK False (f_holds_P_IIII x9 x12 x102 x74) fun x105 => (k103 x105))) ys92 fun ys104 => (J97 (anyE eqB true ys104)))))))))) (letK (enumF x76 0) fun x109 => (lcFK False (fun (x111 : (Int × Int)) J137 => (J137 (notB (eqI (x111).2 0)))) (fun (x111 : (Int × Int)) (k112 : Int → _) => (k112 (x111).1)) x109 fun ys113 => (callK False (atF ys113 0) fun x114 => (rng1K False x114 fun x118 => (forK (fun (s125 : (Int)) => (callK False (atF x76 x114) fun x126 => (mulK False 2 x126 fun x127 => (mulK False x127 s125 fun x128 => (letK (subI x74 x128) fun x129 => (joinK (fun (b135 : Bool) => (bK b135 False (nx5 ((Sum.inl ((x9, x10))))))) fun J130 => (callK False (f_holds_P_IIII x9 x12 x129 x74) fun x131 => (bK (notB (eqB x131 true)) (J130 true) (callK False (f_keeps_all_P_IIII x9 x10 x74 x129) fun x132 => (bK (notB (eqB x132 false)) (J130 true) (callK False (f_next_over_P_III x9 x12 x129) fun x133 => (optK x133 False fun x134 => (J130 (ltI x74 x134)))))))))))))) (fun fin116 (x119 : Int) (s115 : (Int)) nx117 => (joinK (fun (x123 : Int) => (mulK False s115 x123 fun x124 => (nx117 (x124)))) fun J120 => (bK (eqI x119 0) (J120 x12) (letK (maxI x9 1) fun x122 => (J120 x122))))) x118 (1))))))))))) fun J78 => (callK False (f_length_P_II x9 x10) fun x79 => (optK x79 (J78 true) fun x80 => (bK (notB (eqI x80 x12)) (J78 true) (letK (addI x74 1) fun x81 => (callK False (f_digits_P_III x9 x12 x81) fun x82 => (bK (notB ((eqL eqI) x82 x76)) (J78 true) (callK False (f_of_digits_P_IIvI x9 x12 x76) fun x83 => (letK (addI x74 1) fun x84 => (J78 (notB (eqI x83 x84))))))))))))))))))) (f_law_draw_worth_Q_I x9 fun x138 => (callK False (f_law_length_Q_ITIIe x9 x138) fun x139 => (optK x139 (f_law_draw_far_Q_IN x9 () fun x141 => (letK (addI x141 1) fun x142 => (callK False (f_law_digits_Q_INI x9 () x142) fun x143 => (callK False (f_law_has_middle_Q_ITIIeI x9 x138 x141) fun x144 => (joinK (fun (b152 : Bool) => (bK b152 False (callK False (f_has_middle_Q_ITIIeI x9 x138 x141) fun x153 => (chkK False (eqB x153 x144) (bK x144 (rng1K False 4 fun x155 => (lcK False (fun (x157 : Int) (k158 : Int → _) => (pickP 30 fun x160 => (letK (addI 1 x160) fun x161 => (mulK False 2 x161 fun x162 => (letK (subI x141 x162) fun x163 => (k158 x163)))))) x155 fun ys159 => (joinK (fun (b175 : Bool) => (bK b175 False (nx5 ((Sum.inr (Sum.inl ((x9, x138)))))))) fun J164 => (letK (addI x141 1) fun x165 => (callK False (f_support_Q_INI x9 () x165) fun x166 => (letK (addI x141 1) fun x167 => (bK (notB ((eqL eqI) x166 ([x167] : List Int))) (J164 true) (lcFK False (fun (x169 : Int) J174 => (J174 (leI 0 x169))) (fun (x169 : Int) (k170 : Bool → _) => (callK False (f_holds_Q_INII x9 () x169 x141) fun x172 => (k170 x172))) ys159 fun ys171 => (J164 (anyE eqB true ys171)))))))))) False))))) fun J145 => (callK False (f_length_Q_ITIIe x9 x138) fun x146 => (optK x146 (letK (addI x141 1) fun x148 => (callK False (f_digits_Q_INI x9 () x148) fun x149 => (bK (notB ((eqL eqI) ([x149] : List Int) x143)) (J145 true) (callK False (f_of_digits_Q_INvI x9 () x143) fun x150 => (letK (addI x141 1) fun x151 => (J145 (notB (eqI x150 x151)))))))) fun x147 => (J145 true)))))))) fun x140 => (f_law_draw_far_Q_II x9 x140 fun x202 => (letK (addI x202 1) fun x203 => (callK False (f_law_digits_Q_III x9 x140 x203) fun x204 => (callK False (f_law_has_middle_Q_ITIIeI x9 x138 x202) fun x205 => (joinK (fun (b213 : Bool) => (bK b213 False (callK False (f_has_middle_Q_ITIIeI x9 x138 x202) fun x214 => (chkK False (eqB x214 x205) (bK x205 (rng1K False 4 fun x216 => (lcK False (fun (x218 : Int) (k219 : Int → _) => (pickP 30 fun x221 => (letK (addI 1 x221) fun x222 => (mulK False 2 x222 fun x223 => (letK (subI x202 x223) fun x224 => (k219 x224)))))) x216 fun ys220 => (joinK (fun (b236 : Bool) => (bK b236 False (nx5 ((Sum.inr (Sum.inl ((x9, x138)))))))) fun J225 => (letK (addI x202 1) fun x226 => (callK False (f_support_Q_III x9 x140 x226) fun x227 => (letK (addI x202 1) fun x228 => (bK (notB ((eqL eqI) x227 ([x228] : List Int))) (J225 true) (lcFK False (fun (x230 : Int) J235 => (J235 (leI 0 x230))) (fun (x230 : Int) (k231 : Bool → _) => (callK False (f_holds_Q_IIII x9 x140 x230 x202) fun x233 => (k231 x233))) ys220 fun ys232 => (J225 (anyE eqB true ys232)))))))))) (letK (enumF x204 0) fun x237 => (lcFK False (fun (x239 : (Int × Int)) J265 => (J265 (notB (eqI (x239).2 0)))) (fun (x239 : (Int × Int)) (k240 : Int → _) => (k240 (x239).1)) x237 fun ys241 => (callK False (atF ys241 0) fun x242 => (rng1K False x242 fun x246 => (forK (fun (s253 : (Int)) => (callK False (atF x204 x242) fun x254 => (mulK False 2 x254 fun x255 => (mulK False x255 s253 fun x256 => (letK (subI x202 x256) fun x257 => (joinK (fun (b263 : Bool) => (bK b263 False (nx5 ((Sum.inr (Sum.inl ((x9, x138)))))))) fun J258 => (callK False (f_holds_Q_IIII x9 x140 x257 x202) fun x259 => (bK (notB (eqB x259 true)) (J258 true) (callK False (f_keeps_all_Q_ITIIeII x9 x138 x202 x257) fun x260 => (bK (notB (eqB x260 false)) (J258 true) (callK False (f_next_over_Q_III x9 x140 x257) fun x261 => (optK x261 False fun x262 => (J258 (ltI x202 x262)))))))))))))) (fun fin244 (x247 : Int) (s243 : (Int)) nx245 => (joinK (fun (x251 : Int) => (mulK False s243 x251 fun x252 => (nx245 (x252)))) fun J248 => (bK (eqI x247 0) (J248 x140) (letK (maxI x9 1) fun x250 => (J248 x250))))) x246 (1))))))))))) fun J206 => (callK False (f_length_Q_ITIIe x9 x138) fun x207 => (optK x207 (J206 true) fun x208 => (bK (notB (eqI x208 x140)) (J206 true) (letK (addI x202 1) fun x209 => (callK False (f_digits_Q_III x9 x140 x209) fun x210 => (bK (notB ((eqL eqI) x210 x204)) (J206 true) (callK False (f_of_digits_Q_IIvI x9 x140 x204) fun x211 => (letK (addI x202 1) fun x212 => (J206 (notB (eqI x211 x212)))))))))))))))))))))) x7 (Sum.inr (Sum.inr ()))))
/-! ### reckoning with lifted functions -/
section
variable {R : Type} {z : R}
theorem letK_go {α : Type} (v : α) (k : α → R) : letK v k = k v := rfl
theorem joinK_go {β : Type} (J : β → R) (b : (β → R) → R) : joinK J b = b J := rfl
theorem callK_go {α : Type} {o : Option α} {x : α} {k : α → R} (h : o = some x) : callK z o k = k x := by subst h; rfl
theorem chkK_go {c : Bool} {A : R} (h : c = true) : chkK z c A = A := by subst h; rfl
theorem bK_go {b : Bool} {A B : R} (h : b = true) : bK b A B = A := by subst h; rfl
theorem bK_no {b : Bool} {A B : R} (h : b = false) : bK b A B = B := by subst h; rfl
theorem mulK_go {x y : Int} {k : Int → R} (hx : Lt2 8000 x) (hy : Lt2 8000 y) : mulK z x y k = k (x * y) := by
  show chkK z (bK (bigI x) (bigI y) false) (k (mulI x y)) = _
  rw [bigI_eq, bigI_eq, decide_eq_true hx, decide_eq_true hy, mulI_eq]; rfl
theorem modK_go {x y : Int} {k : Int → R} (hy : 0 < y) : modK z x y k = k (x % y) := by
  show bK (eqI y 0) z (k (fmodI x y)) = _
  rw [eqI_eq, decide_eq_false (by omega), fmodI_eq, Int.fmod_eq_emod_of_nonneg x (by omega)]; rfl
theorem divK_go {x y : Int} {k : Int → R} (hy : 0 < y) (hb : Lt2 8000 y) : divK z x y k = k (x / y) := by
  show chkK z (bK (eqI y 0) false (bigI y)) (k (fdivI x y)) = _
  rw [eqI_eq, decide_eq_false (by omega), bigI_eq, decide_eq_true hb, fdivI_eq, Int.fdiv_eq_ediv_of_nonneg x (by omega)]; rfl
theorem lt_t {x y : Int} (h : x < y) : ltI x y = true := by rw [ltI_eq]; exact decide_eq_true h
theorem lt_f {x y : Int} (h : ¬ x < y) : ltI x y = false := by rw [ltI_eq]; exact decide_eq_false h
theorem le_t {x y : Int} (h : x ≤ y) : leI x y = true := by rw [leI_eq]; exact decide_eq_true h
theorem le_f {x y : Int} (h : ¬ x ≤ y) : leI x y = false := by rw [leI_eq]; exact decide_eq_false h
theorem eq_t {x y : Int} (h : x = y) : eqI x y = true := by rw [eqI_eq]; exact decide_eq_true h
theorem eq_f {x y : Int} (h : ¬ x = y) : eqI x y = false := by rw [eqI_eq]; exact decide_eq_false h
theorem eqL_refl : ∀ xs : List Int, eqL eqI xs xs = true
  | [] => rfl
  | x :: xs => by show bK (eqI x x) (eqL eqI xs xs) false = true; rw [eq_t rfl, eqL_refl xs]; rfl
theorem few_go {α : Type} {xs : List α} (h : xs.length ≤ 100000) : fewL xs = true := by unfold fewL; rw [lenN_eq]; exact Nat.ble_eq.mpr h
theorem lcG_ok {α β : Type} {f : α → (β → R) → R} {g : α → β} : ∀ (xs : List α) (k : List β → R), (∀ x ∈ xs, ∀ k, f x k = k (g x)) → lcG f xs k = k (xs.map g)
  | [], k, _ => rfl
  | x :: xs, k, h => by
    show f x (fun y => lcG f xs fun ys => k (y :: ys)) = _
    rw [h x List.mem_cons_self, lcG_ok xs _ fun y hy => h y (List.mem_cons_of_mem _ hy)]; rfl
theorem lcK_ok {α β : Type} {f : α → (β → R) → R} {g : α → β} {xs : List α} {k : List β → R} (hl : xs.length ≤ 100000) (h : ∀ x ∈ xs, ∀ k, f x k = k (g x)) : lcK z f xs k = k (xs.map g) := by
  show chkK z (fewL xs) (lcG f xs k) = _
  rw [chkK_go (few_go hl), lcG_ok xs k h]
theorem lcFG_ok {α β : Type} {c : α → (Bool → R) → R} {cb : α → Bool} {f : α → (β → R) → R} {g : α → β} : ∀ (xs : List α) (k : List β → R), (∀ x ∈ xs, ∀ J, c x J = J (cb x)) → (∀ x ∈ xs, cb x = true → ∀ k, f x k = k (g x)) → lcFG c f xs k = k ((xs.filter cb).map g)
  | [], k, _, _ => rfl
  | x :: xs, k, hc, h => by
    show c x (fun b => bK b (f x fun y => lcFG c f xs fun ys => k (y :: ys)) (lcFG c f xs k)) = _
    have hc' := fun y (hy : y ∈ xs) => hc y (List.mem_cons_of_mem _ hy)
    have h' := fun y (hy : y ∈ xs) => h y (List.mem_cons_of_mem _ hy)
    rw [hc x List.mem_cons_self, List.filter_cons]
    cases e : cb x with
    | true => rw [bK_true, h x List.mem_cons_self e, lcFG_ok xs _ hc' h']; rfl
    | false => rw [bK_false, lcFG_ok xs _ hc' h']; rfl
theorem lcFK_ok {α β : Type} {c : α → (Bool → R) → R} {cb : α → Bool} {f : α → (β → R) → R} {g : α → β} {xs : List α} {k : List β → R} (hl : xs.length ≤ 100000) (hc : ∀ x ∈ xs, ∀ J, c x J = J (cb x)) (h : ∀ x ∈ xs, cb x = true → ∀ k, f x k = k (g x)) : lcFK z c f xs k = k ((xs.filter cb).map g) := by
  show chkK z (fewL xs) (lcFG c f xs k) = _
  rw [chkK_go (few_go hl), lcFG_ok xs k hc h]
theorem rng1K_go {n : Int} {k : List Int → R} (h0 : 0 ≤ n) (h : n < 1000000) : rng1K z n k = k (rng2F 0 n) := by
  show chkK z (midB n) _ = _
  rw [chkK_go]
  cases n with
  | ofNat m => exact Nat.blt_eq.mpr (by have : (m : Int) < 1000000 := h; show m < 4611686018427387904; omega)
  | negSucc m => omega
theorem rng2F_len (a b : Int) : (rng2F a b).length = (b - a).toNat := by unfold rng2F; rw [rngF_len, toNatI_eq, subI_eq]
theorem rng2F_mem {a b x : Int} (h : x ∈ rng2F a b) : a ≤ x ∧ x < b := by
  obtain ⟨i, hi, e⟩ := List.getElem_of_mem h
  have g : (rng2F a b)[i]? = some x := by rw [List.getElem?_eq_getElem hi, e]
  unfold rng2F at g
  rw [rngF_get, toNatI_eq, subI_eq] at g
  by_cases q : i < (b - a).toNat
  · rw [if_pos q] at g; cases g; omega
  · rw [if_neg q] at g; cases g
/-- draws in a row -/
theorem lcG_inv {α β : Type} {f : α → (β → Prop) → Prop} {k : List β → Prop} (Y : β → Prop) : ∀ (xs : List α) (acc : List β), (∀ y ∈ acc, Y y) → (∀ x ∈ xs, ∀ k' : β → Prop, (∀ y, Y y → k' y) → f x k') → (∀ ys, ys.length = acc.length + xs.length → (∀ y ∈ ys, Y y) → k ys) → lcG f xs fun zs => k (acc ++ zs)
  | [], acc, ha, _, hk => hk _ (by simp) (by simpa using ha)
  | x :: xs, acc, ha, hf, hk => by
    show f x (fun y => lcG f xs fun ys => k (acc ++ y :: ys))
    refine hf x List.mem_cons_self _ fun y hy => ?_
    have e : (fun ys => k (acc ++ y :: ys)) = fun ys => k ((acc ++ [y]) ++ ys) := by funext ys; rw [List.append_assoc]; rfl
    rw [e]
    refine lcG_inv Y xs (acc ++ [y]) (fun z hz => ?_) (fun x hx => hf x (List.mem_cons_of_mem _ hx)) fun ys hl => hk ys (by rw [hl]; simp only [List.length_append, List.length_cons, List.length_nil]; omega)
    rcases List.mem_append.mp hz with h | h
    · exact ha z h
    · rw [List.mem_singleton.mp h]; exact hy
theorem lcK_inv {α β : Type} {f : α → (β → Prop) → Prop} {xs : List α} {k : List β → Prop} (Y : β → Prop) (hl : xs.length ≤ 100000) (hf : ∀ x ∈ xs, ∀ k' : β → Prop, (∀ y, Y y → k' y) → f x k') (hk : ∀ ys, ys.length = xs.length → (∀ y ∈ ys, Y y) → k ys) : lcK False f xs k := by
  show chkK False (fewL xs) (lcG f xs k)
  rw [chkK_go (few_go hl)]
  exact lcG_inv Y xs [] (fun _ h => by cases h) hf fun ys h => hk ys (by simpa using h)
theorem pick_go {m : Int} {k : Int → Prop} (h : m < 2 ^ 200) (q : ∀ r, 0 ≤ r → (r < m ∨ r = 0) → k r) : pickP m k := ⟨h, q⟩
theorem ipow_le {a b : Nat} (h : a ≤ b) : (2 : Int) ^ a ≤ 2 ^ b := by
  have e : ((2 ^ a : Nat) : Int) ≤ ((2 ^ b : Nat) : Int) := Int.ofNat_le.mpr (Nat.pow_le_pow_right (by decide) h)
  push_cast at e
  exact e
theorem callP {α : Type} {o : Option α} {x : α} {k : α → Prop} (h : o = some x) (q : k x) : callK False o k := by subst h; exact q
/-- a loop of draws -/
theorem forK_inv {α σ : Type} {fin : σ → Prop} {body : (σ → Prop) → α → σ → (σ → Prop) → Prop} (I : Nat → σ → Prop) : ∀ (xs : List α) (m : Nat) (s : σ), I m s → (∀ x i s (nx : σ → Prop), x ∈ xs → i < m + xs.length → I i s → (∀ s', I (i + 1) s' → nx s') → body fin x s nx) → (∀ s, I (m + xs.length) s → fin s) → forK fin body xs s
  | [], m, s, h, _, d => d s h
  | x :: xs, m, s, h, t, d => by
    show body fin x s (forK fin body xs)
    refine t x m s _ List.mem_cons_self (by rw [List.length_cons]; omega) h fun s' h' => forK_inv I xs (m + 1) s' h' (fun y i s nx hy hi => t y i s nx (List.mem_cons_of_mem _ hy) (by rw [List.length_cons]; omega)) fun s hs => d s ?_
    rw [List.length_cons]
    rw [show m + (xs.length + 1) = m + 1 + xs.length by omega]; exact hs
end
theorem lt2_of {n : Nat} {x : Int} (h0 : 0 ≤ x) (h : x < 2 ^ n) : Lt2 n x := by
  unfold Lt2
  have : ((x.natAbs : Int)) < ((2 ^ n : Nat) : Int) := by rw [Int.natAbs_of_nonneg h0]; push_cast; exact h
  exact Int.ofNat_lt.mp this
theorem lt2_nat {n x : Nat} (h : x < 2 ^ n) : Lt2 n (x : Int) := by unfold Lt2; rw [Int.natAbs_natCast]; exact h
theorem lt2_small {x : Int} (h0 : -1000000000000000 ≤ x) (h : x ≤ 1000000000000000) : Lt2 8000 x := by
  unfold Lt2
  have h1 : x.natAbs < 2 ^ 60 := by omega
  exact Nat.lt_of_lt_of_le h1 (Nat.pow_le_pow_right (by decide) (by decide))
/-! ### digits -/
def dg (p : Nat) (r : Nat) : List Nat := if h : r = 0 ∨ p < 2 then [] else (r % p) :: dg p (r / p)
termination_by r
decreasing_by exact Nat.div_lt_self (by omega) (by omega)
theorem dg_zero (p : Nat) : dg p 0 = [] := by rw [dg, dif_pos (Or.inl rfl)]
theorem dg_succ {p r : Nat} (hp : 2 ≤ p) (h : r ≠ 0) : dg p r = (r % p) :: dg p (r / p) := by rw [dg, dif_neg (by omega)]
def Dg (l p N : Nat) : List Nat := (N % l) :: dg p (N / l)
abbrev zi (xs : List Nat) : List Int := xs.map Int.ofNat
theorem dg_len {p : Nat} (hp : 2 ≤ p) : ∀ (f r : Nat), r < 2 ^ f → (dg p r).length ≤ f
  | 0, r, h => by
    obtain rfl : r = 0 := by omega
    rw [dg_zero]; exact Nat.le_refl _
  | f + 1, r, h => by
    by_cases h0 : r = 0
    · subst h0; rw [dg_zero]; exact Nat.zero_le _
    · rw [dg_succ hp h0, List.length_cons]
      have : r / p < 2 ^ f := Nat.div_lt_of_lt_mul (by rw [Nat.pow_succ] at h; exact Nat.lt_of_lt_of_le h (by rw [Nat.mul_comm]; exact Nat.mul_le_mul_right _ hp))
      exact Nat.succ_le_succ (dg_len hp f _ this)
theorem dg_big {p r : Nat} (hp : r < p) (h : r ≠ 0) : dg p r = [r] := by
  rw [dg_succ (by omega) h, Nat.mod_eq_of_lt hp, Nat.div_eq_of_lt hp, dg_zero]
theorem divC (a b : Nat) : ((a : Int) / (b : Int)) = ((a / b : Nat) : Int) := (Int.natCast_ediv a b).symm
theorem modC (a b : Nat) : ((a : Int) % (b : Int)) = ((a % b : Nat) : Int) := (Int.natCast_emod a b).symm
/-- a loop that tells digits -/
theorem loop_dg {p : Nat} (hp : 2 ≤ p) {body : (List Int × Int → Option (List Int)) → List Int × Int → (List Int × Int → Option (List Int)) → Option (List Int)} (hb : ∀ fin (acc : List Int) (r : Nat) nx, r ≠ 0 → r < 2 ^ 4000 → acc.length ≤ 50000 → body fin (acc, (r : Int)) nx = nx (acc ++ [((r % p : Nat) : Int)], ((r / p : Nat) : Int))) :
    ∀ (f n r : Nat) (acc : List Int), r < 2 ^ f → f ≤ 4000 → f < n → acc.length + f ≤ 50000 → whileK none (fun s : List Int × Int => some s.1) (fun (s : List Int × Int) J => J (ltI 0 s.2)) body n (acc, (r : Int)) = some (acc ++ zi (dg p r))
  | f, 0, r, acc, _, _, h, _ => by omega
  | f, n + 1, r, acc, hr, hf, hn, ha => by
    show bK (ltI 0 (r : Int)) (body (fun s => some s.1) (acc, (r : Int)) (whileK none (fun s : List Int × Int => some s.1) (fun (s : List Int × Int) J => J (ltI 0 s.2)) body n)) (some acc) = _
    by_cases h0 : r = 0
    · subst h0
      rw [bK_no (lt_f (by omega)), dg_zero]
      show some acc = some (acc ++ [])
      rw [List.append_nil]
    · rw [bK_go (lt_t (by omega)), hb _ acc r _ h0 (Nat.lt_of_lt_of_le hr (Nat.pow_le_pow_right (by decide) hf)) (by omega)]
      cases f with
      | zero => omega
      | succ f =>
        have hd : r / p < 2 ^ f := Nat.div_lt_of_lt_mul (by rw [Nat.pow_succ] at hr; exact Nat.lt_of_lt_of_le hr (by rw [Nat.mul_comm]; exact Nat.mul_le_mul_right _ hp))
        rw [loop_dg hp hb f n (r / p) _ hd (by omega) (by omega) (by rw [List.length_append, List.length_singleton]; omega), dg_succ hp h0, List.append_assoc]
        rfl
/-! ### k46 -/
theorem p4000 {r : Nat} (h : r < 2 ^ 4000) : Lt2 8000 (r : Int) := lt2_nat (Nat.lt_of_lt_of_le h (Nat.pow_le_pow_right (by decide) (by decide)))
theorem sm {x : Nat} (h : x < 100000) : Lt2 8000 (x : Int) := lt2_small (by omega) (by omega)
theorem law_digits_P {l p N : Nat} (hl : 2 ≤ l) (hl2 : l < 1000) (hp : 2 ≤ p) (hp2 : p < 1000) (hN : N < 2 ^ 4000) : f_law_digits_P_III p l N = some (zi (Dg l p N)) := by
  unfold f_law_digits_P_III
  rw [modK_go (by omega), divK_go (by omega) (sm (by omega)), divC, modC]
  refine (loop_dg hp ?_ 4000 1000000 (N / l) [((N % l : Nat) : Int)] (Nat.lt_of_le_of_lt (Nat.div_le_self _ _) hN) (by decide) (by decide) (by show 1 + 4000 ≤ 50000; decide)).trans ?_
  · intro fin acc r nx h0 hr ha
    rw [bK_go (lt_t (by omega)), modK_go (by omega), chkK_go (few_go (by show acc.length ≤ _; omega)), letK_go, bK_go (lt_t (by omega)), divK_go (by omega) (sm (by omega)), divC, modC]
  · rfl
theorem digits_P {l p N : Nat} (hl : 2 ≤ l) (hl2 : l < 1000) (hp : 2 ≤ p) (hp2 : p < 1000) (hN : N < 2 ^ 4000) : f_digits_P_III p l N = some (zi (Dg l p N)) := by
  unfold f_digits_P_III
  rw [modK_go (by omega), divK_go (by omega) (sm (by omega)), divC, modC]
  refine (loop_dg hp ?_ 4000 1000000 (N / l) [((N % l : Nat) : Int)] (Nat.lt_of_le_of_lt (Nat.div_le_self _ _) hN) (by decide) (by decide) (by show 1 + 4000 ≤ 50000; decide)).trans ?_
  · intro fin acc r nx h0 hr ha
    rw [bK_no (eq_f (by omega)), modK_go (by omega), chkK_go (few_go (by show acc.length ≤ _; omega)), letK_go, divK_go (by omega) (sm (by omega)), divC, modC]
  · rfl
/-- over fractions a second digit may be any: as by a base beyond all -/
theorem loop_Q {p r : Nat} (hp : r < p) (h2 : 2 ≤ p) {a : Int} {body : (List Int × Int → Option (List Int)) → List Int × Int → (List Int × Int → Option (List Int)) → Option (List Int)} (hb : ∀ fin nx, body fin ([a], (r : Int)) nx = nx ([a, (r : Int)], 0)) {n : Nat} (hn : 2 ≤ n) :
    whileK none (fun s : List Int × Int => some s.1) (fun (s : List Int × Int) J => J (ltI 0 s.2)) body n ([a], (r : Int)) = some ([a] ++ zi (dg p r)) := by
  obtain ⟨m, rfl⟩ : ∃ m, n = m + 2 := ⟨n - 2, by omega⟩
  show bK (ltI 0 (r : Int)) (body (fun s => some s.1) ([a], (r : Int)) (whileK none (fun s : List Int × Int => some s.1) (fun (s : List Int × Int) J => J (ltI 0 s.2)) body (m + 1))) (some [a]) = _
  by_cases h0 : r = 0
  · subst h0
    rw [bK_no (lt_f (by omega)), dg_zero]; rfl
  · rw [bK_go (lt_t (by omega)), hb, dg_big hp h0]; rfl
theorem law_digits_Q {l p N : Nat} (hl : 2 ≤ l) (hl2 : l < 1000) (hp : 2 ≤ p) (hp2 : N < p) (hN : N < 2 ^ 4000) : f_law_digits_Q_III 0 l N = some (zi (Dg l p N)) := by
  unfold f_law_digits_Q_III
  rw [modK_go (by omega), divK_go (by omega) (sm (by omega)), divC, modC]
  refine (loop_Q (Nat.lt_of_le_of_lt (Nat.div_le_self N l) hp2) hp ?_ (by decide)).trans ?_
  · intro fin nx
    rw [bK_no (lt_f (by decide)), chkK_go (few_go (by show 1 ≤ _; decide)), letK_go, bK_no (lt_f (by decide))]; rfl
  · rfl
theorem digits_Q {l p N : Nat} (hl : 2 ≤ l) (hl2 : l < 1000) (hp : 2 ≤ p) (hp2 : N < p) (hN : N < 2 ^ 4000) : f_digits_Q_III 0 l N = some (zi (Dg l p N)) := by
  unfold f_digits_Q_III
  rw [modK_go (by omega), divK_go (by omega) (sm (by omega)), divC, modC]
  refine (loop_Q (Nat.lt_of_le_of_lt (Nat.div_le_self N l) hp2) hp ?_ (by decide)).trans ?_
  · intro fin nx
    rw [bK_go (eq_t rfl), chkK_go (few_go (by show 1 ≤ _; decide)), letK_go]; rfl
  · rfl
/-! one digit that is not nought, or more -/
def nz (xs : List Nat) : Nat := (xs.filter fun x => x != 0).length
theorem nz_cons (x : Nat) (xs : List Nat) : nz (x :: xs) = (if x = 0 then 0 else 1) + nz xs := by
  unfold nz
  rw [List.filter_cons]
  by_cases h : x = 0
  · subst h; simp
  · rw [if_pos (by simpa using h), if_neg h, List.length_cons]; omega
theorem nz_pos {p : Nat} (hp : 2 ≤ p) : ∀ r : Nat, r ≠ 0 → 1 ≤ nz (dg p r) := by
  intro r
  induction r using Nat.strongRecOn with
  | ind r ih =>
    intro h
    rw [dg_succ hp h, nz_cons]
    by_cases h0 : r % p = 0
    · have h1 : r / p ≠ 0 := fun z => by
        have := Nat.div_add_mod r p
        rw [z, h0] at this; omega
      have := ih (r / p) (Nat.div_lt_self (by omega) (by omega)) h1
      omega
    · rw [if_neg h0]; omega
theorem dg_mulP {p : Nat} (hp : 2 ≤ p) {a : Nat} (h : a ≠ 0) : dg p (p * a) = 0 :: dg p a := by
  rw [dg_succ hp (Nat.mul_ne_zero (by omega) h), Nat.mul_mod_right, Nat.mul_div_cancel_left _ (by omega)]
theorem dg_pow {p : Nat} (hp : 2 ≤ p) {a : Nat} (h : a ≠ 0) : ∀ i : Nat, dg p (p ^ i * a) = List.replicate i 0 ++ dg p a
  | 0 => by rw [Nat.pow_zero, Nat.one_mul]; rfl
  | i + 1 => by
    rw [show p ^ (i + 1) * a = p * (p ^ i * a) by rw [Nat.pow_succ, Nat.mul_comm (p ^ i) p, Nat.mul_assoc], dg_mulP hp (Nat.mul_ne_zero (by exact Nat.ne_of_gt (Nat.pow_pos (by omega))) h), dg_pow hp h i]; rfl
theorem dg_one {p : Nat} (hp : 2 ≤ p) : ∀ r : Nat, r ≠ 0 → nz (dg p r) = 1 → ∃ i c, 0 < c ∧ c < p ∧ r = p ^ i * c ∧ dg p r = List.replicate i 0 ++ [c] := by
  intro r
  induction r using Nat.strongRecOn with
  | ind r ih =>
    intro h h1
    rw [dg_succ hp h, nz_cons] at h1
    have hdm := Nat.div_add_mod r p
    by_cases h0 : r % p = 0
    · rw [if_pos h0] at h1
      have hq : r / p ≠ 0 := fun z => by rw [z, h0] at hdm; omega
      obtain ⟨i, c, c0, c1, e, _⟩ := ih (r / p) (Nat.div_lt_self (by omega) (by omega)) hq (by omega)
      have er : r = p ^ (i + 1) * c := by rw [h0, e] at hdm; rw [← hdm, Nat.pow_succ, Nat.add_zero, Nat.mul_comm (p ^ i) p, Nat.mul_assoc]
      exact ⟨i + 1, c, c0, c1, er, by rw [er, dg_pow hp (by omega) (i + 1), dg_big c1 (by omega)]⟩
    · rw [if_neg h0] at h1
      have hq : r / p = 0 := Nat.eq_zero_of_not_pos fun z => by have := nz_pos hp (r / p) (Nat.ne_of_gt z); omega
      have hr : r < p := by rw [hq] at hdm; have := Nat.mod_lt r (show 0 < p by omega); omega
      exact ⟨0, r, by omega, hr, by rw [Nat.pow_zero, Nat.one_mul], dg_big hr h⟩
theorem dg_two {p : Nat} (hp : 2 ≤ p) : ∀ r : Nat, r ≠ 0 → nz (dg p r) ≠ 1 → ∃ i c q, 0 < c ∧ c < p ∧ 0 < q ∧ r = p ^ i * (c + p * q) ∧ dg p r = List.replicate i 0 ++ c :: dg p q := by
  intro r
  induction r using Nat.strongRecOn with
  | ind r ih =>
    intro h h1
    rw [dg_succ hp h, nz_cons] at h1
    have hdm := Nat.div_add_mod r p
    by_cases h0 : r % p = 0
    · rw [if_pos h0] at h1
      have hq : r / p ≠ 0 := fun z => by rw [z, h0] at hdm; omega
      obtain ⟨i, c, q, c0, c1, q0, e, _⟩ := ih (r / p) (Nat.div_lt_self (by omega) (by omega)) hq (by omega)
      have er : r = p ^ (i + 1) * (c + p * q) := by rw [h0, e] at hdm; rw [← hdm, Nat.pow_succ, Nat.add_zero, Nat.mul_comm (p ^ i) p, Nat.mul_assoc]
      have hc : c + p * q ≠ 0 := by omega
      refine ⟨i + 1, c, q, c0, c1, q0, er, ?_⟩
      rw [er, dg_pow hp hc (i + 1), dg_succ hp hc, Nat.add_mul_mod_self_left, Nat.mod_eq_of_lt c1, Nat.add_mul_div_left _ _ (by omega), Nat.div_eq_of_lt c1, Nat.zero_add]
    · rw [if_neg h0] at h1
      have hq : r / p ≠ 0 := fun z => by rw [z, dg_zero] at h1; exact h1 rfl
      refine ⟨0, r % p, r / p, by omega, Nat.mod_lt _ (by omega), Nat.pos_of_ne_zero hq, by rw [Nat.pow_zero, Nat.one_mul]; omega, ?_⟩
      rw [dg_succ hp h]; rfl
/-- the shape of a number's digits -/
inductive Shp (l p N : Nat) : Prop
  | one0 (h0 : 0 < N) (h : N < l) (e : Dg l p N = [N])
  | one (i c : Nat) (c0 : 0 < c) (c1 : c < p) (h : N = l * (p ^ i * c)) (e : Dg l p N = 0 :: (List.replicate i 0 ++ [c]))
theorem shape_one {l p N : Nat} (hl : 2 ≤ l) (hp : 2 ≤ p) (h : N ≠ 0) (h1 : nz (Dg l p N) = 1) : Shp l p N := by
  unfold Dg at h1
  rw [nz_cons] at h1
  have hdm := Nat.div_add_mod N l
  by_cases h0 : N % l = 0
  · rw [if_pos h0] at h1
    have hq : N / l ≠ 0 := fun z => by rw [z, h0] at hdm; omega
    obtain ⟨i, c, c0, c1, e, e2⟩ := dg_one hp (N / l) hq (by omega)
    exact .one i c c0 c1 (by rw [← e]; omega) (by unfold Dg; rw [h0, e2])
  · rw [if_neg h0] at h1
    have hq : N / l = 0 := Nat.eq_zero_of_not_pos fun z => by have := nz_pos hp (N / l) (Nat.ne_of_gt z); omega
    have hr : N < l := by rw [hq] at hdm; have := Nat.mod_lt N (show 0 < l by omega); omega
    exact .one0 (by omega) hr (by unfold Dg; rw [Nat.mod_eq_of_lt hr, hq, dg_zero])
inductive Shq (l p N : Nat) : Prop
  | two0 (c q : Nat) (c0 : 0 < c) (c1 : c < l) (q0 : 0 < q) (h : N = c + l * q) (e : Dg l p N = c :: dg p q)
  | two (i c q : Nat) (c0 : 0 < c) (c1 : c < p) (q0 : 0 < q) (h : N = l * (p ^ i * (c + p * q))) (e : Dg l p N = 0 :: (List.replicate i 0 ++ c :: dg p q))
theorem shape_two {l p N : Nat} (hl : 2 ≤ l) (hp : 2 ≤ p) (h : N ≠ 0) (h1 : nz (Dg l p N) ≠ 1) : Shq l p N := by
  unfold Dg at h1
  rw [nz_cons] at h1
  have hdm := Nat.div_add_mod N l
  by_cases h0 : N % l = 0
  · rw [if_pos h0] at h1
    have hq : N / l ≠ 0 := fun z => by rw [z, h0] at hdm; omega
    obtain ⟨i, c, q, c0, c1, q0, e, e2⟩ := dg_two hp (N / l) hq (by omega)
    exact .two i c q c0 c1 q0 (by rw [← e]; omega) (by unfold Dg; rw [h0, e2])
  · rw [if_neg h0] at h1
    have hq : N / l ≠ 0 := fun z => by rw [z, dg_zero] at h1; exact h1 rfl
    exact .two0 (N % l) (N / l) (by omega) (Nat.mod_lt _ (by omega)) (Nat.pos_of_ne_zero hq) (by omega) rfl
/-! holds, by digits -/
noncomputable def zt (ds es : List Int) : Bool := allB ((zipF ds es).map fun x => anyE eqI x.1 [0, x.2])
theorem zt_cons (d e : Int) (ds es : List Int) : zt (d :: ds) (e :: es) = bK (anyE eqI d [0, e]) (zt ds es) false := rfl
theorem zt_nil (es : List Int) : zt [] es = true := rfl
theorem any_z (e : Int) : anyE eqI 0 [0, e] = true := rfl
theorem any_s (d : Int) : anyE eqI d [0, d] = true := by
  show bK (eqI 0 d) true (bK (eqI d d) true false) = true
  rw [eq_t (x := d) rfl]; cases eqI 0 d <;> rfl
theorem any_f {d e : Int} (h0 : d ≠ 0) (h : d ≠ e) : anyE eqI d [0, e] = false := by
  show bK (eqI 0 d) true (bK (eqI e d) true false) = false
  rw [eq_f (fun z => h0 z.symm), eq_f (fun z => h z.symm)]; rfl
theorem zt_no {p : Nat} (hp : 2 ≤ p) {c : Nat} (c0 : 0 < c) (c1 : c < p) : ∀ (i a : Nat), a ≠ 0 → a < p ^ i * c → zt (zi (dg p a)) (zi (List.replicate i 0 ++ [c])) = false
  | 0, a, h, hlt => by
    rw [Nat.pow_zero, Nat.one_mul] at hlt
    rw [dg_big (by omega) h]
    show bK (anyE eqI (a : Int) [0, (c : Int)]) _ false = false
    rw [any_f (by omega) (by omega)]; rfl
  | i + 1, a, h, hlt => by
    rw [dg_succ hp h]
    show bK (anyE eqI ((a % p : Nat) : Int) [0, 0]) (zt (zi (dg p (a / p))) (zi (List.replicate i 0 ++ [c]))) false = false
    by_cases h0 : a % p = 0
    · have hdm := Nat.div_add_mod a p
      have hq : a / p ≠ 0 := fun z => by rw [z, h0] at hdm; omega
      have hlt' : a / p < p ^ i * c := by
        refine Nat.div_lt_of_lt_mul ?_
        rw [show p * (p ^ i * c) = p ^ (i + 1) * c by rw [Nat.pow_succ, Nat.mul_comm (p ^ i) p, Nat.mul_assoc]]; exact hlt
      rw [zt_no hp c0 c1 i (a / p) hq hlt']
      cases anyE eqI ((a % p : Nat) : Int) [0, 0] <;> rfl
    · rw [any_f (by omega) (by omega)]; rfl
theorem zt_due {l p N t : Nat} (hl : 2 ≤ l) (hp : 2 ≤ p) (S : Shp l p N) (h0 : t ≠ 0) (ht : t < N) : zt (zi (Dg l p t)) (zi (Dg l p N)) = false := by
  cases S with
  | one0 _ h e =>
    rw [e]
    unfold Dg
    show bK (anyE eqI ((t % l : Nat) : Int) [0, (N : Int)]) _ false = false
    rw [Nat.mod_eq_of_lt (by omega), any_f (by omega) (by omega)]; rfl
  | one i c c0 c1 h e =>
    rw [e]
    unfold Dg
    show bK (anyE eqI ((t % l : Nat) : Int) [0, 0]) (zt (zi (dg p (t / l))) (zi (List.replicate i 0 ++ [c]))) false = false
    by_cases hm : t % l = 0
    · have hdm := Nat.div_add_mod t l
      have hq : t / l ≠ 0 := fun z => by rw [z, hm] at hdm; omega
      rw [zt_no hp c0 c1 i (t / l) hq (Nat.div_lt_of_lt_mul (by rw [← h]; exact ht))]
      cases anyE eqI ((t % l : Nat) : Int) [0, 0] <;> rfl
    · rw [any_f (by omega) (by omega)]; rfl
theorem zt_rep (xs ys : List Int) : ∀ i : Nat, zt (zi (List.replicate i 0) ++ xs) (zi (List.replicate i 0) ++ ys) = zt xs ys
  | 0 => rfl
  | i + 1 => by
    show bK (anyE eqI 0 [0, 0]) (zt (zi (List.replicate i 0) ++ xs) (zi (List.replicate i 0) ++ ys)) false = _
    rw [zt_rep xs ys i]; rfl
/-! the functions of the law at a number N = n + 1 -/
theorem optK_some {R α : Type} {A : R} {B : α → R} {x : α} : optK (some x) A B = B x := rfl
theorem optK_none {R α : Type} {A : R} {B : α → R} : optK none A B = A := rfl
noncomputable def duB (ds : List Nat) : Bool := decide (nz ds = 1)
theorem du_len (ds : List Nat) : eqI (lenI (((zi ds).filter fun x => notB (eqI x 0)).map fun x => x)) 1 = duB ds := by
  have e : ∀ ds : List Nat, ((zi ds).filter fun x => notB (eqI x 0)).length = nz ds := by
    intro ds
    induction ds with
    | nil => rfl
    | cons d ds ih =>
      rw [nz_cons]
      show (List.filter _ ((d : Int) :: zi ds)).length = _
      rw [List.filter_cons]
      by_cases h : d = 0
      · subst h; rw [if_pos rfl, if_neg (by decide), ih]; omega
      · rw [eq_f (by omega), if_pos (show notB false = true from rfl), List.length_cons, ih, if_neg h]; omega
  rw [eqI_eq, lenI_eq, List.length_map, e]
  unfold duB
  by_cases h : nz ds = 1
  · rw [decide_eq_true h, h]; rfl
  · rw [decide_eq_false h, decide_eq_false (by omega)]
theorem zi_len (ds : List Nat) : (zi ds).length = ds.length := List.length_map ..
theorem Dg_len {l p N : Nat} (hp : 2 ≤ p) (hN : N < 2 ^ 4000) : (Dg l p N).length ≤ 4001 := by
  unfold Dg
  rw [List.length_cons]
  have := dg_len hp 4000 (N / l) (Nat.lt_of_le_of_lt (Nat.div_le_self _ _) hN)
  omega
theorem addc (a b : Nat) : addI (a : Int) (b : Int) = ((a + b : Nat) : Int) := by rw [addI_eq]; omega
theorem zip_len {α β : Type} : ∀ (xs : List α) (ys : List β), (zipF xs ys).length ≤ xs.length
  | [], _ => Nat.le_refl _
  | x :: xs, [] => Nat.zero_le _
  | x :: xs, y :: ys => Nat.succ_le_succ (zip_len xs ys)
/-- what holds answers, by the digits of half the difference -/
theorem holds_go {dgs : Int → Option (List Int)} {t N : Nat} {l p : Nat} (ht : 0 < t) (htN : 2 * t ≤ N) (hp : 2 ≤ p) (hN : N < 2 ^ 4000) (h1 : dgs (t : Int) = some (zi (Dg l p t))) (h2 : dgs (N : Int) = some (zi (Dg l p N))) {k r : Int} (hk : k = (N : Int) - 1 - 2 * t) (hr : r = (N : Int) - 1) :
    (joinK (fun (b4 : Bool) => (bK b4 (some (eqI k r)) (letK (subI r k) fun x5 => (divK none x5 2 fun x6 => (callK none (dgs x6) fun x7 => (letK (addI r 1) fun x8 => (callK none (dgs x8) fun x9 => (letK (zipF x7 x9) fun x10 => (lcK none (fun (x12 : (Int × Int)) (k13 : Bool → Option Bool) => (k13 (anyE eqI (x12).1 [0, (x12).2]))) x10 fun ys14 => (letK (allB ys14) fun x15 => (some x15))))))))))) fun J1 => (bK (leI r k) (J1 true) (letK (subI r k) fun x2 => (modK none x2 2 fun x3 => (J1 (eqI x3 1)))))) = some (zt (zi (Dg l p t)) (zi (Dg l p N))) := by
  have ed : subI r k = ((2 * t : Nat) : Int) := by rw [subI_eq, hk, hr]; omega
  rw [joinK_go, bK_no (le_f (by omega)), letK_go, modK_go (by decide), ed]
  show bK (eqI (((2 * t : Nat) : Int) % 2) 1) _ _ = _
  rw [bK_no (eq_f (by omega)), letK_go, divK_go (by decide) (lt2_small (by decide) (by decide))]
  rw [show (((2 * t : Nat) : Int) / 2) = (t : Int) by omega, callK_go h1, letK_go, show addI r 1 = (N : Int) by rw [addI_eq, hr]; omega, callK_go h2, letK_go]
  rw [lcK_ok (g := fun x : Int × Int => anyE eqI x.1 [0, x.2]) (Nat.le_trans (zip_len _ _) (by rw [zi_len]; have := Dg_len (l := l) hp (Nat.lt_of_le_of_lt (show t ≤ N by omega) hN); omega)) (fun _ _ _ => rfl), letK_go]
  rfl
/-! parts, and the numbers that they tell -/
def pt (p : Nat) : Nat → List Nat → List Nat
  | _, [] => []
  | w, d :: ds => d * w :: pt p (w * p) ds
def pts (l p : Nat) : List Nat → List Nat
  | [] => []
  | d :: ds => d :: pt p l ds
theorem pt_sum (p : Nat) (hp : 2 ≤ p) : ∀ (r w : Nat), (pt p w (dg p r)).sum = w * r := by
  intro r
  induction r using Nat.strongRecOn with
  | ind r ih =>
    intro w
    by_cases h : r = 0
    · subst h; rw [dg_zero]; rfl
    · rw [dg_succ hp h]
      show (r % p) * w + (pt p (w * p) (dg p (r / p))).sum = _
      rw [ih (r / p) (Nat.div_lt_self (by omega) (by omega))]
      have := Nat.div_add_mod r p
      conv => rhs; rw [← this]
      rw [Nat.mul_add, Nat.mul_comm (r % p) w, Nat.mul_assoc]; omega
theorem pts_sum {l p N : Nat} (hp : 2 ≤ p) : (pts l p (Dg l p N)).sum = N := by
  unfold Dg
  show N % l + (pt p l (dg p (N / l))).sum = N
  rw [pt_sum p hp]
  have := Nat.div_add_mod N l
  omega
theorem forK_cons {R α σ : Type} {fin : σ → R} {body : (σ → R) → α → σ → (σ → R) → R} {x : α} {xs : List α} {s : σ} : forK fin body (x :: xs) s = body fin x s (forK fin body xs) := rfl
theorem forK_nil {R α σ : Type} {fin : σ → R} {body : (σ → R) → α → σ → (σ → R) → R} {s : σ} : forK fin body [] s = fin s := rfl
theorem len_ne1 {α : Type} {xs : List α} (h : 2 ≤ xs.length) : eqI (lenI xs) 1 = false := eq_f (by rw [lenI_eq]; omega)
theorem len_one {α : Type} (x : α) : eqI (lenI [x]) 1 = true := rfl
theorem zi_app (xs ys : List Nat) : zi (xs ++ ys) = zi xs ++ zi ys := List.map_append ..
theorem lt4 {a b : Nat} (h : a * b < 2 ^ 4000) (hb : b ≠ 0) : a < 2 ^ 4000 := Nat.lt_of_le_of_lt (Nat.le_mul_of_pos_right a (Nat.pos_of_ne_zero hb)) h
theorem parts_loop {p : Nat} (hp : 2 ≤ p) {body : (List Int × Int → Option (List Int)) → Int → List Int × Int → (List Int × Int → Option (List Int)) → Option (List Int)} (hb : ∀ fin (d : Nat) (acc : List Int) (w : Nat) nx, d < 2 ^ 4000 → w < 2 ^ 4000 → 1 ≤ acc.length → acc.length ≤ 50000 → body fin (d : Int) (acc, (w : Int)) nx = nx (acc ++ [((d * w : Nat) : Int)], ((w * p : Nat) : Int))) :
    ∀ (f r w : Nat) (acc : List Int), r < 2 ^ f → f ≤ 4000 → 1 ≤ acc.length → acc.length + f ≤ 50000 → w * r < 2 ^ 4000 → forK (fun s : List Int × Int => some s.1) body (zi (dg p r)) (acc, (w : Int)) = some (acc ++ zi (pt p w (dg p r)))
  | f, r, w, acc, hr, hf, ha, hl, hw => by
    by_cases h : r = 0
    · subst h; rw [dg_zero]; show some acc = some (acc ++ []); rw [List.append_nil]
    · cases f with
      | zero => omega
      | succ f =>
        have hr4 : r < 2 ^ 4000 := Nat.lt_of_lt_of_le hr (Nat.pow_le_pow_right (by decide) hf)
        have hd : r / p < 2 ^ f := Nat.div_lt_of_lt_mul (by rw [Nat.pow_succ] at hr; exact Nat.lt_of_lt_of_le hr (by rw [Nat.mul_comm]; exact Nat.mul_le_mul_right _ hp))
        rw [dg_succ hp h]
        show forK _ body (((r % p : Nat) : Int) :: zi (dg p (r / p))) _ = _
        rw [forK_cons, hb _ _ _ _ _ (Nat.lt_of_le_of_lt (Nat.mod_le _ _) hr4) (lt4 hw h) ha (by omega)]
        rw [parts_loop hp hb f (r / p) (w * p) _ hd (by omega) (by rw [List.length_append]; omega) (by rw [List.length_append, List.length_singleton]; omega) (Nat.lt_of_le_of_lt (by rw [Nat.mul_assoc]; exact Nat.mul_le_mul_left _ (Nat.mul_div_le _ _)) hw), List.append_assoc]
        rfl
theorem parts_P {l p N : Nat} (hl : 2 ≤ l) (hl2 : l < 1000) (hp : 2 ≤ p) (hp2 : p < 1000) (hN : N < 2 ^ 4000) : f_parts_P_IIvI p l (zi (Dg l p N)) = some (zi (pts l p (Dg l p N))) := by
  unfold f_parts_P_IIvI Dg
  show forK _ _ (((N % l : Nat) : Int) :: zi (dg p (N / l))) (([] : List Int), 1) = _
  rw [forK_cons, mulK_go (y := 1) (p4000 (Nat.lt_of_le_of_lt (Nat.mod_le _ _) hN)) (lt2_small (by decide) (by decide)), chkK_go (few_go (Nat.zero_le _)), letK_go, joinK_go, letK_go]
  show bK (eqI (lenI [((N % l : Nat) : Int) * 1]) 1) _ _ = _
  rw [bK_go (len_one _), Int.mul_one]
  refine (parts_loop hp ?_ 4000 (N / l) l [((N % l : Nat) : Int)] (Nat.lt_of_le_of_lt (Nat.div_le_self _ _) hN) (by decide) (Nat.le_refl 1) (by show 1 + 4000 ≤ 50000; decide) (Nat.lt_of_le_of_lt (Nat.mul_div_le _ _) hN)).trans rfl
  intro fin d acc w nx hd hw ha hl
  rw [mulK_go (p4000 hd) (p4000 hw), chkK_go (few_go (by show acc.length ≤ _; omega)), letK_go, joinK_go, letK_go, bK_no (len_ne1 (by rw [List.length_append]; show 2 ≤ acc.length + 1; omega)), mulK_go (p4000 hw) (sm (by omega))]
  rfl
theorem parts_Q {l p N : Nat} (hl : 2 ≤ l) (hl2 : l < 1000) (hp : 2 ≤ p) (hp2 : N < p) (hN : N < 2 ^ 4000) : f_parts_Q_IIvI 0 l (zi (Dg l p N)) = some (zi (pts l p (Dg l p N))) := by
  unfold f_parts_Q_IIvI Dg
  show forK _ _ (((N % l : Nat) : Int) :: zi (dg p (N / l))) (([] : List Int), 1) = _
  rw [forK_cons, mulK_go (y := 1) (p4000 (Nat.lt_of_le_of_lt (Nat.mod_le _ _) hN)) (lt2_small (by decide) (by decide)), chkK_go (few_go (Nat.zero_le _)), letK_go, joinK_go, letK_go]
  show bK (eqI (lenI [((N % l : Nat) : Int) * 1]) 1) _ _ = _
  rw [bK_go (len_one _), Int.mul_one]
  by_cases h : N / l = 0
  · rw [h, dg_zero]; rfl
  · have h4 : N / l < 2 ^ 4000 := Nat.lt_of_le_of_lt (Nat.div_le_self _ _) hN
    rw [dg_big (Nat.lt_of_le_of_lt (Nat.div_le_self _ _) hp2) h]
    show forK _ _ [((N / l : Nat) : Int)] ([((N % l : Nat) : Int)], (l : Int)) = _
    rw [forK_cons, mulK_go (p4000 h4) (sm (by omega)), chkK_go (few_go (by show 1 ≤ _; decide)), letK_go, joinK_go, letK_go, bK_no (len_ne1 (by show 2 ≤ 2; decide)), mulK_go (y := 0) (sm (by omega)) (lt2_small (by decide) (by decide))]
    rfl
theorem sum_zi : ∀ xs : List Nat, sumI (zi xs) = ((xs.sum : Nat) : Int)
  | [] => rfl
  | x :: xs => by
    show addI (x : Int) (sumI (zi xs)) = _
    rw [sum_zi xs, addI_eq, List.sum_cons]; omega
theorem ofd_P {l p N : Nat} (hl : 2 ≤ l) (hl2 : l < 1000) (hp : 2 ≤ p) (hp2 : p < 1000) (hN : N < 2 ^ 4000) : f_of_digits_P_IIvI p l (zi (Dg l p N)) = some (N : Int) := by
  unfold f_of_digits_P_IIvI
  rw [callK_go (parts_P hl hl2 hp hp2 hN), letK_go, sum_zi, pts_sum hp]
theorem ofd_Q {l p N : Nat} (hl : 2 ≤ l) (hl2 : l < 1000) (hp : 2 ≤ p) (hp2 : N < p) (hN : N < 2 ^ 4000) : f_of_digits_Q_IIvI 0 l (zi (Dg l p N)) = some (N : Int) := by
  unfold f_of_digits_Q_IIvI
  rw [callK_go (parts_Q hl hl2 hp hp2 hN), letK_go, sum_zi, pts_sum hp]
/-! the support of a number with one digit -/
theorem pt_rep (p c : Nat) : ∀ (i w : Nat), pt p w (List.replicate i 0 ++ [c]) = List.replicate i 0 ++ [c * (w * p ^ i)]
  | 0, w => by rw [Nat.pow_zero, Nat.mul_one]; rfl
  | i + 1, w => by
    show 0 * w :: pt p (w * p) (List.replicate i 0 ++ [c]) = 0 :: (List.replicate i 0 ++ [c * (w * p ^ (i + 1))])
    rw [pt_rep p c i, Nat.zero_mul, Nat.mul_assoc, Nat.pow_succ, Nat.mul_comm (p ^ i) p]
theorem pts_one {l p N : Nat} (S : Shp l p N) : ∃ m, pts l p (Dg l p N) = List.replicate m 0 ++ [N] := by
  cases S with
  | one0 _ h e => exact ⟨0, by rw [e]; rfl⟩
  | one i c c0 c1 h e =>
    refine ⟨i + 1, ?_⟩
    rw [e]
    show 0 :: pt p l (List.replicate i 0 ++ [c]) = _
    rw [pt_rep, h]
    show _ = 0 :: (List.replicate i 0 ++ _)
    rw [Nat.mul_comm c, Nat.mul_assoc]
theorem at_last (xs : List Int) (x : Int) : atF (xs ++ [x]) (negI 1) = some x := by
  rw [negI_eq]
  show bK (Nat.blt 0 (lenN (xs ++ [x]))) (nthN (xs ++ [x]) (lenN (xs ++ [x]) - 1)) none = _
  rw [lenN_eq, List.length_append, List.length_singleton, bK_go (Nat.blt_eq.mpr (by omega)), nthN_eq, Nat.add_sub_cancel, List.getElem?_append_right (Nat.le_refl _), Nat.sub_self]; rfl
theorem cut_last (xs : List Int) (x : Int) : cutF (xs ++ [x]) none (some (negI 1)) = xs := by
  rw [cutF_eq, negI_eq]
  show ((xs ++ [x]).drop 0).take (HT.sIx (xs ++ [x]).length (xs ++ [x]).length (some (-1)) - 0) = xs
  have e : HT.sIx (xs ++ [x]).length (xs ++ [x]).length (some (-1)) = xs.length := by
    show (if (-1 : Int) < 0 then (-1 + ((xs ++ [x]).length : Int)).toNat else min (-1 : Int).toNat (xs ++ [x]).length) = _
    rw [if_pos (by decide), List.length_append, List.length_singleton]; omega
  rw [e, List.drop_zero, Nat.sub_zero, List.take_left]
theorem skip_noughts {R : Type} {fin : List Int → R} {A : Int → List Int → (List Int → R) → R} (s : List Int) : ∀ m : Nat, forK fin (fun _ (x : Int) (s : List Int) nx => bK (notB (eqI x 0)) (A x s nx) (nx s)) (zi (List.replicate m 0)) s = fin s
  | 0 => rfl
  | m + 1 => by
    show forK fin _ (0 :: zi (List.replicate m 0)) s = _
    rw [forK_cons]
    exact skip_noughts s m
theorem sup_P {l p N : Nat} (hl : 2 ≤ l) (hl2 : l < 1000) (hp : 2 ≤ p) (hp2 : p < 1000) (hN : N < 2 ^ 4000) (S : Shp l p N) : f_support_P_III p l N = some [(N : Int)] := by
  obtain ⟨m, e⟩ := pts_one S
  unfold f_support_P_III
  rw [callK_go (digits_P hl hl2 hp hp2 hN), callK_go (parts_P hl hl2 hp hp2 hN), letK_go, e, zi_app]
  rw [show zi [N] = [(N : Int)] from rfl, callK_go (at_last _ _), letK_go, letK_go, cut_last]
  exact (skip_noughts _ m).trans rfl
theorem sup_Q {l p N : Nat} (hl : 2 ≤ l) (hl2 : l < 1000) (hp : 2 ≤ p) (hp2 : N < p) (hN : N < 2 ^ 4000) (S : Shp l p N) : f_support_Q_III 0 l N = some [(N : Int)] := by
  obtain ⟨m, e⟩ := pts_one S
  unfold f_support_Q_III
  rw [callK_go (digits_Q hl hl2 hp hp2 hN), callK_go (parts_Q hl hl2 hp hp2 hN), letK_go, e, zi_app]
  rw [show zi [N] = [(N : Int)] from rfl, callK_go (at_last _ _), letK_go, letK_go, cut_last]
  exact (skip_noughts _ m).trans rfl
/-! the piece over a room -/
theorem whileK_succ {R σ : Type} {z : R} {fin : σ → R} {test : σ → (Bool → R) → R} {body : (σ → R) → σ → (σ → R) → R} {n : Nat} {s : σ} : whileK z fin test body (n + 1) s = test s fun b => bK b (body fin s (whileK z fin test body n)) (fin s) := rfl
/-- going up the places, the first that does not divide -/
theorem place_loop {p m : Nat} (hp : 2 ≤ p) : ∀ (i n w : Nat), i < n → w ≠ 0 → (∀ j, j < i → m % (w * p ^ j) = 0) → m % (w * p ^ i) ≠ 0 → w * p ^ i < 2 ^ 4000 → p < 1000 →
    whileK none (fun s : Int => some (some s)) (fun (s : Int) J => modK none (m : Int) s fun x => J (eqI x 0)) (fun _ (s : Int) nx => mulK none s (p : Int) fun x => nx x) n (w : Int) = some (some ((w * p ^ i : Nat) : Int))
  | i, 0, w, h, _, _, _, _, _ => by omega
  | 0, n + 1, w, _, hw, _, hz, _, _ => by
    rw [Nat.pow_zero, Nat.mul_one] at hz
    rw [whileK_succ, modK_go (by omega), modC, eq_f (by omega), Nat.pow_zero, Nat.mul_one]
    rfl
  | i + 1, n + 1, w, hn, hw, hd, hz, hb, hp2 => by
    have h0 := hd 0 (by omega)
    rw [Nat.pow_zero, Nat.mul_one] at h0
    have e : ∀ j, w * p ^ (j + 1) = (w * p) * p ^ j := fun j => by rw [Nat.pow_succ, Nat.mul_comm (p ^ j) p, Nat.mul_assoc]
    have hwb : w < 2 ^ 4000 := lt4 hb (Nat.ne_of_gt (Nat.pow_pos (by omega)))
    rw [whileK_succ, modK_go (by omega), modC, h0, eq_t (by omega)]
    show mulK none (w : Int) (p : Int) _ = _
    rw [mulK_go (p4000 hwb) (sm (by omega)), ← Int.natCast_mul, e i]
    exact place_loop hp i n (w * p) (by omega) (Nat.mul_ne_zero hw (by omega)) (fun j hj => by rw [← e j]; exact hd (j + 1) (by omega)) (by rw [← e i]; exact hz) (by rw [← e i]; exact hb) hp2
/-- N = w c + w p q, seen from w c below: the next over is N again -/
theorem over_arith {W c b q : Nat} (hW : W ≠ 0) (c0 : 0 < c) (c1 : c < b) (q0 : 0 < q) : (W * (c + b * q) - 2 * (c * W)) / (W * b) * (W * b) + W * b = W * b * q ∧ 2 * (c * W) ≤ W * (c + b * q) ∧ (W * (c + b * q) - 2 * (c * W)) % (W * b) ≠ 0 := by
  obtain ⟨q, rfl⟩ : ∃ m, q = m + 1 := ⟨q - 1, by omega⟩
  obtain ⟨e, rfl⟩ : ∃ e, b = c + e := ⟨b - c, by omega⟩
  have h1 : W * (c + (c + e) * (q + 1)) = W * (c + e) * q + W * e + 2 * (c * W) := by
    rw [show c + (c + e) * (q + 1) = (c + e) * q + (2 * c + e) by rw [Nat.mul_add_one]; omega, Nat.mul_add, Nat.mul_add W (2 * c) e, ← Nat.mul_assoc, show W * (2 * c) = 2 * (c * W) by rw [Nat.mul_left_comm, Nat.mul_comm W c]]; omega
  have he : 0 < e := by omega
  have hlt : W * e < W * (c + e) := Nat.mul_lt_mul_of_pos_left (by omega) (by omega)
  have h2 : W * (c + (c + e) * (q + 1)) - 2 * (c * W) = W * (c + e) * q + W * e := by omega
  rw [h2]
  refine ⟨?_, by omega, ?_⟩
  · rw [Nat.mul_add_div (by omega), Nat.div_eq_of_lt hlt, Nat.add_zero, Nat.mul_add _ q 1, Nat.mul_one, Nat.mul_comm q]
  · rw [Nat.mul_add_mod, Nat.mod_eq_of_lt hlt]
    exact Nat.mul_ne_zero hW (by omega)
/-- the steps behind the place -/
theorem over_go {M B N : Nat} (hB : B ≠ 0) (hM : M < 2 ^ 4000) (hB4 : B < 2 ^ 4001) (e : 2 * (M / B * B + B) = N + M) (hN : N < 2 ^ 4000) {k : Int} (hk : k = (M : Int) - 1) {fnd : Int → Option (Option Int)} (hf : fnd (M : Int) = some (some (B : Int))) :
    (letK (addI k 1) fun x1 => (callK none (fnd x1) fun x2 => (optK x2 (some none) fun x3 => (divK none x1 x3 fun x4 => (mulK none x4 x3 fun x5 => (letK (addI x5 x3) fun x6 => (mulK none 2 x6 fun x7 => (letK (subI x7 x1) fun x8 => (letK (subI x8 1) fun x9 => (some (some x9)))))))))) : Option (Option Int)) = some (some ((N : Int) - 1)) := by
  have l8 : ∀ {a : Nat}, a < 2 ^ 4003 → Lt2 8000 (a : Int) := fun h => lt2_nat (Nat.lt_of_lt_of_le h (Nat.pow_le_pow_right (by decide) (by decide)))
  have p1 : (2 : Nat) ^ 4001 = 2 * 2 ^ 4000 := by rw [Nat.pow_succ, Nat.mul_comm]
  have p3 : (2 : Nat) ^ 4003 = 8 * 2 ^ 4000 := by rw [show 4003 = 4000 + 3 from rfl, Nat.pow_add, Nat.mul_comm]
  have hq : M / B * B ≤ M := Nat.div_mul_le_self M B
  have hq2 : M / B ≤ M := Nat.div_le_self M B
  rw [letK_go, show addI k 1 = (M : Int) by rw [addI_eq, hk]; omega, callK_go hf, optK_some, divK_go (by omega) (l8 (by omega)), divC, mulK_go (l8 (by omega)) (l8 (by omega)), ← Int.natCast_mul, letK_go, addc, mulK_go (lt2_small (by decide) (by decide)) (l8 (by omega)), letK_go, letK_go]
  congr 2
  rw [subI_eq, subI_eq]
  omega
theorem zt_two0 {l p c q : Nat} (hl : 2 ≤ l) (hp : 2 ≤ p) (c1 : c < l) : zt (zi (Dg l p c)) (zi (c :: dg p q)) = true := by
  unfold Dg
  rw [Nat.mod_eq_of_lt c1, Nat.div_eq_of_lt c1, dg_zero]
  show bK (anyE eqI (c : Int) [0, (c : Int)]) true false = true
  rw [any_s]; rfl
theorem zt_two {l p i c q : Nat} (hl : 2 ≤ l) (hp : 2 ≤ p) (c0 : 0 < c) (c1 : c < p) : zt (zi (Dg l p (l * (p ^ i * c)))) (zi (0 :: (List.replicate i 0 ++ c :: dg p q))) = true := by
  unfold Dg
  rw [Nat.mul_mod_right, Nat.mul_div_cancel_left _ (by omega), dg_pow hp (by omega), dg_big c1 (by omega)]
  show bK (anyE eqI 0 [0, 0]) (zt (zi (List.replicate i 0 ++ [c])) (zi (List.replicate i 0 ++ c :: dg p q))) false = true
  rw [zi_app, zi_app, zt_rep]
  show bK true (bK (anyE eqI (c : Int) [0, (c : Int)]) true false) false = true
  rw [any_s]; rfl
/-! lengths, by going through all worths -/
def Ps : List Nat := [2, 3, 5, 7, 11, 13]
noncomputable def lenP (p d : Nat) : Bool := match f_law_length_P_II p d, f_length_P_II p d with
  | some (some (.ofNat a)), some (some (.ofNat b)) => Nat.beq a b && (Nat.ble 2 a && Nat.ble a 20)
  | _, _ => false
theorem lenP_all : (Ps.all fun p => (List.range p).all fun d => lenP p d) = true := by decide +kernel
theorem len_P {p d : Nat} (hp : p ∈ Ps) (hd : d < p) : ∃ l : Nat, 2 ≤ l ∧ l ≤ 20 ∧ f_law_length_P_II p d = some (some (l : Int)) ∧ f_length_P_II p d = some (some (l : Int)) := by
  have h := List.all_eq_true.mp (List.all_eq_true.mp lenP_all p hp) d (List.mem_range.mpr hd)
  unfold lenP at h
  split at h
  · rename_i a b e1 e2
    rw [Bool.and_eq_true, Bool.and_eq_true] at h
    obtain ⟨h1, h2, h3⟩ := h
    have : a = b := Nat.eq_of_beq_eq_true h1
    subst this
    exact ⟨a, Nat.le_of_ble_eq_true h2, Nat.le_of_ble_eq_true h3, e1, e2⟩
  · cases h
def FRs : List (Int × Int) := [(0, 1), (1, 1), (-1, 1), (2, 1), (-2, 1), (3, 1), (1, 2), (-1, 2), (3, 2)]
noncomputable def lenQ (d : Int × Int) : Bool := match f_law_length_Q_ITIIe 0 d, f_length_Q_ITIIe 0 d with
  | some (some (.ofNat a)), some (some (.ofNat b)) => Nat.beq a b && (Nat.ble 2 a && Nat.ble a 20)
  | some none, some none => true
  | _, _ => false
theorem lenQ_all : (FRs.all fun d => lenQ d) = true := by decide +kernel
theorem len_Q {d : Int × Int} (hd : d ∈ FRs) : (f_law_length_Q_ITIIe 0 d = some none ∧ f_length_Q_ITIIe 0 d = some none) ∨ ∃ l : Nat, 2 ≤ l ∧ l ≤ 20 ∧ f_law_length_Q_ITIIe 0 d = some (some (l : Int)) ∧ f_length_Q_ITIIe 0 d = some (some (l : Int)) := by
  have h := List.all_eq_true.mp lenQ_all d hd
  unfold lenQ at h
  split at h
  · rename_i a b e1 e2
    rw [Bool.and_eq_true, Bool.and_eq_true] at h
    obtain ⟨h1, h2, h3⟩ := h
    have : a = b := Nat.eq_of_beq_eq_true h1
    subst this
    exact Or.inr ⟨a, Nat.le_of_ble_eq_true h2, Nat.le_of_ble_eq_true h3, e1, e2⟩
  · rename_i e1 e2
    exact Or.inl ⟨e1, e2⟩
  · cases h
/-- what the law asks behind a draw -/
def coreB (ld dgs : Int → Option (List Int)) (lhm hm : Int → Option Bool) (len : Option (Option Int)) (ofd : List Int → Option Int) (sup : Int → Option (List Int)) (hld kp : Int → Int → Option Bool) (nxo : Int → Option (Option Int)) (l pI n : Int) (nxp : Prop) : Prop :=
  (letK (addI n 1) fun x75 => (callK False (ld x75) fun x76 => (callK False (lhm n) fun x77 => (joinK (fun (b85 : Bool) => (bK b85 False (callK False (hm n) fun x86 => (chkK False (eqB x86 x77) (bK x77 (rng1K False 4 fun x88 => (lcK False (fun (x90 : Int) (k91 : Int → _) => (pickP 30 fun x93 => (letK (addI 1 x93) fun x94 => (mulK False 2 x94 fun x95 => (letK (subI n x95) fun x96 => (k91 x96)))))) x88 fun ys92 => (joinK (fun (b108 : Bool) => (bK b108 False nxp)) fun J97 => (letK (addI n 1) fun x98 => (callK False (sup x98) fun x99 => (letK (addI n 1) fun x100 => (bK (notB ((eqL eqI) x99 ([x100] : List Int))) (J97 true) (lcFK False (fun (x102 : Int) J107 => (J107 (leI 0 x102))) (fun (x102 : Int) (k103 : Bool → _) => (callK False (hld x102 n) fun x105 => (k103 x105))) ys92 fun ys104 => (J97 (anyE eqB true ys104)))))))))) (letK (enumF x76 0) fun x109 => (lcFK False (fun (x111 : (Int × Int)) J137 => (J137 (notB (eqI (x111).2 0)))) (fun (x111 : (Int × Int)) (k112 : Int → _) => (k112 (x111).1)) x109 fun ys113 => (callK False (atF ys113 0) fun x114 => (rng1K False x114 fun x118 => (forK (fun (s125 : (Int)) => (callK False (atF x76 x114) fun x126 => (mulK False 2 x126 fun x127 => (mulK False x127 s125 fun x128 => (letK (subI n x128) fun x129 => (joinK (fun (b135 : Bool) => (bK b135 False nxp)) fun J130 => (callK False (hld x129 n) fun x131 => (bK (notB (eqB x131 true)) (J130 true) (callK False (kp n x129) fun x132 => (bK (notB (eqB x132 false)) (J130 true) (callK False (nxo x129) fun x133 => (optK x133 False fun x134 => (J130 (ltI n x134)))))))))))))) (fun fin116 (x119 : Int) (s115 : (Int)) nx117 => (joinK (fun (x123 : Int) => (mulK False s115 x123 fun x124 => (nx117 (x124)))) fun J120 => (bK (eqI x119 0) (J120 l) (letK (maxI pI 1) fun x122 => (J120 x122))))) x118 (1))))))))))) fun J78 => (callK False len fun x79 => (optK x79 (J78 true) fun x80 => (bK (notB (eqI x80 l)) (J78 true) (letK (addI n 1) fun x81 => (callK False (dgs x81) fun x82 => (bK (notB ((eqL eqI) x82 x76)) (J78 true) (callK False (ofd x76) fun x83 => (letK (addI n 1) fun x84 => (J78 (notB (eqI x83 x84)))))))))))))))
theorem enum_first (c : Nat) (c0 : c ≠ 0) (rest : List Nat) : ∀ (s : Nat) (i : Int), ∃ r, ((enumF (zi (List.replicate s 0 ++ c :: rest)) i).filter fun x => notB (eqI x.2 0)).map (fun x => x.1) = (i + s) :: r
  | 0, i => by
    refine ⟨((enumF (zi rest) (addI i 1)).filter fun x => notB (eqI x.2 0)).map (fun x => x.1), ?_⟩
    show (List.filter _ ((i, (c : Int)) :: enumF (zi rest) (addI i 1))).map _ = _
    rw [List.filter_cons, if_pos (show notB (eqI (c : Int) 0) = true by rw [eq_f (by omega)]; rfl), List.map_cons]
    simp
  | s + 1, i => by
    obtain ⟨r, h⟩ := enum_first c c0 rest s (addI i 1)
    refine ⟨r, ?_⟩
    show (List.filter _ ((i, (0 : Int)) :: enumF (zi (List.replicate s 0 ++ c :: rest)) (addI i 1))).map _ = _
    rw [List.filter_cons, if_neg (show ¬ notB (eqI (0 : Int) 0) = true by rw [eq_t rfl]; decide), h, addI_eq]
    congr 1
    push_cast; omega
theorem enum_len {α : Type} : ∀ (xs : List α) (i : Int), (enumF xs i).length = xs.length
  | [], _ => rfl
  | x :: xs, i => by show (enumF xs (addI i 1)).length + 1 = _; rw [enum_len xs]; rfl
/-- the place of the digit number s -/
def plc (l b : Nat) : Nat → Nat
  | 0 => 1
  | s + 1 => l * b ^ s
theorem place_for {l b : Nat} {pI lI9 : Int} (hlI : lI9 = (l : Int)) (hb : maxI pI 1 = (b : Int)) (hb2 : b < 1000) (hl : l < 1000) {fin : Int → Prop} (hb1 : 1 ≤ b) (hl1 : 1 ≤ l) :
    ∀ (m s : Nat), plc l b (s + m) < 2 ^ 4000 → fin ((plc l b (s + m) : Nat) : Int) → forK fin (fun _ (x : Int) (s : Int) nx => (joinK (fun (x123 : Int) => (mulK False s x123 fun x124 => (nx (x124)))) fun J120 => (bK (eqI x 0) (J120 lI9) (letK (maxI pI 1) fun x122 => (J120 x122))))) (rngF 1 m (s : Int)) ((plc l b s : Nat) : Int)
  | 0, s, _, h => h
  | m + 1, s, hp, h => by
    have step : plc l b (s + 1) = plc l b s * (if s = 0 then l else b) := by
      cases s with
      | zero => show l * b ^ 0 = 1 * l; rw [Nat.pow_zero]; omega
      | succ s => show l * b ^ (s + 1) = l * b ^ s * b; rw [Nat.pow_succ, Nat.mul_assoc]
    have mono : ∀ j, plc l b s ≤ plc l b (s + j) := by
      intro j
      induction j with
      | zero => exact Nat.le_refl _
      | succ j ih =>
        refine Nat.le_trans ih ?_
        cases hs : s + j with
        | zero => rw [show s + (j + 1) = 0 + 1 by omega]; show 1 ≤ l * b ^ 0; rw [Nat.pow_zero]; omega
        | succ i => rw [show s + (j + 1) = (i + 1) + 1 by omega]; show l * b ^ i ≤ l * b ^ (i + 1); exact Nat.mul_le_mul_left _ (Nat.pow_le_pow_right hb1 (by omega))
    have hw : plc l b s < 2 ^ 4000 := Nat.lt_of_le_of_lt (mono (m + 1)) hp
    have ih := place_for hlI hb hb2 hl hb1 hl1 (fin := fin) m (s + 1) (by rw [show s + 1 + m = s + (m + 1) by omega]; exact hp) (by rw [show s + 1 + m = s + (m + 1) by omega]; exact h)
    show forK fin _ ((s : Int) :: rngF 1 m (addI (s : Int) 1)) _
    rw [forK_cons, joinK_go, letK_go, hlI, hb]
    by_cases h0 : s = 0
    · subst h0
      rw [eq_t (by rfl)]
      show mulK False ((plc l b 0 : Nat) : Int) (l : Int) _
      rw [mulK_go (p4000 hw) (sm (by omega)), ← Int.natCast_mul]
      rw [step, if_pos rfl, hlI, hb] at ih
      exact ih
    · rw [eq_f (by omega)]
      show mulK False ((plc l b s : Nat) : Int) (b : Int) _
      rw [mulK_go (p4000 hw) (sm (by omega)), ← Int.natCast_mul]
      show forK fin _ (rngF 1 m (addI (s : Int) 1)) _
      rw [addI_eq]
      rw [step, if_neg h0, hlI, hb] at ih
      exact ih
theorem core {l p N : Nat} {ld dgs : Int → Option (List Int)} {lhm hm : Int → Option Bool} {len : Option (Option Int)} {ofd : List Int → Option Int} {sup : Int → Option (List Int)} {hld kp : Int → Int → Option Bool} {nxo : Int → Option (Option Int)} {lx pI n : Int} {nxp : Prop}
    (hl : 2 ≤ l) (hl2 : l ≤ 20) (hp : 2 ≤ p) (hN : N ≠ 0) (hN4 : N < 2 ^ 3000) (hlx : lx = (l : Int)) (hn : n = (N : Int) - 1) (hb : (maxI pI 1 = (p : Int) ∧ p < 1000) ∨ (N < p ∧ maxI pI 1 = 1))
    (h1 : ld N = some (zi (Dg l p N))) (h2 : dgs N = some (zi (Dg l p N))) (h3 : lhm n = some (duB (Dg l p N))) (h4 : hm n = some (duB (Dg l p N))) (h5 : len = some (some (l : Int))) (h6 : ofd (zi (Dg l p N)) = some (N : Int))
    (h7 : Shp l p N → sup N = some [(N : Int)]) (h8 : ∀ t : Nat, 0 < t → 2 * t ≤ N → hld ((N : Int) - 1 - 2 * t) n = some (zt (zi (Dg l p t)) (zi (Dg l p N))))
    (h9 : ∀ i c q : Nat, 0 < c → 0 < q → ((c < l ∧ i = 0 ∧ N = c + l * q) ∨ (∃ i', i = i' + 1 ∧ c < p ∧ p < 1000 ∧ N = l * (p ^ i' * (c + p * q)))) → nxo ((N : Int) - 1 - 2 * ((c * plc l p i : Nat) : Int)) = some (some n) ∧ kp n ((N : Int) - 1 - 2 * ((c * plc l p i : Nat) : Int)) = some false) (hx : nxp) :
    coreB ld dgs lhm hm len ofd sup hld kp nxo lx pI n nxp := by
  unfold coreB
  have hN40 : N < 2 ^ 4000 := Nat.lt_trans hN4 (Nat.pow_lt_pow_right (by decide) (by decide))
  have en : addI n 1 = (N : Int) := by rw [addI_eq, hn]; omega
  have ln8 : Lt2 8000 n := by rw [hn]; exact (Lt2.sub (n := 4000) (lt2_nat hN40) (Lt2.mono (n := 1) (by decide) (by decide))).mono (by decide)
  rw [letK_go, en, callK_go h1, callK_go h3, joinK_go, callK_go h5, optK_some, hlx, eq_t rfl, bK_no (show notB true = false from rfl), letK_go, callK_go h2, eqL_refl, bK_no (show notB true = false from rfl), callK_go h6, letK_go, eq_t rfl]
  show bK (notB true) False _
  rw [bK_no (show notB true = false from rfl), callK_go h4, chkK_go (show eqB (duB (Dg l p N)) (duB (Dg l p N)) = true by rw [eqB_beq]; simp)]
  have hlenD := Dg_len (l := l) hp hN40
  by_cases hd : nz (Dg l p N) = 1
  · rw [bK_go (show duB (Dg l p N) = true from decide_eq_true hd)]
    have S := shape_one hl hp hN hd
    rw [rng1K_go (by decide) (by decide)]
    refine lcK_inv (fun y => ∃ t : Nat, 0 < t ∧ y = (N : Int) - 1 - 2 * t) (by rw [rng2F_len]; decide) ?_ ?_
    · intro x _ k' hk
      refine ⟨by decide, fun r hr0 hr1 => ?_⟩
      have hr2 : r < 30 := by omega
      show letK (addI 1 r) _
      rw [letK_go, addI_eq, mulK_go (lt2_small (by decide) (by decide)) (lt2_small (by omega) (by omega)), letK_go, subI_eq]
      exact hk _ ⟨(1 + r).toNat, by omega, by omega⟩
    · intro ys hyl hy
      rw [joinK_go, letK_go, callK_go (h7 S), letK_go, eqL_refl [(N : Int)], bK_no (show notB true = false from rfl), lcFK_ok (cb := fun y => leI 0 y) (g := fun _ => false) (by rw [hyl, rng2F_len]; decide) (fun _ _ _ => rfl) ?_]
      · have e : ∀ ys : List Int, anyE eqB true ((ys.filter fun y => leI 0 y).map fun _ => false) = false := by
          intro ys
          generalize ys.filter (fun y => leI 0 y) = zs
          induction zs with
          | nil => rfl
          | cons z zs ih => exact ih
        rw [e]
        show bK false False nxp
        exact hx
      · intro y hyy hc k
        obtain ⟨t, t0, rfl⟩ := hy y hyy
        rw [leI_eq] at hc
        have := of_decide_eq_true hc
        rw [callK_go (h8 t t0 (by omega)), zt_due hl hp S (by omega) (by omega)]
  · rw [bK_no (show duB (Dg l p N) = false from decide_eq_false hd)]
    have fin2 : ∀ (s c q : Nat), c ≠ 0 → 0 < q → c < 100000 → (zi (Dg l p N)) = zi (List.replicate s 0 ++ c :: dg p q) → s ≤ 4000 → plc l p s < 2 ^ 3000 → 2 * (c * plc l p s) ≤ N → (s = 0 ∨ (maxI pI 1 = (p : Int) ∧ p < 1000)) → zt (zi (Dg l p (c * plc l p s))) (zi (Dg l p N)) = true → (nxo ((N : Int) - 1 - 2 * ((c * plc l p s : Nat) : Int)) = some (some n) ∧ kp n ((N : Int) - 1 - 2 * ((c * plc l p s : Nat) : Int)) = some false) →
        (letK (enumF (zi (Dg l p N)) 0) fun x109 => (lcFK False (fun (x111 : (Int × Int)) J137 => (J137 (notB (eqI (x111).2 0)))) (fun (x111 : (Int × Int)) (k112 : Int → _) => (k112 (x111).1)) x109 fun ys113 => (callK False (atF ys113 0) fun x114 => (rng1K False x114 fun x118 => (forK (fun (s125 : (Int)) => (callK False (atF (zi (Dg l p N)) x114) fun x126 => (mulK False 2 x126 fun x127 => (mulK False x127 s125 fun x128 => (letK (subI n x128) fun x129 => (joinK (fun (b135 : Bool) => (bK b135 False nxp)) fun J130 => (callK False (hld x129 n) fun x131 => (bK (notB (eqB x131 true)) (J130 true) (callK False (kp n x129) fun x132 => (bK (notB (eqB x132 false)) (J130 true) (callK False (nxo x129) fun x133 => (optK x133 False fun x134 => (J130 (ltI n x134)))))))))))))) (fun fin116 (x119 : Int) (s115 : (Int)) nx117 => (joinK (fun (x123 : Int) => (mulK False s115 x123 fun x124 => (nx117 (x124)))) fun J120 => (bK (eqI x119 0) (J120 ((l : Nat) : Int)) (letK (maxI pI 1) fun x122 => (J120 x122))))) x118 (1)))))) := by
      intro s c q c0 q0 cb eD hs hpl h2t hbs hz hno
      rw [letK_go, lcFK_ok (cb := fun x : Int × Int => notB (eqI x.2 0)) (g := fun x => x.1) (by rw [enum_len, zi_len]; omega) (fun _ _ _ => rfl) (fun _ _ _ _ => rfl)]
      obtain ⟨r, er⟩ := enum_first c c0 (dg p q) s 0
      rw [eD, er, Int.zero_add, callK_go (show atF ((s : Int) :: r) 0 = some (s : Int) from rfl), rng1K_go (by omega) (by omega)]
      have at_s : atF (zi (List.replicate s 0 ++ c :: dg p q)) (s : Int) = some (c : Int) := by
        show nthN _ s = _
        rw [nthN_eq, zi_app, List.getElem?_append_right (by rw [zi_len, List.length_replicate]; exact Nat.le_refl _), zi_len, List.length_replicate, Nat.sub_self]; rfl
      have pl40 : plc l p s < 2 ^ 4000 := Nat.lt_trans hpl (Nat.pow_lt_pow_right (by decide) (by decide))
      have goal : (callK False (atF (zi (List.replicate s 0 ++ c :: dg p q)) (s : Int)) fun x126 => (mulK False 2 x126 fun x127 => (mulK False x127 ((plc l p s : Nat) : Int) fun x128 => (letK (subI n x128) fun x129 => (joinK (fun (b135 : Bool) => (bK b135 False nxp)) fun J130 => (callK False (hld x129 n) fun x131 => (bK (notB (eqB x131 true)) (J130 true) (callK False (kp n x129) fun x132 => (bK (notB (eqB x132 false)) (J130 true) (callK False (nxo x129) fun x133 => (optK x133 False fun x134 => (J130 (ltI n x134)))))))))))) ) := by
        have ek : subI n (2 * (c : Int) * ((plc l p s : Nat) : Int)) = (N : Int) - 1 - 2 * ((c * plc l p s : Nat) : Int) := by rw [subI_eq, hn, Int.mul_assoc, ← Int.natCast_mul]
        have hpos : 0 < plc l p s := by
          cases s with
          | zero => exact Nat.one_pos
          | succ s => exact Nat.mul_pos (by omega) (Nat.pow_pos (by omega))
        rw [callK_go at_s, mulK_go (lt2_small (by decide) (by decide)) (sm cb), mulK_go (lt2_small (by omega) (by omega)) (p4000 pl40), letK_go, ek, joinK_go, callK_go (h8 (c * plc l p s) (Nat.mul_pos (by omega) hpos) h2t), hz, bK_no (show notB (eqB true true) = false from rfl), callK_go hno.2, bK_no (show notB (eqB false false) = false from rfl), callK_go hno.1, optK_some, lt_f (by omega)]
        show bK false False nxp
        exact hx
      rcases hbs with rfl | ⟨hb1, hb2⟩
      · exact goal
      · unfold rng2F
        rw [toNatI_eq, subI_eq, Int.sub_zero, Int.toNat_natCast]
        exact place_for (l := l) (b := p) rfl hb1 hb2 (by omega) (by omega) (by omega) s 0 (by rw [Nat.zero_add]; exact pl40) (by rw [Nat.zero_add]; exact goal)
    rcases shape_two hl hp hN hd with ⟨c, q, c0, c1, q0, hNe, e⟩ | ⟨i, c, q, c0, c1, q0, hNe, e⟩
    · refine fin2 0 c q (by omega) q0 (by omega) (by rw [e]; rfl) (Nat.zero_le _) (Nat.lt_of_lt_of_le (show 1 < 2 by decide) (Nat.le_self_pow (by decide) 2)) ?_ (Or.inl rfl) ?_ (h9 0 c q c0 q0 (Or.inl ⟨c1, rfl, hNe⟩))
      · show 2 * (c * 1) ≤ N
        have : l * 1 ≤ l * q := Nat.mul_le_mul_left _ q0
        omega
      · rw [e]; show zt (zi (Dg l p (c * 1))) _ = true; rw [Nat.mul_one]; exact zt_two0 hl hp c1
    · rcases hb with ⟨hb1, hb2⟩ | ⟨hb1, _⟩
      · have hW : plc l p (i + 1) = l * p ^ i := rfl
        have oa := over_arith (W := l * p ^ i) (c := c) (b := p) (q := q) (Nat.mul_ne_zero (by omega) (Nat.ne_of_gt (Nat.pow_pos (by omega)))) c0 c1 q0
        have eN : N = l * p ^ i * (c + p * q) := by rw [hNe, Nat.mul_assoc]
        have hle : l * p ^ i ≤ N := by rw [eN]; exact Nat.le_mul_of_pos_right _ (by omega)
        refine fin2 (i + 1) c q (by omega) q0 (by omega) (by rw [e]; rfl) ?_ (by rw [hW]; exact Nat.lt_of_le_of_lt hle hN4) (by rw [hW, eN]; exact oa.2.1) (Or.inr ⟨hb1, hb2⟩) ?_ (h9 (i + 1) c q c0 q0 (Or.inr ⟨i, rfl, c1, hb2, hNe⟩))
        · have h2i : 2 ^ i ≤ p ^ i := Nat.pow_le_pow_left hp i
          have h3 : p ^ i ≤ l * p ^ i := Nat.le_mul_of_pos_left _ (by omega)
          have h4 : 2 ^ i < 2 ^ 3000 := Nat.lt_of_le_of_lt (Nat.le_trans h2i (Nat.le_trans h3 hle)) hN4
          have := (Nat.pow_lt_pow_iff_right (by decide)).mp h4
          omega
        · rw [e, hW, show c * (l * p ^ i) = l * (p ^ i * c) by rw [Nat.mul_comm, Nat.mul_assoc]]
          exact zt_two hl hp c0 c1
      · exfalso
        have h1 : 1 * (1 * (p * 1)) ≤ l * (p ^ i * (c + p * q)) := Nat.mul_le_mul (by omega) (Nat.mul_le_mul (Nat.pow_pos (by omega)) (Nat.le_trans (Nat.mul_le_mul_left p q0) (by omega)))
        omega
theorem hm_go {ds : List Nat} {n : Int} {dg9 : Int → Option (List Int)} (hd : ds.length ≤ 5000) (h : dg9 (addI n 1) = some (zi ds)) :
    (letK (addI n 1) fun x12 => (callK none (dg9 x12) fun x13 => (lcFK none (fun (x15 : Int) J20 => (J20 (notB (eqI x15 0)))) (fun (x15 : Int) (k16 : Int → _) => (k16 x15)) x13 fun ys17 => (letK (lenI ys17) fun x18 => (some (eqI x18 1)))))) = some (duB ds) := by
  rw [letK_go, callK_go h, lcFK_ok (cb := fun x => notB (eqI x 0)) (g := fun x => x) (by rw [zi_len]; omega) (fun _ _ _ => rfl) (fun _ _ _ _ => rfl), letK_go, du_len]
theorem p3000 {N : Nat} (h : N < 2 ^ 3000) : N < 2 ^ 4000 := Nat.lt_trans h (Nat.pow_lt_pow_right (by decide) (by decide))
theorem Ps_b {p : Nat} (hp : p ∈ Ps) : 2 ≤ p ∧ p < 100 := by
  unfold Ps at hp
  simp only [List.mem_cons, List.not_mem_nil, or_false] at hp
  omega
theorem next_P {l p N M i' : Nat} (hl : 2 ≤ l) (hp : 2 ≤ p) (hp2 : p < 1000) (hN : N < 2 ^ 3000) {W c b q : Nat} (hW : W ≠ 0) (c0 : 0 < c) (c1 : c < b) (q0 : 0 < q) (eN : N = W * (c + b * q)) (eM : M = N - 2 * (c * W)) (eB : l * p ^ i' = W * b) (hdiv : ∀ j, j < i' → M % (l * p ^ j) = 0) {k : Int} (hk : k = (M : Int) - 1) :
    f_next_over_P_III p l k = some (some ((N : Int) - 1)) := by
  have oa := over_arith hW c0 c1 q0
  rw [← eN, ← eM] at oa
  have hWb : W * b ≤ N := by rw [eN]; exact Nat.mul_le_mul_left _ (Nat.le_trans (Nat.le_mul_of_pos_right b q0) (by omega))
  have hb0 : W * b ≠ 0 := Nat.mul_ne_zero hW (by omega)
  have hN4 := p3000 hN
  have hfuel : i' < 1000000 := by
    have h2i : 2 ^ i' ≤ p ^ i' := Nat.pow_le_pow_left hp i'
    have h3 : p ^ i' ≤ l * p ^ i' := Nat.le_mul_of_pos_left _ (by omega)
    have := (Nat.pow_lt_pow_iff_right (by decide)).mp (Nat.lt_of_le_of_lt (Nat.le_trans h2i (Nat.le_trans h3 (by rw [eB]; exact hWb))) hN4)
    omega
  unfold f_next_over_P_III
  have hf : f_first_not_dividing_P_III p l (M : Int) = some (some ((W * b : Nat) : Int)) := by
    unfold f_first_not_dividing_P_III
    rw [joinK_go, joinK_go, bK_no (eq_f (by omega))]
    show bK false _ _ = _
    rw [bK_false, ← eB]
    exact place_loop hp i' 1000000 l hfuel (by omega) hdiv (by rw [eB]; exact oa.2.2) (by rw [eB]; exact Nat.lt_of_le_of_lt hWb hN4) hp2
  have e1 : 2 * (M / (W * b) * (W * b) + W * b) = N + M := by
    rw [oa.1]
    have : N = W * b * q + c * W := by rw [eN, Nat.mul_add, Nat.mul_comm W c, Nat.mul_assoc]; omega
    omega
  exact over_go (M := M) (B := W * b) (N := N) hb0 (by omega) (Nat.lt_of_le_of_lt hWb (Nat.lt_trans hN4 (Nat.pow_lt_pow_right (by decide) (by decide)))) e1 hN4 hk hf
theorem h9_P {l p N d : Nat} (hp : p ∈ Ps) (hl : 2 ≤ l) (hN : N < 2 ^ 3000) (hlen : f_length_P_II p d = some (some (l : Int))) {n : Int} (hn : n = (N : Int) - 1) (i c q : Nat) (c0 : 0 < c) (q0 : 0 < q) (h : (c < l ∧ i = 0 ∧ N = c + l * q) ∨ (∃ i', i = i' + 1 ∧ c < p ∧ p < 1000 ∧ N = l * (p ^ i' * (c + p * q)))) :
    f_next_over_P_III p l ((N : Int) - 1 - 2 * ((c * plc l p i : Nat) : Int)) = some (some n) ∧ f_keeps_all_P_IIII p d n ((N : Int) - 1 - 2 * ((c * plc l p i : Nat) : Int)) = some false := by
  obtain ⟨p2, p100⟩ := Ps_b hp
  have hno : f_next_over_P_III p l ((N : Int) - 1 - 2 * ((c * plc l p i : Nat) : Int)) = some (some n) := by
    rw [hn]
    rcases h with ⟨c1, rfl, e⟩ | ⟨i', rfl, c1, _, e⟩
    · have oa := over_arith (W := 1) (by decide) c0 c1 q0
      refine next_P (M := N - 2 * (c * 1)) (i' := 0) (W := 1) (b := l) hl p2 (by omega) hN (by decide) c0 c1 q0 (by rw [Nat.one_mul]; exact e) rfl (by rw [Nat.pow_zero, Nat.mul_one, Nat.one_mul]) (fun j hj => absurd hj (Nat.not_lt_zero j)) ?_
      show _ = ((N - 2 * (c * 1) : Nat) : Int) - 1
      rw [Nat.one_mul, ← e] at oa
      have := oa.2.1
      show (N : Int) - 1 - 2 * ((c * 1 : Nat) : Int) = _
      omega
    · have hW0 : l * p ^ i' ≠ 0 := Nat.mul_ne_zero (by omega) (Nat.ne_of_gt (Nat.pow_pos (by omega)))
      have eN : N = l * p ^ i' * (c + p * q) := by rw [e, Nat.mul_assoc]
      have oa := over_arith (W := l * p ^ i') hW0 c0 c1 q0
      rw [← eN] at oa
      refine next_P (M := N - 2 * (c * (l * p ^ i'))) (i' := i' + 1) (W := l * p ^ i') (b := p) hl p2 (by omega) hN hW0 c0 c1 q0 eN rfl (by rw [Nat.pow_succ, Nat.mul_assoc]) (fun j hj => ?_) ?_
      · have hd : l * p ^ j ∣ l * p ^ i' := Nat.mul_dvd_mul_left l (Nat.pow_dvd_pow p (by omega))
        refine Nat.mod_eq_zero_of_dvd (Nat.dvd_sub ?_ ?_)
        · rw [eN]; exact Nat.dvd_trans hd (Nat.dvd_mul_right _ _)
        · exact Nat.dvd_trans hd (Nat.dvd_trans (Nat.dvd_mul_left _ c) (Nat.dvd_mul_left _ 2))
      · have := oa.2.1
        show (N : Int) - 1 - 2 * ((c * (l * p ^ i') : Nat) : Int) = _
        omega
  refine ⟨hno, ?_⟩
  unfold f_keeps_all_P_IIII
  rw [callK_go hlen, optK_some, callK_go hno, optK_some, joinK_go, lt_f (by omega)]
theorem h9_Q {l p N : Nat} {d : Int × Int} (hp : N < p) (hl : 2 ≤ l) (hl2 : l ≤ 20) (hN : N < 2 ^ 3000) (hlen : f_length_Q_ITIIe 0 d = some (some (l : Int))) {n : Int} (hn : n = (N : Int) - 1) (i c q : Nat) (c0 : 0 < c) (q0 : 0 < q) (h : (c < l ∧ i = 0 ∧ N = c + l * q) ∨ (∃ i', i = i' + 1 ∧ c < p ∧ p < 1000 ∧ N = l * (p ^ i' * (c + p * q)))) :
    f_next_over_Q_III 0 l ((N : Int) - 1 - 2 * ((c * plc l p i : Nat) : Int)) = some (some n) ∧ f_keeps_all_Q_ITIIeII 0 d n ((N : Int) - 1 - 2 * ((c * plc l p i : Nat) : Int)) = some false := by
  have hno : f_next_over_Q_III 0 l ((N : Int) - 1 - 2 * ((c * plc l p i : Nat) : Int)) = some (some n) := by
    rw [hn]
    rcases h with ⟨c1, rfl, e⟩ | ⟨i', rfl, c1, _, e⟩
    · have oa := over_arith (W := 1) (by decide) c0 c1 q0
      rw [Nat.one_mul, Nat.one_mul, ← e] at oa
      have hle : l ≤ N := by rw [e]; exact Nat.le_trans (Nat.le_mul_of_pos_right l q0) (by omega)
      have e1 : 2 * ((N - 2 * (c * 1)) / l * l + l) = N + (N - 2 * (c * 1)) := by
        rw [oa.1]
        have := oa.2.1
        omega
      have hf : f_first_not_dividing_Q_III 0 l ((N - 2 * (c * 1) : Nat) : Int) = some (some (l : Int)) := by
        unfold f_first_not_dividing_Q_III
        rw [joinK_go, joinK_go, bK_go (eq_t rfl), modK_go (by omega), modC, eq_f (by have := oa.2.2; omega)]
        show bK false _ _ = _
        rw [bK_false, show (1000000 : Nat) = 999999 + 1 from rfl, whileK_succ, modK_go (by omega), modC, eq_f (by have := oa.2.2; omega)]
        rfl
      have hk : (N : Int) - 1 - 2 * ((c * 1 : Nat) : Int) = ((N - 2 * (c * 1) : Nat) : Int) - 1 := by have := oa.2.1; omega
      unfold f_next_over_Q_III
      exact over_go (M := N - 2 * (c * 1)) (B := l) (N := N) (by omega) (by have := p3000 hN; omega) (Nat.lt_of_le_of_lt hle (Nat.lt_trans (p3000 hN) (Nat.pow_lt_pow_right (by decide) (by decide)))) e1 (p3000 hN) hk hf
    · exfalso
      have h1 : 1 * (1 * (p * 1)) ≤ l * (p ^ i' * (c + p * q)) := Nat.mul_le_mul (by omega) (Nat.mul_le_mul (Nat.pow_pos (by omega)) (Nat.le_trans (Nat.mul_le_mul_left p q0) (by omega)))
      omega
  refine ⟨hno, ?_⟩
  unfold f_keeps_all_Q_ITIIeII
  rw [callK_go hlen, optK_some, callK_go hno, optK_some, joinK_go, lt_f (by omega)]
def farB (a_p a_l : Int) (kk : Int → Prop) : Prop :=
  (pickP 4 fun x1 => (callK False (dixF [(0, 40), (2, 80), (3, 50), (5, 36), (7, 30), (11, 25), (13, 24)] a_p) fun x5 => (pickP x5 fun x6 => (rng1K False x6 fun x7 => (forK (fun (s16 : (Int)) => (letK (maxI 2 a_p) fun x17 => (letK (subI x17 1) fun x18 => (pickP x18 fun x19 => (letK (addI 1 x19) fun x20 => (mulK False s16 x20 fun x21 => (letK (subI x21 1) fun x22 => (joinK (fun (s24 : (Int)) => (joinK (fun (x49 : Int) => (letK (maxI 1 x49) fun x50 => (kk x50))) fun J42 => (bK (ltI x1 3) (J42 s24) (pickP 1000000000000 fun x46 => (pickP 1000000000000 fun x47 => (mulK False x46 x47 fun x48 => (J42 x48))))))) fun J23 => (bK (eqI x1 1) (pickP 9 fun x25 => (letK (addI 1 x25) fun x26 => (pickP 14 fun x30 => (rng1K False x30 fun x31 => (forK (fun (s40 : (Int)) => (letK (addI x22 s40) fun x41 => (J23 (x41)))) (fun fin28 (x32 : Int) (s27 : (Int)) nx29 => (joinK (fun (x38 : Int) => (mulK False s27 x38 fun x39 => (nx29 (x39)))) fun J33 => (joinK (fun (b37 : Bool) => (bK b37 (J33 a_p) (J33 a_l))) fun J36 => (bK (ltI 0 a_p) (J36 (ltI 0 x32)) (J36 false))))) x31 (x26)))))) (J23 (x22))))))))))) (fun fin3 (x8 : Int) (s2 : (Int)) nx4 => (joinK (fun (x14 : Int) => (mulK False s2 x14 fun x15 => (nx4 (x15)))) fun J9 => (joinK (fun (b13 : Bool) => (bK b13 (J9 a_p) (J9 a_l))) fun J12 => (bK (ltI 0 a_p) (J12 (ltI 0 x8)) (J12 false))))) x7 (1))))))
theorem pow_step {i : Nat} {s f : Int} (h1 : 1 ≤ s) (h2 : s < 2 ^ (5 * i + 1)) (f1 : 1 ≤ f) (f2 : f ≤ 20) : 1 ≤ s * f ∧ s * f < 2 ^ (5 * (i + 1) + 1) := by
  have e : (2 : Int) ^ (5 * (i + 1) + 1) = 2 ^ (5 * i + 1) * 32 := by rw [show 5 * (i + 1) + 1 = 5 * i + 1 + 5 by omega, Int.pow_add]; rfl
  have a1 : 1 * 1 ≤ s * f := Int.mul_le_mul h1 f1 (by decide) (by omega)
  have a2 : s * f ≤ s * 20 := Int.mul_le_mul_of_nonneg_left f2 (by omega)
  rw [e]
  omega
theorem far_go {p l : Int} {cnt : Int} (hp : p = 0 ∨ (2 ≤ p ∧ p ≤ 13)) (hl : 2 ≤ l) (hl2 : l ≤ 20) (hc : dixF [(0, 40), (2, 80), (3, 50), (5, 36), (7, 30), (11, 25), (13, 24)] p = some cnt) (h0 : 0 ≤ cnt) (h80 : cnt ≤ 80) {kk : Int → Prop} (hk : ∀ n, 1 ≤ n → n < 2 ^ 1000 → kk n) : farB p l kk := by
  unfold farB
  have lt8 : ∀ {x : Int}, 0 ≤ x → x < 2 ^ 1000 → Lt2 8000 x := fun a b => (lt2_of a b).mono (by decide)
  have factor : ∀ {s : Int} {i : Nat} {nx : Int → Prop} (x : Int), 1 ≤ s → s < 2 ^ (5 * i + 1) → i ≤ 100 → (∀ s', 1 ≤ s' → s' < 2 ^ (5 * (i + 1) + 1) → nx s') →
      (joinK (fun (x14 : Int) => (mulK False s x14 fun x15 => (nx (x15)))) fun J9 => (joinK (fun (b13 : Bool) => (bK b13 (J9 p) (J9 l))) fun J12 => (bK (ltI 0 p) (J12 (ltI 0 x)) (J12 false)))) := by
    intro s i nx x s1 s2 hi hnx
    have go : ∀ f : Int, 1 ≤ f → f ≤ 20 → mulK False s f fun x15 => nx x15 := by
      intro f f1 f2
      have hs : s < 2 ^ 1000 := Int.lt_of_lt_of_le s2 (ipow_le (by omega))
      rw [mulK_go (lt8 (by omega) hs) (lt2_small (by omega) (by omega))]
      obtain ⟨q1, q2⟩ := pow_step s1 s2 f1 f2
      exact hnx _ q1 q2
    rw [joinK_go, joinK_go]
    rcases hp with rfl | ⟨p1, p2⟩
    · exact go l (by omega) hl2
    · rw [bK_go (lt_t (by omega))]
      show bK (ltI 0 x) _ _
      cases ltI 0 x with
      | true => exact go p (by omega) (by omega)
      | false => exact go l (by omega) hl2
  refine pick_go (by decide) fun x1 _ _ => ?_
  rw [callK_go hc]
  refine pick_go (by omega) fun x6 x60 x61 => ?_
  have x62 : x6 ≤ 80 := by omega
  rw [rng1K_go x60 (by omega)]
  have P0 : ∀ i : Nat, i ≤ 80 → (2 : Int) ^ (5 * i + 1) ≤ 2 ^ 401 := fun i hi => ipow_le (by omega)
  have e500 : (2 : Int) ^ 401 * 64 = 2 ^ 407 := by rw [show 407 = 401 + 6 from rfl, Int.pow_add]; rfl
  have e1000 : (2 : Int) ^ 408 ≤ 2 ^ 1000 := ipow_le (by decide)
  have e408 : (2 : Int) ^ 408 = 2 * 2 ^ 407 := by rw [show 408 = 1 + 407 from rfl, Int.pow_add]; rfl
  have e407 : (2 : Int) ^ 100 ≤ 2 ^ 407 := ipow_le (by decide)
  refine forK_inv (fun i s => 1 ≤ s ∧ s < 2 ^ (5 * i + 1)) _ 0 1 ⟨by decide, by decide⟩ ?_ ?_
  · rintro x i s nx _ hi ⟨s1, s2⟩ hnx
    rw [rng2F_len] at hi
    exact factor x s1 s2 (by omega) fun s' q1 q2 => hnx s' ⟨q1, q2⟩
  · rintro s ⟨s1, s2⟩
    rw [rng2F_len] at s2
    have s4 : s < 2 ^ 401 := Int.lt_of_lt_of_le s2 (P0 _ (by omega))
    have mx : maxI 2 p = 2 ∨ maxI 2 p = p := by rw [maxI_eq]; split <;> simp
    rw [letK_go, letK_go]
    have m2 : 2 ≤ maxI 2 p ∧ maxI 2 p ≤ 13 := by rw [maxI_eq]; split <;> omega
    rw [subI_eq]
    refine pick_go (by omega) fun x19 a1 a2 => ?_
    have a3 : x19 ≤ 12 := by omega
    rw [letK_go, addI_eq, mulK_go (lt8 (by omega) (by omega)) (lt2_small (by omega) (by omega)), letK_go, subI_eq, joinK_go]
    have b1 : 1 * 1 ≤ s * (1 + x19) := Int.mul_le_mul s1 (by omega) (by decide) (by omega)
    have b2 : s * (1 + x19) ≤ s * 13 := Int.mul_le_mul_of_nonneg_left (by omega) (by omega)
    have last : ∀ y : Int, y < 2 ^ 408 → (joinK (fun (x49 : Int) => (letK (maxI 1 x49) fun x50 => (kk x50))) fun J42 => (bK (ltI x1 3) (J42 y) (pickP 1000000000000 fun x46 => (pickP 1000000000000 fun x47 => (mulK False x46 x47 fun x48 => (J42 x48)))))) := by
      intro y hy
      have fin : ∀ z : Int, z < 2 ^ 408 → letK (maxI 1 z) fun x50 => kk x50 := by
        intro z hz
        rw [letK_go]
        refine hk _ ?_ ?_
        · rw [maxI_eq]; split <;> omega
        · rw [maxI_eq]; split <;> omega
      rw [joinK_go]
      cases ltI x1 3 with
      | true => exact fin y hy
      | false =>
        show pickP 1000000000000 _
        refine pick_go (by decide) fun x46 c1 c2 => pick_go (by decide) fun x47 d1 d2 => ?_
        rw [mulK_go (lt2_small (by omega) (by omega)) (lt2_small (by omega) (by omega))]
        refine fin _ ?_
        have : x46 * x47 ≤ 1000000000000 * 1000000000000 := Int.mul_le_mul (by omega) (by omega) d1 (by decide)
        have : (1000000000000 : Int) * 1000000000000 < 2 ^ 100 := by decide
        omega
    cases eqI x1 1 with
    | false => exact last _ (by omega)
    | true =>
      show pickP 9 _
      refine pick_go (by decide) fun x25 c1 c2 => ?_
      rw [letK_go, addI_eq]
      refine pick_go (by decide) fun x30 d1 d2 => ?_
      rw [rng1K_go d1 (by omega)]
      refine forK_inv (fun i s => 1 ≤ s ∧ s < 2 ^ (5 * (i + 1) + 1)) _ 0 (1 + x25) ⟨by omega, by show _ < (64 : Int); omega⟩ ?_ ?_
      · rintro x i s nx _ hi ⟨s1, s2⟩ hnx
        rw [rng2F_len] at hi
        exact factor x s1 s2 (by omega) fun s' q1 q2 => hnx s' ⟨q1, q2⟩
      · rintro t ⟨t1, t2⟩
        rw [rng2F_len] at t2
        have t4 : t < 2 ^ 100 := Int.lt_of_lt_of_le t2 (ipow_le (by omega))
        rw [letK_go, addI_eq]
        exact last _ (by omega)
/-- behind a draw, where the worth has no length -/
def coreN (pI : Int) (d : Int × Int) (n : Int) (nxp : Prop) : Prop :=
  (letK (addI n 1) fun x142 => (callK False (f_law_digits_Q_INI pI () x142) fun x143 => (callK False (f_law_has_middle_Q_ITIIeI pI d n) fun x144 => (joinK (fun (b152 : Bool) => (bK b152 False (callK False (f_has_middle_Q_ITIIeI pI d n) fun x153 => (chkK False (eqB x153 x144) (bK x144 (rng1K False 4 fun x155 => (lcK False (fun (x157 : Int) (k158 : Int → _) => (pickP 30 fun x160 => (letK (addI 1 x160) fun x161 => (mulK False 2 x161 fun x162 => (letK (subI n x162) fun x163 => (k158 x163)))))) x155 fun ys159 => (joinK (fun (b175 : Bool) => (bK b175 False nxp)) fun J164 => (letK (addI n 1) fun x165 => (callK False (f_support_Q_INI pI () x165) fun x166 => (letK (addI n 1) fun x167 => (bK (notB ((eqL eqI) x166 ([x167] : List Int))) (J164 true) (lcFK False (fun (x169 : Int) J174 => (J174 (leI 0 x169))) (fun (x169 : Int) (k170 : Bool → _) => (callK False (f_holds_Q_INII pI () x169 n) fun x172 => (k170 x172))) ys159 fun ys171 => (J164 (anyE eqB true ys171)))))))))) False))))) fun J145 => (callK False (f_length_Q_ITIIe pI d) fun x146 => (optK x146 (letK (addI n 1) fun x148 => (callK False (f_digits_Q_INI pI () x148) fun x149 => (bK (notB ((eqL eqI) ([x149] : List Int) x143)) (J145 true) (callK False (f_of_digits_Q_INvI pI () x143) fun x150 => (letK (addI n 1) fun x151 => (J145 (notB (eqI x150 x151)))))))) fun x147 => (J145 true)))))))
theorem law_field {kk : Int → Prop} (h : ∀ p : Nat, p ∈ Ps → kk p) (h0 : kk 0) : f_law_draw_field kk := by
  unfold f_law_draw_field
  refine pick_go (by decide) fun r a b => ?_
  have q : r = 0 ∨ r = 1 ∨ r = 2 ∨ r = 3 ∨ r = 4 ∨ r = 5 ∨ r = 6 ∨ r = 7 ∨ r = 8 ∨ r = 9 := by omega
  have g : ∀ p : Nat, p ∈ Ps → kk p := h
  rcases q with rfl | rfl | rfl | rfl | rfl | rfl | rfl | rfl | rfl | rfl
  · exact h 2 (by decide)
  · exact h 3 (by decide)
  · exact h 5 (by decide)
  · exact h 7 (by decide)
  · exact h 2 (by decide)
  · exact h 3 (by decide)
  · exact h 11 (by decide)
  · exact h 13 (by decide)
  · exact h0
  · exact h 5 (by decide)
theorem law_worth_P {p : Nat} (hp : p ∈ Ps) {kk : Int → Prop} (h : ∀ d : Nat, d < p → kk d) : f_law_draw_worth_P_I p kk := by
  obtain ⟨p2, p100⟩ := Ps_b hp
  unfold f_law_draw_worth_P_I
  rw [bK_go (lt_t (by omega))]
  refine pick_go (by omega) fun r a b => ?_
  have := h r.toNat (by omega)
  rw [Int.toNat_of_nonneg a] at this
  exact this
theorem fr_all : ([0, 1, -1, 2, -2, 3] : List Int).all (fun u => ([1, 2] : List Int).all fun e => match f_law_fraction_II u e with | some d => FRs.any fun x => eqP eqI eqI x d | none => false) = true := by decide +kernel
theorem eqP_to {x y : Int × Int} (h : eqP eqI eqI x y = true) : x = y := by
  obtain ⟨a, b⟩ := x
  obtain ⟨c, e⟩ := y
  have h : bK (eqI a c) (eqI b e) false = true := h
  rw [bK_eq, eqI_eq, eqI_eq] at h
  by_cases q : a = c
  · rw [if_pos (decide_eq_true q)] at h
    rw [q, of_decide_eq_true h]
  · rw [if_neg (by rw [decide_eq_false q]; decide)] at h; cases h
theorem fr_one {u e : Int} (hu : u ∈ ([0, 1, -1, 2, -2, 3] : List Int)) (he : e ∈ ([1, 2] : List Int)) : ∃ d, f_law_fraction_II u e = some d ∧ d ∈ FRs := by
  have h := List.all_eq_true.mp (List.all_eq_true.mp fr_all u hu) e he
  split at h
  · rename_i d ed
    obtain ⟨x, hx, hxd⟩ := List.any_eq_true.mp h
    rw [eqP_to hxd] at hx
    exact ⟨d, ed, hx⟩
  · cases h
theorem law_worth_Q {kk : Int × Int → Prop} (h : ∀ d, d ∈ FRs → kk d) : f_law_draw_worth_Q_I 0 kk := by
  unfold f_law_draw_worth_Q_I
  rw [bK_no (lt_f (by decide)), letK_go, letK_go]
  refine pick_go (by decide) fun r a b => ?_
  have q : r = 0 ∨ r = 1 ∨ r = 2 ∨ r = 3 ∨ r = 4 ∨ r = 5 ∨ r = 6 := by omega
  have in_e : ∀ {u : Int}, u ∈ ([0, 1, -1, 2, -2, 3] : List Int) → (pickP 4 fun x5 => (callK False (atF ([1, 1, 1, 2] : List Int) x5) fun x6 => (callK False (f_law_fraction_II u x6) fun x7 => (kk x7)))) := by
    intro u hu
    refine pick_go (by decide) fun s a b => ?_
    have q : s = 0 ∨ s = 1 ∨ s = 2 ∨ s = 3 := by omega
    have fin : ∀ {e : Int}, e ∈ ([1, 2] : List Int) → callK False (f_law_fraction_II u e) fun x7 => (kk x7) := by
      intro e he
      obtain ⟨d, ed, hd⟩ := fr_one hu he
      exact callP ed (h d hd)
    rcases q with rfl | rfl | rfl | rfl
    · exact fin (by decide)
    · exact fin (by decide)
    · exact fin (by decide)
    · exact fin (by decide)
  rcases q with rfl | rfl | rfl | rfl | rfl | rfl | rfl
  · exact in_e (by decide)
  · exact in_e (by decide)
  · exact in_e (u := -1) (by decide)
  · exact in_e (by decide)
  · exact in_e (u := -2) (by decide)
  · exact in_e (by decide)
  · exact in_e (by decide)
theorem ext_N {n : Int} (hn : 1 ≤ n) (h : n < 2 ^ 1000) : ∃ N : Nat, n = (N : Int) - 1 ∧ N ≠ 0 ∧ N < 2 ^ 3000 := by
  refine ⟨(n + 1).toNat, by omega, by omega, ?_⟩
  have h2 : (n + 1).toNat ≤ 2 ^ 1001 := by
    have e : ((2 ^ 1001 : Nat) : Int) = 2 * 2 ^ 1000 := by push_cast; rw [show 1001 = 1 + 1000 from rfl, Int.pow_add]; rfl
    omega
  exact Nat.lt_of_le_of_lt h2 (Nat.pow_lt_pow_right (by decide) (by decide))
theorem core_P {p d l N : Nat} (hp : p ∈ Ps) (hd : d < p) (hl : 2 ≤ l) (hl2 : l ≤ 20) (e1 : f_law_length_P_II p d = some (some (l : Int))) (e2 : f_length_P_II p d = some (some (l : Int))) (hN : N ≠ 0) (hN3 : N < 2 ^ 3000) {n : Int} (hn : n = (N : Int) - 1) {nxp : Prop} (hx : nxp) :
    coreB (f_law_digits_P_III p l) (f_digits_P_III p l) (f_law_has_middle_P_III p d) (f_has_middle_P_III p d) (f_length_P_II p d) (f_of_digits_P_IIvI p l) (f_support_P_III p l) (f_holds_P_IIII p l) (f_keeps_all_P_IIII p d) (f_next_over_P_III p l) l p n nxp := by
  obtain ⟨p2, p100⟩ := Ps_b hp
  have hN4 := p3000 hN3
  have en : addI n 1 = (N : Int) := by rw [addI_eq, hn]; omega
  have hlen : (Dg l p N).length ≤ 5000 := by have := Dg_len (l := l) p2 hN4; omega
  refine core hl hl2 p2 hN hN3 rfl hn (Or.inl ⟨by rw [maxI_eq]; split <;> omega, by omega⟩) (law_digits_P hl (by omega) p2 (by omega) hN4) (digits_P hl (by omega) p2 (by omega) hN4) ?_ ?_ e2 (ofd_P hl (by omega) p2 (by omega) hN4) (fun S => sup_P hl (by omega) p2 (by omega) hN4 S) ?_ (fun i c q c0 q0 h => h9_P hp hl hN3 e2 hn i c q c0 q0 h) hx
  · unfold f_law_has_middle_P_III
    rw [callK_go e1, optK_some]
    exact hm_go (ds := Dg l p N) hlen (by rw [en]; exact law_digits_P hl (by omega) p2 (by omega) hN4)
  · unfold f_has_middle_P_III
    rw [callK_go e2, optK_some]
    exact hm_go (ds := Dg l p N) hlen (by rw [en]; exact digits_P hl (by omega) p2 (by omega) hN4)
  · intro t t0 t1
    unfold f_holds_P_IIII
    exact holds_go t0 t1 p2 hN4 (digits_P hl (by omega) p2 (by omega) (Nat.lt_of_le_of_lt (by omega) hN4)) (digits_P hl (by omega) p2 (by omega) hN4) rfl hn
theorem core_Q {d : Int × Int} {l N : Nat} (hl : 2 ≤ l) (hl2 : l ≤ 20) (e1 : f_law_length_Q_ITIIe 0 d = some (some (l : Int))) (e2 : f_length_Q_ITIIe 0 d = some (some (l : Int))) (hN : N ≠ 0) (hN3 : N < 2 ^ 3000) {n : Int} (hn : n = (N : Int) - 1) {nxp : Prop} (hx : nxp) :
    coreB (f_law_digits_Q_III 0 l) (f_digits_Q_III 0 l) (f_law_has_middle_Q_ITIIeI 0 d) (f_has_middle_Q_ITIIeI 0 d) (f_length_Q_ITIIe 0 d) (f_of_digits_Q_IIvI 0 l) (f_support_Q_III 0 l) (f_holds_Q_IIII 0 l) (f_keeps_all_Q_ITIIeII 0 d) (f_next_over_Q_III 0 l) l 0 n nxp := by
  have hN4 := p3000 hN3
  have en : addI n 1 = (N : Int) := by rw [addI_eq, hn]; omega
  have p2 : 2 ≤ N + 2 := by omega
  have hp2 : N < N + 2 := by omega
  have hlen : (Dg l (N + 2) N).length ≤ 5000 := by have := Dg_len (l := l) p2 hN4; omega
  refine core (p := N + 2) hl hl2 p2 hN hN3 rfl hn (Or.inr ⟨hp2, rfl⟩) (law_digits_Q hl (by omega) p2 hp2 hN4) (digits_Q hl (by omega) p2 hp2 hN4) ?_ ?_ e2 (ofd_Q hl (by omega) p2 hp2 hN4) (fun S => sup_Q hl (by omega) p2 hp2 hN4 S) ?_ (fun i c q c0 q0 h => h9_Q hp2 hl hl2 hN3 e2 hn i c q c0 q0 h) hx
  · unfold f_law_has_middle_Q_ITIIeI
    rw [callK_go e1, optK_some]
    exact hm_go (ds := Dg l (N + 2) N) hlen (by rw [en]; exact law_digits_Q hl (by omega) p2 hp2 hN4)
  · unfold f_has_middle_Q_ITIIeI
    rw [callK_go e2, optK_some]
    exact hm_go (ds := Dg l (N + 2) N) hlen (by rw [en]; exact digits_Q hl (by omega) p2 hp2 hN4)
  · intro t t0 t1
    unfold f_holds_Q_IIII
    exact holds_go t0 t1 p2 hN4 (digits_Q hl (by omega) p2 (by omega) (Nat.lt_of_le_of_lt (by omega) hN4)) (digits_Q hl (by omega) p2 hp2 hN4) rfl hn
theorem core_N {d : Int × Int} {N : Nat} (e1 : f_law_length_Q_ITIIe 0 d = some none) (e2 : f_length_Q_ITIIe 0 d = some none) (hN : N ≠ 0) (hN3 : N < 2 ^ 3000) {n : Int} (hn : n = (N : Int) - 1) {nxp : Prop} (hx : nxp) : coreN 0 d n nxp := by
  unfold coreN
  have hN4 := p3000 hN3
  have en : addI n 1 = (N : Int) := by rw [addI_eq, hn]; omega
  have one : ([(N : Int)].filter fun x => notB (eqI x 0)) = [(N : Int)] := by rw [List.filter_cons, if_pos (show notB (eqI (N : Int) 0) = true by rw [eq_f (by omega)]; rfl)]; rfl
  have lhm : f_law_has_middle_Q_ITIIeI 0 d n = some true := by
    unfold f_law_has_middle_Q_ITIIeI
    rw [callK_go e1, optK_none, letK_go, en, callK_go (show f_law_digits_Q_INI 0 () (N : Int) = some [(N : Int)] from rfl), lcFK_ok (cb := fun x => notB (eqI x 0)) (g := fun x => x) (by show 1 ≤ 100000; decide) (fun _ _ _ => rfl) (fun _ _ _ _ => rfl), one]
    rfl
  have hm : f_has_middle_Q_ITIIeI 0 d n = some true := by
    unfold f_has_middle_Q_ITIIeI
    rw [callK_go e2, optK_none, letK_go, en, callK_go (show f_digits_Q_INI 0 () (N : Int) = some (N : Int) from rfl), lcFK_ok (cb := fun x => notB (eqI x 0)) (g := fun x => x) (by show 1 ≤ 100000; decide) (fun _ _ _ => rfl) (fun _ _ _ _ => rfl), one]
    rfl
  have ofd : f_of_digits_Q_INvI 0 () [(N : Int)] = some (N : Int) := by
    unfold f_of_digits_Q_INvI f_parts_Q_INvI
    rw [forK_cons]
    show callK none (optK (some (1 : Int)) none _) _ = _
    rw [optK_some, mulK_go (p4000 hN4) (lt2_small (by decide) (by decide)), Int.mul_one]
    show letK (sumI [(N : Int)]) _ = _
    rw [letK_go, show sumI [(N : Int)] = (N : Int) from by rw [sumI_eq]; simp]
  have sup : f_support_Q_INI 0 () (N : Int) = some [(N : Int)] := by
    unfold f_support_Q_INI
    rw [callK_go (show f_digits_Q_INI 0 () (N : Int) = some (N : Int) from rfl)]
    have hp : f_parts_Q_INTIe 0 () (N : Int) = some [(N : Int)] := by
      unfold f_parts_Q_INTIe
      rw [forK_cons]
      show optK (some (1 : Int)) none _ = _
      rw [optK_some, mulK_go (p4000 hN4) (lt2_small (by decide) (by decide)), Int.mul_one]
      rfl
    rw [callK_go hp, letK_go, callK_go (show atF [(N : Int)] (negI 1) = some (N : Int) from at_last [] _), letK_go, letK_go, show cutF [(N : Int)] none (some (negI 1)) = [] from cut_last [] _]
    rfl
  rw [letK_go, en, callK_go (show f_law_digits_Q_INI 0 () (N : Int) = some [(N : Int)] from rfl), callK_go lhm, joinK_go, callK_go e2, optK_none, letK_go, callK_go (show f_digits_Q_INI 0 () (N : Int) = some (N : Int) from rfl), eqL_refl [(N : Int)], bK_no (show notB true = false from rfl), callK_go ofd, letK_go, eq_t rfl]
  show bK (notB true) False _
  rw [bK_no (show notB true = false from rfl), callK_go hm, chkK_go (show eqB true true = true from rfl), bK_true, rng1K_go (by decide) (by decide)]
  refine lcK_inv (fun y => ∃ t : Nat, 0 < t ∧ y = (N : Int) - 1 - 2 * t) (by rw [rng2F_len]; decide) ?_ ?_
  · intro x _ k' hk
    refine pick_go (by decide) fun r hr0 hr1 => ?_
    rw [letK_go, addI_eq, mulK_go (lt2_small (by decide) (by decide)) (lt2_small (by omega) (by omega)), letK_go, subI_eq]
    exact hk _ ⟨(1 + r).toNat, by omega, by omega⟩
  · intro ys hyl hy
    rw [joinK_go, letK_go, callK_go sup, letK_go, eqL_refl [(N : Int)], bK_no (show notB true = false from rfl), lcFK_ok (cb := fun y => leI 0 y) (g := fun _ => false) (by rw [hyl, rng2F_len]; decide) (fun _ _ _ => rfl) ?_]
    · have e : ∀ ys : List Int, anyE eqB true ((ys.filter fun y => leI 0 y).map fun _ => false) = false := by
        intro ys
        generalize ys.filter (fun y => leI 0 y) = zs
        induction zs with
        | nil => rfl
        | cons z zs ih => exact ih
      rw [e]
      show bK false False nxp
      exact hx
    · intro y hyy hc k
      obtain ⟨t, t0, rfl⟩ := hy y hyy
      rw [leI_eq] at hc
      have h0 := of_decide_eq_true hc
      have hh : f_holds_Q_INII 0 () ((N : Int) - 1 - 2 * t) n = some false := by
        have ed : subI n ((N : Int) - 1 - 2 * t) = ((2 * t : Nat) : Int) := by rw [subI_eq, hn]; omega
        unfold f_holds_Q_INII
        rw [joinK_go, bK_no (le_f (by omega)), letK_go, modK_go (by decide), ed]
        show bK (eqI (((2 * t : Nat) : Int) % 2) 1) _ _ = _
        rw [bK_no (eq_f (by omega)), letK_go, divK_go (by decide) (lt2_small (by decide) (by decide)), show (((2 * t : Nat) : Int) / 2) = (t : Int) by omega, callK_go (show f_digits_Q_INI 0 () (t : Int) = some (t : Int) from rfl), letK_go, en, callK_go (show f_digits_Q_INI 0 () (N : Int) = some (N : Int) from rfl), letK_go]
        rw [lcK_ok (g := fun x : Int × Int => anyE eqI x.1 [0, x.2]) (by show 1 ≤ 100000; decide) (fun _ _ _ => rfl), letK_go]
        show some (bK (anyE eqI (t : Int) [0, (N : Int)]) true false) = _
        rw [any_f (by omega) (by omega)]; rfl
      rw [callK_go hh]
theorem few_P {p d l : Nat} (hp : p ∈ Ps) (hl : 2 ≤ l) (hl2 : l ≤ 20) (e1 : f_law_length_P_II p d = some (some (l : Int))) (e2 : f_length_P_II p d = some (some (l : Int))) {x : Int} (h1 : 1 ≤ x) (h2 : x < 100) : f_has_middle_P_III p d x = some (duB (Dg l p (x + 1).toNat)) ∧ f_law_has_middle_P_III p d x = some (duB (Dg l p (x + 1).toNat)) := by
  obtain ⟨p2, p100⟩ := Ps_b hp
  have hN4 : (x + 1).toNat < 2 ^ 4000 := Nat.lt_of_lt_of_le (show (x + 1).toNat < 2 ^ 7 by omega) (Nat.pow_le_pow_right (by decide) (by decide))
  have en : addI x 1 = (((x + 1).toNat : Nat) : Int) := by rw [addI_eq]; omega
  have hlen : (Dg l p (x + 1).toNat).length ≤ 5000 := by have := Dg_len (l := l) p2 hN4; omega
  constructor
  · unfold f_has_middle_P_III
    rw [callK_go e2, optK_some]
    exact hm_go (ds := Dg l p (x + 1).toNat) hlen (by rw [en]; exact digits_P hl (by omega) p2 (by omega) hN4)
  · unfold f_law_has_middle_P_III
    rw [callK_go e1, optK_some]
    exact hm_go (ds := Dg l p (x + 1).toNat) hlen (by rw [en]; exact law_digits_P hl (by omega) p2 (by omega) hN4)
noncomputable def fewB (d : Int × Int) : Bool := (rng2F 1 100).all fun x => match f_has_middle_Q_ITIIeI 0 d x, f_law_has_middle_Q_ITIIeI 0 d x with
  | some a, some b => eqB a b
  | _, _ => false
theorem fewB_all : (FRs.all fun d => fewB d) = true := by decide +kernel
theorem few_Q {d : Int × Int} (hd : d ∈ FRs) {x : Int} (hx : x ∈ rng2F 1 100) : ∃ b, f_has_middle_Q_ITIIeI 0 d x = some b ∧ f_law_has_middle_Q_ITIIeI 0 d x = some b := by
  have h := List.all_eq_true.mp (List.all_eq_true.mp fewB_all d hd) x hx
  split at h
  · rename_i a b ea eb
    rw [eqB_to h] at ea
    exact ⟨b, ea, eb⟩
  · cases h
def opB (o : Option Bool) : Bool := o.getD false
theorem r100 {k : List Int → Prop} : rng2K False 1 100 k = k (rng2F 1 100) := chkK_go (by decide)
theorem end_go {hm lhm : Int → Option Bool} (h : ∀ x ∈ rng2F 1 100, ∃ b, hm x = some b ∧ lhm x = some b) :
    (rng2K False 1 100 fun x265 => (lcFK False (fun (x267 : Int) J279 => (callK False (hm x267) fun x280 => (J279 x280))) (fun (x267 : Int) (k268 : Int → _) => (k268 x267)) x265 fun ys269 => (rng2K False 1 100 fun x270 => (lcFK False (fun (x272 : Int) J276 => (callK False (lhm x272) fun x277 => (J276 x277))) (fun (x272 : Int) (k273 : Int → _) => (k273 x272)) x270 fun ys274 => (((eqL eqI) ys269 ys274) = true))))) := by
  have hl : (rng2F 1 100).length ≤ 100000 := by rw [rng2F_len]; decide
  rw [r100]
  rw [lcFK_ok (cb := fun x => opB (hm x)) (g := fun x => x) hl (fun x hx J => by obtain ⟨b, e, _⟩ := h x hx; rw [callK_go e, e]; rfl) (fun _ _ _ _ => rfl)]
  rw [r100]
  rw [lcFK_ok (cb := fun x => opB (hm x)) (g := fun x => x) hl (fun x hx J => by obtain ⟨b, e, e2⟩ := h x hx; rw [callK_go e2, e]; rfl) (fun _ _ _ _ => rfl)]
  exact eqL_refl _
def okS (i : Nat) : (Int × Int) ⊕ ((Int × (Int × Int)) ⊕ Unit) → Prop
  | .inl v => ∃ p d : Nat, p ∈ Ps ∧ d < p ∧ v = ((p : Int), (d : Int))
  | .inr (.inl v) => v.1 = 0 ∧ v.2 ∈ FRs
  | .inr (.inr _) => i = 0
theorem law_true : w_law := by
  unfold w_law
  rw [rng1K_go (by decide) (by decide)]
  refine forK_inv okS _ 0 (Sum.inr (Sum.inr ())) rfl ?_ ?_
  · intro x i s nx _ _ _ hnx
    refine law_field (fun p hp => ?_) ?_
    · obtain ⟨p2, p100⟩ := Ps_b hp
      rw [bK_go (lt_t (by omega))]
      refine law_worth_P hp fun d hd => ?_
      obtain ⟨l, l2, l20, e1, e2⟩ := len_P hp hd
      rw [callK_go e1, optK_some]
      have hc : ∃ cnt : Int, dixF [(0, 40), (2, 80), (3, 50), (5, 36), (7, 30), (11, 25), (13, 24)] (p : Int) = some cnt ∧ 0 ≤ cnt ∧ cnt ≤ 80 := by
        unfold Ps at hp
        simp only [List.mem_cons, List.not_mem_nil, or_false] at hp
        rcases hp with rfl | rfl | rfl | rfl | rfl | rfl <;> exact ⟨_, rfl, by decide, by decide⟩
      obtain ⟨cnt, hc, c0, c80⟩ := hc
      have hp13 : p ≤ 13 := by
        unfold Ps at hp
        simp only [List.mem_cons, List.not_mem_nil, or_false] at hp
        omega
      refine far_go (Or.inr ⟨by omega, by omega⟩) (by omega) (by omega) hc c0 c80 fun n n1 n2 => ?_
      obtain ⟨N, hn, hN, hN3⟩ := ext_N n1 n2
      exact core_P hp hd l2 l20 e1 e2 hN hN3 hn (hnx _ ⟨p, d, hp, hd, rfl⟩)
    · rw [bK_no (lt_f (by decide))]
      refine law_worth_Q fun d hd => ?_
      have hx2 : okS (i + 1) (Sum.inr (Sum.inl ((0 : Int), d))) := ⟨rfl, hd⟩
      rcases len_Q hd with ⟨e1, e2⟩ | ⟨l, l2, l20, e1, e2⟩
      · rw [callK_go e1, optK_none]
        refine far_go (l := 3) (cnt := 40) (Or.inl rfl) (by decide) (by decide) rfl (by decide) (by decide) fun n n1 n2 => ?_
        obtain ⟨N, hn, hN, hN3⟩ := ext_N n1 n2
        exact core_N e1 e2 hN hN3 hn (hnx _ hx2)
      · rw [callK_go e1, optK_some]
        refine far_go (cnt := 40) (Or.inl rfl) (by omega) (by omega) rfl (by decide) (by decide) fun n n1 n2 => ?_
        obtain ⟨N, hn, hN, hN3⟩ := ext_N n1 n2
        exact core_Q l2 l20 e1 e2 hN hN3 hn (hnx _ hx2)
  · intro s hs
    rcases s with v | v | v
    · obtain ⟨p, d, hp, hd, rfl⟩ := hs
      obtain ⟨l, l2, l20, e1, e2⟩ := len_P hp hd
      refine end_go fun x hx => ?_
      obtain ⟨x1, x2⟩ := rng2F_mem hx
      obtain ⟨a, b⟩ := few_P hp l2 l20 e1 e2 x1 x2
      exact ⟨_, a, b⟩
    · obtain ⟨q, d⟩ := v
      obtain ⟨h0, hd⟩ := hs
      obtain rfl : q = 0 := h0
      exact end_go fun x hx => few_Q hd hx
    · have h0 : (0 + (4 - 0 : Int).toNat) = 0 := by rw [rng2F_len] at hs; exact hs
      exact absurd h0 (by decide)

section
variable {Pg : Program} {w : World} {K : PySem.W.Frag} {mg : Str → Option Value} {base : Heap} {k : Nat}
abbrev s_law_draw_field : Stmt := topS 30
theorem sc_law_draw_field : FnScope ["source"] ["source"] (defScope s_law_draw_field) := ⟨rfl, rfl, rfl, by decide +kernel, rfl, by decide +kernel, by decide +kernel⟩
abbrev s_law_draw_worth : Stmt := topS 31
theorem sc_law_draw_worth : FnScope ["source", "p"] ["source", "p"] (defScope s_law_draw_worth) := ⟨rfl, rfl, rfl, by decide +kernel, rfl, by decide +kernel, by decide +kernel⟩
abbrev s_law_number : Stmt := topS 26
theorem sc_law_number : FnScope ["p", "n"] ["p", "n"] (defScope s_law_number) := ⟨rfl, rfl, rfl, by decide +kernel, rfl, by decide +kernel, by decide +kernel⟩
abbrev s_law_times : Stmt := topS 28
theorem sc_law_times : FnScope ["p", "x", "y"] ["p", "x", "y"] (defScope s_law_times) := ⟨rfl, rfl, rfl, by decide +kernel, rfl, by decide +kernel, by decide +kernel⟩
abbrev s_law_plus : Stmt := topS 27
theorem sc_law_plus : FnScope ["p", "x", "y"] ["p", "x", "y"] (defScope s_law_plus) := ⟨rfl, rfl, rfl, by decide +kernel, rfl, by decide +kernel, by decide +kernel⟩
abbrev s_law_minus : Stmt := topS 29
theorem sc_law_minus : FnScope ["p", "x", "y"] ["p", "x", "y"] (defScope s_law_minus) := ⟨rfl, rfl, rfl, by decide +kernel, rfl, by decide +kernel, by decide +kernel⟩
abbrev s_law_worth_row : Stmt := topS 32
theorem sc_law_worth_row : FnScope ["p", "d", "m", "row"] ["p", "d", "m"] (defScope s_law_worth_row) := ⟨rfl, rfl, rfl, by decide +kernel, rfl, by decide +kernel, by decide +kernel⟩
abbrev s_law_length : Stmt := topS 33
theorem sc_law_length : FnScope ["p", "d", "row", "spots", "l"] ["p", "d"] (defScope s_law_length) := ⟨rfl, rfl, rfl, by decide +kernel, rfl, by decide +kernel, by decide +kernel⟩
abbrev s_law_draw_far : Stmt := topS 36
theorem sc_law_draw_far : FnScope ["source", "p", "l", "n", "way", "lap", "low"] ["source", "p", "l"] (defScope s_law_draw_far) := ⟨rfl, rfl, rfl, by decide +kernel, rfl, by decide +kernel, by decide +kernel⟩
abbrev s_law_digits : Stmt := topS 34
theorem sc_law_digits : FnScope ["p", "l", "whole", "found", "rest"] ["p", "l", "whole"] (defScope s_law_digits) := ⟨rfl, rfl, rfl, by decide +kernel, rfl, by decide +kernel, by decide +kernel⟩
abbrev s_law_has_middle : Stmt := topS 35
theorem sc_law_has_middle : FnScope ["p", "d", "n", "digit"] ["p", "d", "n"] (defScope s_law_has_middle) := ⟨rfl, rfl, rfl, by decide +kernel, rfl, by decide +kernel, by decide +kernel⟩
abbrev s_number : Stmt := topS 10
theorem sc_number : FnScope ["p", "n"] ["p", "n"] (defScope s_number) := ⟨rfl, rfl, rfl, by decide +kernel, rfl, by decide +kernel, by decide +kernel⟩
abbrev s_times : Stmt := topS 12
theorem sc_times : FnScope ["p", "x", "y", "u", "e", "v", "f"] ["p", "x", "y"] (defScope s_times) := ⟨rfl, rfl, rfl, by decide +kernel, rfl, by decide +kernel, by decide +kernel⟩
abbrev s_minus : Stmt := topS 11
theorem sc_minus : FnScope ["p", "x", "y", "u", "e", "v", "f"] ["p", "x", "y"] (defScope s_minus) := ⟨rfl, rfl, rfl, by decide +kernel, rfl, by decide +kernel, by decide +kernel⟩
abbrev s_worth_row : Stmt := topS 15
theorem sc_worth_row : FnScope ["p", "d", "m", "row"] ["p", "d", "m"] (defScope s_worth_row) := ⟨rfl, rfl, rfl, by decide +kernel, rfl, by decide +kernel, by decide +kernel⟩
abbrev s_length : Stmt := topS 16
theorem sc_length : FnScope ["p", "d", "longest", "row", "nought"] ["p", "d"] (defScope s_length) := ⟨rfl, rfl, rfl, by decide +kernel, rfl, by decide +kernel, by decide +kernel⟩
abbrev s_digits : Stmt := topS 2
theorem sc_digits : FnScope ["p", "l", "N", "told", "rest"] ["p", "l", "N"] (defScope s_digits) := ⟨rfl, rfl, rfl, by decide +kernel, rfl, by decide +kernel, by decide +kernel⟩
abbrev s_parts : Stmt := topS 4
theorem sc_parts : FnScope ["p", "l", "told", "parts", "place", "digit"] ["p", "l", "told"] (defScope s_parts) := ⟨rfl, rfl, rfl, by decide +kernel, rfl, by decide +kernel, by decide +kernel⟩
abbrev s_of_digits : Stmt := topS 3
theorem sc_of_digits : FnScope ["p", "l", "told"] ["p", "l", "told"] (defScope s_of_digits) := ⟨rfl, rfl, rfl, by decide +kernel, rfl, by decide +kernel, by decide +kernel⟩
abbrev s_has_middle : Stmt := topS 18
theorem sc_has_middle : FnScope ["p", "d", "n", "digit"] ["p", "d", "n"] (defScope s_has_middle) := ⟨rfl, rfl, rfl, by decide +kernel, rfl, by decide +kernel, by decide +kernel⟩
abbrev s_support : Stmt := topS 5
theorem sc_support : FnScope ["p", "l", "N", "parts", "found", "part", "x"] ["p", "l", "N"] (defScope s_support) := ⟨rfl, rfl, rfl, by decide +kernel, rfl, by decide +kernel, by decide +kernel⟩
abbrev s_holds : Stmt := topS 6
theorem sc_holds : FnScope ["p", "l", "k", "r", "taken", "digit", "other"] ["p", "l", "k", "r"] (defScope s_holds) := ⟨rfl, rfl, rfl, by decide +kernel, rfl, by decide +kernel, by decide +kernel⟩
abbrev s_first_not_dividing : Stmt := topS 8
theorem sc_first_not_dividing : FnScope ["p", "l", "N", "place"] ["p", "l", "N"] (defScope s_first_not_dividing) := ⟨rfl, rfl, rfl, by decide +kernel, rfl, by decide +kernel, by decide +kernel⟩
abbrev s_next_over : Stmt := topS 7
theorem sc_next_over : FnScope ["p", "l", "k", "N", "place", "above"] ["p", "l", "k"] (defScope s_next_over) := ⟨rfl, rfl, rfl, by decide +kernel, rfl, by decide +kernel, by decide +kernel⟩
abbrev s_keeps_all : Stmt := topS 20
theorem sc_keeps_all : FnScope ["p", "d", "n", "k", "further"] ["p", "d", "n", "k"] (defScope s_keeps_all) := ⟨rfl, rfl, rfl, by decide +kernel, rfl, by decide +kernel, by decide +kernel⟩
abbrev s_law_common : Stmt := topS 24
theorem sc_law_common : FnScope ["a", "b"] ["a", "b"] (defScope s_law_common) := ⟨rfl, rfl, rfl, by decide +kernel, rfl, by decide +kernel, by decide +kernel⟩
abbrev s_law_fraction : Stmt := topS 25
theorem sc_law_fraction : FnScope ["u", "d", "unit"] ["u", "d"] (defScope s_law_fraction) := ⟨rfl, rfl, rfl, by decide +kernel, rfl, by decide +kernel, by decide +kernel⟩
abbrev s_shortened : Stmt := topS 13
theorem sc_shortened : FnScope ["u", "e", "divisor"] ["u", "e"] (defScope s_shortened) := ⟨rfl, rfl, rfl, by decide +kernel, rfl, by decide +kernel, by decide +kernel⟩
abbrev W_law_pick : Wp := fun as Q => ∃ m : Int, as = [.src, dI m] ∧ m < 2 ^ 200 ∧ ∀ r : Int, 0 ≤ r → (r < m ∨ r = 0) → Q (.int r)
/-! _law_pick -/
abbrev s_law_pick : Stmt := topS 23
theorem sc_law_pick : FnScope ["source", "most", "cells", "others", "lap", "stirred"] ["source", "most"] (defScope s_law_pick) := ⟨rfl, rfl, rfl, by decide +kernel, rfl, by decide +kernel, by decide +kernel⟩
theorem ok_law_pick {f : Addr} {fd : FuncData} (F : Fun K "_law_pick" "_law_pick" s_law_pick f fd) (B : Blt mg)   : FnG Pg w K mg base (k + 1) f fd ["source", "most"] (spOf K W_law_pick) := by
  refine okFn F sc_law_pick (by rintro as Q ⟨m, rfl, hm, hQ⟩; rfl) ?_
  rintro X C Fx as Q ⟨m, rfl, hm, hQ⟩
  refine BN.cons ?_
  refine SN.ife ?_
  refine TN.lt ?_
  refine EN.var (i := 1) C rfl (by walk_at "vis") rfl ?_
  refine EN.int ?_
  refine Ibd (fun hb => ?_) (fun hb => ?_)
  · walk_at "go"
    refine BN.cons ?_
    refine SN.ret ?_
    refine EN.int ?_
    exact hQ 0 (by decide) (Or.inr rfl)
  · walk_at "go"
    refine BN.nil ?_
    refine BN.cons ?_
    refine SN.celGet (i := 0) (i2 := 2) C Fx rfl (by walk_at "vis") rfl rfl (by walk_at "vis") rfl ?_
    refine BN.cons ?_
    refine SN.srcWhile (i := 0) (i2 := 2) C rfl (by walk_at "vis") rfl rfl (by walk_at "vis") rfl rfl B.len ?_ rfl rfl
    refine BN.cons ?_
    refine SN.asg (i := 3) C Fx rfl (by walk_at "vis") rfl ?_
    refine EN.srcLeft (i := 0) C rfl (by walk_at "vis") rfl (fun v1 hv1 => ?_)
    refine BN.cons ?_
    refine SN.ife ?_
    refine TN.gt ?_
    refine EN.var (i := 3) C rfl (by walk_at "vis") rfl ?_
    refine EN.int ?_
    refine Ibd (fun hb => ?_) (fun hb => ?_)
    · walk_at "go"
      refine BN.cons ?_
      refine SN.srcPut (i := 0) C rfl (by walk_at "vis") rfl (Or.inl rfl) rfl ?_
      refine EN.div ?_
      refine EN.var (i := 3) C rfl (by walk_at "vis") rfl ?_
      refine EN.var (i := 1) C rfl (by walk_at "vis") rfl ?_
      refine DivI.i (by omega) (by omega) ?_
      refine ⟨_, rfl, (by walk_at "nn"), ?_⟩
      refine BN.cons ?_
      refine SN.ret ?_
      refine EN.mod ?_
      refine EN.intc C rfl B.int ?_ rfl rfl
      refine EN.var (i := 3) C rfl (by walk_at "vis") rfl ?_
      refine EN.var (i := 1) C rfl (by walk_at "vis") rfl ?_
      refine ModI.i (by omega) ?_
      exact hQ _ (Int.emod_nonneg _ (by omega)) (Or.inl (Int.emod_lt_of_pos _ (by omega)))
    · walk_at "go"
      refine BN.nil ?_
      refine BN.cons ?_
      refine SN.srcPut (i := 0) C rfl (by walk_at "vis") rfl (Or.inr rfl) rfl ?_
      refine EN.add ?_
      refine EN.srcTurn (i := 0) C rfl (by walk_at "vis") rfl (fun v2 hv2 => ?_)
      refine EN.int ?_
      refine AddD.i ?_
      refine ⟨_, rfl, (by walk_at "nn"), ?_⟩
      refine BN.cons ?_
      refine SN.asg (i := 4) C Fx rfl (by walk_at "vis") rfl ?_
      refine EN.srcTurn (i := 0) C rfl (by walk_at "vis") rfl (fun v3 hv3 => ?_)
      refine BN.cons ?_
      refine SN.asg (i := 5) C Fx rfl (by walk_at "vis") rfl ?_
      refine EN.mod ?_
      refine EN.intc C rfl B.int ?_ rfl rfl
      refine EN.add ?_
      refine EN.srcMixed (i := 0) C rfl (by walk_at "vis") rfl (fun v4 hv4 hw4 => ?_)
      refine EN.mul ?_
      refine EN.var (i := 4) C rfl (by walk_at "vis") rfl ?_
      refine EN.int ?_
      refine MulD.i (by walk_at "mulok") ?_
      refine AddD.i ?_
      refine EN.int ?_
      refine ModI.i (by omega) ?_
      refine BN.cons ?_
      refine SN.asg (i := 5) C Fx rfl (by walk_at "vis") rfl ?_
      refine EN.mod ?_
      refine EN.intc C rfl B.int ?_ rfl rfl
      refine EN.add ?_
      refine EN.mul ?_
      refine EN.var (i := 5) C rfl (by walk_at "vis") rfl ?_
      refine EN.var (i := 5) C rfl (by walk_at "vis") rfl ?_
      refine MulD.i (by walk_at "mulok") ?_
      refine EN.mul ?_
      refine EN.var (i := 4) C rfl (by walk_at "vis") rfl ?_
      refine EN.int ?_
      refine MulD.i (by walk_at "mulok") ?_
      refine AddD.i ?_
      refine EN.int ?_
      refine ModI.i (by omega) ?_
      refine BN.cons ?_
      refine SN.ret ?_
      refine EN.mod ?_
      refine EN.intc C rfl B.int ?_ rfl rfl
      refine EN.div ?_
      refine EN.var (i := 5) C rfl (by walk_at "vis") rfl ?_
      refine EN.int ?_
      refine DivI.i (by omega) (by omega) ?_
      refine EN.var (i := 1) C rfl (by walk_at "vis") rfl ?_
      refine ModI.i (by omega) ?_
      exact hQ _ (Int.emod_nonneg _ (by omega)) (Or.inl (Int.emod_lt_of_pos _ (by omega)))
abbrev W_law_draw_field : Wp := fun as Q => ∃ kk : Int → Prop, as = [.src] ∧ f_law_draw_field  kk ∧ ∀ x, kk x → Q (PyData.int x)
abbrev W_law_draw_worth_P_I : Wp := fun as Q => ∃ (a_p : Int), ∃ kk : Int → Prop, as = [.src, .dat (PyData.int a_p)] ∧ f_law_draw_worth_P_I a_p kk ∧ ∀ x, kk x → Q (PyData.int x)
abbrev W_law_number_P_II : Wp := fun as Q => ∃ (a_p : Int), ∃ (a_n : Int), ∃ r : Int, as = [.dat (PyData.int a_p), .dat (PyData.int a_n)] ∧ f_law_number_P_II a_p a_n = some r ∧ Q (PyData.int r)
abbrev W_law_times_P_III : Wp := fun as Q => ∃ (a_p : Int), ∃ (a_x : Int), ∃ (a_y : Int), ∃ r : Int, as = [.dat (PyData.int a_p), .dat (PyData.int a_x), .dat (PyData.int a_y)] ∧ f_law_times_P_III a_p a_x a_y = some r ∧ Q (PyData.int r)
abbrev W_law_plus_P_III : Wp := fun as Q => ∃ (a_p : Int), ∃ (a_x : Int), ∃ (a_y : Int), ∃ r : Int, as = [.dat (PyData.int a_p), .dat (PyData.int a_x), .dat (PyData.int a_y)] ∧ f_law_plus_P_III a_p a_x a_y = some r ∧ Q (PyData.int r)
abbrev W_law_minus_P_III : Wp := fun as Q => ∃ (a_p : Int), ∃ (a_x : Int), ∃ (a_y : Int), ∃ r : Int, as = [.dat (PyData.int a_p), .dat (PyData.int a_x), .dat (PyData.int a_y)] ∧ f_law_minus_P_III a_p a_x a_y = some r ∧ Q (PyData.int r)
abbrev W_law_worth_row_P_III : Wp := fun as Q => ∃ (a_p : Int), ∃ (a_d : Int), ∃ (a_m : Int), ∃ r : (List Int), as = [.dat (PyData.int a_p), .dat (PyData.int a_d), .dat (PyData.int a_m)] ∧ f_law_worth_row_P_III a_p a_d a_m = some r ∧ Q ((lI PyData.int) r)
abbrev W_law_length_P_II : Wp := fun as Q => ∃ (a_p : Int), ∃ (a_d : Int), ∃ r : (Option Int), as = [.dat (PyData.int a_p), .dat (PyData.int a_d)] ∧ f_law_length_P_II a_p a_d = some r ∧ Q ((oI PyData.int) r)
abbrev W_law_draw_far_P_IN : Wp := fun as Q => ∃ (a_p : Int), ∃ (a_l : Unit), ∃ kk : Int → Prop, as = [.src, .dat (PyData.int a_p), .dat (uI a_l)] ∧ f_law_draw_far_P_IN a_p a_l kk ∧ ∀ x, kk x → Q (PyData.int x)
abbrev W_law_digits_P_INI : Wp := fun as Q => ∃ (a_p : Int), ∃ (a_l : Unit), ∃ (a_whole : Int), ∃ r : (List Int), as = [.dat (PyData.int a_p), .dat (uI a_l), .dat (PyData.int a_whole)] ∧ f_law_digits_P_INI a_p a_l a_whole = some r ∧ Q ((lI PyData.int) r)
abbrev W_law_digits_P_III : Wp := fun as Q => ∃ (a_p : Int), ∃ (a_l : Int), ∃ (a_whole : Int), ∃ r : (List Int), as = [.dat (PyData.int a_p), .dat (PyData.int a_l), .dat (PyData.int a_whole)] ∧ f_law_digits_P_III a_p a_l a_whole = some r ∧ Q ((lI PyData.int) r)
abbrev W_law_digits_P_INI_or_law_digits_P_III : Wp := fun as Q => W_law_digits_P_INI as Q ∨ W_law_digits_P_III as Q
abbrev W_law_has_middle_P_III : Wp := fun as Q => ∃ (a_p : Int), ∃ (a_d : Int), ∃ (a_n : Int), ∃ r : Bool, as = [.dat (PyData.int a_p), .dat (PyData.int a_d), .dat (PyData.int a_n)] ∧ f_law_has_middle_P_III a_p a_d a_n = some r ∧ Q (PyData.bool r)
abbrev W_number_P_II : Wp := fun as Q => ∃ (a_p : Int), ∃ (a_n : Int), ∃ r : Int, as = [.dat (PyData.int a_p), .dat (PyData.int a_n)] ∧ f_number_P_II a_p a_n = some r ∧ Q (PyData.int r)
abbrev W_times_P_III : Wp := fun as Q => ∃ (a_p : Int), ∃ (a_x : Int), ∃ (a_y : Int), ∃ r : Int, as = [.dat (PyData.int a_p), .dat (PyData.int a_x), .dat (PyData.int a_y)] ∧ f_times_P_III a_p a_x a_y = some r ∧ Q (PyData.int r)
abbrev W_minus_P_III : Wp := fun as Q => ∃ (a_p : Int), ∃ (a_x : Int), ∃ (a_y : Int), ∃ r : Int, as = [.dat (PyData.int a_p), .dat (PyData.int a_x), .dat (PyData.int a_y)] ∧ f_minus_P_III a_p a_x a_y = some r ∧ Q (PyData.int r)
abbrev W_worth_row_P_III : Wp := fun as Q => ∃ (a_p : Int), ∃ (a_d : Int), ∃ (a_m : Int), ∃ r : (List Int), as = [.dat (PyData.int a_p), .dat (PyData.int a_d), .dat (PyData.int a_m)] ∧ f_worth_row_P_III a_p a_d a_m = some r ∧ Q ((lI PyData.int) r)
abbrev W_length_P_II : Wp := fun as Q => ∃ (a_p : Int), ∃ (a_d : Int), ∃ r : (Option Int), as = [.dat (PyData.int a_p), .dat (PyData.int a_d)] ∧ f_length_P_II a_p a_d = some r ∧ Q ((oI PyData.int) r)
abbrev W_digits_P_INI : Wp := fun as Q => ∃ (a_p : Int), ∃ (a_l : Unit), ∃ (a_N : Int), ∃ r : (Int), as = [.dat (PyData.int a_p), .dat (uI a_l), .dat (PyData.int a_N)] ∧ f_digits_P_INI a_p a_l a_N = some r ∧ Q ((t1I PyData.int) r)
abbrev W_parts_P_INvI : Wp := fun as Q => ∃ (a_p : Int), ∃ (a_l : Unit), ∃ (a_told : (List Int)), ∃ r : (List Int), as = [.dat (PyData.int a_p), .dat (uI a_l), .dat ((vI PyData.int) a_told)] ∧ f_parts_P_INvI a_p a_l a_told = some r ∧ Q ((lI PyData.int) r)
abbrev W_of_digits_P_INvI : Wp := fun as Q => ∃ (a_p : Int), ∃ (a_l : Unit), ∃ (a_told : (List Int)), ∃ r : Int, as = [.dat (PyData.int a_p), .dat (uI a_l), .dat ((vI PyData.int) a_told)] ∧ f_of_digits_P_INvI a_p a_l a_told = some r ∧ Q (PyData.int r)
abbrev W_digits_P_III : Wp := fun as Q => ∃ (a_p : Int), ∃ (a_l : Int), ∃ (a_N : Int), ∃ r : (List Int), as = [.dat (PyData.int a_p), .dat (PyData.int a_l), .dat (PyData.int a_N)] ∧ f_digits_P_III a_p a_l a_N = some r ∧ Q ((vI PyData.int) r)
abbrev W_digits_P_INI_or_digits_P_III : Wp := fun as Q => W_digits_P_INI as Q ∨ W_digits_P_III as Q
abbrev W_has_middle_P_III : Wp := fun as Q => ∃ (a_p : Int), ∃ (a_d : Int), ∃ (a_n : Int), ∃ r : Bool, as = [.dat (PyData.int a_p), .dat (PyData.int a_d), .dat (PyData.int a_n)] ∧ f_has_middle_P_III a_p a_d a_n = some r ∧ Q (PyData.bool r)
abbrev W_parts_P_INTIe : Wp := fun as Q => ∃ (a_p : Int), ∃ (a_l : Unit), ∃ (a_told : (Int)), ∃ r : (List Int), as = [.dat (PyData.int a_p), .dat (uI a_l), .dat ((t1I PyData.int) a_told)] ∧ f_parts_P_INTIe a_p a_l a_told = some r ∧ Q ((lI PyData.int) r)
abbrev W_support_P_INI : Wp := fun as Q => ∃ (a_p : Int), ∃ (a_l : Unit), ∃ (a_N : Int), ∃ r : (List Int), as = [.dat (PyData.int a_p), .dat (uI a_l), .dat (PyData.int a_N)] ∧ f_support_P_INI a_p a_l a_N = some r ∧ Q ((vI PyData.int) r)
abbrev W_holds_P_INII : Wp := fun as Q => ∃ (a_p : Int), ∃ (a_l : Unit), ∃ (a_k0 : Int), ∃ (a_r : Int), ∃ r : Bool, as = [.dat (PyData.int a_p), .dat (uI a_l), .dat (PyData.int a_k0), .dat (PyData.int a_r)] ∧ f_holds_P_INII a_p a_l a_k0 a_r = some r ∧ Q (PyData.bool r)
abbrev W_first_not_dividing_P_INI : Wp := fun as Q => ∃ (a_p : Int), ∃ (a_l : Unit), ∃ (a_N : Int), ∃ r : Unit, as = [.dat (PyData.int a_p), .dat (uI a_l), .dat (PyData.int a_N)] ∧ f_first_not_dividing_P_INI a_p a_l a_N = some r ∧ Q (uI r)
abbrev W_next_over_P_INI : Wp := fun as Q => ∃ (a_p : Int), ∃ (a_l : Unit), ∃ (a_k0 : Int), ∃ r : Unit, as = [.dat (PyData.int a_p), .dat (uI a_l), .dat (PyData.int a_k0)] ∧ f_next_over_P_INI a_p a_l a_k0 = some r ∧ Q (uI r)
abbrev W_first_not_dividing_P_III : Wp := fun as Q => ∃ (a_p : Int), ∃ (a_l : Int), ∃ (a_N : Int), ∃ r : (Option Int), as = [.dat (PyData.int a_p), .dat (PyData.int a_l), .dat (PyData.int a_N)] ∧ f_first_not_dividing_P_III a_p a_l a_N = some r ∧ Q ((oI PyData.int) r)
abbrev W_next_over_P_III : Wp := fun as Q => ∃ (a_p : Int), ∃ (a_l : Int), ∃ (a_k0 : Int), ∃ r : (Option Int), as = [.dat (PyData.int a_p), .dat (PyData.int a_l), .dat (PyData.int a_k0)] ∧ f_next_over_P_III a_p a_l a_k0 = some r ∧ Q ((oI PyData.int) r)
abbrev W_next_over_P_INI_or_next_over_P_III : Wp := fun as Q => W_next_over_P_INI as Q ∨ W_next_over_P_III as Q
abbrev W_keeps_all_P_IIII : Wp := fun as Q => ∃ (a_p : Int), ∃ (a_d : Int), ∃ (a_n : Int), ∃ (a_k0 : Int), ∃ r : Bool, as = [.dat (PyData.int a_p), .dat (PyData.int a_d), .dat (PyData.int a_n), .dat (PyData.int a_k0)] ∧ f_keeps_all_P_IIII a_p a_d a_n a_k0 = some r ∧ Q (PyData.bool r)
abbrev W_law_draw_far_P_II : Wp := fun as Q => ∃ (a_p : Int), ∃ (a_l : Int), ∃ kk : Int → Prop, as = [.src, .dat (PyData.int a_p), .dat (PyData.int a_l)] ∧ f_law_draw_far_P_II a_p a_l kk ∧ ∀ x, kk x → Q (PyData.int x)
abbrev W_parts_P_IIvI : Wp := fun as Q => ∃ (a_p : Int), ∃ (a_l : Int), ∃ (a_told : (List Int)), ∃ r : (List Int), as = [.dat (PyData.int a_p), .dat (PyData.int a_l), .dat ((vI PyData.int) a_told)] ∧ f_parts_P_IIvI a_p a_l a_told = some r ∧ Q ((lI PyData.int) r)
abbrev W_of_digits_P_IIvI : Wp := fun as Q => ∃ (a_p : Int), ∃ (a_l : Int), ∃ (a_told : (List Int)), ∃ r : Int, as = [.dat (PyData.int a_p), .dat (PyData.int a_l), .dat ((vI PyData.int) a_told)] ∧ f_of_digits_P_IIvI a_p a_l a_told = some r ∧ Q (PyData.int r)
abbrev W_support_P_III : Wp := fun as Q => ∃ (a_p : Int), ∃ (a_l : Int), ∃ (a_N : Int), ∃ r : (List Int), as = [.dat (PyData.int a_p), .dat (PyData.int a_l), .dat (PyData.int a_N)] ∧ f_support_P_III a_p a_l a_N = some r ∧ Q ((vI PyData.int) r)
abbrev W_holds_P_IIII : Wp := fun as Q => ∃ (a_p : Int), ∃ (a_l : Int), ∃ (a_k0 : Int), ∃ (a_r : Int), ∃ r : Bool, as = [.dat (PyData.int a_p), .dat (PyData.int a_l), .dat (PyData.int a_k0), .dat (PyData.int a_r)] ∧ f_holds_P_IIII a_p a_l a_k0 a_r = some r ∧ Q (PyData.bool r)
abbrev W_law_common_II : Wp := fun as Q => ∃ (a_a : Int), ∃ (a_b : Int), ∃ r : Int, as = [.dat (PyData.int a_a), .dat (PyData.int a_b)] ∧ f_law_common_II a_a a_b = some r ∧ Q (PyData.int r)
abbrev W_law_fraction_II : Wp := fun as Q => ∃ (a_u : Int), ∃ (a_d : Int), ∃ r : (Int × Int), as = [.dat (PyData.int a_u), .dat (PyData.int a_d)] ∧ f_law_fraction_II a_u a_d = some r ∧ Q ((pI PyData.int PyData.int) r)
abbrev W_law_draw_worth_Q_I : Wp := fun as Q => ∃ (a_p : Int), ∃ kk : (Int × Int) → Prop, as = [.src, .dat (PyData.int a_p)] ∧ f_law_draw_worth_Q_I a_p kk ∧ ∀ x, kk x → Q ((pI PyData.int PyData.int) x)
abbrev W_law_number_Q_II : Wp := fun as Q => ∃ (a_p : Int), ∃ (a_n : Int), ∃ r : (Int × Int), as = [.dat (PyData.int a_p), .dat (PyData.int a_n)] ∧ f_law_number_Q_II a_p a_n = some r ∧ Q ((pI PyData.int PyData.int) r)
abbrev W_law_times_Q_ITIIeTIIe : Wp := fun as Q => ∃ (a_p : Int), ∃ (a_x : (Int × Int)), ∃ (a_y : (Int × Int)), ∃ r : (Int × Int), as = [.dat (PyData.int a_p), .dat ((pI PyData.int PyData.int) a_x), .dat ((pI PyData.int PyData.int) a_y)] ∧ f_law_times_Q_ITIIeTIIe a_p a_x a_y = some r ∧ Q ((pI PyData.int PyData.int) r)
abbrev W_law_plus_Q_ITIIeTIIe : Wp := fun as Q => ∃ (a_p : Int), ∃ (a_x : (Int × Int)), ∃ (a_y : (Int × Int)), ∃ r : (Int × Int), as = [.dat (PyData.int a_p), .dat ((pI PyData.int PyData.int) a_x), .dat ((pI PyData.int PyData.int) a_y)] ∧ f_law_plus_Q_ITIIeTIIe a_p a_x a_y = some r ∧ Q ((pI PyData.int PyData.int) r)
abbrev W_law_minus_Q_ITIIeTIIe : Wp := fun as Q => ∃ (a_p : Int), ∃ (a_x : (Int × Int)), ∃ (a_y : (Int × Int)), ∃ r : (Int × Int), as = [.dat (PyData.int a_p), .dat ((pI PyData.int PyData.int) a_x), .dat ((pI PyData.int PyData.int) a_y)] ∧ f_law_minus_Q_ITIIeTIIe a_p a_x a_y = some r ∧ Q ((pI PyData.int PyData.int) r)
abbrev W_law_worth_row_Q_ITIIeI : Wp := fun as Q => ∃ (a_p : Int), ∃ (a_d : (Int × Int)), ∃ (a_m : Int), ∃ r : (List (Int × Int)), as = [.dat (PyData.int a_p), .dat ((pI PyData.int PyData.int) a_d), .dat (PyData.int a_m)] ∧ f_law_worth_row_Q_ITIIeI a_p a_d a_m = some r ∧ Q ((lI (pI PyData.int PyData.int)) r)
abbrev W_law_length_Q_ITIIe : Wp := fun as Q => ∃ (a_p : Int), ∃ (a_d : (Int × Int)), ∃ r : (Option Int), as = [.dat (PyData.int a_p), .dat ((pI PyData.int PyData.int) a_d)] ∧ f_law_length_Q_ITIIe a_p a_d = some r ∧ Q ((oI PyData.int) r)
abbrev W_law_draw_far_Q_IN : Wp := fun as Q => ∃ (a_p : Int), ∃ (a_l : Unit), ∃ kk : Int → Prop, as = [.src, .dat (PyData.int a_p), .dat (uI a_l)] ∧ f_law_draw_far_Q_IN a_p a_l kk ∧ ∀ x, kk x → Q (PyData.int x)
abbrev W_law_digits_Q_INI : Wp := fun as Q => ∃ (a_p : Int), ∃ (a_l : Unit), ∃ (a_whole : Int), ∃ r : (List Int), as = [.dat (PyData.int a_p), .dat (uI a_l), .dat (PyData.int a_whole)] ∧ f_law_digits_Q_INI a_p a_l a_whole = some r ∧ Q ((lI PyData.int) r)
abbrev W_law_digits_Q_III : Wp := fun as Q => ∃ (a_p : Int), ∃ (a_l : Int), ∃ (a_whole : Int), ∃ r : (List Int), as = [.dat (PyData.int a_p), .dat (PyData.int a_l), .dat (PyData.int a_whole)] ∧ f_law_digits_Q_III a_p a_l a_whole = some r ∧ Q ((lI PyData.int) r)
abbrev W_law_digits_Q_INI_or_law_digits_Q_III : Wp := fun as Q => W_law_digits_Q_INI as Q ∨ W_law_digits_Q_III as Q
abbrev W_law_has_middle_Q_ITIIeI : Wp := fun as Q => ∃ (a_p : Int), ∃ (a_d : (Int × Int)), ∃ (a_n : Int), ∃ r : Bool, as = [.dat (PyData.int a_p), .dat ((pI PyData.int PyData.int) a_d), .dat (PyData.int a_n)] ∧ f_law_has_middle_Q_ITIIeI a_p a_d a_n = some r ∧ Q (PyData.bool r)
abbrev W_number_Q_II : Wp := fun as Q => ∃ (a_p : Int), ∃ (a_n : Int), ∃ r : (Int × Int), as = [.dat (PyData.int a_p), .dat (PyData.int a_n)] ∧ f_number_Q_II a_p a_n = some r ∧ Q ((pI PyData.int PyData.int) r)
abbrev W_shortened_II : Wp := fun as Q => ∃ (a_u : Int), ∃ (a_e : Int), ∃ r : (Int × Int), as = [.dat (PyData.int a_u), .dat (PyData.int a_e)] ∧ f_shortened_II a_u a_e = some r ∧ Q ((pI PyData.int PyData.int) r)
abbrev W_times_Q_ITIIeTIIe : Wp := fun as Q => ∃ (a_p : Int), ∃ (a_x : (Int × Int)), ∃ (a_y : (Int × Int)), ∃ r : (Int × Int), as = [.dat (PyData.int a_p), .dat ((pI PyData.int PyData.int) a_x), .dat ((pI PyData.int PyData.int) a_y)] ∧ f_times_Q_ITIIeTIIe a_p a_x a_y = some r ∧ Q ((pI PyData.int PyData.int) r)
abbrev W_minus_Q_ITIIeTIIe : Wp := fun as Q => ∃ (a_p : Int), ∃ (a_x : (Int × Int)), ∃ (a_y : (Int × Int)), ∃ r : (Int × Int), as = [.dat (PyData.int a_p), .dat ((pI PyData.int PyData.int) a_x), .dat ((pI PyData.int PyData.int) a_y)] ∧ f_minus_Q_ITIIeTIIe a_p a_x a_y = some r ∧ Q ((pI PyData.int PyData.int) r)
abbrev W_worth_row_Q_ITIIeI : Wp := fun as Q => ∃ (a_p : Int), ∃ (a_d : (Int × Int)), ∃ (a_m : Int), ∃ r : (List (Int × Int)), as = [.dat (PyData.int a_p), .dat ((pI PyData.int PyData.int) a_d), .dat (PyData.int a_m)] ∧ f_worth_row_Q_ITIIeI a_p a_d a_m = some r ∧ Q ((lI (pI PyData.int PyData.int)) r)
abbrev W_length_Q_ITIIe : Wp := fun as Q => ∃ (a_p : Int), ∃ (a_d : (Int × Int)), ∃ r : (Option Int), as = [.dat (PyData.int a_p), .dat ((pI PyData.int PyData.int) a_d)] ∧ f_length_Q_ITIIe a_p a_d = some r ∧ Q ((oI PyData.int) r)
abbrev W_digits_Q_INI : Wp := fun as Q => ∃ (a_p : Int), ∃ (a_l : Unit), ∃ (a_N : Int), ∃ r : (Int), as = [.dat (PyData.int a_p), .dat (uI a_l), .dat (PyData.int a_N)] ∧ f_digits_Q_INI a_p a_l a_N = some r ∧ Q ((t1I PyData.int) r)
abbrev W_parts_Q_INvI : Wp := fun as Q => ∃ (a_p : Int), ∃ (a_l : Unit), ∃ (a_told : (List Int)), ∃ r : (List Int), as = [.dat (PyData.int a_p), .dat (uI a_l), .dat ((vI PyData.int) a_told)] ∧ f_parts_Q_INvI a_p a_l a_told = some r ∧ Q ((lI PyData.int) r)
abbrev W_of_digits_Q_INvI : Wp := fun as Q => ∃ (a_p : Int), ∃ (a_l : Unit), ∃ (a_told : (List Int)), ∃ r : Int, as = [.dat (PyData.int a_p), .dat (uI a_l), .dat ((vI PyData.int) a_told)] ∧ f_of_digits_Q_INvI a_p a_l a_told = some r ∧ Q (PyData.int r)
abbrev W_digits_Q_III : Wp := fun as Q => ∃ (a_p : Int), ∃ (a_l : Int), ∃ (a_N : Int), ∃ r : (List Int), as = [.dat (PyData.int a_p), .dat (PyData.int a_l), .dat (PyData.int a_N)] ∧ f_digits_Q_III a_p a_l a_N = some r ∧ Q ((vI PyData.int) r)
abbrev W_digits_Q_INI_or_digits_Q_III : Wp := fun as Q => W_digits_Q_INI as Q ∨ W_digits_Q_III as Q
abbrev W_has_middle_Q_ITIIeI : Wp := fun as Q => ∃ (a_p : Int), ∃ (a_d : (Int × Int)), ∃ (a_n : Int), ∃ r : Bool, as = [.dat (PyData.int a_p), .dat ((pI PyData.int PyData.int) a_d), .dat (PyData.int a_n)] ∧ f_has_middle_Q_ITIIeI a_p a_d a_n = some r ∧ Q (PyData.bool r)
abbrev W_parts_Q_INTIe : Wp := fun as Q => ∃ (a_p : Int), ∃ (a_l : Unit), ∃ (a_told : (Int)), ∃ r : (List Int), as = [.dat (PyData.int a_p), .dat (uI a_l), .dat ((t1I PyData.int) a_told)] ∧ f_parts_Q_INTIe a_p a_l a_told = some r ∧ Q ((lI PyData.int) r)
abbrev W_support_Q_INI : Wp := fun as Q => ∃ (a_p : Int), ∃ (a_l : Unit), ∃ (a_N : Int), ∃ r : (List Int), as = [.dat (PyData.int a_p), .dat (uI a_l), .dat (PyData.int a_N)] ∧ f_support_Q_INI a_p a_l a_N = some r ∧ Q ((vI PyData.int) r)
abbrev W_holds_Q_INII : Wp := fun as Q => ∃ (a_p : Int), ∃ (a_l : Unit), ∃ (a_k0 : Int), ∃ (a_r : Int), ∃ r : Bool, as = [.dat (PyData.int a_p), .dat (uI a_l), .dat (PyData.int a_k0), .dat (PyData.int a_r)] ∧ f_holds_Q_INII a_p a_l a_k0 a_r = some r ∧ Q (PyData.bool r)
abbrev W_first_not_dividing_Q_INI : Wp := fun as Q => ∃ (a_p : Int), ∃ (a_l : Unit), ∃ (a_N : Int), ∃ r : Unit, as = [.dat (PyData.int a_p), .dat (uI a_l), .dat (PyData.int a_N)] ∧ f_first_not_dividing_Q_INI a_p a_l a_N = some r ∧ Q (uI r)
abbrev W_next_over_Q_INI : Wp := fun as Q => ∃ (a_p : Int), ∃ (a_l : Unit), ∃ (a_k0 : Int), ∃ r : Unit, as = [.dat (PyData.int a_p), .dat (uI a_l), .dat (PyData.int a_k0)] ∧ f_next_over_Q_INI a_p a_l a_k0 = some r ∧ Q (uI r)
abbrev W_first_not_dividing_Q_III : Wp := fun as Q => ∃ (a_p : Int), ∃ (a_l : Int), ∃ (a_N : Int), ∃ r : (Option Int), as = [.dat (PyData.int a_p), .dat (PyData.int a_l), .dat (PyData.int a_N)] ∧ f_first_not_dividing_Q_III a_p a_l a_N = some r ∧ Q ((oI PyData.int) r)
abbrev W_next_over_Q_III : Wp := fun as Q => ∃ (a_p : Int), ∃ (a_l : Int), ∃ (a_k0 : Int), ∃ r : (Option Int), as = [.dat (PyData.int a_p), .dat (PyData.int a_l), .dat (PyData.int a_k0)] ∧ f_next_over_Q_III a_p a_l a_k0 = some r ∧ Q ((oI PyData.int) r)
abbrev W_next_over_Q_INI_or_next_over_Q_III : Wp := fun as Q => W_next_over_Q_INI as Q ∨ W_next_over_Q_III as Q
abbrev W_keeps_all_Q_ITIIeII : Wp := fun as Q => ∃ (a_p : Int), ∃ (a_d : (Int × Int)), ∃ (a_n : Int), ∃ (a_k0 : Int), ∃ r : Bool, as = [.dat (PyData.int a_p), .dat ((pI PyData.int PyData.int) a_d), .dat (PyData.int a_n), .dat (PyData.int a_k0)] ∧ f_keeps_all_Q_ITIIeII a_p a_d a_n a_k0 = some r ∧ Q (PyData.bool r)
abbrev W_law_draw_far_Q_II : Wp := fun as Q => ∃ (a_p : Int), ∃ (a_l : Int), ∃ kk : Int → Prop, as = [.src, .dat (PyData.int a_p), .dat (PyData.int a_l)] ∧ f_law_draw_far_Q_II a_p a_l kk ∧ ∀ x, kk x → Q (PyData.int x)
abbrev W_parts_Q_IIvI : Wp := fun as Q => ∃ (a_p : Int), ∃ (a_l : Int), ∃ (a_told : (List Int)), ∃ r : (List Int), as = [.dat (PyData.int a_p), .dat (PyData.int a_l), .dat ((vI PyData.int) a_told)] ∧ f_parts_Q_IIvI a_p a_l a_told = some r ∧ Q ((lI PyData.int) r)
abbrev W_of_digits_Q_IIvI : Wp := fun as Q => ∃ (a_p : Int), ∃ (a_l : Int), ∃ (a_told : (List Int)), ∃ r : Int, as = [.dat (PyData.int a_p), .dat (PyData.int a_l), .dat ((vI PyData.int) a_told)] ∧ f_of_digits_Q_IIvI a_p a_l a_told = some r ∧ Q (PyData.int r)
abbrev W_support_Q_III : Wp := fun as Q => ∃ (a_p : Int), ∃ (a_l : Int), ∃ (a_N : Int), ∃ r : (List Int), as = [.dat (PyData.int a_p), .dat (PyData.int a_l), .dat (PyData.int a_N)] ∧ f_support_Q_III a_p a_l a_N = some r ∧ Q ((vI PyData.int) r)
abbrev W_holds_Q_IIII : Wp := fun as Q => ∃ (a_p : Int), ∃ (a_l : Int), ∃ (a_k0 : Int), ∃ (a_r : Int), ∃ r : Bool, as = [.dat (PyData.int a_p), .dat (PyData.int a_l), .dat (PyData.int a_k0), .dat (PyData.int a_r)] ∧ f_holds_Q_IIII a_p a_l a_k0 a_r = some r ∧ Q (PyData.bool r)
theorem ok_law_draw_field {f : Addr} {fd : FuncData} (F : Fun K "_law_draw_field" "_law_draw_field" s_law_draw_field f fd) (B : Blt mg) (T_law_pick : Fd Pg w K mg base k "_law_pick" W_law_pick)  : FnG Pg w K mg base (k + 1) f fd ["source"] (spOf K W_law_draw_field) := by
  refine okFn F sc_law_draw_field (by rintro as Q ⟨kk, rfl, h, hQ⟩; rfl) ?_
  rintro X C Fx as Q ⟨kk, rfl, h, hQ⟩
  unfold f_law_draw_field at h
  replace h := toP h
  show BN X _ [.src] _
  refine BN.cons ?_
  refine SN.ret ?_
  refine EN.ix (fun _ _ => rfl) ?_
  refine EN.lst ?_
  refine LN.cons rfl ?_
  refine EN.int ?_
  refine LN.cons rfl ?_
  refine EN.int ?_
  refine LN.cons rfl ?_
  refine EN.int ?_
  refine LN.cons rfl ?_
  refine EN.int ?_
  refine LN.cons rfl ?_
  refine EN.int ?_
  refine LN.cons rfl ?_
  refine EN.int ?_
  refine LN.cons rfl ?_
  refine EN.int ?_
  refine LN.cons rfl ?_
  refine EN.int ?_
  refine LN.cons rfl ?_
  refine EN.int ?_
  refine LN.cons rfl ?_
  refine EN.int ?_
  refine LN.nil ?_
  refine ⟨Nat.le_of_ble_eq_true rfl, ?_⟩
  refine EN.call C T_law_pick (by omega) rfl ?_ rfl rfl
  refine AN.src (i := 0) C rfl (by walk_at "vis") rfl rfl ?_
  refine AN.cons rfl ?_
  refine EN.int ?_
  refine AN.nil ?_
  refine ⟨_, rfl, h.1, fun x1 r0 r1 => ?_⟩
  replace h := h.2 x1 r0 r1
  replace h := toP h
  obtain ⟨x2, ex2, h⟩ := callK_ok h
  refine IxD.lx (inj := PyData.int) (xs := ([2, 3, 5, 7, 2, 3, 11, 13, 0, 5] : List Int)) ex2 ?_
  exact hQ _ h
theorem ok_law_draw_worth_P_I {f : Addr} {fd : FuncData} (F : Fun K "_law_draw_worth" "_law_draw_worth" s_law_draw_worth f fd) (B : Blt mg) (T_law_pick : Fd Pg w K mg base k "_law_pick" W_law_pick)  : FnG Pg w K mg base (k + 1) f fd ["source", "p"] (spOf K W_law_draw_worth_P_I) := by
  refine okFn F sc_law_draw_worth (by rintro as Q ⟨a_p, kk, rfl, h, hQ⟩; rfl) ?_
  rintro X C Fx as Q ⟨a_p, kk, rfl, h, hQ⟩
  unfold f_law_draw_worth_P_I at h
  replace h := toP h
  show BN X _ [.src, .dat (PyData.int a_p)] _
  refine BN.cons ?_
  refine SN.ife ?_
  refine TN.gt ?_
  refine EN.var (i := 1) (d := PyData.int a_p) C rfl (by walk_at "vis") rfl ?_
  refine EN.int ?_
  refine IbGt ?_
  refine ⟨fun hb => ?_, fun hb => ?_⟩
  · have h := bK_t hb h
    refine BN.cons ?_
    refine SN.ret ?_
    refine EN.call C T_law_pick (by omega) rfl ?_ rfl rfl
    refine AN.src (i := 0) C rfl (by walk_at "vis") rfl rfl ?_
    refine AN.cons rfl ?_
    refine EN.var (i := 1) (d := PyData.int a_p) C rfl (by walk_at "vis") rfl ?_
    refine AN.nil ?_
    refine ⟨_, rfl, h.1, fun x1 r0 r1 => ?_⟩
    replace h := h.2 x1 r0 r1
    replace h := toP h
    exact hQ _ h
  · exact dead (bK_f hb h)
theorem ok_law_number_P_II {f : Addr} {fd : FuncData} (F : Fun K "_law_number" "_law_number" s_law_number f fd) (B : Blt mg)   : FnG Pg w K mg base (k + 1) f fd ["p", "n"] (spOf K W_law_number_P_II) := by
  refine okFn F sc_law_number (by rintro as Q ⟨a_p, a_n, r, rfl, h, hQ⟩; rfl) ?_
  rintro X C Fx as Q ⟨a_p, a_n, r, rfl, h, hQ⟩
  unfold f_law_number_P_II at h
  replace h := toO h
  show BN X _ [.dat (PyData.int a_p), .dat (PyData.int a_n)] _
  refine BN.cons ?_
  refine SN.ret ?_
  refine EN.ife ?_
  refine TN.gt ?_
  refine EN.var (i := 0) (d := PyData.int a_p) C rfl (by walk_at "vis") rfl ?_
  refine EN.int ?_
  refine IbGt ?_
  refine ⟨fun hb => ?_, fun hb => ?_⟩
  · have h := bK_t hb h
    refine EN.mod ?_
    refine EN.var (i := 1) (d := PyData.int a_n) C rfl (by walk_at "vis") rfl ?_
    refine EN.var (i := 0) (d := PyData.int a_p) C rfl (by walk_at "vis") rfl ?_
    obtain ⟨cx1, x1, ex1, h⟩ := modK_ok h
    refine ModI.xx cx1 ex1 ?_
    cases h
    exact hQ
  · exact dead (bK_f hb h)
theorem ok_law_times_P_III {f : Addr} {fd : FuncData} (F : Fun K "_law_times" "_law_times" s_law_times f fd) (B : Blt mg)   : FnG Pg w K mg base (k + 1) f fd ["p", "x", "y"] (spOf K W_law_times_P_III) := by
  refine okFn F sc_law_times (by rintro as Q ⟨a_p, a_x, a_y, r, rfl, h, hQ⟩; rfl) ?_
  rintro X C Fx as Q ⟨a_p, a_x, a_y, r, rfl, h, hQ⟩
  unfold f_law_times_P_III at h
  replace h := toO h
  show BN X _ [.dat (PyData.int a_p), .dat (PyData.int a_x), .dat (PyData.int a_y)] _
  refine BN.cons ?_
  refine SN.ret ?_
  refine EN.ife ?_
  refine TN.gt ?_
  refine EN.var (i := 0) (d := PyData.int a_p) C rfl (by walk_at "vis") rfl ?_
  refine EN.int ?_
  refine IbGt ?_
  refine ⟨fun hb => ?_, fun hb => ?_⟩
  · have h := bK_t hb h
    refine EN.mod ?_
    refine EN.mul ?_
    refine EN.var (i := 1) (d := PyData.int a_x) C rfl (by walk_at "vis") rfl ?_
    refine EN.var (i := 2) (d := PyData.int a_y) C rfl (by walk_at "vis") rfl ?_
    obtain ⟨cx1, x1, ex1, h⟩ := mulK_ok h
    refine MulD.xx cx1 ex1 ?_
    refine EN.var (i := 0) (d := PyData.int a_p) C rfl (by walk_at "vis") rfl ?_
    obtain ⟨cx2, x2, ex2, h⟩ := modK_ok h
    refine ModI.xx cx2 ex2 ?_
    cases h
    exact hQ
  · exact dead (bK_f hb h)
theorem ok_law_plus_P_III {f : Addr} {fd : FuncData} (F : Fun K "_law_plus" "_law_plus" s_law_plus f fd) (B : Blt mg)   : FnG Pg w K mg base (k + 1) f fd ["p", "x", "y"] (spOf K W_law_plus_P_III) := by
  refine okFn F sc_law_plus (by rintro as Q ⟨a_p, a_x, a_y, r, rfl, h, hQ⟩; rfl) ?_
  rintro X C Fx as Q ⟨a_p, a_x, a_y, r, rfl, h, hQ⟩
  unfold f_law_plus_P_III at h
  replace h := toO h
  show BN X _ [.dat (PyData.int a_p), .dat (PyData.int a_x), .dat (PyData.int a_y)] _
  refine BN.cons ?_
  refine SN.ret ?_
  refine EN.ife ?_
  refine TN.gt ?_
  refine EN.var (i := 0) (d := PyData.int a_p) C rfl (by walk_at "vis") rfl ?_
  refine EN.int ?_
  refine IbGt ?_
  refine ⟨fun hb => ?_, fun hb => ?_⟩
  · have h := bK_t hb h
    refine EN.mod ?_
    refine EN.add ?_
    refine EN.var (i := 1) (d := PyData.int a_x) C rfl (by walk_at "vis") rfl ?_
    refine EN.var (i := 2) (d := PyData.int a_y) C rfl (by walk_at "vis") rfl ?_
    obtain ⟨x1, ex1, h⟩ := letK_ok h
    refine AddD.xx ex1 ?_
    refine EN.var (i := 0) (d := PyData.int a_p) C rfl (by walk_at "vis") rfl ?_
    obtain ⟨cx2, x2, ex2, h⟩ := modK_ok h
    refine ModI.xx cx2 ex2 ?_
    cases h
    exact hQ
  · exact dead (bK_f hb h)
theorem ok_law_minus_P_III {f : Addr} {fd : FuncData} (F : Fun K "_law_minus" "_law_minus" s_law_minus f fd) (B : Blt mg) (T_law_number_P_II : Fd Pg w K mg base k "_law_number" W_law_number_P_II) (T_law_times_P_III : Fd Pg w K mg base k "_law_times" W_law_times_P_III) (T_law_plus_P_III : Fd Pg w K mg base k "_law_plus" W_law_plus_P_III)  : FnG Pg w K mg base (k + 1) f fd ["p", "x", "y"] (spOf K W_law_minus_P_III) := by
  refine okFn F sc_law_minus (by rintro as Q ⟨a_p, a_x, a_y, r, rfl, h, hQ⟩; rfl) ?_
  rintro X C Fx as Q ⟨a_p, a_x, a_y, r, rfl, h, hQ⟩
  unfold f_law_minus_P_III at h
  replace h := toO h
  show BN X _ [.dat (PyData.int a_p), .dat (PyData.int a_x), .dat (PyData.int a_y)] _
  refine BN.cons ?_
  refine SN.ret ?_
  refine EN.call C T_law_plus_P_III (by omega) rfl ?_ rfl rfl
  refine AN.cons rfl ?_
  refine EN.var (i := 0) (d := PyData.int a_p) C rfl (by walk_at "vis") rfl ?_
  refine AN.cons rfl ?_
  refine EN.var (i := 1) (d := PyData.int a_x) C rfl (by walk_at "vis") rfl ?_
  refine AN.cons rfl ?_
  refine EN.call C T_law_times_P_III (by omega) rfl ?_ rfl rfl
  refine AN.cons rfl ?_
  refine EN.var (i := 0) (d := PyData.int a_p) C rfl (by walk_at "vis") rfl ?_
  refine AN.cons rfl ?_
  refine EN.call C T_law_number_P_II (by omega) rfl ?_ rfl rfl
  refine AN.cons rfl ?_
  refine EN.var (i := 0) (d := PyData.int a_p) C rfl (by walk_at "vis") rfl ?_
  refine AN.cons rfl ?_
  refine EN.sub ?_
  refine EN.int ?_
  refine EN.int ?_
  obtain ⟨x1, ex1, h⟩ := letK_ok h
  refine SubI.xx ex1 ?_
  refine AN.nil ?_
  obtain ⟨x2, ex2, h⟩ := callK_ok h
  refine ⟨_, _, _, rfl, ex2, ?_⟩
  refine AN.cons rfl ?_
  refine EN.var (i := 2) (d := PyData.int a_y) C rfl (by walk_at "vis") rfl ?_
  refine AN.nil ?_
  obtain ⟨x3, ex3, h⟩ := callK_ok h
  refine ⟨_, _, _, _, rfl, ex3, ?_⟩
  refine AN.nil ?_
  obtain ⟨x4, ex4, h⟩ := callK_ok h
  refine ⟨_, _, _, _, rfl, ex4, ?_⟩
  cases h
  exact hQ
theorem ok_law_worth_row_P_III {f : Addr} {fd : FuncData} (F : Fun K "_law_worth_row" "_law_worth_row" s_law_worth_row f fd) (B : Blt mg) (T_law_number_P_II : Fd Pg w K mg base k "_law_number" W_law_number_P_II) (T_law_times_P_III : Fd Pg w K mg base k "_law_times" W_law_times_P_III) (T_law_minus_P_III : Fd Pg w K mg base k "_law_minus" W_law_minus_P_III)  : FnG Pg w K mg base (k + 1) f fd ["p", "d", "m"] (spOf K W_law_worth_row_P_III) := by
  refine okFn F sc_law_worth_row (by rintro as Q ⟨a_p, a_d, a_m, r, rfl, h, hQ⟩; rfl) ?_
  rintro X C Fx as Q ⟨a_p, a_d, a_m, r, rfl, h, hQ⟩
  unfold f_law_worth_row_P_III at h
  replace h := toO h
  show BN X _ [.dat (PyData.int a_p), .dat (PyData.int a_d), .dat (PyData.int a_m), .no] _
  refine BN.cons ?_
  refine SN.asgN (i := 3) C Fx rfl (by walk_at "vis") (by rintro ⟨⟩ ⟨⟩; rfl) ?_
  refine NN.lst ?_
  refine LN.cons rfl ?_
  refine EN.call C T_law_number_P_II (by omega) rfl ?_ rfl rfl
  refine AN.cons rfl ?_
  refine EN.var (i := 0) (d := PyData.int a_p) C rfl (by walk_at "vis") rfl ?_
  refine AN.cons rfl ?_
  refine EN.int ?_
  refine AN.nil ?_
  obtain ⟨x1, ex1, h⟩ := callK_ok h
  refine ⟨_, _, _, rfl, ex1, ?_⟩
  refine LN.cons rfl ?_
  refine EN.var (i := 1) (d := PyData.int a_d) C rfl (by walk_at "vis") rfl ?_
  refine LN.nil ?_
  refine ⟨Nat.le_of_ble_eq_true rfl, ?_⟩
  show BN X _ [.dat (PyData.int a_p), .dat (PyData.int a_d), .dat (PyData.int a_m), .own ((([x1, a_d] : List Int)).map PyData.int)] _
  refine BN.cons ?_
  refine SN.whileK C h (fun (s2 : ((List Int))) => [.dat (PyData.int a_p), .dat (PyData.int a_d), .dat (PyData.int a_m), .own ((s2).map PyData.int)]) rfl ?_ ?_ ?_
  · intro s17 h
    show BN X _ [.dat (PyData.int a_p), .dat (PyData.int a_d), .dat (PyData.int a_m), .own ((s17).map PyData.int)] _
    refine BN.freeze (i := 3) rfl ?_
    show BN X _ [.dat (PyData.int a_p), .dat (PyData.int a_d), .dat (PyData.int a_m), .dat ((lI PyData.int) s17)] _
    refine BN.cons ?_
    refine SN.ret ?_
    refine EN.slA ?_
    refine EN.var (i := 3) (d := (lI PyData.int) s17) C rfl (by walk_at "vis") rfl ?_
    refine (show EN _ _ _ _ from ?_)
    refine EN.add ?_
    refine EN.var (i := 2) (d := PyData.int a_m) C rfl (by walk_at "vis") rfl ?_
    refine EN.int ?_
    obtain ⟨x18, ex18, h⟩ := letK_ok h
    refine AddD.xx ex18 ?_
    refine ⟨_, rfl, ?_⟩
    obtain ⟨x19, ex19, h⟩ := letK_ok h
    refine cutA_l (inj := PyData.int) (xs := s17) ex19 ?_
    cases h
    exact hQ
  · intro s2 J5 h
    refine TN.lt ?_
    refine EN.lenO (i := 3) C rfl B.len rfl (by walk_at "vis") rfl ?_ rfl rfl
    obtain ⟨x6, ex6, h⟩ := letK_ok h
    rw [len_r (inj := PyData.int) (xs := s2) ex6]
    refine EN.add ?_
    refine EN.var (i := 2) (d := PyData.int a_m) C rfl (by walk_at "vis") rfl ?_
    refine EN.int ?_
    obtain ⟨x7, ex7, h⟩ := letK_ok h
    refine AddD.xx ex7 ?_
    refine IbLt ?_
    exact h
  · intro s2 fin3 nx4 h
    show BN X _ [.dat (PyData.int a_p), .dat (PyData.int a_d), .dat (PyData.int a_m), .own ((s2).map PyData.int)] _
    refine BN.cons ?_
    refine SN.app (i := 3) C rfl (by walk_at "vis") rfl ?_ rfl rfl rfl rfl rfl rfl
    refine EN.call C T_law_minus_P_III (by omega) rfl ?_ rfl rfl
    refine AN.cons rfl ?_
    refine EN.var (i := 0) (d := PyData.int a_p) C rfl (by walk_at "vis") rfl ?_
    refine AN.cons rfl ?_
    refine EN.call C T_law_times_P_III (by omega) rfl ?_ rfl rfl
    refine AN.cons rfl ?_
    refine EN.var (i := 0) (d := PyData.int a_p) C rfl (by walk_at "vis") rfl ?_
    refine AN.cons rfl ?_
    refine EN.var (i := 1) (d := PyData.int a_d) C rfl (by walk_at "vis") rfl ?_
    refine AN.cons rfl ?_
    refine EN.ixO (i := 3) C rfl (by walk_at "vis") rfl (fun _ _ => rfl) ?_
    refine EN.sub ?_
    refine EN.lenO (i := 3) C rfl B.len rfl (by walk_at "vis") rfl ?_ rfl rfl
    obtain ⟨x8, ex8, h⟩ := letK_ok h
    rw [len_r (inj := PyData.int) (xs := s2) ex8]
    refine EN.int ?_
    obtain ⟨x9, ex9, h⟩ := letK_ok h
    refine SubI.xx ex9 ?_
    obtain ⟨x10, ex10, h⟩ := callK_ok h
    refine ixO_x (inj := PyData.int) (xs := s2) ex10 ?_
    refine AN.nil ?_
    obtain ⟨x11, ex11, h⟩ := callK_ok h
    refine ⟨_, _, _, _, rfl, ex11, ?_⟩
    refine AN.cons rfl ?_
    refine EN.ixO (i := 3) C rfl (by walk_at "vis") rfl (fun _ _ => rfl) ?_
    refine EN.sub ?_
    refine EN.lenO (i := 3) C rfl B.len rfl (by walk_at "vis") rfl ?_ rfl rfl
    obtain ⟨x12, ex12, h⟩ := letK_ok h
    rw [len_r (inj := PyData.int) (xs := s2) ex12]
    refine EN.int ?_
    obtain ⟨x13, ex13, h⟩ := letK_ok h
    refine SubI.xx ex13 ?_
    obtain ⟨x14, ex14, h⟩ := callK_ok h
    refine ixO_x (inj := PyData.int) (xs := s2) ex14 ?_
    refine AN.nil ?_
    obtain ⟨x15, ex15, h⟩ := callK_ok h
    refine ⟨_, _, _, _, rfl, ex15, ?_⟩
    obtain ⟨cx16, h⟩ := chkK_ok h
    obtain ⟨x16, ex16, h⟩ := letK_ok h
    refine ⟨app_c (inj := PyData.int) cx16, ?_⟩
    rw [app_r (inj := PyData.int) ex16]
    show BN X _ [.dat (PyData.int a_p), .dat (PyData.int a_d), .dat (PyData.int a_m), .own ((x16).map PyData.int)] _
    refine BN.nil ?_
    exact ⟨(x16), rfl, h⟩
theorem ok_law_length_P_II {f : Addr} {fd : FuncData} (F : Fun K "_law_length" "_law_length" s_law_length f fd) (B : Blt mg) (T_law_worth_row_P_III : Fd Pg w K mg base k "_law_worth_row" W_law_worth_row_P_III) (T_law_number_P_II : Fd Pg w K mg base k "_law_number" W_law_number_P_II)  : FnG Pg w K mg base (k + 1) f fd ["p", "d"] (spOf K W_law_length_P_II) := by
  refine okFn F sc_law_length (by rintro as Q ⟨a_p, a_d, r, rfl, h, hQ⟩; rfl) ?_
  rintro X C Fx as Q ⟨a_p, a_d, r, rfl, h, hQ⟩
  unfold f_law_length_P_II at h
  replace h := toO h
  show BN X _ [.dat (PyData.int a_p), .dat (PyData.int a_d), .no, .no, .no] _
  refine BN.cons ?_
  refine SN.asg (i := 2) C Fx rfl (by walk_at "vis") rfl ?_
  refine EN.call C T_law_worth_row_P_III (by omega) rfl ?_ rfl rfl
  refine AN.cons rfl ?_
  refine EN.var (i := 0) (d := PyData.int a_p) C rfl (by walk_at "vis") rfl ?_
  refine AN.cons rfl ?_
  refine EN.var (i := 1) (d := PyData.int a_d) C rfl (by walk_at "vis") rfl ?_
  refine AN.cons rfl ?_
  refine EN.ife ?_
  refine TN.gt ?_
  refine EN.var (i := 0) (d := PyData.int a_p) C rfl (by walk_at "vis") rfl ?_
  refine EN.int ?_
  refine IbGt ?_
  refine ⟨fun hb => ?_, fun hb => ?_⟩
  · have h := bK_t hb h
    refine EN.add ?_
    refine EN.var (i := 0) (d := PyData.int a_p) C rfl (by walk_at "vis") rfl ?_
    refine EN.int ?_
    obtain ⟨x1, ex1, h⟩ := letK_ok h
    refine AddD.xx ex1 ?_
    refine AN.nil ?_
    obtain ⟨x2, ex2, h⟩ := callK_ok h
    refine ⟨_, _, _, _, rfl, ex2, ?_⟩
    show BN X _ [.dat (PyData.int a_p), .dat (PyData.int a_d), .dat ((lI PyData.int) x2), .no, .no] _
    refine BN.cons ?_
    refine SN.asgLc (i := 4) (j := 3) C rfl rfl rfl rfl rfl (by rintro ⟨⟩ ⟨⟩; rfl) (fun _ => rfl) ?_
    refine IN.r2 C rfl B.range rfl rfl rfl rfl ?_
    refine EN.int ?_
    refine EN.add ?_
    refine EN.len C rfl B.len ?_ rfl rfl
    refine EN.var (i := 2) (d := (lI PyData.int) x2) C rfl (by walk_at "vis") rfl ?_
    obtain ⟨x3, ex3, h⟩ := letK_ok h
    refine LenD.lx (inj := PyData.int) (xs := x2) ex3 ?_
    refine EN.int ?_
    obtain ⟨x4, ex4, h⟩ := letK_ok h
    refine AddD.xx ex4 ?_
    obtain ⟨cx5, x5, ex5, h⟩ := rng2K_ok h
    refine ⟨_, _, rfl, rfl, cx5, ?_⟩
    rw [rng2_r ex5]
    refine lcFK_in h PyData.int PyData.int ?_ ?_ ?_
    · intro x7 J16 h Y15 CY15
      refine TN.eq CY15 ?_
      refine EN.ix (fun _ _ => rfl) ?_
      refine EN.var (i := 2) (d := (lI PyData.int) x2) CY15 rfl (by walk_at "vis") rfl ?_
      refine EN.sub ?_
      refine EN.var (i := 4) (d := PyData.int x7) CY15 rfl (by walk_at "vis") rfl ?_
      refine EN.int ?_
      obtain ⟨x17, ex17, h⟩ := letK_ok h
      refine SubI.xx ex17 ?_
      obtain ⟨x18, ex18, h⟩ := callK_ok h
      refine IxD.lx (inj := PyData.int) (xs := x2) ex18 ?_
      refine EN.call CY15 T_law_number_P_II (by omega) rfl ?_ rfl rfl
      refine AN.cons rfl ?_
      refine EN.var (i := 0) (d := PyData.int a_p) CY15 rfl (by walk_at "vis") rfl ?_
      refine AN.cons rfl ?_
      refine EN.int ?_
      refine AN.nil ?_
      obtain ⟨x19, ex19, h⟩ := callK_ok h
      refine ⟨_, _, _, rfl, ex19, ?_⟩
      refine EqT.xx (inj := PyData.int) (x := x18) (y := x19) Ev.int (by decide) ?_
      exact h
    · intro x7 k8 h Y6 CY6
      refine EN.var (i := 4) (d := PyData.int x7) CY6 rfl (by walk_at "vis") rfl ?_
      exact ⟨_, rfl, h⟩
    · intro ys9 h
      show BN X _ [.dat (PyData.int a_p), .dat (PyData.int a_d), .dat ((lI PyData.int) x2), .dat ((lI PyData.int) ys9), .no] _
      refine BN.cons ?_
      refine SN.ret ?_
      refine EN.join h (oI PyData.int) ?_ ?_
      · intro J10 h
        refine EN.ife ?_
        refine TN.ne C ?_
        refine EN.var (i := 3) (d := (lI PyData.int) ys9) C rfl (by walk_at "vis") rfl ?_
        refine EN.lst ?_
        refine LN.nil ?_
        refine ⟨Nat.le_of_ble_eq_true rfl, ?_⟩
        refine NeT.xx (inj := (lI PyData.int)) (x := ys9) (y := ([] : List Int)) (Ev.list Ev.int) (by decide) ?_
        refine ⟨fun hb => ?_, fun hb => ?_⟩
        · have h := bK_t hb h
          refine EN.ix (fun _ _ => rfl) ?_
          refine EN.var (i := 3) (d := (lI PyData.int) ys9) C rfl (by walk_at "vis") rfl ?_
          refine EN.int ?_
          obtain ⟨x12, ex12, h⟩ := callK_ok h
          refine IxD.lx (inj := PyData.int) (xs := ys9) ex12 ?_
          exact ⟨(some x12), rfl, h⟩
        · have h := bK_f hb h
          refine EN.non ?_
          exact ⟨none, rfl, h⟩
      · intro x13 h
        rcases x13 with _ | x14
        · have h := optK_n h
          cases h
          exact hQ
        · have h := optK_s h
          cases h
          exact hQ
  · exact dead (bK_f hb h)
theorem ok_law_draw_far_P_IN {f : Addr} {fd : FuncData} (F : Fun K "_law_draw_far" "_law_draw_far" s_law_draw_far f fd) (B : Blt mg) (T_law_pick : Fd Pg w K mg base k "_law_pick" W_law_pick)  : FnG Pg w K mg base (k + 1) f fd ["source", "p", "l"] (spOf K W_law_draw_far_P_IN) := by
  refine okFn F sc_law_draw_far (by rintro as Q ⟨a_p, a_l, kk, rfl, h, hQ⟩; rfl) ?_
  rintro X C Fx as Q ⟨a_p, a_l, kk, rfl, h, hQ⟩
  unfold f_law_draw_far_P_IN at h
  replace h := toP h
  show BN X _ [.src, .dat (PyData.int a_p), .dat (uI a_l), .no, .no, .no, .no] _
  refine BN.cons ?_
  refine SN.par2 (i := 3) (j := 4) C rfl rfl (by decide) rfl rfl (by rintro ⟨⟩ ⟨⟩; rfl) rfl ?_
  refine XA.dat rfl ?_
  refine EN.int ?_
  refine XA.dat rfl ?_
  refine EN.call C T_law_pick (by omega) rfl ?_ rfl rfl
  refine AN.src (i := 0) C rfl (by walk_at "vis") rfl rfl ?_
  refine AN.cons rfl ?_
  refine EN.int ?_
  refine AN.nil ?_
  refine ⟨_, rfl, h.1, fun x1 r0 r1 => ?_⟩
  replace h := h.2 x1 r0 r1
  replace h := toP h
  refine XA.nil ?_
  refine ⟨rfl, ?_⟩
  show BN X _ [.src, .dat (PyData.int a_p), .dat (uI a_l), .dat (PyData.int 1), .dat (PyData.int x1), .no, .no] _
  refine BN.cons ?_
  refine SN.for C (fun _ => rfl) ?_
  refine IN.r1 C rfl B.range rfl rfl ?_
  refine EN.call C T_law_pick (by omega) rfl ?_ rfl rfl
  refine AN.src (i := 0) C rfl (by walk_at "vis") rfl rfl ?_
  refine AN.cons rfl ?_
  refine EN.dix (kvs := [(0, 40), (2, 80), (3, 50), (5, 36), (7, 30), (11, 25), (13, 24)]) C (pps_cons pe_int pe_int (pps_cons pe_int pe_int (pps_cons pe_int pe_int (pps_cons pe_int pe_int (pps_cons pe_int pe_int (pps_cons pe_int pe_int (pps_cons pe_int pe_int pps_nil))))))) rfl rfl rfl (by decide) (by decide) (by decide) (fun _ _ => rfl) ?_
  refine EN.var (i := 1) (d := PyData.int a_p) C rfl (by walk_at "vis") rfl ?_
  obtain ⟨x5, ex5, h⟩ := callK_ok h
  refine ⟨_, _, rfl, ex5, ?_⟩
  refine AN.nil ?_
  refine ⟨_, rfl, h.1, fun x6 r0 r1 => ?_⟩
  replace h := h.2 x6 r0 r1
  replace h := toP h
  obtain ⟨cx7, x7, ex7, h⟩ := rng1K_ok h
  refine ⟨_, rfl, cx7.1, cx7.2, ?_⟩
  rw [rng1_r ex7]
  refine forK_in h PyData.int (fun (s2 : (Int)) => [.src, .dat (PyData.int a_p), .dat (uI a_l), .dat (PyData.int s2), .dat (PyData.int x1), .no, .no]) rfl ?_ ?_
  · intro s16 h
    show BN X _ [.src, .dat (PyData.int a_p), .dat (uI a_l), .dat (PyData.int s16), .dat (PyData.int x1), .no, .no] _
    refine BN.cons ?_
    refine SN.asg (i := 3) C Fx rfl (by walk_at "vis") rfl ?_
    refine EN.sub ?_
    refine EN.mul ?_
    refine EN.var (i := 3) (d := PyData.int s16) C rfl (by walk_at "vis") rfl ?_
    refine EN.add ?_
    refine EN.int ?_
    refine EN.call C T_law_pick (by omega) rfl ?_ rfl rfl
    refine AN.src (i := 0) C rfl (by walk_at "vis") rfl rfl ?_
    refine AN.cons rfl ?_
    refine EN.sub ?_
    refine EN.max2 C rfl B.max ?_ rfl rfl rfl
    refine EN.int ?_
    refine EN.var (i := 1) (d := PyData.int a_p) C rfl (by walk_at "vis") rfl ?_
    obtain ⟨x17, ex17, h⟩ := letK_ok h
    refine ⟨_, _, rfl, rfl, ?_⟩
    rw [max_r ex17]
    refine EN.int ?_
    obtain ⟨x18, ex18, h⟩ := letK_ok h
    refine SubI.xx ex18 ?_
    refine AN.nil ?_
    refine ⟨_, rfl, h.1, fun x19 r0 r1 => ?_⟩
    replace h := h.2 x19 r0 r1
    replace h := toP h
    obtain ⟨x20, ex20, h⟩ := letK_ok h
    refine AddD.xx ex20 ?_
    obtain ⟨cx21, x21, ex21, h⟩ := mulK_ok h
    refine MulD.xx cx21 ex21 ?_
    refine EN.int ?_
    obtain ⟨x22, ex22, h⟩ := letK_ok h
    refine SubI.xx ex22 ?_
    show BN X _ [.src, .dat (PyData.int a_p), .dat (uI a_l), .dat (PyData.int x22), .dat (PyData.int x1), .no, .no] _
    refine BN.cons ?_
    refine SN.join h (fun (s24 : (Int)) => [.src, .dat (PyData.int a_p), .dat (uI a_l), .dat (PyData.int s24), .dat (PyData.int x1), .no, .no]) ?_ ?_
    · intro J23 h
      refine SN.ife ?_
      refine TN.eq C ?_
      refine EN.var (i := 4) (d := PyData.int x1) C rfl (by walk_at "vis") rfl ?_
      refine EN.int ?_
      refine EqT.xx (inj := PyData.int) (x := x1) (y := 1) Ev.int (by decide) ?_
      refine ⟨fun hb => ?_, fun hb => ?_⟩
      · have h := bK_t hb h
        refine BN.cons ?_
        refine SN.asg (i := 6) C Fx rfl (by walk_at "vis") rfl ?_
        refine EN.add ?_
        refine EN.int ?_
        refine EN.call C T_law_pick (by omega) rfl ?_ rfl rfl
        refine AN.src (i := 0) C rfl (by walk_at "vis") rfl rfl ?_
        refine AN.cons rfl ?_
        refine EN.int ?_
        refine AN.nil ?_
        refine ⟨_, rfl, h.1, fun x25 r0 r1 => ?_⟩
        replace h := h.2 x25 r0 r1
        replace h := toP h
        obtain ⟨x26, ex26, h⟩ := letK_ok h
        refine AddD.xx ex26 ?_
        show BN X _ [.src, .dat (PyData.int a_p), .dat (uI a_l), .dat (PyData.int x22), .dat (PyData.int x1), .no, .dat (PyData.int x26)] _
        refine BN.cons ?_
        refine SN.for C (fun _ => rfl) ?_
        refine IN.r1 C rfl B.range rfl rfl ?_
        refine EN.call C T_law_pick (by omega) rfl ?_ rfl rfl
        refine AN.src (i := 0) C rfl (by walk_at "vis") rfl rfl ?_
        refine AN.cons rfl ?_
        refine EN.int ?_
        refine AN.nil ?_
        refine ⟨_, rfl, h.1, fun x30 r0 r1 => ?_⟩
        replace h := h.2 x30 r0 r1
        replace h := toP h
        obtain ⟨cx31, x31, ex31, h⟩ := rng1K_ok h
        refine ⟨_, rfl, cx31.1, cx31.2, ?_⟩
        rw [rng1_r ex31]
        refine forK_in h PyData.int (fun (s27 : (Int)) => [.src, .dat (PyData.int a_p), .dat (uI a_l), .dat (PyData.int x22), .dat (PyData.int x1), .no, .dat (PyData.int s27)]) rfl ?_ ?_
        · intro s40 h
          show BN X _ [.src, .dat (PyData.int a_p), .dat (uI a_l), .dat (PyData.int x22), .dat (PyData.int x1), .no, .dat (PyData.int s40)] _
          refine BN.cons ?_
          refine SN.asg (i := 3) C Fx rfl (by walk_at "vis") rfl ?_
          refine EN.add ?_
          refine EN.var (i := 3) (d := PyData.int x22) C rfl (by walk_at "vis") rfl ?_
          refine EN.var (i := 6) (d := PyData.int s40) C rfl (by walk_at "vis") rfl ?_
          obtain ⟨x41, ex41, h⟩ := letK_ok h
          refine AddD.xx ex41 ?_
          show BN X _ [.src, .dat (PyData.int a_p), .dat (uI a_l), .dat (PyData.int x41), .dat (PyData.int x1), .no, .dat (PyData.int s40)] _
          refine BN.wk (ρ' := [.src, .dat (PyData.int a_p), .dat (uI a_l), .dat (PyData.int x41), .dat (PyData.int x1), .no, .no]) (.eq (.eq (.eq (.eq (.eq (.eq (.no .nil))))))) ?_
          refine BN.nil ?_
          exact ⟨(x41), rfl, h⟩
        · intro x32 s27 fin28 nx29 h
          refine GN.name (i := 5) C rfl (by walk_at "vis") (Or.inl (Fx _)) ?_
          show BN X _ [.src, .dat (PyData.int a_p), .dat (uI a_l), .dat (PyData.int x22), .dat (PyData.int x1), .dat (PyData.int x32), .dat (PyData.int s27)] _
          show BN X _ [.src, .dat (PyData.int a_p), .dat (uI a_l), .dat (PyData.int x22), .dat (PyData.int x1), .dat (PyData.int x32), .dat (PyData.int s27)] _
          refine BN.cons ?_
          refine SN.asg (i := 6) C Fx rfl (by walk_at "vis") rfl ?_
          refine EN.mul ?_
          refine EN.var (i := 6) (d := PyData.int s27) C rfl (by walk_at "vis") rfl ?_
          refine EN.join h PyData.int ?_ ?_
          · intro J33 h
            refine EN.ife ?_
            refine TN.join h ?_ ?_
            · intro J36 h
              refine WN.tn ?_
              refine WN.and ?_
              refine TN.gt ?_
              refine EN.var (i := 1) (d := PyData.int a_p) C rfl (by walk_at "vis") rfl ?_
              refine EN.int ?_
              refine IbGt ?_
              refine ⟨fun hb => ?_, fun hb => ?_⟩
              · have h := bK_t hb h
                refine WN.and1 ?_
                refine TN.gt ?_
                refine EN.var (i := 5) (d := PyData.int x32) C rfl (by walk_at "vis") rfl ?_
                refine EN.int ?_
                refine IbGt ?_
                exact h
              · exact bK_f hb h
            · intro b37 h
              refine ⟨fun hb => ?_, fun hb => ?_⟩
              · have h := bK_t hb h
                refine EN.var (i := 1) (d := PyData.int a_p) C rfl (by walk_at "vis") rfl ?_
                exact ⟨a_p, rfl, h⟩
              · have h := bK_f hb h
                refine EN.ife ?_
                refine TN.notN ?_
                refine EN.var (i := 2) (d := uI a_l) C rfl (by walk_at "vis") rfl ?_
                refine tb_f rfl ?_
                refine Kt.noo ?_
                refine EN.int ?_
                exact ⟨3, rfl, h⟩
          · intro x38 h
            obtain ⟨cx39, x39, ex39, h⟩ := mulK_ok h
            refine MulD.xx cx39 ex39 ?_
            show BN X _ [.src, .dat (PyData.int a_p), .dat (uI a_l), .dat (PyData.int x22), .dat (PyData.int x1), .dat (PyData.int x32), .dat (PyData.int x39)] _
            refine BN.wk (ρ' := [.src, .dat (PyData.int a_p), .dat (uI a_l), .dat (PyData.int x22), .dat (PyData.int x1), .no, .dat (PyData.int x39)]) (.eq (.eq (.eq (.eq (.eq (.no (.eq .nil))))))) ?_
            refine BN.nil ?_
            exact ⟨(x39), rfl, h⟩
      · have h := bK_f hb h
        refine BN.nil ?_
        exact ⟨(x22), rfl, h⟩
    · intro s24 h
      show BN X _ [.src, .dat (PyData.int a_p), .dat (uI a_l), .dat (PyData.int s24), .dat (PyData.int x1), .no, .no] _
      refine BN.cons ?_
      refine SN.ret ?_
      refine EN.max2 C rfl B.max ?_ rfl rfl rfl
      refine EN.int ?_
      refine EN.join h PyData.int ?_ ?_
      · intro J42 h
        refine EN.ife ?_
        refine TN.lt ?_
        refine EN.var (i := 4) (d := PyData.int x1) C rfl (by walk_at "vis") rfl ?_
        refine EN.int ?_
        refine IbLt ?_
        refine ⟨fun hb => ?_, fun hb => ?_⟩
        · have h := bK_t hb h
          refine EN.var (i := 3) (d := PyData.int s24) C rfl (by walk_at "vis") rfl ?_
          exact ⟨s24, rfl, h⟩
        · have h := bK_f hb h
          refine EN.mul ?_
          refine EN.call C T_law_pick (by omega) rfl ?_ rfl rfl
          refine AN.src (i := 0) C rfl (by walk_at "vis") rfl rfl ?_
          refine AN.cons rfl ?_
          refine EN.pow ?_
          refine EN.int ?_
          refine EN.int ?_
          refine PowI.v (n := 1000000000000) ⟨by decide, by decide, by decide⟩ (by decide +kernel) ?_
          refine AN.nil ?_
          refine ⟨_, rfl, h.1, fun x46 r0 r1 => ?_⟩
          replace h := h.2 x46 r0 r1
          replace h := toP h
          refine EN.call C T_law_pick (by omega) rfl ?_ rfl rfl
          refine AN.src (i := 0) C rfl (by walk_at "vis") rfl rfl ?_
          refine AN.cons rfl ?_
          refine EN.pow ?_
          refine EN.int ?_
          refine EN.int ?_
          refine PowI.v (n := 1000000000000) ⟨by decide, by decide, by decide⟩ (by decide +kernel) ?_
          refine AN.nil ?_
          refine ⟨_, rfl, h.1, fun x47 r0 r1 => ?_⟩
          replace h := h.2 x47 r0 r1
          replace h := toP h
          obtain ⟨cx48, x48, ex48, h⟩ := mulK_ok h
          refine MulD.xx cx48 ex48 ?_
          exact ⟨x48, rfl, h⟩
      · intro x49 h
        obtain ⟨x50, ex50, h⟩ := letK_ok h
        refine ⟨_, _, rfl, rfl, ?_⟩
        rw [max_r ex50]
        exact hQ _ h
  · intro x8 s2 fin3 nx4 h
    refine GN.name (i := 5) C rfl (by walk_at "vis") (Or.inl (Fx _)) ?_
    show BN X _ [.src, .dat (PyData.int a_p), .dat (uI a_l), .dat (PyData.int s2), .dat (PyData.int x1), .dat (PyData.int x8), .no] _
    show BN X _ [.src, .dat (PyData.int a_p), .dat (uI a_l), .dat (PyData.int s2), .dat (PyData.int x1), .dat (PyData.int x8), .no] _
    refine BN.cons ?_
    refine SN.asg (i := 3) C Fx rfl (by walk_at "vis") rfl ?_
    refine EN.mul ?_
    refine EN.var (i := 3) (d := PyData.int s2) C rfl (by walk_at "vis") rfl ?_
    refine EN.join h PyData.int ?_ ?_
    · intro J9 h
      refine EN.ife ?_
      refine TN.join h ?_ ?_
      · intro J12 h
        refine WN.tn ?_
        refine WN.and ?_
        refine TN.gt ?_
        refine EN.var (i := 1) (d := PyData.int a_p) C rfl (by walk_at "vis") rfl ?_
        refine EN.int ?_
        refine IbGt ?_
        refine ⟨fun hb => ?_, fun hb => ?_⟩
        · have h := bK_t hb h
          refine WN.and1 ?_
          refine TN.gt ?_
          refine EN.var (i := 5) (d := PyData.int x8) C rfl (by walk_at "vis") rfl ?_
          refine EN.int ?_
          refine IbGt ?_
          exact h
        · exact bK_f hb h
      · intro b13 h
        refine ⟨fun hb => ?_, fun hb => ?_⟩
        · have h := bK_t hb h
          refine EN.var (i := 1) (d := PyData.int a_p) C rfl (by walk_at "vis") rfl ?_
          exact ⟨a_p, rfl, h⟩
        · have h := bK_f hb h
          refine EN.ife ?_
          refine TN.notN ?_
          refine EN.var (i := 2) (d := uI a_l) C rfl (by walk_at "vis") rfl ?_
          refine tb_f rfl ?_
          refine Kt.noo ?_
          refine EN.int ?_
          exact ⟨3, rfl, h⟩
    · intro x14 h
      obtain ⟨cx15, x15, ex15, h⟩ := mulK_ok h
      refine MulD.xx cx15 ex15 ?_
      show BN X _ [.src, .dat (PyData.int a_p), .dat (uI a_l), .dat (PyData.int x15), .dat (PyData.int x1), .dat (PyData.int x8), .no] _
      refine BN.wk (ρ' := [.src, .dat (PyData.int a_p), .dat (uI a_l), .dat (PyData.int x15), .dat (PyData.int x1), .no, .no]) (.eq (.eq (.eq (.eq (.eq (.no (.eq .nil))))))) ?_
      refine BN.nil ?_
      exact ⟨(x15), rfl, h⟩
theorem ok_law_digits_P_INI {f : Addr} {fd : FuncData} (F : Fun K "_law_digits" "_law_digits" s_law_digits f fd) (B : Blt mg)   : FnG Pg w K mg base (k + 1) f fd ["p", "l", "whole"] (spOf K W_law_digits_P_INI) := by
  refine okFn F sc_law_digits (by rintro as Q ⟨a_p, a_l, a_whole, r, rfl, h, hQ⟩; rfl) ?_
  rintro X C Fx as Q ⟨a_p, a_l, a_whole, r, rfl, h, hQ⟩
  unfold f_law_digits_P_INI at h
  replace h := toO h
  show BN X _ [.dat (PyData.int a_p), .dat (uI a_l), .dat (PyData.int a_whole), .no, .no] _
  refine BN.cons ?_
  refine SN.ife ?_
  refine TN.isN ?_
  refine EN.var (i := 1) (d := uI a_l) C rfl (by walk_at "vis") rfl ?_
  refine tb_t rfl ?_
  refine Kt.yes ?_
  refine BN.cons ?_
  refine SN.ret ?_
  refine EN.lst ?_
  refine LN.cons rfl ?_
  refine EN.var (i := 2) (d := PyData.int a_whole) C rfl (by walk_at "vis") rfl ?_
  refine LN.nil ?_
  refine ⟨Nat.le_of_ble_eq_true rfl, ?_⟩
  cases h
  exact hQ
theorem ok_law_digits_P_III {f : Addr} {fd : FuncData} (F : Fun K "_law_digits" "_law_digits" s_law_digits f fd) (B : Blt mg)   : FnG Pg w K mg base (k + 1) f fd ["p", "l", "whole"] (spOf K W_law_digits_P_III) := by
  refine okFn F sc_law_digits (by rintro as Q ⟨a_p, a_l, a_whole, r, rfl, h, hQ⟩; rfl) ?_
  rintro X C Fx as Q ⟨a_p, a_l, a_whole, r, rfl, h, hQ⟩
  unfold f_law_digits_P_III at h
  replace h := toO h
  show BN X _ [.dat (PyData.int a_p), .dat (PyData.int a_l), .dat (PyData.int a_whole), .no, .no] _
  refine BN.cons ?_
  refine SN.ife ?_
  refine TN.isN ?_
  refine EN.var (i := 1) (d := PyData.int a_l) C rfl (by walk_at "vis") rfl ?_
  refine tb_f rfl ?_
  refine Kt.noo ?_
  refine BN.nil ?_
  show BN X _ [.dat (PyData.int a_p), .dat (PyData.int a_l), .dat (PyData.int a_whole), .no, .no] _
  refine BN.cons ?_
  refine SN.par2 (i := 3) (j := 4) C rfl rfl (by decide) rfl rfl (by rintro ⟨⟩ ⟨⟩; rfl) rfl ?_
  refine XA.own rfl ?_
  refine NN.lst ?_
  refine LN.cons rfl ?_
  refine EN.mod ?_
  refine EN.var (i := 2) (d := PyData.int a_whole) C rfl (by walk_at "vis") rfl ?_
  refine EN.var (i := 1) (d := PyData.int a_l) C rfl (by walk_at "vis") rfl ?_
  obtain ⟨cx1, x1, ex1, h⟩ := modK_ok h
  refine ModI.xx cx1 ex1 ?_
  refine LN.nil ?_
  refine ⟨Nat.le_of_ble_eq_true rfl, ?_⟩
  refine XA.dat rfl ?_
  refine EN.div ?_
  refine EN.var (i := 2) (d := PyData.int a_whole) C rfl (by walk_at "vis") rfl ?_
  refine EN.var (i := 1) (d := PyData.int a_l) C rfl (by walk_at "vis") rfl ?_
  obtain ⟨cx2, x2, ex2, h⟩ := divK_ok h
  refine DivI.xx cx2 ex2 ?_
  refine XA.nil ?_
  refine ⟨rfl, ?_⟩
  show BN X _ [.dat (PyData.int a_p), .dat (PyData.int a_l), .dat (PyData.int a_whole), .own ((([x1] : List Int)).map PyData.int), .dat (PyData.int x2)] _
  refine BN.cons ?_
  refine SN.whileK C h (fun (s3 : ((List Int) × Int)) => [.dat (PyData.int a_p), .dat (PyData.int a_l), .dat (PyData.int a_whole), .own (((s3).1).map PyData.int), .dat (PyData.int (s3).2)]) rfl ?_ ?_ ?_
  · intro s10 h
    show BN X _ [.dat (PyData.int a_p), .dat (PyData.int a_l), .dat (PyData.int a_whole), .own (((s10).1).map PyData.int), .dat (PyData.int (s10).2)] _
    refine BN.freeze (i := 3) rfl ?_
    show BN X _ [.dat (PyData.int a_p), .dat (PyData.int a_l), .dat (PyData.int a_whole), .dat ((lI PyData.int) (s10).1), .dat (PyData.int (s10).2)] _
    refine BN.cons ?_
    refine SN.ret ?_
    refine EN.var (i := 3) (d := (lI PyData.int) (s10).1) C rfl (by walk_at "vis") rfl ?_
    cases h
    exact hQ
  · intro s3 J6 h
    refine TN.gt ?_
    refine EN.var (i := 4) (d := PyData.int (s3).2) C rfl (by walk_at "vis") rfl ?_
    refine EN.int ?_
    refine IbGt ?_
    exact h
  · intro s3 fin4 nx5 h
    show BN X _ [.dat (PyData.int a_p), .dat (PyData.int a_l), .dat (PyData.int a_whole), .own (((s3).1).map PyData.int), .dat (PyData.int (s3).2)] _
    refine BN.cons ?_
    refine SN.app (i := 3) C rfl (by walk_at "vis") rfl ?_ rfl rfl rfl rfl rfl rfl
    refine EN.ife ?_
    refine TN.gt ?_
    refine EN.var (i := 0) (d := PyData.int a_p) C rfl (by walk_at "vis") rfl ?_
    refine EN.int ?_
    refine IbGt ?_
    refine ⟨fun hb => ?_, fun hb => ?_⟩
    · have h := bK_t hb h
      refine EN.mod ?_
      refine EN.var (i := 4) (d := PyData.int (s3).2) C rfl (by walk_at "vis") rfl ?_
      refine EN.var (i := 0) (d := PyData.int a_p) C rfl (by walk_at "vis") rfl ?_
      obtain ⟨cx7, x7, ex7, h⟩ := modK_ok h
      refine ModI.xx cx7 ex7 ?_
      obtain ⟨cx8, h⟩ := chkK_ok h
      obtain ⟨x8, ex8, h⟩ := letK_ok h
      refine ⟨app_c (inj := PyData.int) cx8, ?_⟩
      rw [app_r (inj := PyData.int) ex8]
      show BN X _ [.dat (PyData.int a_p), .dat (PyData.int a_l), .dat (PyData.int a_whole), .own ((x8).map PyData.int), .dat (PyData.int (s3).2)] _
      refine BN.cons ?_
      refine SN.asg (i := 4) C Fx rfl (by walk_at "vis") rfl ?_
      refine EN.ife ?_
      refine TN.gt ?_
      refine EN.var (i := 0) (d := PyData.int a_p) C rfl (by walk_at "vis") rfl ?_
      refine EN.int ?_
      refine IbGt ?_
      refine ⟨fun hb => ?_, fun hb => ?_⟩
      · have h := bK_t hb h
        refine EN.div ?_
        refine EN.var (i := 4) (d := PyData.int (s3).2) C rfl (by walk_at "vis") rfl ?_
        refine EN.var (i := 0) (d := PyData.int a_p) C rfl (by walk_at "vis") rfl ?_
        obtain ⟨cx9, x9, ex9, h⟩ := divK_ok h
        refine DivI.xx cx9 ex9 ?_
        show BN X _ [.dat (PyData.int a_p), .dat (PyData.int a_l), .dat (PyData.int a_whole), .own ((x8).map PyData.int), .dat (PyData.int x9)] _
        refine BN.nil ?_
        exact ⟨(x8, x9), rfl, h⟩
      · exact dead (bK_f hb h)
    · exact dead (bK_f hb h)
theorem ok_law_digits_P_INI_or_law_digits_P_III {f : Addr} {fd : FuncData} (F : Fun K "_law_digits" "_law_digits" s_law_digits f fd) (B : Blt mg)   : FnG Pg w K mg base (k + 1) f fd ["p", "l", "whole"] (spOf K W_law_digits_P_INI_or_law_digits_P_III) := FnG.or (ok_law_digits_P_INI F B ) (ok_law_digits_P_III F B )
theorem ok_law_has_middle_P_III {f : Addr} {fd : FuncData} (F : Fun K "_law_has_middle" "_law_has_middle" s_law_has_middle f fd) (B : Blt mg) (T_law_length_P_II : Fd Pg w K mg base k "_law_length" W_law_length_P_II) (T_law_digits_P_INI_or_law_digits_P_III : Fd Pg w K mg base k "_law_digits" W_law_digits_P_INI_or_law_digits_P_III)  : FnG Pg w K mg base (k + 1) f fd ["p", "d", "n"] (spOf K W_law_has_middle_P_III) := by
  refine okFn F sc_law_has_middle (by rintro as Q ⟨a_p, a_d, a_n, r, rfl, h, hQ⟩; rfl) ?_
  rintro X C Fx as Q ⟨a_p, a_d, a_n, r, rfl, h, hQ⟩
  unfold f_law_has_middle_P_III at h
  replace h := toO h
  show BN X _ [.dat (PyData.int a_p), .dat (PyData.int a_d), .dat (PyData.int a_n), .no] _
  refine BN.cons ?_
  refine SN.ret ?_
  refine EN.eq C ?_
  refine EN.len C rfl B.len ?_ rfl rfl
  refine EN.lc (i := 3) C rfl rfl rfl (fun _ => rfl) ?_
  refine IN.seq ?_
  refine EN.call C T_law_digits_P_INI_or_law_digits_P_III (by omega) rfl ?_ rfl rfl
  refine AN.cons rfl ?_
  refine EN.var (i := 0) (d := PyData.int a_p) C rfl (by walk_at "vis") rfl ?_
  refine AN.cons rfl ?_
  refine EN.call C T_law_length_P_II (by omega) rfl ?_ rfl rfl
  refine AN.cons rfl ?_
  refine EN.var (i := 0) (d := PyData.int a_p) C rfl (by walk_at "vis") rfl ?_
  refine AN.cons rfl ?_
  refine EN.var (i := 1) (d := PyData.int a_d) C rfl (by walk_at "vis") rfl ?_
  refine AN.nil ?_
  obtain ⟨x1, ex1, h⟩ := callK_ok h
  refine ⟨_, _, _, rfl, ex1, ?_⟩
  rcases x1 with _ | x2
  · have h := optK_n h
    refine AN.cons rfl ?_
    refine EN.add ?_
    refine EN.var (i := 2) (d := PyData.int a_n) C rfl (by walk_at "vis") rfl ?_
    refine EN.int ?_
    obtain ⟨x3, ex3, h⟩ := letK_ok h
    refine AddD.xx ex3 ?_
    refine AN.nil ?_
    obtain ⟨x4, ex4, h⟩ := callK_ok h
    refine Or.inl ⟨_, _, _, _, rfl, ex4, ?_⟩
    refine SeqD.l ?_
    refine lcFK_in h PyData.int PyData.int ?_ ?_ ?_
    · intro x6 J11 h Y10 CY10
      refine TN.ne CY10 ?_
      refine EN.var (i := 3) (d := PyData.int x6) CY10 rfl (by walk_at "vis") rfl ?_
      refine EN.int ?_
      refine NeT.xx (inj := PyData.int) (x := x6) (y := 0) Ev.int (by decide) ?_
      exact h
    · intro x6 k7 h Y5 CY5
      refine EN.var (i := 3) (d := PyData.int x6) CY5 rfl (by walk_at "vis") rfl ?_
      exact ⟨_, rfl, h⟩
    · intro ys8 h
      obtain ⟨x9, ex9, h⟩ := letK_ok h
      refine LenD.lx (inj := PyData.int) (xs := ys8) ex9 ?_
      refine EN.int ?_
      refine EqD.xx (inj := PyData.int) (x := x9) (y := 1) Ev.int (by decide) ?_
      cases h
      exact hQ
  · have h := optK_s h
    refine AN.cons rfl ?_
    refine EN.add ?_
    refine EN.var (i := 2) (d := PyData.int a_n) C rfl (by walk_at "vis") rfl ?_
    refine EN.int ?_
    obtain ⟨x12, ex12, h⟩ := letK_ok h
    refine AddD.xx ex12 ?_
    refine AN.nil ?_
    obtain ⟨x13, ex13, h⟩ := callK_ok h
    refine Or.inr ⟨_, _, _, _, rfl, ex13, ?_⟩
    refine SeqD.l ?_
    refine lcFK_in h PyData.int PyData.int ?_ ?_ ?_
    · intro x15 J20 h Y19 CY19
      refine TN.ne CY19 ?_
      refine EN.var (i := 3) (d := PyData.int x15) CY19 rfl (by walk_at "vis") rfl ?_
      refine EN.int ?_
      refine NeT.xx (inj := PyData.int) (x := x15) (y := 0) Ev.int (by decide) ?_
      exact h
    · intro x15 k16 h Y14 CY14
      refine EN.var (i := 3) (d := PyData.int x15) CY14 rfl (by walk_at "vis") rfl ?_
      exact ⟨_, rfl, h⟩
    · intro ys17 h
      obtain ⟨x18, ex18, h⟩ := letK_ok h
      refine LenD.lx (inj := PyData.int) (xs := ys17) ex18 ?_
      refine EN.int ?_
      refine EqD.xx (inj := PyData.int) (x := x18) (y := 1) Ev.int (by decide) ?_
      cases h
      exact hQ
theorem ok_number_P_II {f : Addr} {fd : FuncData} (F : Fun K "number" "number" s_number f fd) (B : Blt mg)   : FnG Pg w K mg base (k + 1) f fd ["p", "n"] (spOf K W_number_P_II) := by
  refine okFn F sc_number (by rintro as Q ⟨a_p, a_n, r, rfl, h, hQ⟩; rfl) ?_
  rintro X C Fx as Q ⟨a_p, a_n, r, rfl, h, hQ⟩
  unfold f_number_P_II at h
  replace h := toO h
  show BN X _ [.dat (PyData.int a_p), .dat (PyData.int a_n)] _
  refine BN.cons ?_
  refine SN.ife ?_
  refine TN.eq C ?_
  refine EN.var (i := 0) (d := PyData.int a_p) C rfl (by walk_at "vis") rfl ?_
  refine EN.int ?_
  refine EqT.xx (inj := PyData.int) (x := a_p) (y := 0) Ev.int (by decide) ?_
  refine ⟨fun hb => ?_, fun hb => ?_⟩
  · exact dead (bK_t hb h)
  · have h := bK_f hb h
    refine BN.nil ?_
    show BN X _ [.dat (PyData.int a_p), .dat (PyData.int a_n)] _
    refine BN.cons ?_
    refine SN.ret ?_
    refine EN.mod ?_
    refine EN.var (i := 1) (d := PyData.int a_n) C rfl (by walk_at "vis") rfl ?_
    refine EN.var (i := 0) (d := PyData.int a_p) C rfl (by walk_at "vis") rfl ?_
    obtain ⟨cx1, x1, ex1, h⟩ := modK_ok h
    refine ModI.xx cx1 ex1 ?_
    cases h
    exact hQ
theorem ok_times_P_III {f : Addr} {fd : FuncData} (F : Fun K "times" "times" s_times f fd) (B : Blt mg)   : FnG Pg w K mg base (k + 1) f fd ["p", "x", "y"] (spOf K W_times_P_III) := by
  refine okFn F sc_times (by rintro as Q ⟨a_p, a_x, a_y, r, rfl, h, hQ⟩; rfl) ?_
  rintro X C Fx as Q ⟨a_p, a_x, a_y, r, rfl, h, hQ⟩
  unfold f_times_P_III at h
  replace h := toO h
  show BN X _ [.dat (PyData.int a_p), .dat (PyData.int a_x), .dat (PyData.int a_y), .no, .no, .no, .no] _
  refine BN.cons ?_
  refine SN.ife ?_
  refine TN.eq C ?_
  refine EN.var (i := 0) (d := PyData.int a_p) C rfl (by walk_at "vis") rfl ?_
  refine EN.int ?_
  refine EqT.xx (inj := PyData.int) (x := a_p) (y := 0) Ev.int (by decide) ?_
  refine ⟨fun hb => ?_, fun hb => ?_⟩
  · exact dead (bK_t hb h)
  · have h := bK_f hb h
    refine BN.nil ?_
    show BN X _ [.dat (PyData.int a_p), .dat (PyData.int a_x), .dat (PyData.int a_y), .no, .no, .no, .no] _
    refine BN.cons ?_
    refine SN.ret ?_
    refine EN.mod ?_
    refine EN.mul ?_
    refine EN.var (i := 1) (d := PyData.int a_x) C rfl (by walk_at "vis") rfl ?_
    refine EN.var (i := 2) (d := PyData.int a_y) C rfl (by walk_at "vis") rfl ?_
    obtain ⟨cx1, x1, ex1, h⟩ := mulK_ok h
    refine MulD.xx cx1 ex1 ?_
    refine EN.var (i := 0) (d := PyData.int a_p) C rfl (by walk_at "vis") rfl ?_
    obtain ⟨cx2, x2, ex2, h⟩ := modK_ok h
    refine ModI.xx cx2 ex2 ?_
    cases h
    exact hQ
theorem ok_minus_P_III {f : Addr} {fd : FuncData} (F : Fun K "minus" "minus" s_minus f fd) (B : Blt mg)   : FnG Pg w K mg base (k + 1) f fd ["p", "x", "y"] (spOf K W_minus_P_III) := by
  refine okFn F sc_minus (by rintro as Q ⟨a_p, a_x, a_y, r, rfl, h, hQ⟩; rfl) ?_
  rintro X C Fx as Q ⟨a_p, a_x, a_y, r, rfl, h, hQ⟩
  unfold f_minus_P_III at h
  replace h := toO h
  show BN X _ [.dat (PyData.int a_p), .dat (PyData.int a_x), .dat (PyData.int a_y), .no, .no, .no, .no] _
  refine BN.cons ?_
  refine SN.ife ?_
  refine TN.eq C ?_
  refine EN.var (i := 0) (d := PyData.int a_p) C rfl (by walk_at "vis") rfl ?_
  refine EN.int ?_
  refine EqT.xx (inj := PyData.int) (x := a_p) (y := 0) Ev.int (by decide) ?_
  refine ⟨fun hb => ?_, fun hb => ?_⟩
  · exact dead (bK_t hb h)
  · have h := bK_f hb h
    refine BN.nil ?_
    show BN X _ [.dat (PyData.int a_p), .dat (PyData.int a_x), .dat (PyData.int a_y), .no, .no, .no, .no] _
    refine BN.cons ?_
    refine SN.ret ?_
    refine EN.mod ?_
    refine EN.sub ?_
    refine EN.var (i := 1) (d := PyData.int a_x) C rfl (by walk_at "vis") rfl ?_
    refine EN.var (i := 2) (d := PyData.int a_y) C rfl (by walk_at "vis") rfl ?_
    obtain ⟨x1, ex1, h⟩ := letK_ok h
    refine SubI.xx ex1 ?_
    refine EN.var (i := 0) (d := PyData.int a_p) C rfl (by walk_at "vis") rfl ?_
    obtain ⟨cx2, x2, ex2, h⟩ := modK_ok h
    refine ModI.xx cx2 ex2 ?_
    cases h
    exact hQ
theorem ok_worth_row_P_III {f : Addr} {fd : FuncData} (F : Fun K "worth_row" "worth_row" s_worth_row f fd) (B : Blt mg) (T_number_P_II : Fd Pg w K mg base k "number" W_number_P_II) (T_times_P_III : Fd Pg w K mg base k "times" W_times_P_III) (T_minus_P_III : Fd Pg w K mg base k "minus" W_minus_P_III)  : FnG Pg w K mg base (k + 1) f fd ["p", "d", "m"] (spOf K W_worth_row_P_III) := by
  refine okFn F sc_worth_row (by rintro as Q ⟨a_p, a_d, a_m, r, rfl, h, hQ⟩; rfl) ?_
  rintro X C Fx as Q ⟨a_p, a_d, a_m, r, rfl, h, hQ⟩
  unfold f_worth_row_P_III at h
  replace h := toO h
  show BN X _ [.dat (PyData.int a_p), .dat (PyData.int a_d), .dat (PyData.int a_m), .no] _
  refine BN.cons ?_
  refine SN.asgN (i := 3) C Fx rfl (by walk_at "vis") (by rintro ⟨⟩ ⟨⟩; rfl) ?_
  refine NN.lst ?_
  refine LN.cons rfl ?_
  refine EN.call C T_number_P_II (by omega) rfl ?_ rfl rfl
  refine AN.cons rfl ?_
  refine EN.var (i := 0) (d := PyData.int a_p) C rfl (by walk_at "vis") rfl ?_
  refine AN.cons rfl ?_
  refine EN.int ?_
  refine AN.nil ?_
  obtain ⟨x1, ex1, h⟩ := callK_ok h
  refine ⟨_, _, _, rfl, ex1, ?_⟩
  refine LN.cons rfl ?_
  refine EN.var (i := 1) (d := PyData.int a_d) C rfl (by walk_at "vis") rfl ?_
  refine LN.nil ?_
  refine ⟨Nat.le_of_ble_eq_true rfl, ?_⟩
  show BN X _ [.dat (PyData.int a_p), .dat (PyData.int a_d), .dat (PyData.int a_m), .own ((([x1, a_d] : List Int)).map PyData.int)] _
  refine BN.cons ?_
  refine SN.whileK C h (fun (s2 : ((List Int))) => [.dat (PyData.int a_p), .dat (PyData.int a_d), .dat (PyData.int a_m), .own ((s2).map PyData.int)]) rfl ?_ ?_ ?_
  · intro s14 h
    show BN X _ [.dat (PyData.int a_p), .dat (PyData.int a_d), .dat (PyData.int a_m), .own ((s14).map PyData.int)] _
    refine BN.freeze (i := 3) rfl ?_
    show BN X _ [.dat (PyData.int a_p), .dat (PyData.int a_d), .dat (PyData.int a_m), .dat ((lI PyData.int) s14)] _
    refine BN.cons ?_
    refine SN.ret ?_
    refine EN.slA ?_
    refine EN.var (i := 3) (d := (lI PyData.int) s14) C rfl (by walk_at "vis") rfl ?_
    refine (show EN _ _ _ _ from ?_)
    refine EN.add ?_
    refine EN.var (i := 2) (d := PyData.int a_m) C rfl (by walk_at "vis") rfl ?_
    refine EN.int ?_
    obtain ⟨x15, ex15, h⟩ := letK_ok h
    refine AddD.xx ex15 ?_
    refine ⟨_, rfl, ?_⟩
    obtain ⟨x16, ex16, h⟩ := letK_ok h
    refine cutA_l (inj := PyData.int) (xs := s14) ex16 ?_
    cases h
    exact hQ
  · intro s2 J5 h
    refine TN.le ?_
    refine EN.lenO (i := 3) C rfl B.len rfl (by walk_at "vis") rfl ?_ rfl rfl
    obtain ⟨x6, ex6, h⟩ := letK_ok h
    rw [len_r (inj := PyData.int) (xs := s2) ex6]
    refine EN.var (i := 2) (d := PyData.int a_m) C rfl (by walk_at "vis") rfl ?_
    refine IbLe ?_
    exact h
  · intro s2 fin3 nx4 h
    show BN X _ [.dat (PyData.int a_p), .dat (PyData.int a_d), .dat (PyData.int a_m), .own ((s2).map PyData.int)] _
    refine BN.cons ?_
    refine SN.app (i := 3) C rfl (by walk_at "vis") rfl ?_ rfl rfl rfl rfl rfl rfl
    refine EN.call C T_minus_P_III (by omega) rfl ?_ rfl rfl
    refine AN.cons rfl ?_
    refine EN.var (i := 0) (d := PyData.int a_p) C rfl (by walk_at "vis") rfl ?_
    refine AN.cons rfl ?_
    refine EN.call C T_times_P_III (by omega) rfl ?_ rfl rfl
    refine AN.cons rfl ?_
    refine EN.var (i := 0) (d := PyData.int a_p) C rfl (by walk_at "vis") rfl ?_
    refine AN.cons rfl ?_
    refine EN.var (i := 1) (d := PyData.int a_d) C rfl (by walk_at "vis") rfl ?_
    refine AN.cons rfl ?_
    refine EN.ixO (i := 3) C rfl (by walk_at "vis") rfl (fun _ _ => rfl) ?_
    refine EN.neg ?_
    refine EN.int ?_
    obtain ⟨x7, ex7, h⟩ := letK_ok h
    refine ⟨_, rfl, ?_⟩
    rw [neg_r ex7]
    obtain ⟨x8, ex8, h⟩ := callK_ok h
    refine ixO_x (inj := PyData.int) (xs := s2) ex8 ?_
    refine AN.nil ?_
    obtain ⟨x9, ex9, h⟩ := callK_ok h
    refine ⟨_, _, _, _, rfl, ex9, ?_⟩
    refine AN.cons rfl ?_
    refine EN.ixO (i := 3) C rfl (by walk_at "vis") rfl (fun _ _ => rfl) ?_
    refine EN.neg ?_
    refine EN.int ?_
    obtain ⟨x10, ex10, h⟩ := letK_ok h
    refine ⟨_, rfl, ?_⟩
    rw [neg_r ex10]
    obtain ⟨x11, ex11, h⟩ := callK_ok h
    refine ixO_x (inj := PyData.int) (xs := s2) ex11 ?_
    refine AN.nil ?_
    obtain ⟨x12, ex12, h⟩ := callK_ok h
    refine ⟨_, _, _, _, rfl, ex12, ?_⟩
    obtain ⟨cx13, h⟩ := chkK_ok h
    obtain ⟨x13, ex13, h⟩ := letK_ok h
    refine ⟨app_c (inj := PyData.int) cx13, ?_⟩
    rw [app_r (inj := PyData.int) ex13]
    show BN X _ [.dat (PyData.int a_p), .dat (PyData.int a_d), .dat (PyData.int a_m), .own ((x13).map PyData.int)] _
    refine BN.nil ?_
    exact ⟨(x13), rfl, h⟩
theorem ok_length_P_II {f : Addr} {fd : FuncData} (F : Fun K "length" "length" s_length f fd) (B : Blt mg) (T_worth_row_P_III : Fd Pg w K mg base k "worth_row" W_worth_row_P_III) (T_number_P_II : Fd Pg w K mg base k "number" W_number_P_II)  : FnG Pg w K mg base (k + 1) f fd ["p", "d"] (spOf K W_length_P_II) := by
  refine okFn F sc_length (by rintro as Q ⟨a_p, a_d, r, rfl, h, hQ⟩; rfl) ?_
  rintro X C Fx as Q ⟨a_p, a_d, r, rfl, h, hQ⟩
  unfold f_length_P_II at h
  replace h := toO h
  show BN X _ [.dat (PyData.int a_p), .dat (PyData.int a_d), .no, .no, .no] _
  refine BN.cons ?_
  refine SN.asg (i := 2) C Fx rfl (by walk_at "vis") rfl ?_
  refine EN.ife ?_
  refine TN.trI (fun _ => rfl) ?_
  refine EN.var (i := 0) (d := PyData.int a_p) C rfl (by walk_at "vis") rfl ?_
  refine ⟨_, rfl, ?_⟩
  refine tr_x ?_
  refine ⟨fun hb => ?_, fun hb => ?_⟩
  · have h := bK_t hb h
    refine EN.add ?_
    refine EN.var (i := 0) (d := PyData.int a_p) C rfl (by walk_at "vis") rfl ?_
    refine EN.int ?_
    obtain ⟨x1, ex1, h⟩ := letK_ok h
    refine AddD.xx ex1 ?_
    show BN X _ [.dat (PyData.int a_p), .dat (PyData.int a_d), .dat (PyData.int x1), .no, .no] _
    refine BN.cons ?_
    refine SN.asg (i := 3) C Fx rfl (by walk_at "vis") rfl ?_
    refine EN.call C T_worth_row_P_III (by omega) rfl ?_ rfl rfl
    refine AN.cons rfl ?_
    refine EN.var (i := 0) (d := PyData.int a_p) C rfl (by walk_at "vis") rfl ?_
    refine AN.cons rfl ?_
    refine EN.var (i := 1) (d := PyData.int a_d) C rfl (by walk_at "vis") rfl ?_
    refine AN.cons rfl ?_
    refine EN.sub ?_
    refine EN.var (i := 2) (d := PyData.int x1) C rfl (by walk_at "vis") rfl ?_
    refine EN.int ?_
    obtain ⟨x2, ex2, h⟩ := letK_ok h
    refine SubI.xx ex2 ?_
    refine AN.nil ?_
    obtain ⟨x3, ex3, h⟩ := callK_ok h
    refine ⟨_, _, _, _, rfl, ex3, ?_⟩
    show BN X _ [.dat (PyData.int a_p), .dat (PyData.int a_d), .dat (PyData.int x1), .dat ((lI PyData.int) x3), .no] _
    refine BN.cons ?_
    refine SN.asg (i := 4) C Fx rfl (by walk_at "vis") rfl ?_
    refine EN.call C T_number_P_II (by omega) rfl ?_ rfl rfl
    refine AN.cons rfl ?_
    refine EN.var (i := 0) (d := PyData.int a_p) C rfl (by walk_at "vis") rfl ?_
    refine AN.cons rfl ?_
    refine EN.int ?_
    refine AN.nil ?_
    obtain ⟨x4, ex4, h⟩ := callK_ok h
    refine ⟨_, _, _, rfl, ex4, ?_⟩
    show BN X _ [.dat (PyData.int a_p), .dat (PyData.int a_d), .dat (PyData.int x1), .dat ((lI PyData.int) x3), .dat (PyData.int x4)] _
    refine BN.cons ?_
    refine SN.ret ?_
    refine EN.join h (oI PyData.int) ?_ ?_
    · intro J5 h
      refine EN.ife ?_
      refine TN.inL C rfl ?_
      refine EN.var (i := 4) (d := PyData.int x4) C rfl (by walk_at "vis") rfl ?_
      refine EN.var (i := 3) (d := (lI PyData.int) x3) C rfl (by walk_at "vis") rfl ?_
      refine InD.xx (inj := PyData.int) (x := x4) (xs := x3) Ev.int (by decide) ?_
      refine ⟨fun hb => ?_, fun hb => ?_⟩
      · have h := bK_t hb h
        refine EN.add ?_
        refine EN.index C ?_ rfl rfl rfl rfl rfl
        refine EN.var (i := 3) (d := (lI PyData.int) x3) C rfl (by walk_at "vis") rfl ?_
        refine ⟨_, rfl, ?_⟩
        refine EN.var (i := 4) (d := PyData.int x4) C rfl (by walk_at "vis") rfl ?_
        obtain ⟨x8, ex8, h⟩ := callK_ok h
        obtain ⟨m9, z9, i1, i2, i3, i4, i5, i6⟩ := idx_ok (inj := PyData.int) (x := x4) (xs := x3) Ev.int (by decide) ex8
        refine ⟨m9, z9, i1, i2, i3, i4, i5, ?_⟩
        rw [i6]
        refine EN.int ?_
        obtain ⟨x9, ex9, h⟩ := letK_ok h
        refine AddD.xx ex9 ?_
        exact ⟨(some x9), rfl, h⟩
      · have h := bK_f hb h
        refine EN.non ?_
        exact ⟨none, rfl, h⟩
    · intro x10 h
      rcases x10 with _ | x11
      · have h := optK_n h
        cases h
        exact hQ
      · have h := optK_s h
        cases h
        exact hQ
  · exact dead (bK_f hb h)
theorem ok_digits_P_INI {f : Addr} {fd : FuncData} (F : Fun K "digits" "digits" s_digits f fd) (B : Blt mg)   : FnG Pg w K mg base (k + 1) f fd ["p", "l", "N"] (spOf K W_digits_P_INI) := by
  refine okFn F sc_digits (by rintro as Q ⟨a_p, a_l, a_N, r, rfl, h, hQ⟩; rfl) ?_
  rintro X C Fx as Q ⟨a_p, a_l, a_N, r, rfl, h, hQ⟩
  unfold f_digits_P_INI at h
  replace h := toO h
  show BN X _ [.dat (PyData.int a_p), .dat (uI a_l), .dat (PyData.int a_N), .no, .no] _
  refine BN.cons ?_
  refine SN.ife ?_
  refine TN.isN ?_
  refine EN.var (i := 1) (d := uI a_l) C rfl (by walk_at "vis") rfl ?_
  refine tb_t rfl ?_
  refine Kt.yes ?_
  refine BN.cons ?_
  refine SN.ret ?_
  refine EN.tup ?_
  refine LN.cons rfl ?_
  refine EN.var (i := 2) (d := PyData.int a_N) C rfl (by walk_at "vis") rfl ?_
  refine LN.nil ?_
  refine ⟨Nat.le_of_ble_eq_true rfl, ?_⟩
  cases h
  exact hQ
theorem ok_parts_P_INvI {f : Addr} {fd : FuncData} (F : Fun K "_parts" "_parts" s_parts f fd) (B : Blt mg)   : FnG Pg w K mg base (k + 1) f fd ["p", "l", "told"] (spOf K W_parts_P_INvI) := by
  refine okFn F sc_parts (by rintro as Q ⟨a_p, a_l, a_told, r, rfl, h, hQ⟩; rfl) ?_
  rintro X C Fx as Q ⟨a_p, a_l, a_told, r, rfl, h, hQ⟩
  unfold f_parts_P_INvI at h
  replace h := toO h
  show BN X _ [.dat (PyData.int a_p), .dat (uI a_l), .dat ((vI PyData.int) a_told), .no, .no, .no] _
  refine BN.cons ?_
  refine SN.asgN (i := 3) C Fx rfl (by walk_at "vis") (by rintro ⟨⟩ ⟨⟩; rfl) ?_
  refine NN.lst ?_
  refine LN.nil ?_
  refine ⟨Nat.le_of_ble_eq_true rfl, ?_⟩
  show BN X _ [.dat (PyData.int a_p), .dat (uI a_l), .dat ((vI PyData.int) a_told), .own ((([] : List Int)).map PyData.int), .no, .no] _
  refine BN.cons ?_
  refine SN.asg (i := 4) C Fx rfl (by walk_at "vis") rfl ?_
  refine EN.int ?_
  show BN X _ [.dat (PyData.int a_p), .dat (uI a_l), .dat ((vI PyData.int) a_told), .own ((([] : List Int)).map PyData.int), .dat (PyData.int 1), .no] _
  refine BN.cons ?_
  refine SN.for C (fun _ => rfl) ?_
  refine IN.seq ?_
  refine EN.var (i := 2) (d := (vI PyData.int) a_told) C rfl (by walk_at "vis") rfl ?_
  refine SeqD.t ?_
  refine forK_in h PyData.int (fun (s14 : ((List Int) × (Option Int))) => [.dat (PyData.int a_p), .dat (uI a_l), .dat ((vI PyData.int) a_told), .own (((s14).1).map PyData.int), .dat ((oI PyData.int) (s14).2), .no]) rfl ?_ ?_
  · intro s28 h
    show BN X _ [.dat (PyData.int a_p), .dat (uI a_l), .dat ((vI PyData.int) a_told), .own (((s28).1).map PyData.int), .dat ((oI PyData.int) (s28).2), .no] _
    refine BN.freeze (i := 3) rfl ?_
    show BN X _ [.dat (PyData.int a_p), .dat (uI a_l), .dat ((vI PyData.int) a_told), .dat ((lI PyData.int) (s28).1), .dat ((oI PyData.int) (s28).2), .no] _
    refine BN.cons ?_
    refine SN.ret ?_
    refine EN.var (i := 3) (d := (lI PyData.int) (s28).1) C rfl (by walk_at "vis") rfl ?_
    cases h
    exact hQ
  · intro x17 s14 fin15 nx16 h
    refine GN.name (i := 5) C rfl (by walk_at "vis") (Or.inl (Fx _)) ?_
    show BN X _ [.dat (PyData.int a_p), .dat (uI a_l), .dat ((vI PyData.int) a_told), .own (((s14).1).map PyData.int), .dat ((oI PyData.int) (s14).2), .dat (PyData.int x17)] _
    rcases hz : (s14).2 with _ | x18
    · rw [hz] at h
      have h := optK_n h
      show BN X _ [.dat (PyData.int a_p), .dat (uI a_l), .dat ((vI PyData.int) a_told), .own (((s14).1).map PyData.int), .dat (uI ()), .dat (PyData.int x17)] _
      exact dead h
    · rw [hz] at h
      have h := optK_s h
      show BN X _ [.dat (PyData.int a_p), .dat (uI a_l), .dat ((vI PyData.int) a_told), .own (((s14).1).map PyData.int), .dat (PyData.int x18), .dat (PyData.int x17)] _
      refine BN.cons ?_
      refine SN.app (i := 3) C rfl (by walk_at "vis") rfl ?_ rfl rfl rfl rfl rfl rfl
      refine EN.mul ?_
      refine EN.var (i := 5) (d := PyData.int x17) C rfl (by walk_at "vis") rfl ?_
      refine EN.var (i := 4) (d := PyData.int x18) C rfl (by walk_at "vis") rfl ?_
      obtain ⟨cx19, x19, ex19, h⟩ := mulK_ok h
      refine MulD.xx cx19 ex19 ?_
      obtain ⟨cx20, h⟩ := chkK_ok h
      obtain ⟨x20, ex20, h⟩ := letK_ok h
      refine ⟨app_c (inj := PyData.int) cx20, ?_⟩
      rw [app_r (inj := PyData.int) ex20]
      show BN X _ [.dat (PyData.int a_p), .dat (uI a_l), .dat ((vI PyData.int) a_told), .own ((x20).map PyData.int), .dat (PyData.int x18), .dat (PyData.int x17)] _
      refine BN.cons ?_
      refine SN.asg (i := 4) C Fx rfl (by walk_at "vis") rfl ?_
      refine EN.join h (oI PyData.int) ?_ ?_
      · intro J21 h
        refine EN.ife ?_
        refine TN.eq C ?_
        refine EN.lenO (i := 3) C rfl B.len rfl (by walk_at "vis") rfl ?_ rfl rfl
        obtain ⟨x24, ex24, h⟩ := letK_ok h
        rw [len_r (inj := PyData.int) (xs := x20) ex24]
        refine EN.int ?_
        refine EqT.xx (inj := PyData.int) (x := x24) (y := 1) Ev.int (by decide) ?_
        refine ⟨fun hb => ?_, fun hb => ?_⟩
        · have h := bK_t hb h
          refine EN.var (i := 1) (d := uI a_l) C rfl (by walk_at "vis") rfl ?_
          exact ⟨none, rfl, h⟩
        · have h := bK_f hb h
          refine EN.mul ?_
          refine EN.var (i := 4) (d := PyData.int x18) C rfl (by walk_at "vis") rfl ?_
          refine EN.var (i := 0) (d := PyData.int a_p) C rfl (by walk_at "vis") rfl ?_
          obtain ⟨cx25, x25, ex25, h⟩ := mulK_ok h
          refine MulD.xx cx25 ex25 ?_
          exact ⟨(some x25), rfl, h⟩
      · intro x26 h
        rcases x26 with _ | x27
        · have h := optK_n h
          show BN X _ [.dat (PyData.int a_p), .dat (uI a_l), .dat ((vI PyData.int) a_told), .own ((x20).map PyData.int), .dat (uI ()), .dat (PyData.int x17)] _
          refine BN.wk (ρ' := [.dat (PyData.int a_p), .dat (uI a_l), .dat ((vI PyData.int) a_told), .own ((x20).map PyData.int), .dat ((oI PyData.int) none), .no]) (.eq (.eq (.eq (.eq (.eq (.no .nil)))))) ?_
          refine BN.nil ?_
          exact ⟨(x20, none), rfl, h⟩
        · have h := optK_s h
          show BN X _ [.dat (PyData.int a_p), .dat (uI a_l), .dat ((vI PyData.int) a_told), .own ((x20).map PyData.int), .dat (PyData.int x27), .dat (PyData.int x17)] _
          refine BN.wk (ρ' := [.dat (PyData.int a_p), .dat (uI a_l), .dat ((vI PyData.int) a_told), .own ((x20).map PyData.int), .dat ((oI PyData.int) (some x27)), .no]) (.eq (.eq (.eq (.eq (.eq (.no .nil)))))) ?_
          refine BN.nil ?_
          exact ⟨(x20, (some x27)), rfl, h⟩
theorem ok_of_digits_P_INvI {f : Addr} {fd : FuncData} (F : Fun K "of_digits" "of_digits" s_of_digits f fd) (B : Blt mg) (T_parts_P_INvI : Fd Pg w K mg base k "_parts" W_parts_P_INvI)  : FnG Pg w K mg base (k + 1) f fd ["p", "l", "told"] (spOf K W_of_digits_P_INvI) := by
  refine okFn F sc_of_digits (by rintro as Q ⟨a_p, a_l, a_told, r, rfl, h, hQ⟩; rfl) ?_
  rintro X C Fx as Q ⟨a_p, a_l, a_told, r, rfl, h, hQ⟩
  unfold f_of_digits_P_INvI at h
  replace h := toO h
  show BN X _ [.dat (PyData.int a_p), .dat (uI a_l), .dat ((vI PyData.int) a_told)] _
  refine BN.cons ?_
  refine SN.ret ?_
  refine EN.sum C rfl B.sum ?_ rfl rfl
  refine EN.call C T_parts_P_INvI (by omega) rfl ?_ rfl rfl
  refine AN.cons rfl ?_
  refine EN.var (i := 0) (d := PyData.int a_p) C rfl (by walk_at "vis") rfl ?_
  refine AN.cons rfl ?_
  refine EN.var (i := 1) (d := uI a_l) C rfl (by walk_at "vis") rfl ?_
  refine AN.cons rfl ?_
  refine EN.var (i := 2) (d := (vI PyData.int) a_told) C rfl (by walk_at "vis") rfl ?_
  refine AN.nil ?_
  obtain ⟨x1, ex1, h⟩ := callK_ok h
  refine ⟨_, _, _, _, rfl, ex1, ?_⟩
  obtain ⟨x2, ex2, h⟩ := letK_ok h
  refine ⟨x1, rfl, ?_⟩
  rw [sum_r ex2]
  cases h
  exact hQ
theorem ok_digits_P_III {f : Addr} {fd : FuncData} (F : Fun K "digits" "digits" s_digits f fd) (B : Blt mg)   : FnG Pg w K mg base (k + 1) f fd ["p", "l", "N"] (spOf K W_digits_P_III) := by
  refine okFn F sc_digits (by rintro as Q ⟨a_p, a_l, a_N, r, rfl, h, hQ⟩; rfl) ?_
  rintro X C Fx as Q ⟨a_p, a_l, a_N, r, rfl, h, hQ⟩
  unfold f_digits_P_III at h
  replace h := toO h
  show BN X _ [.dat (PyData.int a_p), .dat (PyData.int a_l), .dat (PyData.int a_N), .no, .no] _
  refine BN.cons ?_
  refine SN.ife ?_
  refine TN.isN ?_
  refine EN.var (i := 1) (d := PyData.int a_l) C rfl (by walk_at "vis") rfl ?_
  refine tb_f rfl ?_
  refine Kt.noo ?_
  refine BN.nil ?_
  show BN X _ [.dat (PyData.int a_p), .dat (PyData.int a_l), .dat (PyData.int a_N), .no, .no] _
  refine BN.cons ?_
  refine SN.asgN (i := 3) C Fx rfl (by walk_at "vis") (by rintro ⟨⟩ ⟨⟩; rfl) ?_
  refine NN.lst ?_
  refine LN.cons rfl ?_
  refine EN.mod ?_
  refine EN.var (i := 2) (d := PyData.int a_N) C rfl (by walk_at "vis") rfl ?_
  refine EN.var (i := 1) (d := PyData.int a_l) C rfl (by walk_at "vis") rfl ?_
  obtain ⟨cx1, x1, ex1, h⟩ := modK_ok h
  refine ModI.xx cx1 ex1 ?_
  refine LN.nil ?_
  refine ⟨Nat.le_of_ble_eq_true rfl, ?_⟩
  show BN X _ [.dat (PyData.int a_p), .dat (PyData.int a_l), .dat (PyData.int a_N), .own ((([x1] : List Int)).map PyData.int), .no] _
  refine BN.cons ?_
  refine SN.asg (i := 4) C Fx rfl (by walk_at "vis") rfl ?_
  refine EN.div ?_
  refine EN.var (i := 2) (d := PyData.int a_N) C rfl (by walk_at "vis") rfl ?_
  refine EN.var (i := 1) (d := PyData.int a_l) C rfl (by walk_at "vis") rfl ?_
  obtain ⟨cx2, x2, ex2, h⟩ := divK_ok h
  refine DivI.xx cx2 ex2 ?_
  show BN X _ [.dat (PyData.int a_p), .dat (PyData.int a_l), .dat (PyData.int a_N), .own ((([x1] : List Int)).map PyData.int), .dat (PyData.int x2)] _
  refine BN.cons ?_
  refine SN.whileK C h (fun (s3 : ((List Int) × Int)) => [.dat (PyData.int a_p), .dat (PyData.int a_l), .dat (PyData.int a_N), .own (((s3).1).map PyData.int), .dat (PyData.int (s3).2)]) rfl ?_ ?_ ?_
  · intro s10 h
    show BN X _ [.dat (PyData.int a_p), .dat (PyData.int a_l), .dat (PyData.int a_N), .own (((s10).1).map PyData.int), .dat (PyData.int (s10).2)] _
    refine BN.freeze (i := 3) rfl ?_
    show BN X _ [.dat (PyData.int a_p), .dat (PyData.int a_l), .dat (PyData.int a_N), .dat ((lI PyData.int) (s10).1), .dat (PyData.int (s10).2)] _
    refine BN.cons ?_
    refine SN.ret ?_
    refine EN.tuplec C rfl B.tuple ?_ rfl rfl
    refine EN.var (i := 3) (d := (lI PyData.int) (s10).1) C rfl (by walk_at "vis") rfl ?_
    refine SeqD.l ?_
    cases h
    exact hQ
  · intro s3 J6 h
    refine TN.gt ?_
    refine EN.var (i := 4) (d := PyData.int (s3).2) C rfl (by walk_at "vis") rfl ?_
    refine EN.int ?_
    refine IbGt ?_
    exact h
  · intro s3 fin4 nx5 h
    show BN X _ [.dat (PyData.int a_p), .dat (PyData.int a_l), .dat (PyData.int a_N), .own (((s3).1).map PyData.int), .dat (PyData.int (s3).2)] _
    refine BN.cons ?_
    refine SN.ife ?_
    refine TN.eq C ?_
    refine EN.var (i := 0) (d := PyData.int a_p) C rfl (by walk_at "vis") rfl ?_
    refine EN.int ?_
    refine EqT.xx (inj := PyData.int) (x := a_p) (y := 0) Ev.int (by decide) ?_
    refine ⟨fun hb => ?_, fun hb => ?_⟩
    · exact dead (bK_t hb h)
    · have h := bK_f hb h
      refine BN.cons ?_
      refine SN.app (i := 3) C rfl (by walk_at "vis") rfl ?_ rfl rfl rfl rfl rfl rfl
      refine EN.mod ?_
      refine EN.var (i := 4) (d := PyData.int (s3).2) C rfl (by walk_at "vis") rfl ?_
      refine EN.var (i := 0) (d := PyData.int a_p) C rfl (by walk_at "vis") rfl ?_
      obtain ⟨cx7, x7, ex7, h⟩ := modK_ok h
      refine ModI.xx cx7 ex7 ?_
      obtain ⟨cx8, h⟩ := chkK_ok h
      obtain ⟨x8, ex8, h⟩ := letK_ok h
      refine ⟨app_c (inj := PyData.int) cx8, ?_⟩
      rw [app_r (inj := PyData.int) ex8]
      show BN X _ [.dat (PyData.int a_p), .dat (PyData.int a_l), .dat (PyData.int a_N), .own ((x8).map PyData.int), .dat (PyData.int (s3).2)] _
      refine BN.cons ?_
      refine SN.augI iop_fdivX (i := 4) C Fx rfl (by walk_at "vis") rfl ?_
      refine EN.var (i := 0) (d := PyData.int a_p) C rfl (by walk_at "vis") rfl ?_
      obtain ⟨cx9, x9, ex9, h⟩ := divK_ok h
      refine ⟨_, rfl, divX_c cx9, ?_⟩
      rw [aug_div ex9]
      show BN X _ [.dat (PyData.int a_p), .dat (PyData.int a_l), .dat (PyData.int a_N), .own ((x8).map PyData.int), .dat (PyData.int x9)] _
      refine BN.nil ?_
      show BN X _ [.dat (PyData.int a_p), .dat (PyData.int a_l), .dat (PyData.int a_N), .own ((x8).map PyData.int), .dat (PyData.int x9)] _
      refine BN.nil ?_
      exact ⟨(x8, x9), rfl, h⟩
theorem ok_digits_P_INI_or_digits_P_III {f : Addr} {fd : FuncData} (F : Fun K "digits" "digits" s_digits f fd) (B : Blt mg)   : FnG Pg w K mg base (k + 1) f fd ["p", "l", "N"] (spOf K W_digits_P_INI_or_digits_P_III) := FnG.or (ok_digits_P_INI F B ) (ok_digits_P_III F B )
theorem ok_has_middle_P_III {f : Addr} {fd : FuncData} (F : Fun K "has_middle" "has_middle" s_has_middle f fd) (B : Blt mg) (T_length_P_II : Fd Pg w K mg base k "length" W_length_P_II) (T_digits_P_INI_or_digits_P_III : Fd Pg w K mg base k "digits" W_digits_P_INI_or_digits_P_III)  : FnG Pg w K mg base (k + 1) f fd ["p", "d", "n"] (spOf K W_has_middle_P_III) := by
  refine okFn F sc_has_middle (by rintro as Q ⟨a_p, a_d, a_n, r, rfl, h, hQ⟩; rfl) ?_
  rintro X C Fx as Q ⟨a_p, a_d, a_n, r, rfl, h, hQ⟩
  unfold f_has_middle_P_III at h
  replace h := toO h
  show BN X _ [.dat (PyData.int a_p), .dat (PyData.int a_d), .dat (PyData.int a_n), .no] _
  refine BN.cons ?_
  refine SN.ret ?_
  refine EN.eq C ?_
  refine EN.len C rfl B.len ?_ rfl rfl
  refine EN.lc (i := 3) C rfl rfl rfl (fun _ => rfl) ?_
  refine IN.seq ?_
  refine EN.call C T_digits_P_INI_or_digits_P_III (by omega) rfl ?_ rfl rfl
  refine AN.cons rfl ?_
  refine EN.var (i := 0) (d := PyData.int a_p) C rfl (by walk_at "vis") rfl ?_
  refine AN.cons rfl ?_
  refine EN.call C T_length_P_II (by omega) rfl ?_ rfl rfl
  refine AN.cons rfl ?_
  refine EN.var (i := 0) (d := PyData.int a_p) C rfl (by walk_at "vis") rfl ?_
  refine AN.cons rfl ?_
  refine EN.var (i := 1) (d := PyData.int a_d) C rfl (by walk_at "vis") rfl ?_
  refine AN.nil ?_
  obtain ⟨x1, ex1, h⟩ := callK_ok h
  refine ⟨_, _, _, rfl, ex1, ?_⟩
  rcases x1 with _ | x2
  · have h := optK_n h
    refine AN.cons rfl ?_
    refine EN.add ?_
    refine EN.var (i := 2) (d := PyData.int a_n) C rfl (by walk_at "vis") rfl ?_
    refine EN.int ?_
    obtain ⟨x3, ex3, h⟩ := letK_ok h
    refine AddD.xx ex3 ?_
    refine AN.nil ?_
    obtain ⟨x4, ex4, h⟩ := callK_ok h
    refine Or.inl ⟨_, _, _, _, rfl, ex4, ?_⟩
    refine SeqD.t ?_
    refine lcFK_in h PyData.int PyData.int ?_ ?_ ?_
    · intro x6 J11 h Y10 CY10
      refine TN.ne CY10 ?_
      refine EN.var (i := 3) (d := PyData.int x6) CY10 rfl (by walk_at "vis") rfl ?_
      refine EN.int ?_
      refine NeT.xx (inj := PyData.int) (x := x6) (y := 0) Ev.int (by decide) ?_
      exact h
    · intro x6 k7 h Y5 CY5
      refine EN.var (i := 3) (d := PyData.int x6) CY5 rfl (by walk_at "vis") rfl ?_
      exact ⟨_, rfl, h⟩
    · intro ys8 h
      obtain ⟨x9, ex9, h⟩ := letK_ok h
      refine LenD.lx (inj := PyData.int) (xs := ys8) ex9 ?_
      refine EN.int ?_
      refine EqD.xx (inj := PyData.int) (x := x9) (y := 1) Ev.int (by decide) ?_
      cases h
      exact hQ
  · have h := optK_s h
    refine AN.cons rfl ?_
    refine EN.add ?_
    refine EN.var (i := 2) (d := PyData.int a_n) C rfl (by walk_at "vis") rfl ?_
    refine EN.int ?_
    obtain ⟨x12, ex12, h⟩ := letK_ok h
    refine AddD.xx ex12 ?_
    refine AN.nil ?_
    obtain ⟨x13, ex13, h⟩ := callK_ok h
    refine Or.inr ⟨_, _, _, _, rfl, ex13, ?_⟩
    refine SeqD.t ?_
    refine lcFK_in h PyData.int PyData.int ?_ ?_ ?_
    · intro x15 J20 h Y19 CY19
      refine TN.ne CY19 ?_
      refine EN.var (i := 3) (d := PyData.int x15) CY19 rfl (by walk_at "vis") rfl ?_
      refine EN.int ?_
      refine NeT.xx (inj := PyData.int) (x := x15) (y := 0) Ev.int (by decide) ?_
      exact h
    · intro x15 k16 h Y14 CY14
      refine EN.var (i := 3) (d := PyData.int x15) CY14 rfl (by walk_at "vis") rfl ?_
      exact ⟨_, rfl, h⟩
    · intro ys17 h
      obtain ⟨x18, ex18, h⟩ := letK_ok h
      refine LenD.lx (inj := PyData.int) (xs := ys17) ex18 ?_
      refine EN.int ?_
      refine EqD.xx (inj := PyData.int) (x := x18) (y := 1) Ev.int (by decide) ?_
      cases h
      exact hQ
theorem ok_parts_P_INTIe {f : Addr} {fd : FuncData} (F : Fun K "_parts" "_parts" s_parts f fd) (B : Blt mg)   : FnG Pg w K mg base (k + 1) f fd ["p", "l", "told"] (spOf K W_parts_P_INTIe) := by
  refine okFn F sc_parts (by rintro as Q ⟨a_p, a_l, a_told, r, rfl, h, hQ⟩; rfl) ?_
  rintro X C Fx as Q ⟨a_p, a_l, a_told, r, rfl, h, hQ⟩
  unfold f_parts_P_INTIe at h
  replace h := toO h
  show BN X _ [.dat (PyData.int a_p), .dat (uI a_l), .dat ((t1I PyData.int) a_told), .no, .no, .no] _
  refine BN.cons ?_
  refine SN.asgN (i := 3) C Fx rfl (by walk_at "vis") (by rintro ⟨⟩ ⟨⟩; rfl) ?_
  refine NN.lst ?_
  refine LN.nil ?_
  refine ⟨Nat.le_of_ble_eq_true rfl, ?_⟩
  show BN X _ [.dat (PyData.int a_p), .dat (uI a_l), .dat ((t1I PyData.int) a_told), .own ((([] : List Int)).map PyData.int), .no, .no] _
  refine BN.cons ?_
  refine SN.asg (i := 4) C Fx rfl (by walk_at "vis") rfl ?_
  refine EN.int ?_
  show BN X _ [.dat (PyData.int a_p), .dat (uI a_l), .dat ((t1I PyData.int) a_told), .own ((([] : List Int)).map PyData.int), .dat (PyData.int 1), .no] _
  refine BN.cons ?_
  refine SN.for C (fun _ => rfl) ?_
  refine IN.seq ?_
  refine EN.var (i := 2) (d := (t1I PyData.int) a_told) C rfl (by walk_at "vis") rfl ?_
  refine SeqD.t ?_
  refine forK_in h PyData.int (fun (s14 : ((List Int) × (Option Int))) => [.dat (PyData.int a_p), .dat (uI a_l), .dat ((t1I PyData.int) a_told), .own (((s14).1).map PyData.int), .dat ((oI PyData.int) (s14).2), .no]) rfl ?_ ?_
  · intro s28 h
    show BN X _ [.dat (PyData.int a_p), .dat (uI a_l), .dat ((t1I PyData.int) a_told), .own (((s28).1).map PyData.int), .dat ((oI PyData.int) (s28).2), .no] _
    refine BN.freeze (i := 3) rfl ?_
    show BN X _ [.dat (PyData.int a_p), .dat (uI a_l), .dat ((t1I PyData.int) a_told), .dat ((lI PyData.int) (s28).1), .dat ((oI PyData.int) (s28).2), .no] _
    refine BN.cons ?_
    refine SN.ret ?_
    refine EN.var (i := 3) (d := (lI PyData.int) (s28).1) C rfl (by walk_at "vis") rfl ?_
    cases h
    exact hQ
  · intro x17 s14 fin15 nx16 h
    refine GN.name (i := 5) C rfl (by walk_at "vis") (Or.inl (Fx _)) ?_
    show BN X _ [.dat (PyData.int a_p), .dat (uI a_l), .dat ((t1I PyData.int) a_told), .own (((s14).1).map PyData.int), .dat ((oI PyData.int) (s14).2), .dat (PyData.int x17)] _
    rcases hz : (s14).2 with _ | x18
    · rw [hz] at h
      have h := optK_n h
      show BN X _ [.dat (PyData.int a_p), .dat (uI a_l), .dat ((t1I PyData.int) a_told), .own (((s14).1).map PyData.int), .dat (uI ()), .dat (PyData.int x17)] _
      exact dead h
    · rw [hz] at h
      have h := optK_s h
      show BN X _ [.dat (PyData.int a_p), .dat (uI a_l), .dat ((t1I PyData.int) a_told), .own (((s14).1).map PyData.int), .dat (PyData.int x18), .dat (PyData.int x17)] _
      refine BN.cons ?_
      refine SN.app (i := 3) C rfl (by walk_at "vis") rfl ?_ rfl rfl rfl rfl rfl rfl
      refine EN.mul ?_
      refine EN.var (i := 5) (d := PyData.int x17) C rfl (by walk_at "vis") rfl ?_
      refine EN.var (i := 4) (d := PyData.int x18) C rfl (by walk_at "vis") rfl ?_
      obtain ⟨cx19, x19, ex19, h⟩ := mulK_ok h
      refine MulD.xx cx19 ex19 ?_
      obtain ⟨cx20, h⟩ := chkK_ok h
      obtain ⟨x20, ex20, h⟩ := letK_ok h
      refine ⟨app_c (inj := PyData.int) cx20, ?_⟩
      rw [app_r (inj := PyData.int) ex20]
      show BN X _ [.dat (PyData.int a_p), .dat (uI a_l), .dat ((t1I PyData.int) a_told), .own ((x20).map PyData.int), .dat (PyData.int x18), .dat (PyData.int x17)] _
      refine BN.cons ?_
      refine SN.asg (i := 4) C Fx rfl (by walk_at "vis") rfl ?_
      refine EN.join h (oI PyData.int) ?_ ?_
      · intro J21 h
        refine EN.ife ?_
        refine TN.eq C ?_
        refine EN.lenO (i := 3) C rfl B.len rfl (by walk_at "vis") rfl ?_ rfl rfl
        obtain ⟨x24, ex24, h⟩ := letK_ok h
        rw [len_r (inj := PyData.int) (xs := x20) ex24]
        refine EN.int ?_
        refine EqT.xx (inj := PyData.int) (x := x24) (y := 1) Ev.int (by decide) ?_
        refine ⟨fun hb => ?_, fun hb => ?_⟩
        · have h := bK_t hb h
          refine EN.var (i := 1) (d := uI a_l) C rfl (by walk_at "vis") rfl ?_
          exact ⟨none, rfl, h⟩
        · have h := bK_f hb h
          refine EN.mul ?_
          refine EN.var (i := 4) (d := PyData.int x18) C rfl (by walk_at "vis") rfl ?_
          refine EN.var (i := 0) (d := PyData.int a_p) C rfl (by walk_at "vis") rfl ?_
          obtain ⟨cx25, x25, ex25, h⟩ := mulK_ok h
          refine MulD.xx cx25 ex25 ?_
          exact ⟨(some x25), rfl, h⟩
      · intro x26 h
        rcases x26 with _ | x27
        · have h := optK_n h
          show BN X _ [.dat (PyData.int a_p), .dat (uI a_l), .dat ((t1I PyData.int) a_told), .own ((x20).map PyData.int), .dat (uI ()), .dat (PyData.int x17)] _
          refine BN.wk (ρ' := [.dat (PyData.int a_p), .dat (uI a_l), .dat ((t1I PyData.int) a_told), .own ((x20).map PyData.int), .dat ((oI PyData.int) none), .no]) (.eq (.eq (.eq (.eq (.eq (.no .nil)))))) ?_
          refine BN.nil ?_
          exact ⟨(x20, none), rfl, h⟩
        · have h := optK_s h
          show BN X _ [.dat (PyData.int a_p), .dat (uI a_l), .dat ((t1I PyData.int) a_told), .own ((x20).map PyData.int), .dat (PyData.int x27), .dat (PyData.int x17)] _
          refine BN.wk (ρ' := [.dat (PyData.int a_p), .dat (uI a_l), .dat ((t1I PyData.int) a_told), .own ((x20).map PyData.int), .dat ((oI PyData.int) (some x27)), .no]) (.eq (.eq (.eq (.eq (.eq (.no .nil)))))) ?_
          refine BN.nil ?_
          exact ⟨(x20, (some x27)), rfl, h⟩
theorem ok_support_P_INI {f : Addr} {fd : FuncData} (F : Fun K "support" "support" s_support f fd) (B : Blt mg) (T_digits_P_INI : Fd Pg w K mg base k "digits" W_digits_P_INI) (T_parts_P_INTIe : Fd Pg w K mg base k "_parts" W_parts_P_INTIe)  : FnG Pg w K mg base (k + 1) f fd ["p", "l", "N"] (spOf K W_support_P_INI) := by
  refine okFn F sc_support (by rintro as Q ⟨a_p, a_l, a_N, r, rfl, h, hQ⟩; rfl) ?_
  rintro X C Fx as Q ⟨a_p, a_l, a_N, r, rfl, h, hQ⟩
  unfold f_support_P_INI at h
  replace h := toO h
  show BN X _ [.dat (PyData.int a_p), .dat (uI a_l), .dat (PyData.int a_N), .no, .no, .no, .no] _
  refine BN.cons ?_
  refine SN.asg (i := 3) C Fx rfl (by walk_at "vis") rfl ?_
  refine EN.call C T_parts_P_INTIe (by omega) rfl ?_ rfl rfl
  refine AN.cons rfl ?_
  refine EN.var (i := 0) (d := PyData.int a_p) C rfl (by walk_at "vis") rfl ?_
  refine AN.cons rfl ?_
  refine EN.var (i := 1) (d := uI a_l) C rfl (by walk_at "vis") rfl ?_
  refine AN.cons rfl ?_
  refine EN.call C T_digits_P_INI (by omega) rfl ?_ rfl rfl
  refine AN.cons rfl ?_
  refine EN.var (i := 0) (d := PyData.int a_p) C rfl (by walk_at "vis") rfl ?_
  refine AN.cons rfl ?_
  refine EN.var (i := 1) (d := uI a_l) C rfl (by walk_at "vis") rfl ?_
  refine AN.cons rfl ?_
  refine EN.var (i := 2) (d := PyData.int a_N) C rfl (by walk_at "vis") rfl ?_
  refine AN.nil ?_
  obtain ⟨x1, ex1, h⟩ := callK_ok h
  refine ⟨_, _, _, _, rfl, ex1, ?_⟩
  refine AN.nil ?_
  obtain ⟨x2, ex2, h⟩ := callK_ok h
  refine ⟨_, _, _, _, rfl, ex2, ?_⟩
  show BN X _ [.dat (PyData.int a_p), .dat (uI a_l), .dat (PyData.int a_N), .dat ((lI PyData.int) x2), .no, .no, .no] _
  refine BN.cons ?_
  refine SN.asg (i := 4) C Fx rfl (by walk_at "vis") rfl ?_
  refine EN.lst ?_
  refine LN.cons rfl ?_
  refine EN.ix (fun _ _ => rfl) ?_
  refine EN.var (i := 3) (d := (lI PyData.int) x2) C rfl (by walk_at "vis") rfl ?_
  refine EN.neg ?_
  refine EN.int ?_
  obtain ⟨x3, ex3, h⟩ := letK_ok h
  refine ⟨_, rfl, ?_⟩
  rw [neg_r ex3]
  obtain ⟨x4, ex4, h⟩ := callK_ok h
  refine IxD.lx (inj := PyData.int) (xs := x2) ex4 ?_
  refine LN.nil ?_
  refine ⟨Nat.le_of_ble_eq_true rfl, ?_⟩
  show BN X _ [.dat (PyData.int a_p), .dat (uI a_l), .dat (PyData.int a_N), .dat ((lI PyData.int) x2), .dat ((lI PyData.int) ([x4] : List Int)), .no, .no] _
  refine BN.cons ?_
  refine SN.for C (fun _ => rfl) ?_
  refine IN.seq ?_
  refine EN.slA ?_
  refine EN.var (i := 3) (d := (lI PyData.int) x2) C rfl (by walk_at "vis") rfl ?_
  refine (show EN _ _ _ _ from ?_)
  refine EN.neg ?_
  refine EN.int ?_
  obtain ⟨x8, ex8, h⟩ := letK_ok h
  refine ⟨_, rfl, ?_⟩
  rw [neg_r ex8]
  refine ⟨_, rfl, ?_⟩
  obtain ⟨x9, ex9, h⟩ := letK_ok h
  refine cutA_l (inj := PyData.int) (xs := x2) ex9 ?_
  refine SeqD.l ?_
  refine forK_in h PyData.int (fun (s5 : ((List Int))) => [.dat (PyData.int a_p), .dat (uI a_l), .dat (PyData.int a_N), .dat ((lI PyData.int) x2), .dat ((lI PyData.int) s5), .no, .no]) rfl ?_ ?_
  · intro s22 h
    show BN X _ [.dat (PyData.int a_p), .dat (uI a_l), .dat (PyData.int a_N), .dat ((lI PyData.int) x2), .dat ((lI PyData.int) s22), .no, .no] _
    refine BN.cons ?_
    refine SN.ret ?_
    refine EN.tuplec C rfl B.tuple ?_ rfl rfl
    refine EN.sortedI C rfl B.sorted ?_ rfl rfl
    refine EN.var (i := 4) (d := (lI PyData.int) s22) C rfl (by walk_at "vis") rfl ?_
    obtain ⟨x23, ex23, h⟩ := letK_ok h
    refine ⟨s22, rfl, fun ms hp ho => ?_⟩
    rw [sort_r ex23 hp ho]
    refine SeqD.l ?_
    cases h
    exact hQ
  · intro x10 s5 fin6 nx7 h
    refine GN.name (i := 5) C rfl (by walk_at "vis") (Or.inl (Fx _)) ?_
    show BN X _ [.dat (PyData.int a_p), .dat (uI a_l), .dat (PyData.int a_N), .dat ((lI PyData.int) x2), .dat ((lI PyData.int) s5), .dat (PyData.int x10), .no] _
    show BN X _ [.dat (PyData.int a_p), .dat (uI a_l), .dat (PyData.int a_N), .dat ((lI PyData.int) x2), .dat ((lI PyData.int) s5), .dat (PyData.int x10), .no] _
    refine BN.cons ?_
    refine SN.ife ?_
    refine TN.ne C ?_
    refine EN.var (i := 5) (d := PyData.int x10) C rfl (by walk_at "vis") rfl ?_
    refine EN.int ?_
    refine NeT.xx (inj := PyData.int) (x := x10) (y := 0) Ev.int (by decide) ?_
    refine ⟨fun hb => ?_, fun hb => ?_⟩
    · have h := bK_t hb h
      refine BN.cons ?_
      refine SN.asg (i := 4) C Fx rfl (by walk_at "vis") rfl ?_
      refine EN.add ?_
      refine EN.lc (i := 6) C rfl rfl rfl (fun _ => rfl) ?_
      refine IN.seq ?_
      refine EN.var (i := 4) (d := (lI PyData.int) s5) C rfl (by walk_at "vis") rfl ?_
      refine SeqD.l ?_
      refine lcK_in h PyData.int PyData.int ?_ ?_
      · intro x12 k13 h Y11 CY11
        refine EN.sub ?_
        refine EN.var (i := 6) (d := PyData.int x12) CY11 rfl (by walk_at "vis") rfl ?_
        refine EN.var (i := 5) (d := PyData.int x10) CY11 rfl (by walk_at "vis") rfl ?_
        obtain ⟨x15, ex15, h⟩ := letK_ok h
        refine SubI.xx ex15 ?_
        exact ⟨_, rfl, h⟩
      · intro ys14 h
        refine EN.lc (i := 6) C rfl rfl rfl (fun _ => rfl) ?_
        refine IN.seq ?_
        refine EN.var (i := 4) (d := (lI PyData.int) s5) C rfl (by walk_at "vis") rfl ?_
        refine SeqD.l ?_
        refine lcK_in h PyData.int PyData.int ?_ ?_
        · intro x17 k18 h Y16 CY16
          refine EN.add ?_
          refine EN.var (i := 6) (d := PyData.int x17) CY16 rfl (by walk_at "vis") rfl ?_
          refine EN.var (i := 5) (d := PyData.int x10) CY16 rfl (by walk_at "vis") rfl ?_
          obtain ⟨x20, ex20, h⟩ := letK_ok h
          refine AddD.xx ex20 ?_
          exact ⟨_, rfl, h⟩
        · intro ys19 h
          obtain ⟨cx21, h⟩ := chkK_ok h
          obtain ⟨x21, ex21, h⟩ := letK_ok h
          refine AddD.lx (inj := PyData.int) (xs := ys14) (ys := ys19) cx21 ex21 ?_
          show BN X _ [.dat (PyData.int a_p), .dat (uI a_l), .dat (PyData.int a_N), .dat ((lI PyData.int) x2), .dat ((lI PyData.int) x21), .dat (PyData.int x10), .no] _
          refine BN.nil ?_
          show BN X _ [.dat (PyData.int a_p), .dat (uI a_l), .dat (PyData.int a_N), .dat ((lI PyData.int) x2), .dat ((lI PyData.int) x21), .dat (PyData.int x10), .no] _
          refine BN.wk (ρ' := [.dat (PyData.int a_p), .dat (uI a_l), .dat (PyData.int a_N), .dat ((lI PyData.int) x2), .dat ((lI PyData.int) x21), .no, .no]) (.eq (.eq (.eq (.eq (.eq (.no (.eq .nil))))))) ?_
          refine BN.nil ?_
          exact ⟨(x21), rfl, h⟩
    · have h := bK_f hb h
      refine BN.nil ?_
      show BN X _ [.dat (PyData.int a_p), .dat (uI a_l), .dat (PyData.int a_N), .dat ((lI PyData.int) x2), .dat ((lI PyData.int) s5), .dat (PyData.int x10), .no] _
      refine BN.wk (ρ' := [.dat (PyData.int a_p), .dat (uI a_l), .dat (PyData.int a_N), .dat ((lI PyData.int) x2), .dat ((lI PyData.int) s5), .no, .no]) (.eq (.eq (.eq (.eq (.eq (.no (.eq .nil))))))) ?_
      refine BN.nil ?_
      exact ⟨(s5), rfl, h⟩
theorem ok_holds_P_INII {f : Addr} {fd : FuncData} (F : Fun K "holds" "holds" s_holds f fd) (B : Blt mg) (T_digits_P_INI : Fd Pg w K mg base k "digits" W_digits_P_INI)  : FnG Pg w K mg base (k + 1) f fd ["p", "l", "k", "r"] (spOf K W_holds_P_INII) := by
  refine okFn F sc_holds (by rintro as Q ⟨a_p, a_l, a_k0, a_r, r, rfl, h, hQ⟩; rfl) ?_
  rintro X C Fx as Q ⟨a_p, a_l, a_k0, a_r, r, rfl, h, hQ⟩
  unfold f_holds_P_INII at h
  replace h := toO h
  show BN X _ [.dat (PyData.int a_p), .dat (uI a_l), .dat (PyData.int a_k0), .dat (PyData.int a_r), .no, .no, .no] _
  refine BN.cons ?_
  refine SN.ife ?_
  refine TN.join h ?_ ?_
  · intro J1 h
    refine WN.tn ?_
    refine WN.or ?_
    refine TN.ge ?_
    refine EN.var (i := 2) (d := PyData.int a_k0) C rfl (by walk_at "vis") rfl ?_
    refine EN.var (i := 3) (d := PyData.int a_r) C rfl (by walk_at "vis") rfl ?_
    refine IbGe ?_
    refine ⟨fun hb => ?_, fun hb => ?_⟩
    · exact bK_t hb h
    · have h := bK_f hb h
      refine WN.or1 ?_
      refine TN.eq C ?_
      refine EN.mod ?_
      refine EN.sub ?_
      refine EN.var (i := 3) (d := PyData.int a_r) C rfl (by walk_at "vis") rfl ?_
      refine EN.var (i := 2) (d := PyData.int a_k0) C rfl (by walk_at "vis") rfl ?_
      obtain ⟨x2, ex2, h⟩ := letK_ok h
      refine SubI.xx ex2 ?_
      refine EN.int ?_
      obtain ⟨cx3, x3, ex3, h⟩ := modK_ok h
      refine ModI.xx cx3 ex3 ?_
      refine EN.int ?_
      refine EqT.xx (inj := PyData.int) (x := x3) (y := 1) Ev.int (by decide) ?_
      exact h
  · intro b4 h
    refine ⟨fun hb => ?_, fun hb => ?_⟩
    · have h := bK_t hb h
      refine BN.cons ?_
      refine SN.ret ?_
      refine EN.eq C ?_
      refine EN.var (i := 2) (d := PyData.int a_k0) C rfl (by walk_at "vis") rfl ?_
      refine EN.var (i := 3) (d := PyData.int a_r) C rfl (by walk_at "vis") rfl ?_
      refine EqD.xx (inj := PyData.int) (x := a_k0) (y := a_r) Ev.int (by decide) ?_
      cases h
      exact hQ
    · have h := bK_f hb h
      refine BN.nil ?_
      show BN X _ [.dat (PyData.int a_p), .dat (uI a_l), .dat (PyData.int a_k0), .dat (PyData.int a_r), .no, .no, .no] _
      refine BN.cons ?_
      refine SN.asg (i := 4) C Fx rfl (by walk_at "vis") rfl ?_
      refine EN.call C T_digits_P_INI (by omega) rfl ?_ rfl rfl
      refine AN.cons rfl ?_
      refine EN.var (i := 0) (d := PyData.int a_p) C rfl (by walk_at "vis") rfl ?_
      refine AN.cons rfl ?_
      refine EN.var (i := 1) (d := uI a_l) C rfl (by walk_at "vis") rfl ?_
      refine AN.cons rfl ?_
      refine EN.div ?_
      refine EN.sub ?_
      refine EN.var (i := 3) (d := PyData.int a_r) C rfl (by walk_at "vis") rfl ?_
      refine EN.var (i := 2) (d := PyData.int a_k0) C rfl (by walk_at "vis") rfl ?_
      obtain ⟨x5, ex5, h⟩ := letK_ok h
      refine SubI.xx ex5 ?_
      refine EN.int ?_
      obtain ⟨cx6, x6, ex6, h⟩ := divK_ok h
      refine DivI.xx cx6 ex6 ?_
      refine AN.nil ?_
      obtain ⟨x7, ex7, h⟩ := callK_ok h
      refine ⟨_, _, _, _, rfl, ex7, ?_⟩
      show BN X _ [.dat (PyData.int a_p), .dat (uI a_l), .dat (PyData.int a_k0), .dat (PyData.int a_r), .dat ((t1I PyData.int) x7), .no, .no] _
      refine BN.cons ?_
      refine SN.ret ?_
      refine EN.all C rfl B.all ?_ rfl rfl
      refine EN.lcP (i := 5) (i2 := 6) C rfl rfl rfl rfl rfl (by decide) (fun _ => rfl) (fun _ => rfl) (fun _ => rfl) (fun _ => rfl) (fun _ => rfl) ?_
      refine IN.zip C rfl B.zip rfl rfl rfl ?_
      refine EN.var (i := 4) (d := (t1I PyData.int) x7) C rfl (by walk_at "vis") rfl ?_
      refine EN.call C T_digits_P_INI (by omega) rfl ?_ rfl rfl
      refine AN.cons rfl ?_
      refine EN.var (i := 0) (d := PyData.int a_p) C rfl (by walk_at "vis") rfl ?_
      refine AN.cons rfl ?_
      refine EN.var (i := 1) (d := uI a_l) C rfl (by walk_at "vis") rfl ?_
      refine AN.cons rfl ?_
      refine EN.add ?_
      refine EN.var (i := 3) (d := PyData.int a_r) C rfl (by walk_at "vis") rfl ?_
      refine EN.int ?_
      obtain ⟨x8, ex8, h⟩ := letK_ok h
      refine AddD.xx ex8 ?_
      refine AN.nil ?_
      obtain ⟨x9, ex9, h⟩ := callK_ok h
      refine ⟨_, _, _, _, rfl, ex9, ?_⟩
      obtain ⟨x10, ex10, h⟩ := letK_ok h
      refine zip_vv (inj := PyData.int) (injb := PyData.int) (xs := ([x7] : List Int)) (ys := ([x9] : List Int)) ex10 ?_
      refine lcP_in h PyData.int PyData.int PyData.bool ?_ ?_
      · intro x12 k13 h Y11 CY11
        refine EN.inT rfl ?_
        refine EN.var (i := 5) (d := PyData.int (x12).1) CY11 rfl (by walk_at "vis") rfl ?_
        refine EN.tup ?_
        refine LN.cons rfl ?_
        refine EN.int ?_
        refine LN.cons rfl ?_
        refine EN.var (i := 6) (d := PyData.int (x12).2) CY11 rfl (by walk_at "vis") rfl ?_
        refine LN.nil ?_
        refine ⟨Nat.le_of_ble_eq_true rfl, ?_⟩
        refine InT.x2 ?_
        exact ⟨_, rfl, h⟩
      · intro ys14 h
        obtain ⟨x15, ex15, h⟩ := letK_ok h
        refine ⟨ys14, rfl, ?_⟩
        rw [all_r ex15]
        cases h
        exact hQ
theorem ok_first_not_dividing_P_INI {f : Addr} {fd : FuncData} (F : Fun K "_first_not_dividing" "_first_not_dividing" s_first_not_dividing f fd) (B : Blt mg)   : FnG Pg w K mg base (k + 1) f fd ["p", "l", "N"] (spOf K W_first_not_dividing_P_INI) := by
  refine okFn F sc_first_not_dividing (by rintro as Q ⟨a_p, a_l, a_N, r, rfl, h, hQ⟩; rfl) ?_
  rintro X C Fx as Q ⟨a_p, a_l, a_N, r, rfl, h, hQ⟩
  unfold f_first_not_dividing_P_INI at h
  replace h := toO h
  show BN X _ [.dat (PyData.int a_p), .dat (uI a_l), .dat (PyData.int a_N), .no] _
  refine BN.cons ?_
  refine SN.ife ?_
  refine TN.join h ?_ ?_
  · intro J1 h
    refine WN.tn ?_
    refine WN.or ?_
    refine TN.isN ?_
    refine EN.var (i := 1) (d := uI a_l) C rfl (by walk_at "vis") rfl ?_
    refine tb_t rfl ?_
    refine Kt.yes ?_
    exact h
  · intro b2 h
    refine ⟨fun hb => ?_, fun hb => ?_⟩
    · have h := bK_t hb h
      refine BN.cons ?_
      refine SN.ret ?_
      refine EN.non ?_
      cases h
      exact hQ
    · have h := bK_f hb h
      exact dead h
theorem ok_next_over_P_INI {f : Addr} {fd : FuncData} (F : Fun K "next_over" "next_over" s_next_over f fd) (B : Blt mg) (T_first_not_dividing_P_INI : Fd Pg w K mg base k "_first_not_dividing" W_first_not_dividing_P_INI)  : FnG Pg w K mg base (k + 1) f fd ["p", "l", "k"] (spOf K W_next_over_P_INI) := by
  refine okFn F sc_next_over (by rintro as Q ⟨a_p, a_l, a_k0, r, rfl, h, hQ⟩; rfl) ?_
  rintro X C Fx as Q ⟨a_p, a_l, a_k0, r, rfl, h, hQ⟩
  unfold f_next_over_P_INI at h
  replace h := toO h
  show BN X _ [.dat (PyData.int a_p), .dat (uI a_l), .dat (PyData.int a_k0), .no, .no, .no] _
  refine BN.cons ?_
  refine SN.asg (i := 3) C Fx rfl (by walk_at "vis") rfl ?_
  refine EN.add ?_
  refine EN.var (i := 2) (d := PyData.int a_k0) C rfl (by walk_at "vis") rfl ?_
  refine EN.int ?_
  obtain ⟨x1, ex1, h⟩ := letK_ok h
  refine AddD.xx ex1 ?_
  show BN X _ [.dat (PyData.int a_p), .dat (uI a_l), .dat (PyData.int a_k0), .dat (PyData.int x1), .no, .no] _
  refine BN.cons ?_
  refine SN.asg (i := 4) C Fx rfl (by walk_at "vis") rfl ?_
  refine EN.call C T_first_not_dividing_P_INI (by omega) rfl ?_ rfl rfl
  refine AN.cons rfl ?_
  refine EN.var (i := 0) (d := PyData.int a_p) C rfl (by walk_at "vis") rfl ?_
  refine AN.cons rfl ?_
  refine EN.var (i := 1) (d := uI a_l) C rfl (by walk_at "vis") rfl ?_
  refine AN.cons rfl ?_
  refine EN.var (i := 3) (d := PyData.int x1) C rfl (by walk_at "vis") rfl ?_
  refine AN.nil ?_
  obtain ⟨x2, ex2, h⟩ := callK_ok h
  refine ⟨_, _, _, _, rfl, ex2, ?_⟩
  show BN X _ [.dat (PyData.int a_p), .dat (uI a_l), .dat (PyData.int a_k0), .dat (PyData.int x1), .dat (uI x2), .no] _
  refine BN.cons ?_
  refine SN.ife ?_
  refine TN.isN ?_
  refine EN.var (i := 4) (d := uI x2) C rfl (by walk_at "vis") rfl ?_
  refine tb_t rfl ?_
  refine Kt.yes ?_
  refine BN.cons ?_
  refine SN.ret ?_
  refine EN.non ?_
  cases h
  exact hQ
theorem ok_first_not_dividing_P_III {f : Addr} {fd : FuncData} (F : Fun K "_first_not_dividing" "_first_not_dividing" s_first_not_dividing f fd) (B : Blt mg)   : FnG Pg w K mg base (k + 1) f fd ["p", "l", "N"] (spOf K W_first_not_dividing_P_III) := by
  refine okFn F sc_first_not_dividing (by rintro as Q ⟨a_p, a_l, a_N, r, rfl, h, hQ⟩; rfl) ?_
  rintro X C Fx as Q ⟨a_p, a_l, a_N, r, rfl, h, hQ⟩
  unfold f_first_not_dividing_P_III at h
  replace h := toO h
  show BN X _ [.dat (PyData.int a_p), .dat (PyData.int a_l), .dat (PyData.int a_N), .no] _
  refine BN.cons ?_
  refine SN.ife ?_
  refine TN.join h ?_ ?_
  · intro J1 h
    refine WN.tn ?_
    refine WN.or ?_
    refine TN.isN ?_
    refine EN.var (i := 1) (d := PyData.int a_l) C rfl (by walk_at "vis") rfl ?_
    refine tb_f rfl ?_
    refine Kt.noo ?_
    refine WN.or1 ?_
    refine TN.join h ?_ ?_
    · intro J2 h
      refine WN.tn ?_
      refine WN.and ?_
      refine TN.eq C ?_
      refine EN.var (i := 0) (d := PyData.int a_p) C rfl (by walk_at "vis") rfl ?_
      refine EN.int ?_
      refine EqT.xx (inj := PyData.int) (x := a_p) (y := 0) Ev.int (by decide) ?_
      refine ⟨fun hb => ?_, fun hb => ?_⟩
      · have h := bK_t hb h
        refine WN.and1 ?_
        refine TN.eq C ?_
        refine EN.mod ?_
        refine EN.var (i := 2) (d := PyData.int a_N) C rfl (by walk_at "vis") rfl ?_
        refine EN.var (i := 1) (d := PyData.int a_l) C rfl (by walk_at "vis") rfl ?_
        obtain ⟨cx3, x3, ex3, h⟩ := modK_ok h
        refine ModI.xx cx3 ex3 ?_
        refine EN.int ?_
        refine EqT.xx (inj := PyData.int) (x := x3) (y := 0) Ev.int (by decide) ?_
        exact h
      · exact bK_f hb h
    · intro b4 h
      exact h
  · intro b5 h
    refine ⟨fun hb => ?_, fun hb => ?_⟩
    · have h := bK_t hb h
      refine BN.cons ?_
      refine SN.ret ?_
      refine EN.non ?_
      cases h
      exact hQ
    · have h := bK_f hb h
      refine BN.nil ?_
      show BN X _ [.dat (PyData.int a_p), .dat (PyData.int a_l), .dat (PyData.int a_N), .no] _
      refine BN.cons ?_
      refine SN.asg (i := 3) C Fx rfl (by walk_at "vis") rfl ?_
      refine EN.var (i := 1) (d := PyData.int a_l) C rfl (by walk_at "vis") rfl ?_
      show BN X _ [.dat (PyData.int a_p), .dat (PyData.int a_l), .dat (PyData.int a_N), .dat (PyData.int a_l)] _
      refine BN.cons ?_
      refine SN.whileK C h (fun (s6 : (Int)) => [.dat (PyData.int a_p), .dat (PyData.int a_l), .dat (PyData.int a_N), .dat (PyData.int s6)]) rfl ?_ ?_ ?_
      · intro s12 h
        show BN X _ [.dat (PyData.int a_p), .dat (PyData.int a_l), .dat (PyData.int a_N), .dat (PyData.int s12)] _
        refine BN.cons ?_
        refine SN.ret ?_
        refine EN.var (i := 3) (d := PyData.int s12) C rfl (by walk_at "vis") rfl ?_
        cases h
        exact hQ
      · intro s6 J9 h
        refine TN.eq C ?_
        refine EN.mod ?_
        refine EN.var (i := 2) (d := PyData.int a_N) C rfl (by walk_at "vis") rfl ?_
        refine EN.var (i := 3) (d := PyData.int s6) C rfl (by walk_at "vis") rfl ?_
        obtain ⟨cx10, x10, ex10, h⟩ := modK_ok h
        refine ModI.xx cx10 ex10 ?_
        refine EN.int ?_
        refine EqT.xx (inj := PyData.int) (x := x10) (y := 0) Ev.int (by decide) ?_
        exact h
      · intro s6 fin7 nx8 h
        show BN X _ [.dat (PyData.int a_p), .dat (PyData.int a_l), .dat (PyData.int a_N), .dat (PyData.int s6)] _
        refine BN.cons ?_
        refine SN.augI iop_mulW (i := 3) C Fx rfl (by walk_at "vis") rfl ?_
        refine EN.var (i := 0) (d := PyData.int a_p) C rfl (by walk_at "vis") rfl ?_
        obtain ⟨cx11, x11, ex11, h⟩ := mulK_ok h
        refine ⟨_, rfl, mulW_c cx11, ?_⟩
        rw [aug_mul ex11]
        show BN X _ [.dat (PyData.int a_p), .dat (PyData.int a_l), .dat (PyData.int a_N), .dat (PyData.int x11)] _
        refine BN.nil ?_
        exact ⟨(x11), rfl, h⟩
theorem ok_next_over_P_III {f : Addr} {fd : FuncData} (F : Fun K "next_over" "next_over" s_next_over f fd) (B : Blt mg) (T_first_not_dividing_P_III : Fd Pg w K mg base k "_first_not_dividing" W_first_not_dividing_P_III)  : FnG Pg w K mg base (k + 1) f fd ["p", "l", "k"] (spOf K W_next_over_P_III) := by
  refine okFn F sc_next_over (by rintro as Q ⟨a_p, a_l, a_k0, r, rfl, h, hQ⟩; rfl) ?_
  rintro X C Fx as Q ⟨a_p, a_l, a_k0, r, rfl, h, hQ⟩
  unfold f_next_over_P_III at h
  replace h := toO h
  show BN X _ [.dat (PyData.int a_p), .dat (PyData.int a_l), .dat (PyData.int a_k0), .no, .no, .no] _
  refine BN.cons ?_
  refine SN.asg (i := 3) C Fx rfl (by walk_at "vis") rfl ?_
  refine EN.add ?_
  refine EN.var (i := 2) (d := PyData.int a_k0) C rfl (by walk_at "vis") rfl ?_
  refine EN.int ?_
  obtain ⟨x1, ex1, h⟩ := letK_ok h
  refine AddD.xx ex1 ?_
  show BN X _ [.dat (PyData.int a_p), .dat (PyData.int a_l), .dat (PyData.int a_k0), .dat (PyData.int x1), .no, .no] _
  refine BN.cons ?_
  refine SN.asg (i := 4) C Fx rfl (by walk_at "vis") rfl ?_
  refine EN.call C T_first_not_dividing_P_III (by omega) rfl ?_ rfl rfl
  refine AN.cons rfl ?_
  refine EN.var (i := 0) (d := PyData.int a_p) C rfl (by walk_at "vis") rfl ?_
  refine AN.cons rfl ?_
  refine EN.var (i := 1) (d := PyData.int a_l) C rfl (by walk_at "vis") rfl ?_
  refine AN.cons rfl ?_
  refine EN.var (i := 3) (d := PyData.int x1) C rfl (by walk_at "vis") rfl ?_
  refine AN.nil ?_
  obtain ⟨x2, ex2, h⟩ := callK_ok h
  refine ⟨_, _, _, _, rfl, ex2, ?_⟩
  rcases x2 with _ | x3
  · have h := optK_n h
    show BN X _ [.dat (PyData.int a_p), .dat (PyData.int a_l), .dat (PyData.int a_k0), .dat (PyData.int x1), .dat (uI ()), .no] _
    refine BN.cons ?_
    refine SN.ife ?_
    refine TN.isN ?_
    refine EN.var (i := 4) (d := uI ()) C rfl (by walk_at "vis") rfl ?_
    refine tb_t rfl ?_
    refine Kt.yes ?_
    refine BN.cons ?_
    refine SN.ret ?_
    refine EN.non ?_
    cases h
    exact hQ
  · have h := optK_s h
    show BN X _ [.dat (PyData.int a_p), .dat (PyData.int a_l), .dat (PyData.int a_k0), .dat (PyData.int x1), .dat (PyData.int x3), .no] _
    refine BN.cons ?_
    refine SN.ife ?_
    refine TN.isN ?_
    refine EN.var (i := 4) (d := PyData.int x3) C rfl (by walk_at "vis") rfl ?_
    refine tb_f rfl ?_
    refine Kt.noo ?_
    refine BN.nil ?_
    show BN X _ [.dat (PyData.int a_p), .dat (PyData.int a_l), .dat (PyData.int a_k0), .dat (PyData.int x1), .dat (PyData.int x3), .no] _
    refine BN.cons ?_
    refine SN.asg (i := 5) C Fx rfl (by walk_at "vis") rfl ?_
    refine EN.add ?_
    refine EN.mul ?_
    refine EN.div ?_
    refine EN.var (i := 3) (d := PyData.int x1) C rfl (by walk_at "vis") rfl ?_
    refine EN.var (i := 4) (d := PyData.int x3) C rfl (by walk_at "vis") rfl ?_
    obtain ⟨cx4, x4, ex4, h⟩ := divK_ok h
    refine DivI.xx cx4 ex4 ?_
    refine EN.var (i := 4) (d := PyData.int x3) C rfl (by walk_at "vis") rfl ?_
    obtain ⟨cx5, x5, ex5, h⟩ := mulK_ok h
    refine MulD.xx cx5 ex5 ?_
    refine EN.var (i := 4) (d := PyData.int x3) C rfl (by walk_at "vis") rfl ?_
    obtain ⟨x6, ex6, h⟩ := letK_ok h
    refine AddD.xx ex6 ?_
    show BN X _ [.dat (PyData.int a_p), .dat (PyData.int a_l), .dat (PyData.int a_k0), .dat (PyData.int x1), .dat (PyData.int x3), .dat (PyData.int x6)] _
    refine BN.cons ?_
    refine SN.ret ?_
    refine EN.sub ?_
    refine EN.sub ?_
    refine EN.mul ?_
    refine EN.int ?_
    refine EN.var (i := 5) (d := PyData.int x6) C rfl (by walk_at "vis") rfl ?_
    obtain ⟨cx7, x7, ex7, h⟩ := mulK_ok h
    refine MulD.xx cx7 ex7 ?_
    refine EN.var (i := 3) (d := PyData.int x1) C rfl (by walk_at "vis") rfl ?_
    obtain ⟨x8, ex8, h⟩ := letK_ok h
    refine SubI.xx ex8 ?_
    refine EN.int ?_
    obtain ⟨x9, ex9, h⟩ := letK_ok h
    refine SubI.xx ex9 ?_
    cases h
    exact hQ
theorem ok_next_over_P_INI_or_next_over_P_III {f : Addr} {fd : FuncData} (F : Fun K "next_over" "next_over" s_next_over f fd) (B : Blt mg) (T_first_not_dividing_P_INI : Fd Pg w K mg base k "_first_not_dividing" W_first_not_dividing_P_INI) (T_first_not_dividing_P_III : Fd Pg w K mg base k "_first_not_dividing" W_first_not_dividing_P_III)  : FnG Pg w K mg base (k + 1) f fd ["p", "l", "k"] (spOf K W_next_over_P_INI_or_next_over_P_III) := FnG.or (ok_next_over_P_INI F B T_first_not_dividing_P_INI) (ok_next_over_P_III F B T_first_not_dividing_P_III)
theorem ok_keeps_all_P_IIII {f : Addr} {fd : FuncData} (F : Fun K "keeps_all" "keeps_all" s_keeps_all f fd) (B : Blt mg) (T_length_P_II : Fd Pg w K mg base k "length" W_length_P_II) (T_next_over_P_INI_or_next_over_P_III : Fd Pg w K mg base k "next_over" W_next_over_P_INI_or_next_over_P_III)  : FnG Pg w K mg base (k + 1) f fd ["p", "d", "n", "k"] (spOf K W_keeps_all_P_IIII) := by
  refine okFn F sc_keeps_all (by rintro as Q ⟨a_p, a_d, a_n, a_k0, r, rfl, h, hQ⟩; rfl) ?_
  rintro X C Fx as Q ⟨a_p, a_d, a_n, a_k0, r, rfl, h, hQ⟩
  unfold f_keeps_all_P_IIII at h
  replace h := toO h
  show BN X _ [.dat (PyData.int a_p), .dat (PyData.int a_d), .dat (PyData.int a_n), .dat (PyData.int a_k0), .no] _
  refine BN.cons ?_
  refine SN.asg (i := 4) C Fx rfl (by walk_at "vis") rfl ?_
  refine EN.call C T_next_over_P_INI_or_next_over_P_III (by omega) rfl ?_ rfl rfl
  refine AN.cons rfl ?_
  refine EN.var (i := 0) (d := PyData.int a_p) C rfl (by walk_at "vis") rfl ?_
  refine AN.cons rfl ?_
  refine EN.call C T_length_P_II (by omega) rfl ?_ rfl rfl
  refine AN.cons rfl ?_
  refine EN.var (i := 0) (d := PyData.int a_p) C rfl (by walk_at "vis") rfl ?_
  refine AN.cons rfl ?_
  refine EN.var (i := 1) (d := PyData.int a_d) C rfl (by walk_at "vis") rfl ?_
  refine AN.nil ?_
  obtain ⟨x1, ex1, h⟩ := callK_ok h
  refine ⟨_, _, _, rfl, ex1, ?_⟩
  rcases x1 with _ | x2
  · have h := optK_n h
    refine AN.cons rfl ?_
    refine EN.var (i := 3) (d := PyData.int a_k0) C rfl (by walk_at "vis") rfl ?_
    refine AN.nil ?_
    obtain ⟨x3, ex3, h⟩ := callK_ok h
    refine Or.inl ⟨_, _, _, _, rfl, ex3, ?_⟩
    show BN X _ [.dat (PyData.int a_p), .dat (PyData.int a_d), .dat (PyData.int a_n), .dat (PyData.int a_k0), .dat (uI x3)] _
    refine BN.cons ?_
    refine SN.ret ?_
    refine EN.join h PyData.bool ?_ ?_
    · intro J4 h
      refine EN.or ?_
      refine EN.isN ?_
      refine EN.var (i := 4) (d := uI x3) C rfl (by walk_at "vis") rfl ?_
      refine ⟨true, rfl, fun _ => ?_, fun hb => Bool.noConfusion hb⟩
      exact ⟨_, rfl, h⟩
    · intro b5 h
      cases h
      exact hQ
  · have h := optK_s h
    refine AN.cons rfl ?_
    refine EN.var (i := 3) (d := PyData.int a_k0) C rfl (by walk_at "vis") rfl ?_
    refine AN.nil ?_
    obtain ⟨x6, ex6, h⟩ := callK_ok h
    refine Or.inr ⟨_, _, _, _, rfl, ex6, ?_⟩
    rcases x6 with _ | x7
    · have h := optK_n h
      show BN X _ [.dat (PyData.int a_p), .dat (PyData.int a_d), .dat (PyData.int a_n), .dat (PyData.int a_k0), .dat (uI ())] _
      refine BN.cons ?_
      refine SN.ret ?_
      refine EN.join h PyData.bool ?_ ?_
      · intro J8 h
        refine EN.or ?_
        refine EN.isN ?_
        refine EN.var (i := 4) (d := uI ()) C rfl (by walk_at "vis") rfl ?_
        refine ⟨true, rfl, fun _ => ?_, fun hb => Bool.noConfusion hb⟩
        exact ⟨_, rfl, h⟩
      · intro b9 h
        cases h
        exact hQ
    · have h := optK_s h
      show BN X _ [.dat (PyData.int a_p), .dat (PyData.int a_d), .dat (PyData.int a_n), .dat (PyData.int a_k0), .dat (PyData.int x7)] _
      refine BN.cons ?_
      refine SN.ret ?_
      refine EN.join h PyData.bool ?_ ?_
      · intro J10 h
        refine EN.or ?_
        refine EN.isN ?_
        refine EN.var (i := 4) (d := PyData.int x7) C rfl (by walk_at "vis") rfl ?_
        refine ⟨false, rfl, fun hb => Bool.noConfusion hb, fun _ => ?_⟩
        refine EN.one ?_
        refine EN.gt ?_
        refine EN.var (i := 4) (d := PyData.int x7) C rfl (by walk_at "vis") rfl ?_
        refine EN.var (i := 2) (d := PyData.int a_n) C rfl (by walk_at "vis") rfl ?_
        refine IbGt ?_
        exact ⟨_, rfl, h⟩
      · intro b11 h
        cases h
        exact hQ
theorem ok_law_draw_far_P_II {f : Addr} {fd : FuncData} (F : Fun K "_law_draw_far" "_law_draw_far" s_law_draw_far f fd) (B : Blt mg) (T_law_pick : Fd Pg w K mg base k "_law_pick" W_law_pick)  : FnG Pg w K mg base (k + 1) f fd ["source", "p", "l"] (spOf K W_law_draw_far_P_II) := by
  refine okFn F sc_law_draw_far (by rintro as Q ⟨a_p, a_l, kk, rfl, h, hQ⟩; rfl) ?_
  rintro X C Fx as Q ⟨a_p, a_l, kk, rfl, h, hQ⟩
  unfold f_law_draw_far_P_II at h
  replace h := toP h
  show BN X _ [.src, .dat (PyData.int a_p), .dat (PyData.int a_l), .no, .no, .no, .no] _
  refine BN.cons ?_
  refine SN.par2 (i := 3) (j := 4) C rfl rfl (by decide) rfl rfl (by rintro ⟨⟩ ⟨⟩; rfl) rfl ?_
  refine XA.dat rfl ?_
  refine EN.int ?_
  refine XA.dat rfl ?_
  refine EN.call C T_law_pick (by omega) rfl ?_ rfl rfl
  refine AN.src (i := 0) C rfl (by walk_at "vis") rfl rfl ?_
  refine AN.cons rfl ?_
  refine EN.int ?_
  refine AN.nil ?_
  refine ⟨_, rfl, h.1, fun x1 r0 r1 => ?_⟩
  replace h := h.2 x1 r0 r1
  replace h := toP h
  refine XA.nil ?_
  refine ⟨rfl, ?_⟩
  show BN X _ [.src, .dat (PyData.int a_p), .dat (PyData.int a_l), .dat (PyData.int 1), .dat (PyData.int x1), .no, .no] _
  refine BN.cons ?_
  refine SN.for C (fun _ => rfl) ?_
  refine IN.r1 C rfl B.range rfl rfl ?_
  refine EN.call C T_law_pick (by omega) rfl ?_ rfl rfl
  refine AN.src (i := 0) C rfl (by walk_at "vis") rfl rfl ?_
  refine AN.cons rfl ?_
  refine EN.dix (kvs := [(0, 40), (2, 80), (3, 50), (5, 36), (7, 30), (11, 25), (13, 24)]) C (pps_cons pe_int pe_int (pps_cons pe_int pe_int (pps_cons pe_int pe_int (pps_cons pe_int pe_int (pps_cons pe_int pe_int (pps_cons pe_int pe_int (pps_cons pe_int pe_int pps_nil))))))) rfl rfl rfl (by decide) (by decide) (by decide) (fun _ _ => rfl) ?_
  refine EN.var (i := 1) (d := PyData.int a_p) C rfl (by walk_at "vis") rfl ?_
  obtain ⟨x5, ex5, h⟩ := callK_ok h
  refine ⟨_, _, rfl, ex5, ?_⟩
  refine AN.nil ?_
  refine ⟨_, rfl, h.1, fun x6 r0 r1 => ?_⟩
  replace h := h.2 x6 r0 r1
  replace h := toP h
  obtain ⟨cx7, x7, ex7, h⟩ := rng1K_ok h
  refine ⟨_, rfl, cx7.1, cx7.2, ?_⟩
  rw [rng1_r ex7]
  refine forK_in h PyData.int (fun (s2 : (Int)) => [.src, .dat (PyData.int a_p), .dat (PyData.int a_l), .dat (PyData.int s2), .dat (PyData.int x1), .no, .no]) rfl ?_ ?_
  · intro s16 h
    show BN X _ [.src, .dat (PyData.int a_p), .dat (PyData.int a_l), .dat (PyData.int s16), .dat (PyData.int x1), .no, .no] _
    refine BN.cons ?_
    refine SN.asg (i := 3) C Fx rfl (by walk_at "vis") rfl ?_
    refine EN.sub ?_
    refine EN.mul ?_
    refine EN.var (i := 3) (d := PyData.int s16) C rfl (by walk_at "vis") rfl ?_
    refine EN.add ?_
    refine EN.int ?_
    refine EN.call C T_law_pick (by omega) rfl ?_ rfl rfl
    refine AN.src (i := 0) C rfl (by walk_at "vis") rfl rfl ?_
    refine AN.cons rfl ?_
    refine EN.sub ?_
    refine EN.max2 C rfl B.max ?_ rfl rfl rfl
    refine EN.int ?_
    refine EN.var (i := 1) (d := PyData.int a_p) C rfl (by walk_at "vis") rfl ?_
    obtain ⟨x17, ex17, h⟩ := letK_ok h
    refine ⟨_, _, rfl, rfl, ?_⟩
    rw [max_r ex17]
    refine EN.int ?_
    obtain ⟨x18, ex18, h⟩ := letK_ok h
    refine SubI.xx ex18 ?_
    refine AN.nil ?_
    refine ⟨_, rfl, h.1, fun x19 r0 r1 => ?_⟩
    replace h := h.2 x19 r0 r1
    replace h := toP h
    obtain ⟨x20, ex20, h⟩ := letK_ok h
    refine AddD.xx ex20 ?_
    obtain ⟨cx21, x21, ex21, h⟩ := mulK_ok h
    refine MulD.xx cx21 ex21 ?_
    refine EN.int ?_
    obtain ⟨x22, ex22, h⟩ := letK_ok h
    refine SubI.xx ex22 ?_
    show BN X _ [.src, .dat (PyData.int a_p), .dat (PyData.int a_l), .dat (PyData.int x22), .dat (PyData.int x1), .no, .no] _
    refine BN.cons ?_
    refine SN.join h (fun (s24 : (Int)) => [.src, .dat (PyData.int a_p), .dat (PyData.int a_l), .dat (PyData.int s24), .dat (PyData.int x1), .no, .no]) ?_ ?_
    · intro J23 h
      refine SN.ife ?_
      refine TN.eq C ?_
      refine EN.var (i := 4) (d := PyData.int x1) C rfl (by walk_at "vis") rfl ?_
      refine EN.int ?_
      refine EqT.xx (inj := PyData.int) (x := x1) (y := 1) Ev.int (by decide) ?_
      refine ⟨fun hb => ?_, fun hb => ?_⟩
      · have h := bK_t hb h
        refine BN.cons ?_
        refine SN.asg (i := 6) C Fx rfl (by walk_at "vis") rfl ?_
        refine EN.add ?_
        refine EN.int ?_
        refine EN.call C T_law_pick (by omega) rfl ?_ rfl rfl
        refine AN.src (i := 0) C rfl (by walk_at "vis") rfl rfl ?_
        refine AN.cons rfl ?_
        refine EN.int ?_
        refine AN.nil ?_
        refine ⟨_, rfl, h.1, fun x25 r0 r1 => ?_⟩
        replace h := h.2 x25 r0 r1
        replace h := toP h
        obtain ⟨x26, ex26, h⟩ := letK_ok h
        refine AddD.xx ex26 ?_
        show BN X _ [.src, .dat (PyData.int a_p), .dat (PyData.int a_l), .dat (PyData.int x22), .dat (PyData.int x1), .no, .dat (PyData.int x26)] _
        refine BN.cons ?_
        refine SN.for C (fun _ => rfl) ?_
        refine IN.r1 C rfl B.range rfl rfl ?_
        refine EN.call C T_law_pick (by omega) rfl ?_ rfl rfl
        refine AN.src (i := 0) C rfl (by walk_at "vis") rfl rfl ?_
        refine AN.cons rfl ?_
        refine EN.int ?_
        refine AN.nil ?_
        refine ⟨_, rfl, h.1, fun x30 r0 r1 => ?_⟩
        replace h := h.2 x30 r0 r1
        replace h := toP h
        obtain ⟨cx31, x31, ex31, h⟩ := rng1K_ok h
        refine ⟨_, rfl, cx31.1, cx31.2, ?_⟩
        rw [rng1_r ex31]
        refine forK_in h PyData.int (fun (s27 : (Int)) => [.src, .dat (PyData.int a_p), .dat (PyData.int a_l), .dat (PyData.int x22), .dat (PyData.int x1), .no, .dat (PyData.int s27)]) rfl ?_ ?_
        · intro s40 h
          show BN X _ [.src, .dat (PyData.int a_p), .dat (PyData.int a_l), .dat (PyData.int x22), .dat (PyData.int x1), .no, .dat (PyData.int s40)] _
          refine BN.cons ?_
          refine SN.asg (i := 3) C Fx rfl (by walk_at "vis") rfl ?_
          refine EN.add ?_
          refine EN.var (i := 3) (d := PyData.int x22) C rfl (by walk_at "vis") rfl ?_
          refine EN.var (i := 6) (d := PyData.int s40) C rfl (by walk_at "vis") rfl ?_
          obtain ⟨x41, ex41, h⟩ := letK_ok h
          refine AddD.xx ex41 ?_
          show BN X _ [.src, .dat (PyData.int a_p), .dat (PyData.int a_l), .dat (PyData.int x41), .dat (PyData.int x1), .no, .dat (PyData.int s40)] _
          refine BN.wk (ρ' := [.src, .dat (PyData.int a_p), .dat (PyData.int a_l), .dat (PyData.int x41), .dat (PyData.int x1), .no, .no]) (.eq (.eq (.eq (.eq (.eq (.eq (.no .nil))))))) ?_
          refine BN.nil ?_
          exact ⟨(x41), rfl, h⟩
        · intro x32 s27 fin28 nx29 h
          refine GN.name (i := 5) C rfl (by walk_at "vis") (Or.inl (Fx _)) ?_
          show BN X _ [.src, .dat (PyData.int a_p), .dat (PyData.int a_l), .dat (PyData.int x22), .dat (PyData.int x1), .dat (PyData.int x32), .dat (PyData.int s27)] _
          show BN X _ [.src, .dat (PyData.int a_p), .dat (PyData.int a_l), .dat (PyData.int x22), .dat (PyData.int x1), .dat (PyData.int x32), .dat (PyData.int s27)] _
          refine BN.cons ?_
          refine SN.asg (i := 6) C Fx rfl (by walk_at "vis") rfl ?_
          refine EN.mul ?_
          refine EN.var (i := 6) (d := PyData.int s27) C rfl (by walk_at "vis") rfl ?_
          refine EN.join h PyData.int ?_ ?_
          · intro J33 h
            refine EN.ife ?_
            refine TN.join h ?_ ?_
            · intro J36 h
              refine WN.tn ?_
              refine WN.and ?_
              refine TN.gt ?_
              refine EN.var (i := 1) (d := PyData.int a_p) C rfl (by walk_at "vis") rfl ?_
              refine EN.int ?_
              refine IbGt ?_
              refine ⟨fun hb => ?_, fun hb => ?_⟩
              · have h := bK_t hb h
                refine WN.and1 ?_
                refine TN.gt ?_
                refine EN.var (i := 5) (d := PyData.int x32) C rfl (by walk_at "vis") rfl ?_
                refine EN.int ?_
                refine IbGt ?_
                exact h
              · exact bK_f hb h
            · intro b37 h
              refine ⟨fun hb => ?_, fun hb => ?_⟩
              · have h := bK_t hb h
                refine EN.var (i := 1) (d := PyData.int a_p) C rfl (by walk_at "vis") rfl ?_
                exact ⟨a_p, rfl, h⟩
              · have h := bK_f hb h
                refine EN.ife ?_
                refine TN.notN ?_
                refine EN.var (i := 2) (d := PyData.int a_l) C rfl (by walk_at "vis") rfl ?_
                refine tb_t rfl ?_
                refine Kt.yes ?_
                refine EN.var (i := 2) (d := PyData.int a_l) C rfl (by walk_at "vis") rfl ?_
                exact ⟨a_l, rfl, h⟩
          · intro x38 h
            obtain ⟨cx39, x39, ex39, h⟩ := mulK_ok h
            refine MulD.xx cx39 ex39 ?_
            show BN X _ [.src, .dat (PyData.int a_p), .dat (PyData.int a_l), .dat (PyData.int x22), .dat (PyData.int x1), .dat (PyData.int x32), .dat (PyData.int x39)] _
            refine BN.wk (ρ' := [.src, .dat (PyData.int a_p), .dat (PyData.int a_l), .dat (PyData.int x22), .dat (PyData.int x1), .no, .dat (PyData.int x39)]) (.eq (.eq (.eq (.eq (.eq (.no (.eq .nil))))))) ?_
            refine BN.nil ?_
            exact ⟨(x39), rfl, h⟩
      · have h := bK_f hb h
        refine BN.nil ?_
        exact ⟨(x22), rfl, h⟩
    · intro s24 h
      show BN X _ [.src, .dat (PyData.int a_p), .dat (PyData.int a_l), .dat (PyData.int s24), .dat (PyData.int x1), .no, .no] _
      refine BN.cons ?_
      refine SN.ret ?_
      refine EN.max2 C rfl B.max ?_ rfl rfl rfl
      refine EN.int ?_
      refine EN.join h PyData.int ?_ ?_
      · intro J42 h
        refine EN.ife ?_
        refine TN.lt ?_
        refine EN.var (i := 4) (d := PyData.int x1) C rfl (by walk_at "vis") rfl ?_
        refine EN.int ?_
        refine IbLt ?_
        refine ⟨fun hb => ?_, fun hb => ?_⟩
        · have h := bK_t hb h
          refine EN.var (i := 3) (d := PyData.int s24) C rfl (by walk_at "vis") rfl ?_
          exact ⟨s24, rfl, h⟩
        · have h := bK_f hb h
          refine EN.mul ?_
          refine EN.call C T_law_pick (by omega) rfl ?_ rfl rfl
          refine AN.src (i := 0) C rfl (by walk_at "vis") rfl rfl ?_
          refine AN.cons rfl ?_
          refine EN.pow ?_
          refine EN.int ?_
          refine EN.int ?_
          refine PowI.v (n := 1000000000000) ⟨by decide, by decide, by decide⟩ (by decide +kernel) ?_
          refine AN.nil ?_
          refine ⟨_, rfl, h.1, fun x46 r0 r1 => ?_⟩
          replace h := h.2 x46 r0 r1
          replace h := toP h
          refine EN.call C T_law_pick (by omega) rfl ?_ rfl rfl
          refine AN.src (i := 0) C rfl (by walk_at "vis") rfl rfl ?_
          refine AN.cons rfl ?_
          refine EN.pow ?_
          refine EN.int ?_
          refine EN.int ?_
          refine PowI.v (n := 1000000000000) ⟨by decide, by decide, by decide⟩ (by decide +kernel) ?_
          refine AN.nil ?_
          refine ⟨_, rfl, h.1, fun x47 r0 r1 => ?_⟩
          replace h := h.2 x47 r0 r1
          replace h := toP h
          obtain ⟨cx48, x48, ex48, h⟩ := mulK_ok h
          refine MulD.xx cx48 ex48 ?_
          exact ⟨x48, rfl, h⟩
      · intro x49 h
        obtain ⟨x50, ex50, h⟩ := letK_ok h
        refine ⟨_, _, rfl, rfl, ?_⟩
        rw [max_r ex50]
        exact hQ _ h
  · intro x8 s2 fin3 nx4 h
    refine GN.name (i := 5) C rfl (by walk_at "vis") (Or.inl (Fx _)) ?_
    show BN X _ [.src, .dat (PyData.int a_p), .dat (PyData.int a_l), .dat (PyData.int s2), .dat (PyData.int x1), .dat (PyData.int x8), .no] _
    show BN X _ [.src, .dat (PyData.int a_p), .dat (PyData.int a_l), .dat (PyData.int s2), .dat (PyData.int x1), .dat (PyData.int x8), .no] _
    refine BN.cons ?_
    refine SN.asg (i := 3) C Fx rfl (by walk_at "vis") rfl ?_
    refine EN.mul ?_
    refine EN.var (i := 3) (d := PyData.int s2) C rfl (by walk_at "vis") rfl ?_
    refine EN.join h PyData.int ?_ ?_
    · intro J9 h
      refine EN.ife ?_
      refine TN.join h ?_ ?_
      · intro J12 h
        refine WN.tn ?_
        refine WN.and ?_
        refine TN.gt ?_
        refine EN.var (i := 1) (d := PyData.int a_p) C rfl (by walk_at "vis") rfl ?_
        refine EN.int ?_
        refine IbGt ?_
        refine ⟨fun hb => ?_, fun hb => ?_⟩
        · have h := bK_t hb h
          refine WN.and1 ?_
          refine TN.gt ?_
          refine EN.var (i := 5) (d := PyData.int x8) C rfl (by walk_at "vis") rfl ?_
          refine EN.int ?_
          refine IbGt ?_
          exact h
        · exact bK_f hb h
      · intro b13 h
        refine ⟨fun hb => ?_, fun hb => ?_⟩
        · have h := bK_t hb h
          refine EN.var (i := 1) (d := PyData.int a_p) C rfl (by walk_at "vis") rfl ?_
          exact ⟨a_p, rfl, h⟩
        · have h := bK_f hb h
          refine EN.ife ?_
          refine TN.notN ?_
          refine EN.var (i := 2) (d := PyData.int a_l) C rfl (by walk_at "vis") rfl ?_
          refine tb_t rfl ?_
          refine Kt.yes ?_
          refine EN.var (i := 2) (d := PyData.int a_l) C rfl (by walk_at "vis") rfl ?_
          exact ⟨a_l, rfl, h⟩
    · intro x14 h
      obtain ⟨cx15, x15, ex15, h⟩ := mulK_ok h
      refine MulD.xx cx15 ex15 ?_
      show BN X _ [.src, .dat (PyData.int a_p), .dat (PyData.int a_l), .dat (PyData.int x15), .dat (PyData.int x1), .dat (PyData.int x8), .no] _
      refine BN.wk (ρ' := [.src, .dat (PyData.int a_p), .dat (PyData.int a_l), .dat (PyData.int x15), .dat (PyData.int x1), .no, .no]) (.eq (.eq (.eq (.eq (.eq (.no (.eq .nil))))))) ?_
      refine BN.nil ?_
      exact ⟨(x15), rfl, h⟩
theorem ok_parts_P_IIvI {f : Addr} {fd : FuncData} (F : Fun K "_parts" "_parts" s_parts f fd) (B : Blt mg)   : FnG Pg w K mg base (k + 1) f fd ["p", "l", "told"] (spOf K W_parts_P_IIvI) := by
  refine okFn F sc_parts (by rintro as Q ⟨a_p, a_l, a_told, r, rfl, h, hQ⟩; rfl) ?_
  rintro X C Fx as Q ⟨a_p, a_l, a_told, r, rfl, h, hQ⟩
  unfold f_parts_P_IIvI at h
  replace h := toO h
  show BN X _ [.dat (PyData.int a_p), .dat (PyData.int a_l), .dat ((vI PyData.int) a_told), .no, .no, .no] _
  refine BN.cons ?_
  refine SN.asgN (i := 3) C Fx rfl (by walk_at "vis") (by rintro ⟨⟩ ⟨⟩; rfl) ?_
  refine NN.lst ?_
  refine LN.nil ?_
  refine ⟨Nat.le_of_ble_eq_true rfl, ?_⟩
  show BN X _ [.dat (PyData.int a_p), .dat (PyData.int a_l), .dat ((vI PyData.int) a_told), .own ((([] : List Int)).map PyData.int), .no, .no] _
  refine BN.cons ?_
  refine SN.asg (i := 4) C Fx rfl (by walk_at "vis") rfl ?_
  refine EN.int ?_
  show BN X _ [.dat (PyData.int a_p), .dat (PyData.int a_l), .dat ((vI PyData.int) a_told), .own ((([] : List Int)).map PyData.int), .dat (PyData.int 1), .no] _
  refine BN.cons ?_
  refine SN.for C (fun _ => rfl) ?_
  refine IN.seq ?_
  refine EN.var (i := 2) (d := (vI PyData.int) a_told) C rfl (by walk_at "vis") rfl ?_
  refine SeqD.t ?_
  refine forK_in h PyData.int (fun (s1 : ((List Int) × Int)) => [.dat (PyData.int a_p), .dat (PyData.int a_l), .dat ((vI PyData.int) a_told), .own (((s1).1).map PyData.int), .dat (PyData.int (s1).2), .no]) rfl ?_ ?_
  · intro s13 h
    show BN X _ [.dat (PyData.int a_p), .dat (PyData.int a_l), .dat ((vI PyData.int) a_told), .own (((s13).1).map PyData.int), .dat (PyData.int (s13).2), .no] _
    refine BN.freeze (i := 3) rfl ?_
    show BN X _ [.dat (PyData.int a_p), .dat (PyData.int a_l), .dat ((vI PyData.int) a_told), .dat ((lI PyData.int) (s13).1), .dat (PyData.int (s13).2), .no] _
    refine BN.cons ?_
    refine SN.ret ?_
    refine EN.var (i := 3) (d := (lI PyData.int) (s13).1) C rfl (by walk_at "vis") rfl ?_
    cases h
    exact hQ
  · intro x4 s1 fin2 nx3 h
    refine GN.name (i := 5) C rfl (by walk_at "vis") (Or.inl (Fx _)) ?_
    show BN X _ [.dat (PyData.int a_p), .dat (PyData.int a_l), .dat ((vI PyData.int) a_told), .own (((s1).1).map PyData.int), .dat (PyData.int (s1).2), .dat (PyData.int x4)] _
    show BN X _ [.dat (PyData.int a_p), .dat (PyData.int a_l), .dat ((vI PyData.int) a_told), .own (((s1).1).map PyData.int), .dat (PyData.int (s1).2), .dat (PyData.int x4)] _
    refine BN.cons ?_
    refine SN.app (i := 3) C rfl (by walk_at "vis") rfl ?_ rfl rfl rfl rfl rfl rfl
    refine EN.mul ?_
    refine EN.var (i := 5) (d := PyData.int x4) C rfl (by walk_at "vis") rfl ?_
    refine EN.var (i := 4) (d := PyData.int (s1).2) C rfl (by walk_at "vis") rfl ?_
    obtain ⟨cx5, x5, ex5, h⟩ := mulK_ok h
    refine MulD.xx cx5 ex5 ?_
    obtain ⟨cx6, h⟩ := chkK_ok h
    obtain ⟨x6, ex6, h⟩ := letK_ok h
    refine ⟨app_c (inj := PyData.int) cx6, ?_⟩
    rw [app_r (inj := PyData.int) ex6]
    show BN X _ [.dat (PyData.int a_p), .dat (PyData.int a_l), .dat ((vI PyData.int) a_told), .own ((x6).map PyData.int), .dat (PyData.int (s1).2), .dat (PyData.int x4)] _
    refine BN.cons ?_
    refine SN.asg (i := 4) C Fx rfl (by walk_at "vis") rfl ?_
    refine EN.join h PyData.int ?_ ?_
    · intro J7 h
      refine EN.ife ?_
      refine TN.eq C ?_
      refine EN.lenO (i := 3) C rfl B.len rfl (by walk_at "vis") rfl ?_ rfl rfl
      obtain ⟨x10, ex10, h⟩ := letK_ok h
      rw [len_r (inj := PyData.int) (xs := x6) ex10]
      refine EN.int ?_
      refine EqT.xx (inj := PyData.int) (x := x10) (y := 1) Ev.int (by decide) ?_
      refine ⟨fun hb => ?_, fun hb => ?_⟩
      · have h := bK_t hb h
        refine EN.var (i := 1) (d := PyData.int a_l) C rfl (by walk_at "vis") rfl ?_
        exact ⟨a_l, rfl, h⟩
      · have h := bK_f hb h
        refine EN.mul ?_
        refine EN.var (i := 4) (d := PyData.int (s1).2) C rfl (by walk_at "vis") rfl ?_
        refine EN.var (i := 0) (d := PyData.int a_p) C rfl (by walk_at "vis") rfl ?_
        obtain ⟨cx11, x11, ex11, h⟩ := mulK_ok h
        refine MulD.xx cx11 ex11 ?_
        exact ⟨x11, rfl, h⟩
    · intro x12 h
      show BN X _ [.dat (PyData.int a_p), .dat (PyData.int a_l), .dat ((vI PyData.int) a_told), .own ((x6).map PyData.int), .dat (PyData.int x12), .dat (PyData.int x4)] _
      refine BN.wk (ρ' := [.dat (PyData.int a_p), .dat (PyData.int a_l), .dat ((vI PyData.int) a_told), .own ((x6).map PyData.int), .dat (PyData.int x12), .no]) (.eq (.eq (.eq (.eq (.eq (.no .nil)))))) ?_
      refine BN.nil ?_
      exact ⟨(x6, x12), rfl, h⟩
theorem ok_of_digits_P_IIvI {f : Addr} {fd : FuncData} (F : Fun K "of_digits" "of_digits" s_of_digits f fd) (B : Blt mg) (T_parts_P_IIvI : Fd Pg w K mg base k "_parts" W_parts_P_IIvI)  : FnG Pg w K mg base (k + 1) f fd ["p", "l", "told"] (spOf K W_of_digits_P_IIvI) := by
  refine okFn F sc_of_digits (by rintro as Q ⟨a_p, a_l, a_told, r, rfl, h, hQ⟩; rfl) ?_
  rintro X C Fx as Q ⟨a_p, a_l, a_told, r, rfl, h, hQ⟩
  unfold f_of_digits_P_IIvI at h
  replace h := toO h
  show BN X _ [.dat (PyData.int a_p), .dat (PyData.int a_l), .dat ((vI PyData.int) a_told)] _
  refine BN.cons ?_
  refine SN.ret ?_
  refine EN.sum C rfl B.sum ?_ rfl rfl
  refine EN.call C T_parts_P_IIvI (by omega) rfl ?_ rfl rfl
  refine AN.cons rfl ?_
  refine EN.var (i := 0) (d := PyData.int a_p) C rfl (by walk_at "vis") rfl ?_
  refine AN.cons rfl ?_
  refine EN.var (i := 1) (d := PyData.int a_l) C rfl (by walk_at "vis") rfl ?_
  refine AN.cons rfl ?_
  refine EN.var (i := 2) (d := (vI PyData.int) a_told) C rfl (by walk_at "vis") rfl ?_
  refine AN.nil ?_
  obtain ⟨x1, ex1, h⟩ := callK_ok h
  refine ⟨_, _, _, _, rfl, ex1, ?_⟩
  obtain ⟨x2, ex2, h⟩ := letK_ok h
  refine ⟨x1, rfl, ?_⟩
  rw [sum_r ex2]
  cases h
  exact hQ
theorem ok_support_P_III {f : Addr} {fd : FuncData} (F : Fun K "support" "support" s_support f fd) (B : Blt mg) (T_digits_P_III : Fd Pg w K mg base k "digits" W_digits_P_III) (T_parts_P_IIvI : Fd Pg w K mg base k "_parts" W_parts_P_IIvI)  : FnG Pg w K mg base (k + 1) f fd ["p", "l", "N"] (spOf K W_support_P_III) := by
  refine okFn F sc_support (by rintro as Q ⟨a_p, a_l, a_N, r, rfl, h, hQ⟩; rfl) ?_
  rintro X C Fx as Q ⟨a_p, a_l, a_N, r, rfl, h, hQ⟩
  unfold f_support_P_III at h
  replace h := toO h
  show BN X _ [.dat (PyData.int a_p), .dat (PyData.int a_l), .dat (PyData.int a_N), .no, .no, .no, .no] _
  refine BN.cons ?_
  refine SN.asg (i := 3) C Fx rfl (by walk_at "vis") rfl ?_
  refine EN.call C T_parts_P_IIvI (by omega) rfl ?_ rfl rfl
  refine AN.cons rfl ?_
  refine EN.var (i := 0) (d := PyData.int a_p) C rfl (by walk_at "vis") rfl ?_
  refine AN.cons rfl ?_
  refine EN.var (i := 1) (d := PyData.int a_l) C rfl (by walk_at "vis") rfl ?_
  refine AN.cons rfl ?_
  refine EN.call C T_digits_P_III (by omega) rfl ?_ rfl rfl
  refine AN.cons rfl ?_
  refine EN.var (i := 0) (d := PyData.int a_p) C rfl (by walk_at "vis") rfl ?_
  refine AN.cons rfl ?_
  refine EN.var (i := 1) (d := PyData.int a_l) C rfl (by walk_at "vis") rfl ?_
  refine AN.cons rfl ?_
  refine EN.var (i := 2) (d := PyData.int a_N) C rfl (by walk_at "vis") rfl ?_
  refine AN.nil ?_
  obtain ⟨x1, ex1, h⟩ := callK_ok h
  refine ⟨_, _, _, _, rfl, ex1, ?_⟩
  refine AN.nil ?_
  obtain ⟨x2, ex2, h⟩ := callK_ok h
  refine ⟨_, _, _, _, rfl, ex2, ?_⟩
  show BN X _ [.dat (PyData.int a_p), .dat (PyData.int a_l), .dat (PyData.int a_N), .dat ((lI PyData.int) x2), .no, .no, .no] _
  refine BN.cons ?_
  refine SN.asg (i := 4) C Fx rfl (by walk_at "vis") rfl ?_
  refine EN.lst ?_
  refine LN.cons rfl ?_
  refine EN.ix (fun _ _ => rfl) ?_
  refine EN.var (i := 3) (d := (lI PyData.int) x2) C rfl (by walk_at "vis") rfl ?_
  refine EN.neg ?_
  refine EN.int ?_
  obtain ⟨x3, ex3, h⟩ := letK_ok h
  refine ⟨_, rfl, ?_⟩
  rw [neg_r ex3]
  obtain ⟨x4, ex4, h⟩ := callK_ok h
  refine IxD.lx (inj := PyData.int) (xs := x2) ex4 ?_
  refine LN.nil ?_
  refine ⟨Nat.le_of_ble_eq_true rfl, ?_⟩
  show BN X _ [.dat (PyData.int a_p), .dat (PyData.int a_l), .dat (PyData.int a_N), .dat ((lI PyData.int) x2), .dat ((lI PyData.int) ([x4] : List Int)), .no, .no] _
  refine BN.cons ?_
  refine SN.for C (fun _ => rfl) ?_
  refine IN.seq ?_
  refine EN.slA ?_
  refine EN.var (i := 3) (d := (lI PyData.int) x2) C rfl (by walk_at "vis") rfl ?_
  refine (show EN _ _ _ _ from ?_)
  refine EN.neg ?_
  refine EN.int ?_
  obtain ⟨x8, ex8, h⟩ := letK_ok h
  refine ⟨_, rfl, ?_⟩
  rw [neg_r ex8]
  refine ⟨_, rfl, ?_⟩
  obtain ⟨x9, ex9, h⟩ := letK_ok h
  refine cutA_l (inj := PyData.int) (xs := x2) ex9 ?_
  refine SeqD.l ?_
  refine forK_in h PyData.int (fun (s5 : ((List Int))) => [.dat (PyData.int a_p), .dat (PyData.int a_l), .dat (PyData.int a_N), .dat ((lI PyData.int) x2), .dat ((lI PyData.int) s5), .no, .no]) rfl ?_ ?_
  · intro s22 h
    show BN X _ [.dat (PyData.int a_p), .dat (PyData.int a_l), .dat (PyData.int a_N), .dat ((lI PyData.int) x2), .dat ((lI PyData.int) s22), .no, .no] _
    refine BN.cons ?_
    refine SN.ret ?_
    refine EN.tuplec C rfl B.tuple ?_ rfl rfl
    refine EN.sortedI C rfl B.sorted ?_ rfl rfl
    refine EN.var (i := 4) (d := (lI PyData.int) s22) C rfl (by walk_at "vis") rfl ?_
    obtain ⟨x23, ex23, h⟩ := letK_ok h
    refine ⟨s22, rfl, fun ms hp ho => ?_⟩
    rw [sort_r ex23 hp ho]
    refine SeqD.l ?_
    cases h
    exact hQ
  · intro x10 s5 fin6 nx7 h
    refine GN.name (i := 5) C rfl (by walk_at "vis") (Or.inl (Fx _)) ?_
    show BN X _ [.dat (PyData.int a_p), .dat (PyData.int a_l), .dat (PyData.int a_N), .dat ((lI PyData.int) x2), .dat ((lI PyData.int) s5), .dat (PyData.int x10), .no] _
    show BN X _ [.dat (PyData.int a_p), .dat (PyData.int a_l), .dat (PyData.int a_N), .dat ((lI PyData.int) x2), .dat ((lI PyData.int) s5), .dat (PyData.int x10), .no] _
    refine BN.cons ?_
    refine SN.ife ?_
    refine TN.ne C ?_
    refine EN.var (i := 5) (d := PyData.int x10) C rfl (by walk_at "vis") rfl ?_
    refine EN.int ?_
    refine NeT.xx (inj := PyData.int) (x := x10) (y := 0) Ev.int (by decide) ?_
    refine ⟨fun hb => ?_, fun hb => ?_⟩
    · have h := bK_t hb h
      refine BN.cons ?_
      refine SN.asg (i := 4) C Fx rfl (by walk_at "vis") rfl ?_
      refine EN.add ?_
      refine EN.lc (i := 6) C rfl rfl rfl (fun _ => rfl) ?_
      refine IN.seq ?_
      refine EN.var (i := 4) (d := (lI PyData.int) s5) C rfl (by walk_at "vis") rfl ?_
      refine SeqD.l ?_
      refine lcK_in h PyData.int PyData.int ?_ ?_
      · intro x12 k13 h Y11 CY11
        refine EN.sub ?_
        refine EN.var (i := 6) (d := PyData.int x12) CY11 rfl (by walk_at "vis") rfl ?_
        refine EN.var (i := 5) (d := PyData.int x10) CY11 rfl (by walk_at "vis") rfl ?_
        obtain ⟨x15, ex15, h⟩ := letK_ok h
        refine SubI.xx ex15 ?_
        exact ⟨_, rfl, h⟩
      · intro ys14 h
        refine EN.lc (i := 6) C rfl rfl rfl (fun _ => rfl) ?_
        refine IN.seq ?_
        refine EN.var (i := 4) (d := (lI PyData.int) s5) C rfl (by walk_at "vis") rfl ?_
        refine SeqD.l ?_
        refine lcK_in h PyData.int PyData.int ?_ ?_
        · intro x17 k18 h Y16 CY16
          refine EN.add ?_
          refine EN.var (i := 6) (d := PyData.int x17) CY16 rfl (by walk_at "vis") rfl ?_
          refine EN.var (i := 5) (d := PyData.int x10) CY16 rfl (by walk_at "vis") rfl ?_
          obtain ⟨x20, ex20, h⟩ := letK_ok h
          refine AddD.xx ex20 ?_
          exact ⟨_, rfl, h⟩
        · intro ys19 h
          obtain ⟨cx21, h⟩ := chkK_ok h
          obtain ⟨x21, ex21, h⟩ := letK_ok h
          refine AddD.lx (inj := PyData.int) (xs := ys14) (ys := ys19) cx21 ex21 ?_
          show BN X _ [.dat (PyData.int a_p), .dat (PyData.int a_l), .dat (PyData.int a_N), .dat ((lI PyData.int) x2), .dat ((lI PyData.int) x21), .dat (PyData.int x10), .no] _
          refine BN.nil ?_
          show BN X _ [.dat (PyData.int a_p), .dat (PyData.int a_l), .dat (PyData.int a_N), .dat ((lI PyData.int) x2), .dat ((lI PyData.int) x21), .dat (PyData.int x10), .no] _
          refine BN.wk (ρ' := [.dat (PyData.int a_p), .dat (PyData.int a_l), .dat (PyData.int a_N), .dat ((lI PyData.int) x2), .dat ((lI PyData.int) x21), .no, .no]) (.eq (.eq (.eq (.eq (.eq (.no (.eq .nil))))))) ?_
          refine BN.nil ?_
          exact ⟨(x21), rfl, h⟩
    · have h := bK_f hb h
      refine BN.nil ?_
      show BN X _ [.dat (PyData.int a_p), .dat (PyData.int a_l), .dat (PyData.int a_N), .dat ((lI PyData.int) x2), .dat ((lI PyData.int) s5), .dat (PyData.int x10), .no] _
      refine BN.wk (ρ' := [.dat (PyData.int a_p), .dat (PyData.int a_l), .dat (PyData.int a_N), .dat ((lI PyData.int) x2), .dat ((lI PyData.int) s5), .no, .no]) (.eq (.eq (.eq (.eq (.eq (.no (.eq .nil))))))) ?_
      refine BN.nil ?_
      exact ⟨(s5), rfl, h⟩
theorem ok_holds_P_IIII {f : Addr} {fd : FuncData} (F : Fun K "holds" "holds" s_holds f fd) (B : Blt mg) (T_digits_P_III : Fd Pg w K mg base k "digits" W_digits_P_III)  : FnG Pg w K mg base (k + 1) f fd ["p", "l", "k", "r"] (spOf K W_holds_P_IIII) := by
  refine okFn F sc_holds (by rintro as Q ⟨a_p, a_l, a_k0, a_r, r, rfl, h, hQ⟩; rfl) ?_
  rintro X C Fx as Q ⟨a_p, a_l, a_k0, a_r, r, rfl, h, hQ⟩
  unfold f_holds_P_IIII at h
  replace h := toO h
  show BN X _ [.dat (PyData.int a_p), .dat (PyData.int a_l), .dat (PyData.int a_k0), .dat (PyData.int a_r), .no, .no, .no] _
  refine BN.cons ?_
  refine SN.ife ?_
  refine TN.join h ?_ ?_
  · intro J1 h
    refine WN.tn ?_
    refine WN.or ?_
    refine TN.ge ?_
    refine EN.var (i := 2) (d := PyData.int a_k0) C rfl (by walk_at "vis") rfl ?_
    refine EN.var (i := 3) (d := PyData.int a_r) C rfl (by walk_at "vis") rfl ?_
    refine IbGe ?_
    refine ⟨fun hb => ?_, fun hb => ?_⟩
    · exact bK_t hb h
    · have h := bK_f hb h
      refine WN.or1 ?_
      refine TN.eq C ?_
      refine EN.mod ?_
      refine EN.sub ?_
      refine EN.var (i := 3) (d := PyData.int a_r) C rfl (by walk_at "vis") rfl ?_
      refine EN.var (i := 2) (d := PyData.int a_k0) C rfl (by walk_at "vis") rfl ?_
      obtain ⟨x2, ex2, h⟩ := letK_ok h
      refine SubI.xx ex2 ?_
      refine EN.int ?_
      obtain ⟨cx3, x3, ex3, h⟩ := modK_ok h
      refine ModI.xx cx3 ex3 ?_
      refine EN.int ?_
      refine EqT.xx (inj := PyData.int) (x := x3) (y := 1) Ev.int (by decide) ?_
      exact h
  · intro b4 h
    refine ⟨fun hb => ?_, fun hb => ?_⟩
    · have h := bK_t hb h
      refine BN.cons ?_
      refine SN.ret ?_
      refine EN.eq C ?_
      refine EN.var (i := 2) (d := PyData.int a_k0) C rfl (by walk_at "vis") rfl ?_
      refine EN.var (i := 3) (d := PyData.int a_r) C rfl (by walk_at "vis") rfl ?_
      refine EqD.xx (inj := PyData.int) (x := a_k0) (y := a_r) Ev.int (by decide) ?_
      cases h
      exact hQ
    · have h := bK_f hb h
      refine BN.nil ?_
      show BN X _ [.dat (PyData.int a_p), .dat (PyData.int a_l), .dat (PyData.int a_k0), .dat (PyData.int a_r), .no, .no, .no] _
      refine BN.cons ?_
      refine SN.asg (i := 4) C Fx rfl (by walk_at "vis") rfl ?_
      refine EN.call C T_digits_P_III (by omega) rfl ?_ rfl rfl
      refine AN.cons rfl ?_
      refine EN.var (i := 0) (d := PyData.int a_p) C rfl (by walk_at "vis") rfl ?_
      refine AN.cons rfl ?_
      refine EN.var (i := 1) (d := PyData.int a_l) C rfl (by walk_at "vis") rfl ?_
      refine AN.cons rfl ?_
      refine EN.div ?_
      refine EN.sub ?_
      refine EN.var (i := 3) (d := PyData.int a_r) C rfl (by walk_at "vis") rfl ?_
      refine EN.var (i := 2) (d := PyData.int a_k0) C rfl (by walk_at "vis") rfl ?_
      obtain ⟨x5, ex5, h⟩ := letK_ok h
      refine SubI.xx ex5 ?_
      refine EN.int ?_
      obtain ⟨cx6, x6, ex6, h⟩ := divK_ok h
      refine DivI.xx cx6 ex6 ?_
      refine AN.nil ?_
      obtain ⟨x7, ex7, h⟩ := callK_ok h
      refine ⟨_, _, _, _, rfl, ex7, ?_⟩
      show BN X _ [.dat (PyData.int a_p), .dat (PyData.int a_l), .dat (PyData.int a_k0), .dat (PyData.int a_r), .dat ((vI PyData.int) x7), .no, .no] _
      refine BN.cons ?_
      refine SN.ret ?_
      refine EN.all C rfl B.all ?_ rfl rfl
      refine EN.lcP (i := 5) (i2 := 6) C rfl rfl rfl rfl rfl (by decide) (fun _ => rfl) (fun _ => rfl) (fun _ => rfl) (fun _ => rfl) (fun _ => rfl) ?_
      refine IN.zip C rfl B.zip rfl rfl rfl ?_
      refine EN.var (i := 4) (d := (vI PyData.int) x7) C rfl (by walk_at "vis") rfl ?_
      refine EN.call C T_digits_P_III (by omega) rfl ?_ rfl rfl
      refine AN.cons rfl ?_
      refine EN.var (i := 0) (d := PyData.int a_p) C rfl (by walk_at "vis") rfl ?_
      refine AN.cons rfl ?_
      refine EN.var (i := 1) (d := PyData.int a_l) C rfl (by walk_at "vis") rfl ?_
      refine AN.cons rfl ?_
      refine EN.add ?_
      refine EN.var (i := 3) (d := PyData.int a_r) C rfl (by walk_at "vis") rfl ?_
      refine EN.int ?_
      obtain ⟨x8, ex8, h⟩ := letK_ok h
      refine AddD.xx ex8 ?_
      refine AN.nil ?_
      obtain ⟨x9, ex9, h⟩ := callK_ok h
      refine ⟨_, _, _, _, rfl, ex9, ?_⟩
      obtain ⟨x10, ex10, h⟩ := letK_ok h
      refine zip_vv (inj := PyData.int) (injb := PyData.int) (xs := x7) (ys := x9) ex10 ?_
      refine lcP_in h PyData.int PyData.int PyData.bool ?_ ?_
      · intro x12 k13 h Y11 CY11
        refine EN.inT rfl ?_
        refine EN.var (i := 5) (d := PyData.int (x12).1) CY11 rfl (by walk_at "vis") rfl ?_
        refine EN.tup ?_
        refine LN.cons rfl ?_
        refine EN.int ?_
        refine LN.cons rfl ?_
        refine EN.var (i := 6) (d := PyData.int (x12).2) CY11 rfl (by walk_at "vis") rfl ?_
        refine LN.nil ?_
        refine ⟨Nat.le_of_ble_eq_true rfl, ?_⟩
        refine InT.x2 ?_
        exact ⟨_, rfl, h⟩
      · intro ys14 h
        obtain ⟨x15, ex15, h⟩ := letK_ok h
        refine ⟨ys14, rfl, ?_⟩
        rw [all_r ex15]
        cases h
        exact hQ
theorem ok_law_common_II {f : Addr} {fd : FuncData} (F : Fun K "_law_common" "_law_common" s_law_common f fd) (B : Blt mg)   : FnG Pg w K mg base (k + 1) f fd ["a", "b"] (spOf K W_law_common_II) := by
  refine okFn F sc_law_common (by rintro as Q ⟨a_a, a_b, r, rfl, h, hQ⟩; rfl) ?_
  rintro X C Fx as Q ⟨a_a, a_b, r, rfl, h, hQ⟩
  unfold f_law_common_II at h
  replace h := toO h
  show BN X _ [.dat (PyData.int a_a), .dat (PyData.int a_b)] _
  refine BN.cons ?_
  refine SN.par2 (i := 0) (j := 1) C rfl rfl (by decide) rfl rfl (by rintro ⟨⟩ ⟨⟩; rfl) rfl ?_
  refine XA.dat rfl ?_
  refine EN.abs C rfl B.abs ?_ rfl rfl
  refine EN.var (i := 0) (d := PyData.int a_a) C rfl (by walk_at "vis") rfl ?_
  obtain ⟨x1, ex1, h⟩ := letK_ok h
  refine ⟨_, rfl, ?_⟩
  rw [abs_r ex1]
  refine XA.dat rfl ?_
  refine EN.abs C rfl B.abs ?_ rfl rfl
  refine EN.var (i := 1) (d := PyData.int a_b) C rfl (by walk_at "vis") rfl ?_
  obtain ⟨x2, ex2, h⟩ := letK_ok h
  refine ⟨_, rfl, ?_⟩
  rw [abs_r ex2]
  refine XA.nil ?_
  refine ⟨rfl, ?_⟩
  show BN X _ [.dat (PyData.int x1), .dat (PyData.int x2)] _
  refine BN.cons ?_
  refine SN.whileK C h (fun (s3 : (Int × Int)) => [.dat (PyData.int (s3).1), .dat (PyData.int (s3).2)]) rfl ?_ ?_ ?_
  · intro s8 h
    show BN X _ [.dat (PyData.int (s8).1), .dat (PyData.int (s8).2)] _
    refine BN.cons ?_
    refine SN.ret ?_
    refine EN.var (i := 0) (d := PyData.int (s8).1) C rfl (by walk_at "vis") rfl ?_
    cases h
    exact hQ
  · intro s3 J6 h
    refine TN.ne C ?_
    refine EN.var (i := 1) (d := PyData.int (s3).2) C rfl (by walk_at "vis") rfl ?_
    refine EN.int ?_
    refine NeT.xx (inj := PyData.int) (x := (s3).2) (y := 0) Ev.int (by decide) ?_
    exact h
  · intro s3 fin4 nx5 h
    show BN X _ [.dat (PyData.int (s3).1), .dat (PyData.int (s3).2)] _
    refine BN.cons ?_
    refine SN.par2 (i := 0) (j := 1) C rfl rfl (by decide) rfl rfl (by rintro ⟨⟩ ⟨⟩; rfl) rfl ?_
    refine XA.dat rfl ?_
    refine EN.var (i := 1) (d := PyData.int (s3).2) C rfl (by walk_at "vis") rfl ?_
    refine XA.dat rfl ?_
    refine EN.mod ?_
    refine EN.var (i := 0) (d := PyData.int (s3).1) C rfl (by walk_at "vis") rfl ?_
    refine EN.var (i := 1) (d := PyData.int (s3).2) C rfl (by walk_at "vis") rfl ?_
    obtain ⟨cx7, x7, ex7, h⟩ := modK_ok h
    refine ModI.xx cx7 ex7 ?_
    refine XA.nil ?_
    refine ⟨rfl, ?_⟩
    show BN X _ [.dat (PyData.int (s3).2), .dat (PyData.int x7)] _
    refine BN.nil ?_
    exact ⟨((s3).2, x7), rfl, h⟩
theorem ok_law_fraction_II {f : Addr} {fd : FuncData} (F : Fun K "_law_fraction" "_law_fraction" s_law_fraction f fd) (B : Blt mg) (T_law_common_II : Fd Pg w K mg base k "_law_common" W_law_common_II)  : FnG Pg w K mg base (k + 1) f fd ["u", "d"] (spOf K W_law_fraction_II) := by
  refine okFn F sc_law_fraction (by rintro as Q ⟨a_u, a_d, r, rfl, h, hQ⟩; rfl) ?_
  rintro X C Fx as Q ⟨a_u, a_d, r, rfl, h, hQ⟩
  unfold f_law_fraction_II at h
  replace h := toO h
  show BN X _ [.dat (PyData.int a_u), .dat (PyData.int a_d), .no] _
  refine BN.cons ?_
  refine SN.asg (i := 2) C Fx rfl (by walk_at "vis") rfl ?_
  refine EN.mul ?_
  refine EN.call C T_law_common_II (by omega) rfl ?_ rfl rfl
  refine AN.cons rfl ?_
  refine EN.var (i := 0) (d := PyData.int a_u) C rfl (by walk_at "vis") rfl ?_
  refine AN.cons rfl ?_
  refine EN.var (i := 1) (d := PyData.int a_d) C rfl (by walk_at "vis") rfl ?_
  refine AN.nil ?_
  obtain ⟨x1, ex1, h⟩ := callK_ok h
  refine ⟨_, _, _, rfl, ex1, ?_⟩
  refine EN.join h PyData.int ?_ ?_
  · intro J2 h
    refine EN.ife ?_
    refine TN.gt ?_
    refine EN.var (i := 1) (d := PyData.int a_d) C rfl (by walk_at "vis") rfl ?_
    refine EN.int ?_
    refine IbGt ?_
    refine ⟨fun hb => ?_, fun hb => ?_⟩
    · have h := bK_t hb h
      refine EN.int ?_
      exact ⟨1, rfl, h⟩
    · have h := bK_f hb h
      refine EN.sub ?_
      refine EN.int ?_
      refine EN.int ?_
      obtain ⟨x4, ex4, h⟩ := letK_ok h
      refine SubI.xx ex4 ?_
      exact ⟨x4, rfl, h⟩
  · intro x5 h
    obtain ⟨cx6, x6, ex6, h⟩ := mulK_ok h
    refine MulD.xx cx6 ex6 ?_
    show BN X _ [.dat (PyData.int a_u), .dat (PyData.int a_d), .dat (PyData.int x6)] _
    refine BN.cons ?_
    refine SN.ret ?_
    refine EN.tup ?_
    refine LN.cons rfl ?_
    refine EN.div ?_
    refine EN.var (i := 0) (d := PyData.int a_u) C rfl (by walk_at "vis") rfl ?_
    refine EN.var (i := 2) (d := PyData.int x6) C rfl (by walk_at "vis") rfl ?_
    obtain ⟨cx7, x7, ex7, h⟩ := divK_ok h
    refine DivI.xx cx7 ex7 ?_
    refine LN.cons rfl ?_
    refine EN.div ?_
    refine EN.var (i := 1) (d := PyData.int a_d) C rfl (by walk_at "vis") rfl ?_
    refine EN.var (i := 2) (d := PyData.int x6) C rfl (by walk_at "vis") rfl ?_
    obtain ⟨cx8, x8, ex8, h⟩ := divK_ok h
    refine DivI.xx cx8 ex8 ?_
    refine LN.nil ?_
    refine ⟨Nat.le_of_ble_eq_true rfl, ?_⟩
    cases h
    exact hQ
theorem ok_law_draw_worth_Q_I {f : Addr} {fd : FuncData} (F : Fun K "_law_draw_worth" "_law_draw_worth" s_law_draw_worth f fd) (B : Blt mg) (T_law_pick : Fd Pg w K mg base k "_law_pick" W_law_pick) (T_law_fraction_II : Fd Pg w K mg base k "_law_fraction" W_law_fraction_II)  : FnG Pg w K mg base (k + 1) f fd ["source", "p"] (spOf K W_law_draw_worth_Q_I) := by
  refine okFn F sc_law_draw_worth (by rintro as Q ⟨a_p, kk, rfl, h, hQ⟩; rfl) ?_
  rintro X C Fx as Q ⟨a_p, kk, rfl, h, hQ⟩
  unfold f_law_draw_worth_Q_I at h
  replace h := toP h
  show BN X _ [.src, .dat (PyData.int a_p)] _
  refine BN.cons ?_
  refine SN.ife ?_
  refine TN.gt ?_
  refine EN.var (i := 1) (d := PyData.int a_p) C rfl (by walk_at "vis") rfl ?_
  refine EN.int ?_
  refine IbGt ?_
  refine ⟨fun hb => ?_, fun hb => ?_⟩
  · exact dead (bK_t hb h)
  · have h := bK_f hb h
    refine BN.nil ?_
    show BN X _ [.src, .dat (PyData.int a_p)] _
    refine BN.cons ?_
    refine SN.ret ?_
    refine EN.call C T_law_fraction_II (by omega) rfl ?_ rfl rfl
    refine AN.cons rfl ?_
    refine EN.ix (fun _ _ => rfl) ?_
    refine EN.lst ?_
    refine LN.cons rfl ?_
    refine EN.int ?_
    refine LN.cons rfl ?_
    refine EN.int ?_
    refine LN.cons rfl ?_
    refine EN.sub ?_
    refine EN.int ?_
    refine EN.int ?_
    obtain ⟨x1, ex1, h⟩ := letK_ok h
    refine SubI.xx ex1 ?_
    refine LN.cons rfl ?_
    refine EN.int ?_
    refine LN.cons rfl ?_
    refine EN.sub ?_
    refine EN.int ?_
    refine EN.int ?_
    obtain ⟨x2, ex2, h⟩ := letK_ok h
    refine SubI.xx ex2 ?_
    refine LN.cons rfl ?_
    refine EN.int ?_
    refine LN.cons rfl ?_
    refine EN.int ?_
    refine LN.nil ?_
    refine ⟨Nat.le_of_ble_eq_true rfl, ?_⟩
    refine EN.call C T_law_pick (by omega) rfl ?_ rfl rfl
    refine AN.src (i := 0) C rfl (by walk_at "vis") rfl rfl ?_
    refine AN.cons rfl ?_
    refine EN.int ?_
    refine AN.nil ?_
    refine ⟨_, rfl, h.1, fun x3 r0 r1 => ?_⟩
    replace h := h.2 x3 r0 r1
    replace h := toP h
    obtain ⟨x4, ex4, h⟩ := callK_ok h
    refine IxD.lx (inj := PyData.int) (xs := ([0, 1, x1, 2, x2, 3, 1] : List Int)) ex4 ?_
    refine AN.cons rfl ?_
    refine EN.ix (fun _ _ => rfl) ?_
    refine EN.lst ?_
    refine LN.cons rfl ?_
    refine EN.int ?_
    refine LN.cons rfl ?_
    refine EN.int ?_
    refine LN.cons rfl ?_
    refine EN.int ?_
    refine LN.cons rfl ?_
    refine EN.int ?_
    refine LN.nil ?_
    refine ⟨Nat.le_of_ble_eq_true rfl, ?_⟩
    refine EN.call C T_law_pick (by omega) rfl ?_ rfl rfl
    refine AN.src (i := 0) C rfl (by walk_at "vis") rfl rfl ?_
    refine AN.cons rfl ?_
    refine EN.int ?_
    refine AN.nil ?_
    refine ⟨_, rfl, h.1, fun x5 r0 r1 => ?_⟩
    replace h := h.2 x5 r0 r1
    replace h := toP h
    obtain ⟨x6, ex6, h⟩ := callK_ok h
    refine IxD.lx (inj := PyData.int) (xs := ([1, 1, 1, 2] : List Int)) ex6 ?_
    refine AN.nil ?_
    obtain ⟨x7, ex7, h⟩ := callK_ok h
    refine ⟨_, _, _, rfl, ex7, ?_⟩
    exact hQ _ h
theorem ok_law_number_Q_II {f : Addr} {fd : FuncData} (F : Fun K "_law_number" "_law_number" s_law_number f fd) (B : Blt mg)   : FnG Pg w K mg base (k + 1) f fd ["p", "n"] (spOf K W_law_number_Q_II) := by
  refine okFn F sc_law_number (by rintro as Q ⟨a_p, a_n, r, rfl, h, hQ⟩; rfl) ?_
  rintro X C Fx as Q ⟨a_p, a_n, r, rfl, h, hQ⟩
  unfold f_law_number_Q_II at h
  replace h := toO h
  show BN X _ [.dat (PyData.int a_p), .dat (PyData.int a_n)] _
  refine BN.cons ?_
  refine SN.ret ?_
  refine EN.ife ?_
  refine TN.gt ?_
  refine EN.var (i := 0) (d := PyData.int a_p) C rfl (by walk_at "vis") rfl ?_
  refine EN.int ?_
  refine IbGt ?_
  refine ⟨fun hb => ?_, fun hb => ?_⟩
  · exact dead (bK_t hb h)
  · have h := bK_f hb h
    refine EN.tup ?_
    refine LN.cons rfl ?_
    refine EN.var (i := 1) (d := PyData.int a_n) C rfl (by walk_at "vis") rfl ?_
    refine LN.cons rfl ?_
    refine EN.int ?_
    refine LN.nil ?_
    refine ⟨Nat.le_of_ble_eq_true rfl, ?_⟩
    cases h
    exact hQ
theorem ok_law_times_Q_ITIIeTIIe {f : Addr} {fd : FuncData} (F : Fun K "_law_times" "_law_times" s_law_times f fd) (B : Blt mg) (T_law_fraction_II : Fd Pg w K mg base k "_law_fraction" W_law_fraction_II)  : FnG Pg w K mg base (k + 1) f fd ["p", "x", "y"] (spOf K W_law_times_Q_ITIIeTIIe) := by
  refine okFn F sc_law_times (by rintro as Q ⟨a_p, a_x, a_y, r, rfl, h, hQ⟩; rfl) ?_
  rintro X C Fx as Q ⟨a_p, a_x, a_y, r, rfl, h, hQ⟩
  unfold f_law_times_Q_ITIIeTIIe at h
  replace h := toO h
  show BN X _ [.dat (PyData.int a_p), .dat ((pI PyData.int PyData.int) a_x), .dat ((pI PyData.int PyData.int) a_y)] _
  refine BN.cons ?_
  refine SN.ret ?_
  refine EN.ife ?_
  refine TN.gt ?_
  refine EN.var (i := 0) (d := PyData.int a_p) C rfl (by walk_at "vis") rfl ?_
  refine EN.int ?_
  refine IbGt ?_
  refine ⟨fun hb => ?_, fun hb => ?_⟩
  · exact dead (bK_t hb h)
  · have h := bK_f hb h
    refine EN.call C T_law_fraction_II (by omega) rfl ?_ rfl rfl
    refine AN.cons rfl ?_
    refine EN.mul ?_
    refine EN.ix (fun _ _ => rfl) ?_
    refine EN.var (i := 1) (d := (pI PyData.int PyData.int) a_x) C rfl (by walk_at "vis") rfl ?_
    refine EN.int ?_
    refine IxD.t (d := PyData.int (a_x).1) (atI_nat (j := 0) rfl) ?_
    refine EN.ix (fun _ _ => rfl) ?_
    refine EN.var (i := 2) (d := (pI PyData.int PyData.int) a_y) C rfl (by walk_at "vis") rfl ?_
    refine EN.int ?_
    refine IxD.t (d := PyData.int (a_y).1) (atI_nat (j := 0) rfl) ?_
    obtain ⟨cx1, x1, ex1, h⟩ := mulK_ok h
    refine MulD.xx cx1 ex1 ?_
    refine AN.cons rfl ?_
    refine EN.mul ?_
    refine EN.ix (fun _ _ => rfl) ?_
    refine EN.var (i := 1) (d := (pI PyData.int PyData.int) a_x) C rfl (by walk_at "vis") rfl ?_
    refine EN.int ?_
    refine IxD.t (d := PyData.int (a_x).2) (atI_nat (j := 1) rfl) ?_
    refine EN.ix (fun _ _ => rfl) ?_
    refine EN.var (i := 2) (d := (pI PyData.int PyData.int) a_y) C rfl (by walk_at "vis") rfl ?_
    refine EN.int ?_
    refine IxD.t (d := PyData.int (a_y).2) (atI_nat (j := 1) rfl) ?_
    obtain ⟨cx2, x2, ex2, h⟩ := mulK_ok h
    refine MulD.xx cx2 ex2 ?_
    refine AN.nil ?_
    obtain ⟨x3, ex3, h⟩ := callK_ok h
    refine ⟨_, _, _, rfl, ex3, ?_⟩
    cases h
    exact hQ
theorem ok_law_plus_Q_ITIIeTIIe {f : Addr} {fd : FuncData} (F : Fun K "_law_plus" "_law_plus" s_law_plus f fd) (B : Blt mg) (T_law_fraction_II : Fd Pg w K mg base k "_law_fraction" W_law_fraction_II)  : FnG Pg w K mg base (k + 1) f fd ["p", "x", "y"] (spOf K W_law_plus_Q_ITIIeTIIe) := by
  refine okFn F sc_law_plus (by rintro as Q ⟨a_p, a_x, a_y, r, rfl, h, hQ⟩; rfl) ?_
  rintro X C Fx as Q ⟨a_p, a_x, a_y, r, rfl, h, hQ⟩
  unfold f_law_plus_Q_ITIIeTIIe at h
  replace h := toO h
  show BN X _ [.dat (PyData.int a_p), .dat ((pI PyData.int PyData.int) a_x), .dat ((pI PyData.int PyData.int) a_y)] _
  refine BN.cons ?_
  refine SN.ret ?_
  refine EN.ife ?_
  refine TN.gt ?_
  refine EN.var (i := 0) (d := PyData.int a_p) C rfl (by walk_at "vis") rfl ?_
  refine EN.int ?_
  refine IbGt ?_
  refine ⟨fun hb => ?_, fun hb => ?_⟩
  · exact dead (bK_t hb h)
  · have h := bK_f hb h
    refine EN.call C T_law_fraction_II (by omega) rfl ?_ rfl rfl
    refine AN.cons rfl ?_
    refine EN.add ?_
    refine EN.mul ?_
    refine EN.ix (fun _ _ => rfl) ?_
    refine EN.var (i := 1) (d := (pI PyData.int PyData.int) a_x) C rfl (by walk_at "vis") rfl ?_
    refine EN.int ?_
    refine IxD.t (d := PyData.int (a_x).1) (atI_nat (j := 0) rfl) ?_
    refine EN.ix (fun _ _ => rfl) ?_
    refine EN.var (i := 2) (d := (pI PyData.int PyData.int) a_y) C rfl (by walk_at "vis") rfl ?_
    refine EN.int ?_
    refine IxD.t (d := PyData.int (a_y).2) (atI_nat (j := 1) rfl) ?_
    obtain ⟨cx1, x1, ex1, h⟩ := mulK_ok h
    refine MulD.xx cx1 ex1 ?_
    refine EN.mul ?_
    refine EN.ix (fun _ _ => rfl) ?_
    refine EN.var (i := 2) (d := (pI PyData.int PyData.int) a_y) C rfl (by walk_at "vis") rfl ?_
    refine EN.int ?_
    refine IxD.t (d := PyData.int (a_y).1) (atI_nat (j := 0) rfl) ?_
    refine EN.ix (fun _ _ => rfl) ?_
    refine EN.var (i := 1) (d := (pI PyData.int PyData.int) a_x) C rfl (by walk_at "vis") rfl ?_
    refine EN.int ?_
    refine IxD.t (d := PyData.int (a_x).2) (atI_nat (j := 1) rfl) ?_
    obtain ⟨cx2, x2, ex2, h⟩ := mulK_ok h
    refine MulD.xx cx2 ex2 ?_
    obtain ⟨x3, ex3, h⟩ := letK_ok h
    refine AddD.xx ex3 ?_
    refine AN.cons rfl ?_
    refine EN.mul ?_
    refine EN.ix (fun _ _ => rfl) ?_
    refine EN.var (i := 1) (d := (pI PyData.int PyData.int) a_x) C rfl (by walk_at "vis") rfl ?_
    refine EN.int ?_
    refine IxD.t (d := PyData.int (a_x).2) (atI_nat (j := 1) rfl) ?_
    refine EN.ix (fun _ _ => rfl) ?_
    refine EN.var (i := 2) (d := (pI PyData.int PyData.int) a_y) C rfl (by walk_at "vis") rfl ?_
    refine EN.int ?_
    refine IxD.t (d := PyData.int (a_y).2) (atI_nat (j := 1) rfl) ?_
    obtain ⟨cx4, x4, ex4, h⟩ := mulK_ok h
    refine MulD.xx cx4 ex4 ?_
    refine AN.nil ?_
    obtain ⟨x5, ex5, h⟩ := callK_ok h
    refine ⟨_, _, _, rfl, ex5, ?_⟩
    cases h
    exact hQ
theorem ok_law_minus_Q_ITIIeTIIe {f : Addr} {fd : FuncData} (F : Fun K "_law_minus" "_law_minus" s_law_minus f fd) (B : Blt mg) (T_law_number_Q_II : Fd Pg w K mg base k "_law_number" W_law_number_Q_II) (T_law_times_Q_ITIIeTIIe : Fd Pg w K mg base k "_law_times" W_law_times_Q_ITIIeTIIe) (T_law_plus_Q_ITIIeTIIe : Fd Pg w K mg base k "_law_plus" W_law_plus_Q_ITIIeTIIe)  : FnG Pg w K mg base (k + 1) f fd ["p", "x", "y"] (spOf K W_law_minus_Q_ITIIeTIIe) := by
  refine okFn F sc_law_minus (by rintro as Q ⟨a_p, a_x, a_y, r, rfl, h, hQ⟩; rfl) ?_
  rintro X C Fx as Q ⟨a_p, a_x, a_y, r, rfl, h, hQ⟩
  unfold f_law_minus_Q_ITIIeTIIe at h
  replace h := toO h
  show BN X _ [.dat (PyData.int a_p), .dat ((pI PyData.int PyData.int) a_x), .dat ((pI PyData.int PyData.int) a_y)] _
  refine BN.cons ?_
  refine SN.ret ?_
  refine EN.call C T_law_plus_Q_ITIIeTIIe (by omega) rfl ?_ rfl rfl
  refine AN.cons rfl ?_
  refine EN.var (i := 0) (d := PyData.int a_p) C rfl (by walk_at "vis") rfl ?_
  refine AN.cons rfl ?_
  refine EN.var (i := 1) (d := (pI PyData.int PyData.int) a_x) C rfl (by walk_at "vis") rfl ?_
  refine AN.cons rfl ?_
  refine EN.call C T_law_times_Q_ITIIeTIIe (by omega) rfl ?_ rfl rfl
  refine AN.cons rfl ?_
  refine EN.var (i := 0) (d := PyData.int a_p) C rfl (by walk_at "vis") rfl ?_
  refine AN.cons rfl ?_
  refine EN.call C T_law_number_Q_II (by omega) rfl ?_ rfl rfl
  refine AN.cons rfl ?_
  refine EN.var (i := 0) (d := PyData.int a_p) C rfl (by walk_at "vis") rfl ?_
  refine AN.cons rfl ?_
  refine EN.sub ?_
  refine EN.int ?_
  refine EN.int ?_
  obtain ⟨x1, ex1, h⟩ := letK_ok h
  refine SubI.xx ex1 ?_
  refine AN.nil ?_
  obtain ⟨x2, ex2, h⟩ := callK_ok h
  refine ⟨_, _, _, rfl, ex2, ?_⟩
  refine AN.cons rfl ?_
  refine EN.var (i := 2) (d := (pI PyData.int PyData.int) a_y) C rfl (by walk_at "vis") rfl ?_
  refine AN.nil ?_
  obtain ⟨x3, ex3, h⟩ := callK_ok h
  refine ⟨_, _, _, _, rfl, ex3, ?_⟩
  refine AN.nil ?_
  obtain ⟨x4, ex4, h⟩ := callK_ok h
  refine ⟨_, _, _, _, rfl, ex4, ?_⟩
  cases h
  exact hQ
theorem ok_law_worth_row_Q_ITIIeI {f : Addr} {fd : FuncData} (F : Fun K "_law_worth_row" "_law_worth_row" s_law_worth_row f fd) (B : Blt mg) (T_law_number_Q_II : Fd Pg w K mg base k "_law_number" W_law_number_Q_II) (T_law_times_Q_ITIIeTIIe : Fd Pg w K mg base k "_law_times" W_law_times_Q_ITIIeTIIe) (T_law_minus_Q_ITIIeTIIe : Fd Pg w K mg base k "_law_minus" W_law_minus_Q_ITIIeTIIe)  : FnG Pg w K mg base (k + 1) f fd ["p", "d", "m"] (spOf K W_law_worth_row_Q_ITIIeI) := by
  refine okFn F sc_law_worth_row (by rintro as Q ⟨a_p, a_d, a_m, r, rfl, h, hQ⟩; rfl) ?_
  rintro X C Fx as Q ⟨a_p, a_d, a_m, r, rfl, h, hQ⟩
  unfold f_law_worth_row_Q_ITIIeI at h
  replace h := toO h
  show BN X _ [.dat (PyData.int a_p), .dat ((pI PyData.int PyData.int) a_d), .dat (PyData.int a_m), .no] _
  refine BN.cons ?_
  refine SN.asgN (i := 3) C Fx rfl (by walk_at "vis") (by rintro ⟨⟩ ⟨⟩; rfl) ?_
  refine NN.lst ?_
  refine LN.cons rfl ?_
  refine EN.call C T_law_number_Q_II (by omega) rfl ?_ rfl rfl
  refine AN.cons rfl ?_
  refine EN.var (i := 0) (d := PyData.int a_p) C rfl (by walk_at "vis") rfl ?_
  refine AN.cons rfl ?_
  refine EN.int ?_
  refine AN.nil ?_
  obtain ⟨x1, ex1, h⟩ := callK_ok h
  refine ⟨_, _, _, rfl, ex1, ?_⟩
  refine LN.cons rfl ?_
  refine EN.var (i := 1) (d := (pI PyData.int PyData.int) a_d) C rfl (by walk_at "vis") rfl ?_
  refine LN.nil ?_
  refine ⟨Nat.le_of_ble_eq_true rfl, ?_⟩
  show BN X _ [.dat (PyData.int a_p), .dat ((pI PyData.int PyData.int) a_d), .dat (PyData.int a_m), .own ((([x1, a_d] : List (Int × Int))).map (pI PyData.int PyData.int))] _
  refine BN.cons ?_
  refine SN.whileK C h (fun (s2 : ((List (Int × Int)))) => [.dat (PyData.int a_p), .dat ((pI PyData.int PyData.int) a_d), .dat (PyData.int a_m), .own ((s2).map (pI PyData.int PyData.int))]) rfl ?_ ?_ ?_
  · intro s17 h
    show BN X _ [.dat (PyData.int a_p), .dat ((pI PyData.int PyData.int) a_d), .dat (PyData.int a_m), .own ((s17).map (pI PyData.int PyData.int))] _
    refine BN.freeze (i := 3) rfl ?_
    show BN X _ [.dat (PyData.int a_p), .dat ((pI PyData.int PyData.int) a_d), .dat (PyData.int a_m), .dat ((lI (pI PyData.int PyData.int)) s17)] _
    refine BN.cons ?_
    refine SN.ret ?_
    refine EN.slA ?_
    refine EN.var (i := 3) (d := (lI (pI PyData.int PyData.int)) s17) C rfl (by walk_at "vis") rfl ?_
    refine (show EN _ _ _ _ from ?_)
    refine EN.add ?_
    refine EN.var (i := 2) (d := PyData.int a_m) C rfl (by walk_at "vis") rfl ?_
    refine EN.int ?_
    obtain ⟨x18, ex18, h⟩ := letK_ok h
    refine AddD.xx ex18 ?_
    refine ⟨_, rfl, ?_⟩
    obtain ⟨x19, ex19, h⟩ := letK_ok h
    refine cutA_l (inj := (pI PyData.int PyData.int)) (xs := s17) ex19 ?_
    cases h
    exact hQ
  · intro s2 J5 h
    refine TN.lt ?_
    refine EN.lenO (i := 3) C rfl B.len rfl (by walk_at "vis") rfl ?_ rfl rfl
    obtain ⟨x6, ex6, h⟩ := letK_ok h
    rw [len_r (inj := (pI PyData.int PyData.int)) (xs := s2) ex6]
    refine EN.add ?_
    refine EN.var (i := 2) (d := PyData.int a_m) C rfl (by walk_at "vis") rfl ?_
    refine EN.int ?_
    obtain ⟨x7, ex7, h⟩ := letK_ok h
    refine AddD.xx ex7 ?_
    refine IbLt ?_
    exact h
  · intro s2 fin3 nx4 h
    show BN X _ [.dat (PyData.int a_p), .dat ((pI PyData.int PyData.int) a_d), .dat (PyData.int a_m), .own ((s2).map (pI PyData.int PyData.int))] _
    refine BN.cons ?_
    refine SN.app (i := 3) C rfl (by walk_at "vis") rfl ?_ rfl rfl rfl rfl rfl rfl
    refine EN.call C T_law_minus_Q_ITIIeTIIe (by omega) rfl ?_ rfl rfl
    refine AN.cons rfl ?_
    refine EN.var (i := 0) (d := PyData.int a_p) C rfl (by walk_at "vis") rfl ?_
    refine AN.cons rfl ?_
    refine EN.call C T_law_times_Q_ITIIeTIIe (by omega) rfl ?_ rfl rfl
    refine AN.cons rfl ?_
    refine EN.var (i := 0) (d := PyData.int a_p) C rfl (by walk_at "vis") rfl ?_
    refine AN.cons rfl ?_
    refine EN.var (i := 1) (d := (pI PyData.int PyData.int) a_d) C rfl (by walk_at "vis") rfl ?_
    refine AN.cons rfl ?_
    refine EN.ixO (i := 3) C rfl (by walk_at "vis") rfl (fun _ _ => rfl) ?_
    refine EN.sub ?_
    refine EN.lenO (i := 3) C rfl B.len rfl (by walk_at "vis") rfl ?_ rfl rfl
    obtain ⟨x8, ex8, h⟩ := letK_ok h
    rw [len_r (inj := (pI PyData.int PyData.int)) (xs := s2) ex8]
    refine EN.int ?_
    obtain ⟨x9, ex9, h⟩ := letK_ok h
    refine SubI.xx ex9 ?_
    obtain ⟨x10, ex10, h⟩ := callK_ok h
    refine ixO_x (inj := (pI PyData.int PyData.int)) (xs := s2) ex10 ?_
    refine AN.nil ?_
    obtain ⟨x11, ex11, h⟩ := callK_ok h
    refine ⟨_, _, _, _, rfl, ex11, ?_⟩
    refine AN.cons rfl ?_
    refine EN.ixO (i := 3) C rfl (by walk_at "vis") rfl (fun _ _ => rfl) ?_
    refine EN.sub ?_
    refine EN.lenO (i := 3) C rfl B.len rfl (by walk_at "vis") rfl ?_ rfl rfl
    obtain ⟨x12, ex12, h⟩ := letK_ok h
    rw [len_r (inj := (pI PyData.int PyData.int)) (xs := s2) ex12]
    refine EN.int ?_
    obtain ⟨x13, ex13, h⟩ := letK_ok h
    refine SubI.xx ex13 ?_
    obtain ⟨x14, ex14, h⟩ := callK_ok h
    refine ixO_x (inj := (pI PyData.int PyData.int)) (xs := s2) ex14 ?_
    refine AN.nil ?_
    obtain ⟨x15, ex15, h⟩ := callK_ok h
    refine ⟨_, _, _, _, rfl, ex15, ?_⟩
    obtain ⟨cx16, h⟩ := chkK_ok h
    obtain ⟨x16, ex16, h⟩ := letK_ok h
    refine ⟨app_c (inj := (pI PyData.int PyData.int)) cx16, ?_⟩
    rw [app_r (inj := (pI PyData.int PyData.int)) ex16]
    show BN X _ [.dat (PyData.int a_p), .dat ((pI PyData.int PyData.int) a_d), .dat (PyData.int a_m), .own ((x16).map (pI PyData.int PyData.int))] _
    refine BN.nil ?_
    exact ⟨(x16), rfl, h⟩
theorem ok_law_length_Q_ITIIe {f : Addr} {fd : FuncData} (F : Fun K "_law_length" "_law_length" s_law_length f fd) (B : Blt mg) (T_law_worth_row_Q_ITIIeI : Fd Pg w K mg base k "_law_worth_row" W_law_worth_row_Q_ITIIeI) (T_law_number_Q_II : Fd Pg w K mg base k "_law_number" W_law_number_Q_II)  : FnG Pg w K mg base (k + 1) f fd ["p", "d"] (spOf K W_law_length_Q_ITIIe) := by
  refine okFn F sc_law_length (by rintro as Q ⟨a_p, a_d, r, rfl, h, hQ⟩; rfl) ?_
  rintro X C Fx as Q ⟨a_p, a_d, r, rfl, h, hQ⟩
  unfold f_law_length_Q_ITIIe at h
  replace h := toO h
  show BN X _ [.dat (PyData.int a_p), .dat ((pI PyData.int PyData.int) a_d), .no, .no, .no] _
  refine BN.cons ?_
  refine SN.asg (i := 2) C Fx rfl (by walk_at "vis") rfl ?_
  refine EN.call C T_law_worth_row_Q_ITIIeI (by omega) rfl ?_ rfl rfl
  refine AN.cons rfl ?_
  refine EN.var (i := 0) (d := PyData.int a_p) C rfl (by walk_at "vis") rfl ?_
  refine AN.cons rfl ?_
  refine EN.var (i := 1) (d := (pI PyData.int PyData.int) a_d) C rfl (by walk_at "vis") rfl ?_
  refine AN.cons rfl ?_
  refine EN.ife ?_
  refine TN.gt ?_
  refine EN.var (i := 0) (d := PyData.int a_p) C rfl (by walk_at "vis") rfl ?_
  refine EN.int ?_
  refine IbGt ?_
  refine ⟨fun hb => ?_, fun hb => ?_⟩
  · exact dead (bK_t hb h)
  · have h := bK_f hb h
    refine EN.int ?_
    refine AN.nil ?_
    obtain ⟨x1, ex1, h⟩ := callK_ok h
    refine ⟨_, _, _, _, rfl, ex1, ?_⟩
    show BN X _ [.dat (PyData.int a_p), .dat ((pI PyData.int PyData.int) a_d), .dat ((lI (pI PyData.int PyData.int)) x1), .no, .no] _
    refine BN.cons ?_
    refine SN.asgLc (i := 4) (j := 3) C rfl rfl rfl rfl rfl (by rintro ⟨⟩ ⟨⟩; rfl) (fun _ => rfl) ?_
    refine IN.r2 C rfl B.range rfl rfl rfl rfl ?_
    refine EN.int ?_
    refine EN.add ?_
    refine EN.len C rfl B.len ?_ rfl rfl
    refine EN.var (i := 2) (d := (lI (pI PyData.int PyData.int)) x1) C rfl (by walk_at "vis") rfl ?_
    obtain ⟨x2, ex2, h⟩ := letK_ok h
    refine LenD.lx (inj := (pI PyData.int PyData.int)) (xs := x1) ex2 ?_
    refine EN.int ?_
    obtain ⟨x3, ex3, h⟩ := letK_ok h
    refine AddD.xx ex3 ?_
    obtain ⟨cx4, x4, ex4, h⟩ := rng2K_ok h
    refine ⟨_, _, rfl, rfl, cx4, ?_⟩
    rw [rng2_r ex4]
    refine lcFK_in h PyData.int PyData.int ?_ ?_ ?_
    · intro x6 J15 h Y14 CY14
      refine TN.eq CY14 ?_
      refine EN.ix (fun _ _ => rfl) ?_
      refine EN.var (i := 2) (d := (lI (pI PyData.int PyData.int)) x1) CY14 rfl (by walk_at "vis") rfl ?_
      refine EN.sub ?_
      refine EN.var (i := 4) (d := PyData.int x6) CY14 rfl (by walk_at "vis") rfl ?_
      refine EN.int ?_
      obtain ⟨x16, ex16, h⟩ := letK_ok h
      refine SubI.xx ex16 ?_
      obtain ⟨x17, ex17, h⟩ := callK_ok h
      refine IxD.lx (inj := (pI PyData.int PyData.int)) (xs := x1) ex17 ?_
      refine EN.call CY14 T_law_number_Q_II (by omega) rfl ?_ rfl rfl
      refine AN.cons rfl ?_
      refine EN.var (i := 0) (d := PyData.int a_p) CY14 rfl (by walk_at "vis") rfl ?_
      refine AN.cons rfl ?_
      refine EN.int ?_
      refine AN.nil ?_
      obtain ⟨x18, ex18, h⟩ := callK_ok h
      refine ⟨_, _, _, rfl, ex18, ?_⟩
      refine EqT.xx (inj := (pI PyData.int PyData.int)) (x := x17) (y := x18) (Ev.pair Ev.int Ev.int) (by decide) ?_
      exact h
    · intro x6 k7 h Y5 CY5
      refine EN.var (i := 4) (d := PyData.int x6) CY5 rfl (by walk_at "vis") rfl ?_
      exact ⟨_, rfl, h⟩
    · intro ys8 h
      show BN X _ [.dat (PyData.int a_p), .dat ((pI PyData.int PyData.int) a_d), .dat ((lI (pI PyData.int PyData.int)) x1), .dat ((lI PyData.int) ys8), .no] _
      refine BN.cons ?_
      refine SN.ret ?_
      refine EN.join h (oI PyData.int) ?_ ?_
      · intro J9 h
        refine EN.ife ?_
        refine TN.ne C ?_
        refine EN.var (i := 3) (d := (lI PyData.int) ys8) C rfl (by walk_at "vis") rfl ?_
        refine EN.lst ?_
        refine LN.nil ?_
        refine ⟨Nat.le_of_ble_eq_true rfl, ?_⟩
        refine NeT.xx (inj := (lI PyData.int)) (x := ys8) (y := ([] : List Int)) (Ev.list Ev.int) (by decide) ?_
        refine ⟨fun hb => ?_, fun hb => ?_⟩
        · have h := bK_t hb h
          refine EN.ix (fun _ _ => rfl) ?_
          refine EN.var (i := 3) (d := (lI PyData.int) ys8) C rfl (by walk_at "vis") rfl ?_
          refine EN.int ?_
          obtain ⟨x11, ex11, h⟩ := callK_ok h
          refine IxD.lx (inj := PyData.int) (xs := ys8) ex11 ?_
          exact ⟨(some x11), rfl, h⟩
        · have h := bK_f hb h
          refine EN.non ?_
          exact ⟨none, rfl, h⟩
      · intro x12 h
        rcases x12 with _ | x13
        · have h := optK_n h
          cases h
          exact hQ
        · have h := optK_s h
          cases h
          exact hQ
theorem ok_law_draw_far_Q_IN {f : Addr} {fd : FuncData} (F : Fun K "_law_draw_far" "_law_draw_far" s_law_draw_far f fd) (B : Blt mg) (T_law_pick : Fd Pg w K mg base k "_law_pick" W_law_pick)  : FnG Pg w K mg base (k + 1) f fd ["source", "p", "l"] (spOf K W_law_draw_far_Q_IN) := by
  refine okFn F sc_law_draw_far (by rintro as Q ⟨a_p, a_l, kk, rfl, h, hQ⟩; rfl) ?_
  rintro X C Fx as Q ⟨a_p, a_l, kk, rfl, h, hQ⟩
  unfold f_law_draw_far_Q_IN at h
  replace h := toP h
  show BN X _ [.src, .dat (PyData.int a_p), .dat (uI a_l), .no, .no, .no, .no] _
  refine BN.cons ?_
  refine SN.par2 (i := 3) (j := 4) C rfl rfl (by decide) rfl rfl (by rintro ⟨⟩ ⟨⟩; rfl) rfl ?_
  refine XA.dat rfl ?_
  refine EN.int ?_
  refine XA.dat rfl ?_
  refine EN.call C T_law_pick (by omega) rfl ?_ rfl rfl
  refine AN.src (i := 0) C rfl (by walk_at "vis") rfl rfl ?_
  refine AN.cons rfl ?_
  refine EN.int ?_
  refine AN.nil ?_
  refine ⟨_, rfl, h.1, fun x1 r0 r1 => ?_⟩
  replace h := h.2 x1 r0 r1
  replace h := toP h
  refine XA.nil ?_
  refine ⟨rfl, ?_⟩
  show BN X _ [.src, .dat (PyData.int a_p), .dat (uI a_l), .dat (PyData.int 1), .dat (PyData.int x1), .no, .no] _
  refine BN.cons ?_
  refine SN.for C (fun _ => rfl) ?_
  refine IN.r1 C rfl B.range rfl rfl ?_
  refine EN.call C T_law_pick (by omega) rfl ?_ rfl rfl
  refine AN.src (i := 0) C rfl (by walk_at "vis") rfl rfl ?_
  refine AN.cons rfl ?_
  refine EN.dix (kvs := [(0, 40), (2, 80), (3, 50), (5, 36), (7, 30), (11, 25), (13, 24)]) C (pps_cons pe_int pe_int (pps_cons pe_int pe_int (pps_cons pe_int pe_int (pps_cons pe_int pe_int (pps_cons pe_int pe_int (pps_cons pe_int pe_int (pps_cons pe_int pe_int pps_nil))))))) rfl rfl rfl (by decide) (by decide) (by decide) (fun _ _ => rfl) ?_
  refine EN.var (i := 1) (d := PyData.int a_p) C rfl (by walk_at "vis") rfl ?_
  obtain ⟨x5, ex5, h⟩ := callK_ok h
  refine ⟨_, _, rfl, ex5, ?_⟩
  refine AN.nil ?_
  refine ⟨_, rfl, h.1, fun x6 r0 r1 => ?_⟩
  replace h := h.2 x6 r0 r1
  replace h := toP h
  obtain ⟨cx7, x7, ex7, h⟩ := rng1K_ok h
  refine ⟨_, rfl, cx7.1, cx7.2, ?_⟩
  rw [rng1_r ex7]
  refine forK_in h PyData.int (fun (s2 : (Int)) => [.src, .dat (PyData.int a_p), .dat (uI a_l), .dat (PyData.int s2), .dat (PyData.int x1), .no, .no]) rfl ?_ ?_
  · intro s16 h
    show BN X _ [.src, .dat (PyData.int a_p), .dat (uI a_l), .dat (PyData.int s16), .dat (PyData.int x1), .no, .no] _
    refine BN.cons ?_
    refine SN.asg (i := 3) C Fx rfl (by walk_at "vis") rfl ?_
    refine EN.sub ?_
    refine EN.mul ?_
    refine EN.var (i := 3) (d := PyData.int s16) C rfl (by walk_at "vis") rfl ?_
    refine EN.add ?_
    refine EN.int ?_
    refine EN.call C T_law_pick (by omega) rfl ?_ rfl rfl
    refine AN.src (i := 0) C rfl (by walk_at "vis") rfl rfl ?_
    refine AN.cons rfl ?_
    refine EN.sub ?_
    refine EN.max2 C rfl B.max ?_ rfl rfl rfl
    refine EN.int ?_
    refine EN.var (i := 1) (d := PyData.int a_p) C rfl (by walk_at "vis") rfl ?_
    obtain ⟨x17, ex17, h⟩ := letK_ok h
    refine ⟨_, _, rfl, rfl, ?_⟩
    rw [max_r ex17]
    refine EN.int ?_
    obtain ⟨x18, ex18, h⟩ := letK_ok h
    refine SubI.xx ex18 ?_
    refine AN.nil ?_
    refine ⟨_, rfl, h.1, fun x19 r0 r1 => ?_⟩
    replace h := h.2 x19 r0 r1
    replace h := toP h
    obtain ⟨x20, ex20, h⟩ := letK_ok h
    refine AddD.xx ex20 ?_
    obtain ⟨cx21, x21, ex21, h⟩ := mulK_ok h
    refine MulD.xx cx21 ex21 ?_
    refine EN.int ?_
    obtain ⟨x22, ex22, h⟩ := letK_ok h
    refine SubI.xx ex22 ?_
    show BN X _ [.src, .dat (PyData.int a_p), .dat (uI a_l), .dat (PyData.int x22), .dat (PyData.int x1), .no, .no] _
    refine BN.cons ?_
    refine SN.join h (fun (s24 : (Int)) => [.src, .dat (PyData.int a_p), .dat (uI a_l), .dat (PyData.int s24), .dat (PyData.int x1), .no, .no]) ?_ ?_
    · intro J23 h
      refine SN.ife ?_
      refine TN.eq C ?_
      refine EN.var (i := 4) (d := PyData.int x1) C rfl (by walk_at "vis") rfl ?_
      refine EN.int ?_
      refine EqT.xx (inj := PyData.int) (x := x1) (y := 1) Ev.int (by decide) ?_
      refine ⟨fun hb => ?_, fun hb => ?_⟩
      · have h := bK_t hb h
        refine BN.cons ?_
        refine SN.asg (i := 6) C Fx rfl (by walk_at "vis") rfl ?_
        refine EN.add ?_
        refine EN.int ?_
        refine EN.call C T_law_pick (by omega) rfl ?_ rfl rfl
        refine AN.src (i := 0) C rfl (by walk_at "vis") rfl rfl ?_
        refine AN.cons rfl ?_
        refine EN.int ?_
        refine AN.nil ?_
        refine ⟨_, rfl, h.1, fun x25 r0 r1 => ?_⟩
        replace h := h.2 x25 r0 r1
        replace h := toP h
        obtain ⟨x26, ex26, h⟩ := letK_ok h
        refine AddD.xx ex26 ?_
        show BN X _ [.src, .dat (PyData.int a_p), .dat (uI a_l), .dat (PyData.int x22), .dat (PyData.int x1), .no, .dat (PyData.int x26)] _
        refine BN.cons ?_
        refine SN.for C (fun _ => rfl) ?_
        refine IN.r1 C rfl B.range rfl rfl ?_
        refine EN.call C T_law_pick (by omega) rfl ?_ rfl rfl
        refine AN.src (i := 0) C rfl (by walk_at "vis") rfl rfl ?_
        refine AN.cons rfl ?_
        refine EN.int ?_
        refine AN.nil ?_
        refine ⟨_, rfl, h.1, fun x30 r0 r1 => ?_⟩
        replace h := h.2 x30 r0 r1
        replace h := toP h
        obtain ⟨cx31, x31, ex31, h⟩ := rng1K_ok h
        refine ⟨_, rfl, cx31.1, cx31.2, ?_⟩
        rw [rng1_r ex31]
        refine forK_in h PyData.int (fun (s27 : (Int)) => [.src, .dat (PyData.int a_p), .dat (uI a_l), .dat (PyData.int x22), .dat (PyData.int x1), .no, .dat (PyData.int s27)]) rfl ?_ ?_
        · intro s40 h
          show BN X _ [.src, .dat (PyData.int a_p), .dat (uI a_l), .dat (PyData.int x22), .dat (PyData.int x1), .no, .dat (PyData.int s40)] _
          refine BN.cons ?_
          refine SN.asg (i := 3) C Fx rfl (by walk_at "vis") rfl ?_
          refine EN.add ?_
          refine EN.var (i := 3) (d := PyData.int x22) C rfl (by walk_at "vis") rfl ?_
          refine EN.var (i := 6) (d := PyData.int s40) C rfl (by walk_at "vis") rfl ?_
          obtain ⟨x41, ex41, h⟩ := letK_ok h
          refine AddD.xx ex41 ?_
          show BN X _ [.src, .dat (PyData.int a_p), .dat (uI a_l), .dat (PyData.int x41), .dat (PyData.int x1), .no, .dat (PyData.int s40)] _
          refine BN.wk (ρ' := [.src, .dat (PyData.int a_p), .dat (uI a_l), .dat (PyData.int x41), .dat (PyData.int x1), .no, .no]) (.eq (.eq (.eq (.eq (.eq (.eq (.no .nil))))))) ?_
          refine BN.nil ?_
          exact ⟨(x41), rfl, h⟩
        · intro x32 s27 fin28 nx29 h
          refine GN.name (i := 5) C rfl (by walk_at "vis") (Or.inl (Fx _)) ?_
          show BN X _ [.src, .dat (PyData.int a_p), .dat (uI a_l), .dat (PyData.int x22), .dat (PyData.int x1), .dat (PyData.int x32), .dat (PyData.int s27)] _
          show BN X _ [.src, .dat (PyData.int a_p), .dat (uI a_l), .dat (PyData.int x22), .dat (PyData.int x1), .dat (PyData.int x32), .dat (PyData.int s27)] _
          refine BN.cons ?_
          refine SN.asg (i := 6) C Fx rfl (by walk_at "vis") rfl ?_
          refine EN.mul ?_
          refine EN.var (i := 6) (d := PyData.int s27) C rfl (by walk_at "vis") rfl ?_
          refine EN.join h PyData.int ?_ ?_
          · intro J33 h
            refine EN.ife ?_
            refine TN.join h ?_ ?_
            · intro J36 h
              refine WN.tn ?_
              refine WN.and ?_
              refine TN.gt ?_
              refine EN.var (i := 1) (d := PyData.int a_p) C rfl (by walk_at "vis") rfl ?_
              refine EN.int ?_
              refine IbGt ?_
              refine ⟨fun hb => ?_, fun hb => ?_⟩
              · have h := bK_t hb h
                refine WN.and1 ?_
                refine TN.gt ?_
                refine EN.var (i := 5) (d := PyData.int x32) C rfl (by walk_at "vis") rfl ?_
                refine EN.int ?_
                refine IbGt ?_
                exact h
              · exact bK_f hb h
            · intro b37 h
              refine ⟨fun hb => ?_, fun hb => ?_⟩
              · have h := bK_t hb h
                refine EN.var (i := 1) (d := PyData.int a_p) C rfl (by walk_at "vis") rfl ?_
                exact ⟨a_p, rfl, h⟩
              · have h := bK_f hb h
                refine EN.ife ?_
                refine TN.notN ?_
                refine EN.var (i := 2) (d := uI a_l) C rfl (by walk_at "vis") rfl ?_
                refine tb_f rfl ?_
                refine Kt.noo ?_
                refine EN.int ?_
                exact ⟨3, rfl, h⟩
          · intro x38 h
            obtain ⟨cx39, x39, ex39, h⟩ := mulK_ok h
            refine MulD.xx cx39 ex39 ?_
            show BN X _ [.src, .dat (PyData.int a_p), .dat (uI a_l), .dat (PyData.int x22), .dat (PyData.int x1), .dat (PyData.int x32), .dat (PyData.int x39)] _
            refine BN.wk (ρ' := [.src, .dat (PyData.int a_p), .dat (uI a_l), .dat (PyData.int x22), .dat (PyData.int x1), .no, .dat (PyData.int x39)]) (.eq (.eq (.eq (.eq (.eq (.no (.eq .nil))))))) ?_
            refine BN.nil ?_
            exact ⟨(x39), rfl, h⟩
      · have h := bK_f hb h
        refine BN.nil ?_
        exact ⟨(x22), rfl, h⟩
    · intro s24 h
      show BN X _ [.src, .dat (PyData.int a_p), .dat (uI a_l), .dat (PyData.int s24), .dat (PyData.int x1), .no, .no] _
      refine BN.cons ?_
      refine SN.ret ?_
      refine EN.max2 C rfl B.max ?_ rfl rfl rfl
      refine EN.int ?_
      refine EN.join h PyData.int ?_ ?_
      · intro J42 h
        refine EN.ife ?_
        refine TN.lt ?_
        refine EN.var (i := 4) (d := PyData.int x1) C rfl (by walk_at "vis") rfl ?_
        refine EN.int ?_
        refine IbLt ?_
        refine ⟨fun hb => ?_, fun hb => ?_⟩
        · have h := bK_t hb h
          refine EN.var (i := 3) (d := PyData.int s24) C rfl (by walk_at "vis") rfl ?_
          exact ⟨s24, rfl, h⟩
        · have h := bK_f hb h
          refine EN.mul ?_
          refine EN.call C T_law_pick (by omega) rfl ?_ rfl rfl
          refine AN.src (i := 0) C rfl (by walk_at "vis") rfl rfl ?_
          refine AN.cons rfl ?_
          refine EN.pow ?_
          refine EN.int ?_
          refine EN.int ?_
          refine PowI.v (n := 1000000000000) ⟨by decide, by decide, by decide⟩ (by decide +kernel) ?_
          refine AN.nil ?_
          refine ⟨_, rfl, h.1, fun x46 r0 r1 => ?_⟩
          replace h := h.2 x46 r0 r1
          replace h := toP h
          refine EN.call C T_law_pick (by omega) rfl ?_ rfl rfl
          refine AN.src (i := 0) C rfl (by walk_at "vis") rfl rfl ?_
          refine AN.cons rfl ?_
          refine EN.pow ?_
          refine EN.int ?_
          refine EN.int ?_
          refine PowI.v (n := 1000000000000) ⟨by decide, by decide, by decide⟩ (by decide +kernel) ?_
          refine AN.nil ?_
          refine ⟨_, rfl, h.1, fun x47 r0 r1 => ?_⟩
          replace h := h.2 x47 r0 r1
          replace h := toP h
          obtain ⟨cx48, x48, ex48, h⟩ := mulK_ok h
          refine MulD.xx cx48 ex48 ?_
          exact ⟨x48, rfl, h⟩
      · intro x49 h
        obtain ⟨x50, ex50, h⟩ := letK_ok h
        refine ⟨_, _, rfl, rfl, ?_⟩
        rw [max_r ex50]
        exact hQ _ h
  · intro x8 s2 fin3 nx4 h
    refine GN.name (i := 5) C rfl (by walk_at "vis") (Or.inl (Fx _)) ?_
    show BN X _ [.src, .dat (PyData.int a_p), .dat (uI a_l), .dat (PyData.int s2), .dat (PyData.int x1), .dat (PyData.int x8), .no] _
    show BN X _ [.src, .dat (PyData.int a_p), .dat (uI a_l), .dat (PyData.int s2), .dat (PyData.int x1), .dat (PyData.int x8), .no] _
    refine BN.cons ?_
    refine SN.asg (i := 3) C Fx rfl (by walk_at "vis") rfl ?_
    refine EN.mul ?_
    refine EN.var (i := 3) (d := PyData.int s2) C rfl (by walk_at "vis") rfl ?_
    refine EN.join h PyData.int ?_ ?_
    · intro J9 h
      refine EN.ife ?_
      refine TN.join h ?_ ?_
      · intro J12 h
        refine WN.tn ?_
        refine WN.and ?_
        refine TN.gt ?_
        refine EN.var (i := 1) (d := PyData.int a_p) C rfl (by walk_at "vis") rfl ?_
        refine EN.int ?_
        refine IbGt ?_
        refine ⟨fun hb => ?_, fun hb => ?_⟩
        · have h := bK_t hb h
          refine WN.and1 ?_
          refine TN.gt ?_
          refine EN.var (i := 5) (d := PyData.int x8) C rfl (by walk_at "vis") rfl ?_
          refine EN.int ?_
          refine IbGt ?_
          exact h
        · exact bK_f hb h
      · intro b13 h
        refine ⟨fun hb => ?_, fun hb => ?_⟩
        · have h := bK_t hb h
          refine EN.var (i := 1) (d := PyData.int a_p) C rfl (by walk_at "vis") rfl ?_
          exact ⟨a_p, rfl, h⟩
        · have h := bK_f hb h
          refine EN.ife ?_
          refine TN.notN ?_
          refine EN.var (i := 2) (d := uI a_l) C rfl (by walk_at "vis") rfl ?_
          refine tb_f rfl ?_
          refine Kt.noo ?_
          refine EN.int ?_
          exact ⟨3, rfl, h⟩
    · intro x14 h
      obtain ⟨cx15, x15, ex15, h⟩ := mulK_ok h
      refine MulD.xx cx15 ex15 ?_
      show BN X _ [.src, .dat (PyData.int a_p), .dat (uI a_l), .dat (PyData.int x15), .dat (PyData.int x1), .dat (PyData.int x8), .no] _
      refine BN.wk (ρ' := [.src, .dat (PyData.int a_p), .dat (uI a_l), .dat (PyData.int x15), .dat (PyData.int x1), .no, .no]) (.eq (.eq (.eq (.eq (.eq (.no (.eq .nil))))))) ?_
      refine BN.nil ?_
      exact ⟨(x15), rfl, h⟩
theorem ok_law_digits_Q_INI {f : Addr} {fd : FuncData} (F : Fun K "_law_digits" "_law_digits" s_law_digits f fd) (B : Blt mg)   : FnG Pg w K mg base (k + 1) f fd ["p", "l", "whole"] (spOf K W_law_digits_Q_INI) := by
  refine okFn F sc_law_digits (by rintro as Q ⟨a_p, a_l, a_whole, r, rfl, h, hQ⟩; rfl) ?_
  rintro X C Fx as Q ⟨a_p, a_l, a_whole, r, rfl, h, hQ⟩
  unfold f_law_digits_Q_INI at h
  replace h := toO h
  show BN X _ [.dat (PyData.int a_p), .dat (uI a_l), .dat (PyData.int a_whole), .no, .no] _
  refine BN.cons ?_
  refine SN.ife ?_
  refine TN.isN ?_
  refine EN.var (i := 1) (d := uI a_l) C rfl (by walk_at "vis") rfl ?_
  refine tb_t rfl ?_
  refine Kt.yes ?_
  refine BN.cons ?_
  refine SN.ret ?_
  refine EN.lst ?_
  refine LN.cons rfl ?_
  refine EN.var (i := 2) (d := PyData.int a_whole) C rfl (by walk_at "vis") rfl ?_
  refine LN.nil ?_
  refine ⟨Nat.le_of_ble_eq_true rfl, ?_⟩
  cases h
  exact hQ
theorem ok_law_digits_Q_III {f : Addr} {fd : FuncData} (F : Fun K "_law_digits" "_law_digits" s_law_digits f fd) (B : Blt mg)   : FnG Pg w K mg base (k + 1) f fd ["p", "l", "whole"] (spOf K W_law_digits_Q_III) := by
  refine okFn F sc_law_digits (by rintro as Q ⟨a_p, a_l, a_whole, r, rfl, h, hQ⟩; rfl) ?_
  rintro X C Fx as Q ⟨a_p, a_l, a_whole, r, rfl, h, hQ⟩
  unfold f_law_digits_Q_III at h
  replace h := toO h
  show BN X _ [.dat (PyData.int a_p), .dat (PyData.int a_l), .dat (PyData.int a_whole), .no, .no] _
  refine BN.cons ?_
  refine SN.ife ?_
  refine TN.isN ?_
  refine EN.var (i := 1) (d := PyData.int a_l) C rfl (by walk_at "vis") rfl ?_
  refine tb_f rfl ?_
  refine Kt.noo ?_
  refine BN.nil ?_
  show BN X _ [.dat (PyData.int a_p), .dat (PyData.int a_l), .dat (PyData.int a_whole), .no, .no] _
  refine BN.cons ?_
  refine SN.par2 (i := 3) (j := 4) C rfl rfl (by decide) rfl rfl (by rintro ⟨⟩ ⟨⟩; rfl) rfl ?_
  refine XA.own rfl ?_
  refine NN.lst ?_
  refine LN.cons rfl ?_
  refine EN.mod ?_
  refine EN.var (i := 2) (d := PyData.int a_whole) C rfl (by walk_at "vis") rfl ?_
  refine EN.var (i := 1) (d := PyData.int a_l) C rfl (by walk_at "vis") rfl ?_
  obtain ⟨cx1, x1, ex1, h⟩ := modK_ok h
  refine ModI.xx cx1 ex1 ?_
  refine LN.nil ?_
  refine ⟨Nat.le_of_ble_eq_true rfl, ?_⟩
  refine XA.dat rfl ?_
  refine EN.div ?_
  refine EN.var (i := 2) (d := PyData.int a_whole) C rfl (by walk_at "vis") rfl ?_
  refine EN.var (i := 1) (d := PyData.int a_l) C rfl (by walk_at "vis") rfl ?_
  obtain ⟨cx2, x2, ex2, h⟩ := divK_ok h
  refine DivI.xx cx2 ex2 ?_
  refine XA.nil ?_
  refine ⟨rfl, ?_⟩
  show BN X _ [.dat (PyData.int a_p), .dat (PyData.int a_l), .dat (PyData.int a_whole), .own ((([x1] : List Int)).map PyData.int), .dat (PyData.int x2)] _
  refine BN.cons ?_
  refine SN.whileK C h (fun (s3 : ((List Int) × Int)) => [.dat (PyData.int a_p), .dat (PyData.int a_l), .dat (PyData.int a_whole), .own (((s3).1).map PyData.int), .dat (PyData.int (s3).2)]) rfl ?_ ?_ ?_
  · intro s8 h
    show BN X _ [.dat (PyData.int a_p), .dat (PyData.int a_l), .dat (PyData.int a_whole), .own (((s8).1).map PyData.int), .dat (PyData.int (s8).2)] _
    refine BN.freeze (i := 3) rfl ?_
    show BN X _ [.dat (PyData.int a_p), .dat (PyData.int a_l), .dat (PyData.int a_whole), .dat ((lI PyData.int) (s8).1), .dat (PyData.int (s8).2)] _
    refine BN.cons ?_
    refine SN.ret ?_
    refine EN.var (i := 3) (d := (lI PyData.int) (s8).1) C rfl (by walk_at "vis") rfl ?_
    cases h
    exact hQ
  · intro s3 J6 h
    refine TN.gt ?_
    refine EN.var (i := 4) (d := PyData.int (s3).2) C rfl (by walk_at "vis") rfl ?_
    refine EN.int ?_
    refine IbGt ?_
    exact h
  · intro s3 fin4 nx5 h
    show BN X _ [.dat (PyData.int a_p), .dat (PyData.int a_l), .dat (PyData.int a_whole), .own (((s3).1).map PyData.int), .dat (PyData.int (s3).2)] _
    refine BN.cons ?_
    refine SN.app (i := 3) C rfl (by walk_at "vis") rfl ?_ rfl rfl rfl rfl rfl rfl
    refine EN.ife ?_
    refine TN.gt ?_
    refine EN.var (i := 0) (d := PyData.int a_p) C rfl (by walk_at "vis") rfl ?_
    refine EN.int ?_
    refine IbGt ?_
    refine ⟨fun hb => ?_, fun hb => ?_⟩
    · exact dead (bK_t hb h)
    · have h := bK_f hb h
      refine EN.var (i := 4) (d := PyData.int (s3).2) C rfl (by walk_at "vis") rfl ?_
      obtain ⟨cx7, h⟩ := chkK_ok h
      obtain ⟨x7, ex7, h⟩ := letK_ok h
      refine ⟨app_c (inj := PyData.int) cx7, ?_⟩
      rw [app_r (inj := PyData.int) ex7]
      show BN X _ [.dat (PyData.int a_p), .dat (PyData.int a_l), .dat (PyData.int a_whole), .own ((x7).map PyData.int), .dat (PyData.int (s3).2)] _
      refine BN.cons ?_
      refine SN.asg (i := 4) C Fx rfl (by walk_at "vis") rfl ?_
      refine EN.ife ?_
      refine TN.gt ?_
      refine EN.var (i := 0) (d := PyData.int a_p) C rfl (by walk_at "vis") rfl ?_
      refine EN.int ?_
      refine IbGt ?_
      refine ⟨fun hb => ?_, fun hb => ?_⟩
      · exact dead (bK_t hb h)
      · have h := bK_f hb h
        refine EN.int ?_
        show BN X _ [.dat (PyData.int a_p), .dat (PyData.int a_l), .dat (PyData.int a_whole), .own ((x7).map PyData.int), .dat (PyData.int 0)] _
        refine BN.nil ?_
        exact ⟨(x7, 0), rfl, h⟩
theorem ok_law_digits_Q_INI_or_law_digits_Q_III {f : Addr} {fd : FuncData} (F : Fun K "_law_digits" "_law_digits" s_law_digits f fd) (B : Blt mg)   : FnG Pg w K mg base (k + 1) f fd ["p", "l", "whole"] (spOf K W_law_digits_Q_INI_or_law_digits_Q_III) := FnG.or (ok_law_digits_Q_INI F B ) (ok_law_digits_Q_III F B )
theorem ok_law_has_middle_Q_ITIIeI {f : Addr} {fd : FuncData} (F : Fun K "_law_has_middle" "_law_has_middle" s_law_has_middle f fd) (B : Blt mg) (T_law_length_Q_ITIIe : Fd Pg w K mg base k "_law_length" W_law_length_Q_ITIIe) (T_law_digits_Q_INI_or_law_digits_Q_III : Fd Pg w K mg base k "_law_digits" W_law_digits_Q_INI_or_law_digits_Q_III)  : FnG Pg w K mg base (k + 1) f fd ["p", "d", "n"] (spOf K W_law_has_middle_Q_ITIIeI) := by
  refine okFn F sc_law_has_middle (by rintro as Q ⟨a_p, a_d, a_n, r, rfl, h, hQ⟩; rfl) ?_
  rintro X C Fx as Q ⟨a_p, a_d, a_n, r, rfl, h, hQ⟩
  unfold f_law_has_middle_Q_ITIIeI at h
  replace h := toO h
  show BN X _ [.dat (PyData.int a_p), .dat ((pI PyData.int PyData.int) a_d), .dat (PyData.int a_n), .no] _
  refine BN.cons ?_
  refine SN.ret ?_
  refine EN.eq C ?_
  refine EN.len C rfl B.len ?_ rfl rfl
  refine EN.lc (i := 3) C rfl rfl rfl (fun _ => rfl) ?_
  refine IN.seq ?_
  refine EN.call C T_law_digits_Q_INI_or_law_digits_Q_III (by omega) rfl ?_ rfl rfl
  refine AN.cons rfl ?_
  refine EN.var (i := 0) (d := PyData.int a_p) C rfl (by walk_at "vis") rfl ?_
  refine AN.cons rfl ?_
  refine EN.call C T_law_length_Q_ITIIe (by omega) rfl ?_ rfl rfl
  refine AN.cons rfl ?_
  refine EN.var (i := 0) (d := PyData.int a_p) C rfl (by walk_at "vis") rfl ?_
  refine AN.cons rfl ?_
  refine EN.var (i := 1) (d := (pI PyData.int PyData.int) a_d) C rfl (by walk_at "vis") rfl ?_
  refine AN.nil ?_
  obtain ⟨x1, ex1, h⟩ := callK_ok h
  refine ⟨_, _, _, rfl, ex1, ?_⟩
  rcases x1 with _ | x2
  · have h := optK_n h
    refine AN.cons rfl ?_
    refine EN.add ?_
    refine EN.var (i := 2) (d := PyData.int a_n) C rfl (by walk_at "vis") rfl ?_
    refine EN.int ?_
    obtain ⟨x3, ex3, h⟩ := letK_ok h
    refine AddD.xx ex3 ?_
    refine AN.nil ?_
    obtain ⟨x4, ex4, h⟩ := callK_ok h
    refine Or.inl ⟨_, _, _, _, rfl, ex4, ?_⟩
    refine SeqD.l ?_
    refine lcFK_in h PyData.int PyData.int ?_ ?_ ?_
    · intro x6 J11 h Y10 CY10
      refine TN.ne CY10 ?_
      refine EN.var (i := 3) (d := PyData.int x6) CY10 rfl (by walk_at "vis") rfl ?_
      refine EN.int ?_
      refine NeT.xx (inj := PyData.int) (x := x6) (y := 0) Ev.int (by decide) ?_
      exact h
    · intro x6 k7 h Y5 CY5
      refine EN.var (i := 3) (d := PyData.int x6) CY5 rfl (by walk_at "vis") rfl ?_
      exact ⟨_, rfl, h⟩
    · intro ys8 h
      obtain ⟨x9, ex9, h⟩ := letK_ok h
      refine LenD.lx (inj := PyData.int) (xs := ys8) ex9 ?_
      refine EN.int ?_
      refine EqD.xx (inj := PyData.int) (x := x9) (y := 1) Ev.int (by decide) ?_
      cases h
      exact hQ
  · have h := optK_s h
    refine AN.cons rfl ?_
    refine EN.add ?_
    refine EN.var (i := 2) (d := PyData.int a_n) C rfl (by walk_at "vis") rfl ?_
    refine EN.int ?_
    obtain ⟨x12, ex12, h⟩ := letK_ok h
    refine AddD.xx ex12 ?_
    refine AN.nil ?_
    obtain ⟨x13, ex13, h⟩ := callK_ok h
    refine Or.inr ⟨_, _, _, _, rfl, ex13, ?_⟩
    refine SeqD.l ?_
    refine lcFK_in h PyData.int PyData.int ?_ ?_ ?_
    · intro x15 J20 h Y19 CY19
      refine TN.ne CY19 ?_
      refine EN.var (i := 3) (d := PyData.int x15) CY19 rfl (by walk_at "vis") rfl ?_
      refine EN.int ?_
      refine NeT.xx (inj := PyData.int) (x := x15) (y := 0) Ev.int (by decide) ?_
      exact h
    · intro x15 k16 h Y14 CY14
      refine EN.var (i := 3) (d := PyData.int x15) CY14 rfl (by walk_at "vis") rfl ?_
      exact ⟨_, rfl, h⟩
    · intro ys17 h
      obtain ⟨x18, ex18, h⟩ := letK_ok h
      refine LenD.lx (inj := PyData.int) (xs := ys17) ex18 ?_
      refine EN.int ?_
      refine EqD.xx (inj := PyData.int) (x := x18) (y := 1) Ev.int (by decide) ?_
      cases h
      exact hQ
theorem ok_number_Q_II {f : Addr} {fd : FuncData} (F : Fun K "number" "number" s_number f fd) (B : Blt mg)   : FnG Pg w K mg base (k + 1) f fd ["p", "n"] (spOf K W_number_Q_II) := by
  refine okFn F sc_number (by rintro as Q ⟨a_p, a_n, r, rfl, h, hQ⟩; rfl) ?_
  rintro X C Fx as Q ⟨a_p, a_n, r, rfl, h, hQ⟩
  unfold f_number_Q_II at h
  replace h := toO h
  show BN X _ [.dat (PyData.int a_p), .dat (PyData.int a_n)] _
  refine BN.cons ?_
  refine SN.ife ?_
  refine TN.eq C ?_
  refine EN.var (i := 0) (d := PyData.int a_p) C rfl (by walk_at "vis") rfl ?_
  refine EN.int ?_
  refine EqT.xx (inj := PyData.int) (x := a_p) (y := 0) Ev.int (by decide) ?_
  refine ⟨fun hb => ?_, fun hb => ?_⟩
  · have h := bK_t hb h
    refine BN.cons ?_
    refine SN.ret ?_
    refine EN.tup ?_
    refine LN.cons rfl ?_
    refine EN.var (i := 1) (d := PyData.int a_n) C rfl (by walk_at "vis") rfl ?_
    refine LN.cons rfl ?_
    refine EN.int ?_
    refine LN.nil ?_
    refine ⟨Nat.le_of_ble_eq_true rfl, ?_⟩
    cases h
    exact hQ
  · exact dead (bK_f hb h)
theorem ok_shortened_II {f : Addr} {fd : FuncData} (F : Fun K "_shortened" "_shortened" s_shortened f fd) (B : Blt mg)  (T_gcd : mg "gcd" = some (.builtin "math.gcd")) : FnG Pg w K mg base (k + 1) f fd ["u", "e"] (spOf K W_shortened_II) := by
  refine okFn F sc_shortened (by rintro as Q ⟨a_u, a_e, r, rfl, h, hQ⟩; rfl) ?_
  rintro X C Fx as Q ⟨a_u, a_e, r, rfl, h, hQ⟩
  unfold f_shortened_II at h
  replace h := toO h
  show BN X _ [.dat (PyData.int a_u), .dat (PyData.int a_e), .no] _
  refine BN.cons ?_
  refine SN.asg (i := 2) C Fx rfl (by walk_at "vis") rfl ?_
  refine EN.gcdI C rfl T_gcd (by decide) ?_ rfl rfl rfl
  refine EN.var (i := 0) (d := PyData.int a_u) C rfl (by walk_at "vis") rfl ?_
  refine EN.var (i := 1) (d := PyData.int a_e) C rfl (by walk_at "vis") rfl ?_
  obtain ⟨x1, ex1, h⟩ := letK_ok h
  refine ⟨_, _, rfl, rfl, ?_⟩
  rw [gcd_r ex1]
  show BN X _ [.dat (PyData.int a_u), .dat (PyData.int a_e), .dat (PyData.int x1)] _
  refine BN.cons ?_
  refine SN.join h (fun (s3 : (Int)) => [.dat (PyData.int a_u), .dat (PyData.int a_e), .dat (PyData.int s3)]) ?_ ?_
  · intro J2 h
    refine SN.ife ?_
    refine TN.lt ?_
    refine EN.var (i := 1) (d := PyData.int a_e) C rfl (by walk_at "vis") rfl ?_
    refine EN.int ?_
    refine IbLt ?_
    refine ⟨fun hb => ?_, fun hb => ?_⟩
    · have h := bK_t hb h
      refine BN.cons ?_
      refine SN.asg (i := 2) C Fx rfl (by walk_at "vis") rfl ?_
      refine EN.neg ?_
      refine EN.var (i := 2) (d := PyData.int x1) C rfl (by walk_at "vis") rfl ?_
      obtain ⟨x4, ex4, h⟩ := letK_ok h
      refine ⟨_, rfl, ?_⟩
      rw [neg_r ex4]
      show BN X _ [.dat (PyData.int a_u), .dat (PyData.int a_e), .dat (PyData.int x4)] _
      refine BN.nil ?_
      exact ⟨(x4), rfl, h⟩
    · have h := bK_f hb h
      refine BN.nil ?_
      exact ⟨(x1), rfl, h⟩
  · intro s3 h
    show BN X _ [.dat (PyData.int a_u), .dat (PyData.int a_e), .dat (PyData.int s3)] _
    refine BN.cons ?_
    refine SN.ret ?_
    refine EN.tup ?_
    refine LN.cons rfl ?_
    refine EN.div ?_
    refine EN.var (i := 0) (d := PyData.int a_u) C rfl (by walk_at "vis") rfl ?_
    refine EN.var (i := 2) (d := PyData.int s3) C rfl (by walk_at "vis") rfl ?_
    obtain ⟨cx5, x5, ex5, h⟩ := divK_ok h
    refine DivI.xx cx5 ex5 ?_
    refine LN.cons rfl ?_
    refine EN.div ?_
    refine EN.var (i := 1) (d := PyData.int a_e) C rfl (by walk_at "vis") rfl ?_
    refine EN.var (i := 2) (d := PyData.int s3) C rfl (by walk_at "vis") rfl ?_
    obtain ⟨cx6, x6, ex6, h⟩ := divK_ok h
    refine DivI.xx cx6 ex6 ?_
    refine LN.nil ?_
    refine ⟨Nat.le_of_ble_eq_true rfl, ?_⟩
    cases h
    exact hQ
theorem ok_times_Q_ITIIeTIIe {f : Addr} {fd : FuncData} (F : Fun K "times" "times" s_times f fd) (B : Blt mg) (T_shortened_II : Fd Pg w K mg base k "_shortened" W_shortened_II)  : FnG Pg w K mg base (k + 1) f fd ["p", "x", "y"] (spOf K W_times_Q_ITIIeTIIe) := by
  refine okFn F sc_times (by rintro as Q ⟨a_p, a_x, a_y, r, rfl, h, hQ⟩; rfl) ?_
  rintro X C Fx as Q ⟨a_p, a_x, a_y, r, rfl, h, hQ⟩
  unfold f_times_Q_ITIIeTIIe at h
  replace h := toO h
  show BN X _ [.dat (PyData.int a_p), .dat ((pI PyData.int PyData.int) a_x), .dat ((pI PyData.int PyData.int) a_y), .no, .no, .no, .no] _
  refine BN.cons ?_
  refine SN.ife ?_
  refine TN.eq C ?_
  refine EN.var (i := 0) (d := PyData.int a_p) C rfl (by walk_at "vis") rfl ?_
  refine EN.int ?_
  refine EqT.xx (inj := PyData.int) (x := a_p) (y := 0) Ev.int (by decide) ?_
  refine ⟨fun hb => ?_, fun hb => ?_⟩
  · have h := bK_t hb h
    refine BN.cons ?_
    refine SN.asgT C rfl (by rintro ⟨⟩ ⟨⟩; rfl) rfl ?_
    refine EN.tup ?_
    refine LN.cons rfl ?_
    refine EN.var (i := 1) (d := (pI PyData.int PyData.int) a_x) C rfl (by walk_at "vis") rfl ?_
    refine LN.cons rfl ?_
    refine EN.var (i := 2) (d := (pI PyData.int PyData.int) a_y) C rfl (by walk_at "vis") rfl ?_
    refine LN.nil ?_
    refine ⟨Nat.le_of_ble_eq_true rfl, ?_⟩
    refine GN.tup C rfl rfl rfl ?_
    refine GNs.cons rfl ?_
    refine GN.tup C rfl rfl rfl ?_
    refine GNs.cons rfl ?_
    refine GN.name (i := 3) C rfl (by walk_at "vis") (Or.inl (Fx _)) ?_
    refine GNs.cons rfl ?_
    refine GN.name (i := 4) C rfl (by walk_at "vis") (Or.inl (Fx _)) ?_
    refine GNs.nil ?_
    refine GNs.cons rfl ?_
    refine GN.tup C rfl rfl rfl ?_
    refine GNs.cons rfl ?_
    refine GN.name (i := 5) C rfl (by walk_at "vis") (Or.inl (Fx _)) ?_
    refine GNs.cons rfl ?_
    refine GN.name (i := 6) C rfl (by walk_at "vis") (Or.inl (Fx _)) ?_
    refine GNs.nil ?_
    refine GNs.nil ?_
    show BN X _ [.dat (PyData.int a_p), .dat ((pI PyData.int PyData.int) a_x), .dat ((pI PyData.int PyData.int) a_y), .dat (PyData.int (a_x).1), .dat (PyData.int (a_x).2), .dat (PyData.int (a_y).1), .dat (PyData.int (a_y).2)] _
    refine BN.cons ?_
    refine SN.ret ?_
    refine EN.call C T_shortened_II (by omega) rfl ?_ rfl rfl
    refine AN.cons rfl ?_
    refine EN.mul ?_
    refine EN.var (i := 3) (d := PyData.int (a_x).1) C rfl (by walk_at "vis") rfl ?_
    refine EN.var (i := 5) (d := PyData.int (a_y).1) C rfl (by walk_at "vis") rfl ?_
    obtain ⟨cx1, x1, ex1, h⟩ := mulK_ok h
    refine MulD.xx cx1 ex1 ?_
    refine AN.cons rfl ?_
    refine EN.mul ?_
    refine EN.var (i := 4) (d := PyData.int (a_x).2) C rfl (by walk_at "vis") rfl ?_
    refine EN.var (i := 6) (d := PyData.int (a_y).2) C rfl (by walk_at "vis") rfl ?_
    obtain ⟨cx2, x2, ex2, h⟩ := mulK_ok h
    refine MulD.xx cx2 ex2 ?_
    refine AN.nil ?_
    obtain ⟨x3, ex3, h⟩ := callK_ok h
    refine ⟨_, _, _, rfl, ex3, ?_⟩
    cases h
    exact hQ
  · exact dead (bK_f hb h)
theorem ok_minus_Q_ITIIeTIIe {f : Addr} {fd : FuncData} (F : Fun K "minus" "minus" s_minus f fd) (B : Blt mg) (T_shortened_II : Fd Pg w K mg base k "_shortened" W_shortened_II)  : FnG Pg w K mg base (k + 1) f fd ["p", "x", "y"] (spOf K W_minus_Q_ITIIeTIIe) := by
  refine okFn F sc_minus (by rintro as Q ⟨a_p, a_x, a_y, r, rfl, h, hQ⟩; rfl) ?_
  rintro X C Fx as Q ⟨a_p, a_x, a_y, r, rfl, h, hQ⟩
  unfold f_minus_Q_ITIIeTIIe at h
  replace h := toO h
  show BN X _ [.dat (PyData.int a_p), .dat ((pI PyData.int PyData.int) a_x), .dat ((pI PyData.int PyData.int) a_y), .no, .no, .no, .no] _
  refine BN.cons ?_
  refine SN.ife ?_
  refine TN.eq C ?_
  refine EN.var (i := 0) (d := PyData.int a_p) C rfl (by walk_at "vis") rfl ?_
  refine EN.int ?_
  refine EqT.xx (inj := PyData.int) (x := a_p) (y := 0) Ev.int (by decide) ?_
  refine ⟨fun hb => ?_, fun hb => ?_⟩
  · have h := bK_t hb h
    refine BN.cons ?_
    refine SN.asgT C rfl (by rintro ⟨⟩ ⟨⟩; rfl) rfl ?_
    refine EN.tup ?_
    refine LN.cons rfl ?_
    refine EN.var (i := 1) (d := (pI PyData.int PyData.int) a_x) C rfl (by walk_at "vis") rfl ?_
    refine LN.cons rfl ?_
    refine EN.var (i := 2) (d := (pI PyData.int PyData.int) a_y) C rfl (by walk_at "vis") rfl ?_
    refine LN.nil ?_
    refine ⟨Nat.le_of_ble_eq_true rfl, ?_⟩
    refine GN.tup C rfl rfl rfl ?_
    refine GNs.cons rfl ?_
    refine GN.tup C rfl rfl rfl ?_
    refine GNs.cons rfl ?_
    refine GN.name (i := 3) C rfl (by walk_at "vis") (Or.inl (Fx _)) ?_
    refine GNs.cons rfl ?_
    refine GN.name (i := 4) C rfl (by walk_at "vis") (Or.inl (Fx _)) ?_
    refine GNs.nil ?_
    refine GNs.cons rfl ?_
    refine GN.tup C rfl rfl rfl ?_
    refine GNs.cons rfl ?_
    refine GN.name (i := 5) C rfl (by walk_at "vis") (Or.inl (Fx _)) ?_
    refine GNs.cons rfl ?_
    refine GN.name (i := 6) C rfl (by walk_at "vis") (Or.inl (Fx _)) ?_
    refine GNs.nil ?_
    refine GNs.nil ?_
    show BN X _ [.dat (PyData.int a_p), .dat ((pI PyData.int PyData.int) a_x), .dat ((pI PyData.int PyData.int) a_y), .dat (PyData.int (a_x).1), .dat (PyData.int (a_x).2), .dat (PyData.int (a_y).1), .dat (PyData.int (a_y).2)] _
    refine BN.cons ?_
    refine SN.ret ?_
    refine EN.call C T_shortened_II (by omega) rfl ?_ rfl rfl
    refine AN.cons rfl ?_
    refine EN.sub ?_
    refine EN.mul ?_
    refine EN.var (i := 3) (d := PyData.int (a_x).1) C rfl (by walk_at "vis") rfl ?_
    refine EN.var (i := 6) (d := PyData.int (a_y).2) C rfl (by walk_at "vis") rfl ?_
    obtain ⟨cx1, x1, ex1, h⟩ := mulK_ok h
    refine MulD.xx cx1 ex1 ?_
    refine EN.mul ?_
    refine EN.var (i := 5) (d := PyData.int (a_y).1) C rfl (by walk_at "vis") rfl ?_
    refine EN.var (i := 4) (d := PyData.int (a_x).2) C rfl (by walk_at "vis") rfl ?_
    obtain ⟨cx2, x2, ex2, h⟩ := mulK_ok h
    refine MulD.xx cx2 ex2 ?_
    obtain ⟨x3, ex3, h⟩ := letK_ok h
    refine SubI.xx ex3 ?_
    refine AN.cons rfl ?_
    refine EN.mul ?_
    refine EN.var (i := 4) (d := PyData.int (a_x).2) C rfl (by walk_at "vis") rfl ?_
    refine EN.var (i := 6) (d := PyData.int (a_y).2) C rfl (by walk_at "vis") rfl ?_
    obtain ⟨cx4, x4, ex4, h⟩ := mulK_ok h
    refine MulD.xx cx4 ex4 ?_
    refine AN.nil ?_
    obtain ⟨x5, ex5, h⟩ := callK_ok h
    refine ⟨_, _, _, rfl, ex5, ?_⟩
    cases h
    exact hQ
  · exact dead (bK_f hb h)
theorem ok_worth_row_Q_ITIIeI {f : Addr} {fd : FuncData} (F : Fun K "worth_row" "worth_row" s_worth_row f fd) (B : Blt mg) (T_number_Q_II : Fd Pg w K mg base k "number" W_number_Q_II) (T_times_Q_ITIIeTIIe : Fd Pg w K mg base k "times" W_times_Q_ITIIeTIIe) (T_minus_Q_ITIIeTIIe : Fd Pg w K mg base k "minus" W_minus_Q_ITIIeTIIe)  : FnG Pg w K mg base (k + 1) f fd ["p", "d", "m"] (spOf K W_worth_row_Q_ITIIeI) := by
  refine okFn F sc_worth_row (by rintro as Q ⟨a_p, a_d, a_m, r, rfl, h, hQ⟩; rfl) ?_
  rintro X C Fx as Q ⟨a_p, a_d, a_m, r, rfl, h, hQ⟩
  unfold f_worth_row_Q_ITIIeI at h
  replace h := toO h
  show BN X _ [.dat (PyData.int a_p), .dat ((pI PyData.int PyData.int) a_d), .dat (PyData.int a_m), .no] _
  refine BN.cons ?_
  refine SN.asgN (i := 3) C Fx rfl (by walk_at "vis") (by rintro ⟨⟩ ⟨⟩; rfl) ?_
  refine NN.lst ?_
  refine LN.cons rfl ?_
  refine EN.call C T_number_Q_II (by omega) rfl ?_ rfl rfl
  refine AN.cons rfl ?_
  refine EN.var (i := 0) (d := PyData.int a_p) C rfl (by walk_at "vis") rfl ?_
  refine AN.cons rfl ?_
  refine EN.int ?_
  refine AN.nil ?_
  obtain ⟨x1, ex1, h⟩ := callK_ok h
  refine ⟨_, _, _, rfl, ex1, ?_⟩
  refine LN.cons rfl ?_
  refine EN.var (i := 1) (d := (pI PyData.int PyData.int) a_d) C rfl (by walk_at "vis") rfl ?_
  refine LN.nil ?_
  refine ⟨Nat.le_of_ble_eq_true rfl, ?_⟩
  show BN X _ [.dat (PyData.int a_p), .dat ((pI PyData.int PyData.int) a_d), .dat (PyData.int a_m), .own ((([x1, a_d] : List (Int × Int))).map (pI PyData.int PyData.int))] _
  refine BN.cons ?_
  refine SN.whileK C h (fun (s2 : ((List (Int × Int)))) => [.dat (PyData.int a_p), .dat ((pI PyData.int PyData.int) a_d), .dat (PyData.int a_m), .own ((s2).map (pI PyData.int PyData.int))]) rfl ?_ ?_ ?_
  · intro s14 h
    show BN X _ [.dat (PyData.int a_p), .dat ((pI PyData.int PyData.int) a_d), .dat (PyData.int a_m), .own ((s14).map (pI PyData.int PyData.int))] _
    refine BN.freeze (i := 3) rfl ?_
    show BN X _ [.dat (PyData.int a_p), .dat ((pI PyData.int PyData.int) a_d), .dat (PyData.int a_m), .dat ((lI (pI PyData.int PyData.int)) s14)] _
    refine BN.cons ?_
    refine SN.ret ?_
    refine EN.slA ?_
    refine EN.var (i := 3) (d := (lI (pI PyData.int PyData.int)) s14) C rfl (by walk_at "vis") rfl ?_
    refine (show EN _ _ _ _ from ?_)
    refine EN.add ?_
    refine EN.var (i := 2) (d := PyData.int a_m) C rfl (by walk_at "vis") rfl ?_
    refine EN.int ?_
    obtain ⟨x15, ex15, h⟩ := letK_ok h
    refine AddD.xx ex15 ?_
    refine ⟨_, rfl, ?_⟩
    obtain ⟨x16, ex16, h⟩ := letK_ok h
    refine cutA_l (inj := (pI PyData.int PyData.int)) (xs := s14) ex16 ?_
    cases h
    exact hQ
  · intro s2 J5 h
    refine TN.le ?_
    refine EN.lenO (i := 3) C rfl B.len rfl (by walk_at "vis") rfl ?_ rfl rfl
    obtain ⟨x6, ex6, h⟩ := letK_ok h
    rw [len_r (inj := (pI PyData.int PyData.int)) (xs := s2) ex6]
    refine EN.var (i := 2) (d := PyData.int a_m) C rfl (by walk_at "vis") rfl ?_
    refine IbLe ?_
    exact h
  · intro s2 fin3 nx4 h
    show BN X _ [.dat (PyData.int a_p), .dat ((pI PyData.int PyData.int) a_d), .dat (PyData.int a_m), .own ((s2).map (pI PyData.int PyData.int))] _
    refine BN.cons ?_
    refine SN.app (i := 3) C rfl (by walk_at "vis") rfl ?_ rfl rfl rfl rfl rfl rfl
    refine EN.call C T_minus_Q_ITIIeTIIe (by omega) rfl ?_ rfl rfl
    refine AN.cons rfl ?_
    refine EN.var (i := 0) (d := PyData.int a_p) C rfl (by walk_at "vis") rfl ?_
    refine AN.cons rfl ?_
    refine EN.call C T_times_Q_ITIIeTIIe (by omega) rfl ?_ rfl rfl
    refine AN.cons rfl ?_
    refine EN.var (i := 0) (d := PyData.int a_p) C rfl (by walk_at "vis") rfl ?_
    refine AN.cons rfl ?_
    refine EN.var (i := 1) (d := (pI PyData.int PyData.int) a_d) C rfl (by walk_at "vis") rfl ?_
    refine AN.cons rfl ?_
    refine EN.ixO (i := 3) C rfl (by walk_at "vis") rfl (fun _ _ => rfl) ?_
    refine EN.neg ?_
    refine EN.int ?_
    obtain ⟨x7, ex7, h⟩ := letK_ok h
    refine ⟨_, rfl, ?_⟩
    rw [neg_r ex7]
    obtain ⟨x8, ex8, h⟩ := callK_ok h
    refine ixO_x (inj := (pI PyData.int PyData.int)) (xs := s2) ex8 ?_
    refine AN.nil ?_
    obtain ⟨x9, ex9, h⟩ := callK_ok h
    refine ⟨_, _, _, _, rfl, ex9, ?_⟩
    refine AN.cons rfl ?_
    refine EN.ixO (i := 3) C rfl (by walk_at "vis") rfl (fun _ _ => rfl) ?_
    refine EN.neg ?_
    refine EN.int ?_
    obtain ⟨x10, ex10, h⟩ := letK_ok h
    refine ⟨_, rfl, ?_⟩
    rw [neg_r ex10]
    obtain ⟨x11, ex11, h⟩ := callK_ok h
    refine ixO_x (inj := (pI PyData.int PyData.int)) (xs := s2) ex11 ?_
    refine AN.nil ?_
    obtain ⟨x12, ex12, h⟩ := callK_ok h
    refine ⟨_, _, _, _, rfl, ex12, ?_⟩
    obtain ⟨cx13, h⟩ := chkK_ok h
    obtain ⟨x13, ex13, h⟩ := letK_ok h
    refine ⟨app_c (inj := (pI PyData.int PyData.int)) cx13, ?_⟩
    rw [app_r (inj := (pI PyData.int PyData.int)) ex13]
    show BN X _ [.dat (PyData.int a_p), .dat ((pI PyData.int PyData.int) a_d), .dat (PyData.int a_m), .own ((x13).map (pI PyData.int PyData.int))] _
    refine BN.nil ?_
    exact ⟨(x13), rfl, h⟩
theorem ok_length_Q_ITIIe {f : Addr} {fd : FuncData} (F : Fun K "length" "length" s_length f fd) (B : Blt mg) (T_worth_row_Q_ITIIeI : Fd Pg w K mg base k "worth_row" W_worth_row_Q_ITIIeI) (T_number_Q_II : Fd Pg w K mg base k "number" W_number_Q_II)  : FnG Pg w K mg base (k + 1) f fd ["p", "d"] (spOf K W_length_Q_ITIIe) := by
  refine okFn F sc_length (by rintro as Q ⟨a_p, a_d, r, rfl, h, hQ⟩; rfl) ?_
  rintro X C Fx as Q ⟨a_p, a_d, r, rfl, h, hQ⟩
  unfold f_length_Q_ITIIe at h
  replace h := toO h
  show BN X _ [.dat (PyData.int a_p), .dat ((pI PyData.int PyData.int) a_d), .no, .no, .no] _
  refine BN.cons ?_
  refine SN.asg (i := 2) C Fx rfl (by walk_at "vis") rfl ?_
  refine EN.ife ?_
  refine TN.trI (fun _ => rfl) ?_
  refine EN.var (i := 0) (d := PyData.int a_p) C rfl (by walk_at "vis") rfl ?_
  refine ⟨_, rfl, ?_⟩
  refine tr_x ?_
  refine ⟨fun hb => ?_, fun hb => ?_⟩
  · exact dead (bK_t hb h)
  · have h := bK_f hb h
    refine EN.int ?_
    show BN X _ [.dat (PyData.int a_p), .dat ((pI PyData.int PyData.int) a_d), .dat (PyData.int 3), .no, .no] _
    refine BN.cons ?_
    refine SN.asg (i := 3) C Fx rfl (by walk_at "vis") rfl ?_
    refine EN.call C T_worth_row_Q_ITIIeI (by omega) rfl ?_ rfl rfl
    refine AN.cons rfl ?_
    refine EN.var (i := 0) (d := PyData.int a_p) C rfl (by walk_at "vis") rfl ?_
    refine AN.cons rfl ?_
    refine EN.var (i := 1) (d := (pI PyData.int PyData.int) a_d) C rfl (by walk_at "vis") rfl ?_
    refine AN.cons rfl ?_
    refine EN.sub ?_
    refine EN.var (i := 2) (d := PyData.int 3) C rfl (by walk_at "vis") rfl ?_
    refine EN.int ?_
    obtain ⟨x1, ex1, h⟩ := letK_ok h
    refine SubI.xx ex1 ?_
    refine AN.nil ?_
    obtain ⟨x2, ex2, h⟩ := callK_ok h
    refine ⟨_, _, _, _, rfl, ex2, ?_⟩
    show BN X _ [.dat (PyData.int a_p), .dat ((pI PyData.int PyData.int) a_d), .dat (PyData.int 3), .dat ((lI (pI PyData.int PyData.int)) x2), .no] _
    refine BN.cons ?_
    refine SN.asg (i := 4) C Fx rfl (by walk_at "vis") rfl ?_
    refine EN.call C T_number_Q_II (by omega) rfl ?_ rfl rfl
    refine AN.cons rfl ?_
    refine EN.var (i := 0) (d := PyData.int a_p) C rfl (by walk_at "vis") rfl ?_
    refine AN.cons rfl ?_
    refine EN.int ?_
    refine AN.nil ?_
    obtain ⟨x3, ex3, h⟩ := callK_ok h
    refine ⟨_, _, _, rfl, ex3, ?_⟩
    show BN X _ [.dat (PyData.int a_p), .dat ((pI PyData.int PyData.int) a_d), .dat (PyData.int 3), .dat ((lI (pI PyData.int PyData.int)) x2), .dat ((pI PyData.int PyData.int) x3)] _
    refine BN.cons ?_
    refine SN.ret ?_
    refine EN.join h (oI PyData.int) ?_ ?_
    · intro J4 h
      refine EN.ife ?_
      refine TN.inL C rfl ?_
      refine EN.var (i := 4) (d := (pI PyData.int PyData.int) x3) C rfl (by walk_at "vis") rfl ?_
      refine EN.var (i := 3) (d := (lI (pI PyData.int PyData.int)) x2) C rfl (by walk_at "vis") rfl ?_
      refine InD.xx (inj := (pI PyData.int PyData.int)) (x := x3) (xs := x2) (Ev.pair Ev.int Ev.int) (by decide) ?_
      refine ⟨fun hb => ?_, fun hb => ?_⟩
      · have h := bK_t hb h
        refine EN.add ?_
        refine EN.index C ?_ rfl rfl rfl rfl rfl
        refine EN.var (i := 3) (d := (lI (pI PyData.int PyData.int)) x2) C rfl (by walk_at "vis") rfl ?_
        refine ⟨_, rfl, ?_⟩
        refine EN.var (i := 4) (d := (pI PyData.int PyData.int) x3) C rfl (by walk_at "vis") rfl ?_
        obtain ⟨x7, ex7, h⟩ := callK_ok h
        obtain ⟨m9, z9, i1, i2, i3, i4, i5, i6⟩ := idx_ok (inj := (pI PyData.int PyData.int)) (x := x3) (xs := x2) (Ev.pair Ev.int Ev.int) (by decide) ex7
        refine ⟨m9, z9, i1, i2, i3, i4, i5, ?_⟩
        rw [i6]
        refine EN.int ?_
        obtain ⟨x8, ex8, h⟩ := letK_ok h
        refine AddD.xx ex8 ?_
        exact ⟨(some x8), rfl, h⟩
      · have h := bK_f hb h
        refine EN.non ?_
        exact ⟨none, rfl, h⟩
    · intro x9 h
      rcases x9 with _ | x10
      · have h := optK_n h
        cases h
        exact hQ
      · have h := optK_s h
        cases h
        exact hQ
theorem ok_digits_Q_INI {f : Addr} {fd : FuncData} (F : Fun K "digits" "digits" s_digits f fd) (B : Blt mg)   : FnG Pg w K mg base (k + 1) f fd ["p", "l", "N"] (spOf K W_digits_Q_INI) := by
  refine okFn F sc_digits (by rintro as Q ⟨a_p, a_l, a_N, r, rfl, h, hQ⟩; rfl) ?_
  rintro X C Fx as Q ⟨a_p, a_l, a_N, r, rfl, h, hQ⟩
  unfold f_digits_Q_INI at h
  replace h := toO h
  show BN X _ [.dat (PyData.int a_p), .dat (uI a_l), .dat (PyData.int a_N), .no, .no] _
  refine BN.cons ?_
  refine SN.ife ?_
  refine TN.isN ?_
  refine EN.var (i := 1) (d := uI a_l) C rfl (by walk_at "vis") rfl ?_
  refine tb_t rfl ?_
  refine Kt.yes ?_
  refine BN.cons ?_
  refine SN.ret ?_
  refine EN.tup ?_
  refine LN.cons rfl ?_
  refine EN.var (i := 2) (d := PyData.int a_N) C rfl (by walk_at "vis") rfl ?_
  refine LN.nil ?_
  refine ⟨Nat.le_of_ble_eq_true rfl, ?_⟩
  cases h
  exact hQ
theorem ok_parts_Q_INvI {f : Addr} {fd : FuncData} (F : Fun K "_parts" "_parts" s_parts f fd) (B : Blt mg)   : FnG Pg w K mg base (k + 1) f fd ["p", "l", "told"] (spOf K W_parts_Q_INvI) := by
  refine okFn F sc_parts (by rintro as Q ⟨a_p, a_l, a_told, r, rfl, h, hQ⟩; rfl) ?_
  rintro X C Fx as Q ⟨a_p, a_l, a_told, r, rfl, h, hQ⟩
  unfold f_parts_Q_INvI at h
  replace h := toO h
  show BN X _ [.dat (PyData.int a_p), .dat (uI a_l), .dat ((vI PyData.int) a_told), .no, .no, .no] _
  refine BN.cons ?_
  refine SN.asgN (i := 3) C Fx rfl (by walk_at "vis") (by rintro ⟨⟩ ⟨⟩; rfl) ?_
  refine NN.lst ?_
  refine LN.nil ?_
  refine ⟨Nat.le_of_ble_eq_true rfl, ?_⟩
  show BN X _ [.dat (PyData.int a_p), .dat (uI a_l), .dat ((vI PyData.int) a_told), .own ((([] : List Int)).map PyData.int), .no, .no] _
  refine BN.cons ?_
  refine SN.asg (i := 4) C Fx rfl (by walk_at "vis") rfl ?_
  refine EN.int ?_
  show BN X _ [.dat (PyData.int a_p), .dat (uI a_l), .dat ((vI PyData.int) a_told), .own ((([] : List Int)).map PyData.int), .dat (PyData.int 1), .no] _
  refine BN.cons ?_
  refine SN.for C (fun _ => rfl) ?_
  refine IN.seq ?_
  refine EN.var (i := 2) (d := (vI PyData.int) a_told) C rfl (by walk_at "vis") rfl ?_
  refine SeqD.t ?_
  refine forK_in h PyData.int (fun (s14 : ((List Int) × (Option Int))) => [.dat (PyData.int a_p), .dat (uI a_l), .dat ((vI PyData.int) a_told), .own (((s14).1).map PyData.int), .dat ((oI PyData.int) (s14).2), .no]) rfl ?_ ?_
  · intro s28 h
    show BN X _ [.dat (PyData.int a_p), .dat (uI a_l), .dat ((vI PyData.int) a_told), .own (((s28).1).map PyData.int), .dat ((oI PyData.int) (s28).2), .no] _
    refine BN.freeze (i := 3) rfl ?_
    show BN X _ [.dat (PyData.int a_p), .dat (uI a_l), .dat ((vI PyData.int) a_told), .dat ((lI PyData.int) (s28).1), .dat ((oI PyData.int) (s28).2), .no] _
    refine BN.cons ?_
    refine SN.ret ?_
    refine EN.var (i := 3) (d := (lI PyData.int) (s28).1) C rfl (by walk_at "vis") rfl ?_
    cases h
    exact hQ
  · intro x17 s14 fin15 nx16 h
    refine GN.name (i := 5) C rfl (by walk_at "vis") (Or.inl (Fx _)) ?_
    show BN X _ [.dat (PyData.int a_p), .dat (uI a_l), .dat ((vI PyData.int) a_told), .own (((s14).1).map PyData.int), .dat ((oI PyData.int) (s14).2), .dat (PyData.int x17)] _
    rcases hz : (s14).2 with _ | x18
    · rw [hz] at h
      have h := optK_n h
      show BN X _ [.dat (PyData.int a_p), .dat (uI a_l), .dat ((vI PyData.int) a_told), .own (((s14).1).map PyData.int), .dat (uI ()), .dat (PyData.int x17)] _
      exact dead h
    · rw [hz] at h
      have h := optK_s h
      show BN X _ [.dat (PyData.int a_p), .dat (uI a_l), .dat ((vI PyData.int) a_told), .own (((s14).1).map PyData.int), .dat (PyData.int x18), .dat (PyData.int x17)] _
      refine BN.cons ?_
      refine SN.app (i := 3) C rfl (by walk_at "vis") rfl ?_ rfl rfl rfl rfl rfl rfl
      refine EN.mul ?_
      refine EN.var (i := 5) (d := PyData.int x17) C rfl (by walk_at "vis") rfl ?_
      refine EN.var (i := 4) (d := PyData.int x18) C rfl (by walk_at "vis") rfl ?_
      obtain ⟨cx19, x19, ex19, h⟩ := mulK_ok h
      refine MulD.xx cx19 ex19 ?_
      obtain ⟨cx20, h⟩ := chkK_ok h
      obtain ⟨x20, ex20, h⟩ := letK_ok h
      refine ⟨app_c (inj := PyData.int) cx20, ?_⟩
      rw [app_r (inj := PyData.int) ex20]
      show BN X _ [.dat (PyData.int a_p), .dat (uI a_l), .dat ((vI PyData.int) a_told), .own ((x20).map PyData.int), .dat (PyData.int x18), .dat (PyData.int x17)] _
      refine BN.cons ?_
      refine SN.asg (i := 4) C Fx rfl (by walk_at "vis") rfl ?_
      refine EN.join h (oI PyData.int) ?_ ?_
      · intro J21 h
        refine EN.ife ?_
        refine TN.eq C ?_
        refine EN.lenO (i := 3) C rfl B.len rfl (by walk_at "vis") rfl ?_ rfl rfl
        obtain ⟨x24, ex24, h⟩ := letK_ok h
        rw [len_r (inj := PyData.int) (xs := x20) ex24]
        refine EN.int ?_
        refine EqT.xx (inj := PyData.int) (x := x24) (y := 1) Ev.int (by decide) ?_
        refine ⟨fun hb => ?_, fun hb => ?_⟩
        · have h := bK_t hb h
          refine EN.var (i := 1) (d := uI a_l) C rfl (by walk_at "vis") rfl ?_
          exact ⟨none, rfl, h⟩
        · have h := bK_f hb h
          refine EN.mul ?_
          refine EN.var (i := 4) (d := PyData.int x18) C rfl (by walk_at "vis") rfl ?_
          refine EN.var (i := 0) (d := PyData.int a_p) C rfl (by walk_at "vis") rfl ?_
          obtain ⟨cx25, x25, ex25, h⟩ := mulK_ok h
          refine MulD.xx cx25 ex25 ?_
          exact ⟨(some x25), rfl, h⟩
      · intro x26 h
        rcases x26 with _ | x27
        · have h := optK_n h
          show BN X _ [.dat (PyData.int a_p), .dat (uI a_l), .dat ((vI PyData.int) a_told), .own ((x20).map PyData.int), .dat (uI ()), .dat (PyData.int x17)] _
          refine BN.wk (ρ' := [.dat (PyData.int a_p), .dat (uI a_l), .dat ((vI PyData.int) a_told), .own ((x20).map PyData.int), .dat ((oI PyData.int) none), .no]) (.eq (.eq (.eq (.eq (.eq (.no .nil)))))) ?_
          refine BN.nil ?_
          exact ⟨(x20, none), rfl, h⟩
        · have h := optK_s h
          show BN X _ [.dat (PyData.int a_p), .dat (uI a_l), .dat ((vI PyData.int) a_told), .own ((x20).map PyData.int), .dat (PyData.int x27), .dat (PyData.int x17)] _
          refine BN.wk (ρ' := [.dat (PyData.int a_p), .dat (uI a_l), .dat ((vI PyData.int) a_told), .own ((x20).map PyData.int), .dat ((oI PyData.int) (some x27)), .no]) (.eq (.eq (.eq (.eq (.eq (.no .nil)))))) ?_
          refine BN.nil ?_
          exact ⟨(x20, (some x27)), rfl, h⟩
theorem ok_of_digits_Q_INvI {f : Addr} {fd : FuncData} (F : Fun K "of_digits" "of_digits" s_of_digits f fd) (B : Blt mg) (T_parts_Q_INvI : Fd Pg w K mg base k "_parts" W_parts_Q_INvI)  : FnG Pg w K mg base (k + 1) f fd ["p", "l", "told"] (spOf K W_of_digits_Q_INvI) := by
  refine okFn F sc_of_digits (by rintro as Q ⟨a_p, a_l, a_told, r, rfl, h, hQ⟩; rfl) ?_
  rintro X C Fx as Q ⟨a_p, a_l, a_told, r, rfl, h, hQ⟩
  unfold f_of_digits_Q_INvI at h
  replace h := toO h
  show BN X _ [.dat (PyData.int a_p), .dat (uI a_l), .dat ((vI PyData.int) a_told)] _
  refine BN.cons ?_
  refine SN.ret ?_
  refine EN.sum C rfl B.sum ?_ rfl rfl
  refine EN.call C T_parts_Q_INvI (by omega) rfl ?_ rfl rfl
  refine AN.cons rfl ?_
  refine EN.var (i := 0) (d := PyData.int a_p) C rfl (by walk_at "vis") rfl ?_
  refine AN.cons rfl ?_
  refine EN.var (i := 1) (d := uI a_l) C rfl (by walk_at "vis") rfl ?_
  refine AN.cons rfl ?_
  refine EN.var (i := 2) (d := (vI PyData.int) a_told) C rfl (by walk_at "vis") rfl ?_
  refine AN.nil ?_
  obtain ⟨x1, ex1, h⟩ := callK_ok h
  refine ⟨_, _, _, _, rfl, ex1, ?_⟩
  obtain ⟨x2, ex2, h⟩ := letK_ok h
  refine ⟨x1, rfl, ?_⟩
  rw [sum_r ex2]
  cases h
  exact hQ
theorem ok_digits_Q_III {f : Addr} {fd : FuncData} (F : Fun K "digits" "digits" s_digits f fd) (B : Blt mg)   : FnG Pg w K mg base (k + 1) f fd ["p", "l", "N"] (spOf K W_digits_Q_III) := by
  refine okFn F sc_digits (by rintro as Q ⟨a_p, a_l, a_N, r, rfl, h, hQ⟩; rfl) ?_
  rintro X C Fx as Q ⟨a_p, a_l, a_N, r, rfl, h, hQ⟩
  unfold f_digits_Q_III at h
  replace h := toO h
  show BN X _ [.dat (PyData.int a_p), .dat (PyData.int a_l), .dat (PyData.int a_N), .no, .no] _
  refine BN.cons ?_
  refine SN.ife ?_
  refine TN.isN ?_
  refine EN.var (i := 1) (d := PyData.int a_l) C rfl (by walk_at "vis") rfl ?_
  refine tb_f rfl ?_
  refine Kt.noo ?_
  refine BN.nil ?_
  show BN X _ [.dat (PyData.int a_p), .dat (PyData.int a_l), .dat (PyData.int a_N), .no, .no] _
  refine BN.cons ?_
  refine SN.asgN (i := 3) C Fx rfl (by walk_at "vis") (by rintro ⟨⟩ ⟨⟩; rfl) ?_
  refine NN.lst ?_
  refine LN.cons rfl ?_
  refine EN.mod ?_
  refine EN.var (i := 2) (d := PyData.int a_N) C rfl (by walk_at "vis") rfl ?_
  refine EN.var (i := 1) (d := PyData.int a_l) C rfl (by walk_at "vis") rfl ?_
  obtain ⟨cx1, x1, ex1, h⟩ := modK_ok h
  refine ModI.xx cx1 ex1 ?_
  refine LN.nil ?_
  refine ⟨Nat.le_of_ble_eq_true rfl, ?_⟩
  show BN X _ [.dat (PyData.int a_p), .dat (PyData.int a_l), .dat (PyData.int a_N), .own ((([x1] : List Int)).map PyData.int), .no] _
  refine BN.cons ?_
  refine SN.asg (i := 4) C Fx rfl (by walk_at "vis") rfl ?_
  refine EN.div ?_
  refine EN.var (i := 2) (d := PyData.int a_N) C rfl (by walk_at "vis") rfl ?_
  refine EN.var (i := 1) (d := PyData.int a_l) C rfl (by walk_at "vis") rfl ?_
  obtain ⟨cx2, x2, ex2, h⟩ := divK_ok h
  refine DivI.xx cx2 ex2 ?_
  show BN X _ [.dat (PyData.int a_p), .dat (PyData.int a_l), .dat (PyData.int a_N), .own ((([x1] : List Int)).map PyData.int), .dat (PyData.int x2)] _
  refine BN.cons ?_
  refine SN.whileK C h (fun (s3 : ((List Int) × Int)) => [.dat (PyData.int a_p), .dat (PyData.int a_l), .dat (PyData.int a_N), .own (((s3).1).map PyData.int), .dat (PyData.int (s3).2)]) rfl ?_ ?_ ?_
  · intro s8 h
    show BN X _ [.dat (PyData.int a_p), .dat (PyData.int a_l), .dat (PyData.int a_N), .own (((s8).1).map PyData.int), .dat (PyData.int (s8).2)] _
    refine BN.freeze (i := 3) rfl ?_
    show BN X _ [.dat (PyData.int a_p), .dat (PyData.int a_l), .dat (PyData.int a_N), .dat ((lI PyData.int) (s8).1), .dat (PyData.int (s8).2)] _
    refine BN.cons ?_
    refine SN.ret ?_
    refine EN.tuplec C rfl B.tuple ?_ rfl rfl
    refine EN.var (i := 3) (d := (lI PyData.int) (s8).1) C rfl (by walk_at "vis") rfl ?_
    refine SeqD.l ?_
    cases h
    exact hQ
  · intro s3 J6 h
    refine TN.gt ?_
    refine EN.var (i := 4) (d := PyData.int (s3).2) C rfl (by walk_at "vis") rfl ?_
    refine EN.int ?_
    refine IbGt ?_
    exact h
  · intro s3 fin4 nx5 h
    show BN X _ [.dat (PyData.int a_p), .dat (PyData.int a_l), .dat (PyData.int a_N), .own (((s3).1).map PyData.int), .dat (PyData.int (s3).2)] _
    refine BN.cons ?_
    refine SN.ife ?_
    refine TN.eq C ?_
    refine EN.var (i := 0) (d := PyData.int a_p) C rfl (by walk_at "vis") rfl ?_
    refine EN.int ?_
    refine EqT.xx (inj := PyData.int) (x := a_p) (y := 0) Ev.int (by decide) ?_
    refine ⟨fun hb => ?_, fun hb => ?_⟩
    · have h := bK_t hb h
      refine BN.cons ?_
      refine SN.app (i := 3) C rfl (by walk_at "vis") rfl ?_ rfl rfl rfl rfl rfl rfl
      refine EN.var (i := 4) (d := PyData.int (s3).2) C rfl (by walk_at "vis") rfl ?_
      obtain ⟨cx7, h⟩ := chkK_ok h
      obtain ⟨x7, ex7, h⟩ := letK_ok h
      refine ⟨app_c (inj := PyData.int) cx7, ?_⟩
      rw [app_r (inj := PyData.int) ex7]
      show BN X _ [.dat (PyData.int a_p), .dat (PyData.int a_l), .dat (PyData.int a_N), .own ((x7).map PyData.int), .dat (PyData.int (s3).2)] _
      refine BN.cons ?_
      refine SN.asg (i := 4) C Fx rfl (by walk_at "vis") rfl ?_
      refine EN.int ?_
      show BN X _ [.dat (PyData.int a_p), .dat (PyData.int a_l), .dat (PyData.int a_N), .own ((x7).map PyData.int), .dat (PyData.int 0)] _
      refine BN.nil ?_
      show BN X _ [.dat (PyData.int a_p), .dat (PyData.int a_l), .dat (PyData.int a_N), .own ((x7).map PyData.int), .dat (PyData.int 0)] _
      refine BN.nil ?_
      exact ⟨(x7, 0), rfl, h⟩
    · exact dead (bK_f hb h)
theorem ok_digits_Q_INI_or_digits_Q_III {f : Addr} {fd : FuncData} (F : Fun K "digits" "digits" s_digits f fd) (B : Blt mg)   : FnG Pg w K mg base (k + 1) f fd ["p", "l", "N"] (spOf K W_digits_Q_INI_or_digits_Q_III) := FnG.or (ok_digits_Q_INI F B ) (ok_digits_Q_III F B )
theorem ok_has_middle_Q_ITIIeI {f : Addr} {fd : FuncData} (F : Fun K "has_middle" "has_middle" s_has_middle f fd) (B : Blt mg) (T_length_Q_ITIIe : Fd Pg w K mg base k "length" W_length_Q_ITIIe) (T_digits_Q_INI_or_digits_Q_III : Fd Pg w K mg base k "digits" W_digits_Q_INI_or_digits_Q_III)  : FnG Pg w K mg base (k + 1) f fd ["p", "d", "n"] (spOf K W_has_middle_Q_ITIIeI) := by
  refine okFn F sc_has_middle (by rintro as Q ⟨a_p, a_d, a_n, r, rfl, h, hQ⟩; rfl) ?_
  rintro X C Fx as Q ⟨a_p, a_d, a_n, r, rfl, h, hQ⟩
  unfold f_has_middle_Q_ITIIeI at h
  replace h := toO h
  show BN X _ [.dat (PyData.int a_p), .dat ((pI PyData.int PyData.int) a_d), .dat (PyData.int a_n), .no] _
  refine BN.cons ?_
  refine SN.ret ?_
  refine EN.eq C ?_
  refine EN.len C rfl B.len ?_ rfl rfl
  refine EN.lc (i := 3) C rfl rfl rfl (fun _ => rfl) ?_
  refine IN.seq ?_
  refine EN.call C T_digits_Q_INI_or_digits_Q_III (by omega) rfl ?_ rfl rfl
  refine AN.cons rfl ?_
  refine EN.var (i := 0) (d := PyData.int a_p) C rfl (by walk_at "vis") rfl ?_
  refine AN.cons rfl ?_
  refine EN.call C T_length_Q_ITIIe (by omega) rfl ?_ rfl rfl
  refine AN.cons rfl ?_
  refine EN.var (i := 0) (d := PyData.int a_p) C rfl (by walk_at "vis") rfl ?_
  refine AN.cons rfl ?_
  refine EN.var (i := 1) (d := (pI PyData.int PyData.int) a_d) C rfl (by walk_at "vis") rfl ?_
  refine AN.nil ?_
  obtain ⟨x1, ex1, h⟩ := callK_ok h
  refine ⟨_, _, _, rfl, ex1, ?_⟩
  rcases x1 with _ | x2
  · have h := optK_n h
    refine AN.cons rfl ?_
    refine EN.add ?_
    refine EN.var (i := 2) (d := PyData.int a_n) C rfl (by walk_at "vis") rfl ?_
    refine EN.int ?_
    obtain ⟨x3, ex3, h⟩ := letK_ok h
    refine AddD.xx ex3 ?_
    refine AN.nil ?_
    obtain ⟨x4, ex4, h⟩ := callK_ok h
    refine Or.inl ⟨_, _, _, _, rfl, ex4, ?_⟩
    refine SeqD.t ?_
    refine lcFK_in h PyData.int PyData.int ?_ ?_ ?_
    · intro x6 J11 h Y10 CY10
      refine TN.ne CY10 ?_
      refine EN.var (i := 3) (d := PyData.int x6) CY10 rfl (by walk_at "vis") rfl ?_
      refine EN.int ?_
      refine NeT.xx (inj := PyData.int) (x := x6) (y := 0) Ev.int (by decide) ?_
      exact h
    · intro x6 k7 h Y5 CY5
      refine EN.var (i := 3) (d := PyData.int x6) CY5 rfl (by walk_at "vis") rfl ?_
      exact ⟨_, rfl, h⟩
    · intro ys8 h
      obtain ⟨x9, ex9, h⟩ := letK_ok h
      refine LenD.lx (inj := PyData.int) (xs := ys8) ex9 ?_
      refine EN.int ?_
      refine EqD.xx (inj := PyData.int) (x := x9) (y := 1) Ev.int (by decide) ?_
      cases h
      exact hQ
  · have h := optK_s h
    refine AN.cons rfl ?_
    refine EN.add ?_
    refine EN.var (i := 2) (d := PyData.int a_n) C rfl (by walk_at "vis") rfl ?_
    refine EN.int ?_
    obtain ⟨x12, ex12, h⟩ := letK_ok h
    refine AddD.xx ex12 ?_
    refine AN.nil ?_
    obtain ⟨x13, ex13, h⟩ := callK_ok h
    refine Or.inr ⟨_, _, _, _, rfl, ex13, ?_⟩
    refine SeqD.t ?_
    refine lcFK_in h PyData.int PyData.int ?_ ?_ ?_
    · intro x15 J20 h Y19 CY19
      refine TN.ne CY19 ?_
      refine EN.var (i := 3) (d := PyData.int x15) CY19 rfl (by walk_at "vis") rfl ?_
      refine EN.int ?_
      refine NeT.xx (inj := PyData.int) (x := x15) (y := 0) Ev.int (by decide) ?_
      exact h
    · intro x15 k16 h Y14 CY14
      refine EN.var (i := 3) (d := PyData.int x15) CY14 rfl (by walk_at "vis") rfl ?_
      exact ⟨_, rfl, h⟩
    · intro ys17 h
      obtain ⟨x18, ex18, h⟩ := letK_ok h
      refine LenD.lx (inj := PyData.int) (xs := ys17) ex18 ?_
      refine EN.int ?_
      refine EqD.xx (inj := PyData.int) (x := x18) (y := 1) Ev.int (by decide) ?_
      cases h
      exact hQ
theorem ok_parts_Q_INTIe {f : Addr} {fd : FuncData} (F : Fun K "_parts" "_parts" s_parts f fd) (B : Blt mg)   : FnG Pg w K mg base (k + 1) f fd ["p", "l", "told"] (spOf K W_parts_Q_INTIe) := by
  refine okFn F sc_parts (by rintro as Q ⟨a_p, a_l, a_told, r, rfl, h, hQ⟩; rfl) ?_
  rintro X C Fx as Q ⟨a_p, a_l, a_told, r, rfl, h, hQ⟩
  unfold f_parts_Q_INTIe at h
  replace h := toO h
  show BN X _ [.dat (PyData.int a_p), .dat (uI a_l), .dat ((t1I PyData.int) a_told), .no, .no, .no] _
  refine BN.cons ?_
  refine SN.asgN (i := 3) C Fx rfl (by walk_at "vis") (by rintro ⟨⟩ ⟨⟩; rfl) ?_
  refine NN.lst ?_
  refine LN.nil ?_
  refine ⟨Nat.le_of_ble_eq_true rfl, ?_⟩
  show BN X _ [.dat (PyData.int a_p), .dat (uI a_l), .dat ((t1I PyData.int) a_told), .own ((([] : List Int)).map PyData.int), .no, .no] _
  refine BN.cons ?_
  refine SN.asg (i := 4) C Fx rfl (by walk_at "vis") rfl ?_
  refine EN.int ?_
  show BN X _ [.dat (PyData.int a_p), .dat (uI a_l), .dat ((t1I PyData.int) a_told), .own ((([] : List Int)).map PyData.int), .dat (PyData.int 1), .no] _
  refine BN.cons ?_
  refine SN.for C (fun _ => rfl) ?_
  refine IN.seq ?_
  refine EN.var (i := 2) (d := (t1I PyData.int) a_told) C rfl (by walk_at "vis") rfl ?_
  refine SeqD.t ?_
  refine forK_in h PyData.int (fun (s14 : ((List Int) × (Option Int))) => [.dat (PyData.int a_p), .dat (uI a_l), .dat ((t1I PyData.int) a_told), .own (((s14).1).map PyData.int), .dat ((oI PyData.int) (s14).2), .no]) rfl ?_ ?_
  · intro s28 h
    show BN X _ [.dat (PyData.int a_p), .dat (uI a_l), .dat ((t1I PyData.int) a_told), .own (((s28).1).map PyData.int), .dat ((oI PyData.int) (s28).2), .no] _
    refine BN.freeze (i := 3) rfl ?_
    show BN X _ [.dat (PyData.int a_p), .dat (uI a_l), .dat ((t1I PyData.int) a_told), .dat ((lI PyData.int) (s28).1), .dat ((oI PyData.int) (s28).2), .no] _
    refine BN.cons ?_
    refine SN.ret ?_
    refine EN.var (i := 3) (d := (lI PyData.int) (s28).1) C rfl (by walk_at "vis") rfl ?_
    cases h
    exact hQ
  · intro x17 s14 fin15 nx16 h
    refine GN.name (i := 5) C rfl (by walk_at "vis") (Or.inl (Fx _)) ?_
    show BN X _ [.dat (PyData.int a_p), .dat (uI a_l), .dat ((t1I PyData.int) a_told), .own (((s14).1).map PyData.int), .dat ((oI PyData.int) (s14).2), .dat (PyData.int x17)] _
    rcases hz : (s14).2 with _ | x18
    · rw [hz] at h
      have h := optK_n h
      show BN X _ [.dat (PyData.int a_p), .dat (uI a_l), .dat ((t1I PyData.int) a_told), .own (((s14).1).map PyData.int), .dat (uI ()), .dat (PyData.int x17)] _
      exact dead h
    · rw [hz] at h
      have h := optK_s h
      show BN X _ [.dat (PyData.int a_p), .dat (uI a_l), .dat ((t1I PyData.int) a_told), .own (((s14).1).map PyData.int), .dat (PyData.int x18), .dat (PyData.int x17)] _
      refine BN.cons ?_
      refine SN.app (i := 3) C rfl (by walk_at "vis") rfl ?_ rfl rfl rfl rfl rfl rfl
      refine EN.mul ?_
      refine EN.var (i := 5) (d := PyData.int x17) C rfl (by walk_at "vis") rfl ?_
      refine EN.var (i := 4) (d := PyData.int x18) C rfl (by walk_at "vis") rfl ?_
      obtain ⟨cx19, x19, ex19, h⟩ := mulK_ok h
      refine MulD.xx cx19 ex19 ?_
      obtain ⟨cx20, h⟩ := chkK_ok h
      obtain ⟨x20, ex20, h⟩ := letK_ok h
      refine ⟨app_c (inj := PyData.int) cx20, ?_⟩
      rw [app_r (inj := PyData.int) ex20]
      show BN X _ [.dat (PyData.int a_p), .dat (uI a_l), .dat ((t1I PyData.int) a_told), .own ((x20).map PyData.int), .dat (PyData.int x18), .dat (PyData.int x17)] _
      refine BN.cons ?_
      refine SN.asg (i := 4) C Fx rfl (by walk_at "vis") rfl ?_
      refine EN.join h (oI PyData.int) ?_ ?_
      · intro J21 h
        refine EN.ife ?_
        refine TN.eq C ?_
        refine EN.lenO (i := 3) C rfl B.len rfl (by walk_at "vis") rfl ?_ rfl rfl
        obtain ⟨x24, ex24, h⟩ := letK_ok h
        rw [len_r (inj := PyData.int) (xs := x20) ex24]
        refine EN.int ?_
        refine EqT.xx (inj := PyData.int) (x := x24) (y := 1) Ev.int (by decide) ?_
        refine ⟨fun hb => ?_, fun hb => ?_⟩
        · have h := bK_t hb h
          refine EN.var (i := 1) (d := uI a_l) C rfl (by walk_at "vis") rfl ?_
          exact ⟨none, rfl, h⟩
        · have h := bK_f hb h
          refine EN.mul ?_
          refine EN.var (i := 4) (d := PyData.int x18) C rfl (by walk_at "vis") rfl ?_
          refine EN.var (i := 0) (d := PyData.int a_p) C rfl (by walk_at "vis") rfl ?_
          obtain ⟨cx25, x25, ex25, h⟩ := mulK_ok h
          refine MulD.xx cx25 ex25 ?_
          exact ⟨(some x25), rfl, h⟩
      · intro x26 h
        rcases x26 with _ | x27
        · have h := optK_n h
          show BN X _ [.dat (PyData.int a_p), .dat (uI a_l), .dat ((t1I PyData.int) a_told), .own ((x20).map PyData.int), .dat (uI ()), .dat (PyData.int x17)] _
          refine BN.wk (ρ' := [.dat (PyData.int a_p), .dat (uI a_l), .dat ((t1I PyData.int) a_told), .own ((x20).map PyData.int), .dat ((oI PyData.int) none), .no]) (.eq (.eq (.eq (.eq (.eq (.no .nil)))))) ?_
          refine BN.nil ?_
          exact ⟨(x20, none), rfl, h⟩
        · have h := optK_s h
          show BN X _ [.dat (PyData.int a_p), .dat (uI a_l), .dat ((t1I PyData.int) a_told), .own ((x20).map PyData.int), .dat (PyData.int x27), .dat (PyData.int x17)] _
          refine BN.wk (ρ' := [.dat (PyData.int a_p), .dat (uI a_l), .dat ((t1I PyData.int) a_told), .own ((x20).map PyData.int), .dat ((oI PyData.int) (some x27)), .no]) (.eq (.eq (.eq (.eq (.eq (.no .nil)))))) ?_
          refine BN.nil ?_
          exact ⟨(x20, (some x27)), rfl, h⟩
theorem ok_support_Q_INI {f : Addr} {fd : FuncData} (F : Fun K "support" "support" s_support f fd) (B : Blt mg) (T_digits_Q_INI : Fd Pg w K mg base k "digits" W_digits_Q_INI) (T_parts_Q_INTIe : Fd Pg w K mg base k "_parts" W_parts_Q_INTIe)  : FnG Pg w K mg base (k + 1) f fd ["p", "l", "N"] (spOf K W_support_Q_INI) := by
  refine okFn F sc_support (by rintro as Q ⟨a_p, a_l, a_N, r, rfl, h, hQ⟩; rfl) ?_
  rintro X C Fx as Q ⟨a_p, a_l, a_N, r, rfl, h, hQ⟩
  unfold f_support_Q_INI at h
  replace h := toO h
  show BN X _ [.dat (PyData.int a_p), .dat (uI a_l), .dat (PyData.int a_N), .no, .no, .no, .no] _
  refine BN.cons ?_
  refine SN.asg (i := 3) C Fx rfl (by walk_at "vis") rfl ?_
  refine EN.call C T_parts_Q_INTIe (by omega) rfl ?_ rfl rfl
  refine AN.cons rfl ?_
  refine EN.var (i := 0) (d := PyData.int a_p) C rfl (by walk_at "vis") rfl ?_
  refine AN.cons rfl ?_
  refine EN.var (i := 1) (d := uI a_l) C rfl (by walk_at "vis") rfl ?_
  refine AN.cons rfl ?_
  refine EN.call C T_digits_Q_INI (by omega) rfl ?_ rfl rfl
  refine AN.cons rfl ?_
  refine EN.var (i := 0) (d := PyData.int a_p) C rfl (by walk_at "vis") rfl ?_
  refine AN.cons rfl ?_
  refine EN.var (i := 1) (d := uI a_l) C rfl (by walk_at "vis") rfl ?_
  refine AN.cons rfl ?_
  refine EN.var (i := 2) (d := PyData.int a_N) C rfl (by walk_at "vis") rfl ?_
  refine AN.nil ?_
  obtain ⟨x1, ex1, h⟩ := callK_ok h
  refine ⟨_, _, _, _, rfl, ex1, ?_⟩
  refine AN.nil ?_
  obtain ⟨x2, ex2, h⟩ := callK_ok h
  refine ⟨_, _, _, _, rfl, ex2, ?_⟩
  show BN X _ [.dat (PyData.int a_p), .dat (uI a_l), .dat (PyData.int a_N), .dat ((lI PyData.int) x2), .no, .no, .no] _
  refine BN.cons ?_
  refine SN.asg (i := 4) C Fx rfl (by walk_at "vis") rfl ?_
  refine EN.lst ?_
  refine LN.cons rfl ?_
  refine EN.ix (fun _ _ => rfl) ?_
  refine EN.var (i := 3) (d := (lI PyData.int) x2) C rfl (by walk_at "vis") rfl ?_
  refine EN.neg ?_
  refine EN.int ?_
  obtain ⟨x3, ex3, h⟩ := letK_ok h
  refine ⟨_, rfl, ?_⟩
  rw [neg_r ex3]
  obtain ⟨x4, ex4, h⟩ := callK_ok h
  refine IxD.lx (inj := PyData.int) (xs := x2) ex4 ?_
  refine LN.nil ?_
  refine ⟨Nat.le_of_ble_eq_true rfl, ?_⟩
  show BN X _ [.dat (PyData.int a_p), .dat (uI a_l), .dat (PyData.int a_N), .dat ((lI PyData.int) x2), .dat ((lI PyData.int) ([x4] : List Int)), .no, .no] _
  refine BN.cons ?_
  refine SN.for C (fun _ => rfl) ?_
  refine IN.seq ?_
  refine EN.slA ?_
  refine EN.var (i := 3) (d := (lI PyData.int) x2) C rfl (by walk_at "vis") rfl ?_
  refine (show EN _ _ _ _ from ?_)
  refine EN.neg ?_
  refine EN.int ?_
  obtain ⟨x8, ex8, h⟩ := letK_ok h
  refine ⟨_, rfl, ?_⟩
  rw [neg_r ex8]
  refine ⟨_, rfl, ?_⟩
  obtain ⟨x9, ex9, h⟩ := letK_ok h
  refine cutA_l (inj := PyData.int) (xs := x2) ex9 ?_
  refine SeqD.l ?_
  refine forK_in h PyData.int (fun (s5 : ((List Int))) => [.dat (PyData.int a_p), .dat (uI a_l), .dat (PyData.int a_N), .dat ((lI PyData.int) x2), .dat ((lI PyData.int) s5), .no, .no]) rfl ?_ ?_
  · intro s22 h
    show BN X _ [.dat (PyData.int a_p), .dat (uI a_l), .dat (PyData.int a_N), .dat ((lI PyData.int) x2), .dat ((lI PyData.int) s22), .no, .no] _
    refine BN.cons ?_
    refine SN.ret ?_
    refine EN.tuplec C rfl B.tuple ?_ rfl rfl
    refine EN.sortedI C rfl B.sorted ?_ rfl rfl
    refine EN.var (i := 4) (d := (lI PyData.int) s22) C rfl (by walk_at "vis") rfl ?_
    obtain ⟨x23, ex23, h⟩ := letK_ok h
    refine ⟨s22, rfl, fun ms hp ho => ?_⟩
    rw [sort_r ex23 hp ho]
    refine SeqD.l ?_
    cases h
    exact hQ
  · intro x10 s5 fin6 nx7 h
    refine GN.name (i := 5) C rfl (by walk_at "vis") (Or.inl (Fx _)) ?_
    show BN X _ [.dat (PyData.int a_p), .dat (uI a_l), .dat (PyData.int a_N), .dat ((lI PyData.int) x2), .dat ((lI PyData.int) s5), .dat (PyData.int x10), .no] _
    show BN X _ [.dat (PyData.int a_p), .dat (uI a_l), .dat (PyData.int a_N), .dat ((lI PyData.int) x2), .dat ((lI PyData.int) s5), .dat (PyData.int x10), .no] _
    refine BN.cons ?_
    refine SN.ife ?_
    refine TN.ne C ?_
    refine EN.var (i := 5) (d := PyData.int x10) C rfl (by walk_at "vis") rfl ?_
    refine EN.int ?_
    refine NeT.xx (inj := PyData.int) (x := x10) (y := 0) Ev.int (by decide) ?_
    refine ⟨fun hb => ?_, fun hb => ?_⟩
    · have h := bK_t hb h
      refine BN.cons ?_
      refine SN.asg (i := 4) C Fx rfl (by walk_at "vis") rfl ?_
      refine EN.add ?_
      refine EN.lc (i := 6) C rfl rfl rfl (fun _ => rfl) ?_
      refine IN.seq ?_
      refine EN.var (i := 4) (d := (lI PyData.int) s5) C rfl (by walk_at "vis") rfl ?_
      refine SeqD.l ?_
      refine lcK_in h PyData.int PyData.int ?_ ?_
      · intro x12 k13 h Y11 CY11
        refine EN.sub ?_
        refine EN.var (i := 6) (d := PyData.int x12) CY11 rfl (by walk_at "vis") rfl ?_
        refine EN.var (i := 5) (d := PyData.int x10) CY11 rfl (by walk_at "vis") rfl ?_
        obtain ⟨x15, ex15, h⟩ := letK_ok h
        refine SubI.xx ex15 ?_
        exact ⟨_, rfl, h⟩
      · intro ys14 h
        refine EN.lc (i := 6) C rfl rfl rfl (fun _ => rfl) ?_
        refine IN.seq ?_
        refine EN.var (i := 4) (d := (lI PyData.int) s5) C rfl (by walk_at "vis") rfl ?_
        refine SeqD.l ?_
        refine lcK_in h PyData.int PyData.int ?_ ?_
        · intro x17 k18 h Y16 CY16
          refine EN.add ?_
          refine EN.var (i := 6) (d := PyData.int x17) CY16 rfl (by walk_at "vis") rfl ?_
          refine EN.var (i := 5) (d := PyData.int x10) CY16 rfl (by walk_at "vis") rfl ?_
          obtain ⟨x20, ex20, h⟩ := letK_ok h
          refine AddD.xx ex20 ?_
          exact ⟨_, rfl, h⟩
        · intro ys19 h
          obtain ⟨cx21, h⟩ := chkK_ok h
          obtain ⟨x21, ex21, h⟩ := letK_ok h
          refine AddD.lx (inj := PyData.int) (xs := ys14) (ys := ys19) cx21 ex21 ?_
          show BN X _ [.dat (PyData.int a_p), .dat (uI a_l), .dat (PyData.int a_N), .dat ((lI PyData.int) x2), .dat ((lI PyData.int) x21), .dat (PyData.int x10), .no] _
          refine BN.nil ?_
          show BN X _ [.dat (PyData.int a_p), .dat (uI a_l), .dat (PyData.int a_N), .dat ((lI PyData.int) x2), .dat ((lI PyData.int) x21), .dat (PyData.int x10), .no] _
          refine BN.wk (ρ' := [.dat (PyData.int a_p), .dat (uI a_l), .dat (PyData.int a_N), .dat ((lI PyData.int) x2), .dat ((lI PyData.int) x21), .no, .no]) (.eq (.eq (.eq (.eq (.eq (.no (.eq .nil))))))) ?_
          refine BN.nil ?_
          exact ⟨(x21), rfl, h⟩
    · have h := bK_f hb h
      refine BN.nil ?_
      show BN X _ [.dat (PyData.int a_p), .dat (uI a_l), .dat (PyData.int a_N), .dat ((lI PyData.int) x2), .dat ((lI PyData.int) s5), .dat (PyData.int x10), .no] _
      refine BN.wk (ρ' := [.dat (PyData.int a_p), .dat (uI a_l), .dat (PyData.int a_N), .dat ((lI PyData.int) x2), .dat ((lI PyData.int) s5), .no, .no]) (.eq (.eq (.eq (.eq (.eq (.no (.eq .nil))))))) ?_
      refine BN.nil ?_
      exact ⟨(s5), rfl, h⟩
theorem ok_holds_Q_INII {f : Addr} {fd : FuncData} (F : Fun K "holds" "holds" s_holds f fd) (B : Blt mg) (T_digits_Q_INI : Fd Pg w K mg base k "digits" W_digits_Q_INI)  : FnG Pg w K mg base (k + 1) f fd ["p", "l", "k", "r"] (spOf K W_holds_Q_INII) := by
  refine okFn F sc_holds (by rintro as Q ⟨a_p, a_l, a_k0, a_r, r, rfl, h, hQ⟩; rfl) ?_
  rintro X C Fx as Q ⟨a_p, a_l, a_k0, a_r, r, rfl, h, hQ⟩
  unfold f_holds_Q_INII at h
  replace h := toO h
  show BN X _ [.dat (PyData.int a_p), .dat (uI a_l), .dat (PyData.int a_k0), .dat (PyData.int a_r), .no, .no, .no] _
  refine BN.cons ?_
  refine SN.ife ?_
  refine TN.join h ?_ ?_
  · intro J1 h
    refine WN.tn ?_
    refine WN.or ?_
    refine TN.ge ?_
    refine EN.var (i := 2) (d := PyData.int a_k0) C rfl (by walk_at "vis") rfl ?_
    refine EN.var (i := 3) (d := PyData.int a_r) C rfl (by walk_at "vis") rfl ?_
    refine IbGe ?_
    refine ⟨fun hb => ?_, fun hb => ?_⟩
    · exact bK_t hb h
    · have h := bK_f hb h
      refine WN.or1 ?_
      refine TN.eq C ?_
      refine EN.mod ?_
      refine EN.sub ?_
      refine EN.var (i := 3) (d := PyData.int a_r) C rfl (by walk_at "vis") rfl ?_
      refine EN.var (i := 2) (d := PyData.int a_k0) C rfl (by walk_at "vis") rfl ?_
      obtain ⟨x2, ex2, h⟩ := letK_ok h
      refine SubI.xx ex2 ?_
      refine EN.int ?_
      obtain ⟨cx3, x3, ex3, h⟩ := modK_ok h
      refine ModI.xx cx3 ex3 ?_
      refine EN.int ?_
      refine EqT.xx (inj := PyData.int) (x := x3) (y := 1) Ev.int (by decide) ?_
      exact h
  · intro b4 h
    refine ⟨fun hb => ?_, fun hb => ?_⟩
    · have h := bK_t hb h
      refine BN.cons ?_
      refine SN.ret ?_
      refine EN.eq C ?_
      refine EN.var (i := 2) (d := PyData.int a_k0) C rfl (by walk_at "vis") rfl ?_
      refine EN.var (i := 3) (d := PyData.int a_r) C rfl (by walk_at "vis") rfl ?_
      refine EqD.xx (inj := PyData.int) (x := a_k0) (y := a_r) Ev.int (by decide) ?_
      cases h
      exact hQ
    · have h := bK_f hb h
      refine BN.nil ?_
      show BN X _ [.dat (PyData.int a_p), .dat (uI a_l), .dat (PyData.int a_k0), .dat (PyData.int a_r), .no, .no, .no] _
      refine BN.cons ?_
      refine SN.asg (i := 4) C Fx rfl (by walk_at "vis") rfl ?_
      refine EN.call C T_digits_Q_INI (by omega) rfl ?_ rfl rfl
      refine AN.cons rfl ?_
      refine EN.var (i := 0) (d := PyData.int a_p) C rfl (by walk_at "vis") rfl ?_
      refine AN.cons rfl ?_
      refine EN.var (i := 1) (d := uI a_l) C rfl (by walk_at "vis") rfl ?_
      refine AN.cons rfl ?_
      refine EN.div ?_
      refine EN.sub ?_
      refine EN.var (i := 3) (d := PyData.int a_r) C rfl (by walk_at "vis") rfl ?_
      refine EN.var (i := 2) (d := PyData.int a_k0) C rfl (by walk_at "vis") rfl ?_
      obtain ⟨x5, ex5, h⟩ := letK_ok h
      refine SubI.xx ex5 ?_
      refine EN.int ?_
      obtain ⟨cx6, x6, ex6, h⟩ := divK_ok h
      refine DivI.xx cx6 ex6 ?_
      refine AN.nil ?_
      obtain ⟨x7, ex7, h⟩ := callK_ok h
      refine ⟨_, _, _, _, rfl, ex7, ?_⟩
      show BN X _ [.dat (PyData.int a_p), .dat (uI a_l), .dat (PyData.int a_k0), .dat (PyData.int a_r), .dat ((t1I PyData.int) x7), .no, .no] _
      refine BN.cons ?_
      refine SN.ret ?_
      refine EN.all C rfl B.all ?_ rfl rfl
      refine EN.lcP (i := 5) (i2 := 6) C rfl rfl rfl rfl rfl (by decide) (fun _ => rfl) (fun _ => rfl) (fun _ => rfl) (fun _ => rfl) (fun _ => rfl) ?_
      refine IN.zip C rfl B.zip rfl rfl rfl ?_
      refine EN.var (i := 4) (d := (t1I PyData.int) x7) C rfl (by walk_at "vis") rfl ?_
      refine EN.call C T_digits_Q_INI (by omega) rfl ?_ rfl rfl
      refine AN.cons rfl ?_
      refine EN.var (i := 0) (d := PyData.int a_p) C rfl (by walk_at "vis") rfl ?_
      refine AN.cons rfl ?_
      refine EN.var (i := 1) (d := uI a_l) C rfl (by walk_at "vis") rfl ?_
      refine AN.cons rfl ?_
      refine EN.add ?_
      refine EN.var (i := 3) (d := PyData.int a_r) C rfl (by walk_at "vis") rfl ?_
      refine EN.int ?_
      obtain ⟨x8, ex8, h⟩ := letK_ok h
      refine AddD.xx ex8 ?_
      refine AN.nil ?_
      obtain ⟨x9, ex9, h⟩ := callK_ok h
      refine ⟨_, _, _, _, rfl, ex9, ?_⟩
      obtain ⟨x10, ex10, h⟩ := letK_ok h
      refine zip_vv (inj := PyData.int) (injb := PyData.int) (xs := ([x7] : List Int)) (ys := ([x9] : List Int)) ex10 ?_
      refine lcP_in h PyData.int PyData.int PyData.bool ?_ ?_
      · intro x12 k13 h Y11 CY11
        refine EN.inT rfl ?_
        refine EN.var (i := 5) (d := PyData.int (x12).1) CY11 rfl (by walk_at "vis") rfl ?_
        refine EN.tup ?_
        refine LN.cons rfl ?_
        refine EN.int ?_
        refine LN.cons rfl ?_
        refine EN.var (i := 6) (d := PyData.int (x12).2) CY11 rfl (by walk_at "vis") rfl ?_
        refine LN.nil ?_
        refine ⟨Nat.le_of_ble_eq_true rfl, ?_⟩
        refine InT.x2 ?_
        exact ⟨_, rfl, h⟩
      · intro ys14 h
        obtain ⟨x15, ex15, h⟩ := letK_ok h
        refine ⟨ys14, rfl, ?_⟩
        rw [all_r ex15]
        cases h
        exact hQ
theorem ok_first_not_dividing_Q_INI {f : Addr} {fd : FuncData} (F : Fun K "_first_not_dividing" "_first_not_dividing" s_first_not_dividing f fd) (B : Blt mg)   : FnG Pg w K mg base (k + 1) f fd ["p", "l", "N"] (spOf K W_first_not_dividing_Q_INI) := by
  refine okFn F sc_first_not_dividing (by rintro as Q ⟨a_p, a_l, a_N, r, rfl, h, hQ⟩; rfl) ?_
  rintro X C Fx as Q ⟨a_p, a_l, a_N, r, rfl, h, hQ⟩
  unfold f_first_not_dividing_Q_INI at h
  replace h := toO h
  show BN X _ [.dat (PyData.int a_p), .dat (uI a_l), .dat (PyData.int a_N), .no] _
  refine BN.cons ?_
  refine SN.ife ?_
  refine TN.join h ?_ ?_
  · intro J1 h
    refine WN.tn ?_
    refine WN.or ?_
    refine TN.isN ?_
    refine EN.var (i := 1) (d := uI a_l) C rfl (by walk_at "vis") rfl ?_
    refine tb_t rfl ?_
    refine Kt.yes ?_
    exact h
  · intro b2 h
    refine ⟨fun hb => ?_, fun hb => ?_⟩
    · have h := bK_t hb h
      refine BN.cons ?_
      refine SN.ret ?_
      refine EN.non ?_
      cases h
      exact hQ
    · have h := bK_f hb h
      exact dead h
theorem ok_next_over_Q_INI {f : Addr} {fd : FuncData} (F : Fun K "next_over" "next_over" s_next_over f fd) (B : Blt mg) (T_first_not_dividing_Q_INI : Fd Pg w K mg base k "_first_not_dividing" W_first_not_dividing_Q_INI)  : FnG Pg w K mg base (k + 1) f fd ["p", "l", "k"] (spOf K W_next_over_Q_INI) := by
  refine okFn F sc_next_over (by rintro as Q ⟨a_p, a_l, a_k0, r, rfl, h, hQ⟩; rfl) ?_
  rintro X C Fx as Q ⟨a_p, a_l, a_k0, r, rfl, h, hQ⟩
  unfold f_next_over_Q_INI at h
  replace h := toO h
  show BN X _ [.dat (PyData.int a_p), .dat (uI a_l), .dat (PyData.int a_k0), .no, .no, .no] _
  refine BN.cons ?_
  refine SN.asg (i := 3) C Fx rfl (by walk_at "vis") rfl ?_
  refine EN.add ?_
  refine EN.var (i := 2) (d := PyData.int a_k0) C rfl (by walk_at "vis") rfl ?_
  refine EN.int ?_
  obtain ⟨x1, ex1, h⟩ := letK_ok h
  refine AddD.xx ex1 ?_
  show BN X _ [.dat (PyData.int a_p), .dat (uI a_l), .dat (PyData.int a_k0), .dat (PyData.int x1), .no, .no] _
  refine BN.cons ?_
  refine SN.asg (i := 4) C Fx rfl (by walk_at "vis") rfl ?_
  refine EN.call C T_first_not_dividing_Q_INI (by omega) rfl ?_ rfl rfl
  refine AN.cons rfl ?_
  refine EN.var (i := 0) (d := PyData.int a_p) C rfl (by walk_at "vis") rfl ?_
  refine AN.cons rfl ?_
  refine EN.var (i := 1) (d := uI a_l) C rfl (by walk_at "vis") rfl ?_
  refine AN.cons rfl ?_
  refine EN.var (i := 3) (d := PyData.int x1) C rfl (by walk_at "vis") rfl ?_
  refine AN.nil ?_
  obtain ⟨x2, ex2, h⟩ := callK_ok h
  refine ⟨_, _, _, _, rfl, ex2, ?_⟩
  show BN X _ [.dat (PyData.int a_p), .dat (uI a_l), .dat (PyData.int a_k0), .dat (PyData.int x1), .dat (uI x2), .no] _
  refine BN.cons ?_
  refine SN.ife ?_
  refine TN.isN ?_
  refine EN.var (i := 4) (d := uI x2) C rfl (by walk_at "vis") rfl ?_
  refine tb_t rfl ?_
  refine Kt.yes ?_
  refine BN.cons ?_
  refine SN.ret ?_
  refine EN.non ?_
  cases h
  exact hQ
theorem ok_first_not_dividing_Q_III {f : Addr} {fd : FuncData} (F : Fun K "_first_not_dividing" "_first_not_dividing" s_first_not_dividing f fd) (B : Blt mg)   : FnG Pg w K mg base (k + 1) f fd ["p", "l", "N"] (spOf K W_first_not_dividing_Q_III) := by
  refine okFn F sc_first_not_dividing (by rintro as Q ⟨a_p, a_l, a_N, r, rfl, h, hQ⟩; rfl) ?_
  rintro X C Fx as Q ⟨a_p, a_l, a_N, r, rfl, h, hQ⟩
  unfold f_first_not_dividing_Q_III at h
  replace h := toO h
  show BN X _ [.dat (PyData.int a_p), .dat (PyData.int a_l), .dat (PyData.int a_N), .no] _
  refine BN.cons ?_
  refine SN.ife ?_
  refine TN.join h ?_ ?_
  · intro J1 h
    refine WN.tn ?_
    refine WN.or ?_
    refine TN.isN ?_
    refine EN.var (i := 1) (d := PyData.int a_l) C rfl (by walk_at "vis") rfl ?_
    refine tb_f rfl ?_
    refine Kt.noo ?_
    refine WN.or1 ?_
    refine TN.join h ?_ ?_
    · intro J2 h
      refine WN.tn ?_
      refine WN.and ?_
      refine TN.eq C ?_
      refine EN.var (i := 0) (d := PyData.int a_p) C rfl (by walk_at "vis") rfl ?_
      refine EN.int ?_
      refine EqT.xx (inj := PyData.int) (x := a_p) (y := 0) Ev.int (by decide) ?_
      refine ⟨fun hb => ?_, fun hb => ?_⟩
      · have h := bK_t hb h
        refine WN.and1 ?_
        refine TN.eq C ?_
        refine EN.mod ?_
        refine EN.var (i := 2) (d := PyData.int a_N) C rfl (by walk_at "vis") rfl ?_
        refine EN.var (i := 1) (d := PyData.int a_l) C rfl (by walk_at "vis") rfl ?_
        obtain ⟨cx3, x3, ex3, h⟩ := modK_ok h
        refine ModI.xx cx3 ex3 ?_
        refine EN.int ?_
        refine EqT.xx (inj := PyData.int) (x := x3) (y := 0) Ev.int (by decide) ?_
        exact h
      · exact bK_f hb h
    · intro b4 h
      exact h
  · intro b5 h
    refine ⟨fun hb => ?_, fun hb => ?_⟩
    · have h := bK_t hb h
      refine BN.cons ?_
      refine SN.ret ?_
      refine EN.non ?_
      cases h
      exact hQ
    · have h := bK_f hb h
      refine BN.nil ?_
      show BN X _ [.dat (PyData.int a_p), .dat (PyData.int a_l), .dat (PyData.int a_N), .no] _
      refine BN.cons ?_
      refine SN.asg (i := 3) C Fx rfl (by walk_at "vis") rfl ?_
      refine EN.var (i := 1) (d := PyData.int a_l) C rfl (by walk_at "vis") rfl ?_
      show BN X _ [.dat (PyData.int a_p), .dat (PyData.int a_l), .dat (PyData.int a_N), .dat (PyData.int a_l)] _
      refine BN.cons ?_
      refine SN.whileK C h (fun (s6 : (Int)) => [.dat (PyData.int a_p), .dat (PyData.int a_l), .dat (PyData.int a_N), .dat (PyData.int s6)]) rfl ?_ ?_ ?_
      · intro s12 h
        show BN X _ [.dat (PyData.int a_p), .dat (PyData.int a_l), .dat (PyData.int a_N), .dat (PyData.int s12)] _
        refine BN.cons ?_
        refine SN.ret ?_
        refine EN.var (i := 3) (d := PyData.int s12) C rfl (by walk_at "vis") rfl ?_
        cases h
        exact hQ
      · intro s6 J9 h
        refine TN.eq C ?_
        refine EN.mod ?_
        refine EN.var (i := 2) (d := PyData.int a_N) C rfl (by walk_at "vis") rfl ?_
        refine EN.var (i := 3) (d := PyData.int s6) C rfl (by walk_at "vis") rfl ?_
        obtain ⟨cx10, x10, ex10, h⟩ := modK_ok h
        refine ModI.xx cx10 ex10 ?_
        refine EN.int ?_
        refine EqT.xx (inj := PyData.int) (x := x10) (y := 0) Ev.int (by decide) ?_
        exact h
      · intro s6 fin7 nx8 h
        show BN X _ [.dat (PyData.int a_p), .dat (PyData.int a_l), .dat (PyData.int a_N), .dat (PyData.int s6)] _
        refine BN.cons ?_
        refine SN.augI iop_mulW (i := 3) C Fx rfl (by walk_at "vis") rfl ?_
        refine EN.var (i := 0) (d := PyData.int a_p) C rfl (by walk_at "vis") rfl ?_
        obtain ⟨cx11, x11, ex11, h⟩ := mulK_ok h
        refine ⟨_, rfl, mulW_c cx11, ?_⟩
        rw [aug_mul ex11]
        show BN X _ [.dat (PyData.int a_p), .dat (PyData.int a_l), .dat (PyData.int a_N), .dat (PyData.int x11)] _
        refine BN.nil ?_
        exact ⟨(x11), rfl, h⟩
theorem ok_next_over_Q_III {f : Addr} {fd : FuncData} (F : Fun K "next_over" "next_over" s_next_over f fd) (B : Blt mg) (T_first_not_dividing_Q_III : Fd Pg w K mg base k "_first_not_dividing" W_first_not_dividing_Q_III)  : FnG Pg w K mg base (k + 1) f fd ["p", "l", "k"] (spOf K W_next_over_Q_III) := by
  refine okFn F sc_next_over (by rintro as Q ⟨a_p, a_l, a_k0, r, rfl, h, hQ⟩; rfl) ?_
  rintro X C Fx as Q ⟨a_p, a_l, a_k0, r, rfl, h, hQ⟩
  unfold f_next_over_Q_III at h
  replace h := toO h
  show BN X _ [.dat (PyData.int a_p), .dat (PyData.int a_l), .dat (PyData.int a_k0), .no, .no, .no] _
  refine BN.cons ?_
  refine SN.asg (i := 3) C Fx rfl (by walk_at "vis") rfl ?_
  refine EN.add ?_
  refine EN.var (i := 2) (d := PyData.int a_k0) C rfl (by walk_at "vis") rfl ?_
  refine EN.int ?_
  obtain ⟨x1, ex1, h⟩ := letK_ok h
  refine AddD.xx ex1 ?_
  show BN X _ [.dat (PyData.int a_p), .dat (PyData.int a_l), .dat (PyData.int a_k0), .dat (PyData.int x1), .no, .no] _
  refine BN.cons ?_
  refine SN.asg (i := 4) C Fx rfl (by walk_at "vis") rfl ?_
  refine EN.call C T_first_not_dividing_Q_III (by omega) rfl ?_ rfl rfl
  refine AN.cons rfl ?_
  refine EN.var (i := 0) (d := PyData.int a_p) C rfl (by walk_at "vis") rfl ?_
  refine AN.cons rfl ?_
  refine EN.var (i := 1) (d := PyData.int a_l) C rfl (by walk_at "vis") rfl ?_
  refine AN.cons rfl ?_
  refine EN.var (i := 3) (d := PyData.int x1) C rfl (by walk_at "vis") rfl ?_
  refine AN.nil ?_
  obtain ⟨x2, ex2, h⟩ := callK_ok h
  refine ⟨_, _, _, _, rfl, ex2, ?_⟩
  rcases x2 with _ | x3
  · have h := optK_n h
    show BN X _ [.dat (PyData.int a_p), .dat (PyData.int a_l), .dat (PyData.int a_k0), .dat (PyData.int x1), .dat (uI ()), .no] _
    refine BN.cons ?_
    refine SN.ife ?_
    refine TN.isN ?_
    refine EN.var (i := 4) (d := uI ()) C rfl (by walk_at "vis") rfl ?_
    refine tb_t rfl ?_
    refine Kt.yes ?_
    refine BN.cons ?_
    refine SN.ret ?_
    refine EN.non ?_
    cases h
    exact hQ
  · have h := optK_s h
    show BN X _ [.dat (PyData.int a_p), .dat (PyData.int a_l), .dat (PyData.int a_k0), .dat (PyData.int x1), .dat (PyData.int x3), .no] _
    refine BN.cons ?_
    refine SN.ife ?_
    refine TN.isN ?_
    refine EN.var (i := 4) (d := PyData.int x3) C rfl (by walk_at "vis") rfl ?_
    refine tb_f rfl ?_
    refine Kt.noo ?_
    refine BN.nil ?_
    show BN X _ [.dat (PyData.int a_p), .dat (PyData.int a_l), .dat (PyData.int a_k0), .dat (PyData.int x1), .dat (PyData.int x3), .no] _
    refine BN.cons ?_
    refine SN.asg (i := 5) C Fx rfl (by walk_at "vis") rfl ?_
    refine EN.add ?_
    refine EN.mul ?_
    refine EN.div ?_
    refine EN.var (i := 3) (d := PyData.int x1) C rfl (by walk_at "vis") rfl ?_
    refine EN.var (i := 4) (d := PyData.int x3) C rfl (by walk_at "vis") rfl ?_
    obtain ⟨cx4, x4, ex4, h⟩ := divK_ok h
    refine DivI.xx cx4 ex4 ?_
    refine EN.var (i := 4) (d := PyData.int x3) C rfl (by walk_at "vis") rfl ?_
    obtain ⟨cx5, x5, ex5, h⟩ := mulK_ok h
    refine MulD.xx cx5 ex5 ?_
    refine EN.var (i := 4) (d := PyData.int x3) C rfl (by walk_at "vis") rfl ?_
    obtain ⟨x6, ex6, h⟩ := letK_ok h
    refine AddD.xx ex6 ?_
    show BN X _ [.dat (PyData.int a_p), .dat (PyData.int a_l), .dat (PyData.int a_k0), .dat (PyData.int x1), .dat (PyData.int x3), .dat (PyData.int x6)] _
    refine BN.cons ?_
    refine SN.ret ?_
    refine EN.sub ?_
    refine EN.sub ?_
    refine EN.mul ?_
    refine EN.int ?_
    refine EN.var (i := 5) (d := PyData.int x6) C rfl (by walk_at "vis") rfl ?_
    obtain ⟨cx7, x7, ex7, h⟩ := mulK_ok h
    refine MulD.xx cx7 ex7 ?_
    refine EN.var (i := 3) (d := PyData.int x1) C rfl (by walk_at "vis") rfl ?_
    obtain ⟨x8, ex8, h⟩ := letK_ok h
    refine SubI.xx ex8 ?_
    refine EN.int ?_
    obtain ⟨x9, ex9, h⟩ := letK_ok h
    refine SubI.xx ex9 ?_
    cases h
    exact hQ
theorem ok_next_over_Q_INI_or_next_over_Q_III {f : Addr} {fd : FuncData} (F : Fun K "next_over" "next_over" s_next_over f fd) (B : Blt mg) (T_first_not_dividing_Q_INI : Fd Pg w K mg base k "_first_not_dividing" W_first_not_dividing_Q_INI) (T_first_not_dividing_Q_III : Fd Pg w K mg base k "_first_not_dividing" W_first_not_dividing_Q_III)  : FnG Pg w K mg base (k + 1) f fd ["p", "l", "k"] (spOf K W_next_over_Q_INI_or_next_over_Q_III) := FnG.or (ok_next_over_Q_INI F B T_first_not_dividing_Q_INI) (ok_next_over_Q_III F B T_first_not_dividing_Q_III)
theorem ok_keeps_all_Q_ITIIeII {f : Addr} {fd : FuncData} (F : Fun K "keeps_all" "keeps_all" s_keeps_all f fd) (B : Blt mg) (T_length_Q_ITIIe : Fd Pg w K mg base k "length" W_length_Q_ITIIe) (T_next_over_Q_INI_or_next_over_Q_III : Fd Pg w K mg base k "next_over" W_next_over_Q_INI_or_next_over_Q_III)  : FnG Pg w K mg base (k + 1) f fd ["p", "d", "n", "k"] (spOf K W_keeps_all_Q_ITIIeII) := by
  refine okFn F sc_keeps_all (by rintro as Q ⟨a_p, a_d, a_n, a_k0, r, rfl, h, hQ⟩; rfl) ?_
  rintro X C Fx as Q ⟨a_p, a_d, a_n, a_k0, r, rfl, h, hQ⟩
  unfold f_keeps_all_Q_ITIIeII at h
  replace h := toO h
  show BN X _ [.dat (PyData.int a_p), .dat ((pI PyData.int PyData.int) a_d), .dat (PyData.int a_n), .dat (PyData.int a_k0), .no] _
  refine BN.cons ?_
  refine SN.asg (i := 4) C Fx rfl (by walk_at "vis") rfl ?_
  refine EN.call C T_next_over_Q_INI_or_next_over_Q_III (by omega) rfl ?_ rfl rfl
  refine AN.cons rfl ?_
  refine EN.var (i := 0) (d := PyData.int a_p) C rfl (by walk_at "vis") rfl ?_
  refine AN.cons rfl ?_
  refine EN.call C T_length_Q_ITIIe (by omega) rfl ?_ rfl rfl
  refine AN.cons rfl ?_
  refine EN.var (i := 0) (d := PyData.int a_p) C rfl (by walk_at "vis") rfl ?_
  refine AN.cons rfl ?_
  refine EN.var (i := 1) (d := (pI PyData.int PyData.int) a_d) C rfl (by walk_at "vis") rfl ?_
  refine AN.nil ?_
  obtain ⟨x1, ex1, h⟩ := callK_ok h
  refine ⟨_, _, _, rfl, ex1, ?_⟩
  rcases x1 with _ | x2
  · have h := optK_n h
    refine AN.cons rfl ?_
    refine EN.var (i := 3) (d := PyData.int a_k0) C rfl (by walk_at "vis") rfl ?_
    refine AN.nil ?_
    obtain ⟨x3, ex3, h⟩ := callK_ok h
    refine Or.inl ⟨_, _, _, _, rfl, ex3, ?_⟩
    show BN X _ [.dat (PyData.int a_p), .dat ((pI PyData.int PyData.int) a_d), .dat (PyData.int a_n), .dat (PyData.int a_k0), .dat (uI x3)] _
    refine BN.cons ?_
    refine SN.ret ?_
    refine EN.join h PyData.bool ?_ ?_
    · intro J4 h
      refine EN.or ?_
      refine EN.isN ?_
      refine EN.var (i := 4) (d := uI x3) C rfl (by walk_at "vis") rfl ?_
      refine ⟨true, rfl, fun _ => ?_, fun hb => Bool.noConfusion hb⟩
      exact ⟨_, rfl, h⟩
    · intro b5 h
      cases h
      exact hQ
  · have h := optK_s h
    refine AN.cons rfl ?_
    refine EN.var (i := 3) (d := PyData.int a_k0) C rfl (by walk_at "vis") rfl ?_
    refine AN.nil ?_
    obtain ⟨x6, ex6, h⟩ := callK_ok h
    refine Or.inr ⟨_, _, _, _, rfl, ex6, ?_⟩
    rcases x6 with _ | x7
    · have h := optK_n h
      show BN X _ [.dat (PyData.int a_p), .dat ((pI PyData.int PyData.int) a_d), .dat (PyData.int a_n), .dat (PyData.int a_k0), .dat (uI ())] _
      refine BN.cons ?_
      refine SN.ret ?_
      refine EN.join h PyData.bool ?_ ?_
      · intro J8 h
        refine EN.or ?_
        refine EN.isN ?_
        refine EN.var (i := 4) (d := uI ()) C rfl (by walk_at "vis") rfl ?_
        refine ⟨true, rfl, fun _ => ?_, fun hb => Bool.noConfusion hb⟩
        exact ⟨_, rfl, h⟩
      · intro b9 h
        cases h
        exact hQ
    · have h := optK_s h
      show BN X _ [.dat (PyData.int a_p), .dat ((pI PyData.int PyData.int) a_d), .dat (PyData.int a_n), .dat (PyData.int a_k0), .dat (PyData.int x7)] _
      refine BN.cons ?_
      refine SN.ret ?_
      refine EN.join h PyData.bool ?_ ?_
      · intro J10 h
        refine EN.or ?_
        refine EN.isN ?_
        refine EN.var (i := 4) (d := PyData.int x7) C rfl (by walk_at "vis") rfl ?_
        refine ⟨false, rfl, fun hb => Bool.noConfusion hb, fun _ => ?_⟩
        refine EN.one ?_
        refine EN.gt ?_
        refine EN.var (i := 4) (d := PyData.int x7) C rfl (by walk_at "vis") rfl ?_
        refine EN.var (i := 2) (d := PyData.int a_n) C rfl (by walk_at "vis") rfl ?_
        refine IbGt ?_
        exact ⟨_, rfl, h⟩
      · intro b11 h
        cases h
        exact hQ
theorem ok_law_draw_far_Q_II {f : Addr} {fd : FuncData} (F : Fun K "_law_draw_far" "_law_draw_far" s_law_draw_far f fd) (B : Blt mg) (T_law_pick : Fd Pg w K mg base k "_law_pick" W_law_pick)  : FnG Pg w K mg base (k + 1) f fd ["source", "p", "l"] (spOf K W_law_draw_far_Q_II) := by
  refine okFn F sc_law_draw_far (by rintro as Q ⟨a_p, a_l, kk, rfl, h, hQ⟩; rfl) ?_
  rintro X C Fx as Q ⟨a_p, a_l, kk, rfl, h, hQ⟩
  unfold f_law_draw_far_Q_II at h
  replace h := toP h
  show BN X _ [.src, .dat (PyData.int a_p), .dat (PyData.int a_l), .no, .no, .no, .no] _
  refine BN.cons ?_
  refine SN.par2 (i := 3) (j := 4) C rfl rfl (by decide) rfl rfl (by rintro ⟨⟩ ⟨⟩; rfl) rfl ?_
  refine XA.dat rfl ?_
  refine EN.int ?_
  refine XA.dat rfl ?_
  refine EN.call C T_law_pick (by omega) rfl ?_ rfl rfl
  refine AN.src (i := 0) C rfl (by walk_at "vis") rfl rfl ?_
  refine AN.cons rfl ?_
  refine EN.int ?_
  refine AN.nil ?_
  refine ⟨_, rfl, h.1, fun x1 r0 r1 => ?_⟩
  replace h := h.2 x1 r0 r1
  replace h := toP h
  refine XA.nil ?_
  refine ⟨rfl, ?_⟩
  show BN X _ [.src, .dat (PyData.int a_p), .dat (PyData.int a_l), .dat (PyData.int 1), .dat (PyData.int x1), .no, .no] _
  refine BN.cons ?_
  refine SN.for C (fun _ => rfl) ?_
  refine IN.r1 C rfl B.range rfl rfl ?_
  refine EN.call C T_law_pick (by omega) rfl ?_ rfl rfl
  refine AN.src (i := 0) C rfl (by walk_at "vis") rfl rfl ?_
  refine AN.cons rfl ?_
  refine EN.dix (kvs := [(0, 40), (2, 80), (3, 50), (5, 36), (7, 30), (11, 25), (13, 24)]) C (pps_cons pe_int pe_int (pps_cons pe_int pe_int (pps_cons pe_int pe_int (pps_cons pe_int pe_int (pps_cons pe_int pe_int (pps_cons pe_int pe_int (pps_cons pe_int pe_int pps_nil))))))) rfl rfl rfl (by decide) (by decide) (by decide) (fun _ _ => rfl) ?_
  refine EN.var (i := 1) (d := PyData.int a_p) C rfl (by walk_at "vis") rfl ?_
  obtain ⟨x5, ex5, h⟩ := callK_ok h
  refine ⟨_, _, rfl, ex5, ?_⟩
  refine AN.nil ?_
  refine ⟨_, rfl, h.1, fun x6 r0 r1 => ?_⟩
  replace h := h.2 x6 r0 r1
  replace h := toP h
  obtain ⟨cx7, x7, ex7, h⟩ := rng1K_ok h
  refine ⟨_, rfl, cx7.1, cx7.2, ?_⟩
  rw [rng1_r ex7]
  refine forK_in h PyData.int (fun (s2 : (Int)) => [.src, .dat (PyData.int a_p), .dat (PyData.int a_l), .dat (PyData.int s2), .dat (PyData.int x1), .no, .no]) rfl ?_ ?_
  · intro s16 h
    show BN X _ [.src, .dat (PyData.int a_p), .dat (PyData.int a_l), .dat (PyData.int s16), .dat (PyData.int x1), .no, .no] _
    refine BN.cons ?_
    refine SN.asg (i := 3) C Fx rfl (by walk_at "vis") rfl ?_
    refine EN.sub ?_
    refine EN.mul ?_
    refine EN.var (i := 3) (d := PyData.int s16) C rfl (by walk_at "vis") rfl ?_
    refine EN.add ?_
    refine EN.int ?_
    refine EN.call C T_law_pick (by omega) rfl ?_ rfl rfl
    refine AN.src (i := 0) C rfl (by walk_at "vis") rfl rfl ?_
    refine AN.cons rfl ?_
    refine EN.sub ?_
    refine EN.max2 C rfl B.max ?_ rfl rfl rfl
    refine EN.int ?_
    refine EN.var (i := 1) (d := PyData.int a_p) C rfl (by walk_at "vis") rfl ?_
    obtain ⟨x17, ex17, h⟩ := letK_ok h
    refine ⟨_, _, rfl, rfl, ?_⟩
    rw [max_r ex17]
    refine EN.int ?_
    obtain ⟨x18, ex18, h⟩ := letK_ok h
    refine SubI.xx ex18 ?_
    refine AN.nil ?_
    refine ⟨_, rfl, h.1, fun x19 r0 r1 => ?_⟩
    replace h := h.2 x19 r0 r1
    replace h := toP h
    obtain ⟨x20, ex20, h⟩ := letK_ok h
    refine AddD.xx ex20 ?_
    obtain ⟨cx21, x21, ex21, h⟩ := mulK_ok h
    refine MulD.xx cx21 ex21 ?_
    refine EN.int ?_
    obtain ⟨x22, ex22, h⟩ := letK_ok h
    refine SubI.xx ex22 ?_
    show BN X _ [.src, .dat (PyData.int a_p), .dat (PyData.int a_l), .dat (PyData.int x22), .dat (PyData.int x1), .no, .no] _
    refine BN.cons ?_
    refine SN.join h (fun (s24 : (Int)) => [.src, .dat (PyData.int a_p), .dat (PyData.int a_l), .dat (PyData.int s24), .dat (PyData.int x1), .no, .no]) ?_ ?_
    · intro J23 h
      refine SN.ife ?_
      refine TN.eq C ?_
      refine EN.var (i := 4) (d := PyData.int x1) C rfl (by walk_at "vis") rfl ?_
      refine EN.int ?_
      refine EqT.xx (inj := PyData.int) (x := x1) (y := 1) Ev.int (by decide) ?_
      refine ⟨fun hb => ?_, fun hb => ?_⟩
      · have h := bK_t hb h
        refine BN.cons ?_
        refine SN.asg (i := 6) C Fx rfl (by walk_at "vis") rfl ?_
        refine EN.add ?_
        refine EN.int ?_
        refine EN.call C T_law_pick (by omega) rfl ?_ rfl rfl
        refine AN.src (i := 0) C rfl (by walk_at "vis") rfl rfl ?_
        refine AN.cons rfl ?_
        refine EN.int ?_
        refine AN.nil ?_
        refine ⟨_, rfl, h.1, fun x25 r0 r1 => ?_⟩
        replace h := h.2 x25 r0 r1
        replace h := toP h
        obtain ⟨x26, ex26, h⟩ := letK_ok h
        refine AddD.xx ex26 ?_
        show BN X _ [.src, .dat (PyData.int a_p), .dat (PyData.int a_l), .dat (PyData.int x22), .dat (PyData.int x1), .no, .dat (PyData.int x26)] _
        refine BN.cons ?_
        refine SN.for C (fun _ => rfl) ?_
        refine IN.r1 C rfl B.range rfl rfl ?_
        refine EN.call C T_law_pick (by omega) rfl ?_ rfl rfl
        refine AN.src (i := 0) C rfl (by walk_at "vis") rfl rfl ?_
        refine AN.cons rfl ?_
        refine EN.int ?_
        refine AN.nil ?_
        refine ⟨_, rfl, h.1, fun x30 r0 r1 => ?_⟩
        replace h := h.2 x30 r0 r1
        replace h := toP h
        obtain ⟨cx31, x31, ex31, h⟩ := rng1K_ok h
        refine ⟨_, rfl, cx31.1, cx31.2, ?_⟩
        rw [rng1_r ex31]
        refine forK_in h PyData.int (fun (s27 : (Int)) => [.src, .dat (PyData.int a_p), .dat (PyData.int a_l), .dat (PyData.int x22), .dat (PyData.int x1), .no, .dat (PyData.int s27)]) rfl ?_ ?_
        · intro s40 h
          show BN X _ [.src, .dat (PyData.int a_p), .dat (PyData.int a_l), .dat (PyData.int x22), .dat (PyData.int x1), .no, .dat (PyData.int s40)] _
          refine BN.cons ?_
          refine SN.asg (i := 3) C Fx rfl (by walk_at "vis") rfl ?_
          refine EN.add ?_
          refine EN.var (i := 3) (d := PyData.int x22) C rfl (by walk_at "vis") rfl ?_
          refine EN.var (i := 6) (d := PyData.int s40) C rfl (by walk_at "vis") rfl ?_
          obtain ⟨x41, ex41, h⟩ := letK_ok h
          refine AddD.xx ex41 ?_
          show BN X _ [.src, .dat (PyData.int a_p), .dat (PyData.int a_l), .dat (PyData.int x41), .dat (PyData.int x1), .no, .dat (PyData.int s40)] _
          refine BN.wk (ρ' := [.src, .dat (PyData.int a_p), .dat (PyData.int a_l), .dat (PyData.int x41), .dat (PyData.int x1), .no, .no]) (.eq (.eq (.eq (.eq (.eq (.eq (.no .nil))))))) ?_
          refine BN.nil ?_
          exact ⟨(x41), rfl, h⟩
        · intro x32 s27 fin28 nx29 h
          refine GN.name (i := 5) C rfl (by walk_at "vis") (Or.inl (Fx _)) ?_
          show BN X _ [.src, .dat (PyData.int a_p), .dat (PyData.int a_l), .dat (PyData.int x22), .dat (PyData.int x1), .dat (PyData.int x32), .dat (PyData.int s27)] _
          show BN X _ [.src, .dat (PyData.int a_p), .dat (PyData.int a_l), .dat (PyData.int x22), .dat (PyData.int x1), .dat (PyData.int x32), .dat (PyData.int s27)] _
          refine BN.cons ?_
          refine SN.asg (i := 6) C Fx rfl (by walk_at "vis") rfl ?_
          refine EN.mul ?_
          refine EN.var (i := 6) (d := PyData.int s27) C rfl (by walk_at "vis") rfl ?_
          refine EN.join h PyData.int ?_ ?_
          · intro J33 h
            refine EN.ife ?_
            refine TN.join h ?_ ?_
            · intro J36 h
              refine WN.tn ?_
              refine WN.and ?_
              refine TN.gt ?_
              refine EN.var (i := 1) (d := PyData.int a_p) C rfl (by walk_at "vis") rfl ?_
              refine EN.int ?_
              refine IbGt ?_
              refine ⟨fun hb => ?_, fun hb => ?_⟩
              · have h := bK_t hb h
                refine WN.and1 ?_
                refine TN.gt ?_
                refine EN.var (i := 5) (d := PyData.int x32) C rfl (by walk_at "vis") rfl ?_
                refine EN.int ?_
                refine IbGt ?_
                exact h
              · exact bK_f hb h
            · intro b37 h
              refine ⟨fun hb => ?_, fun hb => ?_⟩
              · have h := bK_t hb h
                refine EN.var (i := 1) (d := PyData.int a_p) C rfl (by walk_at "vis") rfl ?_
                exact ⟨a_p, rfl, h⟩
              · have h := bK_f hb h
                refine EN.ife ?_
                refine TN.notN ?_
                refine EN.var (i := 2) (d := PyData.int a_l) C rfl (by walk_at "vis") rfl ?_
                refine tb_t rfl ?_
                refine Kt.yes ?_
                refine EN.var (i := 2) (d := PyData.int a_l) C rfl (by walk_at "vis") rfl ?_
                exact ⟨a_l, rfl, h⟩
          · intro x38 h
            obtain ⟨cx39, x39, ex39, h⟩ := mulK_ok h
            refine MulD.xx cx39 ex39 ?_
            show BN X _ [.src, .dat (PyData.int a_p), .dat (PyData.int a_l), .dat (PyData.int x22), .dat (PyData.int x1), .dat (PyData.int x32), .dat (PyData.int x39)] _
            refine BN.wk (ρ' := [.src, .dat (PyData.int a_p), .dat (PyData.int a_l), .dat (PyData.int x22), .dat (PyData.int x1), .no, .dat (PyData.int x39)]) (.eq (.eq (.eq (.eq (.eq (.no (.eq .nil))))))) ?_
            refine BN.nil ?_
            exact ⟨(x39), rfl, h⟩
      · have h := bK_f hb h
        refine BN.nil ?_
        exact ⟨(x22), rfl, h⟩
    · intro s24 h
      show BN X _ [.src, .dat (PyData.int a_p), .dat (PyData.int a_l), .dat (PyData.int s24), .dat (PyData.int x1), .no, .no] _
      refine BN.cons ?_
      refine SN.ret ?_
      refine EN.max2 C rfl B.max ?_ rfl rfl rfl
      refine EN.int ?_
      refine EN.join h PyData.int ?_ ?_
      · intro J42 h
        refine EN.ife ?_
        refine TN.lt ?_
        refine EN.var (i := 4) (d := PyData.int x1) C rfl (by walk_at "vis") rfl ?_
        refine EN.int ?_
        refine IbLt ?_
        refine ⟨fun hb => ?_, fun hb => ?_⟩
        · have h := bK_t hb h
          refine EN.var (i := 3) (d := PyData.int s24) C rfl (by walk_at "vis") rfl ?_
          exact ⟨s24, rfl, h⟩
        · have h := bK_f hb h
          refine EN.mul ?_
          refine EN.call C T_law_pick (by omega) rfl ?_ rfl rfl
          refine AN.src (i := 0) C rfl (by walk_at "vis") rfl rfl ?_
          refine AN.cons rfl ?_
          refine EN.pow ?_
          refine EN.int ?_
          refine EN.int ?_
          refine PowI.v (n := 1000000000000) ⟨by decide, by decide, by decide⟩ (by decide +kernel) ?_
          refine AN.nil ?_
          refine ⟨_, rfl, h.1, fun x46 r0 r1 => ?_⟩
          replace h := h.2 x46 r0 r1
          replace h := toP h
          refine EN.call C T_law_pick (by omega) rfl ?_ rfl rfl
          refine AN.src (i := 0) C rfl (by walk_at "vis") rfl rfl ?_
          refine AN.cons rfl ?_
          refine EN.pow ?_
          refine EN.int ?_
          refine EN.int ?_
          refine PowI.v (n := 1000000000000) ⟨by decide, by decide, by decide⟩ (by decide +kernel) ?_
          refine AN.nil ?_
          refine ⟨_, rfl, h.1, fun x47 r0 r1 => ?_⟩
          replace h := h.2 x47 r0 r1
          replace h := toP h
          obtain ⟨cx48, x48, ex48, h⟩ := mulK_ok h
          refine MulD.xx cx48 ex48 ?_
          exact ⟨x48, rfl, h⟩
      · intro x49 h
        obtain ⟨x50, ex50, h⟩ := letK_ok h
        refine ⟨_, _, rfl, rfl, ?_⟩
        rw [max_r ex50]
        exact hQ _ h
  · intro x8 s2 fin3 nx4 h
    refine GN.name (i := 5) C rfl (by walk_at "vis") (Or.inl (Fx _)) ?_
    show BN X _ [.src, .dat (PyData.int a_p), .dat (PyData.int a_l), .dat (PyData.int s2), .dat (PyData.int x1), .dat (PyData.int x8), .no] _
    show BN X _ [.src, .dat (PyData.int a_p), .dat (PyData.int a_l), .dat (PyData.int s2), .dat (PyData.int x1), .dat (PyData.int x8), .no] _
    refine BN.cons ?_
    refine SN.asg (i := 3) C Fx rfl (by walk_at "vis") rfl ?_
    refine EN.mul ?_
    refine EN.var (i := 3) (d := PyData.int s2) C rfl (by walk_at "vis") rfl ?_
    refine EN.join h PyData.int ?_ ?_
    · intro J9 h
      refine EN.ife ?_
      refine TN.join h ?_ ?_
      · intro J12 h
        refine WN.tn ?_
        refine WN.and ?_
        refine TN.gt ?_
        refine EN.var (i := 1) (d := PyData.int a_p) C rfl (by walk_at "vis") rfl ?_
        refine EN.int ?_
        refine IbGt ?_
        refine ⟨fun hb => ?_, fun hb => ?_⟩
        · have h := bK_t hb h
          refine WN.and1 ?_
          refine TN.gt ?_
          refine EN.var (i := 5) (d := PyData.int x8) C rfl (by walk_at "vis") rfl ?_
          refine EN.int ?_
          refine IbGt ?_
          exact h
        · exact bK_f hb h
      · intro b13 h
        refine ⟨fun hb => ?_, fun hb => ?_⟩
        · have h := bK_t hb h
          refine EN.var (i := 1) (d := PyData.int a_p) C rfl (by walk_at "vis") rfl ?_
          exact ⟨a_p, rfl, h⟩
        · have h := bK_f hb h
          refine EN.ife ?_
          refine TN.notN ?_
          refine EN.var (i := 2) (d := PyData.int a_l) C rfl (by walk_at "vis") rfl ?_
          refine tb_t rfl ?_
          refine Kt.yes ?_
          refine EN.var (i := 2) (d := PyData.int a_l) C rfl (by walk_at "vis") rfl ?_
          exact ⟨a_l, rfl, h⟩
    · intro x14 h
      obtain ⟨cx15, x15, ex15, h⟩ := mulK_ok h
      refine MulD.xx cx15 ex15 ?_
      show BN X _ [.src, .dat (PyData.int a_p), .dat (PyData.int a_l), .dat (PyData.int x15), .dat (PyData.int x1), .dat (PyData.int x8), .no] _
      refine BN.wk (ρ' := [.src, .dat (PyData.int a_p), .dat (PyData.int a_l), .dat (PyData.int x15), .dat (PyData.int x1), .no, .no]) (.eq (.eq (.eq (.eq (.eq (.no (.eq .nil))))))) ?_
      refine BN.nil ?_
      exact ⟨(x15), rfl, h⟩
theorem ok_parts_Q_IIvI {f : Addr} {fd : FuncData} (F : Fun K "_parts" "_parts" s_parts f fd) (B : Blt mg)   : FnG Pg w K mg base (k + 1) f fd ["p", "l", "told"] (spOf K W_parts_Q_IIvI) := by
  refine okFn F sc_parts (by rintro as Q ⟨a_p, a_l, a_told, r, rfl, h, hQ⟩; rfl) ?_
  rintro X C Fx as Q ⟨a_p, a_l, a_told, r, rfl, h, hQ⟩
  unfold f_parts_Q_IIvI at h
  replace h := toO h
  show BN X _ [.dat (PyData.int a_p), .dat (PyData.int a_l), .dat ((vI PyData.int) a_told), .no, .no, .no] _
  refine BN.cons ?_
  refine SN.asgN (i := 3) C Fx rfl (by walk_at "vis") (by rintro ⟨⟩ ⟨⟩; rfl) ?_
  refine NN.lst ?_
  refine LN.nil ?_
  refine ⟨Nat.le_of_ble_eq_true rfl, ?_⟩
  show BN X _ [.dat (PyData.int a_p), .dat (PyData.int a_l), .dat ((vI PyData.int) a_told), .own ((([] : List Int)).map PyData.int), .no, .no] _
  refine BN.cons ?_
  refine SN.asg (i := 4) C Fx rfl (by walk_at "vis") rfl ?_
  refine EN.int ?_
  show BN X _ [.dat (PyData.int a_p), .dat (PyData.int a_l), .dat ((vI PyData.int) a_told), .own ((([] : List Int)).map PyData.int), .dat (PyData.int 1), .no] _
  refine BN.cons ?_
  refine SN.for C (fun _ => rfl) ?_
  refine IN.seq ?_
  refine EN.var (i := 2) (d := (vI PyData.int) a_told) C rfl (by walk_at "vis") rfl ?_
  refine SeqD.t ?_
  refine forK_in h PyData.int (fun (s1 : ((List Int) × Int)) => [.dat (PyData.int a_p), .dat (PyData.int a_l), .dat ((vI PyData.int) a_told), .own (((s1).1).map PyData.int), .dat (PyData.int (s1).2), .no]) rfl ?_ ?_
  · intro s13 h
    show BN X _ [.dat (PyData.int a_p), .dat (PyData.int a_l), .dat ((vI PyData.int) a_told), .own (((s13).1).map PyData.int), .dat (PyData.int (s13).2), .no] _
    refine BN.freeze (i := 3) rfl ?_
    show BN X _ [.dat (PyData.int a_p), .dat (PyData.int a_l), .dat ((vI PyData.int) a_told), .dat ((lI PyData.int) (s13).1), .dat (PyData.int (s13).2), .no] _
    refine BN.cons ?_
    refine SN.ret ?_
    refine EN.var (i := 3) (d := (lI PyData.int) (s13).1) C rfl (by walk_at "vis") rfl ?_
    cases h
    exact hQ
  · intro x4 s1 fin2 nx3 h
    refine GN.name (i := 5) C rfl (by walk_at "vis") (Or.inl (Fx _)) ?_
    show BN X _ [.dat (PyData.int a_p), .dat (PyData.int a_l), .dat ((vI PyData.int) a_told), .own (((s1).1).map PyData.int), .dat (PyData.int (s1).2), .dat (PyData.int x4)] _
    show BN X _ [.dat (PyData.int a_p), .dat (PyData.int a_l), .dat ((vI PyData.int) a_told), .own (((s1).1).map PyData.int), .dat (PyData.int (s1).2), .dat (PyData.int x4)] _
    refine BN.cons ?_
    refine SN.app (i := 3) C rfl (by walk_at "vis") rfl ?_ rfl rfl rfl rfl rfl rfl
    refine EN.mul ?_
    refine EN.var (i := 5) (d := PyData.int x4) C rfl (by walk_at "vis") rfl ?_
    refine EN.var (i := 4) (d := PyData.int (s1).2) C rfl (by walk_at "vis") rfl ?_
    obtain ⟨cx5, x5, ex5, h⟩ := mulK_ok h
    refine MulD.xx cx5 ex5 ?_
    obtain ⟨cx6, h⟩ := chkK_ok h
    obtain ⟨x6, ex6, h⟩ := letK_ok h
    refine ⟨app_c (inj := PyData.int) cx6, ?_⟩
    rw [app_r (inj := PyData.int) ex6]
    show BN X _ [.dat (PyData.int a_p), .dat (PyData.int a_l), .dat ((vI PyData.int) a_told), .own ((x6).map PyData.int), .dat (PyData.int (s1).2), .dat (PyData.int x4)] _
    refine BN.cons ?_
    refine SN.asg (i := 4) C Fx rfl (by walk_at "vis") rfl ?_
    refine EN.join h PyData.int ?_ ?_
    · intro J7 h
      refine EN.ife ?_
      refine TN.eq C ?_
      refine EN.lenO (i := 3) C rfl B.len rfl (by walk_at "vis") rfl ?_ rfl rfl
      obtain ⟨x10, ex10, h⟩ := letK_ok h
      rw [len_r (inj := PyData.int) (xs := x6) ex10]
      refine EN.int ?_
      refine EqT.xx (inj := PyData.int) (x := x10) (y := 1) Ev.int (by decide) ?_
      refine ⟨fun hb => ?_, fun hb => ?_⟩
      · have h := bK_t hb h
        refine EN.var (i := 1) (d := PyData.int a_l) C rfl (by walk_at "vis") rfl ?_
        exact ⟨a_l, rfl, h⟩
      · have h := bK_f hb h
        refine EN.mul ?_
        refine EN.var (i := 4) (d := PyData.int (s1).2) C rfl (by walk_at "vis") rfl ?_
        refine EN.var (i := 0) (d := PyData.int a_p) C rfl (by walk_at "vis") rfl ?_
        obtain ⟨cx11, x11, ex11, h⟩ := mulK_ok h
        refine MulD.xx cx11 ex11 ?_
        exact ⟨x11, rfl, h⟩
    · intro x12 h
      show BN X _ [.dat (PyData.int a_p), .dat (PyData.int a_l), .dat ((vI PyData.int) a_told), .own ((x6).map PyData.int), .dat (PyData.int x12), .dat (PyData.int x4)] _
      refine BN.wk (ρ' := [.dat (PyData.int a_p), .dat (PyData.int a_l), .dat ((vI PyData.int) a_told), .own ((x6).map PyData.int), .dat (PyData.int x12), .no]) (.eq (.eq (.eq (.eq (.eq (.no .nil)))))) ?_
      refine BN.nil ?_
      exact ⟨(x6, x12), rfl, h⟩
theorem ok_of_digits_Q_IIvI {f : Addr} {fd : FuncData} (F : Fun K "of_digits" "of_digits" s_of_digits f fd) (B : Blt mg) (T_parts_Q_IIvI : Fd Pg w K mg base k "_parts" W_parts_Q_IIvI)  : FnG Pg w K mg base (k + 1) f fd ["p", "l", "told"] (spOf K W_of_digits_Q_IIvI) := by
  refine okFn F sc_of_digits (by rintro as Q ⟨a_p, a_l, a_told, r, rfl, h, hQ⟩; rfl) ?_
  rintro X C Fx as Q ⟨a_p, a_l, a_told, r, rfl, h, hQ⟩
  unfold f_of_digits_Q_IIvI at h
  replace h := toO h
  show BN X _ [.dat (PyData.int a_p), .dat (PyData.int a_l), .dat ((vI PyData.int) a_told)] _
  refine BN.cons ?_
  refine SN.ret ?_
  refine EN.sum C rfl B.sum ?_ rfl rfl
  refine EN.call C T_parts_Q_IIvI (by omega) rfl ?_ rfl rfl
  refine AN.cons rfl ?_
  refine EN.var (i := 0) (d := PyData.int a_p) C rfl (by walk_at "vis") rfl ?_
  refine AN.cons rfl ?_
  refine EN.var (i := 1) (d := PyData.int a_l) C rfl (by walk_at "vis") rfl ?_
  refine AN.cons rfl ?_
  refine EN.var (i := 2) (d := (vI PyData.int) a_told) C rfl (by walk_at "vis") rfl ?_
  refine AN.nil ?_
  obtain ⟨x1, ex1, h⟩ := callK_ok h
  refine ⟨_, _, _, _, rfl, ex1, ?_⟩
  obtain ⟨x2, ex2, h⟩ := letK_ok h
  refine ⟨x1, rfl, ?_⟩
  rw [sum_r ex2]
  cases h
  exact hQ
theorem ok_support_Q_III {f : Addr} {fd : FuncData} (F : Fun K "support" "support" s_support f fd) (B : Blt mg) (T_digits_Q_III : Fd Pg w K mg base k "digits" W_digits_Q_III) (T_parts_Q_IIvI : Fd Pg w K mg base k "_parts" W_parts_Q_IIvI)  : FnG Pg w K mg base (k + 1) f fd ["p", "l", "N"] (spOf K W_support_Q_III) := by
  refine okFn F sc_support (by rintro as Q ⟨a_p, a_l, a_N, r, rfl, h, hQ⟩; rfl) ?_
  rintro X C Fx as Q ⟨a_p, a_l, a_N, r, rfl, h, hQ⟩
  unfold f_support_Q_III at h
  replace h := toO h
  show BN X _ [.dat (PyData.int a_p), .dat (PyData.int a_l), .dat (PyData.int a_N), .no, .no, .no, .no] _
  refine BN.cons ?_
  refine SN.asg (i := 3) C Fx rfl (by walk_at "vis") rfl ?_
  refine EN.call C T_parts_Q_IIvI (by omega) rfl ?_ rfl rfl
  refine AN.cons rfl ?_
  refine EN.var (i := 0) (d := PyData.int a_p) C rfl (by walk_at "vis") rfl ?_
  refine AN.cons rfl ?_
  refine EN.var (i := 1) (d := PyData.int a_l) C rfl (by walk_at "vis") rfl ?_
  refine AN.cons rfl ?_
  refine EN.call C T_digits_Q_III (by omega) rfl ?_ rfl rfl
  refine AN.cons rfl ?_
  refine EN.var (i := 0) (d := PyData.int a_p) C rfl (by walk_at "vis") rfl ?_
  refine AN.cons rfl ?_
  refine EN.var (i := 1) (d := PyData.int a_l) C rfl (by walk_at "vis") rfl ?_
  refine AN.cons rfl ?_
  refine EN.var (i := 2) (d := PyData.int a_N) C rfl (by walk_at "vis") rfl ?_
  refine AN.nil ?_
  obtain ⟨x1, ex1, h⟩ := callK_ok h
  refine ⟨_, _, _, _, rfl, ex1, ?_⟩
  refine AN.nil ?_
  obtain ⟨x2, ex2, h⟩ := callK_ok h
  refine ⟨_, _, _, _, rfl, ex2, ?_⟩
  show BN X _ [.dat (PyData.int a_p), .dat (PyData.int a_l), .dat (PyData.int a_N), .dat ((lI PyData.int) x2), .no, .no, .no] _
  refine BN.cons ?_
  refine SN.asg (i := 4) C Fx rfl (by walk_at "vis") rfl ?_
  refine EN.lst ?_
  refine LN.cons rfl ?_
  refine EN.ix (fun _ _ => rfl) ?_
  refine EN.var (i := 3) (d := (lI PyData.int) x2) C rfl (by walk_at "vis") rfl ?_
  refine EN.neg ?_
  refine EN.int ?_
  obtain ⟨x3, ex3, h⟩ := letK_ok h
  refine ⟨_, rfl, ?_⟩
  rw [neg_r ex3]
  obtain ⟨x4, ex4, h⟩ := callK_ok h
  refine IxD.lx (inj := PyData.int) (xs := x2) ex4 ?_
  refine LN.nil ?_
  refine ⟨Nat.le_of_ble_eq_true rfl, ?_⟩
  show BN X _ [.dat (PyData.int a_p), .dat (PyData.int a_l), .dat (PyData.int a_N), .dat ((lI PyData.int) x2), .dat ((lI PyData.int) ([x4] : List Int)), .no, .no] _
  refine BN.cons ?_
  refine SN.for C (fun _ => rfl) ?_
  refine IN.seq ?_
  refine EN.slA ?_
  refine EN.var (i := 3) (d := (lI PyData.int) x2) C rfl (by walk_at "vis") rfl ?_
  refine (show EN _ _ _ _ from ?_)
  refine EN.neg ?_
  refine EN.int ?_
  obtain ⟨x8, ex8, h⟩ := letK_ok h
  refine ⟨_, rfl, ?_⟩
  rw [neg_r ex8]
  refine ⟨_, rfl, ?_⟩
  obtain ⟨x9, ex9, h⟩ := letK_ok h
  refine cutA_l (inj := PyData.int) (xs := x2) ex9 ?_
  refine SeqD.l ?_
  refine forK_in h PyData.int (fun (s5 : ((List Int))) => [.dat (PyData.int a_p), .dat (PyData.int a_l), .dat (PyData.int a_N), .dat ((lI PyData.int) x2), .dat ((lI PyData.int) s5), .no, .no]) rfl ?_ ?_
  · intro s22 h
    show BN X _ [.dat (PyData.int a_p), .dat (PyData.int a_l), .dat (PyData.int a_N), .dat ((lI PyData.int) x2), .dat ((lI PyData.int) s22), .no, .no] _
    refine BN.cons ?_
    refine SN.ret ?_
    refine EN.tuplec C rfl B.tuple ?_ rfl rfl
    refine EN.sortedI C rfl B.sorted ?_ rfl rfl
    refine EN.var (i := 4) (d := (lI PyData.int) s22) C rfl (by walk_at "vis") rfl ?_
    obtain ⟨x23, ex23, h⟩ := letK_ok h
    refine ⟨s22, rfl, fun ms hp ho => ?_⟩
    rw [sort_r ex23 hp ho]
    refine SeqD.l ?_
    cases h
    exact hQ
  · intro x10 s5 fin6 nx7 h
    refine GN.name (i := 5) C rfl (by walk_at "vis") (Or.inl (Fx _)) ?_
    show BN X _ [.dat (PyData.int a_p), .dat (PyData.int a_l), .dat (PyData.int a_N), .dat ((lI PyData.int) x2), .dat ((lI PyData.int) s5), .dat (PyData.int x10), .no] _
    show BN X _ [.dat (PyData.int a_p), .dat (PyData.int a_l), .dat (PyData.int a_N), .dat ((lI PyData.int) x2), .dat ((lI PyData.int) s5), .dat (PyData.int x10), .no] _
    refine BN.cons ?_
    refine SN.ife ?_
    refine TN.ne C ?_
    refine EN.var (i := 5) (d := PyData.int x10) C rfl (by walk_at "vis") rfl ?_
    refine EN.int ?_
    refine NeT.xx (inj := PyData.int) (x := x10) (y := 0) Ev.int (by decide) ?_
    refine ⟨fun hb => ?_, fun hb => ?_⟩
    · have h := bK_t hb h
      refine BN.cons ?_
      refine SN.asg (i := 4) C Fx rfl (by walk_at "vis") rfl ?_
      refine EN.add ?_
      refine EN.lc (i := 6) C rfl rfl rfl (fun _ => rfl) ?_
      refine IN.seq ?_
      refine EN.var (i := 4) (d := (lI PyData.int) s5) C rfl (by walk_at "vis") rfl ?_
      refine SeqD.l ?_
      refine lcK_in h PyData.int PyData.int ?_ ?_
      · intro x12 k13 h Y11 CY11
        refine EN.sub ?_
        refine EN.var (i := 6) (d := PyData.int x12) CY11 rfl (by walk_at "vis") rfl ?_
        refine EN.var (i := 5) (d := PyData.int x10) CY11 rfl (by walk_at "vis") rfl ?_
        obtain ⟨x15, ex15, h⟩ := letK_ok h
        refine SubI.xx ex15 ?_
        exact ⟨_, rfl, h⟩
      · intro ys14 h
        refine EN.lc (i := 6) C rfl rfl rfl (fun _ => rfl) ?_
        refine IN.seq ?_
        refine EN.var (i := 4) (d := (lI PyData.int) s5) C rfl (by walk_at "vis") rfl ?_
        refine SeqD.l ?_
        refine lcK_in h PyData.int PyData.int ?_ ?_
        · intro x17 k18 h Y16 CY16
          refine EN.add ?_
          refine EN.var (i := 6) (d := PyData.int x17) CY16 rfl (by walk_at "vis") rfl ?_
          refine EN.var (i := 5) (d := PyData.int x10) CY16 rfl (by walk_at "vis") rfl ?_
          obtain ⟨x20, ex20, h⟩ := letK_ok h
          refine AddD.xx ex20 ?_
          exact ⟨_, rfl, h⟩
        · intro ys19 h
          obtain ⟨cx21, h⟩ := chkK_ok h
          obtain ⟨x21, ex21, h⟩ := letK_ok h
          refine AddD.lx (inj := PyData.int) (xs := ys14) (ys := ys19) cx21 ex21 ?_
          show BN X _ [.dat (PyData.int a_p), .dat (PyData.int a_l), .dat (PyData.int a_N), .dat ((lI PyData.int) x2), .dat ((lI PyData.int) x21), .dat (PyData.int x10), .no] _
          refine BN.nil ?_
          show BN X _ [.dat (PyData.int a_p), .dat (PyData.int a_l), .dat (PyData.int a_N), .dat ((lI PyData.int) x2), .dat ((lI PyData.int) x21), .dat (PyData.int x10), .no] _
          refine BN.wk (ρ' := [.dat (PyData.int a_p), .dat (PyData.int a_l), .dat (PyData.int a_N), .dat ((lI PyData.int) x2), .dat ((lI PyData.int) x21), .no, .no]) (.eq (.eq (.eq (.eq (.eq (.no (.eq .nil))))))) ?_
          refine BN.nil ?_
          exact ⟨(x21), rfl, h⟩
    · have h := bK_f hb h
      refine BN.nil ?_
      show BN X _ [.dat (PyData.int a_p), .dat (PyData.int a_l), .dat (PyData.int a_N), .dat ((lI PyData.int) x2), .dat ((lI PyData.int) s5), .dat (PyData.int x10), .no] _
      refine BN.wk (ρ' := [.dat (PyData.int a_p), .dat (PyData.int a_l), .dat (PyData.int a_N), .dat ((lI PyData.int) x2), .dat ((lI PyData.int) s5), .no, .no]) (.eq (.eq (.eq (.eq (.eq (.no (.eq .nil))))))) ?_
      refine BN.nil ?_
      exact ⟨(s5), rfl, h⟩
theorem ok_holds_Q_IIII {f : Addr} {fd : FuncData} (F : Fun K "holds" "holds" s_holds f fd) (B : Blt mg) (T_digits_Q_III : Fd Pg w K mg base k "digits" W_digits_Q_III)  : FnG Pg w K mg base (k + 1) f fd ["p", "l", "k", "r"] (spOf K W_holds_Q_IIII) := by
  refine okFn F sc_holds (by rintro as Q ⟨a_p, a_l, a_k0, a_r, r, rfl, h, hQ⟩; rfl) ?_
  rintro X C Fx as Q ⟨a_p, a_l, a_k0, a_r, r, rfl, h, hQ⟩
  unfold f_holds_Q_IIII at h
  replace h := toO h
  show BN X _ [.dat (PyData.int a_p), .dat (PyData.int a_l), .dat (PyData.int a_k0), .dat (PyData.int a_r), .no, .no, .no] _
  refine BN.cons ?_
  refine SN.ife ?_
  refine TN.join h ?_ ?_
  · intro J1 h
    refine WN.tn ?_
    refine WN.or ?_
    refine TN.ge ?_
    refine EN.var (i := 2) (d := PyData.int a_k0) C rfl (by walk_at "vis") rfl ?_
    refine EN.var (i := 3) (d := PyData.int a_r) C rfl (by walk_at "vis") rfl ?_
    refine IbGe ?_
    refine ⟨fun hb => ?_, fun hb => ?_⟩
    · exact bK_t hb h
    · have h := bK_f hb h
      refine WN.or1 ?_
      refine TN.eq C ?_
      refine EN.mod ?_
      refine EN.sub ?_
      refine EN.var (i := 3) (d := PyData.int a_r) C rfl (by walk_at "vis") rfl ?_
      refine EN.var (i := 2) (d := PyData.int a_k0) C rfl (by walk_at "vis") rfl ?_
      obtain ⟨x2, ex2, h⟩ := letK_ok h
      refine SubI.xx ex2 ?_
      refine EN.int ?_
      obtain ⟨cx3, x3, ex3, h⟩ := modK_ok h
      refine ModI.xx cx3 ex3 ?_
      refine EN.int ?_
      refine EqT.xx (inj := PyData.int) (x := x3) (y := 1) Ev.int (by decide) ?_
      exact h
  · intro b4 h
    refine ⟨fun hb => ?_, fun hb => ?_⟩
    · have h := bK_t hb h
      refine BN.cons ?_
      refine SN.ret ?_
      refine EN.eq C ?_
      refine EN.var (i := 2) (d := PyData.int a_k0) C rfl (by walk_at "vis") rfl ?_
      refine EN.var (i := 3) (d := PyData.int a_r) C rfl (by walk_at "vis") rfl ?_
      refine EqD.xx (inj := PyData.int) (x := a_k0) (y := a_r) Ev.int (by decide) ?_
      cases h
      exact hQ
    · have h := bK_f hb h
      refine BN.nil ?_
      show BN X _ [.dat (PyData.int a_p), .dat (PyData.int a_l), .dat (PyData.int a_k0), .dat (PyData.int a_r), .no, .no, .no] _
      refine BN.cons ?_
      refine SN.asg (i := 4) C Fx rfl (by walk_at "vis") rfl ?_
      refine EN.call C T_digits_Q_III (by omega) rfl ?_ rfl rfl
      refine AN.cons rfl ?_
      refine EN.var (i := 0) (d := PyData.int a_p) C rfl (by walk_at "vis") rfl ?_
      refine AN.cons rfl ?_
      refine EN.var (i := 1) (d := PyData.int a_l) C rfl (by walk_at "vis") rfl ?_
      refine AN.cons rfl ?_
      refine EN.div ?_
      refine EN.sub ?_
      refine EN.var (i := 3) (d := PyData.int a_r) C rfl (by walk_at "vis") rfl ?_
      refine EN.var (i := 2) (d := PyData.int a_k0) C rfl (by walk_at "vis") rfl ?_
      obtain ⟨x5, ex5, h⟩ := letK_ok h
      refine SubI.xx ex5 ?_
      refine EN.int ?_
      obtain ⟨cx6, x6, ex6, h⟩ := divK_ok h
      refine DivI.xx cx6 ex6 ?_
      refine AN.nil ?_
      obtain ⟨x7, ex7, h⟩ := callK_ok h
      refine ⟨_, _, _, _, rfl, ex7, ?_⟩
      show BN X _ [.dat (PyData.int a_p), .dat (PyData.int a_l), .dat (PyData.int a_k0), .dat (PyData.int a_r), .dat ((vI PyData.int) x7), .no, .no] _
      refine BN.cons ?_
      refine SN.ret ?_
      refine EN.all C rfl B.all ?_ rfl rfl
      refine EN.lcP (i := 5) (i2 := 6) C rfl rfl rfl rfl rfl (by decide) (fun _ => rfl) (fun _ => rfl) (fun _ => rfl) (fun _ => rfl) (fun _ => rfl) ?_
      refine IN.zip C rfl B.zip rfl rfl rfl ?_
      refine EN.var (i := 4) (d := (vI PyData.int) x7) C rfl (by walk_at "vis") rfl ?_
      refine EN.call C T_digits_Q_III (by omega) rfl ?_ rfl rfl
      refine AN.cons rfl ?_
      refine EN.var (i := 0) (d := PyData.int a_p) C rfl (by walk_at "vis") rfl ?_
      refine AN.cons rfl ?_
      refine EN.var (i := 1) (d := PyData.int a_l) C rfl (by walk_at "vis") rfl ?_
      refine AN.cons rfl ?_
      refine EN.add ?_
      refine EN.var (i := 3) (d := PyData.int a_r) C rfl (by walk_at "vis") rfl ?_
      refine EN.int ?_
      obtain ⟨x8, ex8, h⟩ := letK_ok h
      refine AddD.xx ex8 ?_
      refine AN.nil ?_
      obtain ⟨x9, ex9, h⟩ := callK_ok h
      refine ⟨_, _, _, _, rfl, ex9, ?_⟩
      obtain ⟨x10, ex10, h⟩ := letK_ok h
      refine zip_vv (inj := PyData.int) (injb := PyData.int) (xs := x7) (ys := x9) ex10 ?_
      refine lcP_in h PyData.int PyData.int PyData.bool ?_ ?_
      · intro x12 k13 h Y11 CY11
        refine EN.inT rfl ?_
        refine EN.var (i := 5) (d := PyData.int (x12).1) CY11 rfl (by walk_at "vis") rfl ?_
        refine EN.tup ?_
        refine LN.cons rfl ?_
        refine EN.int ?_
        refine LN.cons rfl ?_
        refine EN.var (i := 6) (d := PyData.int (x12).2) CY11 rfl (by walk_at "vis") rfl ?_
        refine LN.nil ?_
        refine ⟨Nat.le_of_ble_eq_true rfl, ?_⟩
        refine InT.x2 ?_
        exact ⟨_, rfl, h⟩
      · intro ys14 h
        obtain ⟨x15, ex15, h⟩ := letK_ok h
        refine ⟨ys14, rfl, ?_⟩
        rw [all_r ex15]
        cases h
        exact hQ
/-! _law_open_cells, by hand: the script may be a thing of the top -/
abbrev s_law_open_cells : Stmt := topS 22
theorem sc_law_open_cells : FnScope ["script", "stirred", "cell", "cells"] ["script"] (defScope s_law_open_cells) := ⟨rfl, rfl, rfl, by decide +kernel, rfl, by decide +kernel, by decide +kernel⟩
theorem ok_law_open_cells {f : Addr} {fd : FuncData} (F : Fun K "_law_open_cells" "_law_open_cells" s_law_open_cells f fd) (B : Blt mg) : FnG Pg w K mg base (k + 1) f fd ["script"] (sp_open K) := by
  refine Fun.okG F sc_law_open_cells ?_ ?_
  · rintro vs H Q E ⟨a, ns, rfl, _⟩
    rfl
  · rintro cdv A ol s H vs Q E hgd hr ⟨a, ns, rfl, hS, hlen, q⟩
    have nd := sc_law_open_cells.nd
    refine ⟨_, pss_cons (ps_set (i := 1) nd rfl (.inl rfl) pe_int)
      (pss_cons (ps_for PassesOwn.never rfl (pi_list (pv 0)) (pg_name (i := 2) nd rfl (.inl rfl))
        (pss_one (ps_set (i := 1) nd rfl (.inl rfl) (pe_op op_mod (pe_callTy call_int1 (by rfl) B.int (by decide +kernel)
          (pa_cons (pe_op op_add (pe_op op_add (pe_op op_mul (pv 1) pe_int) (pe_op op_mul (pv 2) pe_int)) pe_int) pa_nil)) pe_int))))
      (pss_cons (ps_setLc (i := 3) (own := [("cell", 2)]) rfl nd rfl rfl rfl (pi_list (pv 0)) (blkOk_by (show blkC ["script", "stirred", "cell", "cells"] (defScope s_law_open_cells) _ [("cell", 2)] = true by decide +kernel))
          (fun _ _ _ _ _ => pg_name (i := 2) nd rfl (.inl rfl) (.inr rfl)) (fun _ _ _ _ _ => pts_nil)
          (fun _ _ _ _ _ => pe_callB call_abs (by rfl) B.abs (by decide +kernel) (pa_cons (pv 2) pa_nil)))
      (pss_one (ps_ret (pe_disp (pps_cons pe_str (pe_revL (pv 3)) (pps_cons pe_str pe_int (pps_cons pe_str (pv 1) (pps_cons pe_str pe_int pps_nil)))) (by rfl) rfl (by simp) (by decide)))))), ?_⟩
    -- the mixed number
    refine ⟨_, rfl, a, rfl, ⟨_, hS⟩, ?_⟩
    refine for_list (K := K) (a := a) (xs := ns.map V.int) (fun i σ H' => H' = H ∧ ∃ (z : Int) (v : Option V), σ = [some (.ref a), some (.int z), v, none] ∧ 0 ≤ z ∧ z < 2147483629) ⟨rfl, 11, none, rfl, by decide, by decide⟩ ?_ ?_ ?_
    · rintro i σ H' _ ⟨rfl, _⟩
      exact hS
    · rintro i x σ H' hx ⟨rfl, z, v, rfl, h0, h1⟩
      obtain ⟨n, rfl⟩ : ∃ n, x = V.int n := by
        rw [List.getElem?_map] at hx
        cases e : ns[i]? with
        | none => rw [e] at hx; cases hx
        | some n => rw [e] at hx; exact ⟨n, (Option.some.inj hx).symm⟩
      refine ⟨_, rfl, _, _, rfl, rfl, .inr (by decide), _, rfl, _, _, rfl, rfl, .inr (by decide), _, _, rfl, rfl, _, _, rfl, rfl, .inl ⟨_, rfl, ?_⟩⟩
      refine ⟨_, _, rfl, rfl, (show (0 : Int) < 2147483629 by decide), rfl, _, _, rfl, ?_, ?_⟩
      · exact Int.emod_nonneg _ (by decide)
      · exact Int.emod_lt_of_pos _ (by decide)
    · rintro σ H' ⟨rfl, z, v, rfl, h0, h1⟩
      -- the cells
      let ab : Int → Int := fun n => if n < 0 then -n else n
      have hab : ∀ n ∈ ns.map ab, 0 ≤ n := by
        intro n hn
        obtain ⟨m, _, rfl⟩ := List.mem_map.mp hn
        show 0 ≤ if m < 0 then -m else m
        split <;> omega
      refine ⟨_, rfl, a, rfl, ⟨_, hS⟩, fun D hD => ?_⟩
      have eD : ∀ b o, H' b = some o → b ≠ D := fun b o e => ne_of_none e hD
      have hS1 : ∀ o, SqL K (upd H' D o) a (ns.map V.int) := fun o => Evl.ex_l (Evl.Ex.new hD) hS
      refine lc_list (K := K) (a := a) (xs := ns.map V.int) (fun i H2 => H2 = upd H' D (.lst (((ns.take i).map ab).map V.int))) rfl ?_ ?_ ?_
      · rintro i H2 _ rfl
        exact hS1 _
      · rintro i x H2 hx rfl
        obtain ⟨n, hn, rfl⟩ : ∃ n, ns[i]? = some n ∧ x = V.int n := by
          rw [List.getElem?_map] at hx
          cases e : ns[i]? with
          | none => rw [e] at hx; cases hx
          | some n => rw [e] at hx; exact ⟨n, rfl, (Option.some.inj hx).symm⟩
        have hi : i < ns.length := (List.getElem?_eq_some_iff.mp hn).1
        refine ⟨rfl, ?_⟩
        show (if true = true then _ else upd H' D (.lst (((ns.take i).map ab).map V.int)) = upd H' D (.lst (((ns.take (i + 1)).map ab).map V.int)))
        rw [if_pos rfl]
        refine ⟨_, rfl, n, rfl, _, upd_same, ?_, ?_⟩
        · rw [List.length_map, List.length_map, List.length_take]
          exact Nat.lt_of_le_of_lt (Nat.min_le_left _ _) (small1000 (by omega))
        · rw [upd_upd, List.take_add_one, hn, List.map_append, List.map_append]
          rfl
      · rintro H2 rfl
        rw [List.length_map, List.take_length]
        -- the dict
        intro p hp
        have hDp : D ≠ p := fun z => by rw [← z, upd_same] at hp; cases hp
        have hcD : (upd (upd H' D (.lst ((ns.map ab).map V.int))) p (.dK [])) D = some (.lst ((ns.map ab).map V.int)) := by rw [upd_ne hDp, upd_same]
        refine ⟨_, rfl, D, _, rfl, SqL.of hcD, fun c hc => ?_⟩
        have hpc : p ≠ c := fun z => by rw [← z, upd_same] at hc; cases hc
        refine ⟨_, rfl, ?_⟩
        refine ⟨by rw [upd_ne hpc, upd_same], [(Sum.inr "cells", .ref c), (Sum.inr "left", .int 1), (Sum.inr "mixed", .int z), (Sum.inr "turn", .int 0)], rfl, (show 4 ≤ 15 by decide), ?_⟩
        have hp0 : H' p = none := by
          rw [upd_ne (fun z => hDp z.symm)] at hp
          exact hp
        have hc0 : H' c = none := by
          rw [upd_ne (fun z => hpc z.symm)] at hc
          by_cases hcD2 : c = D
          · rw [hcD2]; exact hD
          · rw [upd_ne hcD2] at hc; exact hc
        refine q p c _ ?_ hp0 hc0 ⟨hpc, 1, z, 0, (ns.map ab).reverse, ?_, ?_, by decide, ?_, h0, h1, by decide⟩
        · intro b o e
          rw [upd_ne (ne_of_none e hp0), upd_ne (ne_of_none e hc0), upd_ne (ne_of_none e hp0), upd_ne (eD b o e)]
          exact e
        · rw [upd_same]; rfl
        · rw [upd_ne (fun z => hpc z.symm), upd_same, List.map_reverse]
        · intro n hn
          exact hab n (List.mem_reverse.mp hn)

/-! law -/
abbrev s_law : Stmt := topS 37
theorem sc_law : FnScope ["script", "source", "turn", "p", "d", "l", "n", "told", "is_due", "some", "spot", "place", "j", "k", "few", "lap", "digit"] ["script"] (defScope s_law) := ⟨rfl, rfl, rfl, by decide +kernel, rfl, by decide +kernel, by decide +kernel⟩
theorem law_rest {X : Cx} (C : Ctx Pg w K mg base ["script", "source", "turn", "p", "d", "l", "n", "told", "is_due", "some", "spot", "place", "j", "k", "few", "lap", "digit"] (defScope s_law) k X) (Fx : ∀ x, X.fn x = true) (B : Blt mg) (h : w_law) (T_law_draw_field : Fd Pg w K mg base k "_law_draw_field" W_law_draw_field) (T_law_draw_worth_P_I : Fd Pg w K mg base k "_law_draw_worth" W_law_draw_worth_P_I) (T_law_length_P_II : Fd Pg w K mg base k "_law_length" W_law_length_P_II) (T_law_draw_far_P_IN : Fd Pg w K mg base k "_law_draw_far" W_law_draw_far_P_IN) (T_law_digits_P_INI : Fd Pg w K mg base k "_law_digits" W_law_digits_P_INI) (T_law_has_middle_P_III : Fd Pg w K mg base k "_law_has_middle" W_law_has_middle_P_III) (T_length_P_II : Fd Pg w K mg base k "length" W_length_P_II) (T_digits_P_INI : Fd Pg w K mg base k "digits" W_digits_P_INI) (T_of_digits_P_INvI : Fd Pg w K mg base k "of_digits" W_of_digits_P_INvI) (T_has_middle_P_III : Fd Pg w K mg base k "has_middle" W_has_middle_P_III) (T_law_pick : Fd Pg w K mg base k "_law_pick" W_law_pick) (T_support_P_INI : Fd Pg w K mg base k "support" W_support_P_INI) (T_holds_P_INII : Fd Pg w K mg base k "holds" W_holds_P_INII) (T_keeps_all_P_IIII : Fd Pg w K mg base k "keeps_all" W_keeps_all_P_IIII) (T_next_over_P_INI : Fd Pg w K mg base k "next_over" W_next_over_P_INI) (T_law_draw_far_P_II : Fd Pg w K mg base k "_law_draw_far" W_law_draw_far_P_II) (T_law_digits_P_III : Fd Pg w K mg base k "_law_digits" W_law_digits_P_III) (T_digits_P_III : Fd Pg w K mg base k "digits" W_digits_P_III) (T_of_digits_P_IIvI : Fd Pg w K mg base k "of_digits" W_of_digits_P_IIvI) (T_support_P_III : Fd Pg w K mg base k "support" W_support_P_III) (T_holds_P_IIII : Fd Pg w K mg base k "holds" W_holds_P_IIII) (T_next_over_P_III : Fd Pg w K mg base k "next_over" W_next_over_P_III) (T_law_draw_worth_Q_I : Fd Pg w K mg base k "_law_draw_worth" W_law_draw_worth_Q_I) (T_law_length_Q_ITIIe : Fd Pg w K mg base k "_law_length" W_law_length_Q_ITIIe) (T_law_draw_far_Q_IN : Fd Pg w K mg base k "_law_draw_far" W_law_draw_far_Q_IN) (T_law_digits_Q_INI : Fd Pg w K mg base k "_law_digits" W_law_digits_Q_INI) (T_law_has_middle_Q_ITIIeI : Fd Pg w K mg base k "_law_has_middle" W_law_has_middle_Q_ITIIeI) (T_length_Q_ITIIe : Fd Pg w K mg base k "length" W_length_Q_ITIIe) (T_digits_Q_INI : Fd Pg w K mg base k "digits" W_digits_Q_INI) (T_of_digits_Q_INvI : Fd Pg w K mg base k "of_digits" W_of_digits_Q_INvI) (T_has_middle_Q_ITIIeI : Fd Pg w K mg base k "has_middle" W_has_middle_Q_ITIIeI) (T_support_Q_INI : Fd Pg w K mg base k "support" W_support_Q_INI) (T_holds_Q_INII : Fd Pg w K mg base k "holds" W_holds_Q_INII) (T_keeps_all_Q_ITIIeII : Fd Pg w K mg base k "keeps_all" W_keeps_all_Q_ITIIeII) (T_next_over_Q_INI : Fd Pg w K mg base k "next_over" W_next_over_Q_INI) (T_law_draw_far_Q_II : Fd Pg w K mg base k "_law_draw_far" W_law_draw_far_Q_II) (T_law_digits_Q_III : Fd Pg w K mg base k "_law_digits" W_law_digits_Q_III) (T_digits_Q_III : Fd Pg w K mg base k "digits" W_digits_Q_III) (T_of_digits_Q_IIvI : Fd Pg w K mg base k "of_digits" W_of_digits_Q_IIvI) (T_support_Q_III : Fd Pg w K mg base k "support" W_support_Q_III) (T_holds_Q_IIII : Fd Pg w K mg base k "holds" W_holds_Q_IIII) (T_next_over_Q_III : Fd Pg w K mg base k "next_over" W_next_over_Q_III) : BN X (defBody s_law).tail (.no :: .src :: List.replicate 15 .no) { nx := fun _ => False, rt := fun d => d = .bool true } := by
  show BN X _ [.no, .src, .no, .no, .no, .no, .no, .no, .no, .no, .no, .no, .no, .no, .no, .no, .no] _
  unfold w_law at h
  replace h := toP h
  refine BN.cons ?_
  refine SN.for C (fun _ => rfl) ?_
  refine IN.r1 C rfl B.range rfl rfl ?_
  refine EN.int ?_
  obtain ⟨cx7, x7, ex7, h⟩ := rng1K_ok h
  refine ⟨_, rfl, cx7.1, cx7.2, ?_⟩
  rw [rng1_r ex7]
  refine forK_in h PyData.int (fun s => Sum.rec (motive := fun _ => List Sl) (fun (v266 : (Int × Int)) => [.no, .src, .no, .dat (PyData.int (v266).1), .dat (PyData.int (v266).2), .no, .no, .no, .no, .no, .no, .no, .no, .no, .no, .no, .no]) (fun s => Sum.rec (motive := fun _ => List Sl) (fun (v283 : (Int × (Int × Int))) => [.no, .src, .no, .dat (PyData.int (v283).1), .dat ((pI PyData.int PyData.int) (v283).2), .no, .no, .no, .no, .no, .no, .no, .no, .no, .no, .no, .no]) (fun _ => [.no, .src, .no, .no, .no, .no, .no, .no, .no, .no, .no, .no, .no, .no, .no, .no, .no]) s) s : ((Int × Int) ⊕ ((Int × (Int × Int)) ⊕ Unit)) → List Sl) rfl ?_ ?_
  · intro z h
    rcases z with v266 | z
    · show BN X _ [.no, .src, .no, .dat (PyData.int (v266).1), .dat (PyData.int (v266).2), .no, .no, .no, .no, .no, .no, .no, .no, .no, .no, .no, .no] _
      refine BN.cons ?_
      refine SN.asgLc (i := 6) (j := 14) C rfl rfl rfl rfl rfl (by rintro ⟨⟩ ⟨⟩; rfl) (fun _ => rfl) ?_
      refine IN.r2 C rfl B.range rfl rfl rfl rfl ?_
      refine EN.int ?_
      refine EN.int ?_
      obtain ⟨cx267, x267, ex267, h⟩ := rng2K_ok h
      refine ⟨_, _, rfl, rfl, cx267, ?_⟩
      rw [rng2_r ex267]
      refine lcFK_in h PyData.int PyData.int ?_ ?_ ?_
      · intro x269 J281 h Y280 CY280
        refine TN.val (fun _ => rfl) ?_
        refine EN.call CY280 T_has_middle_P_III (by omega) rfl ?_ rfl rfl
        refine AN.cons rfl ?_
        refine EN.var (i := 3) (d := PyData.int (v266).1) CY280 rfl (by walk_at "vis") rfl ?_
        refine AN.cons rfl ?_
        refine EN.var (i := 4) (d := PyData.int (v266).2) CY280 rfl (by walk_at "vis") rfl ?_
        refine AN.cons rfl ?_
        refine EN.var (i := 6) (d := PyData.int x269) CY280 rfl (by walk_at "vis") rfl ?_
        refine AN.nil ?_
        obtain ⟨x282, ex282, h⟩ := callK_ok h
        refine ⟨_, _, _, _, rfl, ex282, ?_⟩
        refine ⟨_, rfl, ?_⟩
        refine tb_b ?_
        exact h
      · intro x269 k270 h Y268 CY268
        refine EN.var (i := 6) (d := PyData.int x269) CY268 rfl (by walk_at "vis") rfl ?_
        exact ⟨_, rfl, h⟩
      · intro ys271 h
        show BN X _ [.no, .src, .no, .dat (PyData.int (v266).1), .dat (PyData.int (v266).2), .no, .no, .no, .no, .no, .no, .no, .no, .no, .dat ((lI PyData.int) ys271), .no, .no] _
        refine BN.cons ?_
        refine SN.ret ?_
        refine EN.eq C ?_
        refine EN.var (i := 14) (d := (lI PyData.int) ys271) C rfl (by walk_at "vis") rfl ?_
        refine EN.lc (i := 6) C rfl rfl rfl (fun _ => rfl) ?_
        refine IN.r2 C rfl B.range rfl rfl rfl rfl ?_
        refine EN.int ?_
        refine EN.int ?_
        obtain ⟨cx272, x272, ex272, h⟩ := rng2K_ok h
        refine ⟨_, _, rfl, rfl, cx272, ?_⟩
        rw [rng2_r ex272]
        refine lcFK_in h PyData.int PyData.int ?_ ?_ ?_
        · intro x274 J278 h Y277 CY277
          refine TN.val (fun _ => rfl) ?_
          refine EN.call CY277 T_law_has_middle_P_III (by omega) rfl ?_ rfl rfl
          refine AN.cons rfl ?_
          refine EN.var (i := 3) (d := PyData.int (v266).1) CY277 rfl (by walk_at "vis") rfl ?_
          refine AN.cons rfl ?_
          refine EN.var (i := 4) (d := PyData.int (v266).2) CY277 rfl (by walk_at "vis") rfl ?_
          refine AN.cons rfl ?_
          refine EN.var (i := 6) (d := PyData.int x274) CY277 rfl (by walk_at "vis") rfl ?_
          refine AN.nil ?_
          obtain ⟨x279, ex279, h⟩ := callK_ok h
          refine ⟨_, _, _, _, rfl, ex279, ?_⟩
          refine ⟨_, rfl, ?_⟩
          refine tb_b ?_
          exact h
        · intro x274 k275 h Y273 CY273
          refine EN.var (i := 6) (d := PyData.int x274) CY273 rfl (by walk_at "vis") rfl ?_
          exact ⟨_, rfl, h⟩
        · intro ys276 h
          refine EqD.xx (inj := (lI PyData.int)) (x := ys271) (y := ys276) (Ev.list Ev.int) (by decide) ?_
          exact congrArg PyData.bool h
    · rcases z with v283 | z
      · show BN X _ [.no, .src, .no, .dat (PyData.int (v283).1), .dat ((pI PyData.int PyData.int) (v283).2), .no, .no, .no, .no, .no, .no, .no, .no, .no, .no, .no, .no] _
        refine BN.cons ?_
        refine SN.asgLc (i := 6) (j := 14) C rfl rfl rfl rfl rfl (by rintro ⟨⟩ ⟨⟩; rfl) (fun _ => rfl) ?_
        refine IN.r2 C rfl B.range rfl rfl rfl rfl ?_
        refine EN.int ?_
        refine EN.int ?_
        obtain ⟨cx284, x284, ex284, h⟩ := rng2K_ok h
        refine ⟨_, _, rfl, rfl, cx284, ?_⟩
        rw [rng2_r ex284]
        refine lcFK_in h PyData.int PyData.int ?_ ?_ ?_
        · intro x286 J298 h Y297 CY297
          refine TN.val (fun _ => rfl) ?_
          refine EN.call CY297 T_has_middle_Q_ITIIeI (by omega) rfl ?_ rfl rfl
          refine AN.cons rfl ?_
          refine EN.var (i := 3) (d := PyData.int (v283).1) CY297 rfl (by walk_at "vis") rfl ?_
          refine AN.cons rfl ?_
          refine EN.var (i := 4) (d := (pI PyData.int PyData.int) (v283).2) CY297 rfl (by walk_at "vis") rfl ?_
          refine AN.cons rfl ?_
          refine EN.var (i := 6) (d := PyData.int x286) CY297 rfl (by walk_at "vis") rfl ?_
          refine AN.nil ?_
          obtain ⟨x299, ex299, h⟩ := callK_ok h
          refine ⟨_, _, _, _, rfl, ex299, ?_⟩
          refine ⟨_, rfl, ?_⟩
          refine tb_b ?_
          exact h
        · intro x286 k287 h Y285 CY285
          refine EN.var (i := 6) (d := PyData.int x286) CY285 rfl (by walk_at "vis") rfl ?_
          exact ⟨_, rfl, h⟩
        · intro ys288 h
          show BN X _ [.no, .src, .no, .dat (PyData.int (v283).1), .dat ((pI PyData.int PyData.int) (v283).2), .no, .no, .no, .no, .no, .no, .no, .no, .no, .dat ((lI PyData.int) ys288), .no, .no] _
          refine BN.cons ?_
          refine SN.ret ?_
          refine EN.eq C ?_
          refine EN.var (i := 14) (d := (lI PyData.int) ys288) C rfl (by walk_at "vis") rfl ?_
          refine EN.lc (i := 6) C rfl rfl rfl (fun _ => rfl) ?_
          refine IN.r2 C rfl B.range rfl rfl rfl rfl ?_
          refine EN.int ?_
          refine EN.int ?_
          obtain ⟨cx289, x289, ex289, h⟩ := rng2K_ok h
          refine ⟨_, _, rfl, rfl, cx289, ?_⟩
          rw [rng2_r ex289]
          refine lcFK_in h PyData.int PyData.int ?_ ?_ ?_
          · intro x291 J295 h Y294 CY294
            refine TN.val (fun _ => rfl) ?_
            refine EN.call CY294 T_law_has_middle_Q_ITIIeI (by omega) rfl ?_ rfl rfl
            refine AN.cons rfl ?_
            refine EN.var (i := 3) (d := PyData.int (v283).1) CY294 rfl (by walk_at "vis") rfl ?_
            refine AN.cons rfl ?_
            refine EN.var (i := 4) (d := (pI PyData.int PyData.int) (v283).2) CY294 rfl (by walk_at "vis") rfl ?_
            refine AN.cons rfl ?_
            refine EN.var (i := 6) (d := PyData.int x291) CY294 rfl (by walk_at "vis") rfl ?_
            refine AN.nil ?_
            obtain ⟨x296, ex296, h⟩ := callK_ok h
            refine ⟨_, _, _, _, rfl, ex296, ?_⟩
            refine ⟨_, rfl, ?_⟩
            refine tb_b ?_
            exact h
          · intro x291 k292 h Y290 CY290
            refine EN.var (i := 6) (d := PyData.int x291) CY290 rfl (by walk_at "vis") rfl ?_
            exact ⟨_, rfl, h⟩
          · intro ys293 h
            refine EqD.xx (inj := (lI PyData.int)) (x := ys288) (y := ys293) (Ev.list Ev.int) (by decide) ?_
            exact congrArg PyData.bool h
      · exact dead h
  · intro x8 s6 fin4 nx5 h
    refine GN.wk (ρ' := [.no, .src, .no, .no, .no, .no, .no, .no, .no, .no, .no, .no, .no, .no, .no, .no, .no]) ?_ ?_
    · rcases s6 with s6 | s6
      · exact (.eq (.eq (.eq (.no (.no (.eq (.eq (.eq (.eq (.eq (.eq (.eq (.eq (.eq (.eq (.eq (.eq .nil)))))))))))))))))
      · rcases s6 with s6 | s6
        · exact (.eq (.eq (.eq (.no (.no (.eq (.eq (.eq (.eq (.eq (.eq (.eq (.eq (.eq (.eq (.eq (.eq .nil)))))))))))))))))
        · exact (.eq (.eq (.eq (.eq (.eq (.eq (.eq (.eq (.eq (.eq (.eq (.eq (.eq (.eq (.eq (.eq (.eq .nil)))))))))))))))))
    · refine GN.name (i := 2) C rfl (by walk_at "vis") (Or.inl (Fx _)) ?_
      show BN X _ [.no, .src, .dat (PyData.int x8), .no, .no, .no, .no, .no, .no, .no, .no, .no, .no, .no, .no, .no, .no] _
      refine BN.cons ?_
      refine SN.asg (i := 3) C Fx rfl (by walk_at "vis") rfl ?_
      refine EN.call C T_law_draw_field (by omega) rfl ?_ rfl rfl
      refine AN.src (i := 1) C rfl (by walk_at "vis") rfl rfl ?_
      refine AN.nil ?_
      refine ⟨_, rfl, h, fun x9 h => ?_⟩
      replace h := toP h
      show BN X _ [.no, .src, .dat (PyData.int x8), .dat (PyData.int x9), .no, .no, .no, .no, .no, .no, .no, .no, .no, .no, .no, .no, .no] _
      rcases bcase (ltI 0 x9) with hb | hb
      · have h := bK_t hb h
        refine BN.cons ?_
        refine SN.asg (i := 4) C Fx rfl (by walk_at "vis") rfl ?_
        refine EN.call C T_law_draw_worth_P_I (by omega) rfl ?_ rfl rfl
        refine AN.src (i := 1) C rfl (by walk_at "vis") rfl rfl ?_
        refine AN.cons rfl ?_
        refine EN.var (i := 3) (d := PyData.int x9) C rfl (by walk_at "vis") rfl ?_
        refine AN.nil ?_
        refine ⟨_, _, rfl, h, fun x10 h => ?_⟩
        replace h := toP h
        show BN X _ [.no, .src, .dat (PyData.int x8), .dat (PyData.int x9), .dat (PyData.int x10), .no, .no, .no, .no, .no, .no, .no, .no, .no, .no, .no, .no] _
        refine BN.cons ?_
        refine SN.asg (i := 5) C Fx rfl (by walk_at "vis") rfl ?_
        refine EN.call C T_law_length_P_II (by omega) rfl ?_ rfl rfl
        refine AN.cons rfl ?_
        refine EN.var (i := 3) (d := PyData.int x9) C rfl (by walk_at "vis") rfl ?_
        refine AN.cons rfl ?_
        refine EN.var (i := 4) (d := PyData.int x10) C rfl (by walk_at "vis") rfl ?_
        refine AN.nil ?_
        obtain ⟨x11, ex11, h⟩ := callK_ok h
        refine ⟨_, _, _, rfl, ex11, ?_⟩
        rcases x11 with _ | x12
        · have h := optK_n h
          show BN X _ [.no, .src, .dat (PyData.int x8), .dat (PyData.int x9), .dat (PyData.int x10), .dat (uI ()), .no, .no, .no, .no, .no, .no, .no, .no, .no, .no, .no] _
          refine BN.cons ?_
          refine SN.asg (i := 6) C Fx rfl (by walk_at "vis") rfl ?_
          refine EN.call C T_law_draw_far_P_IN (by omega) rfl ?_ rfl rfl
          refine AN.src (i := 1) C rfl (by walk_at "vis") rfl rfl ?_
          refine AN.cons rfl ?_
          refine EN.var (i := 3) (d := PyData.int x9) C rfl (by walk_at "vis") rfl ?_
          refine AN.cons rfl ?_
          refine EN.var (i := 5) (d := uI ()) C rfl (by walk_at "vis") rfl ?_
          refine AN.nil ?_
          refine ⟨_, _, _, rfl, h, fun x13 h => ?_⟩
          replace h := toP h
          show BN X _ [.no, .src, .dat (PyData.int x8), .dat (PyData.int x9), .dat (PyData.int x10), .dat (uI ()), .dat (PyData.int x13), .no, .no, .no, .no, .no, .no, .no, .no, .no, .no] _
          refine BN.cons ?_
          refine SN.par2 (i := 7) (j := 8) C rfl rfl (by decide) rfl rfl (by rintro ⟨⟩ ⟨⟩; rfl) rfl ?_
          refine XA.dat rfl ?_
          refine EN.call C T_law_digits_P_INI (by omega) rfl ?_ rfl rfl
          refine AN.cons rfl ?_
          refine EN.var (i := 3) (d := PyData.int x9) C rfl (by walk_at "vis") rfl ?_
          refine AN.cons rfl ?_
          refine EN.var (i := 5) (d := uI ()) C rfl (by walk_at "vis") rfl ?_
          refine AN.cons rfl ?_
          refine EN.add ?_
          refine EN.var (i := 6) (d := PyData.int x13) C rfl (by walk_at "vis") rfl ?_
          refine EN.int ?_
          obtain ⟨x14, ex14, h⟩ := letK_ok h
          refine AddD.xx ex14 ?_
          refine AN.nil ?_
          obtain ⟨x15, ex15, h⟩ := callK_ok h
          refine ⟨_, _, _, _, rfl, ex15, ?_⟩
          refine XA.dat rfl ?_
          refine EN.call C T_law_has_middle_P_III (by omega) rfl ?_ rfl rfl
          refine AN.cons rfl ?_
          refine EN.var (i := 3) (d := PyData.int x9) C rfl (by walk_at "vis") rfl ?_
          refine AN.cons rfl ?_
          refine EN.var (i := 4) (d := PyData.int x10) C rfl (by walk_at "vis") rfl ?_
          refine AN.cons rfl ?_
          refine EN.var (i := 6) (d := PyData.int x13) C rfl (by walk_at "vis") rfl ?_
          refine AN.nil ?_
          obtain ⟨x16, ex16, h⟩ := callK_ok h
          refine ⟨_, _, _, _, rfl, ex16, ?_⟩
          refine XA.nil ?_
          refine ⟨rfl, ?_⟩
          show BN X _ [.no, .src, .dat (PyData.int x8), .dat (PyData.int x9), .dat (PyData.int x10), .dat (uI ()), .dat (PyData.int x13), .dat ((lI PyData.int) x15), .dat (PyData.bool x16), .no, .no, .no, .no, .no, .no, .no, .no] _
          refine BN.cons ?_
          refine SN.ife ?_
          refine TN.join h ?_ ?_
          · intro J17 h
            refine WN.tn ?_
            refine WN.or ?_
            refine TN.ne C ?_
            refine EN.call C T_length_P_II (by omega) rfl ?_ rfl rfl
            refine AN.cons rfl ?_
            refine EN.var (i := 3) (d := PyData.int x9) C rfl (by walk_at "vis") rfl ?_
            refine AN.cons rfl ?_
            refine EN.var (i := 4) (d := PyData.int x10) C rfl (by walk_at "vis") rfl ?_
            refine AN.nil ?_
            obtain ⟨x18, ex18, h⟩ := callK_ok h
            refine ⟨_, _, _, rfl, ex18, ?_⟩
            rcases x18 with _ | x19
            · have h := optK_n h
              refine EN.var (i := 5) (d := uI ()) C rfl (by walk_at "vis") rfl ?_
              refine NeT.s (by rfl) rfl ?_
              refine Kt.noo ?_
              refine WN.or ?_
              refine TN.ne C ?_
              refine EN.listc C rfl B.list ?_ rfl rfl
              refine EN.call C T_digits_P_INI (by omega) rfl ?_ rfl rfl
              refine AN.cons rfl ?_
              refine EN.var (i := 3) (d := PyData.int x9) C rfl (by walk_at "vis") rfl ?_
              refine AN.cons rfl ?_
              refine EN.var (i := 5) (d := uI ()) C rfl (by walk_at "vis") rfl ?_
              refine AN.cons rfl ?_
              refine EN.add ?_
              refine EN.var (i := 6) (d := PyData.int x13) C rfl (by walk_at "vis") rfl ?_
              refine EN.int ?_
              obtain ⟨x20, ex20, h⟩ := letK_ok h
              refine AddD.xx ex20 ?_
              refine AN.nil ?_
              obtain ⟨x21, ex21, h⟩ := callK_ok h
              refine ⟨_, _, _, _, rfl, ex21, ?_⟩
              refine SeqD.t ?_
              refine EN.var (i := 7) (d := (lI PyData.int) x15) C rfl (by walk_at "vis") rfl ?_
              refine NeT.xx (inj := (lI PyData.int)) (x := ([x21] : List Int)) (y := x15) (Ev.list Ev.int) (by decide) ?_
              refine ⟨fun hb => ?_, fun hb => ?_⟩
              · exact bK_t hb h
              · have h := bK_f hb h
                refine WN.or1 ?_
                refine TN.ne C ?_
                refine EN.call C T_of_digits_P_INvI (by omega) rfl ?_ rfl rfl
                refine AN.cons rfl ?_
                refine EN.var (i := 3) (d := PyData.int x9) C rfl (by walk_at "vis") rfl ?_
                refine AN.cons rfl ?_
                refine EN.var (i := 5) (d := uI ()) C rfl (by walk_at "vis") rfl ?_
                refine AN.cons rfl ?_
                refine EN.tuplec C rfl B.tuple ?_ rfl rfl
                refine EN.var (i := 7) (d := (lI PyData.int) x15) C rfl (by walk_at "vis") rfl ?_
                refine SeqD.l ?_
                refine AN.nil ?_
                obtain ⟨x22, ex22, h⟩ := callK_ok h
                refine ⟨_, _, _, _, rfl, ex22, ?_⟩
                refine EN.add ?_
                refine EN.var (i := 6) (d := PyData.int x13) C rfl (by walk_at "vis") rfl ?_
                refine EN.int ?_
                obtain ⟨x23, ex23, h⟩ := letK_ok h
                refine AddD.xx ex23 ?_
                refine NeT.xx (inj := PyData.int) (x := x22) (y := x23) Ev.int (by decide) ?_
                exact h
            · have h := optK_s h
              refine EN.var (i := 5) (d := uI ()) C rfl (by walk_at "vis") rfl ?_
              refine NeT.u (by rfl) (by rfl) rfl ?_
              refine Kt.yes ?_
              exact h
          · intro b24 h
            refine ⟨fun hb => ?_, fun hb => ?_⟩
            · have h := bK_t hb h
              refine BN.cons ?_
              refine SN.ret ?_
              refine EN.bl ?_
              exact (show False from h).elim
            · have h := bK_f hb h
              refine BN.nil ?_
              show BN X _ [.no, .src, .dat (PyData.int x8), .dat (PyData.int x9), .dat (PyData.int x10), .dat (uI ()), .dat (PyData.int x13), .dat ((lI PyData.int) x15), .dat (PyData.bool x16), .no, .no, .no, .no, .no, .no, .no, .no] _
              refine BN.cons ?_
              refine SN.ife ?_
              refine TN.neS ?_
              refine EN.repr C rfl B.repr ?_ rfl rfl
              refine EN.call C T_has_middle_P_III (by omega) rfl ?_ rfl rfl
              refine AN.cons rfl ?_
              refine EN.var (i := 3) (d := PyData.int x9) C rfl (by walk_at "vis") rfl ?_
              refine AN.cons rfl ?_
              refine EN.var (i := 4) (d := PyData.int x10) C rfl (by walk_at "vis") rfl ?_
              refine AN.cons rfl ?_
              refine EN.var (i := 6) (d := PyData.int x13) C rfl (by walk_at "vis") rfl ?_
              refine AN.nil ?_
              obtain ⟨x25, ex25, h⟩ := callK_ok h
              refine ⟨_, _, _, _, rfl, ex25, ?_⟩
              refine ⟨rp_bool _, ?_⟩
              refine EN.repr C rfl B.repr ?_ rfl rfl
              refine EN.var (i := 8) (d := PyData.bool x16) C rfl (by walk_at "vis") rfl ?_
              refine ⟨rp_bool _, ?_⟩
              obtain ⟨c26, h⟩ := chkK_ok h
              refine reprSame (congrArg PyData.bool (eqB_to c26)) ?_
              refine Kt.noo ?_
              refine BN.nil ?_
              show BN X _ [.no, .src, .dat (PyData.int x8), .dat (PyData.int x9), .dat (PyData.int x10), .dat (uI ()), .dat (PyData.int x13), .dat ((lI PyData.int) x15), .dat (PyData.bool x16), .no, .no, .no, .no, .no, .no, .no, .no] _
              refine BN.cons ?_
              refine SN.ife ?_
              refine TN.val (fun _ => rfl) ?_
              refine EN.var (i := 8) (d := PyData.bool x16) C rfl (by walk_at "vis") rfl ?_
              refine ⟨_, rfl, ?_⟩
              refine tb_b ?_
              refine ⟨fun hb => ?_, fun hb => ?_⟩
              · have h := bK_t hb h
                refine BN.cons ?_
                refine SN.asgLc (i := 15) (j := 9) C rfl rfl rfl rfl rfl (by rintro ⟨⟩ ⟨⟩; rfl) (fun _ => rfl) ?_
                refine IN.r1 C rfl B.range rfl rfl ?_
                refine EN.int ?_
                obtain ⟨cx27, x27, ex27, h⟩ := rng1K_ok h
                refine ⟨_, rfl, cx27.1, cx27.2, ?_⟩
                rw [rng1_r ex27]
                refine lcK_in h PyData.int PyData.int ?_ ?_
                · intro x29 k30 h Y28 CY28
                  refine EN.sub ?_
                  refine EN.var (i := 6) (d := PyData.int x13) CY28 rfl (by walk_at "vis") rfl ?_
                  refine EN.mul ?_
                  refine EN.int ?_
                  refine EN.add ?_
                  refine EN.int ?_
                  refine EN.call CY28 T_law_pick (by omega) rfl ?_ rfl rfl
                  refine AN.src (i := 1) CY28 rfl (by walk_at "vis") rfl rfl ?_
                  refine AN.cons rfl ?_
                  refine EN.int ?_
                  refine AN.nil ?_
                  refine ⟨_, rfl, h.1, fun x32 r0 r1 => ?_⟩
                  replace h := h.2 x32 r0 r1
                  replace h := toP h
                  obtain ⟨x33, ex33, h⟩ := letK_ok h
                  refine AddD.xx ex33 ?_
                  obtain ⟨cx34, x34, ex34, h⟩ := mulK_ok h
                  refine MulD.xx cx34 ex34 ?_
                  obtain ⟨x35, ex35, h⟩ := letK_ok h
                  refine SubI.xx ex35 ?_
                  exact ⟨_, rfl, h⟩
                · intro ys31 h
                  show BN X _ [.no, .src, .dat (PyData.int x8), .dat (PyData.int x9), .dat (PyData.int x10), .dat (uI ()), .dat (PyData.int x13), .dat ((lI PyData.int) x15), .dat (PyData.bool x16), .dat ((lI PyData.int) ys31), .no, .no, .no, .no, .no, .no, .no] _
                  refine BN.cons ?_
                  refine SN.ife ?_
                  refine TN.join h ?_ ?_
                  · intro J36 h
                    refine WN.tn ?_
                    refine WN.or ?_
                    refine TN.ne C ?_
                    refine EN.call C T_support_P_INI (by omega) rfl ?_ rfl rfl
                    refine AN.cons rfl ?_
                    refine EN.var (i := 3) (d := PyData.int x9) C rfl (by walk_at "vis") rfl ?_
                    refine AN.cons rfl ?_
                    refine EN.var (i := 5) (d := uI ()) C rfl (by walk_at "vis") rfl ?_
                    refine AN.cons rfl ?_
                    refine EN.add ?_
                    refine EN.var (i := 6) (d := PyData.int x13) C rfl (by walk_at "vis") rfl ?_
                    refine EN.int ?_
                    obtain ⟨x37, ex37, h⟩ := letK_ok h
                    refine AddD.xx ex37 ?_
                    refine AN.nil ?_
                    obtain ⟨x38, ex38, h⟩ := callK_ok h
                    refine ⟨_, _, _, _, rfl, ex38, ?_⟩
                    refine EN.tup ?_
                    refine LN.cons rfl ?_
                    refine EN.add ?_
                    refine EN.var (i := 6) (d := PyData.int x13) C rfl (by walk_at "vis") rfl ?_
                    refine EN.int ?_
                    obtain ⟨x39, ex39, h⟩ := letK_ok h
                    refine AddD.xx ex39 ?_
                    refine LN.nil ?_
                    refine ⟨Nat.le_of_ble_eq_true rfl, ?_⟩
                    refine NeT.xx (inj := (vI PyData.int)) (x := x38) (y := ([x39] : List Int)) (Ev.tup Ev.int) (by decide) ?_
                    refine ⟨fun hb => ?_, fun hb => ?_⟩
                    · exact bK_t hb h
                    · have h := bK_f hb h
                      refine WN.or1 ?_
                      refine TN.inL C rfl ?_
                      refine EN.bl ?_
                      refine EN.lc (i := 13) C rfl rfl rfl (fun _ => rfl) ?_
                      refine IN.seq ?_
                      refine EN.var (i := 9) (d := (lI PyData.int) ys31) C rfl (by walk_at "vis") rfl ?_
                      refine SeqD.l ?_
                      refine lcFK_in h PyData.int PyData.bool ?_ ?_ ?_
                      · intro x41 J46 h Y45 CY45
                        refine TN.ge ?_
                        refine EN.var (i := 13) (d := PyData.int x41) CY45 rfl (by walk_at "vis") rfl ?_
                        refine EN.int ?_
                        refine IbGe ?_
                        exact h
                      · intro x41 k42 h Y40 CY40
                        refine EN.call CY40 T_holds_P_INII (by omega) rfl ?_ rfl rfl
                        refine AN.cons rfl ?_
                        refine EN.var (i := 3) (d := PyData.int x9) CY40 rfl (by walk_at "vis") rfl ?_
                        refine AN.cons rfl ?_
                        refine EN.var (i := 5) (d := uI ()) CY40 rfl (by walk_at "vis") rfl ?_
                        refine AN.cons rfl ?_
                        refine EN.var (i := 13) (d := PyData.int x41) CY40 rfl (by walk_at "vis") rfl ?_
                        refine AN.cons rfl ?_
                        refine EN.var (i := 6) (d := PyData.int x13) CY40 rfl (by walk_at "vis") rfl ?_
                        refine AN.nil ?_
                        obtain ⟨x44, ex44, h⟩ := callK_ok h
                        refine ⟨_, _, _, _, _, rfl, ex44, ?_⟩
                        exact ⟨_, rfl, h⟩
                      · intro ys43 h
                        refine InD.xx (inj := PyData.bool) (x := true) (xs := ys43) Ev.bool (by decide) ?_
                        exact h
                  · intro b47 h
                    refine ⟨fun hb => ?_, fun hb => ?_⟩
                    · have h := bK_t hb h
                      refine BN.cons ?_
                      refine SN.ret ?_
                      refine EN.bl ?_
                      exact (show False from h).elim
                    · have h := bK_f hb h
                      refine BN.nil ?_
                      show BN X _ [.no, .src, .dat (PyData.int x8), .dat (PyData.int x9), .dat (PyData.int x10), .dat (uI ()), .dat (PyData.int x13), .dat ((lI PyData.int) x15), .dat (PyData.bool x16), .dat ((lI PyData.int) ys31), .no, .no, .no, .no, .no, .no, .no] _
                      refine BN.nil ?_
                      show BN X _ [.no, .src, .dat (PyData.int x8), .dat (PyData.int x9), .dat (PyData.int x10), .dat (uI ()), .dat (PyData.int x13), .dat ((lI PyData.int) x15), .dat (PyData.bool x16), .dat ((lI PyData.int) ys31), .no, .no, .no, .no, .no, .no, .no] _
                      refine BN.wk (ρ' := [.no, .src, .no, .dat (PyData.int x9), .dat (PyData.int x10), .no, .no, .no, .no, .no, .no, .no, .no, .no, .no, .no, .no]) (.eq (.eq (.no (.eq (.eq (.no (.no (.no (.no (.no (.eq (.eq (.eq (.eq (.eq (.eq (.eq .nil))))))))))))))))) ?_
                      refine BN.nil ?_
                      exact ⟨(Sum.inl ((x9, x10))), rfl, h⟩
              · have h := bK_f hb h
                exact dead h
        · have h := optK_s h
          show BN X _ [.no, .src, .dat (PyData.int x8), .dat (PyData.int x9), .dat (PyData.int x10), .dat (PyData.int x12), .no, .no, .no, .no, .no, .no, .no, .no, .no, .no, .no] _
          refine BN.cons ?_
          refine SN.asg (i := 6) C Fx rfl (by walk_at "vis") rfl ?_
          refine EN.call C T_law_draw_far_P_II (by omega) rfl ?_ rfl rfl
          refine AN.src (i := 1) C rfl (by walk_at "vis") rfl rfl ?_
          refine AN.cons rfl ?_
          refine EN.var (i := 3) (d := PyData.int x9) C rfl (by walk_at "vis") rfl ?_
          refine AN.cons rfl ?_
          refine EN.var (i := 5) (d := PyData.int x12) C rfl (by walk_at "vis") rfl ?_
          refine AN.nil ?_
          refine ⟨_, _, _, rfl, h, fun x74 h => ?_⟩
          replace h := toP h
          show BN X _ [.no, .src, .dat (PyData.int x8), .dat (PyData.int x9), .dat (PyData.int x10), .dat (PyData.int x12), .dat (PyData.int x74), .no, .no, .no, .no, .no, .no, .no, .no, .no, .no] _
          refine BN.cons ?_
          refine SN.par2 (i := 7) (j := 8) C rfl rfl (by decide) rfl rfl (by rintro ⟨⟩ ⟨⟩; rfl) rfl ?_
          refine XA.dat rfl ?_
          refine EN.call C T_law_digits_P_III (by omega) rfl ?_ rfl rfl
          refine AN.cons rfl ?_
          refine EN.var (i := 3) (d := PyData.int x9) C rfl (by walk_at "vis") rfl ?_
          refine AN.cons rfl ?_
          refine EN.var (i := 5) (d := PyData.int x12) C rfl (by walk_at "vis") rfl ?_
          refine AN.cons rfl ?_
          refine EN.add ?_
          refine EN.var (i := 6) (d := PyData.int x74) C rfl (by walk_at "vis") rfl ?_
          refine EN.int ?_
          obtain ⟨x75, ex75, h⟩ := letK_ok h
          refine AddD.xx ex75 ?_
          refine AN.nil ?_
          obtain ⟨x76, ex76, h⟩ := callK_ok h
          refine ⟨_, _, _, _, rfl, ex76, ?_⟩
          refine XA.dat rfl ?_
          refine EN.call C T_law_has_middle_P_III (by omega) rfl ?_ rfl rfl
          refine AN.cons rfl ?_
          refine EN.var (i := 3) (d := PyData.int x9) C rfl (by walk_at "vis") rfl ?_
          refine AN.cons rfl ?_
          refine EN.var (i := 4) (d := PyData.int x10) C rfl (by walk_at "vis") rfl ?_
          refine AN.cons rfl ?_
          refine EN.var (i := 6) (d := PyData.int x74) C rfl (by walk_at "vis") rfl ?_
          refine AN.nil ?_
          obtain ⟨x77, ex77, h⟩ := callK_ok h
          refine ⟨_, _, _, _, rfl, ex77, ?_⟩
          refine XA.nil ?_
          refine ⟨rfl, ?_⟩
          show BN X _ [.no, .src, .dat (PyData.int x8), .dat (PyData.int x9), .dat (PyData.int x10), .dat (PyData.int x12), .dat (PyData.int x74), .dat ((lI PyData.int) x76), .dat (PyData.bool x77), .no, .no, .no, .no, .no, .no, .no, .no] _
          refine BN.cons ?_
          refine SN.ife ?_
          refine TN.join h ?_ ?_
          · intro J78 h
            refine WN.tn ?_
            refine WN.or ?_
            refine TN.ne C ?_
            refine EN.call C T_length_P_II (by omega) rfl ?_ rfl rfl
            refine AN.cons rfl ?_
            refine EN.var (i := 3) (d := PyData.int x9) C rfl (by walk_at "vis") rfl ?_
            refine AN.cons rfl ?_
            refine EN.var (i := 4) (d := PyData.int x10) C rfl (by walk_at "vis") rfl ?_
            refine AN.nil ?_
            obtain ⟨x79, ex79, h⟩ := callK_ok h
            refine ⟨_, _, _, rfl, ex79, ?_⟩
            rcases x79 with _ | x80
            · have h := optK_n h
              refine EN.var (i := 5) (d := PyData.int x12) C rfl (by walk_at "vis") rfl ?_
              refine NeT.u (by rfl) (by rfl) rfl ?_
              refine Kt.yes ?_
              exact h
            · have h := optK_s h
              refine EN.var (i := 5) (d := PyData.int x12) C rfl (by walk_at "vis") rfl ?_
              refine NeT.xx (inj := PyData.int) (x := x80) (y := x12) Ev.int (by decide) ?_
              refine ⟨fun hb => ?_, fun hb => ?_⟩
              · exact bK_t hb h
              · have h := bK_f hb h
                refine WN.or ?_
                refine TN.ne C ?_
                refine EN.listc C rfl B.list ?_ rfl rfl
                refine EN.call C T_digits_P_III (by omega) rfl ?_ rfl rfl
                refine AN.cons rfl ?_
                refine EN.var (i := 3) (d := PyData.int x9) C rfl (by walk_at "vis") rfl ?_
                refine AN.cons rfl ?_
                refine EN.var (i := 5) (d := PyData.int x12) C rfl (by walk_at "vis") rfl ?_
                refine AN.cons rfl ?_
                refine EN.add ?_
                refine EN.var (i := 6) (d := PyData.int x74) C rfl (by walk_at "vis") rfl ?_
                refine EN.int ?_
                obtain ⟨x81, ex81, h⟩ := letK_ok h
                refine AddD.xx ex81 ?_
                refine AN.nil ?_
                obtain ⟨x82, ex82, h⟩ := callK_ok h
                refine ⟨_, _, _, _, rfl, ex82, ?_⟩
                refine SeqD.t ?_
                refine EN.var (i := 7) (d := (lI PyData.int) x76) C rfl (by walk_at "vis") rfl ?_
                refine NeT.xx (inj := (lI PyData.int)) (x := x82) (y := x76) (Ev.list Ev.int) (by decide) ?_
                refine ⟨fun hb => ?_, fun hb => ?_⟩
                · exact bK_t hb h
                · have h := bK_f hb h
                  refine WN.or1 ?_
                  refine TN.ne C ?_
                  refine EN.call C T_of_digits_P_IIvI (by omega) rfl ?_ rfl rfl
                  refine AN.cons rfl ?_
                  refine EN.var (i := 3) (d := PyData.int x9) C rfl (by walk_at "vis") rfl ?_
                  refine AN.cons rfl ?_
                  refine EN.var (i := 5) (d := PyData.int x12) C rfl (by walk_at "vis") rfl ?_
                  refine AN.cons rfl ?_
                  refine EN.tuplec C rfl B.tuple ?_ rfl rfl
                  refine EN.var (i := 7) (d := (lI PyData.int) x76) C rfl (by walk_at "vis") rfl ?_
                  refine SeqD.l ?_
                  refine AN.nil ?_
                  obtain ⟨x83, ex83, h⟩ := callK_ok h
                  refine ⟨_, _, _, _, rfl, ex83, ?_⟩
                  refine EN.add ?_
                  refine EN.var (i := 6) (d := PyData.int x74) C rfl (by walk_at "vis") rfl ?_
                  refine EN.int ?_
                  obtain ⟨x84, ex84, h⟩ := letK_ok h
                  refine AddD.xx ex84 ?_
                  refine NeT.xx (inj := PyData.int) (x := x83) (y := x84) Ev.int (by decide) ?_
                  exact h
          · intro b85 h
            refine ⟨fun hb => ?_, fun hb => ?_⟩
            · have h := bK_t hb h
              refine BN.cons ?_
              refine SN.ret ?_
              refine EN.bl ?_
              exact (show False from h).elim
            · have h := bK_f hb h
              refine BN.nil ?_
              show BN X _ [.no, .src, .dat (PyData.int x8), .dat (PyData.int x9), .dat (PyData.int x10), .dat (PyData.int x12), .dat (PyData.int x74), .dat ((lI PyData.int) x76), .dat (PyData.bool x77), .no, .no, .no, .no, .no, .no, .no, .no] _
              refine BN.cons ?_
              refine SN.ife ?_
              refine TN.neS ?_
              refine EN.repr C rfl B.repr ?_ rfl rfl
              refine EN.call C T_has_middle_P_III (by omega) rfl ?_ rfl rfl
              refine AN.cons rfl ?_
              refine EN.var (i := 3) (d := PyData.int x9) C rfl (by walk_at "vis") rfl ?_
              refine AN.cons rfl ?_
              refine EN.var (i := 4) (d := PyData.int x10) C rfl (by walk_at "vis") rfl ?_
              refine AN.cons rfl ?_
              refine EN.var (i := 6) (d := PyData.int x74) C rfl (by walk_at "vis") rfl ?_
              refine AN.nil ?_
              obtain ⟨x86, ex86, h⟩ := callK_ok h
              refine ⟨_, _, _, _, rfl, ex86, ?_⟩
              refine ⟨rp_bool _, ?_⟩
              refine EN.repr C rfl B.repr ?_ rfl rfl
              refine EN.var (i := 8) (d := PyData.bool x77) C rfl (by walk_at "vis") rfl ?_
              refine ⟨rp_bool _, ?_⟩
              obtain ⟨c87, h⟩ := chkK_ok h
              refine reprSame (congrArg PyData.bool (eqB_to c87)) ?_
              refine Kt.noo ?_
              refine BN.nil ?_
              show BN X _ [.no, .src, .dat (PyData.int x8), .dat (PyData.int x9), .dat (PyData.int x10), .dat (PyData.int x12), .dat (PyData.int x74), .dat ((lI PyData.int) x76), .dat (PyData.bool x77), .no, .no, .no, .no, .no, .no, .no, .no] _
              refine BN.cons ?_
              refine SN.ife ?_
              refine TN.val (fun _ => rfl) ?_
              refine EN.var (i := 8) (d := PyData.bool x77) C rfl (by walk_at "vis") rfl ?_
              refine ⟨_, rfl, ?_⟩
              refine tb_b ?_
              refine ⟨fun hb => ?_, fun hb => ?_⟩
              · have h := bK_t hb h
                refine BN.cons ?_
                refine SN.asgLc (i := 15) (j := 9) C rfl rfl rfl rfl rfl (by rintro ⟨⟩ ⟨⟩; rfl) (fun _ => rfl) ?_
                refine IN.r1 C rfl B.range rfl rfl ?_
                refine EN.int ?_
                obtain ⟨cx88, x88, ex88, h⟩ := rng1K_ok h
                refine ⟨_, rfl, cx88.1, cx88.2, ?_⟩
                rw [rng1_r ex88]
                refine lcK_in h PyData.int PyData.int ?_ ?_
                · intro x90 k91 h Y89 CY89
                  refine EN.sub ?_
                  refine EN.var (i := 6) (d := PyData.int x74) CY89 rfl (by walk_at "vis") rfl ?_
                  refine EN.mul ?_
                  refine EN.int ?_
                  refine EN.add ?_
                  refine EN.int ?_
                  refine EN.call CY89 T_law_pick (by omega) rfl ?_ rfl rfl
                  refine AN.src (i := 1) CY89 rfl (by walk_at "vis") rfl rfl ?_
                  refine AN.cons rfl ?_
                  refine EN.int ?_
                  refine AN.nil ?_
                  refine ⟨_, rfl, h.1, fun x93 r0 r1 => ?_⟩
                  replace h := h.2 x93 r0 r1
                  replace h := toP h
                  obtain ⟨x94, ex94, h⟩ := letK_ok h
                  refine AddD.xx ex94 ?_
                  obtain ⟨cx95, x95, ex95, h⟩ := mulK_ok h
                  refine MulD.xx cx95 ex95 ?_
                  obtain ⟨x96, ex96, h⟩ := letK_ok h
                  refine SubI.xx ex96 ?_
                  exact ⟨_, rfl, h⟩
                · intro ys92 h
                  show BN X _ [.no, .src, .dat (PyData.int x8), .dat (PyData.int x9), .dat (PyData.int x10), .dat (PyData.int x12), .dat (PyData.int x74), .dat ((lI PyData.int) x76), .dat (PyData.bool x77), .dat ((lI PyData.int) ys92), .no, .no, .no, .no, .no, .no, .no] _
                  refine BN.cons ?_
                  refine SN.ife ?_
                  refine TN.join h ?_ ?_
                  · intro J97 h
                    refine WN.tn ?_
                    refine WN.or ?_
                    refine TN.ne C ?_
                    refine EN.call C T_support_P_III (by omega) rfl ?_ rfl rfl
                    refine AN.cons rfl ?_
                    refine EN.var (i := 3) (d := PyData.int x9) C rfl (by walk_at "vis") rfl ?_
                    refine AN.cons rfl ?_
                    refine EN.var (i := 5) (d := PyData.int x12) C rfl (by walk_at "vis") rfl ?_
                    refine AN.cons rfl ?_
                    refine EN.add ?_
                    refine EN.var (i := 6) (d := PyData.int x74) C rfl (by walk_at "vis") rfl ?_
                    refine EN.int ?_
                    obtain ⟨x98, ex98, h⟩ := letK_ok h
                    refine AddD.xx ex98 ?_
                    refine AN.nil ?_
                    obtain ⟨x99, ex99, h⟩ := callK_ok h
                    refine ⟨_, _, _, _, rfl, ex99, ?_⟩
                    refine EN.tup ?_
                    refine LN.cons rfl ?_
                    refine EN.add ?_
                    refine EN.var (i := 6) (d := PyData.int x74) C rfl (by walk_at "vis") rfl ?_
                    refine EN.int ?_
                    obtain ⟨x100, ex100, h⟩ := letK_ok h
                    refine AddD.xx ex100 ?_
                    refine LN.nil ?_
                    refine ⟨Nat.le_of_ble_eq_true rfl, ?_⟩
                    refine NeT.xx (inj := (vI PyData.int)) (x := x99) (y := ([x100] : List Int)) (Ev.tup Ev.int) (by decide) ?_
                    refine ⟨fun hb => ?_, fun hb => ?_⟩
                    · exact bK_t hb h
                    · have h := bK_f hb h
                      refine WN.or1 ?_
                      refine TN.inL C rfl ?_
                      refine EN.bl ?_
                      refine EN.lc (i := 13) C rfl rfl rfl (fun _ => rfl) ?_
                      refine IN.seq ?_
                      refine EN.var (i := 9) (d := (lI PyData.int) ys92) C rfl (by walk_at "vis") rfl ?_
                      refine SeqD.l ?_
                      refine lcFK_in h PyData.int PyData.bool ?_ ?_ ?_
                      · intro x102 J107 h Y106 CY106
                        refine TN.ge ?_
                        refine EN.var (i := 13) (d := PyData.int x102) CY106 rfl (by walk_at "vis") rfl ?_
                        refine EN.int ?_
                        refine IbGe ?_
                        exact h
                      · intro x102 k103 h Y101 CY101
                        refine EN.call CY101 T_holds_P_IIII (by omega) rfl ?_ rfl rfl
                        refine AN.cons rfl ?_
                        refine EN.var (i := 3) (d := PyData.int x9) CY101 rfl (by walk_at "vis") rfl ?_
                        refine AN.cons rfl ?_
                        refine EN.var (i := 5) (d := PyData.int x12) CY101 rfl (by walk_at "vis") rfl ?_
                        refine AN.cons rfl ?_
                        refine EN.var (i := 13) (d := PyData.int x102) CY101 rfl (by walk_at "vis") rfl ?_
                        refine AN.cons rfl ?_
                        refine EN.var (i := 6) (d := PyData.int x74) CY101 rfl (by walk_at "vis") rfl ?_
                        refine AN.nil ?_
                        obtain ⟨x105, ex105, h⟩ := callK_ok h
                        refine ⟨_, _, _, _, _, rfl, ex105, ?_⟩
                        exact ⟨_, rfl, h⟩
                      · intro ys104 h
                        refine InD.xx (inj := PyData.bool) (x := true) (xs := ys104) Ev.bool (by decide) ?_
                        exact h
                  · intro b108 h
                    refine ⟨fun hb => ?_, fun hb => ?_⟩
                    · have h := bK_t hb h
                      refine BN.cons ?_
                      refine SN.ret ?_
                      refine EN.bl ?_
                      exact (show False from h).elim
                    · have h := bK_f hb h
                      refine BN.nil ?_
                      show BN X _ [.no, .src, .dat (PyData.int x8), .dat (PyData.int x9), .dat (PyData.int x10), .dat (PyData.int x12), .dat (PyData.int x74), .dat ((lI PyData.int) x76), .dat (PyData.bool x77), .dat ((lI PyData.int) ys92), .no, .no, .no, .no, .no, .no, .no] _
                      refine BN.nil ?_
                      show BN X _ [.no, .src, .dat (PyData.int x8), .dat (PyData.int x9), .dat (PyData.int x10), .dat (PyData.int x12), .dat (PyData.int x74), .dat ((lI PyData.int) x76), .dat (PyData.bool x77), .dat ((lI PyData.int) ys92), .no, .no, .no, .no, .no, .no, .no] _
                      refine BN.wk (ρ' := [.no, .src, .no, .dat (PyData.int x9), .dat (PyData.int x10), .no, .no, .no, .no, .no, .no, .no, .no, .no, .no, .no, .no]) (.eq (.eq (.no (.eq (.eq (.no (.no (.no (.no (.no (.eq (.eq (.eq (.eq (.eq (.eq (.eq .nil))))))))))))))))) ?_
                      refine BN.nil ?_
                      exact ⟨(Sum.inl ((x9, x10))), rfl, h⟩
              · have h := bK_f hb h
                refine BN.cons ?_
                refine SN.par2 (i := 10) (j := 11) C rfl rfl (by decide) rfl rfl (by rintro ⟨⟩ ⟨⟩; rfl) rfl ?_
                refine XA.dat rfl ?_
                refine EN.ix (fun _ _ => rfl) ?_
                refine EN.lcP (i := 12) (i2 := 16) C rfl rfl rfl rfl rfl (by decide) (fun _ => rfl) (fun _ => rfl) (fun _ => rfl) (fun _ => rfl) (fun _ => rfl) ?_
                refine IN.enum C rfl B.enumerate rfl rfl ?_
                refine EN.var (i := 7) (d := (lI PyData.int) x76) C rfl (by walk_at "vis") rfl ?_
                obtain ⟨x109, ex109, h⟩ := letK_ok h
                refine ⟨_, rfl, ?_⟩
                rw [enum_r (inj := PyData.int) ex109]
                refine lcFP_in h PyData.int PyData.int PyData.int ?_ ?_ ?_
                · intro x111 J137 h Y136 CY136
                  refine TN.ne CY136 ?_
                  refine EN.var (i := 16) (d := PyData.int (x111).2) CY136 rfl (by walk_at "vis") rfl ?_
                  refine EN.int ?_
                  refine NeT.xx (inj := PyData.int) (x := (x111).2) (y := 0) Ev.int (by decide) ?_
                  exact h
                · intro x111 k112 h Y110 CY110
                  refine EN.var (i := 12) (d := PyData.int (x111).1) CY110 rfl (by walk_at "vis") rfl ?_
                  exact ⟨_, rfl, h⟩
                · intro ys113 h
                  refine EN.int ?_
                  obtain ⟨x114, ex114, h⟩ := callK_ok h
                  refine IxD.lx (inj := PyData.int) (xs := ys113) ex114 ?_
                  refine XA.dat rfl ?_
                  refine EN.int ?_
                  refine XA.nil ?_
                  refine ⟨rfl, ?_⟩
                  show BN X _ [.no, .src, .dat (PyData.int x8), .dat (PyData.int x9), .dat (PyData.int x10), .dat (PyData.int x12), .dat (PyData.int x74), .dat ((lI PyData.int) x76), .dat (PyData.bool x77), .no, .dat (PyData.int x114), .dat (PyData.int 1), .no, .no, .no, .no, .no] _
                  refine BN.cons ?_
                  refine SN.for C (fun _ => rfl) ?_
                  refine IN.r1 C rfl B.range rfl rfl ?_
                  refine EN.var (i := 10) (d := PyData.int x114) C rfl (by walk_at "vis") rfl ?_
                  obtain ⟨cx118, x118, ex118, h⟩ := rng1K_ok h
                  refine ⟨_, rfl, cx118.1, cx118.2, ?_⟩
                  rw [rng1_r ex118]
                  refine forK_in h PyData.int (fun (s115 : (Int)) => [.no, .src, .dat (PyData.int x8), .dat (PyData.int x9), .dat (PyData.int x10), .dat (PyData.int x12), .dat (PyData.int x74), .dat ((lI PyData.int) x76), .dat (PyData.bool x77), .no, .dat (PyData.int x114), .dat (PyData.int s115), .no, .no, .no, .no, .no]) rfl ?_ ?_
                  · intro s125 h
                    show BN X _ [.no, .src, .dat (PyData.int x8), .dat (PyData.int x9), .dat (PyData.int x10), .dat (PyData.int x12), .dat (PyData.int x74), .dat ((lI PyData.int) x76), .dat (PyData.bool x77), .no, .dat (PyData.int x114), .dat (PyData.int s125), .no, .no, .no, .no, .no] _
                    refine BN.cons ?_
                    refine SN.asg (i := 13) C Fx rfl (by walk_at "vis") rfl ?_
                    refine EN.sub ?_
                    refine EN.var (i := 6) (d := PyData.int x74) C rfl (by walk_at "vis") rfl ?_
                    refine EN.mul ?_
                    refine EN.mul ?_
                    refine EN.int ?_
                    refine EN.ix (fun _ _ => rfl) ?_
                    refine EN.var (i := 7) (d := (lI PyData.int) x76) C rfl (by walk_at "vis") rfl ?_
                    refine EN.var (i := 10) (d := PyData.int x114) C rfl (by walk_at "vis") rfl ?_
                    obtain ⟨x126, ex126, h⟩ := callK_ok h
                    refine IxD.lx (inj := PyData.int) (xs := x76) ex126 ?_
                    obtain ⟨cx127, x127, ex127, h⟩ := mulK_ok h
                    refine MulD.xx cx127 ex127 ?_
                    refine EN.var (i := 11) (d := PyData.int s125) C rfl (by walk_at "vis") rfl ?_
                    obtain ⟨cx128, x128, ex128, h⟩ := mulK_ok h
                    refine MulD.xx cx128 ex128 ?_
                    obtain ⟨x129, ex129, h⟩ := letK_ok h
                    refine SubI.xx ex129 ?_
                    show BN X _ [.no, .src, .dat (PyData.int x8), .dat (PyData.int x9), .dat (PyData.int x10), .dat (PyData.int x12), .dat (PyData.int x74), .dat ((lI PyData.int) x76), .dat (PyData.bool x77), .no, .dat (PyData.int x114), .dat (PyData.int s125), .no, .dat (PyData.int x129), .no, .no, .no] _
                    refine BN.cons ?_
                    refine SN.ife ?_
                    refine TN.join h ?_ ?_
                    · intro J130 h
                      refine WN.tn ?_
                      refine WN.or ?_
                      refine TN.isnotB ?_
                      refine EN.call C T_holds_P_IIII (by omega) rfl ?_ rfl rfl
                      refine AN.cons rfl ?_
                      refine EN.var (i := 3) (d := PyData.int x9) C rfl (by walk_at "vis") rfl ?_
                      refine AN.cons rfl ?_
                      refine EN.var (i := 5) (d := PyData.int x12) C rfl (by walk_at "vis") rfl ?_
                      refine AN.cons rfl ?_
                      refine EN.var (i := 13) (d := PyData.int x129) C rfl (by walk_at "vis") rfl ?_
                      refine AN.cons rfl ?_
                      refine EN.var (i := 6) (d := PyData.int x74) C rfl (by walk_at "vis") rfl ?_
                      refine AN.nil ?_
                      obtain ⟨x131, ex131, h⟩ := callK_ok h
                      refine ⟨_, _, _, _, _, rfl, ex131, ?_⟩
                      refine ⟨_, rfl, ?_⟩
                      refine ⟨fun hb => ?_, fun hb => ?_⟩
                      · exact bK_t hb h
                      · have h := bK_f hb h
                        refine WN.or ?_
                        refine TN.isnotB ?_
                        refine EN.call C T_keeps_all_P_IIII (by omega) rfl ?_ rfl rfl
                        refine AN.cons rfl ?_
                        refine EN.var (i := 3) (d := PyData.int x9) C rfl (by walk_at "vis") rfl ?_
                        refine AN.cons rfl ?_
                        refine EN.var (i := 4) (d := PyData.int x10) C rfl (by walk_at "vis") rfl ?_
                        refine AN.cons rfl ?_
                        refine EN.var (i := 6) (d := PyData.int x74) C rfl (by walk_at "vis") rfl ?_
                        refine AN.cons rfl ?_
                        refine EN.var (i := 13) (d := PyData.int x129) C rfl (by walk_at "vis") rfl ?_
                        refine AN.nil ?_
                        obtain ⟨x132, ex132, h⟩ := callK_ok h
                        refine ⟨_, _, _, _, _, rfl, ex132, ?_⟩
                        refine ⟨_, rfl, ?_⟩
                        refine ⟨fun hb => ?_, fun hb => ?_⟩
                        · exact bK_t hb h
                        · have h := bK_f hb h
                          refine WN.or1 ?_
                          refine TN.gt ?_
                          refine EN.call C T_next_over_P_III (by omega) rfl ?_ rfl rfl
                          refine AN.cons rfl ?_
                          refine EN.var (i := 3) (d := PyData.int x9) C rfl (by walk_at "vis") rfl ?_
                          refine AN.cons rfl ?_
                          refine EN.var (i := 5) (d := PyData.int x12) C rfl (by walk_at "vis") rfl ?_
                          refine AN.cons rfl ?_
                          refine EN.var (i := 13) (d := PyData.int x129) C rfl (by walk_at "vis") rfl ?_
                          refine AN.nil ?_
                          obtain ⟨x133, ex133, h⟩ := callK_ok h
                          refine ⟨_, _, _, _, rfl, ex133, ?_⟩
                          rcases x133 with _ | x134
                          · have h := optK_n h
                            exact dead h
                          · have h := optK_s h
                            refine EN.var (i := 6) (d := PyData.int x74) C rfl (by walk_at "vis") rfl ?_
                            refine IbGt ?_
                            exact h
                    · intro b135 h
                      refine ⟨fun hb => ?_, fun hb => ?_⟩
                      · have h := bK_t hb h
                        refine BN.cons ?_
                        refine SN.ret ?_
                        refine EN.bl ?_
                        exact (show False from h).elim
                      · have h := bK_f hb h
                        refine BN.nil ?_
                        show BN X _ [.no, .src, .dat (PyData.int x8), .dat (PyData.int x9), .dat (PyData.int x10), .dat (PyData.int x12), .dat (PyData.int x74), .dat ((lI PyData.int) x76), .dat (PyData.bool x77), .no, .dat (PyData.int x114), .dat (PyData.int s125), .no, .dat (PyData.int x129), .no, .no, .no] _
                        refine BN.nil ?_
                        show BN X _ [.no, .src, .dat (PyData.int x8), .dat (PyData.int x9), .dat (PyData.int x10), .dat (PyData.int x12), .dat (PyData.int x74), .dat ((lI PyData.int) x76), .dat (PyData.bool x77), .no, .dat (PyData.int x114), .dat (PyData.int s125), .no, .dat (PyData.int x129), .no, .no, .no] _
                        refine BN.wk (ρ' := [.no, .src, .no, .dat (PyData.int x9), .dat (PyData.int x10), .no, .no, .no, .no, .no, .no, .no, .no, .no, .no, .no, .no]) (.eq (.eq (.no (.eq (.eq (.no (.no (.no (.no (.eq (.no (.no (.eq (.no (.eq (.eq (.eq .nil))))))))))))))))) ?_
                        refine BN.nil ?_
                        exact ⟨(Sum.inl ((x9, x10))), rfl, h⟩
                  · intro x119 s115 fin116 nx117 h
                    refine GN.name (i := 12) C rfl (by walk_at "vis") (Or.inl (Fx _)) ?_
                    show BN X _ [.no, .src, .dat (PyData.int x8), .dat (PyData.int x9), .dat (PyData.int x10), .dat (PyData.int x12), .dat (PyData.int x74), .dat ((lI PyData.int) x76), .dat (PyData.bool x77), .no, .dat (PyData.int x114), .dat (PyData.int s115), .dat (PyData.int x119), .no, .no, .no, .no] _
                    show BN X _ [.no, .src, .dat (PyData.int x8), .dat (PyData.int x9), .dat (PyData.int x10), .dat (PyData.int x12), .dat (PyData.int x74), .dat ((lI PyData.int) x76), .dat (PyData.bool x77), .no, .dat (PyData.int x114), .dat (PyData.int s115), .dat (PyData.int x119), .no, .no, .no, .no] _
                    refine BN.cons ?_
                    refine SN.asg (i := 11) C Fx rfl (by walk_at "vis") rfl ?_
                    refine EN.mul ?_
                    refine EN.var (i := 11) (d := PyData.int s115) C rfl (by walk_at "vis") rfl ?_
                    refine EN.join h PyData.int ?_ ?_
                    · intro J120 h
                      refine EN.ife ?_
                      refine TN.eq C ?_
                      refine EN.var (i := 12) (d := PyData.int x119) C rfl (by walk_at "vis") rfl ?_
                      refine EN.int ?_
                      refine EqT.xx (inj := PyData.int) (x := x119) (y := 0) Ev.int (by decide) ?_
                      refine ⟨fun hb => ?_, fun hb => ?_⟩
                      · have h := bK_t hb h
                        refine EN.var (i := 5) (d := PyData.int x12) C rfl (by walk_at "vis") rfl ?_
                        exact ⟨x12, rfl, h⟩
                      · have h := bK_f hb h
                        refine EN.max2 C rfl B.max ?_ rfl rfl rfl
                        refine EN.var (i := 3) (d := PyData.int x9) C rfl (by walk_at "vis") rfl ?_
                        refine EN.int ?_
                        obtain ⟨x122, ex122, h⟩ := letK_ok h
                        refine ⟨_, _, rfl, rfl, ?_⟩
                        rw [max_r ex122]
                        exact ⟨x122, rfl, h⟩
                    · intro x123 h
                      obtain ⟨cx124, x124, ex124, h⟩ := mulK_ok h
                      refine MulD.xx cx124 ex124 ?_
                      show BN X _ [.no, .src, .dat (PyData.int x8), .dat (PyData.int x9), .dat (PyData.int x10), .dat (PyData.int x12), .dat (PyData.int x74), .dat ((lI PyData.int) x76), .dat (PyData.bool x77), .no, .dat (PyData.int x114), .dat (PyData.int x124), .dat (PyData.int x119), .no, .no, .no, .no] _
                      refine BN.wk (ρ' := [.no, .src, .dat (PyData.int x8), .dat (PyData.int x9), .dat (PyData.int x10), .dat (PyData.int x12), .dat (PyData.int x74), .dat ((lI PyData.int) x76), .dat (PyData.bool x77), .no, .dat (PyData.int x114), .dat (PyData.int x124), .no, .no, .no, .no, .no]) (.eq (.eq (.eq (.eq (.eq (.eq (.eq (.eq (.eq (.eq (.eq (.eq (.no (.eq (.eq (.eq (.eq .nil))))))))))))))))) ?_
                      refine BN.nil ?_
                      exact ⟨(x124), rfl, h⟩
      · have h := bK_f hb h
        refine BN.cons ?_
        refine SN.asg (i := 4) C Fx rfl (by walk_at "vis") rfl ?_
        refine EN.call C T_law_draw_worth_Q_I (by omega) rfl ?_ rfl rfl
        refine AN.src (i := 1) C rfl (by walk_at "vis") rfl rfl ?_
        refine AN.cons rfl ?_
        refine EN.var (i := 3) (d := PyData.int x9) C rfl (by walk_at "vis") rfl ?_
        refine AN.nil ?_
        refine ⟨_, _, rfl, h, fun x138 h => ?_⟩
        replace h := toP h
        show BN X _ [.no, .src, .dat (PyData.int x8), .dat (PyData.int x9), .dat ((pI PyData.int PyData.int) x138), .no, .no, .no, .no, .no, .no, .no, .no, .no, .no, .no, .no] _
        refine BN.cons ?_
        refine SN.asg (i := 5) C Fx rfl (by walk_at "vis") rfl ?_
        refine EN.call C T_law_length_Q_ITIIe (by omega) rfl ?_ rfl rfl
        refine AN.cons rfl ?_
        refine EN.var (i := 3) (d := PyData.int x9) C rfl (by walk_at "vis") rfl ?_
        refine AN.cons rfl ?_
        refine EN.var (i := 4) (d := (pI PyData.int PyData.int) x138) C rfl (by walk_at "vis") rfl ?_
        refine AN.nil ?_
        obtain ⟨x139, ex139, h⟩ := callK_ok h
        refine ⟨_, _, _, rfl, ex139, ?_⟩
        rcases x139 with _ | x140
        · have h := optK_n h
          show BN X _ [.no, .src, .dat (PyData.int x8), .dat (PyData.int x9), .dat ((pI PyData.int PyData.int) x138), .dat (uI ()), .no, .no, .no, .no, .no, .no, .no, .no, .no, .no, .no] _
          refine BN.cons ?_
          refine SN.asg (i := 6) C Fx rfl (by walk_at "vis") rfl ?_
          refine EN.call C T_law_draw_far_Q_IN (by omega) rfl ?_ rfl rfl
          refine AN.src (i := 1) C rfl (by walk_at "vis") rfl rfl ?_
          refine AN.cons rfl ?_
          refine EN.var (i := 3) (d := PyData.int x9) C rfl (by walk_at "vis") rfl ?_
          refine AN.cons rfl ?_
          refine EN.var (i := 5) (d := uI ()) C rfl (by walk_at "vis") rfl ?_
          refine AN.nil ?_
          refine ⟨_, _, _, rfl, h, fun x141 h => ?_⟩
          replace h := toP h
          show BN X _ [.no, .src, .dat (PyData.int x8), .dat (PyData.int x9), .dat ((pI PyData.int PyData.int) x138), .dat (uI ()), .dat (PyData.int x141), .no, .no, .no, .no, .no, .no, .no, .no, .no, .no] _
          refine BN.cons ?_
          refine SN.par2 (i := 7) (j := 8) C rfl rfl (by decide) rfl rfl (by rintro ⟨⟩ ⟨⟩; rfl) rfl ?_
          refine XA.dat rfl ?_
          refine EN.call C T_law_digits_Q_INI (by omega) rfl ?_ rfl rfl
          refine AN.cons rfl ?_
          refine EN.var (i := 3) (d := PyData.int x9) C rfl (by walk_at "vis") rfl ?_
          refine AN.cons rfl ?_
          refine EN.var (i := 5) (d := uI ()) C rfl (by walk_at "vis") rfl ?_
          refine AN.cons rfl ?_
          refine EN.add ?_
          refine EN.var (i := 6) (d := PyData.int x141) C rfl (by walk_at "vis") rfl ?_
          refine EN.int ?_
          obtain ⟨x142, ex142, h⟩ := letK_ok h
          refine AddD.xx ex142 ?_
          refine AN.nil ?_
          obtain ⟨x143, ex143, h⟩ := callK_ok h
          refine ⟨_, _, _, _, rfl, ex143, ?_⟩
          refine XA.dat rfl ?_
          refine EN.call C T_law_has_middle_Q_ITIIeI (by omega) rfl ?_ rfl rfl
          refine AN.cons rfl ?_
          refine EN.var (i := 3) (d := PyData.int x9) C rfl (by walk_at "vis") rfl ?_
          refine AN.cons rfl ?_
          refine EN.var (i := 4) (d := (pI PyData.int PyData.int) x138) C rfl (by walk_at "vis") rfl ?_
          refine AN.cons rfl ?_
          refine EN.var (i := 6) (d := PyData.int x141) C rfl (by walk_at "vis") rfl ?_
          refine AN.nil ?_
          obtain ⟨x144, ex144, h⟩ := callK_ok h
          refine ⟨_, _, _, _, rfl, ex144, ?_⟩
          refine XA.nil ?_
          refine ⟨rfl, ?_⟩
          show BN X _ [.no, .src, .dat (PyData.int x8), .dat (PyData.int x9), .dat ((pI PyData.int PyData.int) x138), .dat (uI ()), .dat (PyData.int x141), .dat ((lI PyData.int) x143), .dat (PyData.bool x144), .no, .no, .no, .no, .no, .no, .no, .no] _
          refine BN.cons ?_
          refine SN.ife ?_
          refine TN.join h ?_ ?_
          · intro J145 h
            refine WN.tn ?_
            refine WN.or ?_
            refine TN.ne C ?_
            refine EN.call C T_length_Q_ITIIe (by omega) rfl ?_ rfl rfl
            refine AN.cons rfl ?_
            refine EN.var (i := 3) (d := PyData.int x9) C rfl (by walk_at "vis") rfl ?_
            refine AN.cons rfl ?_
            refine EN.var (i := 4) (d := (pI PyData.int PyData.int) x138) C rfl (by walk_at "vis") rfl ?_
            refine AN.nil ?_
            obtain ⟨x146, ex146, h⟩ := callK_ok h
            refine ⟨_, _, _, rfl, ex146, ?_⟩
            rcases x146 with _ | x147
            · have h := optK_n h
              refine EN.var (i := 5) (d := uI ()) C rfl (by walk_at "vis") rfl ?_
              refine NeT.s (by rfl) rfl ?_
              refine Kt.noo ?_
              refine WN.or ?_
              refine TN.ne C ?_
              refine EN.listc C rfl B.list ?_ rfl rfl
              refine EN.call C T_digits_Q_INI (by omega) rfl ?_ rfl rfl
              refine AN.cons rfl ?_
              refine EN.var (i := 3) (d := PyData.int x9) C rfl (by walk_at "vis") rfl ?_
              refine AN.cons rfl ?_
              refine EN.var (i := 5) (d := uI ()) C rfl (by walk_at "vis") rfl ?_
              refine AN.cons rfl ?_
              refine EN.add ?_
              refine EN.var (i := 6) (d := PyData.int x141) C rfl (by walk_at "vis") rfl ?_
              refine EN.int ?_
              obtain ⟨x148, ex148, h⟩ := letK_ok h
              refine AddD.xx ex148 ?_
              refine AN.nil ?_
              obtain ⟨x149, ex149, h⟩ := callK_ok h
              refine ⟨_, _, _, _, rfl, ex149, ?_⟩
              refine SeqD.t ?_
              refine EN.var (i := 7) (d := (lI PyData.int) x143) C rfl (by walk_at "vis") rfl ?_
              refine NeT.xx (inj := (lI PyData.int)) (x := ([x149] : List Int)) (y := x143) (Ev.list Ev.int) (by decide) ?_
              refine ⟨fun hb => ?_, fun hb => ?_⟩
              · exact bK_t hb h
              · have h := bK_f hb h
                refine WN.or1 ?_
                refine TN.ne C ?_
                refine EN.call C T_of_digits_Q_INvI (by omega) rfl ?_ rfl rfl
                refine AN.cons rfl ?_
                refine EN.var (i := 3) (d := PyData.int x9) C rfl (by walk_at "vis") rfl ?_
                refine AN.cons rfl ?_
                refine EN.var (i := 5) (d := uI ()) C rfl (by walk_at "vis") rfl ?_
                refine AN.cons rfl ?_
                refine EN.tuplec C rfl B.tuple ?_ rfl rfl
                refine EN.var (i := 7) (d := (lI PyData.int) x143) C rfl (by walk_at "vis") rfl ?_
                refine SeqD.l ?_
                refine AN.nil ?_
                obtain ⟨x150, ex150, h⟩ := callK_ok h
                refine ⟨_, _, _, _, rfl, ex150, ?_⟩
                refine EN.add ?_
                refine EN.var (i := 6) (d := PyData.int x141) C rfl (by walk_at "vis") rfl ?_
                refine EN.int ?_
                obtain ⟨x151, ex151, h⟩ := letK_ok h
                refine AddD.xx ex151 ?_
                refine NeT.xx (inj := PyData.int) (x := x150) (y := x151) Ev.int (by decide) ?_
                exact h
            · have h := optK_s h
              refine EN.var (i := 5) (d := uI ()) C rfl (by walk_at "vis") rfl ?_
              refine NeT.u (by rfl) (by rfl) rfl ?_
              refine Kt.yes ?_
              exact h
          · intro b152 h
            refine ⟨fun hb => ?_, fun hb => ?_⟩
            · have h := bK_t hb h
              refine BN.cons ?_
              refine SN.ret ?_
              refine EN.bl ?_
              exact (show False from h).elim
            · have h := bK_f hb h
              refine BN.nil ?_
              show BN X _ [.no, .src, .dat (PyData.int x8), .dat (PyData.int x9), .dat ((pI PyData.int PyData.int) x138), .dat (uI ()), .dat (PyData.int x141), .dat ((lI PyData.int) x143), .dat (PyData.bool x144), .no, .no, .no, .no, .no, .no, .no, .no] _
              refine BN.cons ?_
              refine SN.ife ?_
              refine TN.neS ?_
              refine EN.repr C rfl B.repr ?_ rfl rfl
              refine EN.call C T_has_middle_Q_ITIIeI (by omega) rfl ?_ rfl rfl
              refine AN.cons rfl ?_
              refine EN.var (i := 3) (d := PyData.int x9) C rfl (by walk_at "vis") rfl ?_
              refine AN.cons rfl ?_
              refine EN.var (i := 4) (d := (pI PyData.int PyData.int) x138) C rfl (by walk_at "vis") rfl ?_
              refine AN.cons rfl ?_
              refine EN.var (i := 6) (d := PyData.int x141) C rfl (by walk_at "vis") rfl ?_
              refine AN.nil ?_
              obtain ⟨x153, ex153, h⟩ := callK_ok h
              refine ⟨_, _, _, _, rfl, ex153, ?_⟩
              refine ⟨rp_bool _, ?_⟩
              refine EN.repr C rfl B.repr ?_ rfl rfl
              refine EN.var (i := 8) (d := PyData.bool x144) C rfl (by walk_at "vis") rfl ?_
              refine ⟨rp_bool _, ?_⟩
              obtain ⟨c154, h⟩ := chkK_ok h
              refine reprSame (congrArg PyData.bool (eqB_to c154)) ?_
              refine Kt.noo ?_
              refine BN.nil ?_
              show BN X _ [.no, .src, .dat (PyData.int x8), .dat (PyData.int x9), .dat ((pI PyData.int PyData.int) x138), .dat (uI ()), .dat (PyData.int x141), .dat ((lI PyData.int) x143), .dat (PyData.bool x144), .no, .no, .no, .no, .no, .no, .no, .no] _
              refine BN.cons ?_
              refine SN.ife ?_
              refine TN.val (fun _ => rfl) ?_
              refine EN.var (i := 8) (d := PyData.bool x144) C rfl (by walk_at "vis") rfl ?_
              refine ⟨_, rfl, ?_⟩
              refine tb_b ?_
              refine ⟨fun hb => ?_, fun hb => ?_⟩
              · have h := bK_t hb h
                refine BN.cons ?_
                refine SN.asgLc (i := 15) (j := 9) C rfl rfl rfl rfl rfl (by rintro ⟨⟩ ⟨⟩; rfl) (fun _ => rfl) ?_
                refine IN.r1 C rfl B.range rfl rfl ?_
                refine EN.int ?_
                obtain ⟨cx155, x155, ex155, h⟩ := rng1K_ok h
                refine ⟨_, rfl, cx155.1, cx155.2, ?_⟩
                rw [rng1_r ex155]
                refine lcK_in h PyData.int PyData.int ?_ ?_
                · intro x157 k158 h Y156 CY156
                  refine EN.sub ?_
                  refine EN.var (i := 6) (d := PyData.int x141) CY156 rfl (by walk_at "vis") rfl ?_
                  refine EN.mul ?_
                  refine EN.int ?_
                  refine EN.add ?_
                  refine EN.int ?_
                  refine EN.call CY156 T_law_pick (by omega) rfl ?_ rfl rfl
                  refine AN.src (i := 1) CY156 rfl (by walk_at "vis") rfl rfl ?_
                  refine AN.cons rfl ?_
                  refine EN.int ?_
                  refine AN.nil ?_
                  refine ⟨_, rfl, h.1, fun x160 r0 r1 => ?_⟩
                  replace h := h.2 x160 r0 r1
                  replace h := toP h
                  obtain ⟨x161, ex161, h⟩ := letK_ok h
                  refine AddD.xx ex161 ?_
                  obtain ⟨cx162, x162, ex162, h⟩ := mulK_ok h
                  refine MulD.xx cx162 ex162 ?_
                  obtain ⟨x163, ex163, h⟩ := letK_ok h
                  refine SubI.xx ex163 ?_
                  exact ⟨_, rfl, h⟩
                · intro ys159 h
                  show BN X _ [.no, .src, .dat (PyData.int x8), .dat (PyData.int x9), .dat ((pI PyData.int PyData.int) x138), .dat (uI ()), .dat (PyData.int x141), .dat ((lI PyData.int) x143), .dat (PyData.bool x144), .dat ((lI PyData.int) ys159), .no, .no, .no, .no, .no, .no, .no] _
                  refine BN.cons ?_
                  refine SN.ife ?_
                  refine TN.join h ?_ ?_
                  · intro J164 h
                    refine WN.tn ?_
                    refine WN.or ?_
                    refine TN.ne C ?_
                    refine EN.call C T_support_Q_INI (by omega) rfl ?_ rfl rfl
                    refine AN.cons rfl ?_
                    refine EN.var (i := 3) (d := PyData.int x9) C rfl (by walk_at "vis") rfl ?_
                    refine AN.cons rfl ?_
                    refine EN.var (i := 5) (d := uI ()) C rfl (by walk_at "vis") rfl ?_
                    refine AN.cons rfl ?_
                    refine EN.add ?_
                    refine EN.var (i := 6) (d := PyData.int x141) C rfl (by walk_at "vis") rfl ?_
                    refine EN.int ?_
                    obtain ⟨x165, ex165, h⟩ := letK_ok h
                    refine AddD.xx ex165 ?_
                    refine AN.nil ?_
                    obtain ⟨x166, ex166, h⟩ := callK_ok h
                    refine ⟨_, _, _, _, rfl, ex166, ?_⟩
                    refine EN.tup ?_
                    refine LN.cons rfl ?_
                    refine EN.add ?_
                    refine EN.var (i := 6) (d := PyData.int x141) C rfl (by walk_at "vis") rfl ?_
                    refine EN.int ?_
                    obtain ⟨x167, ex167, h⟩ := letK_ok h
                    refine AddD.xx ex167 ?_
                    refine LN.nil ?_
                    refine ⟨Nat.le_of_ble_eq_true rfl, ?_⟩
                    refine NeT.xx (inj := (vI PyData.int)) (x := x166) (y := ([x167] : List Int)) (Ev.tup Ev.int) (by decide) ?_
                    refine ⟨fun hb => ?_, fun hb => ?_⟩
                    · exact bK_t hb h
                    · have h := bK_f hb h
                      refine WN.or1 ?_
                      refine TN.inL C rfl ?_
                      refine EN.bl ?_
                      refine EN.lc (i := 13) C rfl rfl rfl (fun _ => rfl) ?_
                      refine IN.seq ?_
                      refine EN.var (i := 9) (d := (lI PyData.int) ys159) C rfl (by walk_at "vis") rfl ?_
                      refine SeqD.l ?_
                      refine lcFK_in h PyData.int PyData.bool ?_ ?_ ?_
                      · intro x169 J174 h Y173 CY173
                        refine TN.ge ?_
                        refine EN.var (i := 13) (d := PyData.int x169) CY173 rfl (by walk_at "vis") rfl ?_
                        refine EN.int ?_
                        refine IbGe ?_
                        exact h
                      · intro x169 k170 h Y168 CY168
                        refine EN.call CY168 T_holds_Q_INII (by omega) rfl ?_ rfl rfl
                        refine AN.cons rfl ?_
                        refine EN.var (i := 3) (d := PyData.int x9) CY168 rfl (by walk_at "vis") rfl ?_
                        refine AN.cons rfl ?_
                        refine EN.var (i := 5) (d := uI ()) CY168 rfl (by walk_at "vis") rfl ?_
                        refine AN.cons rfl ?_
                        refine EN.var (i := 13) (d := PyData.int x169) CY168 rfl (by walk_at "vis") rfl ?_
                        refine AN.cons rfl ?_
                        refine EN.var (i := 6) (d := PyData.int x141) CY168 rfl (by walk_at "vis") rfl ?_
                        refine AN.nil ?_
                        obtain ⟨x172, ex172, h⟩ := callK_ok h
                        refine ⟨_, _, _, _, _, rfl, ex172, ?_⟩
                        exact ⟨_, rfl, h⟩
                      · intro ys171 h
                        refine InD.xx (inj := PyData.bool) (x := true) (xs := ys171) Ev.bool (by decide) ?_
                        exact h
                  · intro b175 h
                    refine ⟨fun hb => ?_, fun hb => ?_⟩
                    · have h := bK_t hb h
                      refine BN.cons ?_
                      refine SN.ret ?_
                      refine EN.bl ?_
                      exact (show False from h).elim
                    · have h := bK_f hb h
                      refine BN.nil ?_
                      show BN X _ [.no, .src, .dat (PyData.int x8), .dat (PyData.int x9), .dat ((pI PyData.int PyData.int) x138), .dat (uI ()), .dat (PyData.int x141), .dat ((lI PyData.int) x143), .dat (PyData.bool x144), .dat ((lI PyData.int) ys159), .no, .no, .no, .no, .no, .no, .no] _
                      refine BN.nil ?_
                      show BN X _ [.no, .src, .dat (PyData.int x8), .dat (PyData.int x9), .dat ((pI PyData.int PyData.int) x138), .dat (uI ()), .dat (PyData.int x141), .dat ((lI PyData.int) x143), .dat (PyData.bool x144), .dat ((lI PyData.int) ys159), .no, .no, .no, .no, .no, .no, .no] _
                      refine BN.wk (ρ' := [.no, .src, .no, .dat (PyData.int x9), .dat ((pI PyData.int PyData.int) x138), .no, .no, .no, .no, .no, .no, .no, .no, .no, .no, .no, .no]) (.eq (.eq (.no (.eq (.eq (.no (.no (.no (.no (.no (.eq (.eq (.eq (.eq (.eq (.eq (.eq .nil))))))))))))))))) ?_
                      refine BN.nil ?_
                      exact ⟨(Sum.inr (Sum.inl ((x9, x138)))), rfl, h⟩
              · have h := bK_f hb h
                exact dead h
        · have h := optK_s h
          show BN X _ [.no, .src, .dat (PyData.int x8), .dat (PyData.int x9), .dat ((pI PyData.int PyData.int) x138), .dat (PyData.int x140), .no, .no, .no, .no, .no, .no, .no, .no, .no, .no, .no] _
          refine BN.cons ?_
          refine SN.asg (i := 6) C Fx rfl (by walk_at "vis") rfl ?_
          refine EN.call C T_law_draw_far_Q_II (by omega) rfl ?_ rfl rfl
          refine AN.src (i := 1) C rfl (by walk_at "vis") rfl rfl ?_
          refine AN.cons rfl ?_
          refine EN.var (i := 3) (d := PyData.int x9) C rfl (by walk_at "vis") rfl ?_
          refine AN.cons rfl ?_
          refine EN.var (i := 5) (d := PyData.int x140) C rfl (by walk_at "vis") rfl ?_
          refine AN.nil ?_
          refine ⟨_, _, _, rfl, h, fun x202 h => ?_⟩
          replace h := toP h
          show BN X _ [.no, .src, .dat (PyData.int x8), .dat (PyData.int x9), .dat ((pI PyData.int PyData.int) x138), .dat (PyData.int x140), .dat (PyData.int x202), .no, .no, .no, .no, .no, .no, .no, .no, .no, .no] _
          refine BN.cons ?_
          refine SN.par2 (i := 7) (j := 8) C rfl rfl (by decide) rfl rfl (by rintro ⟨⟩ ⟨⟩; rfl) rfl ?_
          refine XA.dat rfl ?_
          refine EN.call C T_law_digits_Q_III (by omega) rfl ?_ rfl rfl
          refine AN.cons rfl ?_
          refine EN.var (i := 3) (d := PyData.int x9) C rfl (by walk_at "vis") rfl ?_
          refine AN.cons rfl ?_
          refine EN.var (i := 5) (d := PyData.int x140) C rfl (by walk_at "vis") rfl ?_
          refine AN.cons rfl ?_
          refine EN.add ?_
          refine EN.var (i := 6) (d := PyData.int x202) C rfl (by walk_at "vis") rfl ?_
          refine EN.int ?_
          obtain ⟨x203, ex203, h⟩ := letK_ok h
          refine AddD.xx ex203 ?_
          refine AN.nil ?_
          obtain ⟨x204, ex204, h⟩ := callK_ok h
          refine ⟨_, _, _, _, rfl, ex204, ?_⟩
          refine XA.dat rfl ?_
          refine EN.call C T_law_has_middle_Q_ITIIeI (by omega) rfl ?_ rfl rfl
          refine AN.cons rfl ?_
          refine EN.var (i := 3) (d := PyData.int x9) C rfl (by walk_at "vis") rfl ?_
          refine AN.cons rfl ?_
          refine EN.var (i := 4) (d := (pI PyData.int PyData.int) x138) C rfl (by walk_at "vis") rfl ?_
          refine AN.cons rfl ?_
          refine EN.var (i := 6) (d := PyData.int x202) C rfl (by walk_at "vis") rfl ?_
          refine AN.nil ?_
          obtain ⟨x205, ex205, h⟩ := callK_ok h
          refine ⟨_, _, _, _, rfl, ex205, ?_⟩
          refine XA.nil ?_
          refine ⟨rfl, ?_⟩
          show BN X _ [.no, .src, .dat (PyData.int x8), .dat (PyData.int x9), .dat ((pI PyData.int PyData.int) x138), .dat (PyData.int x140), .dat (PyData.int x202), .dat ((lI PyData.int) x204), .dat (PyData.bool x205), .no, .no, .no, .no, .no, .no, .no, .no] _
          refine BN.cons ?_
          refine SN.ife ?_
          refine TN.join h ?_ ?_
          · intro J206 h
            refine WN.tn ?_
            refine WN.or ?_
            refine TN.ne C ?_
            refine EN.call C T_length_Q_ITIIe (by omega) rfl ?_ rfl rfl
            refine AN.cons rfl ?_
            refine EN.var (i := 3) (d := PyData.int x9) C rfl (by walk_at "vis") rfl ?_
            refine AN.cons rfl ?_
            refine EN.var (i := 4) (d := (pI PyData.int PyData.int) x138) C rfl (by walk_at "vis") rfl ?_
            refine AN.nil ?_
            obtain ⟨x207, ex207, h⟩ := callK_ok h
            refine ⟨_, _, _, rfl, ex207, ?_⟩
            rcases x207 with _ | x208
            · have h := optK_n h
              refine EN.var (i := 5) (d := PyData.int x140) C rfl (by walk_at "vis") rfl ?_
              refine NeT.u (by rfl) (by rfl) rfl ?_
              refine Kt.yes ?_
              exact h
            · have h := optK_s h
              refine EN.var (i := 5) (d := PyData.int x140) C rfl (by walk_at "vis") rfl ?_
              refine NeT.xx (inj := PyData.int) (x := x208) (y := x140) Ev.int (by decide) ?_
              refine ⟨fun hb => ?_, fun hb => ?_⟩
              · exact bK_t hb h
              · have h := bK_f hb h
                refine WN.or ?_
                refine TN.ne C ?_
                refine EN.listc C rfl B.list ?_ rfl rfl
                refine EN.call C T_digits_Q_III (by omega) rfl ?_ rfl rfl
                refine AN.cons rfl ?_
                refine EN.var (i := 3) (d := PyData.int x9) C rfl (by walk_at "vis") rfl ?_
                refine AN.cons rfl ?_
                refine EN.var (i := 5) (d := PyData.int x140) C rfl (by walk_at "vis") rfl ?_
                refine AN.cons rfl ?_
                refine EN.add ?_
                refine EN.var (i := 6) (d := PyData.int x202) C rfl (by walk_at "vis") rfl ?_
                refine EN.int ?_
                obtain ⟨x209, ex209, h⟩ := letK_ok h
                refine AddD.xx ex209 ?_
                refine AN.nil ?_
                obtain ⟨x210, ex210, h⟩ := callK_ok h
                refine ⟨_, _, _, _, rfl, ex210, ?_⟩
                refine SeqD.t ?_
                refine EN.var (i := 7) (d := (lI PyData.int) x204) C rfl (by walk_at "vis") rfl ?_
                refine NeT.xx (inj := (lI PyData.int)) (x := x210) (y := x204) (Ev.list Ev.int) (by decide) ?_
                refine ⟨fun hb => ?_, fun hb => ?_⟩
                · exact bK_t hb h
                · have h := bK_f hb h
                  refine WN.or1 ?_
                  refine TN.ne C ?_
                  refine EN.call C T_of_digits_Q_IIvI (by omega) rfl ?_ rfl rfl
                  refine AN.cons rfl ?_
                  refine EN.var (i := 3) (d := PyData.int x9) C rfl (by walk_at "vis") rfl ?_
                  refine AN.cons rfl ?_
                  refine EN.var (i := 5) (d := PyData.int x140) C rfl (by walk_at "vis") rfl ?_
                  refine AN.cons rfl ?_
                  refine EN.tuplec C rfl B.tuple ?_ rfl rfl
                  refine EN.var (i := 7) (d := (lI PyData.int) x204) C rfl (by walk_at "vis") rfl ?_
                  refine SeqD.l ?_
                  refine AN.nil ?_
                  obtain ⟨x211, ex211, h⟩ := callK_ok h
                  refine ⟨_, _, _, _, rfl, ex211, ?_⟩
                  refine EN.add ?_
                  refine EN.var (i := 6) (d := PyData.int x202) C rfl (by walk_at "vis") rfl ?_
                  refine EN.int ?_
                  obtain ⟨x212, ex212, h⟩ := letK_ok h
                  refine AddD.xx ex212 ?_
                  refine NeT.xx (inj := PyData.int) (x := x211) (y := x212) Ev.int (by decide) ?_
                  exact h
          · intro b213 h
            refine ⟨fun hb => ?_, fun hb => ?_⟩
            · have h := bK_t hb h
              refine BN.cons ?_
              refine SN.ret ?_
              refine EN.bl ?_
              exact (show False from h).elim
            · have h := bK_f hb h
              refine BN.nil ?_
              show BN X _ [.no, .src, .dat (PyData.int x8), .dat (PyData.int x9), .dat ((pI PyData.int PyData.int) x138), .dat (PyData.int x140), .dat (PyData.int x202), .dat ((lI PyData.int) x204), .dat (PyData.bool x205), .no, .no, .no, .no, .no, .no, .no, .no] _
              refine BN.cons ?_
              refine SN.ife ?_
              refine TN.neS ?_
              refine EN.repr C rfl B.repr ?_ rfl rfl
              refine EN.call C T_has_middle_Q_ITIIeI (by omega) rfl ?_ rfl rfl
              refine AN.cons rfl ?_
              refine EN.var (i := 3) (d := PyData.int x9) C rfl (by walk_at "vis") rfl ?_
              refine AN.cons rfl ?_
              refine EN.var (i := 4) (d := (pI PyData.int PyData.int) x138) C rfl (by walk_at "vis") rfl ?_
              refine AN.cons rfl ?_
              refine EN.var (i := 6) (d := PyData.int x202) C rfl (by walk_at "vis") rfl ?_
              refine AN.nil ?_
              obtain ⟨x214, ex214, h⟩ := callK_ok h
              refine ⟨_, _, _, _, rfl, ex214, ?_⟩
              refine ⟨rp_bool _, ?_⟩
              refine EN.repr C rfl B.repr ?_ rfl rfl
              refine EN.var (i := 8) (d := PyData.bool x205) C rfl (by walk_at "vis") rfl ?_
              refine ⟨rp_bool _, ?_⟩
              obtain ⟨c215, h⟩ := chkK_ok h
              refine reprSame (congrArg PyData.bool (eqB_to c215)) ?_
              refine Kt.noo ?_
              refine BN.nil ?_
              show BN X _ [.no, .src, .dat (PyData.int x8), .dat (PyData.int x9), .dat ((pI PyData.int PyData.int) x138), .dat (PyData.int x140), .dat (PyData.int x202), .dat ((lI PyData.int) x204), .dat (PyData.bool x205), .no, .no, .no, .no, .no, .no, .no, .no] _
              refine BN.cons ?_
              refine SN.ife ?_
              refine TN.val (fun _ => rfl) ?_
              refine EN.var (i := 8) (d := PyData.bool x205) C rfl (by walk_at "vis") rfl ?_
              refine ⟨_, rfl, ?_⟩
              refine tb_b ?_
              refine ⟨fun hb => ?_, fun hb => ?_⟩
              · have h := bK_t hb h
                refine BN.cons ?_
                refine SN.asgLc (i := 15) (j := 9) C rfl rfl rfl rfl rfl (by rintro ⟨⟩ ⟨⟩; rfl) (fun _ => rfl) ?_
                refine IN.r1 C rfl B.range rfl rfl ?_
                refine EN.int ?_
                obtain ⟨cx216, x216, ex216, h⟩ := rng1K_ok h
                refine ⟨_, rfl, cx216.1, cx216.2, ?_⟩
                rw [rng1_r ex216]
                refine lcK_in h PyData.int PyData.int ?_ ?_
                · intro x218 k219 h Y217 CY217
                  refine EN.sub ?_
                  refine EN.var (i := 6) (d := PyData.int x202) CY217 rfl (by walk_at "vis") rfl ?_
                  refine EN.mul ?_
                  refine EN.int ?_
                  refine EN.add ?_
                  refine EN.int ?_
                  refine EN.call CY217 T_law_pick (by omega) rfl ?_ rfl rfl
                  refine AN.src (i := 1) CY217 rfl (by walk_at "vis") rfl rfl ?_
                  refine AN.cons rfl ?_
                  refine EN.int ?_
                  refine AN.nil ?_
                  refine ⟨_, rfl, h.1, fun x221 r0 r1 => ?_⟩
                  replace h := h.2 x221 r0 r1
                  replace h := toP h
                  obtain ⟨x222, ex222, h⟩ := letK_ok h
                  refine AddD.xx ex222 ?_
                  obtain ⟨cx223, x223, ex223, h⟩ := mulK_ok h
                  refine MulD.xx cx223 ex223 ?_
                  obtain ⟨x224, ex224, h⟩ := letK_ok h
                  refine SubI.xx ex224 ?_
                  exact ⟨_, rfl, h⟩
                · intro ys220 h
                  show BN X _ [.no, .src, .dat (PyData.int x8), .dat (PyData.int x9), .dat ((pI PyData.int PyData.int) x138), .dat (PyData.int x140), .dat (PyData.int x202), .dat ((lI PyData.int) x204), .dat (PyData.bool x205), .dat ((lI PyData.int) ys220), .no, .no, .no, .no, .no, .no, .no] _
                  refine BN.cons ?_
                  refine SN.ife ?_
                  refine TN.join h ?_ ?_
                  · intro J225 h
                    refine WN.tn ?_
                    refine WN.or ?_
                    refine TN.ne C ?_
                    refine EN.call C T_support_Q_III (by omega) rfl ?_ rfl rfl
                    refine AN.cons rfl ?_
                    refine EN.var (i := 3) (d := PyData.int x9) C rfl (by walk_at "vis") rfl ?_
                    refine AN.cons rfl ?_
                    refine EN.var (i := 5) (d := PyData.int x140) C rfl (by walk_at "vis") rfl ?_
                    refine AN.cons rfl ?_
                    refine EN.add ?_
                    refine EN.var (i := 6) (d := PyData.int x202) C rfl (by walk_at "vis") rfl ?_
                    refine EN.int ?_
                    obtain ⟨x226, ex226, h⟩ := letK_ok h
                    refine AddD.xx ex226 ?_
                    refine AN.nil ?_
                    obtain ⟨x227, ex227, h⟩ := callK_ok h
                    refine ⟨_, _, _, _, rfl, ex227, ?_⟩
                    refine EN.tup ?_
                    refine LN.cons rfl ?_
                    refine EN.add ?_
                    refine EN.var (i := 6) (d := PyData.int x202) C rfl (by walk_at "vis") rfl ?_
                    refine EN.int ?_
                    obtain ⟨x228, ex228, h⟩ := letK_ok h
                    refine AddD.xx ex228 ?_
                    refine LN.nil ?_
                    refine ⟨Nat.le_of_ble_eq_true rfl, ?_⟩
                    refine NeT.xx (inj := (vI PyData.int)) (x := x227) (y := ([x228] : List Int)) (Ev.tup Ev.int) (by decide) ?_
                    refine ⟨fun hb => ?_, fun hb => ?_⟩
                    · exact bK_t hb h
                    · have h := bK_f hb h
                      refine WN.or1 ?_
                      refine TN.inL C rfl ?_
                      refine EN.bl ?_
                      refine EN.lc (i := 13) C rfl rfl rfl (fun _ => rfl) ?_
                      refine IN.seq ?_
                      refine EN.var (i := 9) (d := (lI PyData.int) ys220) C rfl (by walk_at "vis") rfl ?_
                      refine SeqD.l ?_
                      refine lcFK_in h PyData.int PyData.bool ?_ ?_ ?_
                      · intro x230 J235 h Y234 CY234
                        refine TN.ge ?_
                        refine EN.var (i := 13) (d := PyData.int x230) CY234 rfl (by walk_at "vis") rfl ?_
                        refine EN.int ?_
                        refine IbGe ?_
                        exact h
                      · intro x230 k231 h Y229 CY229
                        refine EN.call CY229 T_holds_Q_IIII (by omega) rfl ?_ rfl rfl
                        refine AN.cons rfl ?_
                        refine EN.var (i := 3) (d := PyData.int x9) CY229 rfl (by walk_at "vis") rfl ?_
                        refine AN.cons rfl ?_
                        refine EN.var (i := 5) (d := PyData.int x140) CY229 rfl (by walk_at "vis") rfl ?_
                        refine AN.cons rfl ?_
                        refine EN.var (i := 13) (d := PyData.int x230) CY229 rfl (by walk_at "vis") rfl ?_
                        refine AN.cons rfl ?_
                        refine EN.var (i := 6) (d := PyData.int x202) CY229 rfl (by walk_at "vis") rfl ?_
                        refine AN.nil ?_
                        obtain ⟨x233, ex233, h⟩ := callK_ok h
                        refine ⟨_, _, _, _, _, rfl, ex233, ?_⟩
                        exact ⟨_, rfl, h⟩
                      · intro ys232 h
                        refine InD.xx (inj := PyData.bool) (x := true) (xs := ys232) Ev.bool (by decide) ?_
                        exact h
                  · intro b236 h
                    refine ⟨fun hb => ?_, fun hb => ?_⟩
                    · have h := bK_t hb h
                      refine BN.cons ?_
                      refine SN.ret ?_
                      refine EN.bl ?_
                      exact (show False from h).elim
                    · have h := bK_f hb h
                      refine BN.nil ?_
                      show BN X _ [.no, .src, .dat (PyData.int x8), .dat (PyData.int x9), .dat ((pI PyData.int PyData.int) x138), .dat (PyData.int x140), .dat (PyData.int x202), .dat ((lI PyData.int) x204), .dat (PyData.bool x205), .dat ((lI PyData.int) ys220), .no, .no, .no, .no, .no, .no, .no] _
                      refine BN.nil ?_
                      show BN X _ [.no, .src, .dat (PyData.int x8), .dat (PyData.int x9), .dat ((pI PyData.int PyData.int) x138), .dat (PyData.int x140), .dat (PyData.int x202), .dat ((lI PyData.int) x204), .dat (PyData.bool x205), .dat ((lI PyData.int) ys220), .no, .no, .no, .no, .no, .no, .no] _
                      refine BN.wk (ρ' := [.no, .src, .no, .dat (PyData.int x9), .dat ((pI PyData.int PyData.int) x138), .no, .no, .no, .no, .no, .no, .no, .no, .no, .no, .no, .no]) (.eq (.eq (.no (.eq (.eq (.no (.no (.no (.no (.no (.eq (.eq (.eq (.eq (.eq (.eq (.eq .nil))))))))))))))))) ?_
                      refine BN.nil ?_
                      exact ⟨(Sum.inr (Sum.inl ((x9, x138)))), rfl, h⟩
              · have h := bK_f hb h
                refine BN.cons ?_
                refine SN.par2 (i := 10) (j := 11) C rfl rfl (by decide) rfl rfl (by rintro ⟨⟩ ⟨⟩; rfl) rfl ?_
                refine XA.dat rfl ?_
                refine EN.ix (fun _ _ => rfl) ?_
                refine EN.lcP (i := 12) (i2 := 16) C rfl rfl rfl rfl rfl (by decide) (fun _ => rfl) (fun _ => rfl) (fun _ => rfl) (fun _ => rfl) (fun _ => rfl) ?_
                refine IN.enum C rfl B.enumerate rfl rfl ?_
                refine EN.var (i := 7) (d := (lI PyData.int) x204) C rfl (by walk_at "vis") rfl ?_
                obtain ⟨x237, ex237, h⟩ := letK_ok h
                refine ⟨_, rfl, ?_⟩
                rw [enum_r (inj := PyData.int) ex237]
                refine lcFP_in h PyData.int PyData.int PyData.int ?_ ?_ ?_
                · intro x239 J265 h Y264 CY264
                  refine TN.ne CY264 ?_
                  refine EN.var (i := 16) (d := PyData.int (x239).2) CY264 rfl (by walk_at "vis") rfl ?_
                  refine EN.int ?_
                  refine NeT.xx (inj := PyData.int) (x := (x239).2) (y := 0) Ev.int (by decide) ?_
                  exact h
                · intro x239 k240 h Y238 CY238
                  refine EN.var (i := 12) (d := PyData.int (x239).1) CY238 rfl (by walk_at "vis") rfl ?_
                  exact ⟨_, rfl, h⟩
                · intro ys241 h
                  refine EN.int ?_
                  obtain ⟨x242, ex242, h⟩ := callK_ok h
                  refine IxD.lx (inj := PyData.int) (xs := ys241) ex242 ?_
                  refine XA.dat rfl ?_
                  refine EN.int ?_
                  refine XA.nil ?_
                  refine ⟨rfl, ?_⟩
                  show BN X _ [.no, .src, .dat (PyData.int x8), .dat (PyData.int x9), .dat ((pI PyData.int PyData.int) x138), .dat (PyData.int x140), .dat (PyData.int x202), .dat ((lI PyData.int) x204), .dat (PyData.bool x205), .no, .dat (PyData.int x242), .dat (PyData.int 1), .no, .no, .no, .no, .no] _
                  refine BN.cons ?_
                  refine SN.for C (fun _ => rfl) ?_
                  refine IN.r1 C rfl B.range rfl rfl ?_
                  refine EN.var (i := 10) (d := PyData.int x242) C rfl (by walk_at "vis") rfl ?_
                  obtain ⟨cx246, x246, ex246, h⟩ := rng1K_ok h
                  refine ⟨_, rfl, cx246.1, cx246.2, ?_⟩
                  rw [rng1_r ex246]
                  refine forK_in h PyData.int (fun (s243 : (Int)) => [.no, .src, .dat (PyData.int x8), .dat (PyData.int x9), .dat ((pI PyData.int PyData.int) x138), .dat (PyData.int x140), .dat (PyData.int x202), .dat ((lI PyData.int) x204), .dat (PyData.bool x205), .no, .dat (PyData.int x242), .dat (PyData.int s243), .no, .no, .no, .no, .no]) rfl ?_ ?_
                  · intro s253 h
                    show BN X _ [.no, .src, .dat (PyData.int x8), .dat (PyData.int x9), .dat ((pI PyData.int PyData.int) x138), .dat (PyData.int x140), .dat (PyData.int x202), .dat ((lI PyData.int) x204), .dat (PyData.bool x205), .no, .dat (PyData.int x242), .dat (PyData.int s253), .no, .no, .no, .no, .no] _
                    refine BN.cons ?_
                    refine SN.asg (i := 13) C Fx rfl (by walk_at "vis") rfl ?_
                    refine EN.sub ?_
                    refine EN.var (i := 6) (d := PyData.int x202) C rfl (by walk_at "vis") rfl ?_
                    refine EN.mul ?_
                    refine EN.mul ?_
                    refine EN.int ?_
                    refine EN.ix (fun _ _ => rfl) ?_
                    refine EN.var (i := 7) (d := (lI PyData.int) x204) C rfl (by walk_at "vis") rfl ?_
                    refine EN.var (i := 10) (d := PyData.int x242) C rfl (by walk_at "vis") rfl ?_
                    obtain ⟨x254, ex254, h⟩ := callK_ok h
                    refine IxD.lx (inj := PyData.int) (xs := x204) ex254 ?_
                    obtain ⟨cx255, x255, ex255, h⟩ := mulK_ok h
                    refine MulD.xx cx255 ex255 ?_
                    refine EN.var (i := 11) (d := PyData.int s253) C rfl (by walk_at "vis") rfl ?_
                    obtain ⟨cx256, x256, ex256, h⟩ := mulK_ok h
                    refine MulD.xx cx256 ex256 ?_
                    obtain ⟨x257, ex257, h⟩ := letK_ok h
                    refine SubI.xx ex257 ?_
                    show BN X _ [.no, .src, .dat (PyData.int x8), .dat (PyData.int x9), .dat ((pI PyData.int PyData.int) x138), .dat (PyData.int x140), .dat (PyData.int x202), .dat ((lI PyData.int) x204), .dat (PyData.bool x205), .no, .dat (PyData.int x242), .dat (PyData.int s253), .no, .dat (PyData.int x257), .no, .no, .no] _
                    refine BN.cons ?_
                    refine SN.ife ?_
                    refine TN.join h ?_ ?_
                    · intro J258 h
                      refine WN.tn ?_
                      refine WN.or ?_
                      refine TN.isnotB ?_
                      refine EN.call C T_holds_Q_IIII (by omega) rfl ?_ rfl rfl
                      refine AN.cons rfl ?_
                      refine EN.var (i := 3) (d := PyData.int x9) C rfl (by walk_at "vis") rfl ?_
                      refine AN.cons rfl ?_
                      refine EN.var (i := 5) (d := PyData.int x140) C rfl (by walk_at "vis") rfl ?_
                      refine AN.cons rfl ?_
                      refine EN.var (i := 13) (d := PyData.int x257) C rfl (by walk_at "vis") rfl ?_
                      refine AN.cons rfl ?_
                      refine EN.var (i := 6) (d := PyData.int x202) C rfl (by walk_at "vis") rfl ?_
                      refine AN.nil ?_
                      obtain ⟨x259, ex259, h⟩ := callK_ok h
                      refine ⟨_, _, _, _, _, rfl, ex259, ?_⟩
                      refine ⟨_, rfl, ?_⟩
                      refine ⟨fun hb => ?_, fun hb => ?_⟩
                      · exact bK_t hb h
                      · have h := bK_f hb h
                        refine WN.or ?_
                        refine TN.isnotB ?_
                        refine EN.call C T_keeps_all_Q_ITIIeII (by omega) rfl ?_ rfl rfl
                        refine AN.cons rfl ?_
                        refine EN.var (i := 3) (d := PyData.int x9) C rfl (by walk_at "vis") rfl ?_
                        refine AN.cons rfl ?_
                        refine EN.var (i := 4) (d := (pI PyData.int PyData.int) x138) C rfl (by walk_at "vis") rfl ?_
                        refine AN.cons rfl ?_
                        refine EN.var (i := 6) (d := PyData.int x202) C rfl (by walk_at "vis") rfl ?_
                        refine AN.cons rfl ?_
                        refine EN.var (i := 13) (d := PyData.int x257) C rfl (by walk_at "vis") rfl ?_
                        refine AN.nil ?_
                        obtain ⟨x260, ex260, h⟩ := callK_ok h
                        refine ⟨_, _, _, _, _, rfl, ex260, ?_⟩
                        refine ⟨_, rfl, ?_⟩
                        refine ⟨fun hb => ?_, fun hb => ?_⟩
                        · exact bK_t hb h
                        · have h := bK_f hb h
                          refine WN.or1 ?_
                          refine TN.gt ?_
                          refine EN.call C T_next_over_Q_III (by omega) rfl ?_ rfl rfl
                          refine AN.cons rfl ?_
                          refine EN.var (i := 3) (d := PyData.int x9) C rfl (by walk_at "vis") rfl ?_
                          refine AN.cons rfl ?_
                          refine EN.var (i := 5) (d := PyData.int x140) C rfl (by walk_at "vis") rfl ?_
                          refine AN.cons rfl ?_
                          refine EN.var (i := 13) (d := PyData.int x257) C rfl (by walk_at "vis") rfl ?_
                          refine AN.nil ?_
                          obtain ⟨x261, ex261, h⟩ := callK_ok h
                          refine ⟨_, _, _, _, rfl, ex261, ?_⟩
                          rcases x261 with _ | x262
                          · have h := optK_n h
                            exact dead h
                          · have h := optK_s h
                            refine EN.var (i := 6) (d := PyData.int x202) C rfl (by walk_at "vis") rfl ?_
                            refine IbGt ?_
                            exact h
                    · intro b263 h
                      refine ⟨fun hb => ?_, fun hb => ?_⟩
                      · have h := bK_t hb h
                        refine BN.cons ?_
                        refine SN.ret ?_
                        refine EN.bl ?_
                        exact (show False from h).elim
                      · have h := bK_f hb h
                        refine BN.nil ?_
                        show BN X _ [.no, .src, .dat (PyData.int x8), .dat (PyData.int x9), .dat ((pI PyData.int PyData.int) x138), .dat (PyData.int x140), .dat (PyData.int x202), .dat ((lI PyData.int) x204), .dat (PyData.bool x205), .no, .dat (PyData.int x242), .dat (PyData.int s253), .no, .dat (PyData.int x257), .no, .no, .no] _
                        refine BN.nil ?_
                        show BN X _ [.no, .src, .dat (PyData.int x8), .dat (PyData.int x9), .dat ((pI PyData.int PyData.int) x138), .dat (PyData.int x140), .dat (PyData.int x202), .dat ((lI PyData.int) x204), .dat (PyData.bool x205), .no, .dat (PyData.int x242), .dat (PyData.int s253), .no, .dat (PyData.int x257), .no, .no, .no] _
                        refine BN.wk (ρ' := [.no, .src, .no, .dat (PyData.int x9), .dat ((pI PyData.int PyData.int) x138), .no, .no, .no, .no, .no, .no, .no, .no, .no, .no, .no, .no]) (.eq (.eq (.no (.eq (.eq (.no (.no (.no (.no (.eq (.no (.no (.eq (.no (.eq (.eq (.eq .nil))))))))))))))))) ?_
                        refine BN.nil ?_
                        exact ⟨(Sum.inr (Sum.inl ((x9, x138)))), rfl, h⟩
                  · intro x247 s243 fin244 nx245 h
                    refine GN.name (i := 12) C rfl (by walk_at "vis") (Or.inl (Fx _)) ?_
                    show BN X _ [.no, .src, .dat (PyData.int x8), .dat (PyData.int x9), .dat ((pI PyData.int PyData.int) x138), .dat (PyData.int x140), .dat (PyData.int x202), .dat ((lI PyData.int) x204), .dat (PyData.bool x205), .no, .dat (PyData.int x242), .dat (PyData.int s243), .dat (PyData.int x247), .no, .no, .no, .no] _
                    show BN X _ [.no, .src, .dat (PyData.int x8), .dat (PyData.int x9), .dat ((pI PyData.int PyData.int) x138), .dat (PyData.int x140), .dat (PyData.int x202), .dat ((lI PyData.int) x204), .dat (PyData.bool x205), .no, .dat (PyData.int x242), .dat (PyData.int s243), .dat (PyData.int x247), .no, .no, .no, .no] _
                    refine BN.cons ?_
                    refine SN.asg (i := 11) C Fx rfl (by walk_at "vis") rfl ?_
                    refine EN.mul ?_
                    refine EN.var (i := 11) (d := PyData.int s243) C rfl (by walk_at "vis") rfl ?_
                    refine EN.join h PyData.int ?_ ?_
                    · intro J248 h
                      refine EN.ife ?_
                      refine TN.eq C ?_
                      refine EN.var (i := 12) (d := PyData.int x247) C rfl (by walk_at "vis") rfl ?_
                      refine EN.int ?_
                      refine EqT.xx (inj := PyData.int) (x := x247) (y := 0) Ev.int (by decide) ?_
                      refine ⟨fun hb => ?_, fun hb => ?_⟩
                      · have h := bK_t hb h
                        refine EN.var (i := 5) (d := PyData.int x140) C rfl (by walk_at "vis") rfl ?_
                        exact ⟨x140, rfl, h⟩
                      · have h := bK_f hb h
                        refine EN.max2 C rfl B.max ?_ rfl rfl rfl
                        refine EN.var (i := 3) (d := PyData.int x9) C rfl (by walk_at "vis") rfl ?_
                        refine EN.int ?_
                        obtain ⟨x250, ex250, h⟩ := letK_ok h
                        refine ⟨_, _, rfl, rfl, ?_⟩
                        rw [max_r ex250]
                        exact ⟨x250, rfl, h⟩
                    · intro x251 h
                      obtain ⟨cx252, x252, ex252, h⟩ := mulK_ok h
                      refine MulD.xx cx252 ex252 ?_
                      show BN X _ [.no, .src, .dat (PyData.int x8), .dat (PyData.int x9), .dat ((pI PyData.int PyData.int) x138), .dat (PyData.int x140), .dat (PyData.int x202), .dat ((lI PyData.int) x204), .dat (PyData.bool x205), .no, .dat (PyData.int x242), .dat (PyData.int x252), .dat (PyData.int x247), .no, .no, .no, .no] _
                      refine BN.wk (ρ' := [.no, .src, .dat (PyData.int x8), .dat (PyData.int x9), .dat ((pI PyData.int PyData.int) x138), .dat (PyData.int x140), .dat (PyData.int x202), .dat ((lI PyData.int) x204), .dat (PyData.bool x205), .no, .dat (PyData.int x242), .dat (PyData.int x252), .no, .no, .no, .no, .no]) (.eq (.eq (.eq (.eq (.eq (.eq (.eq (.eq (.eq (.eq (.eq (.eq (.no (.eq (.eq (.eq (.eq .nil))))))))))))))))) ?_
                      refine BN.nil ?_
                      exact ⟨(x252), rfl, h⟩
theorem ok_law {f : Addr} {fd : FuncData} (F : Fun K "law" "law" s_law f fd) (B : Blt mg) (FO : Fo Pg w K mg base k) (T_law_draw_field : Fd Pg w K mg base k "_law_draw_field" W_law_draw_field) (T_law_draw_worth_P_I : Fd Pg w K mg base k "_law_draw_worth" W_law_draw_worth_P_I) (T_law_length_P_II : Fd Pg w K mg base k "_law_length" W_law_length_P_II) (T_law_draw_far_P_IN : Fd Pg w K mg base k "_law_draw_far" W_law_draw_far_P_IN) (T_law_digits_P_INI : Fd Pg w K mg base k "_law_digits" W_law_digits_P_INI) (T_law_has_middle_P_III : Fd Pg w K mg base k "_law_has_middle" W_law_has_middle_P_III) (T_length_P_II : Fd Pg w K mg base k "length" W_length_P_II) (T_digits_P_INI : Fd Pg w K mg base k "digits" W_digits_P_INI) (T_of_digits_P_INvI : Fd Pg w K mg base k "of_digits" W_of_digits_P_INvI) (T_has_middle_P_III : Fd Pg w K mg base k "has_middle" W_has_middle_P_III) (T_law_pick : Fd Pg w K mg base k "_law_pick" W_law_pick) (T_support_P_INI : Fd Pg w K mg base k "support" W_support_P_INI) (T_holds_P_INII : Fd Pg w K mg base k "holds" W_holds_P_INII) (T_keeps_all_P_IIII : Fd Pg w K mg base k "keeps_all" W_keeps_all_P_IIII) (T_next_over_P_INI : Fd Pg w K mg base k "next_over" W_next_over_P_INI) (T_law_draw_far_P_II : Fd Pg w K mg base k "_law_draw_far" W_law_draw_far_P_II) (T_law_digits_P_III : Fd Pg w K mg base k "_law_digits" W_law_digits_P_III) (T_digits_P_III : Fd Pg w K mg base k "digits" W_digits_P_III) (T_of_digits_P_IIvI : Fd Pg w K mg base k "of_digits" W_of_digits_P_IIvI) (T_support_P_III : Fd Pg w K mg base k "support" W_support_P_III) (T_holds_P_IIII : Fd Pg w K mg base k "holds" W_holds_P_IIII) (T_next_over_P_III : Fd Pg w K mg base k "next_over" W_next_over_P_III) (T_law_draw_worth_Q_I : Fd Pg w K mg base k "_law_draw_worth" W_law_draw_worth_Q_I) (T_law_length_Q_ITIIe : Fd Pg w K mg base k "_law_length" W_law_length_Q_ITIIe) (T_law_draw_far_Q_IN : Fd Pg w K mg base k "_law_draw_far" W_law_draw_far_Q_IN) (T_law_digits_Q_INI : Fd Pg w K mg base k "_law_digits" W_law_digits_Q_INI) (T_law_has_middle_Q_ITIIeI : Fd Pg w K mg base k "_law_has_middle" W_law_has_middle_Q_ITIIeI) (T_length_Q_ITIIe : Fd Pg w K mg base k "length" W_length_Q_ITIIe) (T_digits_Q_INI : Fd Pg w K mg base k "digits" W_digits_Q_INI) (T_of_digits_Q_INvI : Fd Pg w K mg base k "of_digits" W_of_digits_Q_INvI) (T_has_middle_Q_ITIIeI : Fd Pg w K mg base k "has_middle" W_has_middle_Q_ITIIeI) (T_support_Q_INI : Fd Pg w K mg base k "support" W_support_Q_INI) (T_holds_Q_INII : Fd Pg w K mg base k "holds" W_holds_Q_INII) (T_keeps_all_Q_ITIIeII : Fd Pg w K mg base k "keeps_all" W_keeps_all_Q_ITIIeII) (T_next_over_Q_INI : Fd Pg w K mg base k "next_over" W_next_over_Q_INI) (T_law_draw_far_Q_II : Fd Pg w K mg base k "_law_draw_far" W_law_draw_far_Q_II) (T_law_digits_Q_III : Fd Pg w K mg base k "_law_digits" W_law_digits_Q_III) (T_digits_Q_III : Fd Pg w K mg base k "digits" W_digits_Q_III) (T_of_digits_Q_IIvI : Fd Pg w K mg base k "of_digits" W_of_digits_Q_IIvI) (T_support_Q_III : Fd Pg w K mg base k "support" W_support_Q_III) (T_holds_Q_IIII : Fd Pg w K mg base k "holds" W_holds_Q_IIII) (T_next_over_Q_III : Fd Pg w K mg base k "next_over" W_next_over_Q_III) : FnG Pg w K mg base (k + 1) f fd ["script"] (sp_law K) := by
  refine Fun.okG F sc_law ?_ ?_
  · rintro vs H Q E ⟨a, ns, rfl, _⟩
    rfl
  · rintro cdv A ol s H vs Q E hgd hr ⟨a, ns, rfl, hS, hlen, q⟩
    have C : Ctx Pg w K mg base ["script", "source", "turn", "p", "d", "l", "n", "told", "is_due", "some", "spot", "place", "j", "k", "few", "lap", "digit"] (defScope s_law) k (cxOf CX0 Pg w K mg base ["script", "source", "turn", "p", "d", "l", "n", "told", "is_due", "some", "spot", "place", "j", "k", "few", "lap", "digit"] "law" (defScope s_law) f cdv A ol s H E).nox := ⟨rfl, rfl, rfl, rfl, rfl, rfl, rfl, hr, rfl, rfl, sc_law.nd, hgd⟩
    exact lawStart C (fun _ => rfl) FO rfl rfl rfl (by first | exact Or.inl rfl | exact Or.inr rfl) (by first | exact Or.inl rfl | exact Or.inr (Or.inl rfl) | exact Or.inr (Or.inr rfl)) rfl hS hlen q (law_rest C (fun _ => rfl) B law_true T_law_draw_field T_law_draw_worth_P_I T_law_length_P_II T_law_draw_far_P_IN T_law_digits_P_INI T_law_has_middle_P_III T_length_P_II T_digits_P_INI T_of_digits_P_INvI T_has_middle_P_III T_law_pick T_support_P_INI T_holds_P_INII T_keeps_all_P_IIII T_next_over_P_INI T_law_draw_far_P_II T_law_digits_P_III T_digits_P_III T_of_digits_P_IIvI T_support_P_III T_holds_P_IIII T_next_over_P_III T_law_draw_worth_Q_I T_law_length_Q_ITIIe T_law_draw_far_Q_IN T_law_digits_Q_INI T_law_has_middle_Q_ITIIeI T_length_Q_ITIIe T_digits_Q_INI T_of_digits_Q_INvI T_has_middle_Q_ITIIeI T_support_Q_INI T_holds_Q_INII T_keeps_all_Q_ITIIeII T_next_over_Q_INI T_law_draw_far_Q_II T_law_digits_Q_III T_digits_Q_III T_of_digits_Q_IIvI T_support_Q_III T_holds_Q_IIII T_next_over_Q_III) rfl rfl rfl
end
theorem all_mk {P : Program} {w : World} {K : PySem.W.Frag} {h : Heap} {mg : Str → Option Value} {fa : Addr} (X : K.In h) (G : h.Ns mainGlobals mg) (hfa : mg "law" = some (.ref fa))
    (D_law_pick : Df K "_law_pick" s_law_pick) (D_law_draw_field : Df K "_law_draw_field" s_law_draw_field) (D_law_draw_worth : Df K "_law_draw_worth" s_law_draw_worth) (D_law_number : Df K "_law_number" s_law_number) (D_law_times : Df K "_law_times" s_law_times) (D_law_plus : Df K "_law_plus" s_law_plus) (D_law_minus : Df K "_law_minus" s_law_minus) (D_law_worth_row : Df K "_law_worth_row" s_law_worth_row) (D_law_length : Df K "_law_length" s_law_length) (D_law_draw_far : Df K "_law_draw_far" s_law_draw_far) (D_law_digits : Df K "_law_digits" s_law_digits) (D_law_has_middle : Df K "_law_has_middle" s_law_has_middle) (D_number : Df K "number" s_number) (D_times : Df K "times" s_times) (D_minus : Df K "minus" s_minus) (D_worth_row : Df K "worth_row" s_worth_row) (D_length : Df K "length" s_length) (D_digits : Df K "digits" s_digits) (D_parts : Df K "_parts" s_parts) (D_of_digits : Df K "of_digits" s_of_digits) (D_has_middle : Df K "has_middle" s_has_middle) (D_support : Df K "support" s_support) (D_holds : Df K "holds" s_holds) (D_first_not_dividing : Df K "_first_not_dividing" s_first_not_dividing) (D_next_over : Df K "next_over" s_next_over) (D_keeps_all : Df K "keeps_all" s_keeps_all) (D_law_common : Df K "_law_common" s_law_common) (D_law_fraction : Df K "_law_fraction" s_law_fraction) (D_shortened : Df K "_shortened" s_shortened) (D_law_open_cells : Df K "_law_open_cells" s_law_open_cells) (D_law : Df K "law" s_law)
    (z_len : PySem.W.nsIn K mainGlobals "len" = some none) (z_repr : PySem.W.nsIn K mainGlobals "repr" = some none) (z_int : PySem.W.nsIn K mainGlobals "int" = some none) (z_abs : PySem.W.nsIn K mainGlobals "abs" = some none) (z_range : PySem.W.nsIn K mainGlobals "range" = some none) (z_list : PySem.W.nsIn K mainGlobals "list" = some none) (z_tuple : PySem.W.nsIn K mainGlobals "tuple" = some none) (z_isinstance : PySem.W.nsIn K mainGlobals "isinstance" = some none) (z_bool : PySem.W.nsIn K mainGlobals "bool" = some none) (z_max : PySem.W.nsIn K mainGlobals "max" = some none) (z_min : PySem.W.nsIn K mainGlobals "min" = some none) (z_all : PySem.W.nsIn K mainGlobals "all" = some none) (z_str : PySem.W.nsIn K mainGlobals "str" = some none) (z_sorted : PySem.W.nsIn K mainGlobals "sorted" = some none) (z_enumerate : PySem.W.nsIn K mainGlobals "enumerate" = some none) (z_dict : PySem.W.nsIn K mainGlobals "dict" = some none) (z_sum : PySem.W.nsIn K mainGlobals "sum" = some none) (z_zip : PySem.W.nsIn K mainGlobals "zip" = some none) (z_any : PySem.W.nsIn K mainGlobals "any" = some none) (z_set : PySem.W.nsIn K mainGlobals "set" = some none) (z_reversed : PySem.W.nsIn K mainGlobals "reversed" = some none) (g_gcd : PySem.W.nsIn K mainGlobals "gcd" = some (some (.builtin "math.gcd"))) :
    ∃ fd : FuncData, (∀ (s : Shared) (v : Value), BindsTo s fd ⟨[v], []⟩ [("script", v)]) ∧ ∀ base : Heap, K.In base → base.Ns mainGlobals mg → FnG P w K mg base 8 fa fd ["script"] (sp_law K) := by
  obtain ⟨f, fd, a, F, kp⟩ := D_law.ex
  have e := hfa.symm.trans (PySem.W.mg_of X G a)
  cases e
  have B : Blt mg := ⟨PySem.W.mg_none_of X G z_len, PySem.W.mg_none_of X G z_repr, PySem.W.mg_none_of X G z_int, PySem.W.mg_none_of X G z_abs, PySem.W.mg_none_of X G z_range, PySem.W.mg_none_of X G z_list, PySem.W.mg_none_of X G z_tuple, PySem.W.mg_none_of X G z_isinstance, PySem.W.mg_none_of X G z_bool, PySem.W.mg_none_of X G z_max, PySem.W.mg_none_of X G z_min, PySem.W.mg_none_of X G z_all, PySem.W.mg_none_of X G z_str, PySem.W.mg_none_of X G z_sorted, PySem.W.mg_none_of X G z_enumerate, PySem.W.mg_none_of X G z_dict, PySem.W.mg_none_of X G z_sum, PySem.W.mg_none_of X G z_zip, PySem.W.mg_none_of X G z_any, PySem.W.mg_none_of X G z_set, PySem.W.mg_none_of X G z_reversed⟩
  have T_gcd := PySem.W.mg_of X G g_gcd
  refine ⟨fd, fun s v => ?_, fun base _ _ => ?_⟩
  · obtain ⟨oc, od, kV, doc, pm, an, cdv, ct, osl, rfl, lk, hcd⟩ := F.ex
    exact .of_eq rfl
  · have T_law_pick : Fd P w K mg base 1 "_law_pick" W_law_pick := D_law_pick.fd X G (fun f fd F => ok_law_pick F B  ) (fun _ _ _ _ _ _ us hl => match us, hl with | [_, _], _ => rfl)
    have T_law_draw_field : Fd P w K mg base 2 "_law_draw_field" W_law_draw_field := D_law_draw_field.fd X G (fun f fd F => ok_law_draw_field F B (T_law_pick.mono (by decide)) ) (fun _ _ _ _ _ _ us hl => match us, hl with | [_], _ => rfl)
    have T_law_draw_worth_P_I : Fd P w K mg base 2 "_law_draw_worth" W_law_draw_worth_P_I := D_law_draw_worth.fd X G (fun f fd F => ok_law_draw_worth_P_I F B (T_law_pick.mono (by decide)) ) (fun _ _ _ _ _ _ us hl => match us, hl with | [_, _], _ => rfl)
    have T_law_number_P_II : Fd P w K mg base 1 "_law_number" W_law_number_P_II := D_law_number.fd X G (fun f fd F => ok_law_number_P_II F B  ) (fun _ _ _ _ _ _ us hl => match us, hl with | [_, _], _ => rfl)
    have T_law_times_P_III : Fd P w K mg base 1 "_law_times" W_law_times_P_III := D_law_times.fd X G (fun f fd F => ok_law_times_P_III F B  ) (fun _ _ _ _ _ _ us hl => match us, hl with | [_, _, _], _ => rfl)
    have T_law_plus_P_III : Fd P w K mg base 1 "_law_plus" W_law_plus_P_III := D_law_plus.fd X G (fun f fd F => ok_law_plus_P_III F B  ) (fun _ _ _ _ _ _ us hl => match us, hl with | [_, _, _], _ => rfl)
    have T_law_minus_P_III : Fd P w K mg base 2 "_law_minus" W_law_minus_P_III := D_law_minus.fd X G (fun f fd F => ok_law_minus_P_III F B (T_law_number_P_II.mono (by decide)) (T_law_times_P_III.mono (by decide)) (T_law_plus_P_III.mono (by decide)) ) (fun _ _ _ _ _ _ us hl => match us, hl with | [_, _, _], _ => rfl)
    have T_law_worth_row_P_III : Fd P w K mg base 3 "_law_worth_row" W_law_worth_row_P_III := D_law_worth_row.fd X G (fun f fd F => ok_law_worth_row_P_III F B (T_law_number_P_II.mono (by decide)) (T_law_times_P_III.mono (by decide)) (T_law_minus_P_III.mono (by decide)) ) (fun _ _ _ _ _ _ us hl => match us, hl with | [_, _, _], _ => rfl)
    have T_law_length_P_II : Fd P w K mg base 4 "_law_length" W_law_length_P_II := D_law_length.fd X G (fun f fd F => ok_law_length_P_II F B (T_law_worth_row_P_III.mono (by decide)) (T_law_number_P_II.mono (by decide)) ) (fun _ _ _ _ _ _ us hl => match us, hl with | [_, _], _ => rfl)
    have T_law_draw_far_P_IN : Fd P w K mg base 2 "_law_draw_far" W_law_draw_far_P_IN := D_law_draw_far.fd X G (fun f fd F => ok_law_draw_far_P_IN F B (T_law_pick.mono (by decide)) ) (fun _ _ _ _ _ _ us hl => match us, hl with | [_, _, _], _ => rfl)
    have T_law_digits_P_INI : Fd P w K mg base 1 "_law_digits" W_law_digits_P_INI := D_law_digits.fd X G (fun f fd F => ok_law_digits_P_INI F B  ) (fun _ _ _ _ _ _ us hl => match us, hl with | [_, _, _], _ => rfl)
    have T_law_digits_P_INI_or_law_digits_P_III : Fd P w K mg base 1 "_law_digits" W_law_digits_P_INI_or_law_digits_P_III := D_law_digits.fd X G (fun f fd F => ok_law_digits_P_INI_or_law_digits_P_III F B  ) (fun _ _ _ _ _ _ us hl => match us, hl with | [_, _, _], _ => rfl)
    have T_law_has_middle_P_III : Fd P w K mg base 5 "_law_has_middle" W_law_has_middle_P_III := D_law_has_middle.fd X G (fun f fd F => ok_law_has_middle_P_III F B (T_law_length_P_II.mono (by decide)) (T_law_digits_P_INI_or_law_digits_P_III.mono (by decide)) ) (fun _ _ _ _ _ _ us hl => match us, hl with | [_, _, _], _ => rfl)
    have T_number_P_II : Fd P w K mg base 1 "number" W_number_P_II := D_number.fd X G (fun f fd F => ok_number_P_II F B  ) (fun _ _ _ _ _ _ us hl => match us, hl with | [_, _], _ => rfl)
    have T_times_P_III : Fd P w K mg base 1 "times" W_times_P_III := D_times.fd X G (fun f fd F => ok_times_P_III F B  ) (fun _ _ _ _ _ _ us hl => match us, hl with | [_, _, _], _ => rfl)
    have T_minus_P_III : Fd P w K mg base 1 "minus" W_minus_P_III := D_minus.fd X G (fun f fd F => ok_minus_P_III F B  ) (fun _ _ _ _ _ _ us hl => match us, hl with | [_, _, _], _ => rfl)
    have T_worth_row_P_III : Fd P w K mg base 2 "worth_row" W_worth_row_P_III := D_worth_row.fd X G (fun f fd F => ok_worth_row_P_III F B (T_number_P_II.mono (by decide)) (T_times_P_III.mono (by decide)) (T_minus_P_III.mono (by decide)) ) (fun _ _ _ _ _ _ us hl => match us, hl with | [_, _, _], _ => rfl)
    have T_length_P_II : Fd P w K mg base 3 "length" W_length_P_II := D_length.fd X G (fun f fd F => ok_length_P_II F B (T_worth_row_P_III.mono (by decide)) (T_number_P_II.mono (by decide)) ) (fun _ _ _ _ _ _ us hl => match us, hl with | [_, _], _ => rfl)
    have T_digits_P_INI : Fd P w K mg base 1 "digits" W_digits_P_INI := D_digits.fd X G (fun f fd F => ok_digits_P_INI F B  ) (fun _ _ _ _ _ _ us hl => match us, hl with | [_, _, _], _ => rfl)
    have T_parts_P_INvI : Fd P w K mg base 1 "_parts" W_parts_P_INvI := D_parts.fd X G (fun f fd F => ok_parts_P_INvI F B  ) (fun _ _ _ _ _ _ us hl => match us, hl with | [_, _, _], _ => rfl)
    have T_of_digits_P_INvI : Fd P w K mg base 2 "of_digits" W_of_digits_P_INvI := D_of_digits.fd X G (fun f fd F => ok_of_digits_P_INvI F B (T_parts_P_INvI.mono (by decide)) ) (fun _ _ _ _ _ _ us hl => match us, hl with | [_, _, _], _ => rfl)
    have T_digits_P_INI_or_digits_P_III : Fd P w K mg base 1 "digits" W_digits_P_INI_or_digits_P_III := D_digits.fd X G (fun f fd F => ok_digits_P_INI_or_digits_P_III F B  ) (fun _ _ _ _ _ _ us hl => match us, hl with | [_, _, _], _ => rfl)
    have T_has_middle_P_III : Fd P w K mg base 4 "has_middle" W_has_middle_P_III := D_has_middle.fd X G (fun f fd F => ok_has_middle_P_III F B (T_length_P_II.mono (by decide)) (T_digits_P_INI_or_digits_P_III.mono (by decide)) ) (fun _ _ _ _ _ _ us hl => match us, hl with | [_, _, _], _ => rfl)
    have T_parts_P_INTIe : Fd P w K mg base 1 "_parts" W_parts_P_INTIe := D_parts.fd X G (fun f fd F => ok_parts_P_INTIe F B  ) (fun _ _ _ _ _ _ us hl => match us, hl with | [_, _, _], _ => rfl)
    have T_support_P_INI : Fd P w K mg base 2 "support" W_support_P_INI := D_support.fd X G (fun f fd F => ok_support_P_INI F B (T_digits_P_INI.mono (by decide)) (T_parts_P_INTIe.mono (by decide)) ) (fun _ _ _ _ _ _ us hl => match us, hl with | [_, _, _], _ => rfl)
    have T_holds_P_INII : Fd P w K mg base 2 "holds" W_holds_P_INII := D_holds.fd X G (fun f fd F => ok_holds_P_INII F B (T_digits_P_INI.mono (by decide)) ) (fun _ _ _ _ _ _ us hl => match us, hl with | [_, _, _, _], _ => rfl)
    have T_first_not_dividing_P_INI : Fd P w K mg base 1 "_first_not_dividing" W_first_not_dividing_P_INI := D_first_not_dividing.fd X G (fun f fd F => ok_first_not_dividing_P_INI F B  ) (fun _ _ _ _ _ _ us hl => match us, hl with | [_, _, _], _ => rfl)
    have T_first_not_dividing_P_III : Fd P w K mg base 1 "_first_not_dividing" W_first_not_dividing_P_III := D_first_not_dividing.fd X G (fun f fd F => ok_first_not_dividing_P_III F B  ) (fun _ _ _ _ _ _ us hl => match us, hl with | [_, _, _], _ => rfl)
    have T_next_over_P_INI_or_next_over_P_III : Fd P w K mg base 2 "next_over" W_next_over_P_INI_or_next_over_P_III := D_next_over.fd X G (fun f fd F => ok_next_over_P_INI_or_next_over_P_III F B (T_first_not_dividing_P_INI.mono (by decide)) (T_first_not_dividing_P_III.mono (by decide)) ) (fun _ _ _ _ _ _ us hl => match us, hl with | [_, _, _], _ => rfl)
    have T_keeps_all_P_IIII : Fd P w K mg base 4 "keeps_all" W_keeps_all_P_IIII := D_keeps_all.fd X G (fun f fd F => ok_keeps_all_P_IIII F B (T_length_P_II.mono (by decide)) (T_next_over_P_INI_or_next_over_P_III.mono (by decide)) ) (fun _ _ _ _ _ _ us hl => match us, hl with | [_, _, _, _], _ => rfl)
    have T_next_over_P_INI : Fd P w K mg base 2 "next_over" W_next_over_P_INI := D_next_over.fd X G (fun f fd F => ok_next_over_P_INI F B (T_first_not_dividing_P_INI.mono (by decide)) ) (fun _ _ _ _ _ _ us hl => match us, hl with | [_, _, _], _ => rfl)
    have T_law_draw_far_P_II : Fd P w K mg base 2 "_law_draw_far" W_law_draw_far_P_II := D_law_draw_far.fd X G (fun f fd F => ok_law_draw_far_P_II F B (T_law_pick.mono (by decide)) ) (fun _ _ _ _ _ _ us hl => match us, hl with | [_, _, _], _ => rfl)
    have T_law_digits_P_III : Fd P w K mg base 1 "_law_digits" W_law_digits_P_III := D_law_digits.fd X G (fun f fd F => ok_law_digits_P_III F B  ) (fun _ _ _ _ _ _ us hl => match us, hl with | [_, _, _], _ => rfl)
    have T_digits_P_III : Fd P w K mg base 1 "digits" W_digits_P_III := D_digits.fd X G (fun f fd F => ok_digits_P_III F B  ) (fun _ _ _ _ _ _ us hl => match us, hl with | [_, _, _], _ => rfl)
    have T_parts_P_IIvI : Fd P w K mg base 1 "_parts" W_parts_P_IIvI := D_parts.fd X G (fun f fd F => ok_parts_P_IIvI F B  ) (fun _ _ _ _ _ _ us hl => match us, hl with | [_, _, _], _ => rfl)
    have T_of_digits_P_IIvI : Fd P w K mg base 2 "of_digits" W_of_digits_P_IIvI := D_of_digits.fd X G (fun f fd F => ok_of_digits_P_IIvI F B (T_parts_P_IIvI.mono (by decide)) ) (fun _ _ _ _ _ _ us hl => match us, hl with | [_, _, _], _ => rfl)
    have T_support_P_III : Fd P w K mg base 2 "support" W_support_P_III := D_support.fd X G (fun f fd F => ok_support_P_III F B (T_digits_P_III.mono (by decide)) (T_parts_P_IIvI.mono (by decide)) ) (fun _ _ _ _ _ _ us hl => match us, hl with | [_, _, _], _ => rfl)
    have T_holds_P_IIII : Fd P w K mg base 2 "holds" W_holds_P_IIII := D_holds.fd X G (fun f fd F => ok_holds_P_IIII F B (T_digits_P_III.mono (by decide)) ) (fun _ _ _ _ _ _ us hl => match us, hl with | [_, _, _, _], _ => rfl)
    have T_next_over_P_III : Fd P w K mg base 2 "next_over" W_next_over_P_III := D_next_over.fd X G (fun f fd F => ok_next_over_P_III F B (T_first_not_dividing_P_III.mono (by decide)) ) (fun _ _ _ _ _ _ us hl => match us, hl with | [_, _, _], _ => rfl)
    have T_law_common_II : Fd P w K mg base 1 "_law_common" W_law_common_II := D_law_common.fd X G (fun f fd F => ok_law_common_II F B  ) (fun _ _ _ _ _ _ us hl => match us, hl with | [_, _], _ => rfl)
    have T_law_fraction_II : Fd P w K mg base 2 "_law_fraction" W_law_fraction_II := D_law_fraction.fd X G (fun f fd F => ok_law_fraction_II F B (T_law_common_II.mono (by decide)) ) (fun _ _ _ _ _ _ us hl => match us, hl with | [_, _], _ => rfl)
    have T_law_draw_worth_Q_I : Fd P w K mg base 3 "_law_draw_worth" W_law_draw_worth_Q_I := D_law_draw_worth.fd X G (fun f fd F => ok_law_draw_worth_Q_I F B (T_law_pick.mono (by decide)) (T_law_fraction_II.mono (by decide)) ) (fun _ _ _ _ _ _ us hl => match us, hl with | [_, _], _ => rfl)
    have T_law_number_Q_II : Fd P w K mg base 1 "_law_number" W_law_number_Q_II := D_law_number.fd X G (fun f fd F => ok_law_number_Q_II F B  ) (fun _ _ _ _ _ _ us hl => match us, hl with | [_, _], _ => rfl)
    have T_law_times_Q_ITIIeTIIe : Fd P w K mg base 3 "_law_times" W_law_times_Q_ITIIeTIIe := D_law_times.fd X G (fun f fd F => ok_law_times_Q_ITIIeTIIe F B (T_law_fraction_II.mono (by decide)) ) (fun _ _ _ _ _ _ us hl => match us, hl with | [_, _, _], _ => rfl)
    have T_law_plus_Q_ITIIeTIIe : Fd P w K mg base 3 "_law_plus" W_law_plus_Q_ITIIeTIIe := D_law_plus.fd X G (fun f fd F => ok_law_plus_Q_ITIIeTIIe F B (T_law_fraction_II.mono (by decide)) ) (fun _ _ _ _ _ _ us hl => match us, hl with | [_, _, _], _ => rfl)
    have T_law_minus_Q_ITIIeTIIe : Fd P w K mg base 4 "_law_minus" W_law_minus_Q_ITIIeTIIe := D_law_minus.fd X G (fun f fd F => ok_law_minus_Q_ITIIeTIIe F B (T_law_number_Q_II.mono (by decide)) (T_law_times_Q_ITIIeTIIe.mono (by decide)) (T_law_plus_Q_ITIIeTIIe.mono (by decide)) ) (fun _ _ _ _ _ _ us hl => match us, hl with | [_, _, _], _ => rfl)
    have T_law_worth_row_Q_ITIIeI : Fd P w K mg base 5 "_law_worth_row" W_law_worth_row_Q_ITIIeI := D_law_worth_row.fd X G (fun f fd F => ok_law_worth_row_Q_ITIIeI F B (T_law_number_Q_II.mono (by decide)) (T_law_times_Q_ITIIeTIIe.mono (by decide)) (T_law_minus_Q_ITIIeTIIe.mono (by decide)) ) (fun _ _ _ _ _ _ us hl => match us, hl with | [_, _, _], _ => rfl)
    have T_law_length_Q_ITIIe : Fd P w K mg base 6 "_law_length" W_law_length_Q_ITIIe := D_law_length.fd X G (fun f fd F => ok_law_length_Q_ITIIe F B (T_law_worth_row_Q_ITIIeI.mono (by decide)) (T_law_number_Q_II.mono (by decide)) ) (fun _ _ _ _ _ _ us hl => match us, hl with | [_, _], _ => rfl)
    have T_law_draw_far_Q_IN : Fd P w K mg base 2 "_law_draw_far" W_law_draw_far_Q_IN := D_law_draw_far.fd X G (fun f fd F => ok_law_draw_far_Q_IN F B (T_law_pick.mono (by decide)) ) (fun _ _ _ _ _ _ us hl => match us, hl with | [_, _, _], _ => rfl)
    have T_law_digits_Q_INI : Fd P w K mg base 1 "_law_digits" W_law_digits_Q_INI := D_law_digits.fd X G (fun f fd F => ok_law_digits_Q_INI F B  ) (fun _ _ _ _ _ _ us hl => match us, hl with | [_, _, _], _ => rfl)
    have T_law_digits_Q_INI_or_law_digits_Q_III : Fd P w K mg base 1 "_law_digits" W_law_digits_Q_INI_or_law_digits_Q_III := D_law_digits.fd X G (fun f fd F => ok_law_digits_Q_INI_or_law_digits_Q_III F B  ) (fun _ _ _ _ _ _ us hl => match us, hl with | [_, _, _], _ => rfl)
    have T_law_has_middle_Q_ITIIeI : Fd P w K mg base 7 "_law_has_middle" W_law_has_middle_Q_ITIIeI := D_law_has_middle.fd X G (fun f fd F => ok_law_has_middle_Q_ITIIeI F B (T_law_length_Q_ITIIe.mono (by decide)) (T_law_digits_Q_INI_or_law_digits_Q_III.mono (by decide)) ) (fun _ _ _ _ _ _ us hl => match us, hl with | [_, _, _], _ => rfl)
    have T_number_Q_II : Fd P w K mg base 1 "number" W_number_Q_II := D_number.fd X G (fun f fd F => ok_number_Q_II F B  ) (fun _ _ _ _ _ _ us hl => match us, hl with | [_, _], _ => rfl)
    have T_shortened_II : Fd P w K mg base 1 "_shortened" W_shortened_II := D_shortened.fd X G (fun f fd F => ok_shortened_II F B  T_gcd) (fun _ _ _ _ _ _ us hl => match us, hl with | [_, _], _ => rfl)
    have T_times_Q_ITIIeTIIe : Fd P w K mg base 2 "times" W_times_Q_ITIIeTIIe := D_times.fd X G (fun f fd F => ok_times_Q_ITIIeTIIe F B (T_shortened_II.mono (by decide)) ) (fun _ _ _ _ _ _ us hl => match us, hl with | [_, _, _], _ => rfl)
    have T_minus_Q_ITIIeTIIe : Fd P w K mg base 2 "minus" W_minus_Q_ITIIeTIIe := D_minus.fd X G (fun f fd F => ok_minus_Q_ITIIeTIIe F B (T_shortened_II.mono (by decide)) ) (fun _ _ _ _ _ _ us hl => match us, hl with | [_, _, _], _ => rfl)
    have T_worth_row_Q_ITIIeI : Fd P w K mg base 3 "worth_row" W_worth_row_Q_ITIIeI := D_worth_row.fd X G (fun f fd F => ok_worth_row_Q_ITIIeI F B (T_number_Q_II.mono (by decide)) (T_times_Q_ITIIeTIIe.mono (by decide)) (T_minus_Q_ITIIeTIIe.mono (by decide)) ) (fun _ _ _ _ _ _ us hl => match us, hl with | [_, _, _], _ => rfl)
    have T_length_Q_ITIIe : Fd P w K mg base 4 "length" W_length_Q_ITIIe := D_length.fd X G (fun f fd F => ok_length_Q_ITIIe F B (T_worth_row_Q_ITIIeI.mono (by decide)) (T_number_Q_II.mono (by decide)) ) (fun _ _ _ _ _ _ us hl => match us, hl with | [_, _], _ => rfl)
    have T_digits_Q_INI : Fd P w K mg base 1 "digits" W_digits_Q_INI := D_digits.fd X G (fun f fd F => ok_digits_Q_INI F B  ) (fun _ _ _ _ _ _ us hl => match us, hl with | [_, _, _], _ => rfl)
    have T_parts_Q_INvI : Fd P w K mg base 1 "_parts" W_parts_Q_INvI := D_parts.fd X G (fun f fd F => ok_parts_Q_INvI F B  ) (fun _ _ _ _ _ _ us hl => match us, hl with | [_, _, _], _ => rfl)
    have T_of_digits_Q_INvI : Fd P w K mg base 2 "of_digits" W_of_digits_Q_INvI := D_of_digits.fd X G (fun f fd F => ok_of_digits_Q_INvI F B (T_parts_Q_INvI.mono (by decide)) ) (fun _ _ _ _ _ _ us hl => match us, hl with | [_, _, _], _ => rfl)
    have T_digits_Q_INI_or_digits_Q_III : Fd P w K mg base 1 "digits" W_digits_Q_INI_or_digits_Q_III := D_digits.fd X G (fun f fd F => ok_digits_Q_INI_or_digits_Q_III F B  ) (fun _ _ _ _ _ _ us hl => match us, hl with | [_, _, _], _ => rfl)
    have T_has_middle_Q_ITIIeI : Fd P w K mg base 5 "has_middle" W_has_middle_Q_ITIIeI := D_has_middle.fd X G (fun f fd F => ok_has_middle_Q_ITIIeI F B (T_length_Q_ITIIe.mono (by decide)) (T_digits_Q_INI_or_digits_Q_III.mono (by decide)) ) (fun _ _ _ _ _ _ us hl => match us, hl with | [_, _, _], _ => rfl)
    have T_parts_Q_INTIe : Fd P w K mg base 1 "_parts" W_parts_Q_INTIe := D_parts.fd X G (fun f fd F => ok_parts_Q_INTIe F B  ) (fun _ _ _ _ _ _ us hl => match us, hl with | [_, _, _], _ => rfl)
    have T_support_Q_INI : Fd P w K mg base 2 "support" W_support_Q_INI := D_support.fd X G (fun f fd F => ok_support_Q_INI F B (T_digits_Q_INI.mono (by decide)) (T_parts_Q_INTIe.mono (by decide)) ) (fun _ _ _ _ _ _ us hl => match us, hl with | [_, _, _], _ => rfl)
    have T_holds_Q_INII : Fd P w K mg base 2 "holds" W_holds_Q_INII := D_holds.fd X G (fun f fd F => ok_holds_Q_INII F B (T_digits_Q_INI.mono (by decide)) ) (fun _ _ _ _ _ _ us hl => match us, hl with | [_, _, _, _], _ => rfl)
    have T_first_not_dividing_Q_INI : Fd P w K mg base 1 "_first_not_dividing" W_first_not_dividing_Q_INI := D_first_not_dividing.fd X G (fun f fd F => ok_first_not_dividing_Q_INI F B  ) (fun _ _ _ _ _ _ us hl => match us, hl with | [_, _, _], _ => rfl)
    have T_first_not_dividing_Q_III : Fd P w K mg base 1 "_first_not_dividing" W_first_not_dividing_Q_III := D_first_not_dividing.fd X G (fun f fd F => ok_first_not_dividing_Q_III F B  ) (fun _ _ _ _ _ _ us hl => match us, hl with | [_, _, _], _ => rfl)
    have T_next_over_Q_INI_or_next_over_Q_III : Fd P w K mg base 2 "next_over" W_next_over_Q_INI_or_next_over_Q_III := D_next_over.fd X G (fun f fd F => ok_next_over_Q_INI_or_next_over_Q_III F B (T_first_not_dividing_Q_INI.mono (by decide)) (T_first_not_dividing_Q_III.mono (by decide)) ) (fun _ _ _ _ _ _ us hl => match us, hl with | [_, _, _], _ => rfl)
    have T_keeps_all_Q_ITIIeII : Fd P w K mg base 5 "keeps_all" W_keeps_all_Q_ITIIeII := D_keeps_all.fd X G (fun f fd F => ok_keeps_all_Q_ITIIeII F B (T_length_Q_ITIIe.mono (by decide)) (T_next_over_Q_INI_or_next_over_Q_III.mono (by decide)) ) (fun _ _ _ _ _ _ us hl => match us, hl with | [_, _, _, _], _ => rfl)
    have T_next_over_Q_INI : Fd P w K mg base 2 "next_over" W_next_over_Q_INI := D_next_over.fd X G (fun f fd F => ok_next_over_Q_INI F B (T_first_not_dividing_Q_INI.mono (by decide)) ) (fun _ _ _ _ _ _ us hl => match us, hl with | [_, _, _], _ => rfl)
    have T_law_draw_far_Q_II : Fd P w K mg base 2 "_law_draw_far" W_law_draw_far_Q_II := D_law_draw_far.fd X G (fun f fd F => ok_law_draw_far_Q_II F B (T_law_pick.mono (by decide)) ) (fun _ _ _ _ _ _ us hl => match us, hl with | [_, _, _], _ => rfl)
    have T_law_digits_Q_III : Fd P w K mg base 1 "_law_digits" W_law_digits_Q_III := D_law_digits.fd X G (fun f fd F => ok_law_digits_Q_III F B  ) (fun _ _ _ _ _ _ us hl => match us, hl with | [_, _, _], _ => rfl)
    have T_digits_Q_III : Fd P w K mg base 1 "digits" W_digits_Q_III := D_digits.fd X G (fun f fd F => ok_digits_Q_III F B  ) (fun _ _ _ _ _ _ us hl => match us, hl with | [_, _, _], _ => rfl)
    have T_parts_Q_IIvI : Fd P w K mg base 1 "_parts" W_parts_Q_IIvI := D_parts.fd X G (fun f fd F => ok_parts_Q_IIvI F B  ) (fun _ _ _ _ _ _ us hl => match us, hl with | [_, _, _], _ => rfl)
    have T_of_digits_Q_IIvI : Fd P w K mg base 2 "of_digits" W_of_digits_Q_IIvI := D_of_digits.fd X G (fun f fd F => ok_of_digits_Q_IIvI F B (T_parts_Q_IIvI.mono (by decide)) ) (fun _ _ _ _ _ _ us hl => match us, hl with | [_, _, _], _ => rfl)
    have T_support_Q_III : Fd P w K mg base 2 "support" W_support_Q_III := D_support.fd X G (fun f fd F => ok_support_Q_III F B (T_digits_Q_III.mono (by decide)) (T_parts_Q_IIvI.mono (by decide)) ) (fun _ _ _ _ _ _ us hl => match us, hl with | [_, _, _], _ => rfl)
    have T_holds_Q_IIII : Fd P w K mg base 2 "holds" W_holds_Q_IIII := D_holds.fd X G (fun f fd F => ok_holds_Q_IIII F B (T_digits_Q_III.mono (by decide)) ) (fun _ _ _ _ _ _ us hl => match us, hl with | [_, _, _, _], _ => rfl)
    have T_next_over_Q_III : Fd P w K mg base 2 "next_over" W_next_over_Q_III := D_next_over.fd X G (fun f fd F => ok_next_over_Q_III F B (T_first_not_dividing_Q_III.mono (by decide)) ) (fun _ _ _ _ _ _ us hl => match us, hl with | [_, _, _], _ => rfl)
    have TO : Fo P w K mg base 1 := D_law_open_cells.fo X G (fun f fd F => ok_law_open_cells F B) (fun _ _ _ _ _ _ us hl => match us, hl with | [_], _ => rfl)
    exact ok_law F B (TO.mono (by decide)) (T_law_draw_field.mono (by decide)) (T_law_draw_worth_P_I.mono (by decide)) (T_law_length_P_II.mono (by decide)) (T_law_draw_far_P_IN.mono (by decide)) (T_law_digits_P_INI.mono (by decide)) (T_law_has_middle_P_III.mono (by decide)) (T_length_P_II.mono (by decide)) (T_digits_P_INI.mono (by decide)) (T_of_digits_P_INvI.mono (by decide)) (T_has_middle_P_III.mono (by decide)) (T_law_pick.mono (by decide)) (T_support_P_INI.mono (by decide)) (T_holds_P_INII.mono (by decide)) (T_keeps_all_P_IIII.mono (by decide)) (T_next_over_P_INI.mono (by decide)) (T_law_draw_far_P_II.mono (by decide)) (T_law_digits_P_III.mono (by decide)) (T_digits_P_III.mono (by decide)) (T_of_digits_P_IIvI.mono (by decide)) (T_support_P_III.mono (by decide)) (T_holds_P_IIII.mono (by decide)) (T_next_over_P_III.mono (by decide)) (T_law_draw_worth_Q_I.mono (by decide)) (T_law_length_Q_ITIIe.mono (by decide)) (T_law_draw_far_Q_IN.mono (by decide)) (T_law_digits_Q_INI.mono (by decide)) (T_law_has_middle_Q_ITIIeI.mono (by decide)) (T_length_Q_ITIIe.mono (by decide)) (T_digits_Q_INI.mono (by decide)) (T_of_digits_Q_INvI.mono (by decide)) (T_has_middle_Q_ITIIeI.mono (by decide)) (T_support_Q_INI.mono (by decide)) (T_holds_Q_INII.mono (by decide)) (T_keeps_all_Q_ITIIeII.mono (by decide)) (T_next_over_Q_INI.mono (by decide)) (T_law_draw_far_Q_II.mono (by decide)) (T_law_digits_Q_III.mono (by decide)) (T_digits_Q_III.mono (by decide)) (T_of_digits_Q_IIvI.mono (by decide)) (T_support_Q_III.mono (by decide)) (T_holds_Q_IIII.mono (by decide)) (T_next_over_Q_III.mono (by decide))
end Kt
open PySem PySem.W PyProof.Rows
set_option maxHeartbeats 0 in
theorem PySem.Challenge.cw_loopworth_k46_whole_middles_far_off_holds : PySem.Challenge.rw_loopworth_k46_whole_middles_far_off.Holds := by
  w_on; o_law; k_head; (case hw => w_witness2)
  k_fill
  refine Kt.walkG (l := PySem.Challenge.rw_loopworth_k46_whole_middles_far_off) (n := 63) (k := 8) (x := "script") (sp := fun w => Kt.sp_law _) rfl (by decide) rfl ⟨rfl, by decide, by decide⟩ (fun w h Y => PySem.W.kIn_of Y) ?F (fun _ _ a ns hl hS => ⟨a, ns, rfl, hS, by omega, fun _ _ e => e⟩)
  case F =>
    intro w mg fa h KX G hmg
    refine' Kt.all_mk KX G hmg ?D_law_pick ?D_law_draw_field ?D_law_draw_worth ?D_law_number ?D_law_times ?D_law_plus ?D_law_minus ?D_law_worth_row ?D_law_length ?D_law_draw_far ?D_law_digits ?D_law_has_middle ?D_number ?D_times ?D_minus ?D_worth_row ?D_length ?D_digits ?D_parts ?D_of_digits ?D_has_middle ?D_support ?D_holds ?D_first_not_dividing ?D_next_over ?D_keeps_all ?D_law_common ?D_law_fraction ?D_shortened ?D_law_open_cells ?D_law ?z_len ?z_repr ?z_int ?z_abs ?z_range ?z_list ?z_tuple ?z_isinstance ?z_bool ?z_max ?z_min ?z_all ?z_str ?z_sorted ?z_enumerate ?z_dict ?z_sum ?z_zip ?z_any ?z_set ?z_reversed ?g_gcd
    (case D_law_pick => refine' Kt.Df.of ?a ?l ?c ?k; (case a => k_is); (case l => k_is); (case c => k_is); (case k => k_is))
    (case D_law_draw_field => refine' Kt.Df.of ?a ?l ?c ?k; (case a => k_is); (case l => k_is); (case c => k_is); (case k => k_is))
    (case D_law_draw_worth => refine' Kt.Df.of ?a ?l ?c ?k; (case a => k_is); (case l => k_is); (case c => k_is); (case k => k_is))
    (case D_law_number => refine' Kt.Df.of ?a ?l ?c ?k; (case a => k_is); (case l => k_is); (case c => k_is); (case k => k_is))
    (case D_law_times => refine' Kt.Df.of ?a ?l ?c ?k; (case a => k_is); (case l => k_is); (case c => k_is); (case k => k_is))
    (case D_law_plus => refine' Kt.Df.of ?a ?l ?c ?k; (case a => k_is); (case l => k_is); (case c => k_is); (case k => k_is))
    (case D_law_minus => refine' Kt.Df.of ?a ?l ?c ?k; (case a => k_is); (case l => k_is); (case c => k_is); (case k => k_is))
    (case D_law_worth_row => refine' Kt.Df.of ?a ?l ?c ?k; (case a => k_is); (case l => k_is); (case c => k_is); (case k => k_is))
    (case D_law_length => refine' Kt.Df.of ?a ?l ?c ?k; (case a => k_is); (case l => k_is); (case c => k_is); (case k => k_is))
    (case D_law_draw_far => refine' Kt.Df.of ?a ?l ?c ?k; (case a => k_is); (case l => k_is); (case c => k_is); (case k => k_is))
    (case D_law_digits => refine' Kt.Df.of ?a ?l ?c ?k; (case a => k_is); (case l => k_is); (case c => k_is); (case k => k_is))
    (case D_law_has_middle => refine' Kt.Df.of ?a ?l ?c ?k; (case a => k_is); (case l => k_is); (case c => k_is); (case k => k_is))
    (case D_number => refine' Kt.Df.of ?a ?l ?c ?k; (case a => k_is); (case l => k_is); (case c => k_is); (case k => k_is))
    (case D_times => refine' Kt.Df.of ?a ?l ?c ?k; (case a => k_is); (case l => k_is); (case c => k_is); (case k => k_is))
    (case D_minus => refine' Kt.Df.of ?a ?l ?c ?k; (case a => k_is); (case l => k_is); (case c => k_is); (case k => k_is))
    (case D_worth_row => refine' Kt.Df.of ?a ?l ?c ?k; (case a => k_is); (case l => k_is); (case c => k_is); (case k => k_is))
    (case D_length => refine' Kt.Df.of ?a ?l ?c ?k; (case a => k_is); (case l => k_is); (case c => k_is); (case k => k_is))
    (case D_digits => refine' Kt.Df.of ?a ?l ?c ?k; (case a => k_is); (case l => k_is); (case c => k_is); (case k => k_is))
    (case D_parts => refine' Kt.Df.of ?a ?l ?c ?k; (case a => k_is); (case l => k_is); (case c => k_is); (case k => k_is))
    (case D_of_digits => refine' Kt.Df.of ?a ?l ?c ?k; (case a => k_is); (case l => k_is); (case c => k_is); (case k => k_is))
    (case D_has_middle => refine' Kt.Df.of ?a ?l ?c ?k; (case a => k_is); (case l => k_is); (case c => k_is); (case k => k_is))
    (case D_support => refine' Kt.Df.of ?a ?l ?c ?k; (case a => k_is); (case l => k_is); (case c => k_is); (case k => k_is))
    (case D_holds => refine' Kt.Df.of ?a ?l ?c ?k; (case a => k_is); (case l => k_is); (case c => k_is); (case k => k_is))
    (case D_first_not_dividing => refine' Kt.Df.of ?a ?l ?c ?k; (case a => k_is); (case l => k_is); (case c => k_is); (case k => k_is))
    (case D_next_over => refine' Kt.Df.of ?a ?l ?c ?k; (case a => k_is); (case l => k_is); (case c => k_is); (case k => k_is))
    (case D_keeps_all => refine' Kt.Df.of ?a ?l ?c ?k; (case a => k_is); (case l => k_is); (case c => k_is); (case k => k_is))
    (case D_law_common => refine' Kt.Df.of ?a ?l ?c ?k; (case a => k_is); (case l => k_is); (case c => k_is); (case k => k_is))
    (case D_law_fraction => refine' Kt.Df.of ?a ?l ?c ?k; (case a => k_is); (case l => k_is); (case c => k_is); (case k => k_is))
    (case D_shortened => refine' Kt.Df.of ?a ?l ?c ?k; (case a => k_is); (case l => k_is); (case c => k_is); (case k => k_is))
    (case D_law_open_cells => refine' Kt.Df.of ?a ?l ?c ?k; (case a => k_is); (case l => k_is); (case c => k_is); (case k => k_is))
    (case D_law => refine' Kt.Df.of ?a ?l ?c ?k; (case a => k_is); (case l => k_is); (case c => k_is); (case k => k_is))
    (case z_len => k_is)
    (case z_repr => k_is)
    (case z_int => k_is)
    (case z_abs => k_is)
    (case z_range => k_is)
    (case z_list => k_is)
    (case z_tuple => k_is)
    (case z_isinstance => k_is)
    (case z_bool => k_is)
    (case z_max => k_is)
    (case z_min => k_is)
    (case z_all => k_is)
    (case z_str => k_is)
    (case z_sorted => k_is)
    (case z_enumerate => k_is)
    (case z_dict => k_is)
    (case z_sum => k_is)
    (case z_zip => k_is)
    (case z_any => k_is)
    (case z_set => k_is)
    (case z_reversed => k_is)
    (case g_gcd => k_is)
