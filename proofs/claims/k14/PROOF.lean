import PyProof.Rows.All
import Wide.All
import OpenK.AllK
import Wide.FinOn
import HandS.ForMost
import HandS.ExcInit
import HandS.ExcIs
import HandS.Wide
import HandS.Deep
import HandS.ExcValue
import HandS.ExcCtx
import HandS.HotCalls
import HandS.IsInst
import HandS.SortInts
import HandS.EndBits
import KE.KExcStr
import PyProof.ExcReprCall
import HandS.ExcOwn
import HandS.WordsExc
import HandS.ExcField
import KE.GoesEnumKw
import KE.KxIndex
import PyProof.ReprDict
import PyProof.Rows.ChunkLeaf
import HandS.Replace
import HandS.TupMul
import HandS.TupAny
import HandS.SetFor
import HandS.Flow
import HandS.Defaults
import HandS.Style
import KE.LtData
import PyProof.Rows.CountFlat
import HandS.More
import PyProof.ReprBulk
import PySem.Challenge.RW_peersmeet_k14_whole_greater_cards
set_option Elab.async false
set_option linter.all false
set_option autoImplicit false
set_option maxRecDepth 100000
set_option maxHeartbeats 2000000
namespace G
open PySem PySem.Spec PySem.Calls L2

/-- a tuple: tracked, or written -/
def Tp (K : PySem.W.Frag) (H : Hp) (a : Addr) (xs : List V) : Prop :=
  H a = some (.tup xs) ∨ ∃ (o : Obj) (its : Array Value) (n : Nat), K.lookup a = some o ∧ o.cls = .type "tuple" ∧ o.data = .seq its n ∧ its.size ≤ sizeLine ∧ Vals xs its.toList
theorem Tp.sq {K : PySem.W.Frag} {H : Hp} {a : Addr} {xs : List V} (h : Tp K H a xs) : SqT K H a xs := h.imp (fun h => .inl h) fun h => h
theorem Tp.of {K : PySem.W.Frag} {H : Hp} {a : Addr} {xs : List V} (h : H a = some (.tup xs)) : Tp K H a xs := .inl h
theorem Tp.same {K : PySem.W.Frag} {H H' : Hp} {a : Addr} {xs : List V} (e : Same H H') (h : Tp K H a xs) : Tp K H' a xs := h.imp (fun h => e _ _ h) fun h => h
/-! ### an exception as a value: its args at t, its own dict -/
abbrev excObj (C : Addr) (d : Option Addr) (t : Addr) : Obj := { cls := .ref C, dict := d, data := .fields #[.ref t, .none, .none, .none, .bool false, .none] }
def exoT (a C : Addr) (d : Option Addr) (t : Addr) : HO := .ext fun h => h.get? a = some (excObj C d t)
theorem exoT_ok {P : Program} {w : World} {H : Hp} {h : Heap} {a C t : Addr} {d : Option Addr} (e : h.get? a = some (excObj C d t)) : ObjOk P w H h a (exoT a C d t) := ⟨e, ⟨_, e⟩, fun _ _ p k => k _ p⟩
theorem exoT_at {P : Program} {w : World} {H : Hp} {h : Heap} {a C t : Addr} {d : Option Addr} (hok : HOk P w H h) (e : H a = some (exoT a C d t)) : h.get? a = some (excObj C d t) := (hok a _ e).1
/-! ### data -/
inductive D where
  | non | bl (b : Bool) | int (i : Int) | str (x : Str) | ty (n : String)
  | lst (xs : List D) | tup (xs : List D) | dct (ks : List Key) (xs : List D) | ins (C : Nat) (ns : List Str) (xs : List D) | mut (k : Nat) | scr (ns : List Int) | exc (C : Nat) (f msg : Str) (d : D) | cls (C : Nat)
structure Gm where
  K : PySem.W.Frag
  cl : Nat → Addr
  xp : Option (Addr × Obj)
mutual
def Has (Γ : Gm) (ms : List Addr) (F : Hp) (v : V) : D → Prop
  | .non => v = .non
  | .bl b => v = .bl b
  | .int i => v = .int i
  | .str x => v = .str x
  | .ty n => v = .ty n
  | .lst ds => ∃ a xs, v = .ref a ∧ F a = some (.lst xs) ∧ HasL Γ ms F xs ds
  | .tup ds => ∃ a xs, v = .ref a ∧ Tp Γ.K F a xs ∧ HasL Γ ms F xs ds
  | .dct ks ds => ∃ a xs, v = .ref a ∧ F a = some (.dK (ks.zip xs)) ∧ ks.length = xs.length ∧ HasL Γ ms F xs ds
  | .ins C ns ds => ∃ a dx xs, v = .ref a ∧ F a = some (.ins (Γ.cl C) dx (ns.zip xs)) ∧ ns.length = xs.length ∧ HasL Γ ms F xs ds
  | .mut k => ∃ a, v = .ref a ∧ ms[k]? = some a
  | .scr ns => ∃ a, v = .ref a ∧ SqL Γ.K F a (ns.map V.int)
  | .exc C f msg d => ∃ a t dx y, v = .ref a ∧ F a = some (exoT a (Γ.cl C) (some dx) t) ∧ F t = some (.tup [.str msg]) ∧ F dx = some (exd dx [(f, y)]) ∧ Has Γ ms F y d
  | .cls C => v = .ref (Γ.cl C)
def HasL (Γ : Gm) (ms : List Addr) (F : Hp) (vs : List V) : List D → Prop
  | [] => vs = []
  | d :: ds => ∃ w ws, vs = w :: ws ∧ Has Γ ms F w d ∧ HasL Γ ms F ws ds
end
section
variable {K : PySem.W.Frag} {cl : Nat → Addr} {x y : Option (Addr × Obj)} {ms : List Addr} {F : Hp}
mutual
theorem Has.xp : ∀ {v : V} {d : D}, Has ⟨K, cl, x⟩ ms F v d → Has ⟨K, cl, y⟩ ms F v d
  | v, .non, h => h
  | v, .bl b, h => h
  | v, .int i, h => h
  | v, .str x, h => h
  | v, .ty n, h => h
  | v, .lst ds, ⟨a, xs, hv, hs, hl⟩ => ⟨a, xs, hv, hs, HasL.xp hl⟩
  | v, .tup ds, ⟨a, xs, hv, hs, hl⟩ => ⟨a, xs, hv, hs, HasL.xp hl⟩
  | v, .dct ks ds, ⟨a, xs, hv, hs, hn, hl⟩ => ⟨a, xs, hv, hs, hn, HasL.xp hl⟩
  | v, .ins C ns ds, ⟨a, dx, xs, hv, hs, hn, hl⟩ => ⟨a, dx, xs, hv, hs, hn, HasL.xp hl⟩
  | v, .mut k, h => h
  | v, .scr ns, h => h
  | v, .exc C f msg d, ⟨a, t, dx, z, hv, h1, h2, h3, h4⟩ => ⟨a, t, dx, z, hv, h1, h2, h3, Has.xp h4⟩
  | v, .cls C, h => h
theorem HasL.xp : ∀ {vs : List V} {ds : List D}, HasL ⟨K, cl, x⟩ ms F vs ds → HasL ⟨K, cl, y⟩ ms F vs ds
  | vs, [], h => h
  | vs, d :: ds, ⟨w, ws, hv, h1, h2⟩ => ⟨w, ws, hv, Has.xp h1, HasL.xp h2⟩
end
end
theorem getP {α : Type} {l r : List α} {k : Nat} {a : α} (h : l[k]? = some a) : (l ++ r)[k]? = some a := by
  rw [List.getElem?_append_left (List.getElem?_eq_some_iff.mp h).1]
  exact h
section
variable {Γ : Gm} {ms : List Addr} {F F' : Hp}
mutual
theorem Has.mono {new : List Addr} (e : Same F F') : ∀ {v : V} {d : D}, Has Γ ms F v d → Has Γ (ms ++ new) F' v d
  | v, .non, h => h
  | v, .bl b, h => h
  | v, .int i, h => h
  | v, .str x, h => h
  | v, .ty n, h => h
  | v, .lst ds, ⟨a, xs, hv, hs, hl⟩ => ⟨a, xs, hv, e _ _ hs, HasL.mono e hl⟩
  | v, .tup ds, ⟨a, xs, hv, hs, hl⟩ => ⟨a, xs, hv, Tp.same e hs, HasL.mono e hl⟩
  | v, .dct ks ds, ⟨a, xs, hv, hs, hn, hl⟩ => ⟨a, xs, hv, e _ _ hs, hn, HasL.mono e hl⟩
  | v, .ins C ns ds, ⟨a, dx, xs, hv, hs, hn, hl⟩ => ⟨a, dx, xs, hv, e _ _ hs, hn, HasL.mono e hl⟩
  | v, .mut k, ⟨a, hv, hk⟩ => ⟨a, hv, getP hk⟩
  | v, .scr ns, ⟨a, hv, hk⟩ => ⟨a, hv, e.seq hk⟩
  | v, .exc C f msg d, ⟨a, t, dx, y, hv, h1, h2, h3, h4⟩ => ⟨a, t, dx, y, hv, e _ _ h1, e _ _ h2, e _ _ h3, Has.mono e h4⟩
  | v, .cls C, h => h
theorem HasL.mono {new : List Addr} (e : Same F F') : ∀ {vs : List V} {ds : List D}, HasL Γ ms F vs ds → HasL Γ (ms ++ new) F' vs ds
  | vs, [], h => h
  | vs, d :: ds, ⟨w, ws, hv, h1, h2⟩ => ⟨w, ws, hv, Has.mono e h1, HasL.mono e h2⟩
end
theorem HasL.length : ∀ {vs : List V} {ds : List D}, HasL Γ ms F vs ds → vs.length = ds.length
  | _, [], h => by cases h; rfl
  | _, d :: ds, ⟨w, ws, hv, h1, h2⟩ => by subst hv; simp [HasL.length h2]
theorem HasL.get : ∀ {vs : List V} {ds : List D} {i : Nat} {d : D}, HasL Γ ms F vs ds → ds[i]? = some d → ∃ v, vs[i]? = some v ∧ Has Γ ms F v d
  | _, [], i, d, h, e => by simp at e
  | _, d0 :: ds, 0, d, ⟨w, ws, hv, h1, h2⟩, e => by
    subst hv
    simp at e; subst e
    exact ⟨w, rfl, h1⟩
  | _, d0 :: ds, i + 1, d, ⟨w, ws, hv, h1, h2⟩, e => by
    subst hv
    obtain ⟨v, e1, e2⟩ := HasL.get (i := i) h2 (by simpa using e)
    exact ⟨v, by simpa using e1, e2⟩
theorem HasL.getV {vs : List V} {ds : List D} {i : Nat} {v : V} (h : HasL Γ ms F vs ds) (e : vs[i]? = some v) : ∃ d, ds[i]? = some d ∧ Has Γ ms F v d := by
  have h1 := (List.getElem?_eq_some_iff.mp e).1
  have h2 : i < ds.length := by rw [← h.length]; exact h1
  obtain ⟨v', e', q⟩ := h.get (i := i) (d := ds[i]) (List.getElem?_eq_getElem h2)
  rw [e] at e'; cases e'
  exact ⟨ds[i], List.getElem?_eq_getElem h2, q⟩
theorem HasL.append : ∀ {vs ws : List V} {ds es : List D}, HasL Γ ms F vs ds → HasL Γ ms F ws es → HasL Γ ms F (vs ++ ws) (ds ++ es)
  | _, ws, [], es, h, q => by cases h; exact q
  | _, ws, d :: ds, es, ⟨w, t, hv, h1, h2⟩, q => by subst hv; exact ⟨w, t ++ ws, rfl, h1, HasL.append h2 q⟩
theorem HasL.one {v : V} {d : D} (h : Has Γ ms F v d) : HasL Γ ms F [v] [d] := ⟨v, [], rfl, h, rfl⟩
theorem HasL.take : ∀ {vs : List V} {ds : List D} (n : Nat), HasL Γ ms F vs ds → HasL Γ ms F (vs.take n) (ds.take n)
  | vs, ds, 0, _ => by simp [HasL]
  | _, [], n + 1, h => by cases h; simp [HasL]
  | _, d :: ds, n + 1, ⟨w, t, hv, h1, h2⟩ => by subst hv; exact ⟨w, t.take n, by simp, h1, HasL.take n h2⟩
theorem HasL.drop : ∀ {vs : List V} {ds : List D} (n : Nat), HasL Γ ms F vs ds → HasL Γ ms F (vs.drop n) (ds.drop n)
  | vs, ds, 0, h => by simpa using h
  | _, [], n + 1, h => by cases h; simp [HasL]
  | _, d :: ds, n + 1, ⟨w, t, hv, h1, h2⟩ => by subst hv; exact HasL.drop n h2
theorem HasL.set {v : V} {d : D} (q : Has Γ ms F v d) : ∀ {vs : List V} {ds : List D} (n : Nat), HasL Γ ms F vs ds → HasL Γ ms F (vs.set n v) (ds.set n d)
  | _, [], n, h => by cases h; simp [HasL]
  | _, d :: ds, 0, ⟨w, t, hv, h1, h2⟩ => by subst hv; exact ⟨_, _, rfl, q, h2⟩
  | _, d :: ds, n + 1, ⟨w, t, hv, h1, h2⟩ => by subst hv; exact ⟨_, _, rfl, h1, HasL.set q n h2⟩
theorem HasL.rev : ∀ {vs : List V} {ds : List D}, HasL Γ ms F vs ds → HasL Γ ms F vs.reverse ds.reverse
  | _, [], h => by cases h; simp [HasL]
  | _, d :: ds, ⟨w, t, hv, h1, h2⟩ => by
    subst hv
    rw [List.reverse_cons, List.reverse_cons]
    exact (HasL.rev h2).append (HasL.one h1)
end

/-! ### mutable objects -/
inductive MO where
  | lst (xs : List D) | dct (ks : List Key) (xs : List D) | ins (C : Nat) (ns : List Str) (xs : List D) | dead
def MOk (Γ : Gm) (ms : List Addr) (F H : Hp) (a : Addr) : MO → Prop
  | .lst ds => ∃ xs, H a = some (.lst xs) ∧ HasL Γ ms F xs ds
  | .dct ks ds => ∃ xs, H a = some (.dK (ks.zip xs)) ∧ ks.length = xs.length ∧ HasL Γ ms F xs ds
  | .ins C ns ds => ∃ dx xs, H a = some (.ins (Γ.cl C) dx (ns.zip xs)) ∧ ns.length = xs.length ∧ HasL Γ ms F xs ds
  | .dead => ∃ o, H a = some o
theorem MOk.ex {Γ : Gm} {ms : List Addr} {F H : Hp} {a : Addr} : ∀ {o : MO}, MOk Γ ms F H a o → ∃ u, H a = some u
  | .lst _, ⟨_, h, _⟩ => ⟨_, h⟩
  | .dct _ _, ⟨_, h, _⟩ => ⟨_, h⟩
  | .ins _ _ _, ⟨_, _, h, _⟩ => ⟨_, h⟩
  | .dead, h => h
theorem MOk.mono {Γ : Gm} {ms new : List Addr} {F F' H H' : Hp} {a : Addr} (e : Same F F') (k : ∀ o, H a = some o → H' a = some o) : ∀ {o : MO}, MOk Γ ms F H a o → MOk Γ (ms ++ new) F' H' a o
  | .lst _, ⟨_, h, q⟩ => ⟨_, k _ h, q.mono e⟩
  | .dct _ _, ⟨_, h, n, q⟩ => ⟨_, k _ h, n, q.mono e⟩
  | .ins _ _ _, ⟨_, _, h, n, q⟩ => ⟨_, _, k _ h, n, q.mono e⟩
  | .dead, ⟨_, h⟩ => ⟨_, k _ h⟩
/-- the heap: what is frozen (F), and the mutable objects at ms -/
structure HR (Γ : Gm) (ms : List Addr) (F H : Hp) (μ : List MO) : Prop where
  sub : Same F H
  out : ∀ b ∈ ms, F b = none
  len : ms.length = μ.length
  nd : ms.Nodup
  obj : ∀ (k : Nat) (o : MO), μ[k]? = some o → ∃ a, ms[k]? = some a ∧ MOk Γ ms F H a o
theorem MOk.xp {K : PySem.W.Frag} {cl : Nat → Addr} {x y : Option (Addr × Obj)} {ms : List Addr} {F H : Hp} {a : Addr} : ∀ {o : MO}, MOk ⟨K, cl, x⟩ ms F H a o → MOk ⟨K, cl, y⟩ ms F H a o
  | .lst _, ⟨_, h, q⟩ => ⟨_, h, q.xp⟩
  | .dct _ _, ⟨_, h, n, q⟩ => ⟨_, h, n, q.xp⟩
  | .ins _ _ _, ⟨_, _, h, n, q⟩ => ⟨_, _, h, n, q.xp⟩
  | .dead, h => h
theorem HR.xp {K : PySem.W.Frag} {cl : Nat → Addr} {x y : Option (Addr × Obj)} {ms : List Addr} {F H : Hp} {μ : List MO} (h : HR ⟨K, cl, x⟩ ms F H μ) : HR ⟨K, cl, y⟩ ms F H μ :=
  ⟨h.sub, h.out, h.len, h.nd, fun k o e => let ⟨a, e1, m⟩ := h.obj k o e; ⟨a, e1, m.xp⟩⟩
structure Stp (ms ms' : List Addr) (F F' H H' : Hp) : Prop where
  new : ∃ new, ms' = ms ++ new ∧ ∀ b ∈ new, H b = none
  keep : ∀ b o, H b = some o → b ∉ ms → H' b = some o
  fsub : Same F F'
  fnew : ∀ b, F b = none → H b ≠ none → F' b = none
theorem Stp.refl (ms : List Addr) (F H : Hp) : Stp ms ms F F H H := ⟨⟨[], by simp, by simp⟩, fun _ _ h _ => h, Same.refl _, fun _ h _ => h⟩
theorem Stp.trans {m1 m2 m3 : List Addr} {F1 F2 F3 H1 H2 H3 : Hp} (a : Stp m1 m2 F1 F2 H1 H2) (b : Stp m2 m3 F2 F3 H2 H3) (live : ∀ b ∈ m1, H2 b ≠ none) : Stp m1 m3 F1 F3 H1 H3 := by
  obtain ⟨n1, e1, f1⟩ := a.new
  obtain ⟨n2, e2, f2⟩ := b.new
  subst e1; subst e2
  refine ⟨⟨n1 ++ n2, by simp, fun c hc => ?_⟩, fun c o h hn => ?_, a.fsub.trans b.fsub, fun c h hn => ?_⟩
  · rcases List.mem_append.mp hc with h | h
    · exact f1 c h
    · have q := f2 c h
      cases z : H1 c with
      | none => rfl
      | some o =>
        by_cases hm : c ∈ m1
        · exact absurd q (live c hm)
        · rw [a.keep c o z hm] at q; cases q
  · refine b.keep c o (a.keep c o h hn) fun z => ?_
    rcases List.mem_append.mp z with z | z
    · exact hn z
    · rw [f1 c z] at h; cases h
  · refine b.fnew c (a.fnew c h hn) ?_
    by_cases hm : c ∈ m1
    · exact live c hm
    · cases z : H1 c with
      | none => exact absurd z hn
      | some o => rw [a.keep c o z hm]; exact fun q => nomatch q
theorem HR.live {Γ : Gm} {ms : List Addr} {F H : Hp} {μ : List MO} (h : HR Γ ms F H μ) : ∀ b ∈ ms, H b ≠ none := by
  intro b hb
  obtain ⟨k, hk, e⟩ := List.getElem_of_mem hb
  have hk' : k < μ.length := by rw [← h.len]; exact hk
  obtain ⟨a, ea, m⟩ := h.obj k μ[k] (List.getElem?_eq_getElem hk')
  rw [List.getElem?_eq_getElem hk] at ea
  cases ea
  obtain ⟨u, hu⟩ := m.ex
  rw [← e, hu]
  exact fun q => nomatch q
/-- a new object, frozen at once -/
theorem HR.alloc {Γ : Gm} {ms : List Addr} {F H : Hp} {μ : List MO} {p : Addr} (h : HR Γ ms F H μ) (hp : H p = none) (o : HO) : HR Γ ms (upd F p o) (upd H p o) μ ∧ Stp ms ms F (upd F p o) H (upd H p o) := by
  have hF : F p = none := h.sub.free hp
  have sF : Same F (upd F p o) := fun b u e => by rw [upd_ne (ne_of_none e hF)]; exact e
  have sH : ∀ b u, H b = some u → upd H p o b = some u := fun b u e => by rw [upd_ne (ne_of_none e hp)]; exact e
  refine ⟨⟨fun b u e => ?_, fun b hb => ?_, h.len, h.nd, fun k u e => ?_⟩, ⟨⟨[], by simp, by simp⟩, fun b u e _ => sH b u e, sF, fun b e hn => ?_⟩⟩
  · by_cases hb : b = p
    · subst hb; rw [upd_same] at e ⊢; exact e
    · rw [upd_ne hb] at e ⊢; exact h.sub b u e
  · have hne : b ≠ p := fun z => h.live b hb (by rw [z]; exact hp)
    rw [upd_ne hne]; exact h.out b hb
  · obtain ⟨a, ea, m⟩ := h.obj k u e
    have m' := m.mono (new := []) sF (sH a)
    rw [List.append_nil] at m'
    exact ⟨a, ea, m'⟩
  · have hne : b ≠ p := fun z => hn (by rw [z]; exact hp)
    rw [upd_ne hne]; exact e
/-- a new object, mutable -/
theorem HR.push {Γ : Gm} {ms : List Addr} {F H : Hp} {μ : List MO} {p : Addr} (h : HR Γ ms F H μ) (hp : H p = none) {o : HO} {u : MO} (m : MOk Γ (ms ++ [p]) F (upd H p o) p u) :
    HR Γ (ms ++ [p]) F (upd H p o) (μ ++ [u]) ∧ Stp ms (ms ++ [p]) F F H (upd H p o) := by
  have hF : F p = none := h.sub.free hp
  have sH : ∀ b u, H b = some u → upd H p o b = some u := fun b u e => by rw [upd_ne (ne_of_none e hp)]; exact e
  refine ⟨⟨fun b u e => sH b u (h.sub b u e), fun b hb => ?_, by simp [h.len], ?_, fun k u' e => ?_⟩, ⟨⟨[p], rfl, fun b hb => by simp at hb; subst hb; exact hp⟩, fun b u e _ => sH b u e, Same.refl _, fun b e _ => e⟩⟩
  · rcases List.mem_append.mp hb with hb | hb
    · exact h.out b hb
    · simp at hb; subst hb; exact hF
  · refine List.nodup_append.mpr ⟨h.nd, by simp, fun b hb c hc => ?_⟩
    simp at hc; subst hc
    intro z; subst z
    exact h.live _ hb hp
  · by_cases hk : k < μ.length
    · rw [List.getElem?_append_left hk] at e
      obtain ⟨a, ea, m'⟩ := h.obj k u' e
      exact ⟨a, getP ea, m'.mono (Same.refl _) (sH a)⟩
    · have hk2 := (List.getElem?_eq_some_iff.mp e).1
      simp at hk2
      have : k = μ.length := by omega
      subst this
      simp at e; subst e
      refine ⟨p, ?_, m⟩
      rw [← h.len]; simp
/-- a mutable object changes -/
theorem HR.write {Γ : Gm} {ms : List Addr} {F H : Hp} {μ : List MO} {k : Nat} {a : Addr} (h : HR Γ ms F H μ) (ha : ms[k]? = some a) {o : HO} {u : MO} (m : MOk Γ ms F (upd H a o) a u) :
    HR Γ ms F (upd H a o) (μ.set k u) ∧ Stp ms ms F F H (upd H a o) := by
  have hm : a ∈ ms := List.mem_of_getElem? ha
  refine ⟨⟨fun b u e => ?_, h.out, by simp [h.len], h.nd, fun j u' e => ?_⟩, ⟨⟨[], by simp, by simp⟩, fun b u e hn => ?_, Same.refl _, fun b e _ => e⟩⟩
  · have hne : b ≠ a := fun z => by rw [z, h.out a hm] at e; cases e
    rw [upd_ne hne]; exact h.sub b u e
  · by_cases hj : j = k
    · subst hj
      have hk : j < μ.length := by rw [← h.len]; exact (List.getElem?_eq_some_iff.mp ha).1
      rw [List.getElem?_set_self hk] at e; cases e
      exact ⟨a, ha, m⟩
    · rw [List.getElem?_set_ne (Ne.symm hj)] at e
      obtain ⟨b, eb, m'⟩ := h.obj j u' e
      have hne : b ≠ a := fun z => by subst z; exact hj (nodup_ix' h.nd eb ha)
      have m2 := m'.mono (new := []) (H' := upd H a o) (Same.refl F) (fun o' q => by rw [upd_ne hne]; exact q)
      rw [List.append_nil] at m2
      exact ⟨b, eb, m2⟩
  · have hne : b ≠ a := fun z => hn (z ▸ hm)
    rw [upd_ne hne]; exact e
where nodup_ix' {ms : List Addr} (hN : ms.Nodup) {i j : Nat} {x : Addr} (a : ms[i]? = some x) (b : ms[j]? = some x) : i = j := nd_ix hN a b
end G

set_option Elab.async false
set_option linter.all false
set_option autoImplicit false
set_option maxRecDepth 100000
set_option maxHeartbeats 2000000
namespace G
open PySem PySem.Spec L2

/-! ### the def's own names -/
inductive SV where
  | no | d (x : D) | own (xs : List D) | xv (C : Nat) (f : Str) (x : D)
def SOk (Γ : Gm) (H0 : Hp) (ms : List Addr) (F H : Hp) (v : Option (Option V)) : SV → Prop
  | .no => True
  | .d x => ∃ u, v = some (some u) ∧ Has Γ ms F u x
  | .own ds => ∃ a xs, v = some (some (.ref a)) ∧ H a = some (.lst xs) ∧ HasL Γ ms F xs ds ∧ F a = none ∧ a ∉ ms ∧ H0 a = none
  | .xv C f x => ∃ a oe dx y, Γ.xp = some (a, oe) ∧ v = some (some (.ref a)) ∧ (Zc (.ref (Γ.cl C)) (some dx) oe ∧ ∃ vs, oe.data = .fields vs) ∧ F dx = some (exd dx [(f, y)]) ∧ Has Γ ms F y x
structure ER (Γ : Gm) (H0 : Hp) (ms : List Addr) (F H : Hp) (σ : St) (δ : List SV) : Prop where
  len : σ.length = δ.length
  ok : ∀ (i : Nat) (sv : SV), δ[i]? = some sv → SOk Γ H0 ms F H σ[i]? sv
  inj : ∀ (i j : Nat) (a : Addr) (ds es : List D), δ[i]? = some (.own ds) → δ[j]? = some (.own es) → σ[i]? = some (some (.ref a)) → σ[j]? = some (some (.ref a)) → i = j
structure Og where
  ms : List Addr
  F : Hp
  H : Hp
structure SR (Γ : Gm) (O : Og) (ms : List Addr) (F H : Hp) (σ : St) (δ : List SV) (μ : List MO) : Prop where
  hr : HR Γ ms F H μ
  er : ER Γ O.H ms F H σ δ
  st : Stp O.ms ms O.F F O.H H
section
variable {Γ : Gm} {O : Og} {ms ms' : List Addr} {F F' H H' H0 : Hp} {σ : St} {δ : List SV} {μ μ' : List MO}
theorem SOk.step {v : Option (Option V)} (s : Stp ms ms' F F' H H') : ∀ {sv : SV}, SOk Γ H0 ms F H v sv → SOk Γ H0 ms' F' H' v sv := by
  obtain ⟨new, rfl, fr⟩ := s.new
  intro sv h
  cases sv with
  | no => trivial
  | d x => obtain ⟨u, e, q⟩ := h; exact ⟨u, e, q.mono s.fsub⟩
  | xv C f x => obtain ⟨a, oe, dx, y, e1, e2, e3, e4, q⟩ := h; exact ⟨a, oe, dx, y, e1, e2, e3, s.fsub _ _ e4, q.mono s.fsub⟩
  | own ds =>
    obtain ⟨a, xs, e, ha, hl, hF, hm, h0⟩ := h
    have hn : a ∉ ms ++ new := fun z => by
      rcases List.mem_append.mp z with z | z
      · exact hm z
      · rw [fr a z] at ha; cases ha
    exact ⟨a, xs, e, s.keep a _ ha hm, hl.mono s.fsub, s.fnew a hF (by rw [ha]; exact fun q => nomatch q), hn, h0⟩
theorem ER.step (s : Stp ms ms' F F' H H') (h : ER Γ H0 ms F H σ δ) : ER Γ H0 ms' F' H' σ δ := ⟨h.len, fun i sv e => (h.ok i sv e).step s, h.inj⟩
theorem SR.step (h : SR Γ O ms F H σ δ μ) (r : HR Γ ms' F' H' μ') (s : Stp ms ms' F F' H H') : SR Γ O ms' F' H' σ δ μ' := by
  refine ⟨r, h.er.step s, h.st.trans s fun b hb => ?_⟩
  obtain ⟨new, e, _⟩ := h.st.new
  exact h.hr.live b (by rw [e]; exact List.mem_append_left _ hb)
theorem Has.step {v : V} {d : D} (h : Has Γ ms F v d) (s : Stp ms ms' F F' H H') : Has Γ ms' F' v d := by
  obtain ⟨new, rfl, fr⟩ := s.new
  exact h.mono s.fsub
theorem HasL.step {vs : List V} {ds : List D} (h : HasL Γ ms F vs ds) (s : Stp ms ms' F F' H H') : HasL Γ ms' F' vs ds := by
  obtain ⟨new, rfl, fr⟩ := s.new
  exact h.mono s.fsub
theorem Stp.trans' (a : Stp ms ms' F F' H H') {ms2 : List Addr} {F2 H2 : Hp} {μ1 : List MO} (r : HR Γ ms' F' H' μ1) (b : Stp ms' ms2 F' F2 H' H2) : Stp ms ms2 F F2 H H2 :=
  a.trans b fun c hc => r.live c (by obtain ⟨new, e, _⟩ := a.new; rw [e]; exact List.mem_append_left _ hc)
end

/-! ### expressions -/
abbrev EF := List SV → List MO → Option (D × List MO)
abbrev TF := List SV → List MO → Option (Bool × List MO)
abbrev AF := List SV → List MO → Option (List D × List MO)
/-- behind an expression -/
def Fin1 (Γ : Gm) (ms : List Addr) (F H : Hp) (d : D) (μ' : List MO) (Q : VK) : Prop :=
  ∀ v H' ms' F', HR Γ ms' F' H' μ' → Stp ms ms' F F' H H' → Has Γ ms' F' v d → Q v H'
def tE (Γ : Gm) (f : EF) : TE := fun σ H Q => ∃ O ms F δ μ d μ', SR Γ O ms F H σ δ μ ∧ f δ μ = some (d, μ') ∧ Fin1 Γ ms F H d μ' Q
def tT (Γ : Gm) (f : TF) : TT := fun σ H Q => ∃ O ms F δ μ d μ', SR Γ O ms F H σ δ μ ∧ f δ μ = some (d, μ') ∧
  ∀ H' ms' F', HR Γ ms' F' H' μ' → Stp ms ms' F F' H H' → Q d H'
def tA (Γ : Gm) (f : AF) : TA := fun σ H Q => ∃ O ms F δ μ d μ', SR Γ O ms F H σ δ μ ∧ f δ μ = some (d, μ') ∧
  ∀ vs H' ms' F', HR Γ ms' F' H' μ' → Stp ms ms' F F' H H' → HasL Γ ms' F' vs d → Q vs H'
/-- a list or a tuple, as it stands just now -/
inductive SK where
  | l | t
def SeqV (K : PySem.W.Frag) (H : Hp) (a : Addr) : SK → List V → Prop
  | .l, xs => H a = some (.lst xs)
  | .t, xs => Tp K H a xs
abbrev SF := List SV → List MO → Option ((SK × List D) × List MO)
def tQ (Γ : Gm) (f : SF) : TE := fun σ H Q => ∃ O ms F δ μ d μ', SR Γ O ms F H σ δ μ ∧ f δ μ = some (d, μ') ∧
  ∀ a xs H' ms' F', HR Γ ms' F' H' μ' → Stp ms ms' F F' H H' → SeqV Γ.K H' a d.1 xs → HasL Γ ms' F' xs d.2 → Q (.ref a) H'
abbrev gk (K : PySem.W.Frag) (cl : Nat → Addr) : Gm := ⟨K, cl, none⟩
abbrev gm (X : Cx) (cl : Nat → Addr) : Gm := ⟨X.K, cl, bif X.calm then none else X.pn.head?⟩
structure DE (X : Cx) (cl : Nat → Addr) (e : Expr) (f : EF) : Prop where
  p : PE X e (tE (gm X cl) f)
structure DT (X : Cx) (cl : Nat → Addr) (e : Expr) (f : TF) : Prop where
  p : PT X e (tT (gm X cl) f)
structure DW (X : Cx) (cl : Nat → Addr) (e : Expr) (f : TF) : Prop where
  p : PW X e (tT (gm X cl) f)
structure DA (X : Cx) (cl : Nat → Addr) (es : List Expr) (f : AF) : Prop where
  p : PA X es (tA (gm X cl) f)
structure DQ (X : Cx) (cl : Nat → Addr) (e : Expr) (f : SF) : Prop where
  p : PE X e (tQ (gm X cl) f)
section
variable {X : Cx} {cl : Nat → Addr} {e a b c : Expr} {es : List Expr} {fa fb fc : EF} {pos : Pos}
theorem _root_.L2.PE.weak {t t' : TE} (h : PE X e t) (k : ∀ σ H Q, t' σ H Q → t σ H Q) : PE X e t' := ⟨fun pins s σ H Q I q => h.run pins s σ H Q I (k σ H Q q)⟩
theorem _root_.L2.PT.weak {t t' : TT} (h : PT X e t) (k : ∀ σ H Q, t' σ H Q → t σ H Q) : PT X e t' := ⟨fun pins s σ H Q I q => h.run pins s σ H Q I (k σ H Q q)⟩
theorem _root_.L2.PW.weak {t t' : TT} (h : PW X e t) (k : ∀ σ H Q, t' σ H Q → t σ H Q) : PW X e t' := ⟨fun w pins s σ H Q I q => h.run w pins s σ H Q I (k σ H Q q)⟩
theorem _root_.L2.PA.weak {t t' : TA} (h : PA X es t) (k : ∀ σ H Q, t' σ H Q → t σ H Q) : PA X es t' := ⟨fun pos pins s σ H Q I q => h.run pos pins s σ H Q I (k σ H Q q)⟩
def eVar (i : Nat) : EF := fun δ μ => match δ[i]? with
  | some (.d x) => some (x, μ)
  | _ => none
theorem de_var {i : Nat} (h : PE X e (tVar i)) : DE X cl e (eVar i) := ⟨h.weak fun σ H Q ⟨O, ms, F, δ, μ, d, μ', R, ev, k⟩ => by
  unfold eVar at ev
  cases hd : δ[i]? with
  | none => rw [hd] at ev; cases ev
  | some sv =>
    rw [hd] at ev
    cases sv with
    | no => cases ev
    | own _ => cases ev
    | xv _ _ _ => cases ev
    | d x =>
      cases ev
      obtain ⟨u, eu, q⟩ := R.er.ok i _ hd
      exact ⟨u, eu, k u H ms F R.hr (Stp.refl _ _ _) q⟩⟩
def eC (d : D) : EF := fun _ μ => some (d, μ)
theorem de_c {v : V} {d : D} (h : PE X e (tC v)) (q : ∀ ms F, Has (gm X cl) ms F v d) : DE X cl e (eC d) := ⟨h.weak fun σ H Q ⟨O, ms, F, δ, μ, d', μ', R, ev, k⟩ => by
  cases ev
  exact k v H ms F R.hr (Stp.refl _ _ _) (q ms F)⟩
theorem de_int {i j pos} : DE X cl (.Constant (.int i) j pos) (eC (.int i)) := de_c pe_int fun _ _ => rfl
theorem de_bl {i j pos} : DE X cl (.Constant (.bool i) j pos) (eC (.bl i)) := de_c pe_bl fun _ _ => rfl
theorem de_non {j pos} : DE X cl (.Constant .none j pos) (eC .non) := de_c pe_non fun _ _ => rfl
theorem de_str {x j pos} : DE X cl (.Constant (.str x) j pos) (eC (.str x)) := de_c pe_str fun _ _ => rfl
/-- in a row -/
def eThen (fa : EF) {β : Type} (k : D → List SV → List MO → Option (β × List MO)) : List SV → List MO → Option (β × List MO) := fun δ μ => match fa δ μ with
  | some (d, μ1) => k d δ μ1
  | none => none
theorem eThen_some {β : Type} {k : D → List SV → List MO → Option (β × List MO)} {δ : List SV} {μ : List MO} {r : β × List MO} (h : eThen fa k δ μ = some r) : ∃ d μ1, fa δ μ = some (d, μ1) ∧ k d δ μ1 = some r := by
  unfold eThen at h
  split at h
  · exact ⟨_, _, by assumption, h⟩
  · cases h
theorem tE.seq {Γ : Gm} {O : Og} {ms : List Addr} {F H : Hp} {σ : St} {δ : List SV} {μ μ1 : List MO} {d : D} {Q : VK} (R : SR Γ O ms F H σ δ μ) (e : fa δ μ = some (d, μ1))
    (k : ∀ v H1 ms1 F1, SR Γ O ms1 F1 H1 σ δ μ1 → Stp ms ms1 F F1 H H1 → Has Γ ms1 F1 v d → Q v H1) : tE Γ fa σ H Q :=
  ⟨O, ms, F, δ, μ, d, μ1, R, e, fun v H1 ms1 F1 r s q => k v H1 ms1 F1 (R.step r s) s q⟩
/-- the operator's own rules, one or the other by the values -/
theorem _root_.L2.OpR.any {f : Value → Value → Sem Value} : OpR X f (fun x y H Q => ∃ r, OpR X f r ∧ r x y H Q) := by
  intro pins s σ H x y v u Q I rx ry ⟨r, ho, h⟩
  exact ho pins s σ H x y v u Q I rx ry h
def OpD (X : Cx) (cl : Nat → Addr) (f : Value → Value → Sem Value) (g : D → D → List MO → Option (D × List MO)) : Prop :=
  ∀ ms F H μ x y dx dy d μ' Q, HR (gm X cl) ms F H μ → Has (gm X cl) ms F x dx → Has (gm X cl) ms F y dy → g dx dy μ = some (d, μ') → Fin1 (gm X cl) ms F H d μ' Q → ∃ r, OpR X f r ∧ r x y H Q
def eBin (g : D → D → List MO → Option (D × List MO)) (fa fb : EF) : EF := eThen fa fun x => eThen fb fun y _ μ => g x y μ
theorem opD_run {f : Value → Value → Sem Value} {g : D → D → List MO → Option (D × List MO)} (ho : OpD X cl f g) {σ : St} {H : Hp} {Q : VK} (h : tE (gm X cl) (eBin g fa fb) σ H Q) : tOp (fun x y H Q => ∃ r, OpR X f r ∧ r x y H Q) (tE (gm X cl) fa) (tE (gm X cl) fb) σ H Q := by
  obtain ⟨O, ms, F, δ, μ, d, μ', R, ev, k⟩ := h
  obtain ⟨dx, μ1, e1, ev⟩ := eThen_some ev
  obtain ⟨dy, μ2, e2, ev⟩ := eThen_some ev
  refine tE.seq R e1 fun x H1 ms1 F1 R1 s1 q1 => tE.seq R1 e2 fun y H2 ms2 F2 R2 s2 q2 => ?_
  exact ho ms2 F2 H2 μ2 x y dx dy d μ' Q R2.hr (q1.step s2) q2 ev fun v H' ms' F' r s q => k v H' ms' F' r ((s1.trans' R1.hr s2).trans' R2.hr s) q
theorem de_bin {op : Operator} {g : D → D → List MO → Option (D × List MO)} (ho : OpD X cl (binaryOp op) g) (ha : DE X cl a fa) (hb : DE X cl b fb) : DE X cl (.BinOp a op b pos) (eBin g fa fb) :=
  ⟨(pe_op OpR.any ha.p hb.p).weak fun σ H Q h => opD_run ho h⟩
theorem de_cmp {op : CmpOp} {g : D → D → List MO → Option (D × List MO)} (ho : OpD X cl (compareOp op) g) (ha : DE X cl a fa) (hb : DE X cl b fb) (hm : behindInMarks op b = false := by first | exact nomark _ | rfl) : DE X cl (.Compare a [op] [b] pos) (eBin g fa fb) :=
  ⟨(pe_cmpR OpR.any ha.p hb.p hm).weak fun σ H Q h => opD_run ho h⟩
/-- a test -/
def asB (f : EF) : TF := fun δ μ => match f δ μ with
  | some (.bl b, μ1) => some (b, μ1)
  | _ => none
theorem asB_some {f : EF} {δ : List SV} {μ : List MO} {b : Bool} {μ1 : List MO} (h : asB f δ μ = some (b, μ1)) : f δ μ = some (.bl b, μ1) := by
  unfold asB at h
  split at h
  · cases h; assumption
  · cases h
theorem dt_cmp {op : CmpOp} {g : D → D → List MO → Option (D × List MO)} (ho : OpD X cl (compareOp op) g) (ha : DE X cl a fa) (hb : DE X cl b fb) (hm : behindInMarks op b = false := by first | exact nomark _ | rfl) : DT X cl (.Compare a [op] [b] pos) (asB (eBin g fa fb)) :=
  ⟨(pt_cmpR OpR.any ha.p hb.p hm).weak fun σ H Q ⟨O, ms, F, δ, μ, d, μ', R, ev, k⟩ =>
    opD_run ho ⟨O, ms, F, δ, μ, .bl d, μ', R, asB_some ev, fun v H' ms' F' r s q => ⟨d, q, k H' ms' F' r s⟩⟩⟩
theorem dt_val {f : EF} (h : DE X cl e f) (he : ∀ whole, isTrue e X.env whole = (do let v ← whole; standAt e.pos; holding [v] (truthy v)) := by intro _; rfl) : DT X cl e (asB f) :=
  ⟨(pt_val h.p he).weak fun σ H Q ⟨O, ms, F, δ, μ, d, μ', R, ev, k⟩ => ⟨O, ms, F, δ, μ, .bl d, μ', R, asB_some ev, fun v H' ms' F' r s q => ⟨d, q, k H' ms' F' r s⟩⟩⟩
def tThen (fa : TF) {β : Type} (k : Bool → List SV → List MO → Option (β × List MO)) : List SV → List MO → Option (β × List MO) := fun δ μ => match fa δ μ with
  | some (d, μ1) => k d δ μ1
  | none => none
theorem tThen_some {fa : TF} {β : Type} {k : Bool → List SV → List MO → Option (β × List MO)} {δ : List SV} {μ : List MO} {r : β × List MO} (h : tThen fa k δ μ = some r) : ∃ d μ1, fa δ μ = some (d, μ1) ∧ k d δ μ1 = some r := by
  unfold tThen at h
  split at h
  · exact ⟨_, _, by assumption, h⟩
  · cases h
theorem tT.seq {fa : TF} {Γ : Gm} {O : Og} {ms : List Addr} {F H : Hp} {σ : St} {δ : List SV} {μ μ1 : List MO} {d : Bool} {Q : Bool → Hp → Prop} (R : SR Γ O ms F H σ δ μ) (e : fa δ μ = some (d, μ1))
    (k : ∀ H1 ms1 F1, SR Γ O ms1 F1 H1 σ δ μ1 → Stp ms ms1 F F1 H H1 → Q d H1) : tT Γ fa σ H Q :=
  ⟨O, ms, F, δ, μ, d, μ1, R, e, fun H1 ms1 F1 r s => k H1 ms1 F1 (R.step r s) s⟩
def tfNot (f : TF) : TF := tThen f fun b _ μ => some (!b, μ)
def tfAnd (f g : TF) : TF := tThen f fun b δ μ => if b = true then g δ μ else some (false, μ)
def tfOr (f g : TF) : TF := tThen f fun b δ μ => if b = true then some (true, μ) else g δ μ
variable {ta tb : TF} {rest : List Expr}
theorem dt_not (ha : DT X cl a ta) : DT X cl (.UnaryOp .Not a pos) (tfNot ta) := ⟨(pt_not ha.p).weak fun σ H Q ⟨O, ms, F, δ, μ, d, μ', R, ev, k⟩ => by
  obtain ⟨d1, μ1, e1, ev⟩ := tThen_some ev
  cases ev
  exact tT.seq R e1 fun H1 ms1 F1 R1 s1 => k H1 ms1 F1 R1.hr s1⟩
theorem dw_and1 (ha : DT X cl a ta) : DW X cl (.BoolOp .And [a] pos) ta := ⟨pw_and1 ha.p⟩
theorem dw_or1 (ha : DT X cl a ta) : DW X cl (.BoolOp .Or [a] pos) ta := ⟨pw_or1 ha.p⟩
theorem dw_and (ha : DT X cl a ta) (hb : DW X cl (.BoolOp .And (b :: rest) pos) tb) : DW X cl (.BoolOp .And (a :: b :: rest) pos) (tfAnd ta tb) := ⟨(pw_and ha.p hb.p).weak fun σ H Q ⟨O, ms, F, δ, μ, d, μ', R, ev, k⟩ => by
  obtain ⟨d1, μ1, e1, ev⟩ := tThen_some ev
  refine tT.seq R e1 fun H1 ms1 F1 R1 s1 => ?_
  cases d1 with
  | false => cases ev; exact k H1 ms1 F1 R1.hr s1
  | true => exact tT.seq R1 ev fun H2 ms2 F2 R2 s2 => k H2 ms2 F2 R2.hr (s1.trans' R1.hr s2)⟩
theorem dw_or (ha : DT X cl a ta) (hb : DW X cl (.BoolOp .Or (b :: rest) pos) tb) : DW X cl (.BoolOp .Or (a :: b :: rest) pos) (tfOr ta tb) := ⟨(pw_or ha.p hb.p).weak fun σ H Q ⟨O, ms, F, δ, μ, d, μ', R, ev, k⟩ => by
  obtain ⟨d1, μ1, e1, ev⟩ := tThen_some ev
  refine tT.seq R e1 fun H1 ms1 F1 R1 s1 => ?_
  cases d1 with
  | true => cases ev; exact k H1 ms1 F1 R1.hr s1
  | false => exact tT.seq R1 ev fun H2 ms2 F2 R2 s2 => k H2 ms2 F2 R2.hr (s1.trans' R1.hr s2)⟩
theorem dt_w (h : DW X cl a ta) : DT X cl a ta := ⟨h.p.pt⟩
def eIf (t : TF) (fa fb : EF) : EF := tThen t fun c δ μ => if c = true then fa δ μ else fb δ μ
theorem de_if (hc : DT X cl c ta) (ha : DE X cl a fa) (hb : DE X cl b fb) : DE X cl (.IfExp c a b pos) (eIf ta fa fb) := ⟨(pe_ifExp hc.p ha.p hb.p).weak fun σ H Q ⟨O, ms, F, δ, μ, d, μ', R, ev, k⟩ => by
  obtain ⟨d1, μ1, e1, ev⟩ := tThen_some ev
  refine tT.seq R e1 fun H1 ms1 F1 R1 s1 => ?_
  cases d1 with
  | true => exact tE.seq R1 ev fun v H2 ms2 F2 R2 s2 q => k v H2 ms2 F2 R2.hr (s1.trans' R1.hr s2) q
  | false => exact tE.seq R1 ev fun v H2 ms2 F2 R2 s2 q => k v H2 ms2 F2 R2.hr (s1.trans' R1.hr s2) q⟩
/-- a boolean and, or as a value: all but the last are truths -/
def eAndV (fa fb : EF) : EF := eThen fa fun x δ μ => match x with
  | .bl true => fb δ μ
  | .bl false => some (.bl false, μ)
  | _ => none
def eOrV (fa fb : EF) : EF := eThen fa fun x δ μ => match x with
  | .bl false => fb δ μ
  | .bl true => some (.bl true, μ)
  | _ => none
def eNotV (fa : EF) : EF := eThen fa fun x _ μ => match x with
  | .bl b => some (.bl (!b), μ)
  | _ => none
theorem de_one {op} (h : DE X cl a fa) : DE X cl (.BoolOp op [a] pos) fa := ⟨pe_one h.p⟩
theorem de_and (ha : DE X cl a fa) (hb : DE X cl (.BoolOp .And (b :: rest) pos) fb) : DE X cl (.BoolOp .And (a :: b :: rest) pos) (eAndV fa fb) := ⟨(pe_and ha.p hb.p).weak fun σ H Q ⟨O, ms, F, δ, μ, d, μ', R, ev, k⟩ => by
  obtain ⟨d1, μ1, e1, ev⟩ := eThen_some ev
  refine tE.seq R e1 fun v H1 ms1 F1 R1 s1 q1 => ?_
  split at ev
  · exact ⟨true, q1, by rw [if_pos rfl]; exact tE.seq R1 ev fun v H2 ms2 F2 R2 s2 q => k v H2 ms2 F2 R2.hr (s1.trans' R1.hr s2) q⟩
  · cases ev; exact ⟨false, q1, by rw [if_neg Bool.false_ne_true]; exact k _ H1 ms1 F1 R1.hr s1 rfl⟩
  · cases ev⟩
theorem de_or (ha : DE X cl a fa) (hb : DE X cl (.BoolOp .Or (b :: rest) pos) fb) : DE X cl (.BoolOp .Or (a :: b :: rest) pos) (eOrV fa fb) := ⟨(pe_or ha.p hb.p).weak fun σ H Q ⟨O, ms, F, δ, μ, d, μ', R, ev, k⟩ => by
  obtain ⟨d1, μ1, e1, ev⟩ := eThen_some ev
  refine tE.seq R e1 fun v H1 ms1 F1 R1 s1 q1 => ?_
  split at ev
  · exact ⟨false, q1, by rw [if_neg Bool.false_ne_true]; exact tE.seq R1 ev fun v H2 ms2 F2 R2 s2 q => k v H2 ms2 F2 R2.hr (s1.trans' R1.hr s2) q⟩
  · cases ev; exact ⟨true, q1, by rw [if_pos rfl]; exact k _ H1 ms1 F1 R1.hr s1 rfl⟩
  · cases ev⟩
theorem de_not (ha : DE X cl a fa) : DE X cl (.UnaryOp .Not a pos) (eNotV fa) := ⟨(pe_not ha.p).weak fun σ H Q ⟨O, ms, F, δ, μ, d, μ', R, ev, k⟩ => by
  obtain ⟨d1, μ1, e1, ev⟩ := eThen_some ev
  refine tE.seq R e1 fun v H1 ms1 F1 R1 s1 q1 => ?_
  split at ev
  · cases ev; exact ⟨_, q1, k _ H1 ms1 F1 R1.hr s1 rfl⟩
  · cases ev⟩

/-! ### argument lists, displays -/
def aNil : AF := fun _ μ => some ([], μ)
def aCons (f : EF) (r : AF) : AF := eThen f fun x δ μ => match r δ μ with
  | some (xs, μ1) => some (x :: xs, μ1)
  | none => none
variable {r : AF} {f : EF}
theorem da_nil : DA X cl [] aNil := ⟨pa_nil.weak fun σ H Q ⟨O, ms, F, δ, μ, d, μ', R, ev, k⟩ => by cases ev; exact k [] H ms F R.hr (Stp.refl _ _ _) rfl⟩
theorem da_cons (ha : DE X cl e f) (hr : DA X cl es r) (hs : starEach (e :: es) X.env = (false, eval e X.env) :: starEach es X.env := by rfl) : DA X cl (e :: es) (aCons f r) := ⟨(pa_cons ha.p hr.p hs).weak fun σ H Q ⟨O, ms, F, δ, μ, d, μ', R, ev, k⟩ => by
  obtain ⟨d1, μ1, e1, ev⟩ := eThen_some ev
  refine tE.seq R e1 fun v H1 ms1 F1 R1 s1 q1 => ?_
  split at ev
  · rename_i xs μ2 e2
    cases ev
    exact ⟨O, ms1, F1, δ, μ1, xs, _, R1, e2, fun vs H2 ms2 F2 r2 s2 q2 => k (v :: vs) H2 ms2 F2 r2 (s1.trans' R1.hr s2) ⟨v, vs, rfl, q1.step s2, q2⟩⟩
  · cases ev⟩
theorem Fin1.lst {Γ : Gm} {ms : List Addr} {F H : Hp} {ds : List D} {μ : List MO} {Q : VK} {vs : List V} {p : Addr} (h : Fin1 Γ ms F H (.lst ds) μ Q) (r : HR Γ ms F H μ) (q : HasL Γ ms F vs ds) (hp : H p = none) : Q (.ref p) (upd H p (.lst vs)) := by
  obtain ⟨r', s⟩ := r.alloc hp (.lst vs)
  exact h _ _ ms _ r' s ⟨p, vs, rfl, upd_same, q.step s⟩
theorem Fin1.tup {Γ : Gm} {ms : List Addr} {F H : Hp} {ds : List D} {μ : List MO} {Q : VK} {vs : List V} {p : Addr} (h : Fin1 Γ ms F H (.tup ds) μ Q) (r : HR Γ ms F H μ) (q : HasL Γ ms F vs ds) (hp : H p = none) : Q (.ref p) (upd H p (.tup vs)) := by
  obtain ⟨r', s⟩ := r.alloc hp (.tup vs)
  exact h _ _ ms _ r' s ⟨p, vs, rfl, Tp.of upd_same, q.step s⟩
/-- a list that may change -/
theorem Fin1.mut {Γ : Gm} {ms : List Addr} {F H : Hp} {ds : List D} {μ : List MO} {Q : VK} {vs : List V} {p : Addr} (h : Fin1 Γ ms F H (.mut μ.length) (μ ++ [.lst ds]) Q) (r : HR Γ ms F H μ) (q : HasL Γ ms F vs ds) (hp : H p = none) : Q (.ref p) (upd H p (.lst vs)) := by
  obtain ⟨r', s⟩ := r.push (u := .lst ds) hp ⟨vs, upd_same, q.mono (Same.refl _)⟩
  exact h _ _ _ _ r' s ⟨p, rfl, by rw [← r.len]; simp⟩
def eLst (r : AF) : EF := fun δ μ => match r δ μ with
  | some (xs, μ1) => if xs.length ≤ 1000000 then some (.lst xs, μ1) else none
  | none => none
def eTup (r : AF) : EF := fun δ μ => match r δ μ with
  | some (xs, μ1) => if xs.length ≤ 1000000 then some (.tup xs, μ1) else none
  | none => none
def eLstM (r : AF) : EF := fun δ μ => match r δ μ with
  | some (xs, μ1) => if xs.length ≤ 1000000 then some (.mut μ1.length, μ1 ++ [.lst xs]) else none
  | none => none
theorem million {n : Nat} (h : n ≤ 1000000) : n ≤ sizeLine := by rw [sizeLine_eq]; omega
theorem de_lst (h : DA X cl es r) : DE X cl (.List es pos) (eLst r) := ⟨(pe_lst h.p).weak fun σ H Q ⟨O, ms, F, δ, μ, d, μ', R, ev, k⟩ => by
  unfold eLst at ev
  split at ev
  · rename_i xs μ1 e1
    split at ev
    · rename_i hz
      cases ev
      refine ⟨O, ms, F, δ, μ, xs, _, R, e1, fun vs H1 ms1 F1 r1 s1 q1 => ⟨by rw [q1.length]; exact million hz, fun p hp => ?_⟩⟩
      exact Fin1.lst (fun v H' ms' F' r s q => k v H' ms' F' r (s1.trans' r1 s) q) r1 q1 hp
    · cases ev
  · cases ev⟩
theorem de_lstM (h : DA X cl es r) : DE X cl (.List es pos) (eLstM r) := ⟨(pe_lst h.p).weak fun σ H Q ⟨O, ms, F, δ, μ, d, μ', R, ev, k⟩ => by
  unfold eLstM at ev
  split at ev
  · rename_i xs μ1 e1
    split at ev
    · rename_i hz
      cases ev
      refine ⟨O, ms, F, δ, μ, xs, _, R, e1, fun vs H1 ms1 F1 r1 s1 q1 => ⟨by rw [q1.length]; exact million hz, fun p hp => ?_⟩⟩
      exact Fin1.mut (fun v H' ms' F' r s q => k v H' ms' F' r (s1.trans' r1 s) q) r1 q1 hp
    · cases ev
  · cases ev⟩
theorem de_tup {x1} (h : DA X cl es r) : DE X cl (.Tuple es x1 pos) (eTup r) := ⟨(pe_tup h.p).weak fun σ H Q ⟨O, ms, F, δ, μ, d, μ', R, ev, k⟩ => by
  unfold eTup at ev
  split at ev
  · rename_i xs μ1 e1
    split at ev
    · rename_i hz
      cases ev
      refine ⟨O, ms, F, δ, μ, xs, _, R, e1, fun vs H1 ms1 F1 r1 s1 q1 => ⟨by rw [q1.length]; exact million hz, fun p hp => ?_⟩⟩
      exact Fin1.tup (fun v H' ms' F' r s q => k v H' ms' F' r (s1.trans' r1 s) q) r1 q1 hp
    · cases ev
  · cases ev⟩
end
end G

set_option Elab.async false
set_option linter.all false
set_option autoImplicit false
set_option maxRecDepth 100000
set_option maxHeartbeats 2000000
namespace G
open PySem PySem.Spec L2

/-! ### new lists -/
abbrev NF := List SV → List MO → Option (List D × List MO)
def FinN (Γ : Gm) (ms : List Addr) (F H : Hp) (ds : List D) (μ' : List MO) (Q : VK) : Prop :=
  ∀ vs H' ms' F' p, HR Γ ms' F' H' μ' → Stp ms ms' F F' H H' → HasL Γ ms' F' vs ds → H' p = some (.lst vs) → H p = none → p ∉ ms' → F' p = none → Q (.ref p) H'
def tN (Γ : Gm) (f : NF) : TE := fun σ H Q => ∃ O ms F δ μ d μ', SR Γ O ms F H σ δ μ ∧ f δ μ = some (d, μ') ∧ FinN Γ ms F H d μ' Q
structure DN (X : Cx) (cl : Nat → Addr) (e : Expr) (f : NF) : Prop where
  p : PE X e (tN (gm X cl) f)
section
variable {Γ : Gm} {ms : List Addr} {F H : Hp} {μ : List MO} {p : Addr}
theorem HR.extra (h : HR Γ ms F H μ) (hp : H p = none) (o : HO) : HR Γ ms F (upd H p o) μ ∧ Stp ms ms F F H (upd H p o) := by
  have sH : ∀ b u, H b = some u → upd H p o b = some u := fun b u e => by rw [upd_ne (ne_of_none e hp)]; exact e
  refine ⟨⟨fun b u e => sH b u (h.sub b u e), h.out, h.len, h.nd, fun k u e => ?_⟩, ⟨⟨[], by simp, by simp⟩, fun b u e _ => sH b u e, Same.refl _, fun b e _ => e⟩⟩
  obtain ⟨a, ea, m⟩ := h.obj k u e
  have m' := m.mono (new := []) (Same.refl F) (sH a)
  rw [List.append_nil] at m'
  exact ⟨a, ea, m'⟩
theorem HR.freeze (h : HR Γ ms F H μ) {o : HO} (hp : H p = some o) (hm : p ∉ ms) (hF : F p = none) : HR Γ ms (upd F p o) H μ := by
  have sF : Same F (upd F p o) := fun b u e => by rw [upd_ne (ne_of_none e hF)]; exact e
  refine ⟨fun b u e => ?_, fun b hb => ?_, h.len, h.nd, fun k u e => ?_⟩
  · by_cases hb : b = p
    · subst hb; rw [upd_same] at e; rw [hp]; exact e
    · rw [upd_ne hb] at e; exact h.sub b u e
  · have hne : b ≠ p := fun z => hm (by rw [← z]; exact hb)
    rw [upd_ne hne]; exact h.out b hb
  · obtain ⟨a, ea, m⟩ := h.obj k u e
    have m' := m.mono (new := []) (H' := H) sF (fun o' q => q)
    rw [List.append_nil] at m'
    exact ⟨a, ea, m'⟩
theorem HR.fresh_not (h : HR Γ ms F H μ) (hp : H p = none) : p ∉ ms ∧ F p = none := ⟨fun z => h.live p z hp, h.sub.free hp⟩
end
section
variable {Γ : Gm} {ms : List Addr} {F H : Hp} {μ : List MO} {Q : VK} {ds : List D}
/-- the new list is laid now -/
theorem FinN.here (k : FinN Γ ms F H ds μ Q) {vs : List V} (r : HR Γ ms F H μ) (q : HasL Γ ms F vs ds) {p : Addr} (hp : H p = none) : Q (.ref p) (upd H p (.lst vs)) := by
  obtain ⟨r', s⟩ := r.extra hp (.lst vs)
  exact k vs _ ms F p r' s q upd_same hp (r.fresh_not hp).1 (r.fresh_not hp).2
theorem FinN.step {ms' : List Addr} {F' H' : Hp} {μ1 μ2 : List MO} (k : FinN Γ ms F H ds μ2 Q) (r : HR Γ ms' F' H' μ1) (s : Stp ms ms' F F' H H') (old : ∀ p, H' p = none → H p = none) : FinN Γ ms' F' H' ds μ2 Q :=
  fun vs H2 ms2 F2 p r2 s2 q hp h0 hm hF => k vs H2 ms2 F2 p r2 (s.trans' r s2) q hp (old p h0) hm hF
theorem Stp.old {ms ms' : List Addr} {F F' H H' : Hp} {μ' : List MO} (s : Stp ms ms' F F' H H') (r : HR Γ ms' F' H' μ') : ∀ p, H' p = none → H p = none := fun p h => by
  cases z : H p with
  | none => rfl
  | some o =>
    by_cases hm : p ∈ ms
    · obtain ⟨new, e, _⟩ := s.new
      exact absurd h (r.live p (by rw [e]; exact List.mem_append_left _ hm))
    · rw [s.keep p o z hm] at h; cases h
theorem FinN.step' {ms' : List Addr} {F' H' : Hp} {μ1 μ2 : List MO} (k : FinN Γ ms F H ds μ2 Q) (r : HR Γ ms' F' H' μ1) (s : Stp ms ms' F F' H H') : FinN Γ ms' F' H' ds μ2 Q := k.step r s (s.old r)
theorem Fin1.step {d : D} {ms' : List Addr} {F' H' : Hp} {μ1 μ2 : List MO} (k : Fin1 Γ ms F H d μ2 Q) (r : HR Γ ms' F' H' μ1) (s : Stp ms ms' F F' H H') : Fin1 Γ ms' F' H' d μ2 Q :=
  fun v H2 ms2 F2 r2 s2 q => k v H2 ms2 F2 r2 (s.trans' r s2) q
theorem FinN.of1 {μ' : List MO} (k : Fin1 Γ ms F H (.lst ds) μ' Q) : FinN Γ ms F H ds μ' Q := fun vs H' ms' F' p r s q hp h0 hm hF => by
  have r2 := r.freeze hp hm hF
  have sF : Same F' (upd F' p (.lst vs)) := fun b u e => by rw [upd_ne (ne_of_none e hF)]; exact e
  refine k _ H' ms' (upd F' p (.lst vs)) r2 ⟨s.new, s.keep, s.fsub.trans sF, fun b e hn => ?_⟩ ⟨p, vs, rfl, upd_same, ?_⟩
  · have hne : b ≠ p := fun z => hn (by rw [z]; exact h0)
    rw [upd_ne hne]; exact s.fnew b e hn
  · have q2 := q.mono (new := []) sF
    rw [List.append_nil] at q2; exact q2
theorem FinN.ofM {μ' : List MO} (k : Fin1 Γ ms F H (.mut μ'.length) (μ' ++ [.lst ds]) Q) : FinN Γ ms F H ds μ' Q := fun vs H' ms' F' p r s q hp h0 hm hF => by
  obtain ⟨new, e, fr⟩ := s.new
  refine k _ H' (ms' ++ [p]) F' ⟨r.sub, fun b hb => ?_, by simp [r.len], ?_, fun j u' e => ?_⟩ ⟨⟨new ++ [p], by rw [e]; simp, fun b hb => ?_⟩, s.keep, s.fsub, s.fnew⟩ ⟨p, rfl, by rw [← r.len]; simp⟩
  · rcases List.mem_append.mp hb with hb | hb
    · exact r.out b hb
    · simp at hb; subst hb; exact hF
  · refine List.nodup_append.mpr ⟨r.nd, by simp, fun b hb c hc => ?_⟩
    simp at hc; subst hc
    exact fun z => hm (z ▸ hb)
  · by_cases hk : j < μ'.length
    · rw [List.getElem?_append_left hk] at e
      obtain ⟨a, ea, m'⟩ := r.obj j u' e
      exact ⟨a, getP ea, m'.mono (Same.refl _) fun o q => q⟩
    · have hk2 := (List.getElem?_eq_some_iff.mp e).1
      simp at hk2
      have : j = μ'.length := by omega
      subst this
      simp at e; subst e
      exact ⟨p, by rw [← r.len]; simp, vs, hp, q.mono (Same.refl _)⟩
  · rcases List.mem_append.mp hb with hb | hb
    · exact fr b hb
    · simp at hb; subst hb; exact h0
end
section
variable {X : Cx} {cl : Nat → Addr} {e a b c : Expr} {es : List Expr} {fa fb fc : EF} {pos : Pos} {r : AF} {n : NF}
def eFrz (n : NF) : EF := fun δ μ => match n δ μ with
  | some (ds, μ1) => some (.lst ds, μ1)
  | none => none
def eMut (n : NF) : EF := fun δ μ => match n δ μ with
  | some (ds, μ1) => some (.mut μ1.length, μ1 ++ [.lst ds])
  | none => none
theorem de_frz (h : DN X cl e n) : DE X cl e (eFrz n) := ⟨h.p.weak fun σ H Q ⟨O, ms, F, δ, μ, d, μ', R, ev, k⟩ => by
  unfold eFrz at ev
  split at ev
  · rename_i ds μ1 e1
    cases ev
    exact ⟨O, ms, F, δ, μ, ds, _, R, e1, FinN.of1 k⟩
  · cases ev⟩
theorem de_mut (h : DN X cl e n) : DE X cl e (eMut n) := ⟨h.p.weak fun σ H Q ⟨O, ms, F, δ, μ, d, μ', R, ev, k⟩ => by
  unfold eMut at ev
  split at ev
  · rename_i ds μ1 e1
    cases ev
    exact ⟨O, ms, F, δ, μ, ds, _, R, e1, FinN.ofM k⟩
  · cases ev⟩
def nLst (r : AF) : NF := fun δ μ => match r δ μ with
  | some (xs, μ1) => if xs.length ≤ 1000000 then some (xs, μ1) else none
  | none => none
theorem dn_lst (h : DA X cl es r) : DN X cl (.List es pos) (nLst r) := ⟨(pe_lst h.p).weak fun σ H Q ⟨O, ms, F, δ, μ, d, μ', R, ev, k⟩ => by
  unfold nLst at ev
  split at ev
  · rename_i xs μ1 e1
    split at ev
    · rename_i hz
      cases ev
      exact ⟨O, ms, F, δ, μ, _, _, R, e1, fun vs H1 ms1 F1 r1 s1 q1 => ⟨by rw [q1.length]; exact million hz, fun p hp => (k.step' r1 s1).here r1 q1 hp⟩⟩
    · cases ev
  · cases ev⟩

/-! ### a list or tuple that is read -/
def seqD (μ : List MO) : D → Option (SK × List D)
  | .lst ds => some (.l, ds)
  | .tup ds => some (.t, ds)
  | .mut k => match μ[k]? with
    | some (.lst ds) => some (.l, ds)
    | _ => none
  | _ => none
theorem seqD_ok {Γ : Gm} {ms : List Addr} {F H : Hp} {μ : List MO} {v : V} {d : D} {k : SK} {ds : List D} (r : HR Γ ms F H μ) (h : Has Γ ms F v d) (e : seqD μ d = some (k, ds)) : ∃ a xs, v = .ref a ∧ SeqV Γ.K H a k xs ∧ HasL Γ ms F xs ds := by
  unfold seqD at e
  split at e
  · cases e
    obtain ⟨a, xs, hv, hs, hl⟩ := h
    exact ⟨a, xs, hv, r.sub _ _ hs, hl⟩
  · cases e
    obtain ⟨a, xs, hv, hs, hl⟩ := h
    exact ⟨a, xs, hv, Tp.same r.sub hs, hl⟩
  · split at e
    · rename_i k' ds' hk
      cases e
      obtain ⟨a, hv, hm⟩ := h
      obtain ⟨a', ha', xs, hx, hl⟩ := r.obj _ _ hk
      rw [hm] at ha'; cases ha'
      exact ⟨a, xs, hv, hx, hl⟩
    · cases e
  · cases e
def qE (f : EF) : SF := eThen f fun d _ μ => match seqD μ d with
  | some x => some (x, μ)
  | none => none
theorem dq_e {f : EF} (h : DE X cl e f) : DQ X cl e (qE f) := ⟨h.p.weak fun σ H Q ⟨O, ms, F, δ, μ, d, μ', R, ev, k⟩ => by
  obtain ⟨d1, μ1, e1, ev⟩ := eThen_some ev
  refine tE.seq R e1 fun v H1 ms1 F1 R1 s1 q1 => ?_
  split at ev
  · rename_i x hx
    cases ev
    obtain ⟨a, xs, rfl, hs, hl⟩ := seqD_ok R1.hr q1 hx
    exact k a xs H1 ms1 F1 R1.hr s1 hs hl
  · cases ev⟩
/-- an own list of the def's -/
def qO (i : Nat) : SF := fun δ μ => match δ[i]? with
  | some (.own xs) => some ((.l, xs), μ)
  | _ => none
theorem dq_o {i : Nat} (h : PE X e (tVar i)) : DQ X cl e (qO i) := ⟨h.weak fun σ H Q ⟨O, ms, F, δ, μ, d, μ', R, ev, k⟩ => by
  unfold qO at ev
  split at ev
  · rename_i xs hd
    cases ev
    obtain ⟨a, vs, ea, ha, hl, _⟩ := R.er.ok i _ hd
    exact ⟨_, ea, k a vs H ms F R.hr (Stp.refl _ _ _) ha hl⟩
  · cases ev⟩
theorem tQ.seq {fq : SF} {Γ : Gm} {O : Og} {ms : List Addr} {F H : Hp} {σ : L2.St} {δ : List SV} {μ μ1 : List MO} {d : SK × List D} {Q : VK} (R : SR Γ O ms F H σ δ μ) (e : fq δ μ = some (d, μ1))
    (k : ∀ a xs H1 ms1 F1, SR Γ O ms1 F1 H1 σ δ μ1 → Stp ms ms1 F F1 H H1 → SeqV Γ.K H1 a d.1 xs → HasL Γ ms1 F1 xs d.2 → Q (.ref a) H1) : tQ Γ fq σ H Q :=
  ⟨O, ms, F, δ, μ, d, μ1, R, e, fun a xs H1 ms1 F1 r s q l => k a xs H1 ms1 F1 (R.step r s) s q l⟩
theorem SeqV.or {K : PySem.W.Frag} {H : Hp} {a : Addr} {k : SK} {xs : List V} (h : SeqV K H a k xs) : SqL K H a xs ∨ SqT K H a xs := by
  cases k with
  | l => exact .inl (SqL.of h)
  | t => exact .inr h.sq

/-! ### one argument: built-ins over a value -/
def CallD (X : Cx) (cl : Nat → Addr) (f : Value) (g : List D → List MO → Option (D × List MO)) : Prop :=
  ∀ ms F H μ vs ds d μ' Q, HR (gm X cl) ms F H μ → HasL (gm X cl) ms F vs ds → g ds μ = some (d, μ') → Fin1 (gm X cl) ms F H d μ' Q → ∃ r, CallR X f r ∧ r vs H Q
theorem _root_.L2.CallR.any' {f : Value} : CallR X f (fun vs H Q => ∃ r, CallR X f r ∧ r vs H Q) := by
  intro pins s σ H vs us Q I r ⟨rr, ho, h⟩
  exact ho pins s σ H vs us Q I r h
def aThen (r : AF) {β : Type} (k : List D → List SV → List MO → Option (β × List MO)) : List SV → List MO → Option (β × List MO) := fun δ μ => match r δ μ with
  | some (d, μ1) => k d δ μ1
  | none => none
theorem aThen_some {β : Type} {k : List D → List SV → List MO → Option (β × List MO)} {δ : List SV} {μ : List MO} {x : β × List MO} (h : aThen r k δ μ = some x) : ∃ d μ1, r δ μ = some (d, μ1) ∧ k d δ μ1 = some x := by
  unfold aThen at h
  split at h
  · exact ⟨_, _, by assumption, h⟩
  · cases h
theorem tA.seq {Γ : Gm} {O : Og} {ms : List Addr} {F H : Hp} {σ : L2.St} {δ : List SV} {μ μ1 : List MO} {d : List D} {Q : List V → Hp → Prop} (R : SR Γ O ms F H σ δ μ) (e : r δ μ = some (d, μ1))
    (k : ∀ v H1 ms1 F1, SR Γ O ms1 F1 H1 σ δ μ1 → Stp ms ms1 F F1 H H1 → HasL Γ ms1 F1 v d → Q v H1) : tA Γ r σ H Q :=
  ⟨O, ms, F, δ, μ, d, μ1, R, e, fun v H1 ms1 F1 r s q => k v H1 ms1 F1 (R.step r s) s q⟩
def eCall (g : List D → List MO → Option (D × List MO)) (r : AF) : EF := aThen r fun ds _ μ => g ds μ
theorem callD_run {f : Value} {g : List D → List MO → Option (D × List MO)} (hc : CallD X cl f g) {σ : L2.St} {H : Hp} {Q : VK} (h : tE (gm X cl) (eCall g r) σ H Q) : tCB (fun vs H Q => ∃ r, CallR X f r ∧ r vs H Q) (tA (gm X cl) r) σ H Q := by
  obtain ⟨O, ms, F, δ, μ, d, μ', R, ev, k⟩ := h
  obtain ⟨ds, μ1, e1, ev⟩ := aThen_some ev
  refine tA.seq R e1 fun v H1 ms1 F1 R1 s1 q1 => ?_
  exact hc ms1 F1 H1 μ1 v ds d μ' Q R1.hr q1 ev fun v H' ms' F' r s q => k v H' ms' F' r (s1.trans' R1.hr s) q
theorem de_callB {id : String} {x : Str} {p : Pos} {g : List D → List MO → Option (D × List MO)} (hc : CallD X cl (.builtin id) g) (hg : Gl X x) (hm : X.mg x = none) (hv : bootBuiltins x = some (.builtin id)) (ha : DA X cl (e :: es) r) (hn : x ≠ "__name__" := by decide) (hdb : (x == ("__debug__" : Str)) = false := by decide)
    (he : starEach (e :: es) X.env = (false, eval e X.env) :: starEach es X.env := by rfl) (hpl : (backTo pos (starEach es X.env)).any (·.1) = false := by rfl) : DE X cl (.Call (.Name x p) (e :: es) [] pos) (eCall g r) :=
  ⟨(pe_callB CallR.any' hg hm hv ha.p hn hdb he hpl).weak fun σ H Q h => callD_run hc h⟩
theorem de_callT {T : String} {x : Str} {p : Pos} {g : List D → List MO → Option (D × List MO)} (hc : CallD X cl (.type T) g) (hg : Gl X x) (hm : X.mg x = none) (hv : bootBuiltins x = some (.type T)) (ha : DA X cl (e :: es) r) (hn : x ≠ "__name__" := by decide) (hdb : (x == ("__debug__" : Str)) = false := by decide)
    (he : starEach (e :: es) X.env = (false, eval e X.env) :: starEach es X.env := by rfl) (hpl : (backTo pos (starEach es X.env)).any (·.1) = false := by rfl) : DE X cl (.Call (.Name x p) (e :: es) [] pos) (eCall g r) :=
  ⟨(pe_callTy CallR.any' hg hm hv ha.p hn hdb he hpl).weak fun σ H Q h => callD_run hc h⟩
/-- f(xs): one list or tuple, read -/
def CallQ (X : Cx) (cl : Nat → Addr) (f : Value) (g : SK × List D → List MO → Option (D × List MO)) : Prop :=
  ∀ ms F H μ a xs dq d μ' Q, HR (gm X cl) ms F H μ → SeqV X.K H a dq.1 xs → HasL (gm X cl) ms F xs dq.2 → g dq μ = some (d, μ') → Fin1 (gm X cl) ms F H d μ' Q → ∃ r, CallR X f r ∧ r [.ref a] H Q
def qThen (r : SF) {β : Type} (k : SK × List D → List SV → List MO → Option (β × List MO)) : List SV → List MO → Option (β × List MO) := fun δ μ => match r δ μ with
  | some (d, μ1) => k d δ μ1
  | none => none
theorem qThen_some {q : SF} {β : Type} {k : SK × List D → List SV → List MO → Option (β × List MO)} {δ : List SV} {μ : List MO} {x : β × List MO} (h : qThen q k δ μ = some x) : ∃ d μ1, q δ μ = some (d, μ1) ∧ k d δ μ1 = some x := by
  unfold qThen at h
  split at h
  · exact ⟨_, _, by assumption, h⟩
  · cases h
def eCallQ (g : SK × List D → List MO → Option (D × List MO)) (q : SF) : EF := qThen q fun ds _ μ => g ds μ
theorem callQ_run {f : Value} {q : SF} {g : SK × List D → List MO → Option (D × List MO)} (hc : CallQ X cl f g) {σ : L2.St} {H : Hp} {Q : VK} (h : tE (gm X cl) (eCallQ g q) σ H Q) : tCB (fun vs H Q => ∃ r, CallR X f r ∧ r vs H Q) (tCons (tQ (gm X cl) q) tNil) σ H Q := by
  obtain ⟨O, ms, F, δ, μ, d, μ', R, ev, k⟩ := h
  obtain ⟨dq, μ1, e1, ev⟩ := qThen_some ev
  show tQ (gm X cl) q σ H fun x H1 => ∃ r, CallR X f r ∧ r [x] H1 Q
  refine tQ.seq R e1 fun a xs H1 ms1 F1 R1 s1 q1 l1 => ?_
  exact hc ms1 F1 H1 μ1 a xs dq d μ' Q R1.hr q1 l1 ev fun v H' ms' F' r s q => k v H' ms' F' r (s1.trans' R1.hr s) q
theorem de_callQ {id : String} {x : Str} {p : Pos} {q : SF} {g : SK × List D → List MO → Option (D × List MO)} (hc : CallQ X cl (.builtin id) g) (hg : Gl X x) (hm : X.mg x = none) (hv : bootBuiltins x = some (.builtin id)) (ha : DQ X cl e q) (hn : x ≠ "__name__" := by decide) (hdb : (x == ("__debug__" : Str)) = false := by decide)
    (he : starEach [e] X.env = (false, eval e X.env) :: starEach [] X.env := by rfl) (hpl : (backTo pos (starEach [] X.env)).any (·.1) = false := by rfl) : DE X cl (.Call (.Name x p) [e] [] pos) (eCallQ g q) :=
  ⟨(pe_callB CallR.any' hg hm hv (pa_cons ha.p pa_nil he) hn hdb he hpl).weak fun σ H Q h => callQ_run hc h⟩
end
end G

set_option Elab.async false
set_option linter.all false
set_option autoImplicit false
set_option maxRecDepth 100000
set_option maxHeartbeats 2000000
namespace G
open PySem PySem.Spec L2

/-! ### statements -/
inductive Out where
  | nx (δ : List SV) (μ : List MO) | rt (d : D) (μ : List MO) | bk (δ : List SV) (μ : List MO) | ct (δ : List SV) (μ : List MO) | xc (C : Nat) (f msg : Str) (d : D) (δ : List SV) (μ : List MO)
abbrev BF := List SV → List MO → Option Out
structure Ext (ms ms' : List Addr) (F F' : Hp) : Prop where
  new : ∃ new, ms' = ms ++ new
  fsub : Same F F'
theorem Ext.refl (ms : List Addr) (F : Hp) : Ext ms ms F F := ⟨⟨[], by simp⟩, Same.refl _⟩
theorem Ext.trans {m1 m2 m3 : List Addr} {F1 F2 F3 : Hp} (a : Ext m1 m2 F1 F2) (b : Ext m2 m3 F2 F3) : Ext m1 m3 F1 F3 := by
  obtain ⟨n1, e1⟩ := a.new
  obtain ⟨n2, e2⟩ := b.new
  exact ⟨⟨n1 ++ n2, by rw [e2, e1, List.append_assoc]⟩, a.fsub.trans b.fsub⟩
theorem Stp.ext {ms ms' : List Addr} {F F' H H' : Hp} (s : Stp ms ms' F F' H H') : Ext ms ms' F F' := ⟨let ⟨n, e, _⟩ := s.new; ⟨n, e⟩, s.fsub⟩
/-- all that the context takes of an exception -/
def W0 (X : Cx) : WX × Hp := (fun cls d σ H => ∀ u s', L2N.XE X (fun c' d' σ' H' => c' = cls ∧ d' = d ∧ σ' = σ ∧ H' = H) u s' → X.xe u s', X.H_0)
theorem takesW {X : Cx} : L2N.Takes X (W0 X).1 := fun u s' ⟨a, B, sI, pins, σ, H, cls, d, e, I, nb, up, sky, na, os, ag, w⟩ => w u s' ⟨a, B, sI, pins, σ, H, cls, d, e, I, nb, up, sky, na, os, ag, rfl, rfl, rfl, rfl⟩
def EndOk (Γ : Gm) (W : WX × Hp) (O : Og) (ms : List Addr) (F : Hp) (D : Ends) : Out → Prop
  | .xc C f msg d δ' μ' => ∀ σ' H' ms' F' dx y, SR Γ O ms' F' H' σ' δ' μ' → Ext ms ms' F F' → F' dx = some (exd dx [(f, y)]) → Has Γ ms' F' y d → W.1 (.ref (Γ.cl C)) (some dx) σ' H'
  | .nx δ' μ' => ∀ σ' H' ms' F', SR Γ O ms' F' H' σ' δ' μ' → Ext ms ms' F F' → D.nx σ' H'
  | .bk δ' μ' => ∀ σ' H' ms' F', SR Γ O ms' F' H' σ' δ' μ' → Ext ms ms' F F' → D.bk σ' H'
  | .ct δ' μ' => ∀ σ' H' ms' F', SR Γ O ms' F' H' σ' δ' μ' → Ext ms ms' F F' → D.ct σ' H'
  | .rt d μ' => ∀ v H' ms' F', HR Γ ms' F' H' μ' → Stp O.ms ms' O.F F' O.H H' → Has Γ ms' F' v d → D.rt v H'
def tS (Γ : Gm) (W : WX × Hp) (f : BF) : TS := fun D σ H => ∃ O ms F δ μ o, SR Γ O ms F H σ δ μ ∧ f δ μ = some o ∧ O.H = W.2 ∧ EndOk Γ W O ms F D o
theorem EndOk.step {Γ : Gm} {W : WX × Hp} {O : Og} {ms ms' : List Addr} {F F' : Hp} {D : Ends} {o : Out} (h : EndOk Γ W O ms F D o) (e : Ext ms ms' F F') : EndOk Γ W O ms' F' D o := by
  cases o with
  | nx δ μ => exact fun σ' H' m2 F2 R x => h σ' H' m2 F2 R (e.trans x)
  | bk δ μ => exact fun σ' H' m2 F2 R x => h σ' H' m2 F2 R (e.trans x)
  | ct δ μ => exact fun σ' H' m2 F2 R x => h σ' H' m2 F2 R (e.trans x)
  | rt d μ => exact h
  | xc C f msg d δ μ => exact fun σ' H' m2 F2 dx y R x => h σ' H' m2 F2 dx y R (e.trans x)
structure DS (X : Cx) (cl : Nat → Addr) (s : Stmt) (f : BF) : Prop where
  p : PS X s (tS (gm X cl) (W0 X) f)
structure DB (X : Cx) (cl : Nat → Addr) (s : List Stmt) (f : BF) : Prop where
  p : PSs X s (tS (gm X cl) (W0 X) f)
theorem _root_.L2.PS.weak {X : Cx} {s : Stmt} {t t' : TS} (h : PS X s t) (k : ∀ D σ H, t' D σ H → t D σ H) : PS X s t' := ⟨fun pins st σ H D I q => h.run pins st σ H D I (k D σ H q)⟩
theorem _root_.L2.PSs.weak {X : Cx} {s : List Stmt} {t t' : TS} (h : PSs X s t) (k : ∀ D σ H, t' D σ H → t D σ H) : PSs X s t' := ⟨fun pins st σ H D I q => h.run pins st σ H D I (k D σ H q)⟩
section
variable {Γ : Gm} {O : Og} {ms : List Addr} {F H : Hp} {σ : L2.St} {δ : List SV} {μ : List MO}
theorem SR.set (R : SR Γ O ms F H σ δ μ) {v : V} {d : D} (q : Has Γ ms F v d) (i : Nat) : SR Γ O ms F H (σ.set i (some v)) (δ.set i (.d d)) μ := by
  refine ⟨R.hr, ⟨by simp [R.er.len], fun j sv e => ?_, fun j k a ds es e1 e2 f1 f2 => ?_⟩, R.st⟩
  · by_cases hj : i = j
    · subst hj
      have hi : i < δ.length := by
        have := (List.getElem?_eq_some_iff.mp e).1
        simpa using this
      rw [List.getElem?_set_self hi] at e; cases e
      rw [List.getElem?_set_self (by rw [R.er.len]; exact hi)]
      exact ⟨v, rfl, q⟩
    · rw [List.getElem?_set_ne hj] at e
      rw [List.getElem?_set_ne hj]
      exact R.er.ok j sv e
  · have n1 : i ≠ j := fun z => by
      subst z
      have hi : i < δ.length := by
        have := (List.getElem?_eq_some_iff.mp e1).1
        simpa using this
      rw [List.getElem?_set_self hi] at e1; cases e1
    have n2 : i ≠ k := fun z => by
      subst z
      have hi : i < δ.length := by
        have := (List.getElem?_eq_some_iff.mp e2).1
        simpa using this
      rw [List.getElem?_set_self hi] at e2; cases e2
    rw [List.getElem?_set_ne n1] at e1 f1
    rw [List.getElem?_set_ne n2] at e2 f2
    exact R.er.inj j k a ds es e1 e2 f1 f2
/-- a name is forgotten -/
theorem SR.drop (R : SR Γ O ms F H σ δ μ) (i : Nat) (u : Option V) : SR Γ O ms F H (σ.set i u) (δ.set i .no) μ := by
  refine ⟨R.hr, ⟨by simp [R.er.len], fun j sv e => ?_, fun j k a ds es e1 e2 f1 f2 => ?_⟩, R.st⟩
  · by_cases hj : i = j
    · subst hj
      have hi : i < δ.length := by
        have := (List.getElem?_eq_some_iff.mp e).1
        simpa using this
      rw [List.getElem?_set_self hi] at e; cases e
      trivial
    · rw [List.getElem?_set_ne hj] at e
      rw [List.getElem?_set_ne hj]
      exact R.er.ok j sv e
  · have n1 : i ≠ j := fun z => by
      subst z
      have hi : i < δ.length := by
        have := (List.getElem?_eq_some_iff.mp e1).1
        simpa using this
      rw [List.getElem?_set_self hi] at e1; cases e1
    have n2 : i ≠ k := fun z => by
      subst z
      have hi : i < δ.length := by
        have := (List.getElem?_eq_some_iff.mp e2).1
        simpa using this
      rw [List.getElem?_set_self hi] at e2; cases e2
    rw [List.getElem?_set_ne n1] at e1 f1
    rw [List.getElem?_set_ne n2] at e2 f2
    exact R.er.inj j k a ds es e1 e2 f1 f2
/-- a new list becomes a name's own -/
theorem SR.own (R : SR Γ O ms F H σ δ μ) {p : Addr} {vs : List V} {ds : List D} (hp : H p = some (.lst vs)) (q : HasL Γ ms F vs ds) (hF : F p = none) (hm : p ∉ ms) (h0 : O.H p = none) (hnew : ∀ (j : Nat) (es : List D), δ[j]? = some (.own es) → σ[j]? ≠ some (some (.ref p))) (i : Nat) :
    SR Γ O ms F H (σ.set i (some (.ref p))) (δ.set i (.own ds)) μ := by
  refine ⟨R.hr, ⟨by simp [R.er.len], fun j sv e => ?_, fun j k a ds' es e1 e2 f1 f2 => ?_⟩, R.st⟩
  · by_cases hj : i = j
    · subst hj
      have hi : i < δ.length := by
        have := (List.getElem?_eq_some_iff.mp e).1
        simpa using this
      rw [List.getElem?_set_self hi] at e; cases e
      rw [List.getElem?_set_self (by rw [R.er.len]; exact hi)]
      exact ⟨p, vs, rfl, hp, q, hF, hm, h0⟩
    · rw [List.getElem?_set_ne hj] at e
      rw [List.getElem?_set_ne hj]
      exact R.er.ok j sv e
  · have at_i : ∀ (j : Nat) (es : List D), i = j → (δ.set i (SV.own ds))[j]? = some (.own es) → (σ.set i (some (V.ref p)))[j]? = some (some (.ref a)) → a = p := fun j es z e f => by
      subst z
      have hi : i < σ.length := by
        have := (List.getElem?_eq_some_iff.mp f).1
        simpa using this
      rw [List.getElem?_set_self hi] at f; cases f; rfl
    by_cases n1 : i = j
    · by_cases n2 : i = k
      · omega
      · have := at_i j _ n1 e1 f1
        subst this
        rw [List.getElem?_set_ne n2] at e2 f2
        exact absurd f2 (hnew k _ e2)
    · by_cases n2 : i = k
      · have := at_i k _ n2 e2 f2
        subst this
        rw [List.getElem?_set_ne n1] at e1 f1
        exact absurd f1 (hnew j _ e1)
      · rw [List.getElem?_set_ne n1] at e1 f1
        rw [List.getElem?_set_ne n2] at e2 f2
        exact R.er.inj j k a _ _ e1 e2 f1 f2
/-- an own list changes -/
theorem SR.ownSet (R : SR Γ O ms F H σ δ μ) {i : Nat} {a : Addr} {ds es : List D} {vs ws : List V} (hd : δ[i]? = some (.own ds)) (hs : σ[i]? = some (some (.ref a))) (ha : H a = some (.lst vs)) (q : HasL Γ ms F ws es) :
    SR Γ O ms F (upd H a (.lst ws)) σ (δ.set i (.own es)) μ := by
  obtain ⟨a', xs', e1, h1, l1, hF, hm, h0⟩ := R.er.ok i _ hd
  rw [hs] at e1; cases e1
  have keep : ∀ b, b ≠ a → upd H a (.lst ws) b = H b := fun b hb => upd_ne hb
  have hr : HR Γ ms F (upd H a (.lst ws)) μ := by
    refine ⟨fun b u e => ?_, R.hr.out, R.hr.len, R.hr.nd, fun k u e => ?_⟩
    · rw [keep b (fun z => by rw [z, hF] at e; cases e)]; exact R.hr.sub b u e
    · obtain ⟨b, eb, m⟩ := R.hr.obj k u e
      have hb : b ≠ a := fun z => hm (z ▸ List.mem_of_getElem? eb)
      have m' := m.mono (new := []) (H' := upd H a (.lst ws)) (Same.refl F) (fun o q => by rw [keep b hb]; exact q)
      rw [List.append_nil] at m'
      exact ⟨b, eb, m'⟩
  refine ⟨hr, ⟨by simp [R.er.len], fun j sv e => ?_, fun j k c ds' es' e1 e2 f1 f2 => ?_⟩, ⟨R.st.new, fun b o e hb => ?_, R.st.fsub, R.st.fnew⟩⟩
  · by_cases hj : i = j
    · subst hj
      have hi : i < δ.length := (List.getElem?_eq_some_iff.mp hd).1
      rw [List.getElem?_set_self hi] at e; cases e
      exact ⟨a, ws, hs, upd_same, q, hF, hm, h0⟩
    · rw [List.getElem?_set_ne hj] at e
      have o := R.er.ok j sv e
      cases sv with
      | no => trivial
      | d x => exact o
      | xv C f x => exact o
      | own zs =>
        obtain ⟨c, xs, ec, hc, lc, r⟩ := o
        have hne : c ≠ a := fun z => by subst z; exact hj (R.er.inj i j c _ _ hd e hs ec)
        exact ⟨c, xs, ec, by rw [keep c hne]; exact hc, lc, r⟩
  · have own_at : ∀ (j : Nat) (es' : List D), (δ.set i (SV.own es))[j]? = some (.own es') → ∃ es2, δ[j]? = some (.own es2) := fun j es' e => by
      by_cases hj : i = j
      · subst hj; exact ⟨_, hd⟩
      · rw [List.getElem?_set_ne hj] at e; exact ⟨_, e⟩
    obtain ⟨x1, y1⟩ := own_at j _ e1
    obtain ⟨x2, y2⟩ := own_at k _ e2
    exact R.er.inj j k c _ _ y1 y2 f1 f2
  · have hne : b ≠ a := fun z => by rw [z, h0] at e; cases e
    rw [keep b hne]; exact R.st.keep b o e hb
/-- an own list is frozen -/
theorem SR.ownFreeze (R : SR Γ O ms F H σ δ μ) {i : Nat} {ds : List D} (hd : δ[i]? = some (.own ds)) : ∃ F', SR Γ O ms F' H σ (δ.set i (.d (.lst ds))) μ ∧ Same F F' := by
  obtain ⟨a, xs, e1, h1, l1, hF, hm, h0⟩ := R.er.ok i _ hd
  have sF : Same F (upd F a (.lst xs)) := fun b u e => by rw [upd_ne (ne_of_none e hF)]; exact e
  refine ⟨upd F a (.lst xs), ⟨R.hr.freeze h1 hm hF, ⟨by simp [R.er.len], fun j sv e => ?_, fun j k c ds' es' e1 e2 f1 f2 => ?_⟩, ⟨R.st.new, R.st.keep, R.st.fsub.trans sF, fun b e hn => ?_⟩⟩, sF⟩
  · by_cases hj : i = j
    · subst hj
      have hi : i < δ.length := (List.getElem?_eq_some_iff.mp hd).1
      rw [List.getElem?_set_self hi] at e; cases e
      have q2 := l1.mono (new := []) sF
      rw [List.append_nil] at q2
      exact ⟨_, e1, a, xs, rfl, upd_same, q2⟩
    · rw [List.getElem?_set_ne hj] at e
      have o := R.er.ok j sv e
      cases sv with
      | no => trivial
      | d x =>
        obtain ⟨u, eu, q⟩ := o
        have q2 := q.mono (new := []) sF
        rw [List.append_nil] at q2
        exact ⟨u, eu, q2⟩
      | xv C f x =>
        obtain ⟨c, oe, dx, y, z1, z2, z3, z4, q⟩ := o
        have q2 := q.mono (new := []) sF
        rw [List.append_nil] at q2
        exact ⟨c, oe, dx, y, z1, z2, z3, sF _ _ z4, q2⟩
      | own zs =>
        obtain ⟨c, xs', ec, hc, lc, r1, r2, r3⟩ := o
        have hne : c ≠ a := fun z => by subst z; exact hj (R.er.inj i j c _ _ hd e e1 ec)
        have q2 := lc.mono (new := []) sF
        rw [List.append_nil] at q2
        exact ⟨c, xs', ec, hc, q2, by rw [upd_ne hne]; exact r1, r2, r3⟩
  · have n : ∀ (j : Nat) (es' : List D), (δ.set i (SV.d (.lst ds)))[j]? = some (.own es') → δ[j]? = some (.own es') := fun j es' e => by
      by_cases hj : i = j
      · subst hj
        have hi : i < δ.length := (List.getElem?_eq_some_iff.mp hd).1
        rw [List.getElem?_set_self hi] at e; cases e
      · rw [List.getElem?_set_ne hj] at e; exact e
    exact R.er.inj j k c _ _ (n j _ e1) (n k _ e2) f1 f2
  · have hne : b ≠ a := fun z => hn (by rw [z]; exact h0)
    rw [upd_ne hne]; exact R.st.fnew b e hn
theorem SR.old0 (R : SR Γ O ms F H σ δ μ) {p : Addr} (h : H p = none) : O.H p = none := R.st.old R.hr p h
theorem SR.notOwn (R : SR Γ O ms F H σ δ μ) {p : Addr} (h : H p = none) (j : Nat) (es : List D) (e : δ[j]? = some (.own es)) : σ[j]? ≠ some (some (.ref p)) := fun z => by
  obtain ⟨a, xs, e1, h1, _⟩ := R.er.ok j _ e
  rw [z] at e1; cases e1
  rw [h] at h1; cases h1
end
section
variable {X : Cx} {cl : Nat → Addr} {e a b c : Expr} {es : List Expr} {fe fa fb : EF} {pos : Pos} {r : AF} {n : NF} {st : Stmt} {sts : List Stmt} {f g : BF}
def bNil : BF := fun δ μ => some (.nx δ μ)
theorem db_nil : DB X cl [] bNil := ⟨pss_nil.weak fun D σ H ⟨O, ms, F, δ, μ, o, R, ev, hO, k⟩ => by cases ev; exact k σ H ms F R (Ext.refl _ _)⟩
def bThen (f g : BF) : BF := fun δ μ => match f δ μ with
  | some (.nx δ1 μ1) => g δ1 μ1
  | o => o
theorem db_one (h : DS X cl st f) : DB X cl [st] f := ⟨pss_one h.p⟩
theorem db_cons (h1 : DS X cl st f) (h2 : DB X cl sts g) : DB X cl (st :: sts) (bThen f g) := ⟨(pss_cons h1.p h2.p).weak fun D σ H ⟨O, ms, F, δ, μ, o, R, ev, hO, k⟩ => by
  unfold bThen at ev
  split at ev
  · rename_i δ1 μ1 e1
    exact ⟨O, ms, F, δ, μ, _, R, e1, hO, fun σ' H' ms' F' R' x => ⟨O, ms', F', δ1, μ1, o, R', ev, hO, k.step x⟩⟩
  · rename_i o' hno
    refine ⟨O, ms, F, δ, μ, o, R, ev, hO, ?_⟩
    cases o with
    | nx δ1 μ1 => exact absurd ev (hno δ1 μ1)
    | rt d μ1 => exact k
    | bk d μ1 => exact k
    | ct d μ1 => exact k
    | xc _ _ _ _ _ _ => exact k⟩
theorem ds_pass : DS X cl (.Pass pos) bNil := ⟨ps_pass.weak fun D σ H ⟨O, ms, F, δ, μ, o, R, ev, hO, k⟩ => by cases ev; exact k σ H ms F R (Ext.refl _ _)⟩
def bBrk : BF := fun δ μ => some (.bk δ μ)
def bCnt : BF := fun δ μ => some (.ct δ μ)
theorem ds_brk : DS X cl (.Break pos) bBrk := ⟨ps_break.weak fun D σ H ⟨O, ms, F, δ, μ, o, R, ev, hO, k⟩ => by cases ev; exact k σ H ms F R (Ext.refl _ _)⟩
theorem ds_cnt : DS X cl (.Continue pos) bCnt := ⟨ps_continue.weak fun D σ H ⟨O, ms, F, δ, μ, o, R, ev, hO, k⟩ => by cases ev; exact k σ H ms F R (Ext.refl _ _)⟩
/-- a statement that isn't reached -/
def bNever : BF := fun _ _ => none
theorem ds_never : DS X cl st bNever := ⟨ps_never.weak fun D σ H ⟨O, ms, F, δ, μ, o, R, ev, hO, k⟩ => by cases ev⟩
theorem db_never : DB X cl sts bNever := ⟨pss_never.weak fun D σ H ⟨O, ms, F, δ, μ, o, R, ev, hO, k⟩ => by cases ev⟩
def bExpr (f : EF) : BF := fun δ μ => match f δ μ with
  | some (_, μ1) => some (.nx δ μ1)
  | none => none
theorem ds_expr (h : DE X cl e fe) (hs : swapsWith e none pos.line X.env = pure false := by rfl) : DS X cl (.Expr e pos) (bExpr fe) := ⟨(ps_expr h.p hs).weak fun D σ H ⟨O, ms, F, δ, μ, o, R, ev, hO, k⟩ => by
  unfold bExpr at ev
  split at ev
  · rename_i d μ1 e1
    cases ev
    exact tE.seq R e1 fun v H1 ms1 F1 R1 s1 q1 => k σ H1 ms1 F1 R1 s1.ext
  · cases ev⟩
def bRet (f : EF) : BF := fun δ μ => match f δ μ with
  | some (d, μ1) => some (.rt d μ1)
  | none => none
theorem ds_ret (h : DE X cl e fe) : DS X cl (.Return (some e) pos) (bRet fe) := ⟨(ps_ret h.p).weak fun D σ H ⟨O, ms, F, δ, μ, o, R, ev, hO, k⟩ => by
  unfold bRet at ev
  split at ev
  · rename_i d μ1 e1
    cases ev
    exact tE.seq R e1 fun v H1 ms1 F1 R1 s1 q1 => k v H1 ms1 F1 R1.hr R1.st q1
  · cases ev⟩
def bRetN : BF := fun _ μ => some (.rt .non μ)
theorem ds_retN : DS X cl (.Return none pos) bRetN := ⟨ps_retN.weak fun D σ H ⟨O, ms, F, δ, μ, o, R, ev, hO, k⟩ => by cases ev; exact k .non H ms F R.hr R.st rfl⟩
def bSet (i : Nat) (f : EF) : BF := fun δ μ => match f δ μ with
  | some (d, μ1) => some (.nx (δ.set i (.d d)) μ1)
  | none => none
theorem ds_set {i : Nat} {x : Str} {pos' : Pos} (hN : X.N.Nodup) (hi : X.N[i]? = some x) (hx : Loc X.env.scope x) (h : DE X cl e fe) (hs : swapsWith e (some (.Name x pos')) pos.line X.env = pure false := by rfl) (hf : X.fn x = true ∨ X.env.scope.names.lookup x = some .local := by first | exact .inl rfl | exact .inr rfl | assumption) :
    DS X cl (.Assign [.Name x pos'] e pos) (bSet i fe) := ⟨(ps_set hN hi hx h.p hs hf).weak fun D σ H ⟨O, ms, F, δ, μ, o, R, ev, hO, k⟩ => by
  unfold bSet at ev
  split at ev
  · rename_i d μ1 e1
    cases ev
    exact tE.seq R e1 fun v H1 ms1 F1 R1 s1 q1 => k _ H1 ms1 F1 (R1.set q1 i) s1.ext
  · cases ev⟩
/-- x = [..], x's own list -/
def bOwn (i : Nat) (f : NF) : BF := fun δ μ => match f δ μ with
  | some (d, μ1) => some (.nx (δ.set i (.own d)) μ1)
  | none => none
theorem ds_own {i : Nat} {x : Str} {pos' : Pos} (hN : X.N.Nodup) (hi : X.N[i]? = some x) (hx : Loc X.env.scope x) (h : DN X cl e n) (hs : swapsWith e (some (.Name x pos')) pos.line X.env = pure false := by rfl) (hf : X.fn x = true ∨ X.env.scope.names.lookup x = some .local := by first | exact .inl rfl | exact .inr rfl | assumption) :
    DS X cl (.Assign [.Name x pos'] e pos) (bOwn i n) := ⟨(ps_set hN hi hx h.p hs hf).weak fun D σ H ⟨O, ms, F, δ, μ, o, R, ev, hO, k⟩ => by
  unfold bOwn at ev
  split at ev
  · rename_i d μ1 e1
    cases ev
    refine ⟨O, ms, F, δ, μ, d, _, R, e1, fun vs H1 ms1 F1 p r1 s1 q1 hp h0 hm hF => ?_⟩
    exact k _ H1 ms1 F1 ((R.step r1 s1).own hp q1 hF hm (R.old0 h0) (fun j es e => R.notOwn h0 j es e) i) s1.ext
  · cases ev⟩
/-- ahead of a statement an own list is frozen -/
def bFrz (i : Nat) (f : BF) : BF := fun δ μ => match δ[i]? with
  | some (.own xs) => f (δ.set i (.d (.lst xs))) μ
  | _ => none
theorem ds_frz (i : Nat) (h : DS X cl st f) : DS X cl st (bFrz i f) := ⟨h.p.weak fun D σ H ⟨O, ms, F, δ, μ, o, R, ev, hO, k⟩ => by
  unfold bFrz at ev
  split at ev
  · rename_i xs hd
    obtain ⟨F', R', sF⟩ := R.ownFreeze hd
    exact ⟨O, ms, F', _, μ, o, R', ev, hO, k.step ⟨⟨[], by simp⟩, sF⟩⟩
  · cases ev⟩
theorem db_frz (i : Nat) (h : DB X cl sts f) : DB X cl sts (bFrz i f) := ⟨h.p.weak fun D σ H ⟨O, ms, F, δ, μ, o, R, ev, hO, k⟩ => by
  unfold bFrz at ev
  split at ev
  · rename_i xs hd
    obtain ⟨F', R', sF⟩ := R.ownFreeze hd
    exact ⟨O, ms, F', _, μ, o, R', ev, hO, k.step ⟨⟨[], by simp⟩, sF⟩⟩
  · cases ev⟩
def bIf (t : TF) (f g : BF) : BF := fun δ μ => match t δ μ with
  | some (c, μ1) => if c = true then f δ μ1 else g δ μ1
  | none => none
theorem ds_if {c : Expr} {ta : TF} {sa sb : List Stmt} (hc : DT X cl c ta) (ha : DB X cl sa f) (hb : DB X cl sb g) : DS X cl (.If c sa sb pos) (bIf ta f g) := ⟨(ps_if hc.p ha.p hb.p).weak fun D σ H ⟨O, ms, F, δ, μ, o, R, ev, hO, k⟩ => by
  unfold bIf at ev
  split at ev
  · rename_i c1 μ1 e1
    refine tT.seq R e1 fun H1 ms1 F1 R1 s1 => ?_
    cases c1 with
    | true => exact ⟨O, ms1, F1, δ, μ1, o, R1, ev, hO, k.step s1.ext⟩
    | false => exact ⟨O, ms1, F1, δ, μ1, o, R1, ev, hO, k.step s1.ext⟩
  · cases ev⟩
/-- x.append(e), x's own list -/
def bApp (i : Nat) (f : EF) : BF := fun δ μ => match f δ μ with
  | some (d, μ1) => match δ[i]? with
    | some (.own xs) => if xs.length < 1000000 then some (.nx (δ.set i (.own (xs ++ [d]))) μ1) else none
    | _ => none
  | none => none
theorem ds_app {i : Nat} {x : Str} {p1 p2 : Pos} (hx : PE X (.Name x p1) (tVar i)) (h : DE X cl e fe) (he : starEach (e :: []) X.env = (false, eval e X.env) :: starEach [] X.env := by rfl) (hpl : (backTo p2 (starEach [] X.env)).any (·.1) = false := by rfl) {apos : Pos}
    (hs : swapsWith (.Call (.Attribute (.Name x p1) "append" apos) [e] [] p2) none pos.line X.env = pure false := by rfl) (hb : PE X (.Call (.Attribute (.Name x p1) "append" apos) [e] [] p2) (tBM X.K "list" rAppend (tVar i) (tCons (tE (gm X cl) fe) tNil)) := by assumption) :
    DS X cl (.Expr (.Call (.Attribute (.Name x p1) "append" apos) [e] [] p2) pos) (bApp i fe) := ⟨(ps_expr hb hs).weak fun D σ H ⟨O, ms, F, δ, μ, o, R, ev, hO, k⟩ => by
  unfold bApp at ev
  split at ev
  · rename_i d μ1 e1
    split at ev
    · rename_i xs hd
      split at ev
      · rename_i hz
        cases ev
        obtain ⟨a, vs, ea, ha, hl, _⟩ := R.er.ok i _ hd
        refine ⟨_, ea, .inl ⟨rfl, _, .inl (.inl ha)⟩, ?_⟩
        refine tE.seq R e1 fun v H1 ms1 F1 R1 s1 q1 => ?_
        obtain ⟨a', vs1, ea', ha1, hl1, hr'⟩ := R1.er.ok i _ hd
        rw [ea] at ea'; cases ea'
        refine ⟨a, vs1, v, rfl, rfl, ha1, ?_, k σ _ ms1 F1 (R1.ownSet hd ea ha1 (hl1.append (HasL.one q1))) s1.ext⟩
        rw [hl1.length, sizeLine_eq]; omega
      · cases ev
    · cases ev
  · cases ev⟩
end
end G

set_option Elab.async false
set_option linter.all false
set_option autoImplicit false
set_option maxRecDepth 100000
set_option maxHeartbeats 2000000
namespace G
open PySem PySem.Spec L2

/-! ### targets -/
abbrev GF := D → List SV → Option (List SV)
abbrev GFs := List D → List SV → Option (List SV)
def tG (Γ : Gm) (g : GF) (ix : List Nat) : TG := fun v σ H Q => ∃ O ms F δ μ d δ', SR Γ O ms F H σ δ μ ∧ Has Γ ms F v d ∧ g d δ = some δ' ∧ ∀ σ', SR Γ O ms F H σ' δ' μ → σ'.length = σ.length → (∀ j, j ∉ ix → σ'[j]? = σ[j]?) → Q σ' H
def tGs (Γ : Gm) (g : GFs) (ix : List Nat) : TGs := fun v σ H Q => ∃ O ms F δ μ d δ', SR Γ O ms F H σ δ μ ∧ HasL Γ ms F v d ∧ g d δ = some δ' ∧ ∀ σ', SR Γ O ms F H σ' δ' μ → σ'.length = σ.length → (∀ j, j ∉ ix → σ'[j]? = σ[j]?) → Q σ' H
structure DG (X : Cx) (cl : Nat → Addr) (e : Expr) (g : GF) (ix : List Nat) : Prop where
  p : PG X e (tG (gm X cl) g ix)
structure DGs (X : Cx) (cl : Nat → Addr) (e : List Expr) (g : GFs) (ix : List Nat) : Prop where
  p : PGs X e (tGs (gm X cl) g ix)
theorem _root_.L2.PG.weak {X : Cx} {e : Expr} {t t' : TG} (h : PG X e t) (k : ∀ v σ H Q, t' v σ H Q → t v σ H Q) : PG X e t' := ⟨fun pins s σ H v u Q I r q => h.run pins s σ H v u Q I r (k v σ H Q q)⟩
theorem _root_.L2.PGs.weak {X : Cx} {e : List Expr} {t t' : TGs} (h : PGs X e t) (k : ∀ v σ H Q, t' v σ H Q → t v σ H Q) : PGs X e t' := ⟨fun pins s σ H v u Q I r q => h.run pins s σ H v u Q I r (k v σ H Q q)⟩
section
variable {X : Cx} {cl : Nat → Addr} {e : Expr} {es : List Expr} {g : GF} {gs : GFs} {pos : Pos} {ix iy : List Nat}
def nmG (i : Nat) : GF := fun d δ => some (δ.set i (.d d))
theorem dg_name {i : Nat} {x : Str} (hN : X.N.Nodup) (hi : X.N[i]? = some x) (hx : Loc X.env.scope x) (hf : X.fn x = true ∨ X.env.scope.names.lookup x = some .local := by first | exact .inl rfl | exact .inr rfl | assumption) : DG X cl (.Name x pos) (nmG i) [i] :=
  ⟨(pg_name hN hi hx hf).weak fun v σ H Q ⟨O, ms, F, δ, μ, d, δ', R, q, ev, k⟩ => by cases ev; exact k _ (R.set q i) (by simp) (fun j hj => List.getElem?_set_ne (by simp at hj; omega))⟩
def nilG : GFs := fun ds δ => match ds with
  | [] => some δ
  | _ => none
def consG (g : GF) (r : GFs) : GFs := fun ds δ => match ds with
  | d :: t => match g d δ with
    | some δ1 => r t δ1
    | none => none
  | [] => none
def tupG (n : Nat) (r : GFs) : GF := fun d δ => match d with
  | .tup ds => if ds.length = n then r ds δ else none
  | _ => none
theorem dgs_nil : DGs X cl [] nilG [] := ⟨pgs_nil.weak fun v σ H Q ⟨O, ms, F, δ, μ, d, δ', R, q, ev, k⟩ => by
  cases d with
  | nil => cases ev; cases q; exact ⟨rfl, k σ R rfl fun _ _ => rfl⟩
  | cons _ _ => cases ev⟩
theorem dgs_cons (h1 : DG X cl e g ix) (h2 : DGs X cl es gs iy) (hs : (assignEach (e :: es) X.env).map (·.2) = assign e X.env :: (assignEach es X.env).map (·.2) := by rfl) : DGs X cl (e :: es) (consG g gs) (ix ++ iy) := ⟨(pgs_cons h1.p h2.p hs).weak fun v σ H Q ⟨O, ms, F, δ, μ, d, δ', R, q, ev, k⟩ => by
  cases d with
  | nil => cases ev
  | cons d ds =>
    obtain ⟨w, ws, rfl, q1, q2⟩ := q
    unfold consG at ev
    dsimp only at ev
    split at ev
    · rename_i δ1 e1
      exact ⟨w, ws, rfl, O, ms, F, δ, μ, d, δ1, R, q1, e1, fun σ' R' l' a' => ⟨O, ms, F, δ1, μ, ds, δ', R', q2, ev, fun σ2 R2 l2 a2 => k σ2 R2 (l2.trans l') fun j hj => (a2 j fun z => hj (List.mem_append_right _ z)).trans (a' j fun z => hj (List.mem_append_left _ z))⟩⟩
    · cases ev⟩
theorem dg_tup {k : Nat} {n : Nat} (hc : X.calm = true) (h : DGs X cl es gs ix) (hn : (assignEach es X.env).length = n := by rfl) (hst : (assignEach es X.env).findIdx? (·.1) = none := by rfl) : DG X cl (.Tuple es k pos) (tupG n gs) ix :=
  ⟨(pg_tup hc h.p hn hst).weak fun v σ H Q ⟨O, ms, F, δ, μ, d, δ', R, q, ev, k⟩ => by
  unfold tupG at ev
  split at ev
  · split at ev
    · rename_i ds hl
      obtain ⟨a, xs, rfl, hs, l⟩ := q
      exact ⟨a, xs, rfl, (Tp.same R.hr.sub hs).sq, by rw [l.length]; exact hl, O, ms, F, δ, μ, ds, δ', R, l, ev, k⟩
    · cases ev
  · cases ev⟩
end

/-! ### what a loop walks -/
structure Yld (Γ : Gm) (J : It) (ds : List D) (ms0 : List Addr) (F0 : Hp) : Prop where
  go : ∀ ms F H μ i, HR Γ ms F H μ → Ext ms0 ms F0 F → i < ds.length → J.go i H
  stop : ∀ ms F H μ i, HR Γ ms F H μ → Ext ms0 ms F0 F → ds.length ≤ i → J.stop i H
  yld : ∀ ms F H μ i d x H', HR Γ ms F H μ → Ext ms0 ms F0 F → ds[i]? = some d → J.yld i H x H' → ∃ ms' F', HR Γ ms' F' H' μ ∧ Stp ms ms' F F' H H' ∧ Has Γ ms' F' x d
abbrev IF := List SV → List MO → Option (List D × List MO)
def tI (Γ : Gm) (f : IF) : TI := fun σ H R => ∃ O ms F δ μ ds μ1, SR Γ O ms F H σ δ μ ∧ f δ μ = some (ds, μ1) ∧
  ∀ J H1 ms1 F1, HR Γ ms1 F1 H1 μ1 → Stp ms ms1 F F1 H H1 → Yld Γ J ds ms1 F1 → R J H1
structure DI (X : Cx) (cl : Nat → Addr) (tg e : Expr) (f : IF) : Prop where
  p : PI X tg e (tI (gm X cl) f)
theorem _root_.L2.PI.weak {X : Cx} {tg e : Expr} {t t' : TI} (h : PI X tg e t) (k : ∀ σ H R, t' σ H R → t σ H R) : PI X tg e t' := ⟨fun pins s σ H R I q => h.run pins s σ H R I (k σ H R q)⟩
theorem Has.ext {Γ : Gm} {ms ms' : List Addr} {F F' : Hp} {v : V} {d : D} (h : Has Γ ms F v d) (e : Ext ms ms' F F') : Has Γ ms' F' v d := by
  obtain ⟨n, rfl⟩ := e.new
  exact h.mono e.fsub
theorem HasL.ext {Γ : Gm} {ms ms' : List Addr} {F F' : Hp} {v : List V} {d : List D} (h : HasL Γ ms F v d) (e : Ext ms ms' F F') : HasL Γ ms' F' v d := by
  obtain ⟨n, rfl⟩ := e.new
  exact h.mono e.fsub
theorem HasL.bound {Γ : Gm} {ms : List Addr} {F : Hp} {v : List V} {d : List D} (h : HasL Γ ms F v d) {i : Nat} (hi : i < d.length) : ∃ x, v[i]? = some x := ⟨v[i]'(by rw [h.length]; exact hi), List.getElem?_eq_getElem _⟩
theorem yld_list {Γ : Gm} {ms0 : List Addr} {F0 : Hp} {a : Addr} {xs : List V} {ds : List D} (hs : F0 a = some (.lst xs)) (hl : HasL Γ ms0 F0 xs ds) : Yld Γ (Itl Γ.K a) ds ms0 F0 where
  go := fun ms F H μ i r e hi => let ⟨x, hx⟩ := hl.bound hi; ⟨xs, x, SqL.of (r.sub _ _ (e.fsub _ _ hs)), hx⟩
  stop := fun ms F H μ i r e hi => ⟨xs, SqL.of (r.sub _ _ (e.fsub _ _ hs)), by rw [hl.length]; exact hi⟩
  yld := fun ms F H μ i d x H' r e hd y => by
    obtain ⟨rfl, y⟩ := y
    obtain ⟨v, hv, q⟩ := hl.get hd
    have := y xs (SqL.of (r.sub _ _ (e.fsub _ _ hs)))
    rw [hv] at this; cases this
    exact ⟨ms, F, r, Stp.refl _ _ _, q.ext e⟩
theorem yld_tup {Γ : Gm} {ms0 : List Addr} {F0 : Hp} {a : Addr} {xs : List V} {ds : List D} (hs : Tp Γ.K F0 a xs) (hl : HasL Γ ms0 F0 xs ds) : Yld Γ (Itt Γ.K a) ds ms0 F0 where
  go := fun ms F H μ i r e hi => let ⟨x, hx⟩ := hl.bound hi; ⟨xs, x, (Tp.same r.sub (Tp.same e.fsub hs)).sq, hx⟩
  stop := fun ms F H μ i r e hi => ⟨xs, (Tp.same r.sub (Tp.same e.fsub hs)).sq, by rw [hl.length]; exact hi⟩
  yld := fun ms F H μ i d x H' r e hd y => by
    obtain ⟨rfl, y⟩ := y
    obtain ⟨v, hv, q⟩ := hl.get hd
    have := y xs ((Tp.same r.sub (Tp.same e.fsub hs)).sq)
    rw [hv] at this; cases this
    exact ⟨ms, F, r, Stp.refl _ _ _, q.ext e⟩
def rangeD (lo : Int) (n : Nat) : List D := (List.range n).map fun i => .int (lo + (i : Nat))
theorem rangeD_length (lo : Int) (n : Nat) : (rangeD lo n).length = n := by simp [rangeD]
theorem rangeD_get {lo : Int} {n i : Nat} {d : D} (h : (rangeD lo n)[i]? = some d) : d = .int (lo + (i : Nat)) := by
  unfold rangeD at h
  rw [List.getElem?_map] at h
  cases e : (List.range n)[i]? with
  | none => rw [e] at h; cases h
  | some j =>
    rw [e] at h
    have hi := (List.getElem?_eq_some_iff.mp e)
    obtain ⟨h1, h2⟩ := hi
    simp at h2
    subst h2
    cases h; rfl
theorem yld_range {Γ : Gm} {ms0 : List Addr} {F0 : Hp} (lo : Int) (n : Nat) : Yld Γ (Itr lo n) (rangeD lo n) ms0 F0 where
  go := fun ms F H μ i r e hi => by rw [rangeD_length] at hi; exact hi
  stop := fun ms F H μ i r e hi => by rw [rangeD_length] at hi; exact hi
  yld := fun ms F H μ i d x H' r e hd y => by
    obtain ⟨rfl, rfl⟩ := y
    rw [rangeD_get hd]
    exact ⟨ms, F, r, Stp.refl _ _ _, rfl⟩
def signsD (x : Str) : List D := x.cps.toList.map fun c => .str ⟨#[c]⟩
theorem yld_str {Γ : Gm} {ms0 : List Addr} {F0 : Hp} (x : Str) : Yld Γ (Its x) (signsD x) ms0 F0 where
  go := fun ms F H μ i r e hi => by
    show i < x.cps.size
    simpa [signsD] using hi
  stop := fun ms F H μ i r e hi => by
    show x.cps.size ≤ i
    simpa [signsD] using hi
  yld := fun ms F H μ i d x' H' r e hd y => by
    obtain ⟨rfl, c, hc, rfl⟩ := y
    unfold signsD at hd
    rw [List.getElem?_map, Array.getElem?_toList, hc] at hd
    cases hd
    exact ⟨ms, F, r, Stp.refl _ _ _, rfl⟩
def enumD (ds : List D) : List D := ds.mapIdx fun i d => .tup [.int (i : Nat), d]
theorem enumD_get {ds : List D} {i : Nat} {d : D} (h : (enumD ds)[i]? = some d) : ∃ x, ds[i]? = some x ∧ d = .tup [.int (i : Nat), x] := by
  unfold enumD at h
  rw [List.getElem?_mapIdx] at h
  cases e : ds[i]? with
  | none => rw [e] at h; cases h
  | some x => rw [e] at h; cases h; exact ⟨x, rfl, rfl⟩
theorem yld_enum {Γ : Gm} {ms0 : List Addr} {F0 : Hp} {a : Addr} {xs : List V} {ds : List D} (hs : F0 a = some (.lst xs)) (hl : HasL Γ ms0 F0 xs ds) : Yld Γ (Ite Γ.K a) (enumD ds) ms0 F0 where
  go := fun ms F H μ i r e hi => let ⟨x, hx⟩ := hl.bound (by simpa [enumD] using hi); ⟨xs, x, SqL.of (r.sub _ _ (e.fsub _ _ hs)), hx⟩
  stop := fun ms F H μ i r e hi => ⟨xs, SqL.of (r.sub _ _ (e.fsub _ _ hs)), by rw [hl.length]; simpa [enumD] using hi⟩
  yld := fun ms F H μ i d x' H' r e hd y => by
    obtain ⟨T, x, rfl, hT, rfl, y⟩ := y
    obtain ⟨dx, hx, rfl⟩ := enumD_get hd
    obtain ⟨v, hv, q⟩ := hl.get hx
    have := y xs (SqL.of (r.sub _ _ (e.fsub _ _ hs)))
    rw [hv] at this; cases this
    obtain ⟨r', s⟩ := r.alloc hT (.tup [.int (i : Nat), x])
    exact ⟨ms, _, r', s, T, _, rfl, Tp.of upd_same, _, _, rfl, rfl, _, _, rfl, (q.ext e).step s, rfl⟩
def zipD (as bs : List D) : List D := (as.zip bs).map fun p => .tup [p.1, p.2]
theorem zipD_get {as bs : List D} {i : Nat} {d : D} (h : (zipD as bs)[i]? = some d) : ∃ x y, as[i]? = some x ∧ bs[i]? = some y ∧ d = .tup [x, y] := by
  unfold zipD at h
  rw [List.getElem?_map] at h
  cases e : (as.zip bs)[i]? with
  | none => rw [e] at h; cases h
  | some p =>
    rw [e] at h; cases h
    rw [List.getElem?_zip_eq_some] at e
    exact ⟨p.1, p.2, e.1, e.2, rfl⟩
theorem yld_zip {Γ : Gm} {ms0 : List Addr} {F0 : Hp} {a b : Addr} {xs ys : List V} {ds es : List D} (hs : F0 a = some (.lst xs)) (hl : HasL Γ ms0 F0 xs ds) (ht : F0 b = some (.lst ys)) (hm : HasL Γ ms0 F0 ys es) : Yld Γ (Itz Γ.K a b) (zipD ds es) ms0 F0 where
  go := fun ms F H μ i r e hi => by
    have hi' : i < ds.length ∧ i < es.length := by simp [zipD] at hi; omega
    obtain ⟨x, hx⟩ := hl.bound hi'.1
    obtain ⟨y, hy⟩ := hm.bound hi'.2
    exact ⟨xs, ys, x, y, SqL.of (r.sub _ _ (e.fsub _ _ hs)), SqL.of (r.sub _ _ (e.fsub _ _ ht)), hx, hy⟩
  stop := fun ms F H μ i r e hi => ⟨xs, ys, SqL.of (r.sub _ _ (e.fsub _ _ hs)), SqL.of (r.sub _ _ (e.fsub _ _ ht)), by rw [hl.length, hm.length]; simp [zipD] at hi; omega⟩
  yld := fun ms F H μ i d x' H' r e hd y => by
    obtain ⟨T, x, z, rfl, hT, rfl, y1, y2⟩ := y
    obtain ⟨dx, dy, hx, hy, rfl⟩ := zipD_get hd
    obtain ⟨v, hv, q⟩ := hl.get hx
    obtain ⟨w, hw, q'⟩ := hm.get hy
    have := y1 xs (SqL.of (r.sub _ _ (e.fsub _ _ hs)))
    rw [hv] at this; cases this
    have := y2 ys (SqL.of (r.sub _ _ (e.fsub _ _ ht)))
    rw [hw] at this; cases this
    obtain ⟨r', s⟩ := r.alloc hT (.tup [x, z])
    exact ⟨ms, _, r', s, T, _, rfl, Tp.of upd_same, _, _, rfl, (q.ext e).step s, _, _, rfl, (q'.ext e).step s, rfl⟩
section
variable {X : Cx} {cl : Nat → Addr} {tg e a b c : Expr} {es : List Expr} {fe fa fb : EF} {pos : Pos} {r : AF} {n : NF} {st : Stmt} {sts : List Stmt} {f g : BF} {ix : List Nat}
def iL (f : EF) : IF := eThen f fun d _ μ => match d with
  | .lst ds => some (ds, μ)
  | _ => none
def iT (f : EF) : IF := eThen f fun d _ μ => match d with
  | .tup ds => some (ds, μ)
  | _ => none
def iS (f : EF) : IF := eThen f fun d _ μ => match d with
  | .str x => some (signsD x, μ)
  | _ => none
theorem di_list (h : DE X cl e fe) : DI X cl tg e (iL fe) := ⟨(pi_list h.p).weak fun σ H R ⟨O, ms, F, δ, μ, ds, μ', S, ev, k⟩ => by
  obtain ⟨d1, μ1, e1, ev⟩ := eThen_some ev
  refine tE.seq S e1 fun v H1 ms1 F1 R1 s1 q1 => ?_
  split at ev
  · cases ev
    obtain ⟨a, xs, rfl, hs, hl⟩ := q1
    exact ⟨a, rfl, ⟨xs, SqL.of (R1.hr.sub _ _ hs)⟩, k _ H1 ms1 F1 R1.hr s1 (yld_list (Γ := gm X cl) hs hl)⟩
  · cases ev⟩
theorem di_tup (h : DE X cl e fe) : DI X cl tg e (iT fe) := ⟨(pi_tup h.p).weak fun σ H R ⟨O, ms, F, δ, μ, ds, μ', S, ev, k⟩ => by
  obtain ⟨d1, μ1, e1, ev⟩ := eThen_some ev
  refine tE.seq S e1 fun v H1 ms1 F1 R1 s1 q1 => ?_
  split at ev
  · cases ev
    obtain ⟨a, xs, rfl, hs, hl⟩ := q1
    exact ⟨a, rfl, ⟨xs, (Tp.same R1.hr.sub hs).sq⟩, k _ H1 ms1 F1 R1.hr s1 (yld_tup (Γ := gm X cl) hs hl)⟩
  · cases ev⟩
theorem di_str (h : DE X cl e fe) : DI X cl tg e (iS fe) := ⟨(pi_str h.p).weak fun σ H R ⟨O, ms, F, δ, μ, ds, μ', S, ev, k⟩ => by
  obtain ⟨d1, μ1, e1, ev⟩ := eThen_some ev
  refine tE.seq S e1 fun v H1 ms1 F1 R1 s1 q1 => ?_
  split at ev
  · cases ev
    exact ⟨_, q1, k _ H1 ms1 F1 R1.hr s1 (yld_str _)⟩
  · cases ev⟩
def iR1 (r : AF) : IF := aThen r fun ds _ μ => match ds with
  | [.int n] => if -(2 ^ 62) ≤ n ∧ n < 2 ^ 62 then some (rangeD 0 n.toNat, μ) else none
  | _ => none
def iR2 (r : AF) : IF := aThen r fun ds _ μ => match ds with
  | [.int m, .int n] => if (-(2 ^ 62) ≤ m ∧ m < 2 ^ 62) ∧ (-(2 ^ 62) ≤ n ∧ n < 2 ^ 62) then some (rangeD m (n - m).toNat, μ) else none
  | _ => none
theorem HasL.one' {Γ : Gm} {ms : List Addr} {F : Hp} {vs : List V} {d : D} (h : HasL Γ ms F vs [d]) : ∃ v, vs = [v] ∧ Has Γ ms F v d := by
  obtain ⟨v, ws, rfl, h1, h2⟩ := h
  cases h2
  exact ⟨v, rfl, h1⟩
theorem HasL.two' {Γ : Gm} {ms : List Addr} {F : Hp} {vs : List V} {d e : D} (h : HasL Γ ms F vs [d, e]) : ∃ v w, vs = [v, w] ∧ Has Γ ms F v d ∧ Has Γ ms F w e := by
  obtain ⟨v, ws, rfl, h1, h2⟩ := h
  obtain ⟨w, rfl, h3⟩ := h2.one'
  exact ⟨v, w, rfl, h1, h3⟩
theorem di_range1 {p : Pos} (hg : Gl X "range") (hm : X.mg "range" = none) (ha : DA X cl [a] r) (hs : starEach [a] X.env = [(false, eval a X.env)] := by rfl) : DI X cl tg (.Call (.Name "range" p) [a] [] pos) (iR1 r) := ⟨(pi_range1 hg hm ha.p hs).weak fun σ H R ⟨O, ms, F, δ, μ, ds, μ', S, ev, k⟩ => by
  obtain ⟨d1, μ1, e1, ev⟩ := aThen_some ev
  refine tA.seq S e1 fun v H1 ms1 F1 R1 s1 q1 => ?_
  split at ev
  · split at ev
    · rename_i hz
      cases ev
      obtain ⟨v, rfl, hv⟩ := q1.one'
      exact ⟨_, by rw [hv], hz.1, hz.2, k _ H1 ms1 F1 R1.hr s1 (yld_range _ _)⟩
    · cases ev
  · cases ev⟩
theorem di_range2 {p : Pos} (hg : Gl X "range") (hm : X.mg "range" = none) (ha : DA X cl [a, b] r) (hs : starEach [a, b] X.env = [(false, eval a X.env), (false, eval b X.env)] := by rfl) (hs2 : starEach [b] X.env = [(false, eval b X.env)] := by rfl) : DI X cl tg (.Call (.Name "range" p) [a, b] [] pos) (iR2 r) := ⟨(pi_range2 hg hm ha.p hs hs2).weak fun σ H R ⟨O, ms, F, δ, μ, ds, μ', S, ev, k⟩ => by
  obtain ⟨d1, μ1, e1, ev⟩ := aThen_some ev
  refine tA.seq S e1 fun v H1 ms1 F1 R1 s1 q1 => ?_
  split at ev
  · split at ev
    · rename_i hz
      cases ev
      obtain ⟨v, w, rfl, hv, hw⟩ := q1.two'
      exact ⟨_, _, by rw [hv, hw], ⟨hz.1.1, hz.1.2, hz.2.1, hz.2.2⟩, k _ H1 ms1 F1 R1.hr s1 (yld_range _ _)⟩
    · cases ev
  · cases ev⟩
def iE (r : AF) : IF := aThen r fun ds _ μ => match ds with
  | [.lst xs] => some (enumD xs, μ)
  | _ => none
def iZ (r : AF) : IF := aThen r fun ds _ μ => match ds with
  | [.lst xs, .lst ys] => some (zipD xs ys, μ)
  | _ => none
theorem di_enum {p tpos : Pos} {elts : List Expr} {kk : Nat} (hg : Gl X "enumerate") (hm : X.mg "enumerate" = none) (ha : DA X cl [e] r) (hs : starEach [e] X.env = [(false, eval e X.env)] := by rfl) : DI X cl (.Tuple elts kk tpos) (.Call (.Name "enumerate" p) [e] [] pos) (iE r) := ⟨(pi_enum hg hm ha.p hs).weak fun σ H R ⟨O, ms, F, δ, μ, ds, μ', S, ev, k⟩ => by
  obtain ⟨d1, μ1, e1, ev⟩ := aThen_some ev
  refine tA.seq S e1 fun v H1 ms1 F1 R1 s1 q1 => ?_
  split at ev
  · cases ev
    obtain ⟨v, rfl, a, xs, rfl, hs, hl⟩ := q1.one'
    exact ⟨a, xs, rfl, SqL.of (R1.hr.sub _ _ hs), k _ H1 ms1 F1 R1.hr s1 (yld_enum (Γ := gm X cl) hs hl)⟩
  · cases ev⟩
theorem di_zip {p tpos : Pos} {elts : List Expr} {kk : Nat} (hg : Gl X "zip") (hm : X.mg "zip" = none) (ha : DA X cl [a, b] r) (hs : starEach [a, b] X.env = (false, eval a X.env) :: starEach [b] X.env := by rfl) (hpl : (backTo pos (starEach [b] X.env)).any (·.1) = false := by rfl) : DI X cl (.Tuple elts kk tpos) (.Call (.Name "zip" p) [a, b] [] pos) (iZ r) := ⟨(pi_zip hg hm ha.p hs hpl).weak fun σ H R ⟨O, ms, F, δ, μ, ds, μ', S, ev, k⟩ => by
  obtain ⟨d1, μ1, e1, ev⟩ := aThen_some ev
  refine tA.seq S e1 fun v H1 ms1 F1 R1 s1 q1 => ?_
  split at ev
  · cases ev
    obtain ⟨v, w, rfl, ⟨a, xs, rfl, hs, hl⟩, b', ys, rfl, ht, hm'⟩ := q1.two'
    exact ⟨a, b', xs, ys, rfl, SqL.of (R1.hr.sub _ _ hs), SqL.of (R1.hr.sub _ _ ht), k _ H1 ms1 F1 R1.hr s1 (yld_zip (Γ := gm X cl) hs hl ht hm')⟩
  · cases ev⟩

/-! ### for -/
def forLoop (g : GF) (body : BF) : List D → List SV → List MO → Option Out
  | [], δ, μ => some (.nx δ μ)
  | d :: ds, δ, μ => match g d δ with
    | none => none
    | some δ1 => match body δ1 μ with
      | some (.nx δ2 μ2) => forLoop g body ds δ2 μ2
      | some (.ct δ2 μ2) => forLoop g body ds δ2 μ2
      | some (.bk δ2 μ2) => some (.nx δ2 μ2)
      | some (.rt d μ2) => some (.rt d μ2)
      | some (.xc C f m d δ2 μ2) => some (.xc C f m d δ2 μ2)
      | none => none
def bFor (i : IF) (g : GF) (body : BF) : BF := fun δ μ => match i δ μ with
  | some (ds, μ1) => forLoop g body ds δ μ1
  | none => none
theorem ds_for {iter : Expr} {body : List Stmt} {fi : IF} {tgt : GF} {bd : BF} (hp : PassesOwn (model X.prog X.w) X.A X.env X.xe) (hc : X.calm = true) (hi : DI X cl tg iter fi) (hg : DG X cl tg tgt ix) (hb : DB X cl body bd)
    (hs : ∀ x, foldedSetIterable iter X.env x = pure x := by intro _; rfl) : DS X cl (.For tg iter body [] pos) (bFor fi tgt bd) := ⟨(ps_for hp hc hi.p hg.p hb.p hs).weak fun D σ H ⟨O, ms, F, δ, μ, o, R, ev, hO, k⟩ => by
  unfold bFor at ev
  split at ev
  · rename_i ds μ1 e1
    refine ⟨O, ms, F, δ, μ, ds, μ1, R, e1, fun J H1 ms1 F1 r1 s1 Y => ?_⟩
    let P : Nat → L2.St → Hp → Prop := fun i σ H => ∃ ms F δ μ, SR (gm X cl) O ms F H σ δ μ ∧ Ext ms1 ms F1 F ∧ forLoop tgt bd (ds.drop i) δ μ = some o
    have k1 := k.step s1.ext
    refine ⟨fun i m σ H => m = ds.length - i ∧ i ≤ ds.length ∧ P i σ H, ⟨_, rfl, Nat.zero_le _, ms1, F1, δ, μ1, R.step r1 s1, Ext.refl _ _, by simpa using ev⟩, ?_⟩
    rintro i m σ2 H2 ⟨rfl, hi, ms2, F2, δ2, μ2, R2, x2, ev2⟩
    by_cases hlt : i < ds.length
    · have hd : ds[i]? = some ds[i] := List.getElem?_eq_getElem hlt
      rw [List.drop_eq_getElem_cons hlt] at ev2
      unfold forLoop at ev2
      refine .inr ⟨Y.go ms2 F2 H2 μ2 i R2.hr x2 hlt, P (i + 1), fun σ' H' p' => ⟨_, by omega, rfl, hlt, p'⟩, fun x H' y => ?_⟩
      obtain ⟨ms3, F3, r3, s3, q3⟩ := Y.yld ms2 F2 H2 μ2 i _ x H' R2.hr x2 hd y
      split at ev2
      · cases ev2
      · rename_i δ3 eg
        refine ⟨O, ms3, F3, δ2, μ2, _, δ3, R2.step r3 s3, q3, eg, fun σ4 R4 _ _ => ?_⟩
        have x3 : Ext ms1 ms3 F1 F3 := x2.trans s3.ext
        split at ev2
        · rename_i δ5 μ5 eb
          exact ⟨O, ms3, F3, δ3, μ2, _, R4, eb, hO, fun σ' H' m F' R' x => ⟨m, F', _, _, R', x3.trans x, ev2⟩⟩
        · rename_i δ5 μ5 eb
          exact ⟨O, ms3, F3, δ3, μ2, _, R4, eb, hO, fun σ' H' m F' R' x => ⟨m, F', _, _, R', x3.trans x, ev2⟩⟩
        · rename_i δ5 μ5 eb
          cases ev2
          exact ⟨O, ms3, F3, δ3, μ2, _, R4, eb, hO, fun σ' H' m F' R' x => k1 σ' H' m F' R' (x3.trans x)⟩
        · rename_i d5 μ5 eb
          cases ev2
          exact ⟨O, ms3, F3, δ3, μ2, _, R4, eb, hO, k1⟩
        · rename_i eb
          cases ev2
          exact ⟨O, ms3, F3, δ3, μ2, _, R4, eb, hO, k1.step x3⟩
        · cases ev2
    · have : i = ds.length := by omega
      subst this
      rw [List.drop_length] at ev2
      cases ev2
      exact .inl ⟨Y.stop ms2 F2 H2 μ2 _ R2.hr x2 (Nat.le_refl _), k1 σ2 H2 ms2 F2 R2 x2⟩
  · cases ev⟩
/-! ### while -/
def whileLoop (t : TF) (body : BF) : Nat → BF
  | 0 => fun _ _ => none
  | n + 1 => fun δ μ => match t δ μ with
    | none => none
    | some (false, μ1) => some (.nx δ μ1)
    | some (true, μ1) => match body δ μ1 with
      | some (.nx δ2 μ2) => whileLoop t body n δ2 μ2
      | some (.ct δ2 μ2) => whileLoop t body n δ2 μ2
      | some (.bk δ2 μ2) => some (.nx δ2 μ2)
      | some (.rt d μ2) => some (.rt d μ2)
      | some (.xc C f m d δ2 μ2) => some (.xc C f m d δ2 μ2)
      | none => none
theorem ds_while {c : Expr} {body : List Stmt} {tc : TF} {bd : BF} (fuel : Nat) (hp : PassesOwn (model X.prog X.w) X.A X.env X.xe) (hc : DT X cl c tc) (hb : DB X cl body bd) : DS X cl (.While c body [] pos) (whileLoop tc bd fuel) := ⟨(ps_while hp hc.p hb.p).weak fun D σ H ⟨O, ms, F, δ, μ, o, R, ev, hO, k⟩ => by
  let P : Nat → L2.St → Hp → Prop := fun m σ H => ∃ ms2 F2 δ μ, SR (gm X cl) O ms2 F2 H σ δ μ ∧ Ext ms ms2 F F2 ∧ whileLoop tc bd m δ μ = some o
  refine ⟨P, ⟨fuel, ms, F, δ, μ, R, Ext.refl _ _, ev⟩, ?_⟩
  rintro m σ2 H2 ⟨ms2, F2, δ2, μ2, R2, x2, ev2⟩
  cases m with
  | zero => cases ev2
  | succ m =>
    unfold whileLoop at ev2
    split at ev2
    · cases ev2
    · rename_i μ3 et
      cases ev2
      refine tT.seq R2 et fun H3 ms3 F3 R3 s3 => ?_
      exact k σ2 H3 ms3 F3 R3 (x2.trans s3.ext)
    · rename_i μ3 et
      refine tT.seq R2 et fun H3 ms3 F3 R3 s3 => ?_
      have x3 : Ext ms ms3 F F3 := x2.trans s3.ext
      refine ⟨P m, fun σ' H' p => ⟨m, Nat.lt_succ_self _, p⟩, ?_⟩
      split at ev2
      · rename_i δ5 μ5 eb
        exact ⟨O, ms3, F3, δ2, μ3, _, R3, eb, hO, fun σ' H' m' F' R' x => ⟨m', F', _, _, R', x3.trans x, ev2⟩⟩
      · rename_i δ5 μ5 eb
        exact ⟨O, ms3, F3, δ2, μ3, _, R3, eb, hO, fun σ' H' m' F' R' x => ⟨m', F', _, _, R', x3.trans x, ev2⟩⟩
      · rename_i δ5 μ5 eb
        cases ev2
        exact ⟨O, ms3, F3, δ2, μ3, _, R3, eb, hO, fun σ' H' m' F' R' x => k σ' H' m' F' R' (x3.trans x)⟩
      · rename_i d5 μ5 eb
        cases ev2
        exact ⟨O, ms3, F3, δ2, μ3, _, R3, eb, hO, k⟩
      · rename_i eb
        cases ev2
        exact ⟨O, ms3, F3, δ2, μ3, _, R3, eb, hO, k.step x3⟩
      · cases ev2⟩
/-- a, b = e (e a tuple) -/
def bAsg (f : EF) (g : GF) : BF := fun δ μ => match f δ μ with
  | some (d, μ1) => match g d δ with
    | some δ1 => some (.nx δ1 μ1)
    | none => none
  | none => none
theorem ds_asg {tg e : Expr} {tgt : GF} (he : DE X cl e fe) (hg : DG X cl tg tgt ix) (hs : swapsWithSole [tg] e pos.line X.env = pure false := by rfl) (hw : swappedStores [tg] e X.env = pure none := by rfl) (h1 : (assignEach [tg] X.env).map (·.2) = [assign tg X.env] := by rfl) : DS X cl (.Assign [tg] e pos) (bAsg fe tgt) := ⟨(ps_asg he.p hg.p hs hw h1).weak fun D σ H ⟨O, ms, F, δ, μ, o, R, ev, hO, k⟩ => by
  unfold bAsg at ev
  split at ev
  · rename_i d μ1 e1
    split at ev
    · rename_i δ1 eg
      cases ev
      refine tE.seq R e1 fun v H1 ms1 F1 R1 s1 q1 => ?_
      exact ⟨O, ms1, F1, δ, μ1, d, δ1, R1, q1, eg, fun σ' R' _ _ => k σ' H1 ms1 F1 R' s1.ext⟩
    · cases ev
  · cases ev⟩
/-- a, b = e1, e2 -/
def bPar (i j : Nat) (r : AF) : BF := fun δ μ => match r δ μ with
  | some ([x, y], μ1) => some (.nx ((δ.set i (.d x)).set j (.d y)) μ1)
  | _ => none
theorem ds_par {i j : Nat} {x y : Str} {px py pt : Pos} {kt k2 pt2} (hc : X.calm = true) (hN : X.N.Nodup) (hi : X.N[i]? = some x) (hj : X.N[j]? = some y) (hij : i ≠ j)
    (hx : X.env.scope.names.lookup x = some .local) (hy : X.env.scope.names.lookup y = some .local) (ha : DA X cl [a, b] r)
    (hw : swappedStores [.Tuple [.Name x px, .Name y py] kt pt] (.Tuple [a, b] k2 pt2) X.env = pure (some [x, y]))
    (hs : swapsWithSole [.Tuple [.Name x px, .Name y py] kt pt] (.Tuple [a, b] k2 pt2) pos.line X.env = pure false := by rfl) :
    DS X cl (.Assign [.Tuple [.Name x px, .Name y py] kt pt] (.Tuple [a, b] k2 pt2) pos) (bPar i j r) := ⟨(ps_par hc hN hi hj hij hx hy ha.p hw hs).weak fun D σ H ⟨O, ms, F, δ, μ, o, R, ev, hO, k⟩ => by
  unfold bPar at ev
  split at ev
  · rename_i d1 d2 μ1 e1
    cases ev
    refine tA.seq R e1 fun vs H1 ms1 F1 R1 s1 q1 => ?_
    obtain ⟨v, w, rfl, hv, hw⟩ := q1.two'
    exact ⟨v, w, rfl, k _ H1 ms1 F1 ((R1.set hv i).set hw j) s1.ext⟩
  · cases ev⟩
end
end G

set_option Elab.async false
set_option linter.all false
set_option autoImplicit false
set_option maxRecDepth 100000
set_option maxHeartbeats 2000000
namespace G
open PySem PySem.Spec PySem.Calls L2

/-! ### list comprehensions -/
def wipeD (δ : List SV) : List Nat → List SV
  | [] => δ
  | v :: vs => (wipeD δ vs).set v .no
section
variable {Γ : Gm} {O : Og} {ms : List Addr} {F H : Hp} {σ : L2.St} {δ : List SV} {μ : List MO}
theorem SR.wipe (R : SR Γ O ms F H σ δ μ) : ∀ vs : List Nat, SR Γ O ms F H (L2.wipe σ vs) (wipeD δ vs) μ
  | [] => R
  | v :: vs => (SR.wipe R vs).drop v none
theorem wipe_in {σ : L2.St} {i : Nat} (hi : i < σ.length) : ∀ {vs : List Nat}, i ∈ vs → (L2.wipe σ vs)[i]? = some none
  | [], h => nomatch h
  | v :: vs, h => by
    unfold L2.wipe
    by_cases hv : v = i
    · subst hv
      rw [List.getElem?_set_self (by rw [wipe_length]; exact hi)]
    · rw [List.getElem?_set_ne hv]
      rcases List.mem_cons.mp h with z | z
      · exact absurd z.symm hv
      · exact wipe_in hi z
theorem wipe_eq {σ σ' : L2.St} {vs ix : List Nat} (hl : σ'.length = (L2.wipe σ vs).length) (ha : ∀ j, j ∉ ix → σ'[j]? = (L2.wipe σ vs)[j]?) (hx : ∀ j ∈ ix, j ∈ vs) : L2.wipe σ' vs = L2.wipe σ vs := by
  rw [wipe_length] at hl
  apply List.ext_getElem?
  intro j
  by_cases hj : j ∈ vs
  · by_cases hlt : j < σ.length
    · rw [wipe_in hlt hj, wipe_in (by omega) hj]
    · rw [List.getElem?_eq_none (by rw [wipe_length]; omega), List.getElem?_eq_none (by rw [wipe_length]; omega)]
  · rw [wipe_out hj, wipe_out hj, ha j (fun z => hj (hx j z)), wipe_out hj]
theorem HR.other (h : HR Γ ms F H μ) {p : Addr} (hm : p ∉ ms) (hF : F p = none) (o : HO) : HR Γ ms F (upd H p o) μ := by
  refine ⟨fun b u e => ?_, h.out, h.len, h.nd, fun k u e => ?_⟩
  · have hne : b ≠ p := fun z => by rw [z, hF] at e; cases e
    rw [upd_ne hne]; exact h.sub b u e
  · obtain ⟨a, ea, m⟩ := h.obj k u e
    have hne : a ≠ p := fun z => hm (by rw [← z]; exact List.mem_of_getElem? ea)
    have m' := m.mono (new := []) (H' := upd H p o) (Same.refl F) (fun o' q => by rw [upd_ne hne]; exact q)
    rw [List.append_nil] at m'
    exact ⟨a, ea, m'⟩
end
def lcLoop (g : GF) (tt : TF) (te : EF) (δ : List SV) : List D → List MO → Option (List D × List MO)
  | [], μ => some ([], μ)
  | d :: ds, μ => match g d δ with
    | none => none
    | some δ1 => match tt δ1 μ with
      | none => none
      | some (false, μ1) => lcLoop g tt te δ ds μ1
      | some (true, μ1) => match te δ1 μ1 with
        | none => none
        | some (y, μ2) => match lcLoop g tt te δ ds μ2 with
          | some (ys, μ3) => some (y :: ys, μ3)
          | none => none
def nLc (i : IF) (g : GF) (tt : TF) (te : EF) (vs : List Nat) : NF := fun δ μ => match i δ μ with
  | some (ds, μ1) => if ds.length ≤ 1000000 then lcLoop g tt te (wipeD δ vs) ds μ1 else none
  | none => none
structure DTs (X : Cx) (cl : Nat → Addr) (es : List Expr) (f : TF) : Prop where
  p : PTs X es (tT (gm X cl) f)
theorem _root_.L2.PTs.weak {X : Cx} {es : List Expr} {t t' : TT} (h : PTs X es t) (k : ∀ σ H Q, t' σ H Q → t σ H Q) : PTs X es t' := ⟨fun pins s σ H Q I q => h.run pins s σ H Q I (k σ H Q q)⟩
def tYesD : TF := fun _ μ => some (true, μ)
theorem dts_nil {X : Cx} {cl : Nat → Addr} : DTs X cl [] tYesD := ⟨pts_nil.weak fun σ H Q ⟨O, ms, F, δ, μ, d, μ', R, ev, k⟩ => by cases ev; exact k H ms F R.hr (Stp.refl _ _ _)⟩
theorem dts_one {X : Cx} {cl : Nat → Addr} {c : Expr} {t : TF} (h : DT X cl c t) : DTs X cl [c] t := ⟨pts_one h.p⟩
section
variable {X : Cx} {cl : Nat → Addr}
theorem lc_run {fi : IF} {g : GF} {tt : TF} {te : EF} {ix vs : List Nat} {Γ : Gm} {σ : L2.St} {H : Hp} {Q : VK} (hix : ∀ j ∈ ix, j ∈ vs) (h : tN Γ (nLc fi g tt te vs) σ H Q) : tLc (tI Γ fi) (tG Γ g ix) (tT Γ tt) (tE Γ te) vs σ H Q := by
  obtain ⟨O, ms, F, δ, μ, dz, μ', R, ev, k⟩ := h
  unfold nLc at ev
  split at ev
  · rename_i ds μ1 e1
    split at ev
    · rename_i hz
      refine ⟨O, ms, F, δ, μ, ds, μ1, R, e1, fun J H1 ms1 F1 r1 s1 Y D0 hD0 => ?_⟩
      have R1 := R.step r1 s1
      let P : Nat → Hp → Prop := fun i H => ∃ ms F μ acc accV ys, HR Γ ms F H μ ∧ Stp ms1 ms F1 F H1 H ∧ H D0 = some (.lst accV) ∧ HasL Γ ms F accV acc ∧ D0 ∉ ms ∧ F D0 = none ∧ acc.length ≤ i ∧ lcLoop g tt te (wipeD δ vs) (ds.drop i) μ = some (ys, μ') ∧ acc ++ ys = dz
      obtain ⟨r0, s0⟩ := r1.extra hD0 (.lst [])
      refine ⟨fun i m H => m = ds.length - i ∧ i ≤ ds.length ∧ P i H, ⟨_, rfl, Nat.zero_le _, ms1, F1, μ1, [], [], dz, r0, s0, upd_same, rfl, (r1.fresh_not hD0).1, (r1.fresh_not hD0).2, Nat.le_refl _, by simpa using ev, rfl⟩, ?_⟩
      rintro i m H2 ⟨rfl, hi, ms2, F2, μ2, acc, accV, ys, r2, s2, hD2, hl2, hm2, hF2, hai, ev2, et⟩
      by_cases hlt : i < ds.length
      · have hd : ds[i]? = some ds[i] := List.getElem?_eq_getElem hlt
        rw [List.drop_eq_getElem_cons hlt] at ev2
        unfold lcLoop at ev2
        refine .inr ⟨Y.go ms2 F2 H2 μ2 i r2 s2.ext hlt, P (i + 1), fun H' p' => ⟨_, by omega, rfl, hlt, p'⟩, fun x H' y => ?_⟩
        obtain ⟨ms3, F3, r3, s3, q3⟩ := Y.yld ms2 F2 H2 μ2 i _ x H' r2 s2.ext hd y
        split at ev2
        · cases ev2
        · rename_i δ3 eg
          have s13 := s2.trans' r2 s3
          have R3 := (R1.step r3 s13).wipe vs
          have hD3 : H' D0 = some (.lst accV) := s3.keep D0 _ hD2 hm2
          have notin : ∀ {msa msb : List Addr} {Fa Fb Ha Hb : Hp}, Stp msa msb Fa Fb Ha Hb → D0 ∉ msa → Ha D0 = some (.lst accV) → D0 ∉ msb := fun {msa msb Fa Fb Ha Hb} s hn hD z => by
            obtain ⟨new, e, fr⟩ := s.new
            rw [e] at z
            rcases List.mem_append.mp z with z | z
            · exact hn z
            · rw [fr D0 z] at hD; cases hD
          have hm3 := notin s3 hm2 hD2
          have hF3 : F3 D0 = none := s3.fnew D0 hF2 (by rw [hD2]; exact fun q => nomatch q)
          refine ⟨O, ms3, F3, _, μ2, _, δ3, R3, q3, eg, fun σ4 R4 l4 a4 => ⟨wipe_eq l4 a4 hix, ?_⟩⟩
          split at ev2
          · cases ev2
          · rename_i μ5 etst
            refine tT.seq R4 etst fun H5 ms5 F5 R5 s5 => ?_
            refine iteF ?_
            exact ⟨ms5, F5, _, acc, accV, ys, R5.hr, s13.trans' r3 s5, s5.keep D0 _ hD3 hm3, (hl2.step s3).step s5, notin s5 hm3 hD3, s5.fnew D0 hF3 (by rw [hD3]; exact fun q => nomatch q), by omega, ev2, et⟩
          · rename_i μ5 etst
            refine tT.seq R4 etst fun H5 ms5 F5 R5 s5 => ?_
            refine iteT ?_
            have hD5 := s5.keep D0 _ hD3 hm3
            have hm5 := notin s5 hm3 hD3
            have hF5 : F5 D0 = none := s5.fnew D0 hF3 (by rw [hD3]; exact fun q => nomatch q)
            split at ev2
            · cases ev2
            · rename_i y μ6 ee
              refine tE.seq R5 ee fun v H6 ms6 F6 R6 s6 q6 => ?_
              split at ev2
              · rename_i ys' μ7 el
                cases ev2
                have hD6 := s6.keep D0 _ hD5 hm5
                have hm6 := notin s6 hm5 hD5
                have hF6 : F6 D0 = none := s6.fnew D0 hF5 (by rw [hD5]; exact fun q => nomatch q)
                have s16 : Stp ms1 ms6 F1 F6 H1 H6 := (s13.trans' r3 s5).trans' R5.hr s6
                have hacc : HasL Γ ms6 F6 accV acc := ((hl2.step s3).step s5).step s6
                refine ⟨accV, hD6, by rw [hacc.length, sizeLine_eq]; omega, ms6, F6, _, acc ++ [y], accV ++ [v], ys', R6.hr.other hm6 hF6 _, ⟨s16.new, fun b o e hn => ?_, s16.fsub, s16.fnew⟩, upd_same, hacc.append (HasL.one q6), hm6, hF6, by simp; omega, el, by rw [← et]; simp⟩
                have hne : b ≠ D0 := fun z => by rw [z, hD0] at e; cases e
                rw [upd_ne hne]; exact s16.keep b o e hn
              · cases ev2
      · have : i = ds.length := by omega
        subst this
        rw [List.drop_length] at ev2
        cases ev2
        have et' : acc = dz := by rw [← et]; simp
        subst et'
        refine .inl ⟨Y.stop ms2 F2 H2 _ _ r2 s2.ext (Nat.le_refl _), k accV H2 ms2 F2 D0 r2 (s1.trans' r1 s2) hl2 hD2 (s1.old r1 D0 hD0) hm2 hF2⟩
    · cases ev
  · cases ev
theorem gmB {s : Shared} {H : Hp} {scope : Scope} {fp : List Addr} (hc : X.calm = true) (cl : Nat → Addr) (e : Env) : gm (X.blk s H scope e fp) cl = gm X cl := by
  show Gm.mk X.K cl (bif X.calm then none else none) = Gm.mk X.K cl (bif X.calm then none else X.pn.head?)
  rw [hc]; rfl
theorem dn_lc {elt tg iter : Expr} {ifs : List Expr} {scope : Scope} {own : List (Str × Nat)} {pos : Pos} {fi : IF} {g : GF} {tt : TF} {te : EF} {ix : List Nat} (hc : X.calm = true) (hN : X.N.Nodup) (hi : DI X cl tg iter fi) (ok : BlkOk X.N X.env.scope scope own)
    (hg : ∀ (s : Shared) (H : Hp) (C : Addr) (cls : List (Str × Addr)) (fp : List Addr), DG (X.blk s H scope (compEnvC scope cls C X.env) fp) cl tg g ix) (ht : ∀ (s : Shared) (H : Hp) (C : Addr) (cls : List (Str × Addr)) (fp : List Addr), DTs (X.blk s H scope (compEnvC scope cls C X.env) fp) cl ifs tt)
    (he : ∀ (s : Shared) (H : Hp) (C : Addr) (cls : List (Str × Addr)) (fp : List Addr), DE (X.blk s H scope (compEnvC scope cls C X.env) fp) cl elt te) (hix : ∀ j ∈ ix, j ∈ own.map (·.2) := by decide) (hs : ∀ x, foldedSetIterable iter X.env x = pure x := by intro _; rfl) :
    DN X cl (.ListComp elt [⟨tg, iter, ifs, 0⟩] scope pos) (nLc fi g tt te (own.map (·.2))) := ⟨(pe_lc hc hN hi.p ok (g := tG (gm X cl) g ix) (tt := tT (gm X cl) tt) (te := tE (gm X cl) te) (fun s H C cls fp => gmB hc _ _ ▸ (hg s H C cls fp).p) (fun s H C cls fp => gmB hc _ _ ▸ (ht s H C cls fp).p) (fun s H C cls fp => gmB hc _ _ ▸ (he s H C cls fp).p) hs).weak fun σ H Q h => lc_run hix h⟩
/-- name = [..] on one line -/
theorem bSet_frz {Γ : Gm} {W : WX × Hp} {i : Nat} {n : NF} {D : Ends} {σ : L2.St} {H : Hp} (h : tS Γ W (bSet i (eFrz n)) D σ H) : tN Γ n σ H fun x H1 => D.nx (σ.set i (some x)) H1 := by
  obtain ⟨O, ms, F, δ, μ, o, R, ev, hO, k⟩ := h
  unfold bSet eFrz at ev
  cases en : n δ μ with
  | none => rw [en] at ev; cases ev
  | some q =>
    obtain ⟨ds, μ1⟩ := q
    rw [en] at ev
    cases ev
    refine ⟨O, ms, F, δ, μ, ds, μ1, R, en, FinN.of1 fun v H1 ms1 F1 r1 s1 q1 => ?_⟩
    exact k _ H1 ms1 F1 ((R.step r1 s1).set q1 i) s1.ext
theorem bOwn_run {Γ : Gm} {W : WX × Hp} {i : Nat} {n : NF} {D : Ends} {σ : L2.St} {H : Hp} (h : tS Γ W (bOwn i n) D σ H) : tN Γ n σ H fun x H1 => D.nx (σ.set i (some x)) H1 := by
  obtain ⟨O, ms, F, δ, μ, o, R, ev, hO, k⟩ := h
  unfold bOwn at ev
  split at ev
  · rename_i d μ1 e1
    cases ev
    refine ⟨O, ms, F, δ, μ, d, _, R, e1, fun vs H1 ms1 F1 p r1 s1 q1 hp h0 hm hF => ?_⟩
    exact k _ H1 ms1 F1 ((R.step r1 s1).own hp q1 hF hm (R.old0 h0) (fun j es e => R.notOwn h0 j es e) i) s1.ext
  · cases ev
section
variable {i : Nat} {y : Str} {py : Pos} {elt tg iter : Expr} {ifs : List Expr} {scope : Scope} {own : List (Str × Nat)} {pos spos : Pos} {fi : IF} {g : GF} {tt : TF} {te : EF} {ix : List Nat}
theorem ds_lc (hc : X.calm = true) (hN : X.N.Nodup) (hy : X.N[i]? = some y) (hyl : X.env.scope.names.lookup y = some .local) (hsw : swapsWith (.ListComp elt [⟨tg, iter, ifs, 0⟩] scope pos) (some (.Name y py)) spos.line X.env = pure true) (hi : DI X cl tg iter fi) (ok : BlkOk X.N X.env.scope scope own)
    (hg : ∀ (s : Shared) (H : Hp) (C : Addr) (cls : List (Str × Addr)) (fp : List Addr), DG (X.blk s H scope (compEnvC scope cls C X.env) fp) cl tg g ix) (ht : ∀ (s : Shared) (H : Hp) (C : Addr) (cls : List (Str × Addr)) (fp : List Addr), DTs (X.blk s H scope (compEnvC scope cls C X.env) fp) cl ifs tt)
    (he : ∀ (s : Shared) (H : Hp) (C : Addr) (cls : List (Str × Addr)) (fp : List Addr), DE (X.blk s H scope (compEnvC scope cls C X.env) fp) cl elt te) (hix : ∀ j ∈ ix, j ∈ own.map (·.2) := by decide) (hs : ∀ x, foldedSetIterable iter X.env x = pure x := by intro _; rfl) :
    DS X cl (.Assign [.Name y py] (.ListComp elt [⟨tg, iter, ifs, 0⟩] scope pos) spos) (bSet i (eFrz (nLc fi g tt te (own.map (·.2))))) :=
  ⟨(ps_setLc hc hN hy hyl hsw hi.p ok (g := tG (gm X cl) g ix) (tt := tT (gm X cl) tt) (te := tE (gm X cl) te) (fun s H C cls fp => gmB hc _ _ ▸ (hg s H C cls fp).p) (fun s H C cls fp => gmB hc _ _ ▸ (ht s H C cls fp).p) (fun s H C cls fp => gmB hc _ _ ▸ (he s H C cls fp).p) hs).weak fun D σ H h => lc_run hix (bSet_frz h)⟩
theorem ds_lcO (hc : X.calm = true) (hN : X.N.Nodup) (hy : X.N[i]? = some y) (hyl : X.env.scope.names.lookup y = some .local) (hsw : swapsWith (.ListComp elt [⟨tg, iter, ifs, 0⟩] scope pos) (some (.Name y py)) spos.line X.env = pure true) (hi : DI X cl tg iter fi) (ok : BlkOk X.N X.env.scope scope own)
    (hg : ∀ (s : Shared) (H : Hp) (C : Addr) (cls : List (Str × Addr)) (fp : List Addr), DG (X.blk s H scope (compEnvC scope cls C X.env) fp) cl tg g ix) (ht : ∀ (s : Shared) (H : Hp) (C : Addr) (cls : List (Str × Addr)) (fp : List Addr), DTs (X.blk s H scope (compEnvC scope cls C X.env) fp) cl ifs tt)
    (he : ∀ (s : Shared) (H : Hp) (C : Addr) (cls : List (Str × Addr)) (fp : List Addr), DE (X.blk s H scope (compEnvC scope cls C X.env) fp) cl elt te) (hix : ∀ j ∈ ix, j ∈ own.map (·.2) := by decide) (hs : ∀ x, foldedSetIterable iter X.env x = pure x := by intro _; rfl) :
    DS X cl (.Assign [.Name y py] (.ListComp elt [⟨tg, iter, ifs, 0⟩] scope pos) spos) (bOwn i (nLc fi g tt te (own.map (·.2)))) :=
  ⟨(ps_setLc hc hN hy hyl hsw hi.p ok (g := tG (gm X cl) g ix) (tt := tT (gm X cl) tt) (te := tE (gm X cl) te) (fun s H C cls fp => gmB hc _ _ ▸ (hg s H C cls fp).p) (fun s H C cls fp => gmB hc _ _ ▸ (ht s H C cls fp).p) (fun s H C cls fp => gmB hc _ _ ▸ (he s H C cls fp).p) hs).weak fun D σ H h => lc_run hix (bOwn_run h)⟩
end
end

/-! ### defs -/
abbrev FF := List D → List MO → Option (D × List MO)
def spF (Γ : Gm) (n : Nat) (fn : FF) : Sp := fun vs H Q E => ∃ ms F ds μ d μ', HR Γ ms F H μ ∧ HasL Γ ms F vs ds ∧ ds.length = n ∧ fn ds μ = some (d, μ') ∧ Fin1 Γ ms F H d μ' Q
def startD (n : Nat) (ds : List D) : List SV := ds.map SV.d ++ List.replicate (n - ds.length) SV.no
def runB (n : Nat) (body : BF) : FF := fun ds μ => match body (startD n ds) μ with
  | some (.nx _ μ') => some (.non, μ')
  | some (.rt d μ') => some (d, μ')
  | _ => none
theorem SR.start {Γ : Gm} {ms : List Addr} {F H : Hp} {vs : List V} {ds : List D} {μ : List MO} {N : List Str} (r : HR Γ ms F H μ) (q : HasL Γ ms F vs ds) : SR Γ ⟨ms, F, H⟩ ms F H (L2.start N vs) (startD N.length ds) μ := by
  refine ⟨r, ⟨by simp [L2.start, startD, q.length], fun i sv e => ?_, fun i j a xs ys e1 e2 f1 f2 => ?_⟩, Stp.refl _ _ _⟩
  · unfold startD at e
    by_cases hi : i < ds.length
    · rw [List.getElem?_append_left (by simpa using hi), List.getElem?_map, List.getElem?_eq_getElem hi] at e
      cases e
      obtain ⟨v, hv, h⟩ := q.get (List.getElem?_eq_getElem hi)
      refine ⟨v, ?_, h⟩
      unfold L2.start
      rw [List.getElem?_append_left (by simp [q.length]; exact hi), List.getElem?_map, hv]
      rfl
    · rw [List.getElem?_append_right (by simpa using Nat.le_of_not_lt hi)] at e
      have := List.mem_of_getElem? e
      rw [List.mem_replicate] at this
      rw [this.2]; trivial
  · exfalso
    unfold startD at e1
    by_cases hi : i < ds.length
    · rw [List.getElem?_append_left (by simpa using hi), List.getElem?_map, List.getElem?_eq_getElem hi] at e1
      cases e1
    · rw [List.getElem?_append_right (by simpa using Nat.le_of_not_lt hi)] at e1
      have := List.mem_of_getElem? e1
      rw [List.mem_replicate] at this
      cases this.2
/-- a def, called where no repr is under way -/
structure FnG (P : Program) (w : World) (K : PySem.W.Frag) (mg : Str → Option Value) (base : Heap) (k : Nat) (f : Addr) (fd : FuncData) (n : Nat) (ps : List Str) (sp : Sp) : Prop where
  len : ∀ vs H Q E, sp vs H Q E → vs.length = n
  pl : ps.length = n
  go : ∀ {A : Around} {outer : List Env} {s : Shared} {H : Hp} {args : Args} {us : List Value} {vs : List V} {Q : VK}, A.guards = some [] → Room k A → Env0 P w K mg base A outer s H →
    BindsTo s fd args (ps.zip us) → Vals vs us → sp vs H Q E0 → codeAny (model P w) A (.call (.ref f) args) (CR CX0 outer P w H s Q E0) s
section
variable {P : Program} {w : World} {K : PySem.W.Frag} {mg : Str → Option Value} {base : Heap} {cl : Nat → Addr}
theorem fnG_of {x qual : Str} {st : Stmt} {f : Addr} {fd : FuncData} {N ps : List Str} {k n : Nat} {sp : Sp} (F : Fun K x qual st f fd) (S : FnScope N ps (defScope st)) (hn : ps.length = n)
    (len : ∀ vs H Q E, sp vs H Q E → vs.length = n)
    (body : ∀ (cdv : Value) (A : Around) (outer : List Env) (s : Shared) (H : Hp) (vs : List V) (Q : VK), (A.deeper (PyProof.Rows.envOfC qual (defScope st) s.heap.objs.size f cdv)).guards = some [] →
      Room k (A.deeper (PyProof.Rows.envOfC qual (defScope st) s.heap.objs.size f cdv)) → sp vs H Q E0 →
      ∃ t, PSs (cxOf CX0 P w K mg base N qual (defScope st) f cdv A outer s H E0).nox (defBody st) t ∧ t { nx := fun _ H' => Q .non H', rt := Q } (L2.start N vs) H) : FnG P w K mg base (k + 1) f fd n ps sp := by
  obtain ⟨oc, od, kV, doc, pm, an, cdv, ct, osl, rfl, lk, hcd⟩ := F.ex
  refine ⟨len, hn, ?_⟩
  intro A outer s H args us vs Q hg hr e0 hb rv hsp
  have hl : vs.length = ps.length := (len _ _ _ _ hsp).trans hn.symm
  have old : ∀ b o, base.get? b = some o → s.heap.get? b = some o := fun b o e => (e0.bs b o e).1
  have kin := e0.mod.kin.keeps old
  have kinds : ∀ y ∈ ps.zip us, (defScope st).names.lookup y.1 = some .local ∨
      ((defScope st).names.lookup y.1 = some .cell ∧ ((cellsFrom (s.heap.objs.size + 1) (defScope st).names []).lookup y.1).isSome = true) := by
    rintro ⟨z, v⟩ hy
    rcases S.par z (List.of_mem_zip hy).1 with c | c
    · exact Or.inl c
    · exact Or.inr ⟨c, PySem.W.cellsFrom_some _ _ _ (Or.inl c)⟩
  refine codeAny_call_function hr.depth (kin _ _ lk) rfl S.co S.gen rfl
    (PySem.W.codeRec_of kin hcd) (hb _ _ _ _ ?_)
  refine wpAny_newFunctionEnv_cells S.kind kinds fun env he s1 ic => ?_
  subst he
  refine ⟨(e0.mod.nolimit.keeps old).keeps ic.toInCall.keep, codeAny_func ?_⟩
  obtain ⟨t, ht, hq⟩ := body cdv A outer s H vs Q hg (hr.deeper _) hsp
  have inv := inv_start (CX := CX0) (E := E0) S hr.hd e0 hl rv ic
  refine wpAny_mono (ht.nox.run [] s1 _ H _ inv hq) (fun fl s' hs => ?_) fun _ _ hs => hs
  cases fl with
  | next => obtain ⟨σ', H', J, q⟩ := hs; exact ⟨V.non, H', J.os, J.bare, J.base, J.hok, rfl, q⟩
  | ret u => obtain ⟨v, σ', H', J, r, q⟩ := hs; exact ⟨v, H', J.os, J.bare, J.base, J.hok, r, q⟩
  | brk => obtain ⟨_, _, _, q⟩ := hs; exact q.elim
  | cont => obtain ⟨_, _, _, q⟩ := hs; exact q.elim
theorem fn_ok {x qual : Str} {st : Stmt} {f : Addr} {fd : FuncData} {N ps : List Str} {k n : Nat} {body : BF} (F : Fun K x qual st f fd) (S : FnScope N ps (defScope st)) (hn : ps.length = n)
    (hB : ∀ (cdv : Value) (A : Around) (outer : List Env) (s : Shared) (H : Hp), (A.deeper (PyProof.Rows.envOfC qual (defScope st) s.heap.objs.size f cdv)).guards = some [] → Room k (A.deeper (PyProof.Rows.envOfC qual (defScope st) s.heap.objs.size f cdv)) →
      DB (cxOf CX0 P w K mg base N qual (defScope st) f cdv A outer s H E0).nox cl (defBody st) body) : FnG P w K mg base (k + 1) f fd n ps (spF (gk K cl) n (runB N.length body)) := by
  refine fnG_of F S hn (fun vs H Q E h => ?_) fun cdv A outer s H vs Q hg hr h => ⟨tS (gk K cl) (W0 (cxOf CX0 P w K mg base N qual (defScope st) f cdv A outer s H E0).nox) body, ?_, ?_⟩
  · obtain ⟨ms, F, ds, μ, d, μ', r, q, hl, _⟩ := h
    rw [q.length]; exact hl
  · exact (hB cdv A outer s H hg hr).p
  · obtain ⟨ms, F, ds, μ, d, μ', r, q, hl, ev, k⟩ := h
    unfold runB at ev
    split at ev
    · rename_i δ' μ2 e
      cases ev
      exact ⟨⟨ms, F, H⟩, ms, F, _, μ, _, SR.start r q, e, rfl, fun σ' H' ms' F' R' x => k .non H' ms' F' R'.hr R'.st rfl⟩
    · rename_i d' μ2 e
      cases ev
      exact ⟨⟨ms, F, H⟩, ms, F, _, μ, _, SR.start r q, e, rfl, fun v H' ms' F' r' s' q' => k v H' ms' F' r' s' q'⟩
    · cases ev
end
section
variable {X : Cx} {cl : Nat → Addr} {e : Expr} {es : List Expr} {pos p : Pos} {r : AF} {k n : Nat} {f : Addr} {fd : FuncData} {ps : List Str} {fn : FF} {dvs : List V} {ds : List Value} {dds : List D} {x : Str}
theorem runG {sp : Sp} {pins : List (Addr × Obj)} {σ : L2.St} {H : Hp} {s : Shared} {Q : VK} {us : List Value} {vs : List V} (Gf : FnG X.prog X.w X.K X.mg X.base k f fd n ps sp) (hgd : X.A.guards = some []) (hr : Room k X.A)
    (hb : Binds X.K fd ps ds) (hd : Vals dvs ds) (I : Inv X pins σ H s) (rv : Vals vs us) (h : sp (vs ++ dvs) H Q E0) : wpAny (model X.prog X.w) X.A (call (.ref f) us) (EP X pins σ Q) X.xe s := by
  have rr : Vals (vs ++ dvs) (us ++ ds) := rv.append hd
  have hl : (us ++ ds).length = ps.length := by rw [← rr.length, Gf.pl]; exact Gf.len _ _ _ _ h
  refine wpAny_call (codeAny_mono (Gf.go hgd hr I.env0 (hb s us I.kIn hl) rr h) fun z s' hq => ?_)
  cases z with
  | error _ => exact (show False from hq).elim
  | ok fl =>
    cases fl with
    | ret u => exact I.after hq
    | next => exact (show False from hq).elim
    | brk => exact (show False from hq).elim
    | cont => exact (show False from hq).elim
def eFn (fn : FF) (dds : List D) (r : AF) : EF := aThen r fun xs _ μ => fn (xs ++ dds) μ
theorem pe_callG {sp : Sp} {t : TA} (Gf : FnG X.prog X.w X.K X.mg X.base k f fd n ps sp) (hgd : X.A.guards = some []) (hr : Room k X.A) (hg : Gl X x) (hm : X.mg x = some (.ref f)) (hk : PySem.W.keepIn X.K (.ref f) = true) (hb : Binds X.K fd ps ds) (hd : Vals dvs ds)
    (ha : PA X (e :: es) t) (hdb : (x == ("__debug__" : Str)) = false := by decide) (he : starEach (e :: es) X.env = (false, eval e X.env) :: starEach es X.env := by rfl) (hpl : (backTo pos (starEach es X.env)).any (·.1) = false := by rfl) :
    PE X (.Call (.Name x p) (e :: es) [] pos) (tCall sp dvs E0 t) := by
  constructor
  intro pins s σ H Q I h
  refine wpAny_Call_Name_kw (ld_glob I hg hm ?_ hdb)
  refine PySem.W.callWith_K (h₀ := X.base) I.ok.mod.kin hk ?_ he hpl
  refine thn (ha.run pos pins s σ H _ I h) ?_
  rintro us s1 ⟨vs, H1, I1, rv, q⟩
  exact ⟨I1.kIn, runG Gf hgd hr hb hd I1 rv q⟩
theorem de_call (Gf : FnG X.prog X.w X.K X.mg X.base k f fd n ps (spF (gk X.K cl) n fn)) (hgd : X.A.guards = some []) (hr : Room k X.A) (hg : Gl X x) (hm : X.mg x = some (.ref f)) (hk : PySem.W.keepIn X.K (.ref f) = true) (hb : Binds X.K fd ps ds) (hd : Vals dvs ds) (hdd : ∀ ms F, HasL (gk X.K cl) ms F dvs dds)
    (hn : (e :: es).length + dds.length = n)
    (ha : DA X cl (e :: es) r) (hra : ∀ δ μ xs μ1, r δ μ = some (xs, μ1) → xs.length = (e :: es).length) (hdb : (x == ("__debug__" : Str)) = false := by decide) (he : starEach (e :: es) X.env = (false, eval e X.env) :: starEach es X.env := by rfl) (hpl : (backTo pos (starEach es X.env)).any (·.1) = false := by rfl) :
    DE X cl (.Call (.Name x p) (e :: es) [] pos) (eFn fn dds r) := ⟨(pe_callG Gf hgd hr hg hm hk hb hd ha.p hdb he hpl).weak fun σ H Q ⟨O, ms, F, δ, μ, d, μ', R, ev, k⟩ => by
  obtain ⟨xs, μ1, e1, ev⟩ := aThen_some ev
  refine tA.seq R e1 fun vs H1 ms1 F1 R1 s1 q1 => ?_
  exact ⟨ms1, F1, xs ++ dds, μ1, d, μ', R1.hr.xp, q1.xp.append (hdd ms1 F1), by rw [List.length_append, hra _ _ _ _ e1]; exact hn, ev, fun v H' ms' F' r s q => k v H' ms' F' r.xp (s1.trans' R1.hr s) q.xp⟩⟩
end
theorem aNil_len : ∀ δ μ xs μ1, aNil δ μ = some (xs, μ1) → xs.length = 0 := fun δ μ xs μ1 h => by cases h; rfl
theorem aCons_len {f : EF} {r : AF} {n : Nat} (hr : ∀ δ μ xs μ1, r δ μ = some (xs, μ1) → xs.length = n) : ∀ δ μ xs μ1, aCons f r δ μ = some (xs, μ1) → xs.length = n + 1 := fun δ μ xs μ1 h => by
  obtain ⟨d, μ2, e1, h⟩ := eThen_some h
  split at h
  · rename_i ys μ3 e2
    cases h
    simp [hr _ _ _ _ e2]
  · cases h
end G

set_option Elab.async false
set_option linter.all false
set_option autoImplicit false
set_option maxRecDepth 100000
set_option maxHeartbeats 2000000
namespace G
open PySem PySem.Spec L2

section
variable {X : Cx} {cl : Nat → Addr}
/-! ### data as the library's own -/
def toPyL (f : D → Option PyData) : List D → Option (List PyData)
  | [] => some []
  | d :: ds => match f d, toPyL f ds with
    | some p, some ps => some (p :: ps)
    | _, _ => none
def toPy (μ : List MO) : Nat → D → Option PyData
  | 0, _ => none
  | n + 1, d => match d with
    | .non => some .none
    | .bl b => some (.bool b)
    | .int i => some (.int i)
    | .str x => some (.str x)
    | .lst ds => (toPyL (toPy μ n) ds).map .list
    | .tup ds => (toPyL (toPy μ n) ds).map .tuple
    | .mut k => match μ[k]? with
      | some (.lst ds) => (toPyL (toPy μ n) ds).map .list
      | _ => none
    | _ => none
theorem dpAll_of {Γ : Gm} {ms : List Addr} {F H : Hp} {f : D → Option PyData} (h : ∀ v d p, f d = some p → Has Γ ms F v d → Dp Γ.K H v p) : ∀ {vs : List V} {ds : List D} {ps : List PyData}, toPyL f ds = some ps → HasL Γ ms F vs ds → DpAll Γ.K H vs ps
  | vs, [], ps, e, q => by cases e; cases q; exact .nil
  | vs, d :: ds, ps, e, ⟨w, ws, hv, q1, q2⟩ => by
    subst hv
    unfold toPyL at e
    split at e
    · rename_i p ps' e1 e2
      cases e
      exact .cons (h w d p e1 q1) (dpAll_of h e2 q2)
    · cases e
theorem dp_of {Γ : Gm} {ms : List Addr} {F H : Hp} {μ : List MO} (r : HR Γ ms F H μ) : ∀ (n : Nat) (v : V) (d : D) (p : PyData), toPy μ n d = some p → Has Γ ms F v d → Dp Γ.K H v p
  | 0, _, _, _, e, _ => by cases e
  | n + 1, v, d, p, e, q => by
    unfold toPy at e
    cases d with
    | non => cases e; rw [show v = .non from q]; exact .non
    | bl b => cases e; rw [show v = .bl b from q]; exact .bl b
    | int b => cases e; rw [show v = .int b from q]; exact .int b
    | str b => cases e; rw [show v = .str b from q]; exact .str b
    | ty _ => cases e
    | dct _ _ => cases e
    | ins _ _ _ => cases e
    | scr _ => cases e
    | exc _ _ _ _ => cases e
    | cls _ => cases e
    | lst ds =>
      dsimp only at e
      cases e1 : toPyL (toPy μ n) ds with
      | none => rw [e1] at e; cases e
      | some ps =>
        rw [e1] at e; cases e
        obtain ⟨a, xs, rfl, hs, hl⟩ := q
        exact .lst (SqL.of (r.sub _ _ hs)) (dpAll_of (dp_of r n) e1 hl)
    | tup ds =>
      dsimp only at e
      cases e1 : toPyL (toPy μ n) ds with
      | none => rw [e1] at e; cases e
      | some ps =>
        rw [e1] at e; cases e
        obtain ⟨a, xs, rfl, hs, hl⟩ := q
        exact .tup (Tp.same r.sub hs).sq (dpAll_of (dp_of r n) e1 hl)
    | «mut» k =>
      dsimp only at e
      split at e
      · rename_i ds hk
        cases e1 : toPyL (toPy μ n) ds with
        | none => rw [e1] at e; cases e
        | some ps =>
          rw [e1] at e; cases e
          obtain ⟨a, rfl, hm⟩ := q
          obtain ⟨a', ha', xs, hx, hl⟩ := r.obj _ _ hk
          rw [hm] at ha'; cases ha'
          exact .lst (SqL.of hx) (dpAll_of (dp_of r n) e1 hl)
      · cases e
/-- how deep data is looked at -/
abbrev DEEP : Nat := 16
def shp (p : PyData) : Bool := SeqAt.shaped p
/-! ### operators -/
abbrev G2 := D → D → List MO → Option (D × List MO)
theorem Fin1.imm {Γ : Gm} {ms : List Addr} {F H : Hp} {d : D} {μ : List MO} {Q : VK} (k : Fin1 Γ ms F H d μ Q) (r : HR Γ ms F H μ) {v : V} (h : Has Γ ms F v d) : Q v H := k v H ms F r (Stp.refl _ _ _) h
theorem op_addB : OpR X (binaryOp .Add) (fun x y H Q => ∃ (b : Bool) (j : Int), x = .bl b ∧ y = .int j ∧ Q (.int ((if b = true then (1 : Int) else 0) + j)) H) := by
  intro pins s σ H x y v u Q I rx ry h
  obtain ⟨b, j, rfl, rfl, q⟩ := h
  cases rx
  obtain ⟨t, rfl⟩ := ry
  exact PySem.IntBool.add_bool_int ⟨.int _, H, I.tok _, ⟨_, rfl⟩, q⟩
def addD : G2 := fun x y μ => match x, y with
  | .int i, .int j => some (.int (i + j), μ)
  | .bl b, .int j => some (.int ((if b = true then (1 : Int) else 0) + j), μ)
  | .str a, .str b => if a.length + b.length ≤ 1000000 then some (.str (a ++ b), μ) else none
  | .lst a, .lst b => if a.length + b.length ≤ 1000000 then some (.lst (a ++ b), μ) else none
  | _, _ => none
theorem opd_add : OpD X cl (binaryOp .Add) addD := by
  intro ms F H μ x y dx dy d μ' Q r hx hy ev k
  unfold addD at ev
  split at ev
  · cases ev; exact ⟨_, op_add, _, _, hx, hy, k.imm r rfl⟩
  · cases ev; exact ⟨_, op_addB, _, _, hx, hy, k.imm r rfl⟩
  · split at ev
    · rename_i hz; cases ev; exact ⟨_, op_add_str, _, _, hx, hy, million hz, k.imm r rfl⟩
    · cases ev
  · split at ev
    · rename_i hz
      cases ev
      obtain ⟨a, xs, rfl, ha, la⟩ := hx
      obtain ⟨b, ys, rfl, hb, lb⟩ := hy
      exact ⟨_, op_cat, a, b, xs, ys, rfl, rfl, r.sub _ _ ha, r.sub _ _ hb, by rw [la.length, lb.length]; exact million hz, fun p hp => k.lst r (la.append lb) hp⟩
    · cases ev
  · cases ev
def subD : G2 := fun x y μ => match x, y with
  | .int i, .int j => some (.int (i - j), μ)
  | _, _ => none
theorem opd_sub : OpD X cl (binaryOp .Sub) subD := by
  intro ms F H μ x y dx dy d μ' Q r hx hy ev k
  unfold subD at ev
  split at ev
  · cases ev; exact ⟨_, op_sub, _, _, hx, hy, k.imm r rfl⟩
  · cases ev
def mulD : G2 := fun x y μ => match x, y with
  | .int i, .int j => if i.natAbs.log2 + j.natAbs.log2 < 1000000 then some (.int (i * j), μ) else none
  | _, _ => none
theorem opd_mul : OpD X cl (binaryOp .Mult) mulD := by
  intro ms F H μ x y dx dy d μ' Q r hx hy ev k
  unfold mulD at ev
  split at ev
  · split at ev
    · rename_i hz; cases ev; exact ⟨_, op_mulW, _, _, hx, hy, hz, k.imm r rfl⟩
    · cases ev
  · cases ev
def fdivD : G2 := fun x y μ => match x, y with
  | .int i, .int j => if 0 < j ∧ j.natAbs.log2 < 9000 then some (.int (i / j), μ) else none
  | _, _ => none
theorem opd_fdiv : OpD X cl (binaryOp .FloorDiv) fdivD := by
  intro ms F H μ x y dx dy d μ' Q r hx hy ev k
  unfold fdivD at ev
  split at ev
  · split at ev
    · rename_i hz; cases ev; exact ⟨_, op_fdivW, _, _, hx, hy, hz, k.imm r rfl⟩
    · cases ev
  · cases ev
def modD : G2 := fun x y μ => match x, y with
  | .int i, .int j => if 0 < j then some (.int (i % j), μ) else none
  | _, _ => none
theorem opd_mod : OpD X cl (binaryOp .Mod) modD := by
  intro ms F H μ x y dx dy d μ' Q r hx hy ev k
  unfold modD at ev
  split at ev
  · split at ev
    · rename_i hz; cases ev; exact ⟨_, op_mod, _, _, hx, hy, hz, k.imm r rfl⟩
    · cases ev
  · cases ev
def powD : G2 := fun x y μ => match x, y with
  | .int i, .int j => if 0 ≤ j ∧ j ≤ 1000000 ∧ i.natAbs < 2 ^ 64 then some (.int (i ^ j.toNat), μ) else none
  | _, _ => none
theorem opd_pow : OpD X cl (binaryOp .Pow) powD := by
  intro ms F H μ x y dx dy d μ' Q r hx hy ev k
  unfold powD at ev
  split at ev
  · split at ev
    · rename_i hz; cases ev; exact ⟨_, op_pow, _, _, hx, hy, hz, k.imm r rfl⟩
    · cases ev
  · cases ev
/-- comparisons of order -/
def ltD : G2 := fun x y μ => match x, y with
  | .int i, .int j => some (.bl (decide (i < j)), μ)
  | .str a, .str b => some (.bl (decide (a.cps.toList < b.cps.toList)), μ)
  | _, _ => none
theorem opd_lt : OpD X cl (compareOp .Lt) ltD := by
  intro ms F H μ x y dx dy d μ' Q r hx hy ev k
  unfold ltD at ev
  split at ev
  · cases ev; exact ⟨_, op_lt, _, _, hx, hy, k.imm r rfl⟩
  · cases ev; exact ⟨_, op_lt_str, _, _, hx, hy, k.imm r rfl⟩
  · cases ev
def leD : G2 := fun x y μ => match x, y with
  | .int i, .int j => some (.bl (decide (i ≤ j)), μ)
  | .str a, .str b => some (.bl (!decide (b.cps.toList < a.cps.toList)), μ)
  | _, _ => none
theorem opd_le : OpD X cl (compareOp .LtE) leD := by
  intro ms F H μ x y dx dy d μ' Q r hx hy ev k
  unfold leD at ev
  split at ev
  · cases ev; exact ⟨_, op_le, _, _, hx, hy, k.imm r rfl⟩
  · cases ev; exact ⟨_, op_le_str, _, _, hx, hy, k.imm r rfl⟩
  · cases ev
def gtD : G2 := fun x y μ => match x, y with
  | .int i, .int j => some (.bl (decide (j < i)), μ)
  | _, _ => none
theorem opd_gt : OpD X cl (compareOp .Gt) gtD := by
  intro ms F H μ x y dx dy d μ' Q r hx hy ev k
  unfold gtD at ev
  split at ev
  · cases ev; exact ⟨_, op_gt, _, _, hx, hy, k.imm r rfl⟩
  · cases ev
def geD : G2 := fun x y μ => match x, y with
  | .int i, .int j => some (.bl (decide (j ≤ i)), μ)
  | _, _ => none
theorem opd_ge : OpD X cl (compareOp .GtE) geD := by
  intro ms F H μ x y dx dy d μ' Q r hx hy ev k
  unfold geD at ev
  split at ev
  · cases ev; exact ⟨_, op_ge, _, _, hx, hy, k.imm r rfl⟩
  · cases ev
/-- == and != -/
def eqP (x y : D) (μ : List MO) : Option Bool := match toPy μ DEEP x, toPy μ DEEP y with
  | some p, some q => if shp p = true ∧ shp q = true then some (PyData.eqv p q) else none
  | _, _ => none
def eqD : G2 := fun x y μ => match x, y with
  | .str a, .str b => some (.bl (decide (a = b)), μ)
  | x, y => match eqP x y μ with
    | some b => some (.bl b, μ)
    | none => none
def neD : G2 := fun x y μ => match x, y with
  | .str a, .str b => some (.bl (!decide (a = b)), μ)
  | x, y => match eqP x y μ with
    | some b => some (.bl (!b), μ)
    | none => none
theorem eqP_some {x y : D} {μ : List MO} {b : Bool} (h : eqP x y μ = some b) : ∃ p q, toPy μ DEEP x = some p ∧ toPy μ DEEP y = some q ∧ SeqAt.shaped p = true ∧ SeqAt.shaped q = true ∧ b = PyData.eqv p q := by
  unfold eqP at h
  split at h
  · rename_i p q e1 e2
    split at h
    · rename_i hz; cases h; exact ⟨p, q, e1, e2, hz.1, hz.2, rfl⟩
    · cases h
  · cases h
theorem opd_eq (hu : X.A.units + 64 < cLine) : OpD X cl (compareOp .Eq) eqD := by
  intro ms F H μ x y dx dy d μ' Q r hx hy ev k
  unfold eqD at ev
  split at ev
  · rename_i a b
    cases ev
    obtain rfl : x = .str a := hx
    obtain rfl : y = .str b := hy
    exact ⟨_, op_eq, rfl, by simpa using k.imm r (v := .bl _) rfl⟩
  · split at ev
    · rename_i b hb
      cases ev
      obtain ⟨p, q, e1, e2, s1, s2, rfl⟩ := eqP_some hb
      exact ⟨_, op_eqD hu, p, q, dp_of r _ _ _ _ e1 hx, dp_of r _ _ _ _ e2 hy, s1, s2, k.imm r rfl⟩
    · cases ev
theorem opd_ne (hu : X.A.units + 64 < cLine) : OpD X cl (compareOp .NotEq) neD := by
  intro ms F H μ x y dx dy d μ' Q r hx hy ev k
  unfold neD at ev
  split at ev
  · rename_i a b
    cases ev
    obtain rfl : x = .str a := hx
    obtain rfl : y = .str b := hy
    exact ⟨_, op_ne, rfl, by simpa using k.imm r (v := .bl _) rfl⟩
  · split at ev
    · rename_i b hb
      cases ev
      obtain ⟨p, q, e1, e2, s1, s2, rfl⟩ := eqP_some hb
      exact ⟨_, op_neD hu, p, q, dp_of r _ _ _ _ e1 hx, dp_of r _ _ _ _ e2 hy, s1, s2, k.imm r rfl⟩
    · cases ev
/-- one sign in a text; in a list or a tuple -/
def inP (x y : D) (μ : List MO) : Option Bool := match y with
  | .str z => match x with
    | .str w => match w.cps.toList with
      | [c] => some (decide (c ∈ z.cps.toList))
      | _ => none
    | _ => none
  | y => match toPy μ DEEP x, toPy μ DEEP y with
    | some p, some (.list ps) => if shp p = true ∧ shp (.list ps) = true then some (ps.any fun z => PyData.eqv z p) else none
    | _, _ => none
def inD : G2 := fun x y μ => match inP x y μ with
  | some b => some (.bl b, μ)
  | none => none
def ninD : G2 := fun x y μ => match inP x y μ with
  | some b => some (.bl (!b), μ)
  | none => none
theorem one_sign {w : Str} {c : Nat} (h : w.cps.toList = [c]) : w = ⟨#[c]⟩ := by
  obtain ⟨a⟩ := w
  have : a = #[c] := by
    apply Array.ext'
    simpa using h
  rw [this]
theorem inP_some {X : Cx} (hu : X.A.units + 65 < cLine) {ms : List Addr} {F H : Hp} {μ : List MO} {x y : V} {dx dy : D} {b : Bool} (r : HR (gm X cl) ms F H μ) (hx : Has (gm X cl) ms F x dx) (hy : Has (gm X cl) ms F y dy) (h : inP dx dy μ = some b) (Q : VK) :
    (Q (.bl b) H → ∃ r, OpR X (compareOp .In) r ∧ r x y H Q) ∧ (Q (.bl (!b)) H → ∃ r, OpR X (compareOp .NotIn) r ∧ r x y H Q) := by
  unfold inP at h
  split at h
  · split at h
    · split at h
      · rename_i c hc
        cases h
        rw [one_sign hc] at hx
        exact ⟨fun q => ⟨_, op_in_sign, c, _, hx, hy, q⟩, fun q => ⟨_, op_notIn_sign, c, _, hx, hy, q⟩⟩
      · cases h
    · cases h
  · split at h
    · rename_i p ps e1 e2
      split at h
      · rename_i hz
        cases h
        exact ⟨fun q => ⟨_, op_inD hu, p, ps, dp_of r _ _ _ _ e1 hx, dp_of r _ _ _ _ e2 hy, hz.1, hz.2, q⟩, fun q => ⟨_, op_notInD hu, p, ps, dp_of r _ _ _ _ e1 hx, dp_of r _ _ _ _ e2 hy, hz.1, hz.2, q⟩⟩
      · cases h
    · cases h
theorem opd_in (hu : X.A.units + 65 < cLine) : OpD X cl (compareOp .In) inD := by
  intro ms F H μ x y dx dy d μ' Q r hx hy ev k
  unfold inD at ev
  split at ev
  · rename_i b hb; cases ev; exact (inP_some hu r hx hy hb Q).1 (k.imm r rfl)
  · cases ev
theorem opd_nin (hu : X.A.units + 65 < cLine) : OpD X cl (compareOp .NotIn) ninD := by
  intro ms F H μ x y dx dy d μ' Q r hx hy ev k
  unfold ninD at ev
  split at ev
  · rename_i b hb; cases ev; exact (inP_some hu r hx hy hb Q).2 (k.imm r rfl)
  · cases ev
/-- is None -/
def isND : G2 := fun x y μ => match y with
  | .non => some (.bl (match x with | .non => true | _ => false), μ)
  | _ => none
/-! ### a chain of two comparisons -/
variable {a b c e : Expr} {fa fb fc : EF} {pos : Pos}
def eChain (g g' : G2) (fa fb fc : EF) : EF := eThen fa fun x => eThen fb fun y δ μ => match g x y μ with
  | some (.bl true, μ1) => eThen fc (fun z _ μ => g' y z μ) δ μ1
  | some (.bl false, μ1) => some (.bl false, μ1)
  | _ => none
end
end G

set_option Elab.async false
set_option linter.all false
set_option autoImplicit false
set_option maxRecDepth 100000
set_option maxHeartbeats 2000000
namespace G
open PySem PySem.Spec PySem.Calls L2
section
variable {X : Cx} {cl : Nat → Addr} {a b c e o i : Expr} {es : List Expr} {fe fa fb fc fo fi : EF} {pos p p1 p2 apos : Pos} {r : AF}
/-! ### chains -/
theorem chain_run {op op' : Value → Value → Sem Value} {g g' : G2} (ho : OpD X cl op g) (ho' : OpD X cl op' g') {σ : L2.St} {H : Hp} {Q : VK} (h : tE (gm X cl) (eChain g g' fa fb fc) σ H Q) :
    tChain (fun x y H Q => ∃ r, OpR X op r ∧ r x y H Q) (fun x y H Q => ∃ r, OpR X op' r ∧ r x y H Q) (tE (gm X cl) fa) (tE (gm X cl) fb) (tE (gm X cl) fc) σ H Q := by
  obtain ⟨O, ms, F, δ, μ, d, μ', R, ev, k⟩ := h
  obtain ⟨dx, μ1, e1, ev⟩ := eThen_some ev
  obtain ⟨dy, μ2, e2, ev⟩ := eThen_some ev
  refine tE.seq R e1 fun x H1 ms1 F1 R1 s1 q1 => tE.seq R1 e2 fun y H2 ms2 F2 R2 s2 q2 => ?_
  have s12 := s1.trans' R1.hr s2
  split at ev
  · rename_i μ3 eg
    refine ho ms2 F2 H2 μ2 x y dx dy _ μ3 _ R2.hr (q1.step s2) q2 eg fun v H3 ms3 F3 r3 s3 q3 => ⟨true, q3, ?_⟩
    rw [if_pos rfl]
    obtain ⟨dz, μ4, e4, ev⟩ := eThen_some ev
    have R3 := R2.step r3 s3
    refine tE.seq R3 e4 fun z H4 ms4 F4 R4 s4 q4 => ?_
    exact ho' ms4 F4 H4 μ4 y z dy dz d μ' Q R4.hr ((q2.step s3).step s4) q4 ev fun v H' ms' F' r s q => k v H' ms' F' r (((s12.trans' R2.hr s3).trans' r3 s4).trans' R4.hr s) q
  · rename_i μ3 eg
    cases ev
    refine ho ms2 F2 H2 μ2 x y dx dy _ _ _ R2.hr (q1.step s2) q2 eg fun v H3 ms3 F3 r3 s3 q3 => ⟨false, q3, ?_⟩
    rw [if_neg Bool.false_ne_true]
    exact k _ H3 ms3 F3 r3 (s12.trans' R2.hr s3) rfl
  · cases ev
theorem de_chain {op op' : CmpOp} {g g' : G2} (ho : OpD X cl (compareOp op) g) (ho' : OpD X cl (compareOp op') g') (ha : DE X cl a fa) (hb : DE X cl b fb) (hc : DE X cl c fc) (hm : lastMarks [op, op'] [b, c] = false := by with_unfolding_all rfl) :
    DE X cl (.Compare a [op, op'] [b, c] pos) (eChain g g' fa fb fc) := ⟨(pe_chain OpR.any OpR.any ha.p hb.p hc.p hm).weak fun σ H Q h => chain_run ho ho' h⟩
theorem dt_chain {op op' : CmpOp} {g g' : G2} (ho : OpD X cl (compareOp op) g) (ho' : OpD X cl (compareOp op') g') (ha : DE X cl a fa) (hb : DE X cl b fb) (hc : DE X cl c fc) (hm : lastMarks [op, op'] [b, c] = false := by with_unfolding_all rfl) :
    DT X cl (.Compare a [op, op'] [b, c] pos) (asB (eChain g g' fa fb fc)) := ⟨(pt_chain OpR.any OpR.any ha.p hb.p hc.p hm).weak fun σ H Q ⟨O, ms, F, δ, μ, d, μ', R, ev, k⟩ => 
    chain_run ho ho' ⟨O, ms, F, δ, μ, .bl d, μ', R, asB_some ev, fun v H' ms' F' r s q => ⟨d, q, k H' ms' F' r s⟩⟩⟩
/-! ### is None -/
def isNone : D → Bool
  | .non => true
  | _ => false
theorem has_non {Γ : Gm} {ms : List Addr} {F : Hp} {v : V} : ∀ {d : D}, Has Γ ms F v d → decide (v = .non) = isNone d
  | .non, h => by rw [show v = .non from h]; rfl
  | .bl b, h => by rw [show v = .bl b from h]; rfl
  | .int b, h => by rw [show v = .int b from h]; rfl
  | .str b, h => by rw [show v = .str b from h]; rfl
  | .ty b, h => by rw [show v = .ty b from h]; rfl
  | .lst _, ⟨_, _, h, _⟩ => by rw [h]; rfl
  | .tup _, ⟨_, _, h, _⟩ => by rw [h]; rfl
  | .dct _ _, ⟨_, _, h, _⟩ => by rw [h]; rfl
  | .ins _ _ _, ⟨_, _, _, h, _⟩ => by rw [h]; rfl
  | .mut _, ⟨_, h, _⟩ => by rw [h]; rfl
  | .scr _, ⟨_, h, _⟩ => by rw [h]; rfl
  | .exc _ _ _ _, ⟨_, _, _, _, h, _⟩ => by rw [h]; rfl
  | .cls _, h => by rw [show v = .ref _ from h]; rfl
def eIsN (f : EF) : EF := eThen f fun d _ μ => some (.bl (isNone d), μ)
def eNotN (f : EF) : EF := eThen f fun d _ μ => some (.bl (!isNone d), μ)
theorem de_isN {j p'} (ha : DE X cl a fa) : DE X cl (.Compare a [.Is] [.Constant .none j p'] pos) (eIsN fa) := ⟨(pe_cmp (pc_isN ha.p)).weak fun σ H Q ⟨O, ms, F, δ, μ, d, μ', R, ev, k⟩ => by
  obtain ⟨d1, μ1, e1, ev⟩ := eThen_some ev
  cases ev
  refine tE.seq R e1 fun v H1 ms1 F1 R1 s1 q1 => ?_
  have := has_non q1
  rw [this]
  exact k _ H1 ms1 F1 R1.hr s1 rfl⟩
theorem de_notN {j p'} (ha : DE X cl a fa) : DE X cl (.Compare a [.IsNot] [.Constant .none j p'] pos) (eNotN fa) := ⟨(pe_cmp (pc_notN ha.p)).weak fun σ H Q ⟨O, ms, F, δ, μ, d, μ', R, ev, k⟩ => by
  obtain ⟨d1, μ1, e1, ev⟩ := eThen_some ev
  cases ev
  refine tE.seq R e1 fun v H1 ms1 F1 R1 s1 q1 => ?_
  have := has_non q1
  rw [this]
  exact k _ H1 ms1 F1 R1.hr s1 rfl⟩
/-! ### a test by truth -/
def truD (μ : List MO) : D → Option Bool
  | .non => some false
  | .bl b => some b
  | .int i => some (i != 0)
  | .str x => if x.length ≤ 1000000 then some ((x.length : Int) != 0) else none
  | .lst xs => some (!xs.isEmpty)
  | .tup xs => some (!xs.isEmpty)
  | .dct ks xs => some (!ks.isEmpty)
  | .mut k => match μ[k]? with
    | some (.lst xs) => some (!xs.isEmpty)
    | some (.dct ks xs) => some (!ks.isEmpty)
    | _ => none
  | _ => none
theorem HasL.isE {Γ : Gm} {ms : List Addr} {F : Hp} {vs : List V} {ds : List D} (h : HasL Γ ms F vs ds) : vs.isEmpty = ds.isEmpty := by
  cases ds with
  | nil => cases h; rfl
  | cons _ _ => obtain ⟨_, _, rfl, _⟩ := h; rfl
theorem zip_isE {α β : Type} {ks : List α} {xs : List β} (h : ks.length = xs.length) : (ks.zip xs).isEmpty = ks.isEmpty := by
  cases ks with
  | nil => rfl
  | cons _ _ => cases xs with
    | nil => simp at h
    | cons _ _ => rfl
theorem truD_ok {Γ : Gm} {ms : List Addr} {F H : Hp} {μ : List MO} {v : V} {d : D} {b : Bool} (r : HR Γ ms F H μ) (h : Has Γ ms F v d) (e : truD μ d = some b) : TruV Γ.K v H b := by
  unfold truD at e
  split at e
  · cases e; rw [show v = .non from h]; exact rfl
  · cases e; rw [show v = .bl b from h]; exact rfl
  · cases e; rename_i i; rw [show v = .int i from h]; exact rfl
  · split at e
    · rename_i x hz; cases e; rw [show v = .str x from h]; exact ⟨million hz, rfl⟩
    · cases e
  · cases e; obtain ⟨a, xs, rfl, hs, hl⟩ := h; exact .inl ⟨xs, SqL.of (r.sub _ _ hs), by rw [hl.isE]⟩
  · cases e; obtain ⟨a, xs, rfl, hs, hl⟩ := h; exact .inr (.inl ⟨xs, (Tp.same r.sub hs).sq, by rw [hl.isE]⟩)
  · cases e; obtain ⟨a, xs, rfl, hs, hn, hl⟩ := h; exact .inr (.inr ⟨_, r.sub _ _ hs, by rw [zip_isE hn]⟩)
  · split at e
    · rename_i k xs hk
      cases e
      obtain ⟨a, rfl, hm⟩ := h
      obtain ⟨a', ha', ys, hx, hl⟩ := r.obj _ _ hk
      rw [hm] at ha'; cases ha'
      exact .inl ⟨ys, SqL.of hx, by rw [hl.isE]⟩
    · rename_i k ks xs hk
      cases e
      obtain ⟨a, rfl, hm⟩ := h
      obtain ⟨a', ha', ys, hx, hn, hl⟩ := r.obj _ _ hk
      rw [hm] at ha'; cases ha'
      exact .inr (.inr ⟨_, hx, by rw [zip_isE hn]⟩)
    · cases e
  · cases e
def tTru (f : EF) : TF := eThen f fun d _ μ => match truD μ d with
  | some b => some (b, μ)
  | none => none
theorem dt_tru (h : DE X cl a fa) (he : ∀ whole, isTrue a X.env whole = (do let v ← whole; standAt a.pos; holding [v] (truthy v)) := by intro _; rfl) : DT X cl a (tTru fa) := ⟨(pt_truth h.p he).weak fun σ H Q ⟨O, ms, F, δ, μ, d, μ', R, ev, k⟩ => by
  obtain ⟨d1, μ1, e1, ev⟩ := eThen_some ev
  refine tE.seq R e1 fun v H1 ms1 F1 R1 s1 q1 => ?_
  split at ev
  · rename_i b hb; cases ev; exact ⟨_, truD_ok R1.hr q1 hb, k H1 ms1 F1 R1.hr s1⟩
  · cases ev⟩
/-! ### subscripts -/
theorem _root_.L2.IxR.any : IxR X (fun x y H Q => ∃ r, IxR X r ∧ r x y H Q) := by
  intro value slice pins s σ H x y v u Q I rx ry ⟨r, ho, h⟩ hs
  exact ho value slice pins s σ H x y v u Q I rx ry h hs
def ixD : G2 := fun x y μ => match y with
  | .int j => match x with
    | .str z => if z.length ≤ 1000000 then match atI z.cps.toList j with
      | some c => some (.str ⟨#[c]⟩, μ)
      | none => none else none
    | .scr ns => match atI ns j with
      | some n => some (.int n, μ)
      | none => none
    | x => match seqD μ x with
      | some (_, ds) => match atI ds j with
        | some d => some (d, μ)
        | none => none
      | none => none
  | _ => none
theorem HasL.atI {Γ : Gm} {ms : List Addr} {F : Hp} {vs : List V} {ds : List D} {j : Int} {d : D} (h : HasL Γ ms F vs ds) (e : L2.atI ds j = some d) : ∃ v, L2.atI vs j = some v ∧ Has Γ ms F v d := by
  unfold L2.atI at e ⊢
  rw [h.length]
  cases e1 : ixN ds.length j with
  | none => rw [e1] at e; cases e
  | some m =>
    rw [e1] at e
    exact h.get (i := m) e
theorem ixD_ok {ms : List Addr} {F H : Hp} {μ : List MO} {x y : V} {dx dy d : D} {μ' : List MO} {Q : VK} (r : HR (gm X cl) ms F H μ) (hx : Has (gm X cl) ms F x dx) (hy : Has (gm X cl) ms F y dy) (ev : ixD dx dy μ = some (d, μ')) (k : Fin1 (gm X cl) ms F H d μ' Q) : ∃ r, IxR X r ∧ r x y H Q := by
  unfold ixD at ev
  split at ev
  · rename_i j
    split at ev
    · split at ev
      · rename_i z hz
        split at ev
        · rename_i c hc
          cases ev
          exact ⟨_, ix_str, z, j, c, hx, hy, million hz, hc, k.imm r rfl⟩
        · cases ev
      · cases ev
    · split at ev
      · rename_i ns _ n hn
        cases ev
        obtain ⟨a, rfl, hs⟩ := hx
        refine ⟨_, ix_list, a, _, j, .int n, rfl, hy, hs.imp (fun h => ?_) (fun h => h), ?_, k.imm r rfl⟩
        · rcases h with h | ⟨o, h⟩
          · exact .inl (r.sub _ _ h)
          · exact .inr ⟨o, r.sub _ _ h⟩
        · unfold L2.atI at hn ⊢
          rw [List.length_map]
          cases e1 : ixN ns.length j with
          | none => rw [e1] at hn; cases hn
          | some m =>
            rw [e1] at hn
            have hn' : ns[m]? = some n := hn
            show (ns.map V.int)[m]? = some (V.int n)
            rw [List.getElem?_map, hn']; rfl
      · cases ev
    · split at ev
      · rename_i sk ds hq
        split at ev
        · rename_i d' hd
          cases ev
          obtain ⟨a, xs, rfl, hs, hl⟩ := seqD_ok r hx hq
          obtain ⟨v, hv, q⟩ := hl.atI hd
          cases sk with
          | l => exact ⟨_, ix_list, a, xs, j, v, rfl, hy, SqL.of hs, hv, k.imm r q⟩
          | t => exact ⟨_, ix_tup, a, xs, j, v, rfl, hy, hs.sq, hv, k.imm r q⟩
        · cases ev
      · cases ev
  · cases ev
theorem de_ix (ha : DE X cl a fa) (hb : DE X cl b fb) (hs : PlainIx b) : DE X cl (.Subscript a b pos) (eBin ixD fa fb) := ⟨(pe_ix IxR.any ha.p hb.p hs).weak fun σ H Q ⟨O, ms, F, δ, μ, d, μ', R, ev, k⟩ => by
  obtain ⟨dx, μ1, e1, ev⟩ := eThen_some ev
  obtain ⟨dy, μ2, e2, ev⟩ := eThen_some ev
  refine tE.seq R e1 fun x H1 ms1 F1 R1 s1 q1 => tE.seq R1 e2 fun y H2 ms2 F2 R2 s2 q2 => ?_
  exact ixD_ok R2.hr (q1.step s2) q2 ev (k.step R2.hr (s1.trans' R1.hr s2))⟩
/-- x[i], x's own list -/
def eIxO (i : Nat) (f : EF) : EF := fun δ μ => match f δ μ with
  | some (.int j, μ1) => match δ[i]? with
    | some (.own xs) => match atI xs j with
      | some d => some (d, μ1)
      | none => none
    | _ => none
  | _ => none
theorem de_ixO {i : Nat} (ha : PE X a (tVar i)) (hb : DE X cl b fb) (hs : PlainIx b) : DE X cl (.Subscript a b pos) (eIxO i fb) := ⟨(pe_ix ix_list ha hb.p hs).weak fun σ H Q ⟨O, ms, F, δ, μ, d, μ', R, ev, k⟩ => by
  unfold eIxO at ev
  split at ev
  · rename_i j μ1 e1
    split at ev
    · rename_i xs hd
      split at ev
      · rename_i d' ed
        cases ev
        obtain ⟨a', vs, ea, ha', hl, _⟩ := R.er.ok i _ hd
        refine ⟨_, ea, ?_⟩
        refine tE.seq R e1 fun y H1 ms1 F1 R1 s1 q1 => ?_
        obtain ⟨a2, vs2, ea2, ha2, hl2, _⟩ := R1.er.ok i _ hd
        rw [ea] at ea2; cases ea2
        obtain ⟨v, hv, q⟩ := hl2.atI ed
        exact ⟨a', vs2, j, v, rfl, q1, SqL.of ha2, hv, k v H1 ms1 F1 R1.hr s1 q⟩
      · cases ev
    · cases ev
  · cases ev⟩
/-! ### slices -/
abbrev PF := List SV → List MO → Option (Option Int × List MO)
def tP (Γ : Gm) (f : PF) : TO := fun σ H Q => ∃ O ms F δ μ d μ', SR Γ O ms F H σ δ μ ∧ f δ μ = some (d, μ') ∧ ∀ H' ms' F', HR Γ ms' F' H' μ' → Stp ms ms' F F' H H' → Q d H'
structure DP (X : Cx) (cl : Nat → Addr) (e : Option Expr) (f : PF) : Prop where
  p : PO X e (tP (gm X cl) f)
theorem _root_.L2.PO.weak {X : Cx} {e : Option Expr} {t t' : TO} (h : PO X e t) (k : ∀ σ H Q, t' σ H Q → t σ H Q) : PO X e t' := ⟨fun pins s σ H Q I q => h.run pins s σ H Q I (k σ H Q q)⟩
def pNo : PF := fun _ μ => some (none, μ)
def pSo (f : EF) : PF := eThen f fun d _ μ => match d with
  | .int i => some (some i, μ)
  | _ => none
theorem dp_no : DP X cl none pNo := ⟨po_none.weak fun σ H Q ⟨O, ms, F, δ, μ, d, μ', R, ev, k⟩ => by cases ev; exact k H ms F R.hr (Stp.refl _ _ _)⟩
theorem dp_so (h : DE X cl e fe) : DP X cl (some e) (pSo fe) := ⟨(po_some h.p).weak fun σ H Q ⟨O, ms, F, δ, μ, d, μ', R, ev, k⟩ => by
  obtain ⟨d1, μ1, e1, ev⟩ := eThen_some ev
  refine tE.seq R e1 fun v H1 ms1 F1 R1 s1 q1 => ?_
  split at ev
  · cases ev; exact ⟨_, q1, k H1 ms1 F1 R1.hr s1⟩
  · cases ev⟩
theorem tP.seq {f : PF} {Γ : Gm} {O : Og} {ms : List Addr} {F H : Hp} {σ : L2.St} {δ : List SV} {μ μ1 : List MO} {d : Option Int} {Q : Option Int → Hp → Prop} (R : SR Γ O ms F H σ δ μ) (e : f δ μ = some (d, μ1))
    (k : ∀ H1 ms1 F1, SR Γ O ms1 F1 H1 σ δ μ1 → Stp ms ms1 F F1 H H1 → Q d H1) : tP Γ f σ H Q := ⟨O, ms, F, δ, μ, d, μ1, R, e, fun H1 ms1 F1 r s => k H1 ms1 F1 (R.step r s) s⟩
def cutL (xs : List D) (lo hi : Option Int) : List D := (xs.drop (HT.sIx xs.length 0 lo)).take (HT.sIx xs.length xs.length hi - HT.sIx xs.length 0 lo)
/-- a text's slice -/
def eSlS (f : EF) (lo hi : PF) : EF := eThen f fun x δ μ => match x with
  | .str z => if z.length ≤ 1000000 then match lo δ μ with
    | some (l, μ1) => match hi δ μ1 with
      | some (h, μ2) => some (.str (cutS z l h), μ2)
      | none => none
    | none => none else none
  | _ => none
theorem de_slS {lo hi : Option Expr} {fl fh : PF} (ha : DE X cl a fa) (hl : DP X cl lo fl) (hh : DP X cl hi fh) : DE X cl (.Subscript a (.Slice lo hi none p2) pos) (eSlS fa fl fh) := ⟨(pe_slice sl_str ha.p hl.p hh.p).weak fun σ H Q ⟨O, ms, F, δ, μ, d, μ', R, ev, k⟩ => by
  obtain ⟨d1, μ1, e1, ev⟩ := eThen_some ev
  refine tE.seq R e1 fun v H1 ms1 F1 R1 s1 q1 => ?_
  split at ev
  · split at ev
    · rename_i z hz
      split at ev
      · rename_i l μ2 el
        split at ev
        · rename_i h μ3 eh
          cases ev
          refine tP.seq R1 el fun H2 ms2 F2 R2 s2 => tP.seq R2 eh fun H3 ms3 F3 R3 s3 => ?_
          exact ⟨z, q1, million hz, k _ H3 ms3 F3 R3.hr ((s1.trans' R1.hr s2).trans' R2.hr s3) rfl⟩
        · cases ev
      · cases ev
    · cases ev
  · cases ev⟩
theorem HasL.cut {Γ : Gm} {ms : List Addr} {F : Hp} {vs : List V} {ds : List D} (h : HasL Γ ms F vs ds) (lo hi : Option Int) : HasL Γ ms F (cutV vs lo hi) (cutL ds lo hi) := by
  unfold cutV cutL
  rw [h.length]
  exact (h.drop _).take _
/-- a list's slice: a new list -/
def nSl (f : EF) (lo hi : PF) : NF := eThen f fun x δ μ => match lo δ μ with
  | some (l, μ1) => match hi δ μ1 with
    | some (h, μ2) => match seqD μ2 x with
      | some (.l, ds) => some (cutL ds l h, μ2)
      | _ => none
    | none => none
  | none => none
theorem dn_sl {lo hi : Option Expr} {fl fh : PF} (ha : DE X cl a fa) (hl : DP X cl lo fl) (hh : DP X cl hi fh) : DN X cl (.Subscript a (.Slice lo hi none p2) pos) (nSl fa fl fh) := ⟨(pe_slice sl_list ha.p hl.p hh.p).weak fun σ H Q ⟨O, ms, F, δ, μ, d, μ', R, ev, k⟩ => by
  obtain ⟨d1, μ1, e1, ev⟩ := eThen_some ev
  refine tE.seq R e1 fun v H1 ms1 F1 R1 s1 q1 => ?_
  split at ev
  · rename_i l μ2 el
    split at ev
    · rename_i h μ3 eh
      split at ev
      · rename_i ds hq
        cases ev
        refine tP.seq R1 el fun H2 ms2 F2 R2 s2 => tP.seq R2 eh fun H3 ms3 F3 R3 s3 => ?_
        obtain ⟨a', xs, rfl, hs, hl'⟩ := seqD_ok R3.hr ((q1.step s2).step s3) hq
        have s13 := (s1.trans' R1.hr s2).trans' R2.hr s3
        exact ⟨a', xs, rfl, SqL.of hs, fun p hp => (k.step' R3.hr s13).here R3.hr (hl'.cut l h) hp⟩
      · cases ev
    · cases ev
  · cases ev⟩
end
end G

set_option Elab.async false
set_option linter.all false
set_option autoImplicit false
set_option maxRecDepth 100000
set_option maxHeartbeats 2000000
namespace G
open PySem PySem.Spec PySem.Calls L2
section
variable {X : Cx} {cl : Nat → Addr} {a b c e o i : Expr} {es : List Expr} {fe fa fb fc fo fi : EF} {pos p p1 p2 apos : Pos} {r : AF}
abbrev G1 := List D → List MO → Option (D × List MO)
/-! ### len -/
def lenD : G1 := fun ds μ => match ds with
  | [x] => match x with
    | .str z => if z.length ≤ 1000000 then some (.int z.length, μ) else none
    | .scr ns => some (.int ns.length, μ)
    | x => match seqD μ x with
      | some (_, xs) => some (.int xs.length, μ)
      | none => none
  | _ => none
theorem cd_len : CallD X cl (.builtin "len") lenD := by
  intro ms F H μ vs ds d μ' Q r hv ev k
  unfold lenD at ev
  split at ev
  · rename_i x
    obtain ⟨v, rfl, h⟩ := hv.one'
    split at ev
    · split at ev
      · rename_i z hz; cases ev; exact ⟨_, call_len_str, z, by rw [show v = .str z from h], million hz, k.imm r rfl⟩
      · cases ev
    · rename_i ns
      cases ev
      obtain ⟨a, rfl, hs⟩ := h
      refine ⟨_, call_len_seq, a, _, rfl, .inl (hs.imp (fun h => ?_) fun h => h), by rw [List.length_map]; exact k.imm r rfl⟩
      rcases h with h | ⟨o, h⟩
      · exact .inl (r.sub _ _ h)
      · exact .inr ⟨o, r.sub _ _ h⟩
    · split at ev
      · rename_i sk xs hq
        cases ev
        obtain ⟨a, ys, rfl, hs, hl⟩ := seqD_ok r h hq
        exact ⟨_, call_len_seq, a, ys, rfl, hs.or, by rw [hl.length]; exact k.imm r rfl⟩
      · cases ev
  · cases ev
def lenQ : SK × List D → List MO → Option (D × List MO) := fun dq μ => some (.int dq.2.length, μ)
theorem cq_len : CallQ X cl (.builtin "len") lenQ := by
  intro ms F H μ a xs dq d μ' Q r hs hl ev k
  cases ev
  exact ⟨_, call_len_seq, a, xs, rfl, hs.or, by rw [hl.length]; exact k.imm r rfl⟩
/-! ### numbers -/
def maxD : G1 := fun ds μ => match ds with
  | [.int i, .int j] => some (.int (if j > i then j else i), μ)
  | _ => none
theorem cd_max (hc : X.calm = true) : CallD X cl (.builtin "max") maxD := by
  intro ms F H μ vs ds d μ' Q r hv ev k
  unfold maxD at ev
  split at ev
  · cases ev; obtain ⟨v, w, rfl, h1, h2⟩ := hv.two'; exact ⟨_, call_max2 hc, _, _, by rw [h1, h2], k.imm r rfl⟩
  · cases ev
def minD : G1 := fun ds μ => match ds with
  | [.int i, .int j] => some (.int (if j < i then j else i), μ)
  | _ => none
theorem cd_min (hc : X.calm = true) : CallD X cl (.builtin "min") minD := by
  intro ms F H μ vs ds d μ' Q r hv ev k
  unfold minD at ev
  split at ev
  · cases ev; obtain ⟨v, w, rfl, h1, h2⟩ := hv.two'; exact ⟨_, call_min2 hc, _, _, by rw [h1, h2], k.imm r rfl⟩
  · cases ev
def absD : G1 := fun ds μ => match ds with
  | [.int i] => some (.int (if i < 0 then -i else i), μ)
  | _ => none
theorem cd_abs : CallD X cl (.builtin "abs") absD := by
  intro ms F H μ vs ds d μ' Q r hv ev k
  unfold absD at ev
  split at ev
  · cases ev; obtain ⟨v, rfl, h⟩ := hv.one'; exact ⟨_, call_abs, _, by rw [h], k.imm r rfl⟩
  · cases ev
def intD : G1 := fun ds μ => match ds with
  | [.int i] => some (.int i, μ)
  | [.bl b] => some (.int (if b then 1 else 0), μ)
  | _ => none
theorem cd_int : CallD X cl (.type "int") intD := by
  intro ms F H μ vs ds d μ' Q r hv ev k
  unfold intD at ev
  split at ev
  · cases ev; obtain ⟨v, rfl, h⟩ := hv.one'; exact ⟨_, call_int1, .inl ⟨_, by rw [h], k.imm r rfl⟩⟩
  · cases ev; obtain ⟨v, rfl, h⟩ := hv.one'; exact ⟨_, call_int1, .inr ⟨_, by rw [h], k.imm r rfl⟩⟩
  · cases ev
def strD : G1 := fun ds μ => match ds with
  | [.int i] => if i.natAbs.log2 < 1920 then some (.str (toString i), μ) else none
  | _ => none
theorem cd_str : CallD X cl (.type "str") strD := by
  intro ms F H μ vs ds d μ' Q r hv ev k
  unfold strD at ev
  split at ev
  · split at ev
    · rename_i i hz; cases ev; obtain ⟨v, rfl, h⟩ := hv.one'; exact ⟨_, call_str_int, _, by rw [h], hz, k.imm r rfl⟩
    · cases ev
  · cases ev
def ordD : G1 := fun ds μ => match ds with
  | [.str x] => if x.length = 1 then some (.int (x.cps.getD 0 0 : Nat), μ) else none
  | _ => none
theorem cd_ord : CallD X cl (.builtin "ord") ordD := by
  intro ms F H μ vs ds d μ' Q r hv ev k
  unfold ordD at ev
  split at ev
  · split at ev
    · rename_i i hz; cases ev; obtain ⟨v, rfl, h⟩ := hv.one'; exact ⟨_, call_ord, _, by rw [h], hz, k.imm r rfl⟩
    · cases ev
  · cases ev
/-! ### all, any of truths -/
def blsD : List D → Option (List Bool)
  | [] => some []
  | .bl b :: ds => match blsD ds with
    | some bs => some (b :: bs)
    | none => none
  | _ => none
theorem blsD_ok {Γ : Gm} {ms : List Addr} {F : Hp} : ∀ {ds : List D} {bs : List Bool} {vs : List V}, blsD ds = some bs → HasL Γ ms F vs ds → vs = bs.map V.bl
  | [], bs, vs, e, h => by cases e; cases h; rfl
  | d :: ds, bs, vs, e, ⟨w, ws, hv, h1, h2⟩ => by
    subst hv
    cases d with
    | bl b =>
      unfold blsD at e
      split at e
      · rename_i bs' e'
        cases e
        rw [show w = .bl b from h1, blsD_ok e' h2]; rfl
      · cases e
    | _ => cases e
def allD : G1 := fun ds μ => match ds with
  | [.lst xs] => match blsD xs with
    | some bs => some (.bl (bs.all id), μ)
    | none => none
  | _ => none
theorem cd_all (hc : X.calm = true) : CallD X cl (.builtin "all") allD := by
  intro ms F H μ vs ds d μ' Q r hv ev k
  unfold allD at ev
  split at ev
  · split at ev
    · rename_i xs bs hb
      cases ev
      obtain ⟨v, rfl, a, ys, rfl, hs, hl⟩ := hv.one'
      exact ⟨_, cr_all hc, a, bs, rfl, by rw [← blsD_ok hb hl]; exact SqL.of (r.sub _ _ hs), k.imm r rfl⟩
    · cases ev
  · cases ev
def anyD : G1 := fun ds μ => match ds with
  | [.lst xs] => match blsD xs with
    | some bs => some (.bl (bs.any id), μ)
    | none => none
  | _ => none
theorem cd_any (hc : X.calm = true) : CallD X cl (.builtin "any") anyD := by
  intro ms F H μ vs ds d μ' Q r hv ev k
  unfold anyD at ev
  split at ev
  · split at ev
    · rename_i xs bs hb
      cases ev
      obtain ⟨v, rfl, a, ys, rfl, hs, hl⟩ := hv.one'
      exact ⟨_, cr_any hc, a, bs, rfl, by rw [← blsD_ok hb hl]; exact SqL.of (r.sub _ _ hs), k.imm r rfl⟩
    · cases ev
  · cases ev
/-! ### isinstance by built-in types -/
def typeD (μ : List MO) : D → Option String
  | .non => some "NoneType"
  | .bl _ => some "bool"
  | .int _ => some "int"
  | .str _ => some "str"
  | .lst _ => some "list"
  | .tup _ => some "tuple"
  | .dct _ _ => some "dict"
  | .mut k => match μ[k]? with
    | some (.lst _) => some "list"
    | some (.dct _ _) => some "dict"
    | _ => none
  | _ => none
theorem typeD_ok {Γ : Gm} {ms : List Addr} {F H : Hp} {μ : List MO} {v : V} {d : D} {n : String} (r : HR Γ ms F H μ) (h : Has Γ ms F v d) (e : typeD μ d = some n) : TyX Γ.K H v (.type n) := by
  unfold typeD at e
  split at e
  · cases e; rw [show v = .non from h]; exact .base .non
  · cases e; rename_i b; rw [show v = .bl b from h]; exact .base (.bl b)
  · cases e; rename_i b; rw [show v = .int b from h]; exact .base (.int b)
  · cases e; rename_i b; rw [show v = .str b from h]; exact .base (.str b)
  · cases e; obtain ⟨a, xs, rfl, hs, hl⟩ := h; exact .base (.lst (r.sub _ _ hs))
  · cases e; obtain ⟨a, xs, rfl, hs, hl⟩ := h
    rcases hs with hs | ⟨o, its, n, hk, hc, _⟩
    · exact .base (.tup (r.sub _ _ hs))
    · exact .kTuple hk hc
  · cases e; obtain ⟨a, xs, rfl, hs, hn, hl⟩ := h; exact .base (.dK (r.sub _ _ hs))
  · split at e
    · rename_i k xs hk
      cases e
      obtain ⟨a, rfl, hm⟩ := h
      obtain ⟨a', ha', ys, hx, hl⟩ := r.obj _ _ hk
      rw [hm] at ha'; cases ha'
      exact .base (.lst hx)
    · rename_i k ks xs hk
      cases e
      obtain ⟨a, rfl, hm⟩ := h
      obtain ⟨a', ha', ys, hx, hn, hl⟩ := r.obj _ _ hk
      rw [hm] at ha'; cases ha'
      exact .base (.dK hx)
    · cases e
  · cases e
def isiAny (n : String) : List D → Option Bool
  | [] => some false
  | .ty T :: r => match kitB n T with
    | some true => some true
    | some false => isiAny n r
    | none => none
  | _ => none
def isiD : G1 := fun ds μ => match ds with
  | [x, .ty T] => match typeD μ x with
    | some n => match kitB n T with
      | some b => some (.bl b, μ)
      | none => none
    | none => none
  | [x, .tup ts] => match typeD μ x with
    | some n => match isiAny n ts with
      | some b => some (.bl b, μ)
      | none => none
    | none => none
  | _ => none
end
end G

set_option Elab.async false
set_option linter.all false
set_option autoImplicit false
set_option maxRecDepth 100000
set_option maxHeartbeats 2000000
namespace G
open PySem PySem.Spec PySem.Calls L2
section
variable {X : Cx} {cl : Nat → Addr} {a b c e o i : Expr} {es : List Expr} {fe fa fb fc fo fi : EF} {pos p p1 p2 apos cpos : Pos} {r : AF}
def tysD : List D → Option (List String)
  | [] => some []
  | .ty T :: ds => match tysD ds with
    | some Ts => some (T :: Ts)
    | none => none
  | _ => none
theorem tysD_ok {Γ : Gm} {ms : List Addr} {F : Hp} : ∀ {ds : List D} {Ts : List String} {vs : List V}, tysD ds = some Ts → HasL Γ ms F vs ds → vs = Ts.map V.ty
  | [], bs, vs, e, h => by cases e; cases h; rfl
  | d :: ds, bs, vs, e, ⟨w, ws, hv, h1, h2⟩ => by
    subst hv
    cases d with
    | ty b =>
      unfold tysD at e
      split at e
      · rename_i bs' e'
        cases e
        rw [show w = .ty b from h1, tysD_ok e' h2]; rfl
      · cases e
    | _ => cases e
def kitAnyB (n : String) : List String → Option Bool
  | [] => some false
  | T :: r => match kitB n T with
    | some true => some true
    | some false => kitAnyB n r
    | none => none
theorem kitAnyB_ok {K : PySem.W.Frag} {n : String} : ∀ {Ts : List String} {b : Bool}, kitAnyB n Ts = some b → PySem.W.kitAny K (.type n) (Ts.map Value.type) = some b
  | [], b, h => by cases h; rfl
  | T :: Ts, b, h => by
    unfold kitAnyB at h
    show PySem.W.kitAny K (.type n) (Value.type T :: Ts.map Value.type) = some b
    unfold PySem.W.kitAny
    split at h
    · rename_i hk; cases h; rw [kit_ty hk]
    · rename_i hk; rw [kit_ty hk]; exact kitAnyB_ok h
    · cases h
theorem pairTy : ∀ Ts : List String, Paired ClsV (Ts.map V.ty) (Ts.map Value.type)
  | [] => .nil
  | T :: Ts => .cons (.ty T) (pairTy Ts)
def isiP (μ : List MO) (x t : D) : Option Bool := match typeD μ x with
  | none => none
  | some n => match t with
    | .ty T => kitB n T
    | .tup ts => match tysD ts with
      | some Ts => kitAnyB n Ts
      | none => none
    | _ => none
def isiG : G1 := fun ds μ => match ds with
  | [x, t] => match isiP μ x t with
    | some b => some (.bl b, μ)
    | none => none
  | _ => none
theorem cd_isi (noK : ∀ (a : Addr) (xs : List V) (H : Hp), True) : CallD X cl (.builtin "isinstance") isiG := by
  intro ms F H μ vs ds d μ' Q r hv ev k
  unfold isiG at ev
  split at ev
  · rename_i x t
    split at ev
    · rename_i b hb
      cases ev
      obtain ⟨v, w, rfl, hx, ht⟩ := hv.two'
      unfold isiP at hb
      split at hb
      · cases hb
      · rename_i n hn
        have ty := typeD_ok r hx hn
        split at hb
        · rename_i T
          rw [show w = .ty T from ht]
          exact ⟨_, call_isi, v, .ty T, .type n, .type T, b, rfl, .ty T, ty, kit_ty hb, k.imm r rfl⟩
        · rename_i ts
          split at hb
          · rename_i Ts hT
            obtain ⟨tp, xs, rfl, hs, hl⟩ := ht
            have e := tysD_ok hT hl
            subst e
            rcases hs with hs | ⟨ob, its, m, hk, hc, hd, hz, rv⟩
            · exact ⟨_, call_isiT, v, tp, _, .type n, _, b, rfl, r.sub _ _ hs, pairTy Ts, ty, kitAnyB_ok hb, k.imm r rfl⟩
            · have e2 := ClsV.all (pairTy Ts) rv
              obtain ⟨oc, od, dt, sl⟩ := ob
              dsimp only at hc hd
              subst hc; subst hd
              refine ⟨_, call_isiK, v, tp, od, Ts.map Value.type, m, sl, .type n, b, rfl, ?_, ty, kitAnyB_ok hb, k.imm r rfl⟩
              rw [hk, ← e2]
          · cases hb
        · cases hb
    · cases ev
  · cases ev
/-! ### methods of built-in values -/
def tyB (T : String) (μ : List MO) : D → Bool
  | .str _ => T == "str"
  | .lst _ => T == "list"
  | .dct _ _ => T == "dict"
  | .mut k => match μ[k]? with
    | some (.lst _) => T == "list"
    | some (.dct _ _) => T == "dict"
    | _ => false
  | _ => false
theorem tyB_ok {Γ : Gm} {ms : List Addr} {F H : Hp} {μ : List MO} {v : V} {d : D} {T : String} (r : HR Γ ms F H μ) (h : Has Γ ms F v d) (e : tyB T μ d = true) : tyV Γ.K T v H := by
  unfold tyB at e
  split at e
  · rename_i x; rw [show v = .str x from h]; exact (beq_iff_eq.mp e)
  · obtain ⟨a, xs, rfl, hs, hl⟩ := h; exact .inl ⟨beq_iff_eq.mp e, xs, SqL.of (r.sub _ _ hs)⟩
  · obtain ⟨a, xs, rfl, hs, hn, hl⟩ := h; exact .inr (.inr (.inl ⟨beq_iff_eq.mp e, .inl ⟨_, r.sub _ _ hs⟩⟩))
  · obtain ⟨a, rfl, hm⟩ := h
    split at e
    · rename_i xs hk
      obtain ⟨a', ha', ys, hx, hl⟩ := r.obj _ _ hk
      rw [hm] at ha'; cases ha'
      exact .inl ⟨beq_iff_eq.mp e, ys, SqL.of hx⟩
    · rename_i ks xs hk
      obtain ⟨a', ha', ys, hx, hn, hl⟩ := r.obj _ _ hk
      rw [hm] at ha'; cases ha'
      exact .inr (.inr (.inl ⟨beq_iff_eq.mp e, .inl ⟨_, hx⟩⟩))
    · cases e
  · cases e
theorem _root_.L2.MtR.any' {id : String} : MtR X id (fun x vs H Q => ∃ r, MtR X id r ∧ r x vs H Q) := by
  intro pins s σ H x vs v us Q I rx rv ⟨rr, ho, h⟩
  exact ho pins s σ H x vs v us Q I rx rv h
def MtD (X : Cx) (cl : Nat → Addr) (id : String) (g : D → G1) : Prop :=
  ∀ ms F H μ x vs dx ds d μ' Q, HR (gm X cl) ms F H μ → Has (gm X cl) ms F x dx → HasL (gm X cl) ms F vs ds → g dx ds μ = some (d, μ') → Fin1 (gm X cl) ms F H d μ' Q → ∃ r, MtR X id r ∧ r x vs H Q
def eMt (T : String) (g : D → G1) (fo : EF) (r : AF) : EF := eThen fo fun x δ μ => if tyB T μ x = true then aThen r (fun ds _ μ => g x ds μ) δ μ else none
theorem de_bm {name : Str} {T id : String} {g : D → G1} (pa : PlainAttrs T) (slot : Slot T name id) (hty : typeOf (.builtin id) = pure (.type "method_descriptor")) (hm : MtD X cl id g) (ho : DE X cl o fo) (ha : DA X cl (e :: es) r)
    (hbase : attributeBase o name X.env (eval o X.env) = eval o X.env := by rfl)
    (hfew : ((backTo cpos (starEach (e :: es) X.env)).all (fun x => !x.1) && (backToKw cpos (keywordEach [] X.env)).all (fun x => x.1.isSome)
      && decide ((e :: es).length + ([] : List Keyword).length + (if ([] : List Keyword).isEmpty then 0 else 1) < 30)) = true := by rfl)
    (hline : (apos.endLine == cpos.line) = true := by rfl) (hs : starEach (e :: es) X.env = (false, eval e X.env) :: starEach es X.env := by rfl) (hplain : (backTo cpos (starEach es X.env)).any (·.1) = false := by rfl) :
    DE X cl (.Call (.Attribute o name apos) (e :: es) [] cpos) (eMt T g fo r) := ⟨(pe_bm pa slot hty MtR.any' ho.p ha.p hbase hfew hline hs hplain).weak fun σ H Q ⟨O, ms, F, δ, μ, d, μ', R, ev, k⟩ => by
  obtain ⟨dx, μ1, e1, ev⟩ := eThen_some ev
  split at ev
  · rename_i ht
    refine tE.seq R e1 fun x H1 ms1 F1 R1 s1 q1 => ⟨tyB_ok R1.hr q1 ht, ?_⟩
    obtain ⟨ds, μ2, e2, ev⟩ := aThen_some ev
    refine tA.seq R1 e2 fun vs H2 ms2 F2 R2 s2 q2 => ?_
    exact hm ms2 F2 H2 μ2 x vs dx ds d μ' Q R2.hr (q1.step s2) q2 ev (k.step R2.hr (s1.trans' R1.hr s2))
  · cases ev⟩
theorem de_bm0 {name : Str} {T id : String} {g : D → G1} (pa : PlainAttrs T) (slot : Slot T name id) (hty : typeOf (.builtin id) = pure (.type "method_descriptor")) (hm : MtD X cl id g) (ho : DE X cl o fo)
    (hbase : attributeBase o name X.env (eval o X.env) = eval o X.env := by rfl) (hline : (apos.endLine == cpos.line) = true := by rfl) : DE X cl (.Call (.Attribute o name apos) [] [] cpos) (eMt T g fo aNil) := ⟨(pe_bm0 pa slot hty MtR.any' ho.p hbase hline).weak fun σ H Q ⟨O, ms, F, δ, μ, d, μ', R, ev, k⟩ => by
  obtain ⟨dx, μ1, e1, ev⟩ := eThen_some ev
  split at ev
  · rename_i ht
    refine tE.seq R e1 fun x H1 ms1 F1 R1 s1 q1 => ⟨tyB_ok R1.hr q1 ht, ?_⟩
    exact hm ms1 F1 H1 μ1 x [] dx [] d μ' Q R1.hr q1 rfl ev (k.step R1.hr s1)
  · cases ev⟩
def strsD : List D → Option (List Str)
  | [] => some []
  | .str T :: ds => match strsD ds with
    | some Ts => some (T :: Ts)
    | none => none
  | _ => none
theorem strsD_ok {Γ : Gm} {ms : List Addr} {F : Hp} : ∀ {ds : List D} {Ts : List Str} {vs : List V}, strsD ds = some Ts → HasL Γ ms F vs ds → vs = Ts.map V.str
  | [], bs, vs, e, h => by cases e; cases h; rfl
  | d :: ds, bs, vs, e, ⟨w, ws, hv, h1, h2⟩ => by
    subst hv
    cases d with
    | str b =>
      unfold strsD at e
      split at e
      · rename_i bs' e'
        cases e
        rw [show w = .str b from h1, strsD_ok e' h2]; rfl
      · cases e
    | _ => cases e
def joinD : D → G1 := fun x ds μ => match x, ds with
  | .str s, [y] => match seqD μ y with
    | some (_, ys) => match strsD ys with
      | some zs => if (zs.map (·.length)).sum + zs.length * s.length ≤ 1000000 then some (.str (Txt.join s zs), μ) else none
      | none => none
    | none => none
  | _, _ => none
theorem md_join : MtD X cl "str.join" joinD := by
  intro ms F H μ x vs dx ds d μ' Q r hx hv ev k
  unfold joinD at ev
  split at ev
  · rename_i s y
    split at ev
    · rename_i sk ys hq
      split at ev
      · rename_i zs hz
        split at ev
        · rename_i hl
          cases ev
          obtain ⟨v, rfl, hy⟩ := hv.one'
          obtain ⟨a, xs, rfl, hs, hl'⟩ := seqD_ok r hy hq
          have e := strsD_ok hz hl'
          subst e
          exact ⟨_, mt_join, s, a, zs, hx, rfl, hs.or, by omega, k.imm r rfl⟩
        · cases ev
      · cases ev
    · cases ev
  · cases ev
theorem mut_lst {Γ : Gm} {ms : List Addr} {F H : Hp} {μ : List MO} {k : Nat} {v : V} {xs : List D} (r : HR Γ ms F H μ) (h : Has Γ ms F v (.mut k)) (e : μ[k]? = some (.lst xs)) : ∃ a vs, v = .ref a ∧ ms[k]? = some a ∧ H a = some (.lst vs) ∧ HasL Γ ms F vs xs := by
  obtain ⟨a, rfl, hm⟩ := h
  obtain ⟨a', ha', ys, hx, hl⟩ := r.obj _ _ e
  rw [hm] at ha'; cases ha'
  exact ⟨a, ys, rfl, hm, hx, hl⟩
theorem Fin1.wr {Γ : Gm} {ms : List Addr} {F H : Hp} {d : D} {μ : List MO} {Q : VK} {k : Nat} {a : Addr} {vs : List V} {xs : List D} (kk : Fin1 Γ ms F H d (μ.set k (.lst xs)) Q) (r : HR Γ ms F H μ) (ha : ms[k]? = some a) (hl : HasL Γ ms F vs xs) {v : V} (h : Has Γ ms F v d) : Q v (upd H a (.lst vs)) := by
  obtain ⟨r', s⟩ := r.write ha (u := .lst xs) (o := .lst vs) ⟨vs, upd_same, hl⟩
  exact kk v _ ms F r' s h
def appendD : D → G1 := fun x ds μ => match x, ds with
  | .mut k, [d] => match μ[k]? with
    | some (.lst xs) => if xs.length < 1000000 then some (.non, μ.set k (.lst (xs ++ [d]))) else none
    | _ => none
  | _, _ => none
theorem md_append : MtD X cl "list.append" appendD := by
  intro ms F H μ x vs dx ds d μ' Q r hx hv ev k
  unfold appendD at ev
  split at ev
  · rename_i j dd
    split at ev
    · rename_i xs hk
      split at ev
      · rename_i hz
        cases ev
        obtain ⟨v, rfl, hy⟩ := hv.one'
        obtain ⟨a, ws, rfl, hm, ha, hl⟩ := mut_lst r hx hk
        exact ⟨_, mt_append, a, ws, v, rfl, rfl, ha, by rw [hl.length, sizeLine_eq]; omega, k.wr r hm (hl.append (HasL.one hy)) rfl⟩
      · cases ev
    · cases ev
  · cases ev
def reverseD : D → G1 := fun x ds μ => match x, ds with
  | .mut k, [] => match μ[k]? with
    | some (.lst xs) => some (.non, μ.set k (.lst xs.reverse))
    | _ => none
  | _, _ => none
theorem md_reverse : MtD X cl "list.reverse" reverseD := by
  intro ms F H μ x vs dx ds d μ' Q r hx hv ev k
  unfold reverseD at ev
  split at ev
  · split at ev
    · rename_i xs hk
      cases ev
      cases hv
      obtain ⟨a, ws, rfl, hm, ha, hl⟩ := mut_lst r hx hk
      exact ⟨_, mt_reverse, a, ws, rfl, rfl, ha, k.wr r hm hl.rev rfl⟩
    · cases ev
  · cases ev
def clearD : D → G1 := fun x ds μ => match x, ds with
  | .mut k, [] => match μ[k]? with
    | some (.lst xs) => some (.non, μ.set k (.lst []))
    | _ => none
  | _, _ => none
theorem md_clear : MtD X cl "list.clear" clearD := by
  intro ms F H μ x vs dx ds d μ' Q r hx hv ev k
  unfold clearD at ev
  split at ev
  · split at ev
    · rename_i xs hk
      cases ev
      cases hv
      obtain ⟨a, ws, rfl, hm, ha, hl⟩ := mut_lst r hx hk
      exact ⟨_, mt_clear, a, ws, rfl, rfl, ha, k.wr r hm rfl rfl⟩
    · cases ev
  · cases ev
/-! ### o[i] = e -/
def bSt (fe fo fi : EF) : BF := fun δ μ => match fe δ μ with
  | some (d, μ1) => match fo δ μ1 with
    | some (.mut k, μ2) => match fi δ μ2 with
      | some (.int j, μ3) => match μ3[k]? with
        | some (.lst xs) => match ixN xs.length j with
          | some m => some (.nx δ (μ3.set k (.lst (xs.set m d))))
          | none => none
        | _ => none
      | _ => none
    | _ => none
  | none => none
theorem ds_st {sp : Pos} (he : DE X cl e fe) (ho : DE X cl o fo) (hi : DE X cl i fi) (hs : swapsWithSole [.Subscript o i sp] e pos.line X.env = pure false := by rfl) (hw : swappedStores [.Subscript o i sp] e X.env = pure none := by rfl) (h1 : (assignEach [.Subscript o i sp] X.env).map (·.2) = [assign (.Subscript o i sp) X.env] := by rfl)
    (hg : PG X (.Subscript o i sp) (gSub (tE (gm X cl) fo) (tE (gm X cl) fi) rSetL)) :
    DS X cl (.Assign [.Subscript o i sp] e pos) (bSt fe fo fi) := ⟨(ps_asg he.p hg hs hw h1).weak fun D σ H ⟨O, ms, F, δ, μ, oo, R, ev, hO, k⟩ => by
  unfold bSt at ev
  split at ev
  · rename_i d μ1 e1
    split at ev
    · rename_i kk μ2 e2
      split at ev
      · rename_i j μ3 e3
        split at ev
        · rename_i xs hk
          split at ev
          · rename_i m hm
            cases ev
            refine tE.seq R e1 fun v H1 ms1 F1 R1 s1 q1 => tE.seq R1 e2 fun ov H2 ms2 F2 R2 s2 q2 => tE.seq R2 e3 fun iv H3 ms3 F3 R3 s3 q3 => ?_
            obtain ⟨a, ws, rfl, hma, ha, hl⟩ := mut_lst R3.hr (q2.step s3) hk
            refine ⟨a, ws, j, m, rfl, q3, ha, by rw [hl.length]; exact hm, ?_⟩
            obtain ⟨r', s⟩ := R3.hr.write hma (u := .lst (xs.set m d)) (o := .lst (ws.set m v)) ⟨_, upd_same, HasL.set ((q1.step s2).step s3) m hl⟩
            exact k σ _ ms3 F3 (R3.step r' s) (((s1.trans' R1.hr s2).trans' R2.hr s3).ext)
          · cases ev
        · cases ev
      · cases ev
    · cases ev
  · cases ev⟩
end
end G

set_option Elab.async false
set_option linter.all false
set_option autoImplicit false
set_option maxRecDepth 100000
set_option maxHeartbeats 2000000
namespace G
open PySem PySem.Spec PySem.Calls L2
/-- the heap at the law's call: the script alone, frozen -/
def scrH (a : Addr) (vs : List Value) (ns : List Int) : Hp := fun b => if b = a then some (.frz { cls := .type "list", data := .seq vs.toArray } (.lst (ns.map V.int))) else none
theorem scrH_only (a : Addr) (vs : List Value) (ns : List Int) (b : Addr) : scrH a vs ns b = none ∨ ∃ o xs, scrH a vs ns b = some (.frz o (.lst xs)) := by
  unfold scrH
  split
  · exact Or.inr ⟨_, _, rfl⟩
  · exact Or.inl rfl
/-- the call, over an abstract heap that tracks the script at most -/
theorem call_over {P : Program} {w : World} {K : PySem.W.Frag} {mg mb : Str → Option Value} {k : Nat} {fa a : Addr} {fd : FuncData} {x : Str} {sp : Sp} {s : Shared} {vs : List Value} {H : Hp}
    (kin : K.In s.heap) (gns : s.heap.Ns mainGlobals mg) (bns : s.heap.Ns builtinsNs mb) (boot : ∀ x : Str, x ≠ "__name__" → mb x = bootBuiltins x) (lim : s.heap.NoLimit) (nog : s.gens = #[])
    (scr : s.heap.get? a = some { cls := .type "list", data := .seq vs.toArray }) (room : Room k callerA) (hok : HOk P w H s.heap)
    (onlyF : ∀ b, H b = none ∨ ∃ o xs, H b = some (.frz o (.lst xs))) (onlyA : ∀ b, H b ≠ none → b = a) (kfree : H a ≠ none → K.lookup a = none)
    (F : ∀ base : Heap, K.In base → base.Ns mainGlobals mg → FnG P w K mg base k fa fd 1 [x] sp) (hb : ∀ (s : Shared) (u : Value), BindsTo s fd ⟨[u], []⟩ [(x, u)])
    (hsp : sp [.ref a] H (fun v _ => v = .bl true) E0) :
    codeAny (model P w) callerA (.call (.ref fa) ⟨[.ref a], []⟩) (fun r s' => r = .ok (.ret (.bool true)) ∧ OldK s.heap s'.heap ∧ s'.os = s.os ∧ PyProof.Rows.AllBare s'.gens) s := by
  have low : ∀ {b : Addr} {o : Obj}, s.heap.get? b = some o → H b = none → (hidT s.heap H).get? b = some o := fun {b o} e n => hidT_get e n
  have untr : ∀ b, (∀ o, s.heap.get? b = some o → ∀ es ep, o.data = .dict es ep → H b = none) := fun b o e es ep d => by
    cases q : H b with
    | none => rfl
    | some u =>
      obtain rfl := onlyA b (by rw [q]; exact fun z => nomatch z)
      rw [scr] at e
      cases e
      exact absurd d (fun z => nomatch z)
  have nsl : ∀ {b : Addr} {m : Str → Option Value}, s.heap.Ns b m → (hidT s.heap H).Ns b m := by
    rintro b m ⟨o, es, ep, e, d, r⟩
    exact ⟨o, es, ep, low e (untr b o e es ep d), d, r⟩
  have kb : K.In (hidT s.heap H) := by
    intro b o e
    refine low (kin b o e) ?_
    cases q : H b with
    | none => rfl
    | some u =>
      obtain rfl := onlyA b (by rw [q]; exact fun z => nomatch z)
      rw [kfree (by rw [q]; exact fun z => nomatch z)] at e
      exact nomatch e
  obtain ⟨mc, l1, l2⟩ := lim
  have modl : Mod K mg (hidT s.heap H) := ⟨kb, nsl gns, ⟨mb, nsl bns, boot⟩, ⟨mc, nsl l1, l2⟩⟩
  have env : Env0 P w K mg (hidT s.heap H) callerA [] s H :=
    ⟨rfl, modl, fun b o e => of_hidT e, Nat.le_of_eq (hidT_size _ _), trivial, fun b hm => absurd (show b ∈ ([] : List Addr) from hm) (by simp), hok, .of_eq nog⟩
  refine codeAny_mono ((F _ kb (nsl gns)).go (us := [.ref a]) (vs := [V.ref a]) rfl room env (hb s (.ref a)) (.cons rfl .nil) hsp) fun r s' h => ?_
  cases r with
  | error _ => exact (show False from h).elim
  | ok fl =>
    cases fl with
    | next => exact (show False from h).elim
    | brk => exact (show False from h).elim
    | cont => exact (show False from h).elim
    | ret u =>
      obtain ⟨v, H', os, bare, un, hok', rv, q⟩ := h
      subst q
      obtain rfl : u = Value.bool true := rv
      refine ⟨rfl, .of_keep fun b o e => ?_, os, bare⟩
      rcases onlyF b with z | ⟨ob, xs, z⟩
      · exact un.keep b o e z (fun m => by cases m) (fun m => by cases m)
      · obtain ⟨e1, _⟩ := hok b _ z
        obtain ⟨e2, _⟩ := hok' b _ (un.frzs b ob _ z)
        rw [e] at e1
        cases e1
        exact e2
/-- what a law's def promises: over a script it hands back True -/
def spLawD (K : PySem.W.Frag) (cl : Nat → Addr) (fn : FF) : Sp := spF (gk K cl) 1 fn
theorem law_end {l : PySem.W.OpenLaw} {k : Nat} {q : Program} {loose : List Str} {XP : (Str → Option Value) → Heap → Prop} {YP : World → Heap → Prop} {d : DefRec} {K : Params → PySem.W.Frag} {x : Str} {fn : FF}
    (hn : l.most = some 63) (hdf : d.params.defaults = []) (room : Room k callerA) (hY : ∀ (w : World) (h : Heap), YP w h → (K w.params).In h)
    (F : ∀ (w : World) (mg : Str → Option Value) (fa : Addr) (h : Heap), (K w.params).In h → h.Ns mainGlobals mg → mg d.name = some (.ref fa) →
      ∃ (fd : FuncData) (cl : Nat → Addr), (∀ (s : Shared) (u : Value), BindsTo s fd ⟨[u], []⟩ [(x, u)]) ∧
        ∀ base : Heap, (K w.params).In base → base.Ns mainGlobals mg → FnG l.prog w (K w.params) mg base k fa fd 1 [x] (spF (gk (K w.params) cl) 1 fn))
    (good : ∀ ns : List Int, ns.length ≤ 63 → (∀ z ∈ ns, Builtin.Int.intBits z ≤ 1048576) → ∃ μ, fn [.scr ns] [] = some (.bl true, μ)) :
    PySem.W.WalkO q loose XP YP l.row.toRowW d [] (fun f vs => PySem.call f vs) := by
  refine Att.attach_callB hn hdf ?_
  intro w s₀ s mg mb fa o pm cd doc a vs ns G Y ho hd hcd hmg hobj hints hlen hbits hg
  have kin := hY w _ Y
  obtain ⟨fd, cl, hb, hF⟩ := F w mg fa _ kin G.T.g hmg
  have rv := vals_ints hints
  have sz : ns.length ≤ sizeLine := Nat.le_trans hlen (by rw [sizeLine_eq]; decide)
  have sp : ∀ H : Hp, SqL (K w.params) H a (ns.map V.int) → spF (gk (K w.params) cl) 1 fn [.ref a] H (fun v _ => v = .bl true) E0 := fun H hs => by
    obtain ⟨μ, e⟩ := good ns hlen hbits
    exact ⟨[], H, [.scr ns], [], _, μ, ⟨Same.refl _, fun _ h => (by cases h), rfl, .nil, fun _ _ h => by simp at h⟩, ⟨_, _, rfl, ⟨a, rfl, hs⟩, rfl⟩, rfl, e, fun v H' ms' F' _ _ h => h⟩
  cases hk : (K w.params).lookup a with
  | some o2 =>
    have e := kin a o2 hk
    rw [hobj] at e
    cases e
    exact call_over (H := fun _ => none) kin G.T.g G.T.b G.T.builtins G.T.nolimit hg hobj room (fun b u z => nomatch z) (fun _ => .inl rfl) (fun b z => absurd rfl z) (fun z => absurd rfl z) hF hb
      (sp _ (.inr ⟨_, _, _, hk, rfl, rfl, rfl, by rw [List.size_toArray, hints.length]; exact sz, by simpa using rv⟩))
  | none =>
    refine call_over (H := scrH a vs ns) kin G.T.g G.T.b G.T.builtins G.T.nolimit hg hobj room ?_ (scrH_only a vs ns) ?_ (fun _ => hk) hF hb (sp _ (.inl (.inr ⟨_, if_pos rfl⟩)))
    · intro b u z
      unfold scrH at z
      split at z
      · rename_i hba
        subst hba
        cases z
        exact ⟨hobj, by rw [List.length_map]; exact sz, vs, _, rv, hobj⟩
      · cases z
    · intro b z
      unfold scrH at z
      split at z
      · assumption
      · exact absurd rfl z
end G

set_option Elab.async false
set_option linter.all false
set_option autoImplicit false
set_option maxRecDepth 100000
set_option maxHeartbeats 2000000
namespace G
open PySem PySem.Spec PySem.Calls L2
section
variable {X : Cx} {cl : Nat → Addr} {a b c e o i : Expr} {es : List Expr} {fe fa fb fc fo fi : EF} {pos p p1 p2 apos cpos : Pos} {r : AF}
theorem de_gint {x : Str} {v : Int} (hg : Gl X x) (h : ∃ t, X.mg x = some (.int v t)) (hd : (x == ("__debug__" : Str)) = false := by decide) : DE X cl (.Name x pos) (eC (.int v)) := by
  obtain ⟨t, h⟩ := h
  exact de_c (v := .int v) (pe_glob hg h ⟨_, rfl⟩ hd) fun _ _ => rfl
theorem de_gstr {x : Str} {v : Str} (hg : Gl X x) (h : ∃ t, X.mg x = some (.str v t)) (hd : (x == ("__debug__" : Str)) = false := by decide) : DE X cl (.Name x pos) (eC (.str v)) := by
  obtain ⟨t, h⟩ := h
  exact de_c (v := .str v) (pe_glob hg h ⟨_, rfl⟩ hd) fun _ _ => rfl
def eNeg (f : EF) : EF := eThen f fun d _ μ => match d with
  | .int i => some (.int (-i), μ)
  | _ => none
theorem de_neg (h : DE X cl a fa) : DE X cl (.UnaryOp .USub a pos) (eNeg fa) := ⟨(pe_un un_neg h.p).weak fun σ H Q ⟨O, ms, F, δ, μ, d, μ', R, ev, k⟩ => by
  obtain ⟨d1, μ1, e1, ev⟩ := eThen_some ev
  refine tE.seq R e1 fun v H1 ms1 F1 R1 s1 q1 => ?_
  split at ev
  · cases ev; exact ⟨_, q1, k _ H1 ms1 F1 R1.hr s1 rfl⟩
  · cases ev⟩
/-- a comparison with None, as a test -/
theorem dt_isN {j p'} (ha : DE X cl a fa) : DT X cl (.Compare a [.Is] [.Constant .none j p'] pos) (asB (eIsN fa)) := ⟨(pt_cmp (pc_isN ha.p)).weak fun σ H Q ⟨O, ms, F, δ, μ, d, μ', R, ev, k⟩ => by
  obtain ⟨d1, μ1, e1, ev⟩ := eThen_some (asB_some ev)
  cases ev
  refine tE.seq R e1 fun v H1 ms1 F1 R1 s1 q1 => ?_
  have := has_non q1
  refine ⟨_, rfl, ?_⟩
  rw [this]
  exact k H1 ms1 F1 R1.hr s1⟩
theorem dt_notN {j p'} (ha : DE X cl a fa) : DT X cl (.Compare a [.IsNot] [.Constant .none j p'] pos) (asB (eNotN fa)) := ⟨(pt_cmp (pc_notN ha.p)).weak fun σ H Q ⟨O, ms, F, δ, μ, d, μ', R, ev, k⟩ => by
  obtain ⟨d1, μ1, e1, ev⟩ := eThen_some (asB_some ev)
  cases ev
  refine tE.seq R e1 fun v H1 ms1 F1 R1 s1 q1 => ?_
  have := has_non q1
  refine ⟨_, rfl, ?_⟩
  rw [this]
  exact k H1 ms1 F1 R1.hr s1⟩
theorem _root_.L2.Room.un65 {k : Nat} {A : Around} (r : Room k A) : A.units + 65 < cLine := by have := r.un; omega
end
/-- a def of the text, with its promise -/
structure HasF (P : Program) (w : World) (K : PySem.W.Frag) (mg : Str → Option Value) (base : Heap) (cl : Nat → Addr) (k : Nat) (x : Str) (n : Nat) (ps : List Str) (fn : FF) where
  f : Addr
  fd : FuncData
  ok : FnG P w K mg base k f fd n ps (spF (gk K cl) n fn)
  mg : mg x = some (.ref f)
  kp : PySem.W.keepIn K (.ref f) = true
  bd : Binds K fd ps []
end G

set_option Elab.async false
set_option linter.all false
set_option autoImplicit false
set_option maxRecDepth 100000
set_option maxHeartbeats 2000000
namespace G
open PySem PySem.Spec PySem.Calls L2
/-! ### an exception as a value: its args at t, its own dict -/
section
open PySem.W PyProof.Rows
variable {prog : Program} {w : World} {A : Around} {E : Value → Shared → Prop} {s : Shared} {K : Frag} {x C : Addr} {ox od : Obj}
/-- exc.__class__, whatever its own dict holds -/
theorem exc_cls {Q : Option Value → Shared → Prop} (T : ExcC K C) (X : K.In s.heap) (I : InstAt s.heap x ox C (some od)) (h : Q (some (.ref C)) { s with toks := s.toks + 1 }) : wpAny (model prog w) A (getAttr? (.ref x) "__class__") Q E s := by
  have isome : (clsIn K C).isSome := by
    obtain ⟨cd, hc, _⟩ := any_some T.hd
    rw [hc]
    rfl
  have found : findObj K C (some od) "__class__" = some (.bind (.builtin "getset_descriptor.__get__") (.builtin "object.__class__")) := findObj_data isome T.ha T.hn T.ht
  obtain ⟨hp, g, d, t, os⟩ := s
  have ty := I.type (M := model prog w)
  have look1 := looks_findIn (M := model prog w) X T.hg
  have look2 := looks_findIn (M := model prog w) X T.hk
  have look3 := looks_find (M := model prog w) X I found
  have base : Looks (model prog w) hp (isInstance (.ref x) (.type "BaseException")) true := ty.andThen (looks_subIn X T.hs)
  have unlike : (Value.builtin "BaseException.__getattribute__" == Value.builtin "object.__getattribute__") = false := by decide +kernel
  have first : (onTheHeap (Value.ref C) && Value.builtin "BaseException.__getattribute__" == Value.builtin "object.__getattribute__") = false := by
    rw [unlike]
    rfl
  unfold getAttr? getAttrBy? getAttrBy
  refine wpAny_bind (wpAny_mkText (wpAny_bind (wpAny_attempt (wpAny_holding ?_))))
  refine wpAny_bind (ty.at (wpAny_bind (look1.at ?_)))
  dsimp only
  rw [first, if_neg Bool.false_ne_true]
  unfold getAttrByItsOwn hookBefore
  refine wpAny_bind ?_
  rw [if_pos (show onTheHeap (Value.ref C) = true from rfl)]
  refine look2.at (wpAny_bind (wpAny_attempt (wpAny_holding ?_)))
  unfold callGetattribute
  rw [show (false && onTheHeap (Value.builtin "BaseException.__getattribute__")) = false from rfl, if_neg Bool.false_ne_true]
  unfold boundAndCalled
  rw [PySem.F.excAttr_ValueError.ga.bind (.ref x)]
  refine wpAny_bind (wpAny_pure ?_)
  show wpAny _ _ (call (.builtin "BaseException.__getattribute__") [.ref x, .str "__class__" t]) _ _ _
  refine wpAny_call ?_
  refine codeAny_call_builtin PySem.F.excAttr_ValueError.ga.plain PySem.F.entry_bexc_ga ?_
  refine @check_slot (model prog w) _ _ ⟨hp, g, d, t + 1, os⟩ "BaseException.__getattribute__" "BaseException" "__getattribute__" (.ref x)
    [.str "__class__" t] [] _ (by decide +kernel) (by decide +kernel) base (PySem.F.args_bexc_ga (.ref x) (.str "__class__" t)) ?_
  unfold Builtin.«object.__getattribute__»
  refine wpAny_bind (wpAny_of_eq (a := ((Value.ref x : Value), [Value.str "__class__" t])) ?_ ?_)
  · first | rfl | (simp only [slotArgs]; rfl)
  refine wpAny_bind (wpAny_pure (wpAny_bind (ty.at ?_)))
  refine wpAny_bind (look3.at ?_)
  show wpAny _ _ (holding [Value.builtin "object.__class__"] (call (.builtin "getset_descriptor.__get__") [.builtin "object.__class__", .ref x, .ref C]) >>= ret) _ _ _
  refine wpAny_bind (wpAny_holding (wpAny_call ?_))
  refine class_get (s := ⟨hp, g, d, t + 1, os⟩) (ox := ox) (od := some od) X I T.hm ?_
  refine wpAny_pure ?_
  show wpAny _ _ (handedOut (.ref C)) _ _ _
  rw [handedOut_of (v := .ref C) rfl]
  first
    | exact wpAny_pure (wpAny_pure h)
    | exact wpAny_pure h
    | exact wpAny_pure (wpAny_bind (wpAny_pure (wpAny_pure h)))
theorem exc_head {h : Heap} {M : Model} (T : ExcC K C) (X : K.In h) : Looks M h (isType (.ref C)) true := by
  obtain ⟨cd, hc, _⟩ := any_some T.hd
  unfold clsIn at hc
  split at hc
  · rename_i c' d' cd' sl' lk
    intro A' Q' E' s' old q
    unfold isType loadHead
    exact wpAny_bind (wpAny_loadPart (old _ _ (X _ _ lk)) (wpAny_pure q))
  · cases hc
theorem kitx_exc (T : ExcC K C) : KitX K (.ref x) (.ref C) fun h => ∃ ox od, InstAt h x ox C (some od) where
  ty := fun _ _ _ ⟨_, _, I⟩ => I.type
  it := fun M h X _ => exc_head T X
  ne := fun h tp dd its n sl X htp => by
    obtain ⟨cd, hc, _⟩ := any_some T.hd
    cases hb : (Value.ref C == Value.ref tp) with
    | false => rfl
    | true =>
      obtain rfl : C = tp := Value.ref.inj (beq_iff_eq.mp hb)
      unfold clsIn at hc
      split at hc
      · rename_i c' d' cd' sl' lk
        have both := (X _ _ lk).symm.trans htp
        cases both
      · cases hc
  ca := fun X ⟨_, _, I⟩ k => exc_cls T X I k
end
/-- the exception at a, with its dict at dx -/
def ExcAt (Γ : Gm) (F : Hp) (C : Nat) (a dx t : Addr) (fs : List (Str × V)) : Prop := F a = some (exoT a (Γ.cl C) (some dx) t) ∧ F dx = some (exd dx fs)
theorem instAt_exc {P : Program} {w : World} {H : Hp} {h : Heap} {a C dx t : Addr} {fs : List (Str × V)} (hok : HOk P w H h) (e : H a = some (exoT a C (some dx) t)) (ed : H dx = some (exd dx fs)) : ∃ ox od, PySem.W.InstAt h a ox C (some od) := by
  have h1 := exoT_at hok e
  obtain ⟨od, h2⟩ := (hok dx _ ed).2.1
  exact ⟨_, od, h1, rfl, rfl, h2⟩
/-- isinstance(exc, T), (T1, T2) -/
def rIsX (K : PySem.W.Frag) : List V → Hp → VK → Prop := fun xs H Q => ∃ (a C dx t : Addr) (fs : List (Str × V)) (c : V) (u : Value) (b : Bool), xs = [.ref a, c] ∧ H a = some (exoT a C (some dx) t) ∧ H dx = some (exd dx fs) ∧ ExcC K C ∧ ClsV c u ∧ PySem.W.kitOne K (.ref C) u = some b ∧ Q (.bl b) H
theorem call_isX {X : Cx} : CallR X (.builtin "isinstance") (rIsX X.K) := by
  intro pins s σ H xs us Q I r h
  obtain ⟨a, C, dx, t, fs, c, u, b, rfl, ha, hd, T, k, e, q⟩ := h
  obtain ⟨u1, u2, rfl, r1, r2⟩ := vals2 r
  obtain rfl := k.eq r2
  obtain rfl : u1 = Value.ref a := r1
  obtain ⟨ox, od, J⟩ := instAt_exc I.hok ha hd
  exact PySem.W.kia_one (kitx_exc T) I.kIn ⟨ox, od, J⟩ e (fun z => nomatch z) fun tk => ⟨.bl b, H, I.tok tk, rfl, q⟩
end G

set_option Elab.async false
set_option linter.all false
set_option autoImplicit false
set_option maxRecDepth 100000
set_option maxHeartbeats 2000000
namespace G
open PySem PySem.Spec PySem.Calls L2
/-! ### C.m(..), C an own class, m a def of it -/
structure CFn (K : PySem.W.Frag) (C : Addr) (m : Str) (f : Addr) : Prop where
  ga : PySem.W.specialIn K (.ref C) "__getattribute__" = some (some (.builtin "type.__getattribute__"))
  rd : PySem.W.readsIn K C (.type "type") = true
  fc : PySem.W.findCls K (.ref C) (.type "type") m = some (.val (.ref f))
  kp : PySem.W.keepIn K (.ref f) = true
section
variable {X : Cx} {o e : Expr} {es : List Expr} {to te : TE} {t : TA} {m : Str} {pos apos p : Pos} {k n : Nat} {C f : Addr} {fd : FuncData} {ps : List Str} {sp : Sp}
theorem pe_clsfn {pl : Sem Bool} (ho : PE X o to) (c : CFn X.K C m f) (Gf : FnG X.prog X.w X.K X.mg X.base k f fd n ps sp) (hgd : X.A.guards = some []) (hr : Room k X.A) (hb : Binds X.K fd ps []) (ha : PA X (e :: es) t)
    (hst : starEach (e :: es) X.env = (false, eval e X.env) :: starEach es X.env := by rfl) (hpl : (backTo pos (starEach es X.env)).any (·.1) = false := by rfl)
    (ht : eval (.Call (.Attribute o m apos) (e :: es) [] pos) X.env = (do
      let ov ← eval o X.env
      standAt apos.atName
      let (f, first) ← holding [ov] (getMethod ov m pl)
      callWith pos f first (backTo pos (starEach (e :: es) X.env)) (backToKw pos (keywordEach [] X.env))) := by rfl) :
    PE X (.Call (.Attribute o m apos) (e :: es) [] pos) (fun σ H Q => to σ H fun x H1 => x = .ref C ∧ t σ H1 fun vs H2 => sp vs H2 Q E0) := by
  constructor
  intro pins s σ H Q I h
  refine PySem.W.methodCall_KW (pl := pl) (thn (ho.run pins s σ H _ I h) ?_) ht
  rintro u s1 ⟨x, H1, I1, rx, rfl, q⟩
  obtain rfl : u = Value.ref C := rx
  refine PySem.W.method_cls I1.kIn c.ga (PySem.W.cls_value I1.kIn c.rd c.fc rfl ?_)
  refine PySem.W.callWith_K (first := []) (h₀ := X.base) I1.ok.mod.kin c.kp (thn (ha.run pos pins _ σ H1 _ (I1.tok _) q) ?_) hst hpl
  rintro us s2 ⟨vs, H2, I2, r, q2⟩
  exact ⟨I2.kIn, runG (dvs := []) (ds := []) Gf hgd hr hb .nil I2 r (by rw [List.append_nil]; exact q2)⟩
end
/-! ### ValueError.__init__(exc, ..): its args are laid anew, and told -/
section
open PySem.W PyProof.Rows PySem.HandSPX
variable {prog : Program} {w : World} {A : Around} {R : Result → Shared → Prop} {hp : Heap} {g : Array GenState} {d : Drawn} {tk : Nat} {os : OsState}
theorem init_args {B newId initId : String} {bmB bm bs : List Value} {C N nm q : _} {hdct : Bool} {sn sub ab col dd k0 k1 k2 k3 k5 : _} (F : ExcBaseFacts B newId initId bmB) (hT : ∀ X : String, bm.contains (.type X) = bmB.contains (.type X)) {e t0 : Addr} {rest : List Value}
    (hC : hp.get? C = some (excClassObj nm q C N bs bm hdct sn sub ab col dd k0 k1 k2 k3 k5 newId)) (he : hp.get? e = some (excO C t0)) (hrest : rest.length ≤ sizeLine)
    (after : ∀ h', (∀ b o, b ≠ e → (hp.push (kdv_tup rest)).get? b = some o → h'.get? b = some o) → h'.get? e = some (excO C hp.objs.size) → R (.ok (.ret .none)) ⟨h', g, d, tk, os⟩) :
    codeAny (model prog w) A (.call (.builtin initId) ⟨.ref e :: rest, []⟩) R ⟨hp, g, d, tk, os⟩ := by
  refine codeAny_call_builtin F.init.plain F.initEntry ?_
  refine check_init_own F hT hC he rfl ?_
  wp_walk
  refine after _ (fun b o hb ho => ?_) ?_
  · rw [Heap.get?_update_other _ _ (Ne.symm hb)]
    exact ho
  · rw [Heap.get?_update_self _ (Heap.get?_push_of_some _ he) rfl]
    rfl
end
section
variable {X : Cx} {pins : List (Addr × Obj)} {σ : L2.St} {H : Hp} {s : Shared} {a C dx t0 : Addr} {f : Str} {y : V} {u : Value} {fs : List (Str × V)} {E : Value → Shared → Prop} {A : Around}
theorem veinit_ok {us : List Value} {ws : List V} {Q : Value → Shared → Prop} (T : OexC X.K C) (I : Inv X pins σ H s) (e : H a = some (exoT a C none t0)) (rv : Vals ws us) (hl : us.length ≤ sizeLine)
    (h : ∀ t s', H t = none → Inv X pins σ (upd (upd H t (.tup ws)) a (exoT a C none t)) s' → Q .none s') :
    wpAny (model X.prog X.w) A (call (.builtin "ValueError.__init__") (.ref a :: us)) Q E s := by
  obtain ⟨nm, q, N, bs, bm, sn, sub, ab, col, dd, k0, k1, k2, k3, k5, hC, hbm⟩ := T.cls
  have ho := exoT_at I.hok e
  obtain ⟨hp, g, d, tk, os⟩ := s
  refine wpAny_call (init_args PySem.F.excBase_ValueError (fun Y => PySem.HandSPX.refsVE_contains Y bm hbm) (I.kIn _ _ hC) ho hl fun h' k hx => ?_)
  have fresh : H hp.objs.size = none := I.hok.fresh (Nat.le_refl _)
  have wl : ws.length ≤ sizeLine := by rw [rv.length]; exact hl
  have J := I.laid (t' := tk) (a := hp.objs.size) (o := .tup ws) (h' := hp.push (PySem.W.kdv_tup us)) (fun b o q => Heap.get?_push_of_some _ q) (Nat.le_refl _) ⟨wl, us, rv, ⟨_, Heap.get?_push_size _ rfl, rfl, _, rfl⟩⟩
  have ne : a ≠ hp.objs.size := ne_of_none e fresh
  have ha : upd H hp.objs.size (.tup ws) a = some (exoT a C none t0) := by rw [upd_ne ne]; exact e
  have J2 := J.write (t' := tk) (x := a) (e := a) (o := exoT a C none hp.objs.size) (h' := h') (by rw [ha]; exact True.intro) (.inl rfl) k ⟨_, hx⟩ (exoT_ok hx)
  exact h _ _ fresh J2
/-- exc.f = y, the first one -/
theorem excset_ok {Q : Unit → Shared → Prop} (T : OexC X.K C) (I : Inv X pins σ H s) (e : H a = some (exoT a C none t0)) (hno : PySem.W.findIn X.K (.ref C) f = some none) (ry : RelV y u)
    (h : ∀ dx s', H dx = none → dx ≠ a → Inv X pins σ (upd (upd H dx (exd dx [(f, y)])) a (exoT a C (some dx) t0)) s' → Q () s') : wpAny (model X.prog X.w) A (setAttr (.ref a) f u) Q E s := by
  obtain ⟨nm, q, N, bs, bm, sn, sub, ab, col, dd, k0, k1, k2, k3, k5, hC, hbm⟩ := T.cls
  have look : PySem.W.clsIn X.K C = some { name := nm, bases := bs, mro := .ref C :: bm, ns := N, qualname := q, hasDict := true, slotNames := sn, subclasses := sub, abstract := ab, collection := col, hasDel := false } := by
    unfold PySem.W.clsIn
    rw [hC] <;> rfl
  have ho := exoT_at I.hok e
  obtain ⟨hp, g, d, tk, os⟩ := s
  refine PySem.W.set_plain I.kIn (ox := excObj C none t0) (od := none) ⟨ho, rfl, rfl, trivial⟩ T.sa ?_
  refine PySem.HandSPX.exc_osa I.kIn ho look (show PySem.HandSPX.refsVE (.ref C :: bm) = true from hbm) rfl hno ?_
  intro h' tk' dx keep dn dne hx hn
  have fresh : H dx = none := I.hok.fresh dn
  have young : ∀ {b : Addr} {ob : Obj}, hp.get? b = some ob → b ≠ dx := fun {b ob} z => Nat.ne_of_lt (Nat.lt_of_lt_of_le (Heap.lt_size z) dn)
  have other : ∀ {b : Addr}, H b = none → b ≠ a := fun {b} z w => by
    rw [w, e] at z
    exact nomatch z
  have notIt : ∀ {b : Addr} {o : HO}, H b = some o → (∀ φ, o ≠ .ext φ) → b ≠ a := fun {b o} z w v => by
    subst v
    rw [e] at z
    exact w _ (Option.some.inj z).symm
  have same : ∀ {b : Addr}, b ≠ a → b ≠ dx → upd (upd H dx (exd dx [(f, y)])) a (exoT a C (some dx) t0) b = H b := fun {b} z w => by rw [upd_ne z, upd_ne w]
  have un : Un X.fs [] H (upd (upd H dx (exd dx [(f, y)])) a (exoT a C (some dx) t0)) hp h' := by
    refine ⟨fun b ob z n _ _ => keep b ob (other n) z, fun b ob z n _ _ => ⟨ob.slots, keep b ob (other n) z⟩, fun b ob z n _ => ?_, fun b ob z _ => ?_, fun b xs z => ?_, fun b ob v z => ?_, fun b ps z => ⟨#[], ?_⟩⟩
    · rw [same (other n) (young z)]
      exact n
    · by_cases hb : b = a
      · subst hb
        exact ⟨_, hx⟩
      · exact ⟨ob, keep b ob hb z⟩
    · rw [same (notIt z fun φ w => nomatch w) (ne_of_none z fresh)]
      exact z
    · rw [same (notIt z fun φ w => nomatch w) (ne_of_none z fresh)]
      exact z
    · rw [same (notIt z fun φ w => nomatch w) (ne_of_none z fresh), z]
      simp
  refine h dx _ fresh dne (I.un (t' := tk') un ?_)
  intro b o z
  by_cases hb : b = a
  · subst hb
    rw [upd_same] at z
    cases z
    exact exoT_ok hx
  · rw [upd_ne hb] at z
    by_cases hd : b = dx
    · subst hd
      rw [upd_same] at z
      cases z
      exact exd_ok hn (relO_put (fs := []) ry fun _ => True.intro)
    · rw [upd_ne hd] at z
      have ownNe : ∀ {c : Addr}, H c = some (.own b) → c ≠ a := fun {c} w => notIt w fun φ v => nomatch v
      refine (I.hok b o z).stay (fun c v hc w => keep c v ?_ w) (fun c hc => ?_) fun c xs hc => ?_
      · rcases hc with rfl | hc
        · exact hb
        · exact ownNe hc
      · rw [same (ownNe hc) (ne_of_none hc fresh)]
        exact hc
      · rw [same (notIt hc fun φ v => nomatch v) (ne_of_none hc fresh)]
        exact hc
end
/-! ### the readings of the two __init__ -/
def tVeT (K : PySem.W.Frag) (ta : TA) : TE := fun σ H Q => ta σ H fun vs H1 => ∃ (a C t0 : Addr) (ws : List V), vs = .ref a :: ws ∧ ws.length ≤ 1000 ∧ OexC K C ∧ H1 a = some (exoT a C none t0) ∧ ∀ t, H1 t = none → Q .non (upd (upd H1 t (.tup ws)) a (exoT a C none t))
def tSetX (K : PySem.W.Frag) (f : Str) (to te : TE) : TS := fun D σ H => te σ H fun y H1 => to σ H1 fun x H2 => ∃ a C t0 : Addr, x = .ref a ∧ OexC K C ∧ PySem.W.findIn K (.ref C) f = some none ∧ H2 a = some (exoT a C none t0) ∧
  ∀ dx, H2 dx = none → dx ≠ a → D.nx σ (upd (upd H2 dx (exd dx [(f, y)])) a (exoT a C (some dx) t0))
section
variable {X : Cx} {o e : Expr} {es : List Expr} {to te : TE} {ta : TA} {f : Str} {p p' p1 p2 pos : Pos}
theorem pe_veT {pl : Sem Bool} (hg : Gl X "ValueError") (hm : X.mg "ValueError" = none) (vV : PySem.W.findCls X.K (.type "ValueError") (.type "type") "__init__" = some (.val (.builtin "ValueError.__init__"))) (ha : PA X (e :: es) ta)
    (hc : eval (.Call (.Attribute (.Name "ValueError" p1) "__init__" p2) (e :: es) [] pos) X.env = (do
      let ov ← eval (.Name "ValueError" p1) X.env
      standAt p2.atName
      let (f, first) ← holding [ov] (getMethod ov "__init__" pl)
      callWith pos f first (backTo pos (starEach (e :: es) X.env)) (backToKw pos (keywordEach [] X.env))) := by rfl)
    (he : starEach (e :: es) X.env = (false, eval e X.env) :: starEach es X.env := by rfl) (hpl : (backTo pos (starEach es X.env)).any (·.1) = false := by rfl) :
    PE X (.Call (.Attribute (.Name "ValueError" p1) "__init__" p2) (e :: es) [] pos) (tVeT X.K ta) := by
  constructor
  intro pins s σ H Q I h
  refine PySem.W.methodCall_KW (ld_blt I hg hm PyProof.Rows.Boot.«ValueError» ?_ (by decide) (by decide)) hc
  obtain ⟨m, fr⟩ := I.fr
  refine PySem.W.method_type fr I.ok.mod.kin PySem.OEX.typ_VE (by decide +kernel) vV (by decide +kernel) ?_
  refine PyProof.Rows.callWith_method1 (thn (ha.run pos pins _ σ H _ (I.tok _) h) ?_) he hpl
  rintro us s1 ⟨vs, H1, I1, r1, a, C, t0, ws, rfl, hl, T, ea, q⟩
  cases r1 with
  | @cons _ u0 _ ur ra rw' =>
    obtain rfl : u0 = Value.ref a := ra
    refine veinit_ok T I1 ea rw' (by rw [← rw'.length, sizeLine_eq]; omega) fun t s' ht J => ?_
    exact ⟨.non, _, J, rfl, q t ht⟩
theorem ps_setX (ho : PE X o to) (he : PE X e te) (hs : swapsWith e (some (.Attribute o f p')) pos.line X.env = pure false := by rfl) : PS X (.Assign [.Attribute o f p'] e pos) (tSetX X.K f to te) := by
  constructor
  intro pins s σ H D I h
  refine plainObj_wpAny_Assign_Attribute (thn (he.run pins s σ H _ I h) ?_) hs
  rintro v s1 ⟨y, H1, I1, r1, q1⟩
  refine thn (ho.run pins s1 σ H1 _ I1 q1) ?_
  rintro u s2 ⟨x, H2, I2, r2, a, C, t0, rfl, T, hno, ea, q⟩
  obtain rfl : u = Value.ref a := r2
  exact excset_ok T I2 ea hno r1 fun dx s' n ne J => ⟨σ, _, J, q dx n ne⟩
end
end G

set_option Elab.async false
set_option linter.all false
set_option autoImplicit false
set_option maxRecDepth 100000
set_option maxHeartbeats 2000000
namespace G
open PySem PySem.Spec PySem.Calls L2
theorem make_guards {A : Around} {C : Addr} {us : List Value} {kw : List (Str × Value)} (h : A.guards = some []) : (A.under (.builtin "type.__call__" ⟨.ref C :: us, kw⟩)).guards = some [] := by
  have q : (Code.builtin "type.__call__" ⟨.ref C :: us, kw⟩).isGuard = false := by
    show guardIds.contains "type.__call__" = false
    decide +kernel
  simp [Around.under, Code.guards, q, pushGuards, h]
/-- what __init__(self, f) of an own exception does, its args being the one text msg -/
def spX (C : Addr) (f : Str) (msg : Str) : Sp := fun vs H Q _ => ∃ (a : Addr) (y : V) (t0 : Addr), vs = [.ref a, y] ∧ H a = some (exoT a C none t0) ∧
  ∀ t dx, H t = none → H dx = none → t ≠ dx → Q .non (upd (upd (upd H t (.tup [.str msg])) dx (exd dx [(f, y)])) a (exoT a C (some dx) t))
section
variable {X : Cx} {e : Expr} {ta : TA} {f x : Str} {msg : Str} {p pos : Pos} {C fI : Addr} {k : Nat} {fd : FuncData} {ps : List Str}
def tExc (C : Addr) (f msg : Str) (ta : TA) : TE := fun σ H Q => ta σ H fun vs H1 => ∃ y, vs = [y] ∧ ∀ a t dx, H1 a = none → H1 t = none → H1 dx = none → t ≠ a → dx ≠ a → t ≠ dx →
  Q (.ref a) (upd (upd (upd H1 t (.tup [.str msg])) dx (exd dx [(f, y)])) a (exoT a C (some dx) t))
theorem pe_exc (T : OexC X.K C) (iC : PySem.W.findIn X.K (.ref C) "__init__" = some (some (.ref fI))) (tI : PySem.W.typeIn X.K (.ref fI) = some (.type "function"))
    (Gf : FnG X.prog X.w X.K X.mg X.base k fI fd 2 ps (spX C f msg)) (hgd : X.A.guards = some []) (hr : Room (k + 1) X.A) (hb : Binds X.K fd ps []) (hg : Gl X x) (hm : X.mg x = some (.ref C)) (ha : PA X [e] ta)
    (hdb : (x == ("__debug__" : Str)) = false := by decide) (he : starEach (e :: []) X.env = (false, eval e X.env) :: starEach [] X.env := by rfl) (hpl : (backTo pos (starEach [] X.env)).any (·.1) = false := by rfl) :
    PE X (.Call (.Name x p) [e] [] pos) (tExc C f msg ta) := by
  constructor
  intro pins s σ H Q I h
  obtain ⟨nm, q, N, bs, bm, sn, sub, ab, col, dd, k0, k1, k2, k3, k5, hC, hbm⟩ := T.cls
  refine wpAny_Call_Name_kw (ld_glob I hg hm ?_ hdb)
  refine PySem.W.callWith_K (h₀ := X.base) I.ok.mod.kin T.kC (thn (ha.run pos pins s σ H _ I h) ?_) he hpl
  rintro us s1 ⟨vs, H1, I1, r1, y, rfl, q1⟩
  refine ⟨I1.kIn, ?_⟩
  show wpAny _ _ (call (.ref C) us) _ _ _
  obtain ⟨hp, g, dr, tk, os⟩ := s1
  obtain ⟨u, rfl, ry⟩ := vals1 r1
  have f1 : H1 (hp.objs.size + 1) = none := I1.hok.fresh (Nat.le_succ _)
  have keep : ∀ b o, hp.get? b = some o → ((hp.push (PySem.W.kdv_tup [u])).push (PySem.HandSPX.excO C hp.objs.size)).get? b = some o :=
    fun b o z => Heap.get?_push_of_some _ (Heap.get?_push_of_some _ z)
  have it : ((hp.push (PySem.W.kdv_tup [u])).push (PySem.HandSPX.excO C hp.objs.size)).get? (hp.objs.size + 1) = some (excObj C none hp.objs.size) := by heap_get
  have I2 := I1.laid (t' := tk) (a := hp.objs.size + 1) (o := exoT (hp.objs.size + 1) C none hp.objs.size) (h' := (hp.push (PySem.W.kdv_tup [u])).push (PySem.HandSPX.excO C hp.objs.size)) keep (Nat.le_succ _) (exoT_ok it)
  have spq : spX C f msg [.ref (hp.objs.size + 1), y] (upd H1 (hp.objs.size + 1) (exoT (hp.objs.size + 1) C none hp.objs.size)) (fun v H2 => v = .non ∧ Q (.ref (hp.objs.size + 1)) H2) E0 := by
    refine ⟨_, _, _, rfl, upd_same, fun t dx ht hdx ne => ⟨rfl, ?_⟩⟩
    have nt : t ≠ hp.objs.size + 1 := fun z => by rw [z, upd_same] at ht; exact nomatch ht
    have nd : dx ≠ hp.objs.size + 1 := fun z => by rw [z, upd_same] at hdx; exact nomatch hdx
    rw [upd_ne nt] at ht
    rw [upd_ne nd] at hdx
    have z := q1 (hp.objs.size + 1) t dx f1 ht hdx nt nd ne
    have eq : upd (upd (upd (upd H1 (hp.objs.size + 1) (exoT (hp.objs.size + 1) C none hp.objs.size)) t (.tup [.str msg])) dx (exd dx [(f, y)])) (hp.objs.size + 1) (exoT (hp.objs.size + 1) C (some dx) t) =
        upd (upd (upd H1 t (.tup [.str msg])) dx (exd dx [(f, y)])) (hp.objs.size + 1) (exoT (hp.objs.size + 1) C (some dx) t) := by
      funext b
      by_cases h1 : b = hp.objs.size + 1
      · rw [h1, upd_same, upd_same]
      · rw [upd_ne h1, upd_ne h1]
        unfold upd
        simp only [h1, if_false]
    rw [eq]
    exact z
  have r2 : Vals [V.ref (hp.objs.size + 1), y] [Value.ref (hp.objs.size + 1), u] := .cons rfl (.cons ry .nil)
  have one : [u].length ≤ sizeLine := by rw [sizeLine_eq]; exact (by decide : 1 ≤ 16777216)
  refine wpAny_call (PySem.HandSPX.call_own PySem.F.excBase_ValueError (fun Y => PySem.HandSPX.refsVE_contains Y bm hbm) (I1.kIn _ _ hC) (PySem.W.looks_findIn I1.kIn iC) (fun self => PySem.W.bind_fn I1.kIn self tI) one ?_)
  have bnd := hb ⟨(hp.push (PySem.W.kdv_tup [u])).push (PySem.HandSPX.excO C hp.objs.size), g, dr, tk, os⟩ [Value.ref (hp.objs.size + 1), u] I2.kIn (by rw [Gf.pl]; rfl)
  rw [List.append_nil] at bnd
  refine codeAny_mono (Gf.go (make_guards hgd) (hr.make C [u] []) (I2.env0.make C [u] []) bnd r2 spq) ?_
  intro r s' hq
  cases r with
  | error _ => exact (show False from hq).elim
  | ok fl =>
    cases fl with
    | ret v =>
      obtain ⟨w, H2, I3, rv, rfl, q3⟩ := I2.after hq
      exact ⟨rv, ⟨V.ref (hp.objs.size + 1), H2, I3, rfl, q3⟩⟩
    | next => exact (show False from hq).elim
    | brk => exact (show False from hq).elim
    | cont => exact (show False from hq).elim
end
end G

set_option Elab.async false
set_option linter.all false
set_option autoImplicit false
set_option maxRecDepth 100000
set_option maxHeartbeats 2000000
namespace G
open PySem PySem.Spec PySem.Calls
open Builtin Builtin.Str Builtin.BaseException Builtin.Exceptions
/-! ### repr of an own exception with one text -/
/-- the last part of the class's name -/
def exN (nm : Str) : Str := Str.ofString ((nm.toString.cutAt '.').getLastD "")
def exShown (nm m : Str) : Str := exN nm ++ Str.ofString "(" ++ reprText m ++ Str.ofString ")"
section
variable {prog : Program} {w : World} {A : Around} {E : Value → Shared → Prop} {s : Shared} {K : PySem.W.Frag} {C e t0 : Addr} {m : Str} {tk : Tok} {oC : Obj} {cd : ClassData}
theorem nameWhole_C {Q : String → Shared → Prop} {M : Model} (x : PySem.ExcC K C e t0 s.heap) (hC : s.heap.get? C = some oC) (hd : oC.data = .cls cd) (q : Q cd.name.toString s) : wpAny M A (typeNameOfWhole (.ref e)) Q E s := by
  unfold typeNameOfWhole shownTypeOf
  refine wpAny_bind (wpAny_bind (x.LT.here ?_))
  rw [if_neg (show ¬ ((Value.ref C == Value.type "builtin_function_or_method") = true) from fun z => nomatch (beq_iff_eq.mp z))]
  refine wpAny_pure ?_
  show wpAny M A (do return (← classData C).name.toString) Q E s
  unfold classData
  refine wpAny_bind (wpAny_bind (wpAny_load hC ?_))
  rw [hd]
  exact wpAny_pure (wpAny_pure q)
theorem bexcReprAt_C (b : Nat) {Q : Fin → Shared → Prop} (x : PySem.ExcC K C e t0 s.heap) (ht : s.heap.TupAt t0 [.str m tk]) (hC : s.heap.get? C = some oC) (hd : oC.data = .cls cd)
    (hq : Q (.done (.ret (.str (exShown cd.name m) (s.toks + 1)))) { s with toks := s.toks + 1 + 1 }) (hsz : b + (exShown cd.name m).length ≤ sizeLine) : wpAny (model prog w) A (Builtin.bexcReprAt b ⟨[.ref e], []⟩) Q E s := by
  have e1 : b + (Str.ofString ((cd.name.toString.cutAt '.').getLastD "") ++ Str.ofString "(" ++ reprText m ++ Str.ofString ")").length ≤ sizeLine := hsz
  have hsz2 : (Str.ofString ((cd.name.toString.cutAt '.').getLastD "") ++ Str.ofString "(" ++ reprText m ++ Str.ofString ")").length ≤ sizeLine := Nat.le_trans (Nat.le_add_left _ b) e1
  have eP : (Str.ofString "(").length = 1 := by rw [ofString_length]; rfl
  rw [strLen_append, strLen_append, strLen_append, eP] at e1
  have hsz1 : (reprText m).length ≤ sizeLine := by omega
  have hpile : b + ((Str.ofString ((cd.name.toString.cutAt '.').getLastD "")).length + 1) ≤ sizeLine := by omega
  unfold Builtin.bexcReprAt
  repeat (first | with_reducible refine nameWhole_C x hC hd ?_ | with_reducible refine PySem.bexcArgs_C x ht ?_ | rw [pyReprUnder_leaf (v := .str m tk) hpile (by intro a; nofun)] | with_reducible refine wpAny_pyRepr_str ?_ | wp_step)
  exact hq
theorem reprK_exc {h₀ : Heap} {o : Obj} {vs : Array Value} (X : K.In h₀) (ho : h₀.get? e = some o) (hc : o.cls = .ref C) (hv : o.data = .fields vs) (h0 : vs[0]? = some (.ref t0)) (ht : h₀.TupAt t0 [.str m tk]) (hC : h₀.get? C = some oC) (hd : oC.data = .cls cd)
    (hs : PySem.W.findIn K (.ref C) "__repr__" = some (some (.builtin "BaseException.__repr__"))) (hB : PySem.W.subIn K (.ref C) (.type "BaseException") = some true) (as : List Addr) (d : Nat) : ReprK prog w as h₀ d (.ref e) (exShown cd.name m) := by
  intro base hsz A g E s Q hg hcl hu hk hQ
  have Xs : K.In s.heap := fun b ob z => hk _ _ (X b ob z)
  have x : PySem.ExcC K C e t0 s.heap := ⟨Xs, o, vs, hk _ _ ho, hc, hv, h0⟩
  have ht' : s.heap.TupAt t0 [.str m tk] := by
    obtain ⟨ot, k, h1, h2⟩ := ht
    exact ⟨ot, k, hk _ _ h1, h2⟩
  have hf : PySem.W.Looks (model prog w) s.heap (typeLookup (.ref C) "__repr__") (some (.builtin "BaseException.__repr__")) := PySem.W.looks_findIn Xs hs
  refine wpAny_pyReprUnder_ref (by omega) ?_
  unfold pyReprObjUnder pyReprObjBy
  refine wpAny_bind (wpAny_cRoomFor (by omega) ?_)
  refine wpAny_bind ?_
  unfold specialOf
  refine wpAny_bind (x.LT.here (hf.here ?_))
  simp only [callSpecialIfBoundBy?, bindSpecialIfBound?]
  refine wpAny_bind (wpAny_holding (wpAny_bind (wpAny_bind ?_)))
  unfold specialOf
  refine wpAny_bind (x.LT.here (hf.here ?_))
  simp only [F.excStr_ValueError.repr.bind]
  have tw : reprUnder? (.builtin "BaseException.__repr__") = some (.builtin "BaseException.__repr__.under") := rfl
  have fin : wpAny (model prog w) A (call (.builtin "BaseException.__repr__.under") [.ref e, rawInt base]) (fun v s' => wpAny (model prog w) A (do if ← isInstance v (.type "str") then pure v else raiseError "TypeError" s!"__repr__ returned non-string (type {← typeNameOf v})") (fun v s' => ∃ y u, v = .str y u ∧ Q y s') E s') E s := by
    refine wpAny_call (codeAny_call_builtin F.plain_bexc_repr_under F.entry_bexc_repr_under ?_)
    rw [F.check_bexc_repr_under]
    refine wpAny_pure ?_
    rw [show Builtin.«BaseException.__repr__.under» ⟨[.ref e, rawInt base], []⟩ = (do checkBuiltinCall "BaseException.__repr__" ⟨[.ref e], []⟩; Builtin.bexcReprAt base ⟨[.ref e], []⟩) from reprTwin_eq _ _ _ _]
    refine wpAny_bind (@PySem.W.check_slot (model prog w) _ _ _ "BaseException.__repr__" "BaseException" "__repr__" (.ref e) [] [] _ (by decide +kernel) (by decide +kernel) (x.LI hB) (F.args_bexc_repr _) ?_)
    refine bexcReprAt_C base x ht' (hk _ _ hC) hd ?_ hsz
    show wpAny _ _ _ _ _ _
    refine wpAny_bind (wpAny_isInstance (T := "str") (b := true) rfl isSubtype_str_str (wpAny_pure ⟨_, _, rfl, ?_⟩))
    exact hQ s.heap _ fun _ _ z => z
  have fin2 : wpAny (model prog w) A ((match reprUnder? (.builtin "BaseException.__repr__"), [Value.ref e] with
      | some twin, [self] => call twin [self, rawInt base]
      | _, _ => call (.builtin "BaseException.__repr__") ([Value.ref e] ++ [])) >>= fun v => pure (some v)) (fun r s' => wpAny (model prog w) A (match r with
      | some r => (do if ← isInstance r (.type "str") then pure r else raiseError "TypeError" s!"__repr__ returned non-string (type {← typeNameOf r})")
      | none => unsupported "repr:special-get-raises") (fun v s' => ∃ y u, v = .str y u ∧ Q y s') E s') E s := by
    rw [tw]
    exact wpAny_bind (wpAny_mono fin (fun v s' h' => wpAny_pure h') fun _ _ h' => h')
  refine wpAny_bind (wpAny_askSetting (wpAny_ite ?_))
  split
  · exact wpAny_bind (wpAny_pure (wpAny_pure fin2))
  · exact wpAny_tryCatch (wpAny_bind (wpAny_pure (wpAny_pure fin2)))
end
end G

set_option Elab.async false
set_option linter.all false
set_option autoImplicit false
set_option maxRecDepth 100000
set_option maxHeartbeats 2000000
namespace G
open PySem PySem.Spec PySem.Calls L2
/-- the class's own name, and that it is told by BaseException's repr -/
structure RxC (K : PySem.W.Frag) (C : Addr) (nm : Str) : Prop where
  lk : ∃ o cd, K.lookup C = some o ∧ o.data = .cls cd ∧ cd.name = nm
  rp : PySem.W.findIn K (.ref C) "__repr__" = some (some (.builtin "BaseException.__repr__"))
  ex : PySem.W.subIn K (.ref C) (.type "BaseException") = some true
/-- the text of a value that stands for itself -/
def lfT : V → Option Str
  | .non => some (PyData.shown .none)
  | .bl b => some (PyData.shown (.bool b))
  | .int i => if i.natAbs.log2 < 1920 then some (PyData.shown (.int i)) else none
  | .str x => some (PyData.shown (.str x))
  | _ => none
def enT : List (Key × V) → Option (List Str)
  | [] => some []
  | kv :: r => match lfT (kV kv.1), lfT kv.2, enT r with
    | some a, some b, some ts => some ((a ++ ": " ++ b) :: ts)
    | _, _, _ => none
inductive ShI (K : PySem.W.Frag) (H : Hp) : V → Str → Prop
  | data {v : V} {p : PyData} : Dp K H v p → p.showable = true → p.hasDict = false → p.depth ≤ 60 → ShI K H v p.shown
  | exc {a C dx t : Addr} {m nm : Str} : H a = some (exoT a C (some dx) t) → H t = some (.tup [.str m]) → RxC K C nm → ShI K H (.ref a) (exShown nm m)
  | dct {a : Addr} {kvs : List (Key × V)} {ts : List Str} : H a = some (.dK kvs) → enT kvs = some ts → ShI K H (.ref a) (dictText ts)
inductive ShL (K : PySem.W.Frag) (H : Hp) : List V → List Str → Prop
  | nil : ShL K H [] []
  | cons {v : V} {t : Str} {vs : List V} {ts : List Str} : ShI K H v t → ShL K H vs ts → ShL K H (v :: vs) (t :: ts)
/-- what is known of an address that repr walks through, below the value u -/
def Below (h : Heap) (u : Value) (b : Addr) : Prop := (∃ p q as bs, Reads h u q as ∧ Reads h (.ref b) p bs ∧ p.depth ≤ q.depth) ∨ ∃ o, h.get? b = some o ∧ o.cls ≠ .type "list"
section
variable {X : Cx} {pins : List (Addr × Obj)} {σ : L2.St} {H : Hp} {s : Shared}
theorem lf_reprK {v : V} {u : Value} {t : Str} (e : lfT v = some t) (r : RelV v u) (hz : t.length ≤ sizeLine) (h₀ : Heap) (as : List Addr) (d : Nat) : ReprK X.prog X.w as h₀ d u t := by
  cases v with
  | non => cases e; cases r; exact .of_is (by simp only [PyData.shown]; exact ReprIs.none) _ _ _
  | bl b => cases e; cases r; exact .of_is (by simp only [PyData.shown]; exact ReprIs.bool b) _ _ _
  | int i =>
    dsimp only [lfT] at e
    split at e
    · rename_i hi
      cases e
      obtain ⟨tk, rfl⟩ := r
      exact .of_is (by simp only [PyData.shown]; exact ReprIs.int tk hi) _ _ _
    · cases e
  | str x =>
    cases e
    obtain ⟨tk, rfl⟩ := r
    exact .of_is (by simp only [PyData.shown]; exact ReprIs.str x tk (by simpa only [PyData.shown] using hz)) _ _ _
  | _ => cases e
theorem dictText_mem {ps : List Str} {p : Str} (h : p ∈ ps) : p.length ≤ (dictText ps).length := dictText_mem_le h
theorem en_reprK {h₀ : Heap} (as : List Addr) (d : Nat) : ∀ {kvs : List (Key × V)} {vs : List (Key × Value)} {es : List DictEntry} {ts : List Str}, enT kvs = some ts → KV kvs vs → Pairs (mixKind X.prog X.w) es vs → (∀ t ∈ ts, t.length ≤ sizeLine) → ReprEntriesK X.prog X.w as h₀ d es ts
  | [], _, es, ts, e, r, q, _ => by
    cases e
    cases r
    cases q
    exact .nil
  | kv :: kvs, _, es, ts, e, r, q, hz => by
    cases r with
    | @cons _ p _ ps h1 r =>
      cases q with
      | @cons en _ es' _ hk hv q =>
        unfold enT at e
        split at e
        · rename_i a b ts' e1 e2 e3
          cases e
          obtain ⟨hk1, hr⟩ := h1
          have lz := hz _ (List.mem_cons_self ..)
          rw [strLen_append, strLen_append] at lz
          have rk : RelV (kV kv.1) en.key := by
            rw [hk1]
            rcases keyIs_shape (k := p.1) (v := en.key) hk with ⟨i, t, e1, e2⟩ | ⟨x, t, e1, e2⟩
            · rw [e1, e2]; exact ⟨t, rfl⟩
            · rw [e1, e2]; exact ⟨t, rfl⟩
          exact .cons (lf_reprK e1 rk (by omega) _ _ _) (lf_reprK e2 (by rw [hv]; exact hr) (by omega) _ _ _) (en_reprK as d e3 r q fun t ht => hz t (List.mem_cons_of_mem _ ht))
        · cases e
theorem sh_reprK {v : V} {u : Value} {t : Str} (I : Inv X pins σ H s) (e : ShI X.K H v t) (r : RelV v u) (hz : t.length ≤ sizeLine) : ∃ bs n, n ≤ 60 ∧ (∀ b ∈ bs, Below s.heap u b) ∧ ReprK X.prog X.w bs s.heap n u t := by
  cases e with
  | @data _ p hd hs hn hz6 =>
    obtain ⟨as, rd⟩ := Dp.reads I p v u hd r
    obtain ⟨bs, hb, k⟩ := ReprK.of_reads (prog := X.prog) (w := X.w) rd hs (PyData.noDict_hsm hn) hz
    refine ⟨bs, p.depth, hz6, fun b hm => ?_, k⟩
    obtain ⟨d', as', r', hd'⟩ := hb b hm
    exact .inl ⟨d', p, _, _, rd, r', hd'⟩
  | @exc a C dx t m nm ha ht R =>
    obtain rfl : u = Value.ref a := r
    have ho := exoT_at I.hok ha
    obtain ⟨o, cd, lk, hcd, rfl⟩ := R.lk
    obtain ⟨its, rv, ⟨ot, hto, hc, n, hd⟩, _⟩ := I.tuple (.inl (.inl ht))
    obtain ⟨u1, rfl, tk, rfl⟩ := vals1 rv
    exact ⟨[], 0, by omega, fun b hb => by simp at hb, reprK_exc (K := X.K) I.kIn ho rfl rfl rfl ⟨ot, n, hto, hc, hd⟩ (I.kIn _ _ lk) hcd R.rp R.ex [] 0⟩
  | @dct a kvs ts ha et =>
    obtain rfl : u = Value.ref a := r
    obtain ⟨_, hsys, vs, rk, o, es, ep, ho, hx, hd, hK, hP, _⟩ := dk_of I.hok ha
    refine ⟨[a], 1, by omega, fun b hb => ?_, ReprK.dict ho hx.1 hd hsys (by simp) (en_reprK [] 0 et rk hP fun t ht => Nat.le_trans (dictText_mem ht) hz)⟩
    simp at hb
    subst hb
    exact .inr ⟨o, ho, by rw [hx.1]; decide⟩
end
end G

set_option Elab.async false
set_option linter.all false
set_option autoImplicit false
set_option maxRecDepth 100000
set_option maxHeartbeats 2000000
namespace G
open PySem PySem.Spec PySem.Calls L2
section
variable {X : Cx} {pins : List (Addr × Obj)} {σ : L2.St} {H : Hp} {s : Shared}
theorem shL_reprK (I : Inv X pins σ H s) : ∀ {vs : List V} {us : List Value} {ts : List Str}, ShL X.K H vs ts → Vals vs us → (∀ t ∈ ts, t.length ≤ sizeLine) →
    ∃ bs n, n ≤ 60 ∧ (∀ b ∈ bs, ∃ (i : Nat) (u : Value), us[i]? = some u ∧ Below s.heap u b) ∧ ReprAllK X.prog X.w bs s.heap n us ts
  | _, _, _, .nil, r, _ => by
    cases r
    exact ⟨[], 0, by omega, fun b hb => by simp at hb, .nil⟩
  | _, _, _, .cons h hl, r, hz => by
    cases r with
    | @cons _ u _ us r1 r2 =>
      obtain ⟨b1, n1, z1, k1, q1⟩ := sh_reprK I h r1 (hz _ (List.mem_cons_self ..))
      obtain ⟨b2, n2, z2, k2, q2⟩ := shL_reprK I hl r2 fun t ht => hz t (List.mem_cons_of_mem _ ht)
      refine ⟨b1 ++ b2, max n1 n2, by omega, fun b hb => ?_, .cons ((q1.more fun b hb => List.mem_append_left _ hb).level_le (Nat.le_max_left _ _)) (q2.more_le (fun b hb => List.mem_append_right _ hb) (Nat.le_max_right _ _))⟩
      rcases List.mem_append.mp hb with hb | hb
      · exact ⟨0, u, rfl, k1 b hb⟩
      · obtain ⟨i, u', e, q⟩ := k2 b hb
        exact ⟨i + 1, u', by simpa using e, q⟩
theorem ShL.len {K : PySem.W.Frag} {H : Hp} : ∀ {vs : List V} {ts : List Str}, ShL K H vs ts → ts.length = vs.length
  | _, _, .nil => rfl
  | _, _, .cons _ h => by simp [h.len]
theorem readsAll_at {h : Heap} : ∀ {us : List Value} {ps : List PyData} {as : List Addr} {i : Nat} {u : Value}, ReadsAll h us ps as → us[i]? = some u → ∃ p bs, Reads h u p bs ∧ p.depth ≤ PyData.depthAll ps
  | _, _, _, i, u, .nil, e => by simp at e
  | _, _, _, 0, u, .cons (d := d) (ds := ds) r rs, e => by
    simp at e; subst e
    exact ⟨d, _, r, by simp only [PyData.depthAll]; exact Nat.le_max_left _ _⟩
  | _, _, _, i + 1, u, .cons (d := d) (ds := ds) r rs, e => by
    obtain ⟨p, bs, q, z⟩ := readsAll_at (i := i) rs (by simpa using e)
    exact ⟨p, bs, q, Nat.le_trans z (by simp only [PyData.depthAll]; exact Nat.le_max_right _ _)⟩
/-- a list's own address isn't below it -/
theorem below_ne {h : Heap} {a : Addr} {o : Obj} {us : List Value} {n i : Nat} {u : Value} {b : Addr} (ho : h.get? a = some o) (hc : o.cls = .type "list") (hd : o.data = .seq us.toArray n) (e : us[i]? = some u) (q : Below h u b) : b ≠ a := by
  intro z
  subst z
  rcases q with ⟨p, q, as, bs, r1, r2, hdp⟩ | ⟨o', ho', hn⟩
  · cases r2 with
    | @list _ o2 vs2 n2 xs as2 h1 h2 h3 h4 =>
      rw [ho] at h1; cases h1
      rw [hd] at h3; cases h3
      obtain ⟨p', bs', r', hz⟩ := readsAll_at h4 (show us.toArray.toList[i]? = some u by simpa using e)
      obtain ⟨e1, _⟩ := PyProof.Rows.reads_det (fun _ _ e _ => e) r1 r'
      rw [e1] at hz
      simp only [PyData.depth] at hdp
      omega
    | @tuple _ o2 vs2 n2 xs as2 h1 h2 h3 h4 =>
      rw [ho] at h1; cases h1
      rw [hc] at h2; injection h2 with z; exact absurd z (by decide)
    | @dict _ o2 es n2 kvs as2 bs2 h1 h2 h3 h4 h5 =>
      rw [ho] at h1; cases h1
      rw [hc] at h2; injection h2 with z; exact absurd z (by decide)
  · rw [ho] at ho'; cases ho'
    exact hn hc
def rRepr (K : PySem.W.Frag) : List V → Hp → VK → Prop := fun xs H Q => ∃ v t, xs = [v] ∧ t.length ≤ sizeLine ∧ Q (.str t) H ∧
  ((∃ p, Dp K H v p ∧ p.showable = true ∧ p.hasDict = false ∧ p.depth ≤ 60 ∧ t = p.shown) ∨ ∃ a y vs ts, v = .ref a ∧ SqL K H a (y :: vs) ∧ ShL K H (y :: vs) ts ∧ t = listText ts)
theorem call_repr (hgd : X.A.guards = some []) (hu : X.A.units + 64 < cLine) : CallR X (.builtin "repr") (rRepr X.K) := by
  intro pins s σ H xs us Q I r h
  obtain ⟨v, t, rfl, hz, q, h⟩ := h
  obtain ⟨u, rfl, ru⟩ := vals1 r
  have back : ∀ {h' : Heap} {tk' : Nat} {z : Tok}, (∀ b o, s.heap.get? b = some o → h'.get? b = some o) → EP X pins σ Q (.str t z) { s with heap := h', toks := tk' } := fun k => ⟨.str t, H, I.kept k, ⟨_, rfl⟩, q⟩
  have back0 : ∀ {z : Tok}, EP X pins σ Q (.str t z) { s with toks := s.toks + 1 } := fun {z} => ⟨.str t, H, I.tok _, ⟨_, rfl⟩, q⟩
  rcases h with ⟨p, hd, hs, hn, hz6, rfl⟩ | ⟨a, y, vs, ts, rfl, hl, hsh, rfl⟩
  · obtain ⟨as, rd⟩ := Dp.reads I p v u hd ru
    cases rd with
    | none => exact PySem.P.repr_of_none (by simpa only [PyData.shown] using back0)
    | bool b => exact PySem.P.repr_of_bool (by simpa only [PyData.shown] using back0)
    | int i tk => exact PySem.P.repr_of_int (by simpa [PyData.showable] using hs) (by simpa only [PyData.shown] using back0)
    | str x tk => exact PySem.P.repr_of_str (by simpa only [PyData.shown] using back0) (by simpa only [PyData.shown] using hz)
    | list h1 h2 h3 h4 => exact repr_of_reads' (Reads.list h1 h2 h3 h4) hs (PyData.noDict_hsm hn) hgd (by omega) (fun _ _ e => e) (fun h' z tk k => back k) hz
    | tuple h1 h2 h3 h4 => exact repr_of_reads' (Reads.tuple h1 h2 h3 h4) hs (PyData.noDict_hsm hn) hgd (by omega) (fun _ _ e => e) (fun h' z tk k => back k) hz
    | dict h1 h2 h3 h4 h5 => exact repr_of_reads' (Reads.dict h1 h2 h3 h4 h5) hs (PyData.noDict_hsm hn) hgd (by omega) (fun _ _ e => e) (fun h' z tk k => back k) hz
  · obtain rfl : u = Value.ref a := ru
    obtain ⟨its, rv, ⟨o, n, ho, hc, _, hd⟩, _⟩ := I.list hl
    obtain ⟨bs, m, hm, hb, hk⟩ := shL_reprK I hsh rv fun t ht => Nat.le_trans (listText_mem_le ht) hz
    cases rv with
    | @cons _ x _ l r1 r2 =>
      have hna : a ∉ bs := fun z => by
        obtain ⟨i, u, e, q⟩ := hb a z
        exact below_ne ho hc hd e q rfl
      refine call_repr_slot (by omega) ⟨o, ho, hc⟩ F.slot_list_repr.toG (call_list_reprK (as := bs) (h₀ := s.heap) (d := m) ho hc hd hna (by simpa using hk.length_eq) (fun i y e => hk.item i y (by simpa using e)) hgd (fun b _ => Clear.nil b) (by show X.A.units + 1 + (m + 1) < cLine; omega) (fun _ _ e => e) (fun h' z tk k => ⟨_, _, rfl, back k⟩) hz)
end
/-! ### repr, by data -/
def lfD : D → Option Str
  | .non => some (PyData.shown .none)
  | .bl b => some (PyData.shown (.bool b))
  | .int i => if i.natAbs.log2 < 1920 then some (PyData.shown (.int i)) else none
  | .str x => some (PyData.shown (.str x))
  | _ => none
def enD : List Key → List D → Option (List Str)
  | [], [] => some []
  | k :: ks, d :: ds => match lfT (kV k), lfD d, enD ks ds with
    | some a, some b, some ts => some ((a ++ ": " ++ b) :: ts)
    | _, _, _ => none
  | _, _ => none
def okP (p : PyData) : Bool := p.showable && !p.hasDict && decide (p.depth ≤ 60)
def dtD (μ : List MO) (d : D) : Option Str := match toPy μ DEEP d with
  | some p => if okP p = true then some p.shown else none
  | none => none
def itD (nm : Nat → Option Str) (μ : List MO) : D → Option Str
  | .exc C f m d => (nm C).map fun n => exShown n m
  | .dct ks ds => (enD ks ds).map dictText
  | d => dtD μ d
def itL (nm : Nat → Option Str) (μ : List MO) : List D → Option (List Str)
  | [] => some []
  | d :: ds => match itD nm μ d, itL nm μ ds with
    | some t, some ts => some (t :: ts)
    | _, _ => none
def tx (nm : Nat → Option Str) (μ : List MO) (d : D) : Option Str := match toPy μ DEEP d with
  | some p => if okP p = true then some p.shown else none
  | none => match d with
    | .lst (d :: ds) => (itL nm μ (d :: ds)).map listText
    | _ => none
def reprD (nm : Nat → Option Str) : List D → List MO → Option (D × List MO)
  | [d], μ => match tx nm μ d with
    | some t => if t.length ≤ 1000000 then some (.str t, μ) else none
    | none => none
  | _, _ => none
section
variable {X : Cx} {cl : Nat → Addr} {nm : Nat → Option Str}
theorem lf_has {Γ : Gm} {ms : List Addr} {F : Hp} {v : V} : ∀ {d : D} {t : Str}, lfD d = some t → Has Γ ms F v d → lfT v = some t
  | .non, t, e, h => by rw [show v = .non from h]; exact e
  | .bl b, t, e, h => by rw [show v = .bl b from h]; exact e
  | .int b, t, e, h => by rw [show v = .int b from h]; exact e
  | .str b, t, e, h => by rw [show v = .str b from h]; exact e
theorem en_has {Γ : Gm} {ms : List Addr} {F : Hp} : ∀ {ks : List Key} {vs : List V} {ds : List D} {ts : List Str}, enD ks ds = some ts → HasL Γ ms F vs ds → enT (ks.zip vs) = some ts
  | [], _, [], ts, e, h => by
    cases e; cases h; rfl
  | k :: ks, _, d :: ds, ts, e, ⟨w, ws, hv, h1, h2⟩ => by
    subst hv
    unfold enD at e
    split at e
    · rename_i a b ts' e1 e2 e3
      cases e
      show enT ((k, w) :: ks.zip ws) = _
      unfold enT
      rw [e1, lf_has e2 h1, en_has e3 h2]
    · cases e
  | [], _, d :: ds, ts, e, _ => by cases e
  | k :: ks, _, [], ts, e, _ => by cases e
theorem it_has {ms : List Addr} {F H : Hp} {μ : List MO} (hn : ∀ C n, nm C = some n → RxC X.K (cl C) n) (r : HR (gm X cl) ms F H μ) {v : V} {d : D} {t : Str} (e : itD nm μ d = some t) (h : Has (gm X cl) ms F v d) : ShI X.K H v t := by
  have data : ∀ {d : D}, Has (gm X cl) ms F v d → dtD μ d = some t → ShI X.K H v t := fun {d} h e => by
    unfold dtD at e
    split at e
    · rename_i p hp
      split at e
      · rename_i ok
        cases e
        simp only [okP, Bool.and_eq_true, Bool.not_eq_true', decide_eq_true_eq] at ok
        exact .data (dp_of r DEEP v d p hp h) ok.1.1 ok.1.2 ok.2
      · cases e
    · cases e
  cases d with
  | exc C f m d =>
    obtain ⟨n, e1, rfl⟩ := Option.map_eq_some_iff.mp e
    obtain ⟨a, tt, dx, y, rfl, h1, h2, h3, h4⟩ := h
    exact .exc (r.sub _ _ h1) (r.sub _ _ h2) (hn C n e1)
  | dct ks ds =>
    obtain ⟨ts, e1, rfl⟩ := Option.map_eq_some_iff.mp e
    obtain ⟨a, xs, rfl, h1, h2, h3⟩ := h
    exact .dct (r.sub _ _ h1) (en_has e1 h3)
  | _ => exact data h e
theorem itL_has {ms : List Addr} {F H : Hp} {μ : List MO} (hn : ∀ C n, nm C = some n → RxC X.K (cl C) n) (r : HR (gm X cl) ms F H μ) : ∀ {vs : List V} {ds : List D} {ts : List Str}, itL nm μ ds = some ts → HasL (gm X cl) ms F vs ds → ShL X.K H vs ts
  | _, [], ts, e, h => by cases e; cases h; exact .nil
  | _, d :: ds, ts, e, ⟨w, ws, hv, h1, h2⟩ => by
    subst hv
    unfold itL at e
    split at e
    · rename_i t ts' e1 e2
      cases e
      exact .cons (it_has hn r e1 h1) (itL_has hn r e2 h2)
    · cases e
theorem cd_repr (hn : ∀ C n, nm C = some n → RxC X.K (cl C) n) (hgd : X.A.guards = some []) (hu : X.A.units + 64 < cLine) : CallD X cl (.builtin "repr") (reprD nm) := by
  intro ms F H μ vs ds d μ' Q r hv ev k
  unfold reprD at ev
  split at ev
  · rename_i d0
    obtain ⟨v, rfl, h⟩ := hv.one'
    split at ev
    · rename_i t et
      split at ev
      · rename_i hz
        cases ev
        refine ⟨_, call_repr hgd hu, v, t, rfl, million hz, k.imm r rfl, ?_⟩
        unfold tx at et
        split at et
        · rename_i p hp
          split at et
          · rename_i ok
            cases et
            simp only [okP, Bool.and_eq_true, Bool.not_eq_true', decide_eq_true_eq] at ok
            exact .inl ⟨p, dp_of r DEEP v d0 p hp h, ok.1.1, ok.1.2, ok.2, rfl⟩
          · cases et
        · split at et
          · obtain ⟨ts, e1, rfl⟩ := Option.map_eq_some_iff.mp et
            obtain ⟨a, xs, rfl, hs, hl⟩ := h
            have q := itL_has hn r e1 hl
            obtain ⟨y, ys, rfl, _, _⟩ := hl
            exact .inr ⟨a, y, ys, ts, rfl, SqL.of (r.sub _ _ hs), q, rfl⟩
          · cases et
      · cases ev
    · cases ev
  · cases ev
end
end G

set_option Elab.async false
set_option linter.all false
set_option autoImplicit false
set_option maxRecDepth 100000
set_option maxHeartbeats 2000000
namespace G
open PySem PySem.Spec PySem.Calls L2
section
variable {P : Program} {w : World} {K : PySem.W.Frag} {mg : Str → Option Value} {base : Heap} {cl : Nat → Addr}
/-! ### the two __init__ -/
/-- the base's: the exception's args are the one text -/
def spV (K : PySem.W.Frag) : Sp := fun vs H Q _ => ∃ (a C t0 : Addr) (m : Str), vs = [.ref a, .str m] ∧ OexC K C ∧ H a = some (exoT a C none t0) ∧ ∀ t, H t = none → Q .non (upd (upd H t (.tup [.str m])) a (exoT a C none t))
abbrev tVe (K : PySem.W.Frag) : TE := tVeT K (tCons (tVar 0) (tCons (tVar 1) tNil))
theorem initV_ok {x qual : Str} {st : Stmt} {f : Addr} {fd : FuncData} {N ps : List Str} (F : Fun K x qual st f fd) (S : FnScope N ps (defScope st)) (hn : ps.length = 2) (hN : N.length = 2)
    (hB : ∀ (cdv : Value) (A : Around) (outer : List Env) (s : Shared) (H : Hp), PSs (cxOf CX0 P w K mg base N qual (defScope st) f cdv A outer s H E0).nox (defBody st) (tDrop (tVe K))) : FnG P w K mg base 1 f fd 2 ps (spV K) := by
  refine fnG_of F S hn (fun vs H Q E h => by obtain ⟨_, _, _, _, rfl, _⟩ := h; rfl) fun cdv A outer s H vs Q hg hr h => ⟨_, hB cdv A outer s H, ?_⟩
  obtain ⟨a, C, t0, m, rfl, T, ha, q⟩ := h
  have e : L2.start N [V.ref a, .str m] = [some (.ref a), some (.str m)] := by unfold L2.start; rw [hN]; rfl
  rw [e]
  refine ⟨.ref a, rfl, .str m, rfl, ?_⟩
  exact ⟨a, C, t0, [.str m], rfl, (show 1 ≤ 1000 by decide), T, ha, fun t ht => q t ht⟩
abbrev tIx (K : PySem.W.Frag) (CB : Addr) (msg f : Str) : TS := tSeq (tDrop (fun σ H Q => tC (.ref CB) σ H fun x H1 => x = .ref CB ∧ tCons (tVar 0) (tCons (tC (.str msg)) tNil) σ H1 fun vs H2 => spV K vs H2 Q E0)) (tSetX K f (tVar 0) (tVar 1))
theorem initX_ok {x qual msg fl : Str} {st : Stmt} {f CB C : Addr} {fd : FuncData} {N ps : List Str} {k : Nat} (F : Fun K x qual st f fd) (S : FnScope N ps (defScope st)) (hn : ps.length = 2) (hN : N.length = 2) (T : OexC K C) (hno : PySem.W.findIn K (.ref C) fl = some none)
    (hB : ∀ (cdv : Value) (A : Around) (outer : List Env) (s : Shared) (H : Hp), (A.deeper (PyProof.Rows.envOfC qual (defScope st) s.heap.objs.size f cdv)).guards = some [] → Room k (A.deeper (PyProof.Rows.envOfC qual (defScope st) s.heap.objs.size f cdv)) →
      PSs (cxOf CX0 P w K mg base N qual (defScope st) f cdv A outer s H E0).nox (defBody st) (tIx K CB msg fl)) : FnG P w K mg base (k + 1) f fd 2 ps (spX C fl msg) := by
  refine fnG_of F S hn (fun vs H Q E h => by obtain ⟨_, _, _, rfl, _⟩ := h; rfl) fun cdv A outer s H vs Q hg hr h => ⟨_, hB cdv A outer s H hg hr, ?_⟩
  obtain ⟨a, y, t0, rfl, ha, q⟩ := h
  have e : L2.start N [V.ref a, y] = [some (.ref a), some y] := by unfold L2.start; rw [hN]; rfl
  rw [e]
  refine ⟨rfl, .ref a, rfl, a, C, t0, msg, rfl, T, ha, fun t ht => ?_⟩
  refine ⟨y, rfl, .ref a, rfl, a, C, t, rfl, T, hno, upd_same, fun dx hdx hne => ?_⟩
  have nd : dx ≠ t := fun z => by
    subst z
    rw [upd_ne hne, upd_same] at hdx
    exact nomatch hdx
  have hdx' : H dx = none := by
    rw [upd_ne hne, upd_ne nd] at hdx
    exact hdx
  have z := q t dx ht hdx' (Ne.symm nd)
  have eq : upd (upd (upd (upd H t (.tup [.str msg])) a (exoT a C none t)) dx (exd dx [(fl, y)])) a (exoT a C (some dx) t) = upd (upd (upd H t (.tup [.str msg])) dx (exd dx [(fl, y)])) a (exoT a C (some dx) t) := by
    funext b
    by_cases h1 : b = a
    · rw [h1, upd_same, upd_same]
    · rw [upd_ne h1, upd_ne h1]
      unfold upd
      simp only [h1, if_false]
  rw [eq]
  exact z
end
section
variable {X : Cx} {cl : Nat → Addr} {e : Expr} {es : List Expr} {r : AF} {pos : Pos}
/-! ### C(e) as data -/
def eExc (C : Nat) (f msg : Str) (r : AF) : EF := fun δ μ => match r δ μ with
  | some ([d], μ1) => some (.exc C f msg d, μ1)
  | _ => none
theorem de_exc {C : Nat} {f msg : Str} (h : PE X e (tExc (cl C) f msg (tA (gm X cl) r))) : DE X cl e (eExc C f msg r) := ⟨h.weak fun σ H Q ⟨O, ms, F, δ, μ, d, μ', R, ev, k⟩ => by
  unfold eExc at ev
  split at ev
  · rename_i d0 μ1 e1
    cases ev
    refine ⟨O, ms, F, δ, μ, [d0], _, R, e1, fun vs H1 ms1 F1 r1 s1 q1 => ?_⟩
    obtain ⟨y, rfl, hy⟩ := q1.one'
    refine ⟨y, rfl, fun a t dx ha ht hdx nt nd ntd => ?_⟩
    obtain ⟨r2, s2⟩ := r1.alloc ht (.tup [.str msg])
    have hdx2 : upd H1 t (.tup [.str msg]) dx = none := by rw [upd_ne (Ne.symm ntd)]; exact hdx
    obtain ⟨r3, s3⟩ := r2.alloc hdx2 (exd dx [(f, y)])
    have ha3 : upd (upd H1 t (.tup [.str msg])) dx (exd dx [(f, y)]) a = none := by rw [upd_ne (Ne.symm nd), upd_ne (Ne.symm nt)]; exact ha
    obtain ⟨r4, s4⟩ := r3.alloc ha3 (exoT a (cl C) (some dx) t)
    have sall := ((s1.trans' r1 s2).trans' r2 s3).trans' r3 s4
    refine k _ _ ms1 _ r4 sall ⟨a, t, dx, y, rfl, upd_same, ?_, ?_, ?_⟩
    · rw [upd_ne nt, upd_ne ntd, upd_same]
    · rw [upd_ne nd, upd_same]
    · exact ((hy.step s2).step s3).step s4
  · cases ev⟩
/-! ### dict displays, of at most one pair -/
def eDct0 : EF := fun _ μ => some (.dct [] [], μ)
theorem de_dct0 : DE X cl (.Dict [] [] pos) eDct0 := ⟨pe_dnewK.weak fun σ H Q ⟨O, ms, F, δ, μ, d, μ', R, ev, k⟩ => by
  cases ev
  intro p hp
  obtain ⟨r', s'⟩ := R.hr.alloc hp (.dK [])
  exact k _ _ ms _ r' s' ⟨p, [], rfl, upd_same, rfl, rfl⟩⟩
def eDct1 (x : Str) (d : D) : EF := fun _ μ => some (.dct [.inr x] [d], μ)
theorem de_dct1 {x : Str} {j : _} {p : Pos} {v : V} {d : D} (h : PE X e (tC v)) (hv : ∀ ms F, Has (gm X cl) ms F v d) : DE X cl (.Dict [some (.Constant (.str x) j p)] [e] pos) (eDct1 x d) :=
  ⟨(pe_disp (pps_cons pe_str h pps_nil) rfl rfl (fun z => nomatch z) (show 1 ≤ 15 by decide)).weak fun σ H Q ⟨O, ms, F, δ, μ, d', μ', R, ev, k⟩ => by
  cases ev
  intro p hp
  refine ⟨upd_same, [(.inr x, v)], rfl, (show 1 ≤ 15 by decide), ?_⟩
  obtain ⟨r', s'⟩ := R.hr.alloc hp (.dK [(.inr x, v)])
  have eq : upd (upd H p (.dK [])) p (.dK (mergeK [] [(Sum.inr x, v)])) = upd H p (.dK [(.inr x, v)]) := by
    funext b
    unfold upd
    by_cases hb : b = p
    · rw [if_pos hb, if_pos hb]; rfl
    · rw [if_neg hb, if_neg hb, if_neg hb]
  rw [eq]
  exact k _ _ ms _ r' s' ⟨p, [v], rfl, upd_same, rfl, v, [], rfl, hv _ _, rfl⟩⟩
/-! ### isinstance, of own exceptions too -/
def isiH (kit : Nat → String → Option Bool) : G1 := fun ds μ => match ds with
  | [.exc C _ _ _, .ty T] => (kit C T).map fun b => (.bl b, μ)
  | _ => isiG ds μ
theorem cd_isiH {kit : Nat → String → Option Bool} (hk : ∀ C T b, kit C T = some b → L2.ExcC X.K (cl C) ∧ PySem.W.kitOne X.K (.ref (cl C)) (.type T) = some b) : CallD X cl (.builtin "isinstance") (isiH kit) := by
  intro ms F H μ vs ds d μ' Q r hv ev k
  unfold isiH at ev
  split at ev
  · rename_i C f m d0 T
    obtain ⟨b, eb, e⟩ := Option.map_eq_some_iff.mp ev
    cases e
    obtain ⟨v, c, rfl, hx, ht⟩ := hv.two'
    obtain ⟨a, t, dx, y, rfl, h1, h2, h3, h4⟩ := hx
    rw [show c = .ty T from ht]
    obtain ⟨E1, E2⟩ := hk C T b eb
    exact ⟨_, call_isX, a, cl C, dx, t, _, .ty T, .type T, b, rfl, r.sub _ _ h1, r.sub _ _ h3, E1, .ty T, E2, k.imm r rfl⟩
  · exact cd_isi (fun _ _ _ => trivial) ms F H μ vs ds d μ' Q r hv ev k
end
end G

set_option Elab.async false
set_option linter.all false
set_option autoImplicit false
set_option maxRecDepth 100000
set_option maxHeartbeats 2000000
namespace G
open PySem PySem.Spec PySem.Calls L2
/-- an own exception with one field, behind PeerError's __init__ -/
structure HasX (P : Program) (w : World) (K : PySem.W.Frag) (mg : Str → Option Value) (base : Heap) (cl : Nat → Addr) (C : Nat) (x fl msg : Str) where
  f : Addr
  fd : FuncData
  oex : OexC K (cl C)
  ini : PySem.W.findIn K (.ref (cl C)) "__init__" = some (some (.ref f))
  ti : PySem.W.typeIn K (.ref f) = some (.type "function")
  ps : List Str
  ok : FnG P w K mg base 2 f fd 2 ps (spX (cl C) fl msg)
  bd : Binds K fd ps []
  mg : mg x = some (.ref (cl C))
section
variable {X : Cx} {cl : Nat → Addr} {e : Expr} {r : AF} {pos p : Pos} {x fl msg : Str} {C : Nat}
theorem de_excX (T : HasX X.prog X.w X.K X.mg X.base cl C x fl msg) (hgd : X.A.guards = some []) (hr : Room 3 X.A) (hg : Gl X x) (ha : DA X cl [e] r)
    (hdb : (x == ("__debug__" : Str)) = false := by decide) (he : starEach (e :: []) X.env = (false, eval e X.env) :: starEach [] X.env := by rfl) (hpl : (backTo pos (starEach [] X.env)).any (·.1) = false := by rfl) :
    DE X cl (.Call (.Name x p) [e] [] pos) (eExc C fl msg r) := de_exc (pe_exc T.oex T.ini T.ti T.ok hgd hr T.bd hg T.mg ha.p hdb he hpl)
end
end G

set_option Elab.async false
set_option linter.all false
set_option autoImplicit false
set_option maxRecDepth 100000
set_option maxHeartbeats 2000000
namespace G
open PySem PySem.Spec PySem.Calls L2
/-! ### own functions that may raise -/
inductive Rs where
  | ok (d : D) (μ : List MO) | ex (C : Nat) (f msg : Str) (d : D) (μ : List MO)
abbrev XF := List D → List MO → Option Rs
def runX (n : Nat) (body : BF) : XF := fun ds μ => match body (startD n ds) μ with
  | some (.nx _ μ') => some (.ok .non μ')
  | some (.rt d μ') => some (.ok d μ')
  | some (.xc C f msg d _ μ') => some (.ex C f msg d μ')
  | _ => none
def RsOk (Γ : Gm) (ms : List Addr) (F H : Hp) (Q : VK) (E : XK) : Rs → Prop
  | .ok d μ' => Fin1 Γ ms F H d μ' Q
  | .ex C f msg d μ' => ∀ dx y H' ms' F', HR Γ ms' F' H' μ' → Stp ms ms' F F' H H' → F' dx = some (exd dx [(f, y)]) → Has Γ ms' F' y d → E (.ref (Γ.cl C)) (some dx) H'
def spXF (Γ : Gm) (n : Nat) (fn : XF) : Sp := fun vs H Q E => ∃ ms F ds μ r, HR Γ ms F H μ ∧ HasL Γ ms F vs ds ∧ ds.length = n ∧ fn ds μ = some r ∧ RsOk Γ ms F H Q E r
structure FnX (P : Program) (w : World) (K : PySem.W.Frag) (mg : Str → Option Value) (base : Heap) (k : Nat) (f : Addr) (fd : FuncData) (n : Nat) (ps : List Str) (sp : Sp) : Prop where
  len : ∀ vs H Q E, sp vs H Q E → vs.length = n
  pl : ps.length = n
  go : ∀ {A : Around} {outer : List Env} {s : Shared} {H : Hp} {args : Args} {us : List Value} {vs : List V} {Q : VK} {E : XK}, A.guards = some [] → Room k A → Env0 P w K mg base A outer s H →
    BindsTo s fd args (ps.zip us) → Vals vs us → sp vs H Q E → codeAny (model P w) A (.call (.ref f) args) (CR (L2N.CX P w) outer P w H s Q E) s
/-- what is taken, is taken -/
theorem W0.of {X : Cx} {W : WX} (t : L2N.Takes X W) {cls : Value} {d : Option Addr} {σ : L2.St} {H : Hp} (h : W cls d σ H) : (W0 X).1 cls d σ H := fun u s' ⟨a, B, sI, pins, σ', H', cls', d', e, I, nb, up, sky, na, os, ag, h1, h2, h3, h4⟩ => by
  subst h1; subst h2; subst h3; subst h4
  exact t u s' ⟨a, B, sI, pins, _, _, _, _, e, I, nb, up, sky, na, os, ag, h⟩
section
variable {P : Program} {w : World} {K : PySem.W.Frag} {mg : Str → Option Value} {base : Heap} {cl : Nat → Addr}
theorem fnX_of {x qual : Str} {st : Stmt} {f : Addr} {fd : FuncData} {N ps : List Str} {k n : Nat} {sp : Sp} (F : Fun K x qual st f fd) (S : FnScope N ps (defScope st)) (hn : ps.length = n)
    (len : ∀ vs H Q E, sp vs H Q E → vs.length = n)
    (body : ∀ (cdv : Value) (A : Around) (outer : List Env) (s : Shared) (H : Hp) (vs : List V) (Q : VK) (E : XK), (A.deeper (PyProof.Rows.envOfC qual (defScope st) s.heap.objs.size f cdv)).guards = some [] →
      Room k (A.deeper (PyProof.Rows.envOfC qual (defScope st) s.heap.objs.size f cdv)) → sp vs H Q E →
      ∃ t, PSs (cxOf (L2N.CX P w) P w K mg base N qual (defScope st) f cdv A outer s H E) (defBody st) t ∧ t { nx := fun _ H' => Q .non H', rt := Q } (L2.start N vs) H) : FnX P w K mg base (k + 1) f fd n ps sp := by
  obtain ⟨oc, od, kV, doc, pm, an, cdv, ct, osl, rfl, lk, hcd⟩ := F.ex
  refine ⟨len, hn, ?_⟩
  intro A outer s H args us vs Q E hg hr e0 hb rv hsp
  have hl : vs.length = ps.length := (len _ _ _ _ hsp).trans hn.symm
  have old : ∀ b o, base.get? b = some o → s.heap.get? b = some o := fun b o e => (e0.bs b o e).1
  have kin := e0.mod.kin.keeps old
  have kinds : ∀ y ∈ ps.zip us, (defScope st).names.lookup y.1 = some .local ∨
      ((defScope st).names.lookup y.1 = some .cell ∧ ((cellsFrom (s.heap.objs.size + 1) (defScope st).names []).lookup y.1).isSome = true) := by
    rintro ⟨z, v⟩ hy
    rcases S.par z (List.of_mem_zip hy).1 with c | c
    · exact Or.inl c
    · exact Or.inr ⟨c, PySem.W.cellsFrom_some _ _ _ (Or.inl c)⟩
  refine codeAny_call_function hr.depth (kin _ _ lk) rfl S.co S.gen rfl
    (PySem.W.codeRec_of kin hcd) (hb _ _ _ _ ?_)
  refine wpAny_newFunctionEnv_cells S.kind kinds fun env he s1 ic => ?_
  subst he
  refine ⟨(e0.mod.nolimit.keeps old).keeps ic.toInCall.keep, codeAny_func ?_⟩
  obtain ⟨t, ht, hq⟩ := body cdv A outer s H vs Q E hg (hr.deeper _) hsp
  have inv := inv_start (CX := L2N.CX P w) (E := E) S hr.hd e0 hl rv ic
  refine wpAny_mono (ht.run [] s1 _ H _ inv hq) (fun fl s' hs => ?_) fun _ _ hs => hs
  cases fl with
  | next => obtain ⟨σ', H', J, q⟩ := hs; exact ⟨V.non, H', J.os, J.bare, J.base, J.hok, rfl, q⟩
  | ret u => obtain ⟨v, σ', H', J, r, q⟩ := hs; exact ⟨v, H', J.os, J.bare, J.base, J.hok, r, q⟩
  | brk => obtain ⟨_, _, _, q⟩ := hs; exact q.elim
  | cont => obtain ⟨_, _, _, q⟩ := hs; exact q.elim
theorem fnX_ok {x qual : Str} {st : Stmt} {f : Addr} {fd : FuncData} {N ps : List Str} {k n : Nat} {body : BF} (F : Fun K x qual st f fd) (S : FnScope N ps (defScope st)) (hn : ps.length = n)
    (hB : ∀ (cdv : Value) (A : Around) (outer : List Env) (s : Shared) (H : Hp) (E : XK), (A.deeper (PyProof.Rows.envOfC qual (defScope st) s.heap.objs.size f cdv)).guards = some [] → Room k (A.deeper (PyProof.Rows.envOfC qual (defScope st) s.heap.objs.size f cdv)) →
      DB (cxOf (L2N.CX P w) P w K mg base N qual (defScope st) f cdv A outer s H E) cl (defBody st) body) : FnX P w K mg base (k + 1) f fd n ps (spXF (gk K cl) n (runX N.length body)) := by
  refine fnX_of F S hn (fun vs H Q E h => ?_) fun cdv A outer s H vs Q E hg hr h => ⟨tS (gk K cl) (W0 (cxOf (L2N.CX P w) P w K mg base N qual (defScope st) f cdv A outer s H E)) body, ?_, ?_⟩
  · obtain ⟨ms, F, ds, μ, r', r, q, hl, _⟩ := h
    rw [q.length]; exact hl
  · exact (hB cdv A outer s H E hg hr).p
  · obtain ⟨ms, F, ds, μ, r', r, q, hl, ev, k⟩ := h
    unfold runX at ev
    split at ev
    · rename_i δ' μ2 e
      cases ev
      exact ⟨⟨ms, F, H⟩, ms, F, _, μ, _, SR.start r q, e, rfl, fun σ' H' ms' F' R' x => k .non H' ms' F' R'.hr R'.st rfl⟩
    · rename_i d' μ2 e
      cases ev
      exact ⟨⟨ms, F, H⟩, ms, F, _, μ, _, SR.start r q, e, rfl, fun v H' ms' F' r' s' q' => k v H' ms' F' r' s' q'⟩
    · rename_i C f' msg d' δ' μ2 e
      cases ev
      exact ⟨⟨ms, F, H⟩, ms, F, _, μ, _, SR.start r q, e, rfl, fun σ' H' ms' F' dx y R' x hd hy => W0.of (L2N.takes_of rfl rfl rfl rfl) (k dx y H' ms' F' R'.hr R'.st hd hy)⟩
    · cases ev
end
section
variable {X : Cx} {cl : Nat → Addr} {e : Expr} {es : List Expr} {pos p pos' : Pos} {r : AF} {k n : Nat} {f : Addr} {fd : FuncData} {ps : List Str} {fn : XF} {x : Str}
theorem runFX {sp : Sp} {pins : List (Addr × Obj)} {σ : L2.St} {H : Hp} {s : Shared} {Q : VK} {us : List Value} {vs : List V} (Gf : FnX X.prog X.w X.K X.mg X.base k f fd n ps sp) (hgd : X.A.guards = some []) (hr : Room k X.A)
    (hb : Binds X.K fd ps []) (I : Inv X pins σ H s) (rv : Vals vs us) (h : sp vs H Q (WE (W0 X).1 σ)) : wpAny (model X.prog X.w) X.A (call (.ref f) us) (EP X pins σ Q) X.xe s := by
  have hl : us.length = ps.length := by rw [← rv.length, Gf.pl]; exact Gf.len _ _ _ _ h
  have b := hb s us I.kIn (by rw [List.append_nil]; exact hl)
  rw [List.append_nil] at b
  refine wpAny_call (codeAny_mono (Gf.go hgd hr I.env0 b rv h) fun z s' hq => ?_)
  cases z with
  | error e => exact L2N.passAt takesW σ pins H s e s' I hq
  | ok fl =>
    cases fl with
    | ret u => exact I.after hq
    | next => exact (show False from hq).elim
    | brk => exact (show False from hq).elim
    | cont => exact (show False from hq).elim
theorem pe_callFX {sp : Sp} {t : TA} (Gf : FnX X.prog X.w X.K X.mg X.base k f fd n ps sp) (hgd : X.A.guards = some []) (hr : Room k X.A) (hg : Gl X x) (hm : X.mg x = some (.ref f)) (hk : PySem.W.keepIn X.K (.ref f) = true) (hb : Binds X.K fd ps [])
    (ha : PA X (e :: es) t) (hdb : (x == ("__debug__" : Str)) = false := by decide) (he : starEach (e :: es) X.env = (false, eval e X.env) :: starEach es X.env := by rfl) (hpl : (backTo pos (starEach es X.env)).any (·.1) = false := by rfl) :
    PE X (.Call (.Name x p) (e :: es) [] pos) (tCallS sp (WE (W0 X).1) t) := by
  refine ⟨fun pins s σ H Q I h => ?_⟩
  refine wpAny_Call_Name_kw (ld_glob I hg hm ?_ hdb)
  refine PySem.W.callWith_K (h₀ := X.base) I.ok.mod.kin hk (thn (ha.run pos pins s σ H _ I h) fun us s1 ⟨vs, H1, I1, r, q⟩ => ⟨I1.kIn, ?_⟩) he hpl
  exact runFX Gf hgd hr hb I1 r q
/-- f(..), by itself -/
def bCallX (fn : XF) (r : AF) : BF := fun δ μ => match r δ μ with
  | some (xs, μ1) => match fn xs μ1 with
    | some (.ok _ μ2) => some (.nx δ μ2)
    | some (.ex C f msg d μ2) => some (.xc C f msg d δ μ2)
    | none => none
  | none => none
theorem ds_callX (Gf : FnX X.prog X.w X.K X.mg X.base k f fd n ps (spXF (gk X.K cl) n fn)) (hgd : X.A.guards = some []) (hr : Room k X.A) (hg : Gl X x) (hm : X.mg x = some (.ref f)) (hk : PySem.W.keepIn X.K (.ref f) = true) (hb : Binds X.K fd ps [])
    (ha : DA X cl (e :: es) r) (hlen : ∀ δ μ xs μ1, r δ μ = some (xs, μ1) → xs.length = n) (hdb : (x == ("__debug__" : Str)) = false := by decide) (he : starEach (e :: es) X.env = (false, eval e X.env) :: starEach es X.env := by rfl) (hpl : (backTo pos (starEach es X.env)).any (·.1) = false := by rfl)
    (hs : swapsWith (.Call (.Name x p) (e :: es) [] pos) none pos'.line X.env = pure false := by rfl) : DS X cl (.Expr (.Call (.Name x p) (e :: es) [] pos) pos') (bCallX fn r) :=
  ⟨(ps_expr (pe_callFX Gf hgd hr hg hm hk hb ha.p hdb he hpl) hs).weak fun D σ H ⟨O, ms, F, δ, μ, o, R, ev, hO, kk⟩ => by
  unfold bCallX at ev
  split at ev
  · rename_i xs μ1 e1
    refine ⟨O, ms, F, δ, μ, xs, μ1, R, e1, fun vs H1 ms1 F1 r1 s1 q1 => ?_⟩
    have R1 := R.step r1 s1
    have k1 := kk.step s1.ext
    split at ev
    · rename_i d μ2 e2
      cases ev
      exact ⟨ms1, F1, xs, μ1, _, r1.xp, q1.xp, hlen _ _ _ _ e1, e2, fun v H' ms' F' r' s' _ => k1 σ H' ms' F' (R1.step r'.xp s') s'.ext⟩
    · rename_i C f' msg d μ2 e2
      cases ev
      exact ⟨ms1, F1, xs, μ1, _, r1.xp, q1.xp, hlen _ _ _ _ e1, e2, fun dx y H' ms' F' r' s' hd hy => k1 σ H' ms' F' dx y (R1.step r'.xp s') s'.ext hd hy.xp⟩
    · cases ev
  · cases ev⟩
end
end G

set_option Elab.async false
set_option linter.all false
set_option autoImplicit false
set_option maxRecDepth 100000
set_option maxHeartbeats 2000000
namespace G
open PySem PySem.Spec PySem.Calls L2
/-! ### raise C(e), C an own exception of one field -/
theorem SR.young {Γ : Gm} {O : Og} {ms : List Addr} {F H : Hp} {σ : L2.St} {δ : List SV} {μ : List MO} (R : SR Γ O ms F H σ δ μ) {a : Addr} (h : H a = none) : O.H a = none := by
  cases z : O.H a with
  | none => rfl
  | some o =>
    obtain ⟨new, e, _⟩ := R.st.new
    by_cases hm : a ∈ O.ms
    · exact absurd h (R.hr.live a (by rw [e]; exact List.mem_append_left _ hm))
    · rw [R.st.keep a o z hm] at h; exact nomatch h
section
variable {X : Cx} {cl : Nat → Addr} {e : Expr} {es : List Expr} {ta : TA} {f x fl : Str} {msg : Str} {p pos pos' : Pos} {C fI : Addr} {k : Nat} {fd : FuncData} {ps : List Str} {r : AF}
theorem pmk_exc (hx : X.ex = []) (T : OexC X.K C) (he : PE X e (tExc C f msg ta)) :
    L2N.PMk X e (fun σ H Q => tExc C f msg ta σ H fun v H2 => ∃ a dx t, v = .ref a ∧ H2 a = some (exoT a C (some dx) t) ∧ Fr0 X.H_0 a ∧ Q (.ref C) (some dx) (delH H2 a)) := by
  intro pins s σ H Q I h
  refine wpAny_mono (he.run pins s σ H _ I h) (fun u s1 hu => ?_) fun _ _ x => x
  obtain ⟨v, H1, I1, r1, a, dx, t, rfl, ha, h0, q⟩ := hu
  cases r1
  have ho := exoT_at I1.hok ha
  obtain ⟨G, gs, ga, J⟩ := I1.untrack ha h0 hx
  exact ⟨a, _, _, { s1 with heap := G }, delH H1 a, .ref C, some dx, rfl, J, gs, ga, ho, ⟨rfl, rfl, fun vs e => by cases e; rfl⟩, rfl, rfl, delH_same, rfl, I1.bare, raises_own T.exC T.tyC, q⟩
def bRaise (C : Nat) (f msg : Str) (r : AF) : BF := fun δ μ => match r δ μ with
  | some ([d], μ1) => some (.xc C f msg d δ μ1)
  | _ => none
theorem ds_raise {C : Nat} (T : HasX X.prog X.w X.K X.mg X.base cl C x fl msg) (hgd : X.A.guards = some []) (hr : Room 3 X.A) (hx : X.ex = []) (hc : X.calm = true) (hg : Gl X x) (ha : DA X cl [e] r)
    (hdb : (x == ("__debug__" : Str)) = false := by decide) (he : starEach (e :: []) X.env = (false, eval e X.env) :: starEach [] X.env := by rfl) (hpl : (backTo pos' (starEach [] X.env)).any (·.1) = false := by rfl) :
    DS X cl (.Raise (some (.Call (.Name x p) [e] [] pos')) none pos) (bRaise C fl msg r) :=
  ⟨(L2N.ps_raise hc takesW (pmk_exc hx T.oex (pe_exc T.oex T.ini T.ti T.ok hgd hr T.bd hg T.mg ha.p hdb he hpl))).weak fun D σ H ⟨O, ms, F, δ, μ, o, R, ev, hO, kk⟩ => by
  unfold bRaise at ev
  split at ev
  · rename_i d μ1 e1
    cases ev
    refine ⟨O, ms, F, δ, μ, [d], μ1, R, e1, fun vs H1 ms1 F1 r1 s1 q1 => ?_⟩
    obtain ⟨y, rfl, hy⟩ := q1.one'
    have R1 := R.step r1 s1
    refine ⟨y, rfl, fun a t dx ha ht hdx nt nd ntd => ?_⟩
    obtain ⟨r2, s2⟩ := r1.alloc ht (.tup [.str msg])
    have hdx2 : upd H1 t (.tup [.str msg]) dx = none := by rw [upd_ne (Ne.symm ntd)]; exact hdx
    obtain ⟨r3, s3⟩ := r2.alloc hdx2 (exd dx [(fl, y)])
    have ha3 : upd (upd H1 t (.tup [.str msg])) dx (exd dx [(fl, y)]) a = none := by rw [upd_ne (Ne.symm nd), upd_ne (Ne.symm nt)]; exact ha
    refine ⟨a, dx, t, rfl, upd_same, fr0_none ?_, ?_⟩
    · have := R1.young ha
      rw [hO] at this
      exact this
    · rw [delH_new ha3]
      exact kk σ _ ms1 _ dx y (R1.step r3 (s2.trans' r2 s3)) ((s1.trans' r1 s2).trans' r2 s3).ext upd_same ((hy.step s2).step s3)
  · cases ev⟩
end
end G

set_option Elab.async false
set_option linter.all false
set_option autoImplicit false
set_option maxRecDepth 100000
set_option maxHeartbeats 2000000
namespace G
open PySem PySem.Spec PySem.Calls L2
section
variable {X : Cx} {cl : Nat → Addr} {e : Expr} {es : List Expr} {pos p pos' : Pos} {r : AF} {k n : Nat} {f : Addr} {fd : FuncData} {ps : List Str} {fn : XF} {x : Str}
/-! ### return f(..), y = f(..), f one that may raise -/
def bRetX (fn : XF) (r : AF) : BF := fun δ μ => match r δ μ with
  | some (xs, μ1) => match fn xs μ1 with
    | some (.ok d μ2) => some (.rt d μ2)
    | some (.ex C f msg d μ2) => some (.xc C f msg d δ μ2)
    | none => none
  | none => none
theorem ds_retX (Gf : FnX X.prog X.w X.K X.mg X.base k f fd n ps (spXF (gk X.K cl) n fn)) (hgd : X.A.guards = some []) (hr : Room k X.A) (hg : Gl X x) (hm : X.mg x = some (.ref f)) (hk : PySem.W.keepIn X.K (.ref f) = true) (hb : Binds X.K fd ps [])
    (ha : DA X cl (e :: es) r) (hlen : ∀ δ μ xs μ1, r δ μ = some (xs, μ1) → xs.length = n) (hdb : (x == ("__debug__" : Str)) = false := by decide) (he : starEach (e :: es) X.env = (false, eval e X.env) :: starEach es X.env := by rfl) (hpl : (backTo pos (starEach es X.env)).any (·.1) = false := by rfl) :
    DS X cl (.Return (some (.Call (.Name x p) (e :: es) [] pos)) pos') (bRetX fn r) :=
  ⟨(ps_ret (pe_callFX Gf hgd hr hg hm hk hb ha.p hdb he hpl)).weak fun D σ H ⟨O, ms, F, δ, μ, o, R, ev, hO, kk⟩ => by
  unfold bRetX at ev
  split at ev
  · rename_i xs μ1 e1
    refine ⟨O, ms, F, δ, μ, xs, μ1, R, e1, fun vs H1 ms1 F1 r1 s1 q1 => ?_⟩
    have R1 := R.step r1 s1
    have k1 := kk.step s1.ext
    split at ev
    · rename_i d μ2 e2
      cases ev
      exact ⟨ms1, F1, xs, μ1, _, r1.xp, q1.xp, hlen _ _ _ _ e1, e2, fun v H' ms' F' r' s' q' => k1 v H' ms' F' r'.xp (R1.step r'.xp s').st q'.xp⟩
    · rename_i C f' msg d μ2 e2
      cases ev
      exact ⟨ms1, F1, xs, μ1, _, r1.xp, q1.xp, hlen _ _ _ _ e1, e2, fun dx y H' ms' F' r' s' hd hy => k1 σ H' ms' F' dx y (R1.step r'.xp s') s'.ext hd hy.xp⟩
    · cases ev
  · cases ev⟩
def bSetX (i : Nat) (fn : XF) (r : AF) : BF := fun δ μ => match r δ μ with
  | some (xs, μ1) => match fn xs μ1 with
    | some (.ok d μ2) => some (.nx (δ.set i (.d d)) μ2)
    | some (.ex C f msg d μ2) => some (.xc C f msg d δ μ2)
    | none => none
  | none => none
theorem ds_setX {i : Nat} {y : Str} {p' : Pos} (hN : X.N.Nodup) (hi : X.N[i]? = some y) (hy : Loc X.env.scope y) (Gf : FnX X.prog X.w X.K X.mg X.base k f fd n ps (spXF (gk X.K cl) n fn)) (hgd : X.A.guards = some []) (hr : Room k X.A) (hg : Gl X x) (hm : X.mg x = some (.ref f)) (hk : PySem.W.keepIn X.K (.ref f) = true) (hb : Binds X.K fd ps [])
    (ha : DA X cl (e :: es) r) (hlen : ∀ δ μ xs μ1, r δ μ = some (xs, μ1) → xs.length = n) (hdb : (x == ("__debug__" : Str)) = false := by decide) (he : starEach (e :: es) X.env = (false, eval e X.env) :: starEach es X.env := by rfl) (hpl : (backTo pos (starEach es X.env)).any (·.1) = false := by rfl)
    (hs : swapsWith (.Call (.Name x p) (e :: es) [] pos) (some (.Name y p')) pos'.line X.env = pure false := by rfl) (hf : X.fn y = true ∨ X.env.scope.names.lookup y = some .local := by first | exact .inl rfl | exact .inr rfl | assumption) :
    DS X cl (.Assign [.Name y p'] (.Call (.Name x p) (e :: es) [] pos) pos') (bSetX i fn r) :=
  ⟨(ps_set hN hi hy (pe_callFX Gf hgd hr hg hm hk hb ha.p hdb he hpl) hs hf).weak fun D σ H ⟨O, ms, F, δ, μ, o, R, ev, hO, kk⟩ => by
  unfold bSetX at ev
  split at ev
  · rename_i xs μ1 e1
    refine ⟨O, ms, F, δ, μ, xs, μ1, R, e1, fun vs H1 ms1 F1 r1 s1 q1 => ?_⟩
    have R1 := R.step r1 s1
    have k1 := kk.step s1.ext
    split at ev
    · rename_i d μ2 e2
      cases ev
      exact ⟨ms1, F1, xs, μ1, _, r1.xp, q1.xp, hlen _ _ _ _ e1, e2, fun v H' ms' F' r' s' q' => k1 _ H' ms' F' ((R1.step r'.xp s').set q'.xp i) s'.ext⟩
    · rename_i C f' msg d μ2 e2
      cases ev
      exact ⟨ms1, F1, xs, μ1, _, r1.xp, q1.xp, hlen _ _ _ _ e1, e2, fun dx y H' ms' F' r' s' hd hy => k1 σ H' ms' F' dx y (R1.step r'.xp s') s'.ext hd hy.xp⟩
    · cases ev
  · cases ev⟩
/-! ### a weaker wish -/
theorem EndOk.imp {Γ : Gm} {W W' : WX × Hp} {O : Og} {ms : List Addr} {F : Hp} {D : Ends} {o : Out} (h : EndOk Γ W O ms F D o) (w : ∀ c d σ H, W.1 c d σ H → W'.1 c d σ H) : EndOk Γ W' O ms F D o := by
  cases o with
  | xc C f msg d δ μ => exact fun σ' H' m2 F2 dx y R x hd hy => w _ _ _ _ (h σ' H' m2 F2 dx y R x hd hy)
  | _ => exact h
end
end G

set_option Elab.async false
set_option linter.all false
set_option autoImplicit false
set_option maxRecDepth 100000
set_option maxHeartbeats 2000000
namespace G
open PySem PySem.Spec PySem.Calls L2 PyProof.Rows
/-! ### an exception that has come to a try of the def -/
/-- s: the state in which the exception at a waits to be asked for; g: the state without it -/
structure Waits (X : Cx) (pins : List (Addr × Obj)) (σ : L2.St) (H : Hp) (a : Addr) (cls : Value) (d : Option Addr) (B : Heap) (g s : Shared) : Prop where
  inv : Inv X pins σ H g
  low : ∀ b o, g.heap.get? b = some o → b ∉ frs X.stack → B.get? b = some o
  up : g.heap.UpToSlots s.heap
  fly : HandSPX.FlyingZ B (X.env :: X.outer) a (L2N.Zn cls d) s.heap
  na : H a = none
  os : s.os = g.os
  ag : AllBare s.gens
section
variable {X : Cx} {pins : List (Addr × Obj)} {σ : L2.St} {H : Hp} {a : Addr} {cls : Value} {d : Option Addr} {B : Heap} {g s : Shared}
theorem Waits.here (w : Waits X pins σ H a cls d B g s) : Inv X pins σ H s := w.inv.landed w.low w.fly.1 w.up w.os w.ag
/-- an object with fields that a frame of ours can't be -/
theorem frame_not {l : List Env} {h : Heap} {o : Obj} {vs : Array Value} (ff : h.FunFrames B l) (e : h.get? a = some o) (q : o.data = .fields vs) : a ∉ frs l := by
  intro hm
  obtain ⟨_, u, eu, nf⟩ := ff.mem hm
  cases e.symm.trans eu
  exact nf vs q
/-- the suite's state: the exception is pinned -/
theorem Waits.pinned (w : Waits X pins σ H a cls d B g s) (hf : X.env.frame = some X.env.locals) : ∃ oe, L2N.Zn cls d oe ∧ (∃ vs, oe.data = .fields vs) ∧ L2H.HotC (X.suite a ((a, oe) :: (X.pn ++ pins))) ∧ s.heap.get? a = some oe ∧ Inv (X.suite a ((a, oe) :: (X.pn ++ pins))) [] σ H s := by
  obtain ⟨oe, vs, he, hz, hd⟩ := w.fly.there
  have nfr : a ∉ frs (X.env :: X.outer) := frame_not w.fly.2.2.1 he hd
  have out : ∀ env ∈ X.env :: X.outer, env.frame ≠ some a := fun env hm z => nfr (List.mem_filterMap.mpr ⟨env, hm, z⟩)
  have nL : a ≠ X.env.locals := fun z => out X.env List.mem_cons_self (by rw [hf, z])
  have nF : a ∉ X.fs := fun hm => by
    obtain ⟨env, h1, h2⟩ := List.mem_filterMap.mp hm
    exact out env (List.mem_cons_of_mem _ h1) h2
  exact ⟨oe, hz, ⟨vs, hd⟩, ⟨(a, oe), ⟨rfl, vs, hd, hz.2.2 vs hd⟩, List.mem_cons_self⟩, he, w.here.suite he hd w.na nL nF⟩
/-- it goes on its way, asked for by none -/
theorem Waits.on {W : WX} (w : Waits X pins σ H a cls d B g s) (hs : X.stack = X.env :: X.outer) (hf : X.env.frame = some X.env.locals) (tk : L2N.Takes X W) (q : W cls d σ H) {Q : Flow → Shared → Prop} :
    wpAny (model X.prog X.w) X.A (handleBy (.ref a) X.env []) Q X.xe s := by
  refine wpAny_handleBy_nil ?_
  obtain ⟨_, _, _, oe, vs, T, _, _, he, _, hd, h1, _⟩ := id w.fly
  have notNone : ¬ ((Value.ref T == Value.none) = true) := by simp
  have last : wpAny (model X.prog X.w) X.A (setFlight (.ref a) X.env.frame) (fun _ s2 => wpAny (model X.prog X.w) X.A (throw (.ref a) : Sem Flow) Q X.xe s2) X.xe s := by
    rw [hf]
    refine HandSPX.setFlight_upZ w.fly fun h2 held up2 => wpAny_throw (tk _ _ ⟨a, B, g, pins, σ, H, cls, d, rfl, w.inv, w.low, w.up.trans up2, .inr (.inr ?_), w.na, w.os, w.ag, q⟩)
    rw [hs]; exact held
  unfold PySem.passOn
  refine wpAny_bind (wpAny_field he hd h1 ?_)
  rw [if_neg notNone]
  first
    | exact wpAny_bind (wpAny_pure (wpAny_bind last))
    | exact wpAny_bind last
end
/-! ### try: .. except C as n: .. except D: .. -/
abbrev TsX := Addr → Value → Option Addr → TS
def offN (i : Nat) (D : Ends) : Ends := { nx := fun σ' H' => D.nx (σ'.set i none) H', rt := D.rt, bk := fun σ' H' => D.bk (σ'.set i none) H', ct := fun σ' H' => D.ct (σ'.set i none) H' }
/-- what the clauses wish of an exception, one behind the other -/
def wMA (K : PySem.W.Frag) (Wout : WX) (D : Ends) : List (Value × Option Nat × TsX) → WX
  | [] => Wout
  | (c, oi, ts) :: r => fun cls d σ H => ∃ b, PySem.W.exmOne K cls c = some b ∧
      (b = true → ∀ a, H a = none → match oi with
        | none => ts a cls d D σ H
        | some i => ts a cls d (offN i D) (σ.set i (some (.ref a))) H) ∧ (b = false → wMA K Wout D r cls d σ H)
inductive HdsA (X : Cx) : List ExceptHandler → List (Value × Option Nat × TsX) → Prop
  | nil : HdsA X [] []
  | cons {x : Str} {c : Value} {ts : TsX} {b₀ : Stmt} {suite : List Stmt} {np pos' : Pos} {hds : List ExceptHandler} {l : List (Value × Option Nat × TsX)} {on : Option Str} {oi : Option Nat} (hc : Names X x c)
      (hn : match on, oi with
        | none, none => True
        | some n, some i => X.N[i]? = some n ∧ X.env.kindOf n = some .local
        | _, _ => False)
      (hsu : ∀ (a : Addr) (oe : Obj) (cls : Value) (d : Option Addr) (pn : List (Addr × Obj)), L2N.Zn cls d oe → (∃ vs, oe.data = .fields vs) → L2H.HotC (X.suite a ((a, oe) :: pn)) → PSs (X.suite a ((a, oe) :: pn)) (b₀ :: suite) (ts a cls d)) (r : HdsA X hds l) :
      HdsA X (.ExceptHandler (some (.Name x np)) on (b₀ :: suite) pos' :: hds) ((c, oi, ts) :: l)
section
variable {X : Cx} {body : List Stmt} {h₀ : ExceptHandler} {hds : List ExceptHandler} {l : List (Value × Option Nat × TsX)} {pos : Pos} {tb : WX → TS} {Wout : WX} {pins : List (Addr × Obj)} {σ : L2.St} {H : Hp} {a : Addr} {cls : Value} {d : Option Addr} {B : Heap} {g s : Shared}
/-- the class of a clause is looked up -/
theorem clause_class {x : Str} {c : Value} {p : Pos} {Y : Cx} {pins : List (Addr × Obj)} {Q : Value → Shared → Prop} {E : Value → Shared → Prop} (hc : Names Y x c) (I : Inv Y pins σ H s) (q : Q c s) : wpAny (model Y.prog Y.w) Y.A (eval (.Name x p) Y.env) Q E s := by
  obtain ⟨h1, h2, h3 | ⟨h3, h4, h5⟩⟩ := hc
  · exact ld_glob I h1 h3 q h2
  · exact ld_blt I h1 h3 h4 q h5 h2
/-- a suite's ways out, back in the def -/
theorem suite_out {oe : Obj} {D : Ends} {f : Flow} (ok : X.Ok) (q : SP (X.suite a ((a, oe) :: (X.pn ++ pins))) [] D f s) : SP X pins D f s := by
  cases f with
  | ret u => obtain ⟨v, σ1, H1, J, r, z⟩ := q; exact ⟨v, σ1, H1, J.unsuite ok, r, z⟩
  | next => obtain ⟨σ1, H1, J, z⟩ := q; exact ⟨σ1, H1, J.unsuite ok, z⟩
  | brk => obtain ⟨σ1, H1, J, z⟩ := q; exact ⟨σ1, H1, J.unsuite ok, z⟩
  | cont => obtain ⟨σ1, H1, J, z⟩ := q; exact ⟨σ1, H1, J.unsuite ok, z⟩
theorem clauses_run (hs : X.stack = X.env :: X.outer) (hf : X.env.frame = some X.env.locals) (hN : X.N.Nodup) (tk : L2N.Takes X Wout) {D : Ends} :
    ∀ {hds : List ExceptHandler} {l : List (Value × Option Nat × TsX)}, HdsA X hds l → Waits X pins σ H a cls d B g s → wMA X.K Wout D l cls d σ H → wpAny (model X.prog X.w) X.A (handleBy (.ref a) X.env hds) (SP X pins D) X.xe s := by
  intro hds l hk w
  induction hk with
  | nil => exact fun q => w.on hs hf tk q
  | @cons x c ts b₀ suite np pos' hds' l' on oi hc hn hsu r ih =>
    rintro ⟨b, hb, yes, no⟩
    obtain ⟨oe, hz, _, _, he, S⟩ := w.pinned hf
    refine wpAny_handleBy_cons (codeAny_handlers_test ?_) (by intro z; cases z)
    have cl0 : PySem.W.Looks (model X.prog X.w) s.heap (typeOf (.ref a)) cls := fun _ _ _ _ k q => wpAny_typeOf_ref (k _ _ he) (by rw [hz.1]; exact q)
    refine clause_class (Y := X.suite a ((a, oe) :: (X.pn ++ pins))) hc S ((PySem.W.exm_one (M := model X.prog X.w) w.here.kIn cl0 hb).here ?_)
    cases b with
    | false => exact ih (no rfl)
    | true =>
      have y := yes rfl a w.na
      match on, oi, hn with
      | none, none, _ =>
        refine codeAny_handlers_suite (HandSPX.lands_againZ w.fly fun h' fl' up' => ?_)
        have w' : Waits X pins σ H a cls d B g { s with heap := h' } := ⟨w.inv, w.low, w.up.trans up', fl', w.na, w.os, w.ag⟩
        obtain ⟨oe', hz', hv', hot', _, S'⟩ := w'.pinned hf
        exact wpAny_mono ((hsu a oe' cls d _ hz' hv' hot').run [] _ _ H D S' y) (fun f s2 q => suite_out w.inv.ok q) fun _ _ z => z.elim
      | some n, some i, ⟨hi, hl⟩ =>
        refine codeAny_handlers_suite_as (HandSPX.lands_againZ w.fly fun h' fl' up' => ?_)
        have w' : Waits X pins σ H a cls d B g { s with heap := h' } := ⟨w.inv, w.low, w.up.trans up', fl', w.na, w.os, w.ag⟩
        obtain ⟨oe', hz', hv', hot', _, S'⟩ := w'.pinned hf
        refine store_ok (X := X.suite a ((a, oe') :: (X.pn ++ pins))) (v := .ref a) S' hN hi (.inl hl) rfl (fun s2 S2 => ?_) (.inr hl)
        refine wpAny_mono ((hsu a oe' cls d _ hz' hv' hot').run [] _ _ H (offN i D) S2 y) (fun f s3 q => ?_) fun _ _ z => z.elim
        have q' := suite_out (pins := pins) w.inv.ok q
        cases f with
        | ret u => obtain ⟨v, σ4, H4, J, rv, z⟩ := q'; exact gone_ok J hN hi hl fun s4 J4 => ⟨v, _, H4, J4, rv, z⟩
        | next => obtain ⟨σ4, H4, J, z⟩ := q'; exact gone_ok J hN hi hl fun s4 J4 => ⟨_, H4, J4, z⟩
        | brk => obtain ⟨σ4, H4, J, z⟩ := q'; exact gone_ok J hN hi hl fun s4 J4 => ⟨_, H4, J4, z⟩
        | cont => obtain ⟨σ4, H4, J, z⟩ := q'; exact gone_ok J hN hi hl fun s4 J4 => ⟨_, H4, J4, z⟩
theorem ps_try_ma (hs : X.stack = X.env :: X.outer) (hf : X.env.frame = some X.env.locals) (hN : X.N.Nodup) (tk : L2N.Takes X Wout)
    (hb : ∀ (W : WX) (pn : List (Addr × Obj)) (xe : Value → Shared → Prop), L2N.Takes (X.tr pn xe) W → PassesOwn (model X.prog X.w) X.A X.env xe → PSs (X.tr pn xe) body (tb W))
    (hh : HdsA X (h₀ :: hds) l) : PS X (.Try body (h₀ :: hds) [] [] pos) (fun D σ H => tb (wMA X.K Wout D l) D σ H) := by
  constructor
  intro pins s σ H D I h
  have frames : X.A.frames = some (X.env :: X.outer) := by rw [I.ok.frames, hs]
  refine wpAny_Try_except (wpAny_mono ((hb (wMA X.K Wout D l) (X.pn ++ pins) _ ?taken PassesOwn.looking).run [] s σ H D (I.toTry _) h) (fun f s1 q => ?_) fun _ _ z => z)
  case taken =>
    rintro _ s1 ⟨a, B, g, _, σ1, H1, cls, d, rfl, J, low, up, sky, na, os, ag, q⟩
    rw [show (X.tr (X.pn ++ pins) _).stack = X.env :: X.outer from hs] at sky
    exact L2N.Sky.land L2N.Zn.steady frames hf sky fun h2 fl up2 => clauses_run hs hf hN tk hh ⟨J.ofTry I.ok, low, up.trans up2, fl, na, os, ag⟩ q
  cases f with
  | next => obtain ⟨σ1, H1, J, z⟩ := q; exact wpAny_execs_nil ⟨σ1, H1, J.ofTry I.ok, z⟩
  | ret u => obtain ⟨v, σ1, H1, J, r, z⟩ := q; exact ⟨v, σ1, H1, J.ofTry I.ok, r, z⟩
  | brk => obtain ⟨σ1, H1, J, z⟩ := q; exact ⟨σ1, H1, J.ofTry I.ok, z⟩
  | cont => obtain ⟨σ1, H1, J, z⟩ := q; exact ⟨σ1, H1, J.ofTry I.ok, z⟩
end
end G

set_option Elab.async false
set_option linter.all false
set_option autoImplicit false
set_option maxRecDepth 100000
set_option maxHeartbeats 2000000
namespace G
open PySem PySem.Spec PySem.Calls L2
abbrev XT := Nat → Option Bool
def offX (δ : List SV) : List SV := δ.map fun s => match s with
  | .xv _ _ _ => .no
  | s => s
def unX : Option Nat → List SV → List SV
  | none, δ => offX δ
  | some i, δ => (offX δ).set i .no
def offOut (oi : Option Nat) : Option Out → Option Out
  | some (.nx δ μ) => some (.nx (unX oi δ) μ)
  | some (.bk δ μ) => some (.bk (unX oi δ) μ)
  | some (.ct δ μ) => some (.ct (unX oi δ) μ)
  | some (.rt d μ) => some (.rt d μ)
  | _ => none
def inX (C : Nat) (f : Str) (d : D) : Option Nat → List SV → List SV
  | none, δ => δ
  | some i, δ => δ.set i (.xv C f d)
/-- the clauses, one behind the other -/
def handle : List (XT × Option Nat × BF) → Nat → Str → Str → D → BF
  | [], C, f, m, d => fun δ μ => some (.xc C f m d δ μ)
  | (t, oi, h) :: r, C, f, m, d => fun δ μ => match t C with
    | some true => offOut oi (h (inX C f d oi δ) μ)
    | some false => handle r C f m d δ μ
    | none => none
def bTry (bd : BF) (hs : List (XT × Option Nat × BF)) : BF := fun δ μ => match bd δ μ with
  | some (.xc C f m d δ' μ') => handle hs C f m d δ' μ'
  | o => o
section
variable {K : PySem.W.Frag} {cl : Nat → Addr} {x y : Option (Addr × Obj)} {O : Og} {ms : List Addr} {F H : Hp} {σ : L2.St} {δ : List SV} {μ : List MO}
theorem SR.toX (R : SR ⟨K, cl, none⟩ O ms F H σ δ μ) : SR ⟨K, cl, x⟩ O ms F H σ δ μ := by
  refine ⟨R.hr.xp, ⟨R.er.len, fun i sv e => ?_, R.er.inj⟩, R.st⟩
  have o := R.er.ok i sv e
  cases sv with
  | no => trivial
  | d x => obtain ⟨u, e, q⟩ := o; exact ⟨u, e, q.xp⟩
  | own ds => obtain ⟨a, xs, e, h1, h2, h3⟩ := o; exact ⟨a, xs, e, h1, h2.xp, h3⟩
  | xv C f x => obtain ⟨a, oe, dx, y, e, _⟩ := o; cases e
theorem offX_get {δ : List SV} {i : Nat} {sv : SV} (e : (offX δ)[i]? = some sv) : (sv = .no) ∨ (δ[i]? = some sv ∧ ∀ C f x, sv ≠ .xv C f x) := by
  unfold offX at e
  rw [List.getElem?_map] at e
  cases z : δ[i]? with
  | none => rw [z] at e; cases e
  | some s =>
    rw [z] at e
    cases s with
    | no => cases e; exact .inl rfl
    | d x => cases e; exact .inr ⟨rfl, fun _ _ _ z => nomatch z⟩
    | own x => cases e; exact .inr ⟨rfl, fun _ _ _ z => nomatch z⟩
    | xv C f x => cases e; exact .inl rfl
theorem SR.offX (R : SR ⟨K, cl, x⟩ O ms F H σ δ μ) : SR ⟨K, cl, y⟩ O ms F H σ (G.offX δ) μ := by
  refine ⟨R.hr.xp, ⟨by simp [G.offX, R.er.len], fun i sv e => ?_, fun i j a ds es e1 e2 f1 f2 => ?_⟩, R.st⟩
  · rcases offX_get e with rfl | ⟨e, nx⟩
    · trivial
    · have o := R.er.ok i sv e
      cases sv with
      | no => trivial
      | d x => obtain ⟨u, e, q⟩ := o; exact ⟨u, e, q.xp⟩
      | own ds => obtain ⟨a, xs, e, h1, h2, h3⟩ := o; exact ⟨a, xs, e, h1, h2.xp, h3⟩
      | xv C f x => exact absurd rfl (nx C f x)
  · rcases offX_get e1 with z | ⟨e1, _⟩
    · cases z
    · rcases offX_get e2 with z | ⟨e2, _⟩
      · cases z
      · exact R.er.inj i j a ds es e1 e2 f1 f2
theorem SR.setX {a : Addr} {oe : Obj} {dx : Addr} {C : Nat} {f : Str} {d : D} {v : V} (R : SR ⟨K, cl, some (a, oe)⟩ O ms F H σ δ μ) (z : Zc (.ref (cl C)) (some dx) oe ∧ ∃ vs, oe.data = .fields vs) (hd : F dx = some (exd dx [(f, v)])) (q : Has ⟨K, cl, some (a, oe)⟩ ms F v d) (i : Nat) :
    SR ⟨K, cl, some (a, oe)⟩ O ms F H (σ.set i (some (.ref a))) (δ.set i (.xv C f d)) μ := by
  have R1 := R.drop i (some (.ref a))
  refine ⟨R1.hr, ⟨by simpa using R1.er.len, fun j sv e => ?_, fun j k c ds es e1 e2 f1 f2 => ?_⟩, R1.st⟩
  · by_cases hj : i = j
    · subst hj
      have hi : i < δ.length := by
        have := (List.getElem?_eq_some_iff.mp e).1
        simpa using this
      rw [List.getElem?_set_self hi] at e; cases e
      rw [List.getElem?_set_self (by rw [R.er.len]; exact hi)]
      exact ⟨a, oe, dx, v, rfl, rfl, z, hd, q⟩
    · refine R1.er.ok j sv ?_
      rw [List.getElem?_set_ne hj] at e ⊢
      exact e
  · have n1 : i ≠ j := fun z => by
      subst z
      have hi : i < δ.length := by
        have := (List.getElem?_eq_some_iff.mp e1).1
        simpa using this
      rw [List.getElem?_set_self hi] at e1; cases e1
    have n2 : i ≠ k := fun z => by
      subst z
      have hi : i < δ.length := by
        have := (List.getElem?_eq_some_iff.mp e2).1
        simpa using this
      rw [List.getElem?_set_self hi] at e2; cases e2
    rw [List.getElem?_set_ne n1] at e1 f1
    rw [List.getElem?_set_ne n2] at e2 f2
    exact R.er.inj j k c ds es e1 e2 f1 f2
end
def tsOf (K : PySem.W.Frag) (H0 : Hp) (cl : Nat → Addr) (h : BF) : TsX := fun a cls d D σ H => ∀ oe, L2N.Zn cls d oe → (∃ vs, oe.data = .fields vs) → tS ⟨K, cl, some (a, oe)⟩ (fun _ _ _ _ => False, H0) h D σ H
inductive HdsD (X : Cx) (cl : Nat → Addr) : List ExceptHandler → List (XT × Option Nat × BF) → List (Value × Option Nat × TsX) → Prop
  | nil : HdsD X cl [] [] []
  | cons {x : Str} {c : Value} {b₀ : Stmt} {suite : List Stmt} {np pos' : Pos} {hds : List ExceptHandler} {l : List (XT × Option Nat × BF)} {lA : List (Value × Option Nat × TsX)} {on : Option Str} {oi : Option Nat} {t : XT} {h : BF} (hc : Names X x c)
      (hn : match on, oi with
        | none, none => True
        | some n, some i => X.N[i]? = some n ∧ X.env.kindOf n = some .local
        | _, _ => False)
      (ht : ∀ C b, t C = some b → PySem.W.exmOne X.K (.ref (cl C)) c = some b)
      (hsu : ∀ (a : Addr) (oe : Obj) (pn : List (Addr × Obj)), L2H.HotC (X.suite a ((a, oe) :: pn)) → DB (X.suite a ((a, oe) :: pn)) cl (b₀ :: suite) h) (r : HdsD X cl hds l lA) :
      HdsD X cl (.ExceptHandler (some (.Name x np)) on (b₀ :: suite) pos' :: hds) ((t, oi, h) :: l) ((c, oi, tsOf X.K X.H_0 cl h) :: lA)
section
variable {X : Cx} {cl : Nat → Addr}
theorem HdsD.toA : ∀ {hds : List ExceptHandler} {l : List (XT × Option Nat × BF)} {lA : List (Value × Option Nat × TsX)}, HdsD X cl hds l lA → HdsA X hds lA
  | _, _, _, .nil => .nil
  | _, _, _, .cons hc hn ht hsu r => .cons hc hn (fun a oe cls d pn hz hv hot => (hsu a oe pn hot).p.weak fun D σ H q => by
      obtain ⟨O, ms, F, δ, μ, o, R, ev, hO, k⟩ := q oe hz hv
      exact ⟨O, ms, F, δ, μ, o, R, ev, hO, k.imp fun _ _ _ _ z => z.elim⟩) r.toA
theorem handle_run (hc : X.calm = true) : ∀ {hds : List ExceptHandler} {l : List (XT × Option Nat × BF)} {lA : List (Value × Option Nat × TsX)}, HdsD X cl hds l lA →
    ∀ {C : Nat} {f m : Str} {d : D} {O : Og} {ms : List Addr} {F H : Hp} {σ : L2.St} {δ : List SV} {μ : List MO} {o : Out} {E : Ends} {dx : Addr} {y : V}, handle l C f m d δ μ = some o → SR (gm X cl) O ms F H σ δ μ → O.H = X.H_0 → EndOk (gm X cl) (W0 X) O ms F E o →
      F dx = some (exd dx [(f, y)]) → Has (gm X cl) ms F y d → wMA X.K (W0 X).1 E lA (.ref (cl C)) (some dx) σ H := by
  have gX : gm X cl = ⟨X.K, cl, none⟩ := by show Gm.mk X.K cl (bif X.calm then none else X.pn.head?) = _; rw [hc]; rfl
  intro hds l lA hk
  induction hk with
  | nil =>
    intro C f m d O ms F H σ δ μ o D dx y ev R hO k hd hy
    cases ev
    exact k σ H ms F dx y R (Ext.refl _ _) hd hy
  | @cons x c b₀ suite np pos' hds l lA on oi t h hcn hn ht hsu r ih =>
    intro C f m d O ms F H σ δ μ o D dx y ev R hO k hd hy
    unfold handle at ev
    split at ev
    · rename_i etc
      refine ⟨true, ht C true etc, fun _ a ha => ?_, fun z => nomatch z⟩
      rw [gX] at R hy k
      cases oi with
      | none =>
        intro oe hz hv
        have e0 : ∃ o', h δ μ = some o' := by
          cases z : h δ μ with
          | none => simp only [inX, z, offOut] at ev; cases ev
          | some o' => exact ⟨o', rfl⟩
        obtain ⟨o', eh⟩ := e0
        simp only [inX, eh] at ev
        refine ⟨O, ms, F, δ, μ, o', R.toX, eh, hO, ?_⟩
        cases o' with
        | nx δ2 μ2 => cases ev; exact fun σ' H' ms' F' R' x => k σ' H' ms' F' R'.offX x
        | bk δ2 μ2 => cases ev; exact fun σ' H' ms' F' R' x => k σ' H' ms' F' R'.offX x
        | ct δ2 μ2 => cases ev; exact fun σ' H' ms' F' R' x => k σ' H' ms' F' R'.offX x
        | rt d2 μ2 => cases ev; exact fun v H' ms' F' r s q => k v H' ms' F' r.xp s q.xp
        | xc _ _ _ _ _ _ => cases ev
      | some i =>
        intro oe hz hv
        have e0 : ∃ o', h (δ.set i (.xv C f d)) μ = some o' := by
          cases z : h (δ.set i (.xv C f d)) μ with
          | none => simp only [inX, z, offOut] at ev; cases ev
          | some o' => exact ⟨o', rfl⟩
        obtain ⟨o', eh⟩ := e0
        simp only [inX, eh] at ev
        refine ⟨O, ms, F, _, μ, o', (R.toX (x := some (a, oe))).setX ⟨hz.zc, hv⟩ hd hy.xp i, eh, hO, ?_⟩
        cases o' with
        | nx δ2 μ2 => cases ev; exact fun σ' H' ms' F' R' x => k (σ'.set i none) H' ms' F' (R'.offX.drop i none) x
        | bk δ2 μ2 => cases ev; exact fun σ' H' ms' F' R' x => k (σ'.set i none) H' ms' F' (R'.offX.drop i none) x
        | ct δ2 μ2 => cases ev; exact fun σ' H' ms' F' R' x => k (σ'.set i none) H' ms' F' (R'.offX.drop i none) x
        | rt d2 μ2 => cases ev; exact fun v H' ms' F' r s q => k v H' ms' F' r.xp s q.xp
        | xc _ _ _ _ _ _ => cases ev
    · rename_i etc
      exact ⟨false, ht C false etc, (fun z => nomatch z), fun _ => ih ev R hO k hd hy⟩
    · cases ev
theorem ds_try {body : List Stmt} {h₀ : ExceptHandler} {hds : List ExceptHandler} {pos : Pos} {bd : BF} {l : List (XT × Option Nat × BF)} {lA : List (Value × Option Nat × TsX)} (hc : X.calm = true) (hs : X.stack = X.env :: X.outer) (hf : X.env.frame = some X.env.locals) (hN : X.N.Nodup)
    (hb : ∀ (pn : List (Addr × Obj)) (xe : Value → Shared → Prop), PassesOwn (model X.prog X.w) X.A X.env xe → DB (X.tr pn xe) cl body bd) (hh : HdsD X cl (h₀ :: hds) l lA) :
    DS X cl (.Try body (h₀ :: hds) [] [] pos) (bTry bd l) := by
  have gX : ∀ pn xe, gm (X.tr pn xe) cl = gm X cl := fun pn xe => by
    show Gm.mk X.K cl (bif X.calm then none else pn.head?) = Gm.mk X.K cl (bif X.calm then none else X.pn.head?)
    rw [hc]; rfl
  refine ⟨(ps_try_ma (tb := fun W => tS (gm X cl) (W, X.H_0) bd) hs hf hN takesW (fun W pn xe tk hp => ?_) hh.toA).weak fun D σ H ⟨O, ms, F, δ, μ, o, R, ev, hO, k⟩ => ?_⟩
  · have p := (hb pn xe hp).p
    rw [gX] at p
    refine p.weak fun D σ H ⟨O, ms, F, δ, μ, o, R, ev, hO, k⟩ => ⟨O, ms, F, δ, μ, o, R, ev, hO, k.imp fun c d σ H w => W0.of tk w⟩
  · unfold bTry at ev
    split at ev
    · rename_i C f m d δ' μ' e1
      refine ⟨O, ms, F, δ, μ, _, R, e1, hO, fun σ' H' ms' F' dx y R' x hd hy => ?_⟩
      exact handle_run hc hh ev R' hO (k.step x) hd hy
    · rename_i hno
      refine ⟨O, ms, F, δ, μ, o, R, ev, hO, ?_⟩
      cases o with
      | xc C f m d δ' μ' => exact absurd ev (hno C f m d δ' μ')
      | nx _ _ => exact k
      | bk _ _ => exact k
      | ct _ _ => exact k
      | rt _ _ => exact k
end
end G

set_option Elab.async false
set_option linter.all false
set_option autoImplicit false
set_option maxRecDepth 100000
set_option maxHeartbeats 4000000
namespace G
open PySem PySem.Spec PySem.Calls L2 PyProof.Rows L2H HotX
/-! ### a text's signs, walked while an exception is handled -/
section
variable {prog : Program} {w : World} {A : Around} {E : Value → Shared → Prop} {s : Shared}
theorem next_ascii_end_hot {it x1 : Addr} {x : Str} {t : Tok} {i : Nat} {Q : Option Value → Shared → Prop} (hot : HotAt A x1 s.heap) (hni : x1 ≠ it)
    (hit : s.heap.IsStrIter it "str_ascii_iterator" x t i) (hx : x.cps[i]? = none)
    (hQ : ∀ h', (∀ b o, b ≠ it → s.heap.get? b = some o → h'.get? b = some o) → Q none { s with heap := h' }) : wpAny (model prog w) A (pyNext (.ref it)) Q E s := by
  obtain ⟨o, ho, hc, hd⟩ := id hit
  obtain ⟨hh, o1, vs1, h1, d1, c1⟩ := hot
  unfold pyNext
  refine wpAny_bind (wpAny_attempt (wpAny_callSpecial?_slot (name := Str.ofString "__next__") hit.typeIs F.slot_str_ascii_iterator_next
    (wpAny_call_entry F.slot_str_ascii_iterator_next hit.typeIs F.entry_str_ascii_iterator_next ?_ (F.args_str_ascii_iterator_next_1 _))))
  show wpAny _ _ (field (.ref it) 0 >>= _) _ _ s
  refine wpAny_bind (wpAny_field ho hd (x := .str x t) rfl ?_)
  show wpAny _ _ (field (.ref it) 1 >>= _) _ _ s
  refine wpAny_bind (wpAny_field ho hd (x := .int i 0) rfl ?_)
  simp only [Int.toNat_natCast, hx]
  refine wpAny_bind (wpAny_rule (wpAny_bind (wpAny_setField ho hd (by simp) (wpAny_bind (wpAny_letGo ?_)))))
  have k0 : ∀ b u, b ≠ it → s.heap.get? b = some u → (s.heap.update it (Obj.mapFields (·.setIfInBounds 0 Value.none))).get? b = some u := fun b u hb e => (Heap.get?_update_other _ _ (Ne.symm hb)).trans e
  have h1' := k0 x1 o1 hni h1
  show wpAny _ _ (newExc (.type "StopIteration") [] >>= _) _ _ _
  refine wpAny_bind ?_
  simp only [newExc, newTuple]
  refine wpAny_bind (wpAny_newObj_type ?_ (by size_fits))
  refine wpAny_bind (m := firstArgMember _ _) (wpAny_of_eq (a := Value.none) (by first | rfl | (simp only [firstArgMember]; rfl)) ?_)
  refine wpAny_newObj_type ?_ (by size_fits)
  refine raiseNew_hot ⟨hh, o1, vs1, Heap.get?_push_of_some _ (Heap.get?_push_of_some _ h1'), d1, c1⟩ (Nat.ne_of_lt (Heap.lt_size (Heap.get?_push_of_some _ h1'))) (Heap.get?_push_size _ rfl) rfl (by first | (simp; done) | (simp; omega) | (simp only [Array.size_append]; simp; omega)) ?_
  refine wpAny_bind (wpAny_isInstance (T := "StopIteration") (b := true) ⟨_, Heap.get?_update_self _ (Heap.get?_push_size _ rfl) rfl, rfl⟩ isSubtype_stop ?_)
  refine wpAny_pure (hQ _ fun b u hb e => ?_)
  rw [Heap.get?_update_other _ _ (Nat.ne_of_gt (Heap.lt_size (Heap.get?_push_of_some _ (k0 b u hb e))))]
  exact Heap.get?_push_of_some _ (Heap.get?_push_of_some _ (k0 b u hb e))
theorem next_wide_end_hot {it x1 : Addr} {x : Str} {t : Tok} {i : Nat} {Q : Option Value → Shared → Prop} (hot : HotAt A x1 s.heap) (hni : x1 ≠ it)
    (hit : s.heap.IsStrIter it "str_iterator" x t i) (hx : x.cps[i]? = none)
    (hQ : ∀ h', (∀ b o, b ≠ it → s.heap.get? b = some o → h'.get? b = some o) → Q none { s with heap := h' }) : wpAny (model prog w) A (pyNext (.ref it)) Q E s := by
  obtain ⟨o, ho, hc, hd⟩ := id hit
  obtain ⟨hh, o1, vs1, h1, d1, c1⟩ := hot
  unfold pyNext
  refine wpAny_bind (wpAny_attempt (wpAny_callSpecial?_slot (name := Str.ofString "__next__") hit.typeIs F.slot_str_iterator_next
    (wpAny_call_entry F.slot_str_iterator_next hit.typeIs F.entry_str_iterator_next ?_ (F.args_str_iterator_next_1 _))))
  show wpAny _ _ (field (.ref it) 0 >>= _) _ _ s
  refine wpAny_bind (wpAny_field ho hd (x := .str x t) rfl ?_)
  show wpAny _ _ (field (.ref it) 1 >>= _) _ _ s
  refine wpAny_bind (wpAny_field ho hd (x := .int i 0) rfl ?_)
  simp only [Int.toNat_natCast, hx]
  refine wpAny_bind (wpAny_rule (wpAny_bind (wpAny_setField ho hd (by simp) (wpAny_bind (wpAny_letGo ?_)))))
  have k0 : ∀ b u, b ≠ it → s.heap.get? b = some u → (s.heap.update it (Obj.mapFields (·.setIfInBounds 0 Value.none))).get? b = some u := fun b u hb e => (Heap.get?_update_other _ _ (Ne.symm hb)).trans e
  have h1' := k0 x1 o1 hni h1
  show wpAny _ _ (newExc (.type "StopIteration") [] >>= _) _ _ _
  refine wpAny_bind ?_
  simp only [newExc, newTuple]
  refine wpAny_bind (wpAny_newObj_type ?_ (by size_fits))
  refine wpAny_bind (m := firstArgMember _ _) (wpAny_of_eq (a := Value.none) (by first | rfl | (simp only [firstArgMember]; rfl)) ?_)
  refine wpAny_newObj_type ?_ (by size_fits)
  refine raiseNew_hot ⟨hh, o1, vs1, Heap.get?_push_of_some _ (Heap.get?_push_of_some _ h1'), d1, c1⟩ (Nat.ne_of_lt (Heap.lt_size (Heap.get?_push_of_some _ h1'))) (Heap.get?_push_size _ rfl) rfl (by first | (simp; done) | (simp; omega) | (simp only [Array.size_append]; simp; omega)) ?_
  refine wpAny_bind (wpAny_isInstance (T := "StopIteration") (b := true) ⟨_, Heap.get?_update_self _ (Heap.get?_push_size _ rfl) rfl, rfl⟩ isSubtype_stop ?_)
  refine wpAny_pure (hQ _ fun b u hb e => ?_)
  rw [Heap.get?_update_other _ _ (Nat.ne_of_gt (Heap.lt_size (Heap.get?_push_of_some _ (k0 b u hb e))))]
  exact Heap.get?_push_of_some _ (Heap.get?_push_of_some _ (k0 b u hb e))
end
theorem hot_ne {X : Cx} {pins : List (Addr × Obj)} {σ : L2.St} {H : Hp} {s : Shared} (c : HotC X) (I : Inv X pins σ H s) {b : Addr} (f : FpOk X pins H b) : ∃ x1, HotAt X.A x1 s.heap ∧ x1 ≠ b := by
  obtain ⟨p, ⟨hh, v1, e1, c1⟩, hp⟩ := c
  exact ⟨p.1, ⟨hh, p.2, v1, (I.pin p (List.mem_append_left _ hp)).1, e1, c1⟩, f.2.2.2.2.2 p (List.mem_append_left _ hp)⟩
theorem turn_strH {P : Program} {w : World} {K : PySem.W.Frag} {tg : Expr} (it : Addr) (x : Str) (t : Tok) (ty : String) (hty : ty = "str_ascii_iterator" ∨ ty = "str_iterator") :
    TurnH P w K tg (Its x) [it] it (fun i h => h.IsStrIter it ty x t i) where
  mem := by simp
  obj := (turn_str (P := P) (w := w) (K := K) (tg := tg) it x t ty hty).obj
  keep := (turn_str (P := P) (w := w) (K := K) (tg := tg) it x t ty hty).keep
  item := by
    intro X hP hw hK hc i pins s σ H E I hf st hg
    subst hP hw hK
    obtain ⟨f0, f1, f2, f3, f4, f5⟩ := hf it (by simp)
    have hno : ["enumerate", "zip", "dict_itemiterator", "dict_reverseitemiterator", "odict_iterator", "itertools.zip_longest", "itertools.pairwise"].contains ty = false := by
      rcases hty with e | e
      · rw [e]; decide
      · rw [e]; decide
    have hx : x.cps[i]? = some x.cps[i] := Array.getElem?_eq_getElem hg
    have go : ∀ h' : Heap, h'.IsStrIter it ty x t (i + 1) → Heap.SameBut it s.heap h' → ∃ u, (some (Value.str ⟨#[x.cps[i]]⟩ s.toks)) = some u ∧ wpAny (model X.prog X.w) X.A (letOwnedTupleGo tg (.ref it) u) (fun _ s2 => ∃ x' H', Inv X pins σ H' s2 ∧ RelV x' u ∧ (Its x).yld i H x' H' ∧ s2.heap.IsStrIter it ty x t (i + 1) ∧ ∀ b ∈ [it], H' b = none) E { s with heap := h', toks := s.toks + 1 } := by
      intro h' st' sb
      have I1 : Inv X pins σ H { s with heap := h', toks := s.toks + 1 } := I.turned (fun b o hb e => (sb.2 b hb).trans e) f0 f1 f3 f4 f5
      obtain ⟨oi, e, cc, dd⟩ := id st'
      exact ⟨_, rfl, go_of (s := { s with heap := h', toks := s.toks + 1 }) e cc dd hno ⟨.str ⟨#[x.cps[i]]⟩, H, I1, ⟨s.toks, rfl⟩, ⟨rfl, x.cps[i], hx, rfl⟩, st', fun b hb => (hf b hb).1⟩⟩
    rcases hty with e | e
    · subst e; exact wpAny_pyNext_ascii_item st hx fun h' st' sb => go h' st' sb
    · subst e; exact wpAny_pyNext_wide_item st hx fun h' st' sb => go h' st' sb
  done := by
    intro X hP hw hK hc i pins s σ H E I hf st hg
    subst hP hw hK
    obtain ⟨x1, hot, hn⟩ := hot_ne hc I (hf it (by simp))
    obtain ⟨f0, f1, f2, f3, f4, f5⟩ := hf it (by simp)
    have hx : x.cps[i]? = none := Array.getElem?_eq_none hg
    rcases hty with e | e
    · rw [e] at st
      exact next_ascii_end_hot hot hn st hx fun h' eb => ⟨rfl, I.turned (t' := s.toks) (fun b o hb e => eb b o hb e) f0 f1 f3 f4 f5⟩
    · rw [e] at st
      exact next_wide_end_hot hot hn st hx fun h' eb => ⟨rfl, I.turned (t' := s.toks) (fun b o hb e => eb b o hb e) f0 f1 f3 f4 f5⟩
  self := (turn_str (P := P) (w := w) (K := K) (tg := tg) it x t ty hty).self
theorem pi_strH {X : Cx} {tg e : Expr} {te : TE} (he : PE X e te) : PIH X tg e (iStr te) := by
  refine ⟨fun pins s σ H R I h => ?_⟩
  refine thn (he.run pins s σ H _ I h) fun v s1 ⟨y, H1, I1, r1, x, ex, q⟩ => ?_
  subst ex
  obtain ⟨t, rfl⟩ := r1
  have one : ∀ (o : Obj) (ty : String), ty = "str_ascii_iterator" ∨ ty = "str_iterator" → (s1.heap.push o).IsStrIter s1.heap.objs.size ty x t 0 → PIEH X pins σ tg R (.ref s1.heap.objs.size) { s1 with heap := s1.heap.push o, toks := s1.toks } := fun o ty hty st => by
    refine ⟨s1.heap.objs.size, [s1.heap.objs.size], _, Its x, H1, rfl, I1.kept fun b ob e => Heap.get?_push_of_some _ e, turn_strH _ x t ty hty, st, fun b hb => ?_, q⟩
    have e : b = s1.heap.objs.size := by simpa using hb
    subst e
    exact I1.fpOk (Nat.le_refl _) (I1.hok.fresh (Nat.le_refl _))
  cases ha : x.cps.all (· < 128)
  · exact wpAny_pyIter_wide ha (one _ "str_iterator" (.inr rfl) ⟨_, Heap.get?_push_size _ rfl, rfl, rfl⟩)
  · exact wpAny_pyIter_ascii ha (one _ "str_ascii_iterator" (.inl rfl) ⟨_, Heap.get?_push_size _ rfl, rfl, rfl⟩)
/-! ### a comprehension there -/
abbrev _root_.L2.Cx.blkH (X : Cx) (s : Shared) (H : Hp) (scope : Scope) (cenv : Env) (fp : List Addr) : Cx := { X.blk s H scope cenv fp with pn := X.pn }
section
variable {X : Cx} {pins : List (Addr × Obj)} {σ : L2.St} {H : Hp} {s : Shared}
/-- a block's context bears what the def's bears -/
theorem blk_hot {scope : Scope} {own : List (Str × Nat)} {fp : List Addr} (I : Inv X pins σ H s) (ok : BlkOk X.N X.env.scope scope own) (hN : X.N.Nodup) (hfp : ∀ b ∈ fp, FpOk X pins H b ∧ b < s.heap.objs.size) :
    Inv (X.blkH s H scope (compEnvC scope (cellsFrom (s.heap.objs.size + 1) scope.names (cloFrom X.env.cells scope.names [])) s.heap.objs.size X.env) fp) [] (wipe σ (own.map (·.2))) H { s with heap := pushCells (s.heap.push { cls := .type "dict", data := .dict #[] }) scope.names } := by
  have J := block_start I ok hN hfp
  have o := J.ok
  refine ⟨⟨o.mod, o.kind, o.glob, o.blt, o.above, o.inj, o.has, o.cab, o.hd, o.frames, o.stk, o.exf, o.bs, o.bsz, o.noex, o.exfs, o.funs, o.frf⟩, J.os, J.bare, J.base, J.loc, J.cell, J.free, J.freeC, ?_, J.hok, J.len⟩
  intro p hp
  rw [List.append_nil] at hp
  obtain ⟨e, n, nl, nf, nc⟩ := I.pin p (List.mem_append_left _ hp)
  refine ⟨pushCells_keeps _ _ _ _ (Heap.get?_push_of_some _ e), n, Nat.ne_of_lt (Heap.lt_size e), fun hm => ?_, nc⟩
  rcases List.mem_cons.mp (I.stkSub p.1 hm) with z | z
  · exact nl z
  · exact nf z
variable {elt tg iter : Expr} {ifs : List Expr} {scope : Scope} {pos : Pos} {g : TG} {tt : TT} {te : TE} {vs : List Nat} {Q : VK}
/-- the block's loop, in the block's own context Y -/
theorem hot_loop {Y : Cx} {it D : Addr} {fp : List Addr} {tn : Nat → Heap → Prop} {J : It} {R : Result → Shared → Prop} {W : Nat → Nat → Hp → Prop} {m : Nat} (hY : Y.ex = fp) (hot : HotC Y) (apart : ∀ b ∈ fp, ∀ p ∈ Y.pn, p.1 ≠ b) (T : TurnH Y.prog Y.w Y.K tg J fp it tn)
    (pg : PG Y tg g) (pt : PTs Y ifs tt) (pe : PE Y elt te) (hx : Y.xe = fun _ _ => False)
    (turn : ∀ i m H, W i m H → (J.stop i H ∧ Q (.ref D) H) ∨ (J.go i H ∧ ∃ Nx : Hp → Prop, (∀ H', Nx H' → ∃ m', m' < m ∧ W (i + 1) m' H') ∧ ∀ x H', J.yld i H x H' → g x (wipe σ vs) H' fun σ2 H2 => wipe σ2 vs = wipe σ vs ∧ tt σ2 H2 fun b H3 =>
      if b = true then te σ2 H3 fun y H4 => ∃ acc, H4 D = some (.lst acc) ∧ acc.length < sizeLine ∧ Nx (upd H4 D (.lst (acc ++ [y]))) else Nx H3))
    (out : ∀ s' H', Inv Y [] (wipe σ vs) H' s' → Q (.ref D) H' → R (.ok .next) s') (I : Inv Y [] (wipe σ vs) H s) (st : tn 0 s.heap) (fr : ∀ b ∈ fp, H b = none) (w : W 0 m H) :
    codeAny (model Y.prog Y.w) Y.A (.compLoop (.ListComp elt [⟨tg, iter, ifs, 0⟩] scope pos) 0 (.ref it) (.ref D) Y.env) R s := by
  have free : ∀ {σ' : L2.St} {H' : Hp} {s' : Shared}, Inv Y [] σ' H' s' → (∀ b ∈ fp, H' b = none) → ∀ b ∈ fp, FpOk Y [] H' b := by
    intro σ' H' s' I' n b hb
    have hb' : b ∈ Y.ex := by rw [hY]; exact hb
    exact ⟨n b hb, (I'.ok.exf b hb').1, I'.ok.exfs b hb', .inl hb', fun x c e => (I'.ok.exf b hb').2 x c e, fun p hp => apart b hb p (by simpa using hp)⟩
  refine compLoop_any (fun k s' => ∃ i H', Inv Y [] (wipe σ vs) H' s' ∧ tn i s'.heap ∧ (∀ b ∈ fp, H' b = none) ∧ W i k H') ?_ m ⟨0, H, I, st, fr, w⟩
  rintro k s1 ⟨i, H1, I1, st1, fr1, w1⟩
  have nev : ∀ {α : Type} {t : Sem α} {P P' : α → Shared → Prop} {E : Value → Shared → Prop} {s' : Shared}, wpAny (model Y.prog Y.w) Y.A t P Y.xe s' → (∀ a z, P a z → P' a z) → wpAny (model Y.prog Y.w) Y.A t P' E s' := fun q k => by
    rw [hx] at q
    exact thnF q k
  rcases turn i k H1 w1 with ⟨stop, q⟩ | ⟨go, Nx, less, step⟩
  · refine thnF (T.done Y rfl rfl rfl hot i [] s1 _ H1 (fun _ _ => False) I1 (free I1 fr1) st1 stop) fun r s2 hr => ?_
    rw [hr.1]
    exact out s2 H1 hr.2 q
  refine thnF (T.item Y rfl rfl rfl hot i [] s1 _ H1 (fun _ _ => False) I1 (free I1 fr1) st1 go) fun r s2 hr => ?_
  obtain ⟨u, rfl, h2⟩ := hr
  refine thnF h2 fun _ s3 ⟨x, H3, I3, rx, y3, st3, fr3⟩ => ?_
  -- the iterator's objects are pinned while the item is worked on
  have P3 := I3.pinned (free I3 fr3) (T.obj _ _ st3)
  have back : ∀ {s' : Shared} {σ' : L2.St} {H' : Hp}, Inv Y ([] ++ pinsAt fp s3.heap) σ' H' s' → wipe σ' vs = wipe σ vs → Nx H' → ∃ k', k' < k ∧ ∃ i H', Inv Y [] (wipe σ vs) H' s' ∧ tn i s'.heap ∧ (∀ b ∈ fp, H' b = none) ∧ W i k' H' := by
    intro s' σ' H' I' ew nx
    obtain ⟨k', lt, w'⟩ := less H' nx
    have at_ : ∀ b ∈ fp, ∀ o, s3.heap.get? b = some o → s'.heap.get? b = some o ∧ H' b = none := fun b hb o e => by
      have z := I'.pin (b, o) (List.mem_append_right _ (List.mem_append_right _ (mem_pinsAt hb e)))
      exact ⟨z.1, z.2.1⟩
    refine ⟨k', lt, i + 1, H', (I'.unpinned (pins := [])).weak (by rw [← ew, wipe_length]) fun j v e => ?_, T.keep _ _ _ st3 fun b hb o e => (at_ b hb o e).1, fun b hb => ?_, w'⟩
    · rw [← ew] at e
      exact (wipe_some e).1
    · obtain ⟨o, e, _⟩ := T.obj _ _ st3 b hb
      exact (at_ b hb o e).2
  refine nev (pg.run _ s3 _ H3 x u _ P3 rx (step x H3 y3)) fun _ s4 ⟨σ4, H4, I4, ew, q4⟩ => ?_
  refine nev (pt.run _ s4 σ4 H4 _ I4 q4) fun b s5 ⟨H5, I5, q5⟩ => ?_
  cases b with
  | false =>
    simp only [Bool.false_eq_true, if_false] at q5 ⊢
    exact back I5 ew q5
  | true =>
    simp only [if_true] at q5 ⊢
    refine nev (pe.run _ s5 σ4 H5 _ I5 q5) fun z s6 ⟨yv, H6, I6, rz, acc, hD, hz, nx⟩ => ?_
    exact app_ok I6 hD hz rz fun s7 I7 => back I7 ew nx
/-- [elt for tg in iter if ..] where an exception is handled -/
theorem pe_lcH {own : List (Str × Nat)} {wi : TI} (hot : HotC X) (hN : X.N.Nodup) (hi : PIH X tg iter wi) (ok : BlkOk X.N X.env.scope scope own)
    (hg : ∀ (s : Shared) (H : Hp) (C : Addr) (cl : List (Str × Addr)) (fp : List Addr), PG (X.blkH s H scope (compEnvC scope cl C X.env) fp) tg g) (ht : ∀ (s : Shared) (H : Hp) (C : Addr) (cl : List (Str × Addr)) (fp : List Addr), PTs (X.blkH s H scope (compEnvC scope cl C X.env) fp) ifs tt)
    (he : ∀ (s : Shared) (H : Hp) (C : Addr) (cl : List (Str × Addr)) (fp : List Addr), PE (X.blkH s H scope (compEnvC scope cl C X.env) fp) elt te) (hs : ∀ x, foldedSetIterable iter X.env x = pure x := by intro _; rfl) :
    PE X (.ListComp elt [⟨tg, iter, ifs, 0⟩] scope pos) (tLc wi g tt te (own.map (·.2))) := by
  constructor
  intro pins s σ H Q I h
  rw [eval_ListComp]
  have captured : ∀ y ∈ scope.names, y.2 = .free → ∃ c, X.env.cells.lookup y.1 = some c := fun y hy e => I.ok.has _ (ok.free y hy e)
  refine wpAny_comprehension_free rfl hs (closure_ok captured) ok.kind (fun y hy e => by rw [ok.uniq y hy, e]) (thn (hi.run pins s σ H _ I h) fun _ s1 q1 => thn q1 fun itv s2 q2 => ?_)
  obtain ⟨it, fp, tn, J, H2, rfl, I2, T, st2, fp2, q⟩ := q2
  refine wpAny_newObj_type (newEnv_comp ?_) (by show 0 ≤ sizeLine; decide)
  have fresh : H2 s2.heap.objs.size = none := I2.hok.fresh (Nat.le_refl _)
  obtain ⟨W, ⟨m, w⟩, turn⟩ := q s2.heap.objs.size fresh
  let L : Obj := { cls := .type "list", data := .seq ([] : List Value).toArray }
  have grown : ∀ b o, s2.heap.get? b = some o → (s2.heap.push L).get? b = some o := fun b o e => Heap.get?_push_of_some _ e
  have I3 : Inv X pins σ (upd H2 s2.heap.objs.size (.lst [])) { s2 with heap := s2.heap.push L } := I2.laid (t' := s2.toks) grown (Nat.le_refl _) ⟨Nat.zero_le _, [], 0, .nil, Heap.get?_push_size _ rfl⟩
  have fp3 : ∀ b ∈ fp, FpOk X pins (upd H2 s2.heap.objs.size (.lst [])) b ∧ b < (s2.heap.push L).objs.size := fun b hb => by
    obtain ⟨o, e, _⟩ := T.obj _ _ st2 b hb
    have lt := Heap.lt_size e
    refine ⟨⟨?_, (fp2 b hb).2⟩, by rw [Heap.size_push]; exact Nat.lt_succ_of_lt lt⟩
    rw [upd_ne (Nat.ne_of_lt lt)]
    exact (fp2 b hb).1
  have I4 := blk_hot I3 ok hN fp3
  have st4 : tn 0 (pushCells ((s2.heap.push L).push { cls := .type "dict", data := .dict #[] }) scope.names) := T.keep _ _ _ st2 fun b _ o e => pushCells_keeps _ _ _ _ (Heap.get?_push_of_some _ (grown b o e))
  have loop := hot_loop (Y := X.blkH { s2 with heap := s2.heap.push L } (upd H2 s2.heap.objs.size (.lst [])) scope (compEnvC scope (cellsFrom ((s2.heap.push L).objs.size + 1) scope.names (cloFrom X.env.cells scope.names [])) (s2.heap.push L).objs.size X.env) fp) (iter := iter) (scope := scope) (pos := pos)
    (R := compPost (model X.prog X.w) X.A X.xe none (EP X pins σ Q) (.ref s2.heap.objs.size) (s2.heap.push L).objs.size) rfl hot (fun b hb p hp => (fp3 b hb).1.2.2.2.2.2 p (List.mem_append_left _ hp)) T (hg _ _ _ _ _) (ht _ _ _ _ _) (he _ _ _ _ _) rfl turn
    (fun s5 H5 I5 q5 => ?_) I4 st4 (fun b hb => (fp3 b hb).1.1) w
  · exact codeAny_compStart_list loop (T.self X.A 0 _ _ _ st4 loop)
  · have I6 : Inv X pins σ H5 s5 := I3.call' (ch := fp) I5.os I5.base I5.hok I5.bare fun b hb => ⟨(fp3 b hb).1.2.2.2.1, (fp3 b hb).1.2.1, (fp3 b hb).1.2.2.2.2.1, (fp3 b hb).1.2.2.2.2.2⟩
    have nC : H5 (s2.heap.push L).objs.size = none := I5.free
    obtain ⟨mm, hn, _⟩ := I5.loc
    obtain ⟨f0, f1, f2, f3, f4, f5⟩ := I3.fpOk (H' := H5) (Nat.le_refl _) nC
    exact ⟨mm, hn, fun h6 sb => ⟨.ref s2.heap.objs.size, H5, I6.turned (t' := s5.toks) (fun b o hb e => (sb.2 b hb).trans e) f0 f1 f3 f4 f5, rfl, q5⟩⟩
end
end G

set_option Elab.async false
set_option linter.all false
set_option autoImplicit false
set_option maxRecDepth 100000
set_option maxHeartbeats 2000000
namespace G
open PySem PySem.Spec PySem.Calls L2
section
variable {X : Cx} {cl : Nat → Addr} {a b c e o : Expr} {es : List Expr} {fe fa fb fc : EF} {pos p pos' : Pos} {r : AF}
/-! ### the caught exception, by its slot -/
theorem xv_at {Γ : Gm} {O : Og} {ms : List Addr} {F H : Hp} {σ : L2.St} {δ : List SV} {μ : List MO} {i C : Nat} {f : Str} {d : D} (R : SR Γ O ms F H σ δ μ) (e : δ[i]? = some (.xv C f d)) :
    ∃ a oe dx y, Γ.xp = some (a, oe) ∧ σ[i]? = some (some (.ref a)) ∧ Zc (.ref (Γ.cl C)) (some dx) oe ∧ (∃ vs, oe.data = .fields vs) ∧ F dx = some (exd dx [(f, y)]) ∧ Has Γ ms F y d := by
  obtain ⟨a, oe, dx, y, e1, e2, e3, e4, e5⟩ := R.er.ok i _ e
  exact ⟨a, oe, dx, y, e1, e2, e3.1, e3.2, e4, e5⟩
theorem xp_pin {a : Addr} {oe : Obj} (h : (gm X cl).xp = some (a, oe)) : (a, oe) ∈ X.pn := by
  have h : (bif X.calm then none else X.pn.head?) = some (a, oe) := h
  cases hc : X.calm with
  | true => rw [hc] at h; cases h
  | false => rw [hc] at h; exact List.mem_of_head? h
/-- err.f -/
def eXf (i : Nat) (n : Str) (okC : Nat → Bool) : EF := fun δ μ => match δ[i]? with
  | some (.xv C f d) => if f = n ∧ okC C = true then some (d, μ) else none
  | _ => none
theorem de_xf {i : Nat} {n : Str} {okC : Nat → Bool} (hv : PE X e (tVar i)) (hok : ∀ C, okC C = true → XfC X.K (cl C) ∧ PySem.W.findIn X.K (.ref (cl C)) n = some none) (hb : attributeBase e n X.env (eval e X.env) = eval e X.env := by rfl) :
    DE X cl (.Attribute e n pos) (eXf i n okC) := by
  constructor
  constructor
  rintro pins s σ H Q I ⟨O, ms, F, δ, μ, d, μ', R, ev, k⟩
  unfold eXf at ev
  split at ev
  · rename_i C f d' hd
    split at ev
    · rename_i hcond
      obtain ⟨rfl, hC⟩ := hcond
      cases ev
      obtain ⟨a, oe, dx, y, e1, e2, e3, ⟨vs, e3'⟩, e4, e5⟩ := xv_at R hd
      obtain ⟨T, hno⟩ := hok C hC
      refine attr_of hb (thn (hv.run pins s σ H (fun v H1 => v = .ref a ∧ H1 = H) I ⟨_, e2, rfl, rfl⟩) fun u s1 ⟨x, H1, I1, rx, ex, eH⟩ => ?_)
      subst ex; subst eH
      obtain rfl : u = Value.ref a := rx
      obtain ⟨ha, _⟩ := I1.pin (a, oe) (List.mem_append_left _ (xp_pin e1))
      obtain ⟨mA, hns, hr⟩ := exd_at I1.hok (R.hr.sub _ _ e4)
      obtain ⟨od, ho, hl⟩ := lookIn_ns hns
      obtain ⟨u, hu, ru⟩ := RelO.some_of (v := y) (o := mA f) (by have := hr f; simpa using this)
      have J : PySem.W.InstAt s1.heap a oe (cl C) (some od) := ⟨ha, e3.1, by unfold PySem.W.notCls; rw [e3'] <;> rfl, by rw [e3.2]; exact ho⟩
      exact HandSPX.exc_get I1.kIn J T.ga T.gg T.exC (PySem.W.findObj_own T.hdC hno rfl (by rw [hl, hu])) (handed_of ru) ⟨y, H1, I1.tok _, ru, k y H1 ms F R.hr (Stp.refl _ _ _) e5⟩
    · cases ev
  · cases ev
/-- isinstance(err, C), isinstance(err, (C, D)) -/
def eXis (i : Nat) (kit : Nat → D → Option Bool) (fc : EF) : EF := fun δ μ => match δ[i]? with
  | some (.xv C f d) => match fc δ μ with
    | some (dc, μ1) => match kit C dc with
      | some b => some (.bl b, μ1)
      | none => none
    | none => none
  | _ => none
def clsD : List D → Option (List Nat)
  | [] => some []
  | .cls n :: ds => match clsD ds with
    | some ns => some (n :: ns)
    | none => none
  | _ => none
theorem clsD_ok {Γ : Gm} {ms : List Addr} {F : Hp} : ∀ {ds : List D} {ns : List Nat} {vs : List V}, clsD ds = some ns → HasL Γ ms F vs ds → vs = ns.map fun n => V.ref (Γ.cl n)
  | [], bs, vs, e, h => by cases e; cases h; rfl
  | d :: ds, bs, vs, e, ⟨w, ws, hv, h1, h2⟩ => by
    subst hv
    cases d with
    | cls b =>
      unfold clsD at e
      split at e
      · rename_i bs' e'
        cases e
        rw [show w = .ref (Γ.cl b) from h1, clsD_ok e' h2]; rfl
      · cases e
    | _ => cases e
theorem pairCls (cl : Nat → Addr) : ∀ ns : List Nat, Paired ClsV (ns.map fun n => V.ref (cl n)) (ns.map fun n => Value.ref (cl n))
  | [] => .nil
  | n :: ns => .cons (.own (cl n)) (pairCls cl ns)
def kitOr (kit : Nat → Nat → Option Bool) (C : Nat) : List Nat → Option Bool
  | [] => some false
  | n :: ns => match kit C n with
    | some true => some true
    | some false => kitOr kit C ns
    | none => none
theorem kitOr_ok {K : PySem.W.Frag} {kit : Nat → Nat → Option Bool} {C : Nat} (hk : ∀ n b, kit C n = some b → PySem.W.kitOne K (.ref (cl C)) (.ref (cl n)) = some b) : ∀ {ns : List Nat} {b : Bool}, kitOr kit C ns = some b → PySem.W.kitAny K (.ref (cl C)) (ns.map fun n => Value.ref (cl n)) = some b
  | [], b, h => by cases h; rfl
  | n :: ns, b, h => by
    unfold kitOr at h
    show PySem.W.kitAny K (.ref (cl C)) (Value.ref (cl n) :: ns.map _) = some b
    unfold PySem.W.kitAny
    split at h
    · rename_i e; cases h; rw [hk n _ e]
    · rename_i e; rw [hk n _ e]; exact kitOr_ok hk h
    · cases h
/-- of a class, or of a tuple of them -/
def kitX (kit : Nat → Nat → Option Bool) (C : Nat) : D → Option Bool
  | .cls n => kit C n
  | .tup ds => match clsD ds with
    | some (n :: ns) => kitOr kit C (n :: ns)
    | _ => none
  | _ => none
theorem de_xis {i : Nat} {kit : Nat → Nat → Option Bool} (hg : Gl X "isinstance") (hm : X.mg "isinstance" = none) (hv : PE X e (tVar i)) (hc : DE X cl c fc)
    (hk : ∀ C n b, kit C n = some b → L2.ExcC X.K (cl C) ∧ PySem.W.kitOne X.K (.ref (cl C)) (.ref (cl n)) = some b)
    (he : starEach (e :: [c]) X.env = (false, eval e X.env) :: starEach [c] X.env := by rfl) (he2 : starEach (c :: []) X.env = (false, eval c X.env) :: starEach [] X.env := by rfl) (hpl : (backTo pos (starEach [c] X.env)).any (·.1) = false := by rfl) :
    DE X cl (.Call (.Name "isinstance" p) [e, c] [] pos) (eXis i (kitX kit) fc) := by
  -- the rule of the call, over this context's pin
  have rule : CallR X (.builtin "isinstance") (fun xs H Q => ∃ (a : Addr) (oe : Obj) (C : Nat) (dx : Addr) (fs : List (Str × V)) (w : V) (bb : Bool), (a, oe) ∈ X.pn ∧ xs = [.ref a, w] ∧ Zc (.ref (cl C)) (some dx) oe ∧ (∃ vs, oe.data = .fields vs) ∧ H dx = some (exd dx fs) ∧ L2.ExcC X.K (cl C) ∧
      ((∃ n, w = .ref (cl n) ∧ PySem.W.kitOne X.K (.ref (cl C)) (.ref (cl n)) = some bb) ∨ (∃ (tp : Addr) (ns : List Nat), w = .ref tp ∧ Tp X.K H tp (ns.map fun n => V.ref (cl n)) ∧ PySem.W.kitAny X.K (.ref (cl C)) (ns.map fun n => Value.ref (cl n)) = some bb)) ∧ Q (.bl bb) H) := by
    intro pins s σ H xs us Q I rv h
    obtain ⟨a, oe, C, dx, fs, w, bb, hp, rfl, hz, ⟨vs, hf⟩, hd, T, hw, q⟩ := h
    obtain ⟨u1, u2, rfl, r1, r2⟩ := vals2 rv
    obtain rfl : u1 = Value.ref a := r1
    obtain ⟨hget, _⟩ := I.pin (a, oe) (List.mem_append_left _ hp)
    obtain ⟨od, h2⟩ := (I.hok dx _ hd).2.1
    have J : ∃ ox od, PySem.W.InstAt s.heap a ox (cl C) (some od) := ⟨oe, od, hget, hz.1, by unfold PySem.W.notCls; rw [hf] <;> rfl, by rw [hz.2]; exact h2⟩
    rcases hw with ⟨n, rfl, e⟩ | ⟨tp, ns, rfl, ht, e⟩
    · obtain rfl : u2 = Value.ref (cl n) := r2
      exact PySem.W.kia_one (kitx_exc T) I.kIn J e (fun z => nomatch z) fun tk => ⟨.bl bb, H, I.tok tk, rfl, q⟩
    · obtain rfl : u2 = Value.ref tp := r2
      have done : ∀ {ob : Obj} {its : List Value} {n : Nat}, s.heap.get? tp = some ob → ob.cls = .type "tuple" → ob.data = .seq its.toArray n → Vals (ns.map fun n => V.ref (cl n)) its → wpAny (model X.prog X.w) X.A (call (.builtin "isinstance") [.ref a, .ref tp]) (EP X pins σ Q) X.xe s := fun {ob its n} h1 h3 h4 rvs => by
        have e3 := ClsV.all (pairCls cl ns) rvs
        subst e3
        obtain ⟨oc, od', dt, sl⟩ := ob
        dsimp only at h3 h4
        subst h3; subst h4
        exact PySem.W.kia_tup (kitx_exc T) I.kIn J h1 e (fun z => nomatch z) fun tk => ⟨.bl bb, H, I.tok tk, rfl, q⟩
      rcases ht with ht | ⟨ob, its, n, hl, hcl, hd2, _, rvs⟩
      · obtain ⟨_, its, rvs, ob, h1, h3, n, h4⟩ := I.hok tp _ ht
        exact done h1 h3 h4 rvs
      · exact done (I.kIn _ _ hl) hcl (by rw [hd2]) (by simpa using rvs)
  refine ⟨(pe_callB rule hg hm (by decide +kernel) (pa_cons hv (pa_cons hc.p pa_nil he2) he) (by decide) (by decide) he hpl).weak fun σ H Q ⟨O, ms, F, δ, μ, d, μ', R, ev, k⟩ => ?_⟩
  unfold eXis at ev
  split at ev
  · rename_i C f d' hd
    split at ev
    · rename_i dc μ1 e1
      split at ev
      · rename_i bb hkit
        cases ev
        obtain ⟨a, oe, dx, y, x1, x2, x3, x3', x4, x5⟩ := xv_at R hd
        refine ⟨_, x2, ?_⟩
        refine tE.seq R e1 fun w H1 ms1 F1 R1 s1 q1 => ?_
        have hdx := R1.hr.sub _ _ (s1.fsub _ _ x4)
        refine ⟨a, oe, C, dx, _, w, bb, xp_pin x1, rfl, x3, x3', hdx, ?_⟩
        unfold kitX at hkit
        split at hkit
        · rename_i n
          obtain ⟨T, e⟩ := hk C n bb hkit
          exact ⟨T, .inl ⟨n, q1, e⟩, k _ H1 ms1 F1 R1.hr s1 rfl⟩
        · rename_i ds
          split at hkit
          · rename_i n0 ns hns
            obtain ⟨tp, xs, rfl, hs, hl⟩ := q1
            have e := clsD_ok hns hl
            subst e
            have any : PySem.W.kitAny X.K (.ref (cl C)) ((n0 :: ns).map fun n => Value.ref (cl n)) = some bb := kitOr_ok (fun n b h => (hk C n b h).2) hkit
            have T : L2.ExcC X.K (cl C) := by
              unfold kitOr at hkit
              split at hkit
              · rename_i z; exact (hk C n0 _ z).1
              · rename_i z; exact (hk C n0 _ z).1
              · cases hkit
            exact ⟨T, .inr ⟨tp, n0 :: ns, rfl, Tp.same R1.hr.sub hs, any⟩, k _ H1 ms1 F1 R1.hr s1 rfl⟩
          · cases hkit
        · cases hkit
      · cases ev
    · cases ev
  · cases ev
end
end G

set_option Elab.async false
set_option linter.all false
set_option autoImplicit false
set_option maxRecDepth 100000
set_option maxHeartbeats 2000000
namespace G
open PySem PySem.Spec PySem.Calls L2 L2H
/-! ### own functions, called where an exception is handled -/
theorem _root_.L2H.RoomH.un65 {k : Nat} {A : Around} (r : RoomH k A) : A.units + 65 < cLine := by have := r.un; omega
theorem _root_.L2H.RoomH.units {k : Nat} {A : Around} (r : RoomH k A) : A.units + 64 < cLine := by have := r.un; omega
theorem roomH_suite {X : Cx} {k : Nat} {a : Addr} {pn : List (Addr × Obj)} (r : Room k X.A) : RoomH k (X.suite a pn).A := ⟨r.dp, r.un⟩
theorem pass0A {X : Cx} {E : L2.St → XK} : ∀ σ, PassesAt CX0 X σ (E σ) := fun _ _ _ _ _ _ _ h => h.elim
section
variable {P : Program} {w : World} {K : PySem.W.Frag} {mg : Str → Option Value} {base : Heap} {cl : Nat → Addr}
theorem fnH_ok {x qual : Str} {st : Stmt} {f : Addr} {fd : FuncData} {N ps : List Str} {k n : Nat} {body : BF} (F : Fun K x qual st f fd) (S : FnScope N ps (defScope st)) (hn : ps.length = n)
    (hB : ∀ (cdv : Value) (A : Around) (outer : List Env) (s : Shared) (H : Hp) (E : XK) (p : Addr × Obj), HotC (cxH CX0 P w K mg base N qual (defScope st) f cdv A outer s H E p) → RoomH k (A.deeper (PyProof.Rows.envOfC qual (defScope st) s.heap.objs.size f cdv)) →
      DB (cxH CX0 P w K mg base N qual (defScope st) f cdv A outer s H E p) cl (defBody st) body) : FnH P w K mg base CX0 (k + 1) f fd ps (spF (gk K cl) n (runB N.length body)) := by
  obtain ⟨oc, od, kV, doc, pm, an, cdv, ct, osl, rfl, lk, hcd⟩ := F.ex
  refine fn_ofH lk hcd S (fun vs H Q E h => ?_) fun A outer s H vs Q E p hot hr h => ?_
  · obtain ⟨ms, F, ds, μ, d, μ', r, q, hl, _⟩ := h
    rw [q.length, hl, hn]
  · have hotC : HotC (cxH CX0 P w K mg base N qual (defScope st) f cdv A outer s H E p) := ⟨p, hot, List.mem_cons_self⟩
    refine ⟨tS ⟨K, cl, some p⟩ (W0 (cxH CX0 P w K mg base N qual (defScope st) f cdv A outer s H E p)) body, (hB cdv A outer s H E p hotC hr).p, ?_⟩
    obtain ⟨ms, F, ds, μ, d, μ', r, q, hl, ev, k⟩ := h
    have st0 : SR ⟨K, cl, some p⟩ ⟨ms, F, H⟩ ms F H (L2.start N vs) (startD N.length ds) μ := SR.start r.xp q.xp
    unfold runB at ev
    split at ev
    · rename_i δ' μ2 e
      cases ev
      exact ⟨⟨ms, F, H⟩, ms, F, _, μ, _, st0, e, rfl, fun σ' H' ms' F' R' x => k .non H' ms' F' R'.hr.xp R'.st rfl⟩
    · rename_i d' μ2 e
      cases ev
      exact ⟨⟨ms, F, H⟩, ms, F, _, μ, _, st0, e, rfl, fun v H' ms' F' r' s' q' => k v H' ms' F' r'.xp s' q'.xp⟩
    · cases ev
end
section
variable {X : Cx} {cl : Nat → Addr} {e : Expr} {es : List Expr} {pos p : Pos} {r : AF} {k n : Nat} {f : Addr} {fd : FuncData} {ps : List Str} {fn : FF} {x : Str}
theorem de_callH (Gf : FnH X.prog X.w X.K X.mg X.base CX0 k f fd ps (spF (gk X.K cl) n fn)) (hot : HotC X) (hr : RoomH k X.A) (hg : Gl X x) (hm : X.mg x = some (.ref f)) (hk : PySem.W.keepIn X.K (.ref f) = true) (hb : Binds X.K fd ps [])
    (hn : (e :: es).length = n)
    (ha : DA X cl (e :: es) r) (hra : ∀ δ μ xs μ1, r δ μ = some (xs, μ1) → xs.length = (e :: es).length) (hdb : (x == ("__debug__" : Str)) = false := by decide) (he : starEach (e :: es) X.env = (false, eval e X.env) :: starEach es X.env := by rfl) (hpl : (backTo pos (starEach es X.env)).any (·.1) = false := by rfl) :
    DE X cl (.Call (.Name x p) (e :: es) [] pos) (eFn fn [] r) := ⟨(pe_callH (E := fun _ => E0) Gf hr hot hg hm hk hb (fun σ => pass0A (E := fun _ => E0) σ) ha.p hdb he hpl).weak fun σ H Q ⟨O, ms, F, δ, μ, d, μ', R, ev, k⟩ => by
  obtain ⟨xs, μ1, e1, ev⟩ := aThen_some ev
  refine tA.seq R e1 fun vs H1 ms1 F1 R1 s1 q1 => ?_
  refine ⟨ms1, F1, xs, μ1, d, μ', R1.hr.xp, q1.xp, by rw [hra _ _ _ _ e1]; exact hn, by rw [List.append_nil] at ev; exact ev, fun v H' ms' F' r s q => k v H' ms' F' r.xp (s1.trans' R1.hr s) q.xp⟩⟩
/-! ### a comprehension there -/
structure DIH (X : Cx) (cl : Nat → Addr) (tg e : Expr) (f : IF) : Prop where
  p : PIH X tg e (tI (gm X cl) f)
theorem _root_.L2H.PIH.weak {X : Cx} {tg e : Expr} {t t' : TI} (h : PIH X tg e t) (k : ∀ σ H R, t' σ H R → t σ H R) : PIH X tg e t' := ⟨fun pins s σ H R I q => h.run pins s σ H R I (k σ H R q)⟩
theorem dih_str {tg : Expr} {fe : EF} (h : DE X cl e fe) : DIH X cl tg e (iS fe) := ⟨(pi_strH h.p).weak fun σ H R ⟨O, ms, F, δ, μ, ds, μ', S, ev, k⟩ => by
  obtain ⟨d1, μ1, e1, ev⟩ := eThen_some ev
  refine tE.seq S e1 fun v H1 ms1 F1 R1 s1 q1 => ?_
  split at ev
  · cases ev
    exact ⟨_, q1, k _ H1 ms1 F1 R1.hr s1 (yld_str _)⟩
  · cases ev⟩
theorem dn_lcH {elt tg iter : Expr} {ifs : List Expr} {scope : Scope} {own : List (Str × Nat)} {pos : Pos} {fi : IF} {g : GF} {tt : TF} {te : EF} {ix : List Nat} (hot : HotC X) (hN : X.N.Nodup) (hi : DIH X cl tg iter fi) (ok : BlkOk X.N X.env.scope scope own)
    (hg : ∀ (s : Shared) (H : Hp) (C : Addr) (cls : List (Str × Addr)) (fp : List Addr), DG (X.blkH s H scope (compEnvC scope cls C X.env) fp) cl tg g ix) (ht : ∀ (s : Shared) (H : Hp) (C : Addr) (cls : List (Str × Addr)) (fp : List Addr), DTs (X.blkH s H scope (compEnvC scope cls C X.env) fp) cl ifs tt)
    (he : ∀ (s : Shared) (H : Hp) (C : Addr) (cls : List (Str × Addr)) (fp : List Addr), DE (X.blkH s H scope (compEnvC scope cls C X.env) fp) cl elt te) (hix : ∀ j ∈ ix, j ∈ own.map (·.2) := by decide) (hs : ∀ x, foldedSetIterable iter X.env x = pure x := by intro _; rfl) :
    DN X cl (.ListComp elt [⟨tg, iter, ifs, 0⟩] scope pos) (nLc fi g tt te (own.map (·.2))) := ⟨(pe_lcH hot hN hi.p ok (g := tG (gm X cl) g ix) (tt := tT (gm X cl) tt) (te := tE (gm X cl) te) (fun s H C cls fp => (hg s H C cls fp).p) (fun s H C cls fp => (ht s H C cls fp).p) (fun s H C cls fp => (he s H C cls fp).p) hs).weak fun σ H Q h => lc_run hix h⟩
/-- an own class as a value -/
theorem de_cls {C : Nat} (hg : Gl X x) (h : X.mg x = some (.ref (cl C))) (hd : (x == ("__debug__" : Str)) = false := by decide) : DE X cl (.Name x pos) (eC (.cls C)) := de_c (v := .ref (cl C)) (pe_glob hg h rfl hd) fun _ _ => rfl
end
end G

set_option Elab.async false
set_option linter.all false
set_option autoImplicit false
set_option maxRecDepth 100000
set_option maxHeartbeats 2000000
namespace G
open PySem PySem.Spec PySem.Calls L2 PyProof.Rows
/-! ### enumerate of a list or a tuple, from a count on -/
def SqX (K : PySem.W.Frag) : Bool → Hp → Addr → List V → Prop
  | false => SqL K
  | true => SqT K
def ItX (h : Heap) : Bool → Addr → Addr → Nat → Prop
  | false => h.IsListIter
  | true => h.IsTupleIter
section
variable {X : Cx} {pins : List (Addr × Obj)} {σ : L2.St} {H : Hp} {s : Shared} {a e it : Addr} {i : Nat} {xs : List V} {t : Bool} {c : Int}
theorem ItX.at {h h' : Heap} (x : ItX h t it a i) (k : ∀ o, h.get? it = some o → h'.get? it = some o) : ItX h' t it a i := by
  cases t with
  | false => exact Heap.IsListIter.at x k
  | true => exact Heap.IsTupleIter.at x k
theorem ItX.obj {h : Heap} (x : ItX h t it a i) : ∃ o vs, h.get? it = some o ∧ o.data = .fields vs := by
  cases t with
  | false => obtain ⟨o, ho, _, hd⟩ := x; exact ⟨o, _, ho, hd⟩
  | true => obtain ⟨o, ho, _, hd⟩ := x; exact ⟨o, _, ho, hd⟩
theorem seqX_inj {ys : List V} (I : Inv X pins σ H s) (h : SqX X.K t H a xs) (g : SqX X.K t H a ys) : xs = ys := by
  cases t with
  | false => exact I.list_inj h g
  | true => exact I.tuple_inj h g
theorem seqX_at (I : Inv X pins σ H s) (q : SqX X.K t H a xs) : ∃ its : List Value, Vals xs its ∧ (∃ o n, s.heap.get? a = some o ∧ o.data = .seq its.toArray n) ∧
    (∀ {A : Around} {it : Addr}, A.handled = none → a ≠ it → Draws X.prog X.w A it [it, a] its.toArray.size (fun i v => its.toArray[i]? = some v) (fun i h => ItX h t it a i ∧ ∃ o n, h.get? a = some o ∧ s.heap.get? a = some o ∧ o.data = .seq its.toArray n)) ∧
    Begins (.ref a) { cls := .type (if t then "tuple_iterator" else "list_iterator"), data := .fields #[.ref a, .int 0 0] } (fun h => ∀ o, s.heap.get? a = some o → h.get? a = some o) := by
  cases t with
  | false =>
    obtain ⟨its, rv, p, hz⟩ := I.list q
    have hl := p.isList
    obtain ⟨o, ho, ex, n, hd⟩ := id hl
    refine ⟨its, rv, ⟨o, n, ho, hd⟩, fun {A it} hh hne => ?_, ?_⟩
    · have D := Draws.list (prog := X.prog) (w := X.w) (A := A) hh it a hne its.toArray
      have up : ∀ i h, (ItX h false it a i ∧ ∃ o n, h.get? a = some o ∧ s.heap.get? a = some o ∧ o.data = .seq its.toArray n) → h.IsListIter it a i ∧ h.IsList a its.toArray := fun i h z => by
        obtain ⟨z1, o', n', z2, z3, z4⟩ := z
        rw [ho] at z3; cases z3
        exact ⟨z1, o, z2, ex, n', z4⟩
      have dn : ∀ i h, h.IsListIter it a i → (∀ o, s.heap.get? a = some o → h.get? a = some o) → ItX h false it a i ∧ ∃ o n, h.get? a = some o ∧ s.heap.get? a = some o ∧ o.data = .seq its.toArray n := fun i h z k => ⟨z, o, n, k o ho, ho, hd⟩
      refine ⟨fun i h z => D.live i h (up i h z), fun i h h' z k => ⟨?_, ?_⟩, fun i s2 Q E hi z hQ => ?_, fun s2 Q E z hE => D.done s2 Q E (up _ _ z) hE⟩
      · exact ItX.at z.1 fun o e => k it (by simp) o e
      · obtain ⟨o', n', z2, z3, z4⟩ := z.2
        exact ⟨o', n', k a (by simp) _ z2, z3, z4⟩
      · refine D.item i s2 Q E hi (up _ _ z) fun x h' tk px st' sb => hQ x h' tk px ⟨st'.1, ?_⟩ sb
        obtain ⟨o', n', z2, z3, z4⟩ := z.2
        exact ⟨o', n', (sb.2 a hne).trans z2, z3, z4⟩
    · have B := begins_list a its.toArray
      exact ⟨fun prog w A E s2 Q k q => B.iter prog w A E s2 Q ⟨o, k o ho, ex, n, hd⟩ q, fun h h' z k o e => k a o (z o e), B.free⟩
  | true =>
    obtain ⟨its, rv, p, hz⟩ := I.tuple q
    obtain ⟨o, ho, ex, n, hd⟩ := id p
    refine ⟨its, rv, ⟨o, n, ho, hd⟩, fun {A it} hh hne => ?_, ?_⟩
    · have D := Draws.tuple (prog := X.prog) (w := X.w) (A := A) hh it a hne its.toArray
      have up : ∀ i h, (ItX h true it a i ∧ ∃ o n, h.get? a = some o ∧ s.heap.get? a = some o ∧ o.data = .seq its.toArray n) → h.IsTupleIter it a i ∧ h.IsTuple a its.toArray := fun i h z => by
        obtain ⟨z1, o', n', z2, z3, z4⟩ := z
        rw [ho] at z3; cases z3
        exact ⟨z1, o, z2, ex, n', z4⟩
      refine ⟨fun i h z => D.live i h (up i h z), fun i h h' z k => ⟨?_, ?_⟩, fun i s2 Q E hi z hQ => ?_, fun s2 Q E z hE => D.done s2 Q E (up _ _ z) hE⟩
      · exact ItX.at z.1 fun o e => k it (by simp) o e
      · obtain ⟨o', n', z2, z3, z4⟩ := z.2
        exact ⟨o', n', k a (by simp) _ z2, z3, z4⟩
      · refine D.item i s2 Q E hi (up _ _ z) fun x h' tk px st' sb => hQ x h' tk px ⟨st'.1, ?_⟩ sb
        obtain ⟨o', n', z2, z3, z4⟩ := z.2
        exact ⟨o', n', (sb.2 a hne).trans z2, z3, z4⟩
    · have B := begins_tuple a its.toArray
      exact ⟨fun prog w A E s2 Q k q => B.iter prog w A E s2 Q ⟨o, k o ho, ex, n, hd⟩ q, fun h h' z k o e => k a o (z o e), B.free⟩
end
/-- the sequence at a as it stands at each turn, each item in a new pair behind its count -/
def IteS (K : PySem.W.Frag) (t : Bool) (a : Addr) (c : Int) : It :=
  ⟨fun i H => ∃ xs x, SqX K t H a xs ∧ xs[i]? = some x, fun i H v H' => ∃ T x, v = .ref T ∧ H T = none ∧ H' = upd H T (.tup [.int (c + (i : Nat)), x]) ∧ ∀ xs, SqX K t H a xs → xs[i]? = some x, fun i H => ∃ xs, SqX K t H a xs ∧ xs.length = i⟩
theorem turn_enumS {P : Program} {w : World} {K : PySem.W.Frag} {elts : List Expr} {kk : Nat} {tpos : Pos} (t : Bool) (a e it : Addr) (c : Int) :
    Turn P w K (.Tuple elts kk tpos) (IteS K t a c) [e, it] e (fun i h => (∃ old, IsEnum h e it (c + ((i : Nat) : Int)) old) ∧ ItX h t it a i ∧ e ≠ it) where
  mem := by simp
  obj := fun i h st b hb => by
    obtain ⟨⟨old, he⟩, hi, _⟩ := st
    obtain ⟨o, vs, ho, hd⟩ := hi.obj
    rcases (show b = e ∨ b = it by simpa using hb) with rfl | rfl
    · exact ⟨_, he, fun v q => nomatch q⟩
    · exact ⟨o, ho, fun v q => by rw [hd] at q; cases q⟩
  keep := fun i h h' st k => let ⟨⟨old, he⟩, hi, hne⟩ := st; ⟨⟨old, k e (by simp) _ he⟩, hi.at fun o q => k it (by simp) o q, hne⟩
  item := by
    rintro X rfl rfl rfl hc i pins s σ H E I hf ⟨⟨old, he⟩, hit, hne⟩ ⟨xs, x, hq, hx⟩
    obtain ⟨its, rv, ⟨oa, na, hoa, hda⟩, D, _⟩ := seqX_at I hq
    obtain ⟨oi, vi, hoi, hdi⟩ := hit.obj
    obtain ⟨u, hu, ru⟩ := rv.get hx
    have ai : a ≠ it := fun z => by rw [z, hoi] at hoa; cases hoa; rw [hdi] at hda; cases hda
    have ea : e ≠ a := fun z => by rw [← z] at hoa; cases he.symm.trans hoa; cases hda
    have hlt : i < its.toArray.size := by
      have := (List.getElem?_eq_some_iff.mp hu).1
      simpa using this
    have hel : e < s.heap.objs.size := Heap.lt_size he
    have hil : it < s.heap.objs.size := Heap.lt_size hoi
    refine wpAny_pyNext_enum_itemC (D (A := X.A.in1) (I.ok.hd hc) ai) he ⟨hit, oa, na, hoa, hoa, hda⟩ hlt hne (by simp [hne, ea]) fun x' h' tk px ho st' hT hsz hk => ?_
    have ex : x' = u := by
      have px' : its[i]? = some x' := by simpa using px
      rw [hu] at px'
      exact (Option.some.inj px').symm
    subst ex
    refine ⟨_, rfl, wpAny_letOwnedTupleGo_enum (s := { s with heap := h', toks := tk + 1 }) ho fun h'' he' sb => ?_⟩
    have hT2 : h''.get? s.heap.objs.size = some { cls := .type "tuple", data := .seq #[.int (c + (i : Int)) tk, x'] } := (sb.2 _ (Nat.ne_of_gt hel)).trans hT
    have new : ObjOk X.prog X.w (upd H s.heap.objs.size (.tup [.int (c + (i : Nat)), x])) h'' s.heap.objs.size (.tup [.int (c + (i : Nat)), x]) :=
      ⟨by show 2 ≤ sizeLine; decide, [.int (c + (i : Int)) tk, x'], .cons ⟨_, rfl⟩ (.cons ru .nil), ⟨_, hT2, rfl, _, rfl⟩⟩
    have I1 : Inv X pins σ (upd H s.heap.objs.size (.tup [.int (c + (i : Nat)), x])) { s with heap := h'', toks := tk + 1 } :=
      I.turnedNew (ch := [e, it]) (fun b ob hb q => (sb.2 b (fun z => hb (by simp [z]))).trans (hk b ob (fun z => hb (by simp [z])) (fun z => hb (by simp [z])) q)) hf (Nat.le_refl _) new
    refine ⟨.ref s.heap.objs.size, _, I1, rfl, ⟨_, x, rfl, I.hok.fresh (Nat.le_refl _), rfl, fun ys hy => by rw [seqX_inj I hy hq]; exact hx⟩, ⟨⟨x', ?_⟩, st'.1.at fun o q => (sb.2 it (Ne.symm hne)).trans q, hne⟩, fun b hb => ?_⟩
    · have e1 : c + ((i + 1 : Nat) : Int) = c + (i : Int) + 1 := by omega
      rw [e1]; exact he'
    · have hb' : b < s.heap.objs.size := by
        rcases (show b = e ∨ b = it by simpa using hb) with rfl | rfl
        · exact hel
        · exact hil
      rw [upd_ne (Nat.ne_of_lt hb')]
      exact (hf b hb).1
  done := by
    rintro X rfl rfl rfl hc i pins s σ H E I hf ⟨⟨old, he⟩, hit, hne⟩ ⟨xs, hq, hx⟩
    obtain ⟨its, rv, ⟨oa, na, hoa, hda⟩, D, _⟩ := seqX_at I hq
    obtain ⟨oi, vi, hoi, hdi⟩ := hit.obj
    have ai : a ≠ it := fun z => by rw [z, hoi] at hoa; cases hoa; rw [hdi] at hda; cases hda
    obtain ⟨f0, f1, f2, f3, f4, f5⟩ := hf it (by simp)
    have hn : its.toArray.size = i := by rw [List.size_toArray, ← rv.length]; exact hx
    exact wpAny_pyNext_enum_endD (D (A := X.A.in1) (I.ok.hd hc) ai) he (by rw [hn]; exact ⟨hit, oa, na, hoa, hoa, hda⟩) fun h' eb => ⟨rfl, I.turned (t' := s.toks) (fun b o hb q => eb b o hb q) f0 f1 f3 f4 f5⟩
  self := fun A i s Q E st h => let ⟨⟨_, he⟩, _⟩ := st; wpAny_pyIter_enum he h
def iEnS (K : PySem.W.Frag) (c : Int) (ta : TA) : TI := fun σ H R => ta σ H fun vs H1 => ∃ t a xs, vs = [.ref a] ∧ SqX K t H1 a xs ∧ R (IteS K t a c) H1
def iEnK (K : PySem.W.Frag) (ta tk : TA) : TI := fun σ H R => ta σ H fun vs H1 => tk σ H1 fun zs H2 => ∃ t a xs c, vs = [.ref a] ∧ zs = [.int c] ∧ -(2 ^ 63) ≤ c ∧ c < 2 ^ 63 ∧ SqX K t H2 a xs ∧ R (IteS K t a c) H2
/-- the enumeration's two objects are there -/
theorem enum_there {X : Cx} {pins : List (Addr × Obj)} {σ : L2.St} {H : Hp} {s : Shared} {R : It → Hp → Prop} {elts : List Expr} {kk : Nat} {tpos : Pos} {t : Bool} {a : Addr} {c : Int} {h' : Heap} {o : Obj} {E : Value → Shared → Prop} (I : Inv X pins σ H s)
    (ho : o = { cls := .type (if t then "tuple_iterator" else "list_iterator"), data := .fields #[.ref a, .int 0 0] }) (he : IsEnum h' (s.heap.objs.size + 1) s.heap.objs.size c .none) (hi : h'.get? s.heap.objs.size = some o) (hk : ∀ b o, s.heap.get? b = some o → h'.get? b = some o) (q : R (IteS X.K t a c) H) :
    wpAny (model X.prog X.w) X.A (pyIter (.ref (s.heap.objs.size + 1))) (PIE X pins σ (.Tuple elts kk tpos) R) E { s with heap := h' } := by
  refine wpAny_pyIter_enum he ?_
  have I2 : Inv X pins σ H { s with heap := h' } := I.kept (t' := s.toks) hk
  refine ⟨s.heap.objs.size + 1, [s.heap.objs.size + 1, s.heap.objs.size], _, _, H, rfl, I2, turn_enumS t a (s.heap.objs.size + 1) s.heap.objs.size c, ⟨⟨.none, by simpa using he⟩, ?_, Nat.succ_ne_self _⟩, fun b hb => ?_, q⟩
  · subst ho
    cases t with
    | false => exact ⟨_, hi, rfl, rfl⟩
    | true => exact ⟨_, hi, rfl, rfl⟩
  · have hle : s.heap.objs.size ≤ b := by
      rcases (show b = s.heap.objs.size + 1 ∨ b = s.heap.objs.size by simpa using hb) with rfl | rfl
      · exact Nat.le_add_right _ _
      · exact Nat.le_refl _
    exact I.fpOk hle (I.hok.fresh hle)
/-- enumerate(v) of what begins a walk -/
theorem enum_new0 {v : Value} {o : Obj} {W : Heap → Prop} (B : Begins v o W) :
    Meets (Builtin.«enumerate.__new__» ⟨[.type "enumerate", v], []⟩) (fun _ R s => W s.heap ∧
      R (.ok (.ret (.ref (s.heap.push o).objs.size))) { s with heap := (s.heap.push o).push { cls := .type "enumerate", data := .fields #[.none, .bool false, .ref s.heap.objs.size, rawInt 0, .none, .none] } }) :=
  .of_wp fun prog w A R s h => by
    obtain ⟨hp, gs, dr, tk, os⟩ := s
    obtain ⟨h1, h⟩ := h
    have known := sub_enumerate
    have walk : ∀ {A' : Around} {E : Value → Shared → Prop} {Q : Value → Shared → Prop}, Q (.ref hp.objs.size) ⟨hp.push o, gs, dr, tk, os⟩ → wpAny (model prog w) A' (pyIter v) Q E ⟨hp, gs, dr, tk, os⟩ :=
      fun z => B.iter prog w _ _ ⟨hp, gs, dr, tk, os⟩ _ h1 z
    wp_walk using walk
    refine wpAny_stack_any fun st => wpAny_pure ?_
    split
    · rename_i cc _ _ _ _ _
      cases (cc == Value.type "enumerate") <;> (wp_walk using walk; exact ⟨_, rfl, h⟩)
    · wp_walk using walk
      exact ⟨_, rfl, h⟩
theorem enum_begins0 {prog : Program} {w : World} {A : Around} {E : Value → Shared → Prop} {s : Shared} {v : Value} {o : Obj} {W : Heap → Prop} {Q : Value → Shared → Prop} (B : Begins v o W) (h1 : W s.heap)
    (h : ∀ h', IsEnum h' (s.heap.objs.size + 1) s.heap.objs.size 0 .none → h'.get? s.heap.objs.size = some o → (∀ b o, s.heap.get? b = some o → h'.get? b = some o) → Q (.ref (s.heap.objs.size + 1)) { s with heap := h' }) :
    wpAny (model prog w) A (call (.type "enumerate") [v]) Q E s := by
  refine callType_new F.called_enumerate (by decide) (F.typeCall_enumerate_1 _) (F.newCall_enumerate_1 _) (fun obj => F.args_object_init_2 obj _) F.entry_enumerate_new (enum_new0 B) ⟨h1, ?_⟩
  have hz : (s.heap.push o).objs.size = s.heap.objs.size + 1 := Heap.size_push ..
  show _ ∧ _
  rw [hz]
  have it : IsEnum ((s.heap.push o).push { cls := .type "enumerate", data := .fields #[.none, .bool false, .ref s.heap.objs.size, rawInt 0, .none, .none] }) (s.heap.objs.size + 1) s.heap.objs.size 0 .none := by
    have q := Heap.get?_push_size (s.heap.push o) (o := { cls := .type "enumerate", data := .fields #[.none, .bool false, .ref s.heap.objs.size, rawInt 0, .none, .none] }) rfl
    rw [hz] at q
    exact q
  exact ⟨⟨_, it, rfl⟩, h _ it (Heap.get?_push_of_some _ (Heap.get?_push_size _ B.free)) fun b u x => Heap.get?_push_of_some _ (Heap.get?_push_of_some _ x)⟩
section
variable {X : Cx} {e k : Expr} {ta tk : TA} {p pos tpos kp : Pos} {elts : List Expr} {kk : Nat}
theorem pi_enumS (hg : Gl X "enumerate") (hm : X.mg "enumerate" = none) (ha : PA X [e] ta) (hs : starEach [e] X.env = [(false, eval e X.env)] := by rfl) :
    PI X (.Tuple elts kk tpos) (.Call (.Name "enumerate" p) [e] [] pos) (iEnS X.K 0 ta) := by
  constructor
  intro pins s σ H R I h
  refine Call_ (ld_blt I hg hm boot_enumerate (PyProof.Rows.callWith_type1 (thn (ha.run pos pins s σ H _ I h) fun us s1 ⟨vs, H1, I1, r1, t, a, xs, ev, q1, q2⟩ => ?_) hs rfl))
  subst ev
  obtain ⟨u, rfl, ru⟩ := vals1 r1
  obtain rfl : u = Value.ref a := ru
  obtain ⟨its, rv, _, _, B⟩ := seqX_at I1 q1
  exact enum_begins0 B (fun o e => e) fun h2 en hi hk => enum_there I1 rfl en hi hk q2
theorem pi_enumK (hg : Gl X "enumerate") (hm : X.mg "enumerate" = none) (ha : PA X [e] ta) (hk : PK X [⟨some "start", k, kp⟩] tk) (hs : starEach [e] X.env = (false, eval e X.env) :: starEach [] X.env := by rfl)
    (hall : (backToKw pos (keywordEach [⟨some "start", k, kp⟩] X.env)).all (·.1.isSome) = true := by rfl) (hpl : ((backTo pos (starEach [e] X.env)).any (·.1) || (backToKw pos (keywordEach [⟨some "start", k, kp⟩] X.env)).any (·.1.isNone)) = false := by rfl)
    (hks : (backToKw pos (keywordEach [⟨some "start", k, kp⟩] X.env)).filterMap (·.1) = [Str.ofString "start"] := by rfl) :
    PI X (.Tuple elts kk tpos) (.Call (.Name "enumerate" p) [e] [⟨some "start", k, kp⟩] pos) (iEnK X.K ta tk) := by
  constructor
  intro pins s σ H R I h
  refine wpAny_Call_Name_kw (ld_blt I hg hm boot_enumerate ?_)
  refine PySem.W.callWith_of (P := fun _ => True) hpl (fun h _ => ⟨.machine, .inr (.inl rfl), fun A Q E s _ q => wpAny_pure q⟩) (evalArgs_kw2 hall (thn (ha.run pos pins s σ H _ I h) fun us s1 ⟨vs, H1, I1, r1, q1⟩ => thn (hk.run pos pins s1 σ H1 _ I1 q1) fun ws s2 ⟨zs, H2, I2, r2, t, a, xs, c, ev, ez, lo, hi, q2, q3⟩ => ⟨trivial, ?_⟩) hs)
  subst ev; subst ez
  obtain ⟨u, rfl, ru⟩ := vals1 r1
  obtain rfl : u = Value.ref a := ru
  obtain ⟨z, rfl, tz, rfl⟩ := vals1 r2
  rw [hks]
  obtain ⟨its, rv, _, _, B⟩ := seqX_at I2 q2
  exact enum_begins_start B (fun o e => e) lo hi fun h2 en hi' _ hk => enum_there I2 rfl en hi' hk q3
end
end G

set_option Elab.async false
set_option linter.all false
set_option autoImplicit false
set_option maxRecDepth 100000
set_option maxHeartbeats 2000000
namespace G
open PySem PySem.Spec PySem.Calls L2 PyProof.Rows
section
variable {X : Cx} {cl : Nat → Addr}
/-! ### lists that change: +, * -/
theorem Fin1.mutS {Γ : Gm} {ms : List Addr} {F H : Hp} {ds : List D} {μ : List MO} {Q : VK} {vs : List V} {p : Addr} (h : Fin1 Γ ms F H (.mut μ.length) (μ ++ [.lst ds]) Q) (r : HR Γ ms F H μ) (q : HasL Γ ms F vs ds) (hp : H p = none) : Q (.ref p) (upd H p (.lst vs)) := h.mut r q hp
def addM : G2 := fun x y μ => match seqD μ x, seqD μ y with
  | some (.l, a), some (.l, b) => if a.length + b.length ≤ 1000000 then some (.mut μ.length, μ ++ [.lst (a ++ b)]) else none
  | _, _ => addD x y μ
theorem opd_addM : OpD X cl (binaryOp .Add) addM := by
  intro ms F H μ x y dx dy d μ' Q r hx hy ev k
  unfold addM at ev
  split at ev
  · rename_i a b ea eb
    split at ev
    · rename_i hz
      cases ev
      obtain ⟨p, xs, rfl, ha, la⟩ := seqD_ok r hx ea
      obtain ⟨q, ys, rfl, hb, lb⟩ := seqD_ok r hy eb
      exact ⟨_, op_cat, p, q, xs, ys, rfl, rfl, ha, hb, by rw [la.length, lb.length]; exact million hz, fun c hc => k.mut r (la.append lb) hc⟩
    · cases ev
  · exact opd_add ms F H μ x y dx dy d μ' Q r hx hy ev k
theorem op_mulStr : OpR X (binaryOp .Mult) (fun x y H Q => ∃ s k, x = .str s ∧ y = .int k ∧ s.length ≤ 16 ∧ -(2 ^ 63) ≤ k ∧ k ≤ 1048576 ∧ Q (.str (Txt.mul s k)) H) := by
  intro pins s σ H x y v u Q I rx ry h
  obtain ⟨z, k, rfl, rfl, hz, h1, h2, q⟩ := h
  obtain ⟨t, rfl⟩ := rx
  obtain ⟨t', rfl⟩ := ry
  exact PySem.W.KXi.mul rfl hz h1 h2 fun t' k' _ _ => ⟨.str _, H, I.tok _, ⟨_, rfl⟩, q⟩
theorem HasL.flat {Γ : Gm} {ms : List Addr} {F : Hp} {vs : List V} {ds : List D} (h : HasL Γ ms F vs ds) : ∀ n : Nat, HasL Γ ms F (List.replicate n vs).flatten (List.replicate n ds).flatten
  | 0 => rfl
  | n + 1 => by
    rw [List.replicate_succ, List.replicate_succ, List.flatten_cons, List.flatten_cons]
    exact h.append (HasL.flat h n)
def mulM : G2 := fun x y μ => match seqD μ x, y with
  | some (.l, a), .int k => if -(2 ^ 63) ≤ k ∧ k < 2 ^ 63 ∧ a.length * k.toNat ≤ 1000000 then some (.mut μ.length, μ ++ [.lst (List.replicate k.toNat a).flatten]) else none
  | _, y => match x, y with
    | .str z, .int k => if z.length ≤ 16 ∧ -(2 ^ 63) ≤ k ∧ k ≤ 1048576 then some (.str (Txt.mul z k), μ) else none
    | x, y => mulD x y μ
theorem opd_mulM : OpD X cl (binaryOp .Mult) mulM := by
  intro ms F H μ x y dx dy d μ' Q r hx hy ev k
  unfold mulM at ev
  split at ev
  · rename_i a j ea
    split at ev
    · rename_i hz
      cases ev
      obtain ⟨p, xs, rfl, ha, la⟩ := seqD_ok r hx ea
      exact ⟨_, op_rep, p, j, xs, rfl, hy, ha, hz.1, hz.2.1, by rw [la.length]; exact million hz.2.2, fun c hc => k.mut r (la.flat _) hc⟩
    · cases ev
  · split at ev
    · split at ev
      · rename_i hz; cases ev; exact ⟨_, op_mulStr, _, _, hx, hy, hz.1, hz.2.1, hz.2.2, k.imm r rfl⟩
      · cases ev
    · exact opd_mul ms F H μ x y _ _ d μ' Q r hx hy ev k
/-! ### tuple(..), list(..) -/
def tupM : G1 := fun ds μ => match ds with
  | [.tup xs] => some (.tup xs, μ)
  | [x] => match seqD μ x with
    | some (.l, xs) => some (.tup xs, μ)
    | _ => none
  | _ => none
theorem cd_tupM : CallD X cl (.type "tuple") tupM := by
  intro ms F H μ vs ds d μ' Q r hv ev k
  unfold tupM at ev
  split at ev
  · cases ev
    obtain ⟨v, rfl, a, ys, rfl, hs, hl⟩ := hv.one'
    exact ⟨_, call_tuple_of, a, ys, rfl, .inr ⟨(Tp.same r.sub hs).sq, k.imm r ⟨a, ys, rfl, hs, hl⟩⟩⟩
  · obtain ⟨v, rfl, h⟩ := hv.one'
    split at ev
    · rename_i xs hq
      cases ev
      obtain ⟨a, ys, rfl, hs, hl⟩ := seqD_ok r h hq
      exact ⟨_, call_tuple_of, a, ys, rfl, .inl ⟨SqL.of hs, fun p hp => k.tup r hl hp⟩⟩
    · cases ev
  · cases ev
/-- list(..): a new list that may change -/
def lstM : G1 := fun ds μ => match ds with
  | [x] => match seqD μ x with
    | some (_, xs) => some (.mut μ.length, μ ++ [.lst xs])
    | _ => none
  | _ => none
theorem cd_lstM : CallD X cl (.type "list") lstM := by
  intro ms F H μ vs ds d μ' Q r hv ev k
  unfold lstM at ev
  split at ev
  · obtain ⟨v, rfl, h⟩ := hv.one'
    split at ev
    · rename_i sk xs hq
      cases ev
      obtain ⟨a, ys, rfl, hs, hl⟩ := seqD_ok r h hq
      exact ⟨_, call_list_of, a, ys, rfl, hs.or, fun p hp => k.mut r hl hp⟩
    · cases ev
  · cases ev
/-! ### dicts that change -/
theorem HR.adopt {Γ : Gm} {ms : List Addr} {F H : Hp} {μ : List MO} (r : HR Γ ms F H μ) {p : Addr} (hm : p ∉ ms) (hF : F p = none) {u : MO} (m : MOk Γ ms F H p u) : HR Γ (ms ++ [p]) F H (μ ++ [u]) := by
  refine ⟨r.sub, fun b hb => ?_, by simp [r.len], ?_, fun j u' e => ?_⟩
  · rcases List.mem_append.mp hb with hb | hb
    · exact r.out b hb
    · simp at hb; subst hb; exact hF
  · refine List.nodup_append.mpr ⟨r.nd, by simp, fun b hb c hc => ?_⟩
    simp at hc; subst hc
    exact fun z => hm (z ▸ hb)
  · by_cases hk : j < μ.length
    · rw [List.getElem?_append_left hk] at e
      obtain ⟨a, ea, m'⟩ := r.obj j u' e
      exact ⟨a, getP ea, m'.mono (Same.refl _) fun o q => q⟩
    · have hk2 := (List.getElem?_eq_some_iff.mp e).1
      simp at hk2
      have : j = μ.length := by omega
      subst this
      simp at e; subst e
      exact ⟨p, by rw [← r.len]; simp, m.mono (Same.refl _) fun o q => q⟩
def eDctM0 : EF := fun _ μ => some (.mut μ.length, μ ++ [.dct [] []])
theorem de_dctM0 {pos : Pos} : DE X cl (.Dict [] [] pos) eDctM0 := ⟨pe_dnewK.weak fun σ H Q ⟨O, ms, F, δ, μ, d, μ', R, ev, k⟩ => by
  cases ev
  intro p hp
  obtain ⟨r', s⟩ := R.hr.push (o := .dK []) (u := .dct [] []) hp ⟨[], upd_same, rfl, rfl⟩
  exact k _ _ _ _ r' s ⟨p, rfl, by rw [← R.hr.len]; simp⟩⟩
/-- {k: e} -/
def eDctM1 (k : Key) (f : EF) : EF := fun δ μ => match f δ μ with
  | some (d, μ1) => some (.mut μ1.length, μ1 ++ [.dct [k] [d]])
  | none => none
theorem Stp.notin {ms ms' : List Addr} {F F' H H' : Hp} {p : Addr} (s : Stp ms ms' F F' H H') (hn : p ∉ ms) (hp : H p ≠ none) : p ∉ ms' := fun z => by
  obtain ⟨new, e, fr⟩ := s.new
  rw [e] at z
  rcases List.mem_append.mp z with z | z
  · exact hn z
  · exact hp (fr p z)
theorem de_dctM1 {x : Str} {kp : Pos} {jj : Nat} {e : Expr} {f : EF} {pos : Pos} (h : DE X cl e f) : DE X cl (.Dict [some (.Constant (.str x) jj kp)] [e] pos) (eDctM1 (.inr x) f) :=
  ⟨(pe_disp (pps_cons pe_str h.p pps_nil) rfl rfl (by simp) (by show (1 : Nat) ≤ 15; decide)).weak fun σ H Q ⟨O, ms, F, δ, μ, d, μ', R, ev, k⟩ => by
  unfold eDctM1 at ev
  split at ev
  · rename_i d1 μ1 e1
    cases ev
    intro p hp
    obtain ⟨hm0, hF0⟩ := R.hr.fresh_not hp
    obtain ⟨r0, s0⟩ := R.hr.extra hp (.dK [])
    refine tE.seq (R.step r0 s0) e1 fun v H1 ms1 F1 R1 s1 q1 => ?_
    have hp1 : (upd H p (.dK [])) p ≠ none := by rw [upd_same]; exact fun z => nomatch z
    have hD1 : H1 p = some (.dK []) := s1.keep p _ upd_same hm0
    have hm1 := s1.notin hm0 hp1
    have hF1 : F1 p = none := s1.fnew p hF0 hp1
    refine ⟨hD1, [(.inr x, v)], rfl, by show (1 : Nat) ≤ 15; decide, ?_⟩
    have s01 := s0.trans' r0 s1
    have r2 : HR (gm X cl) ms1 F1 (upd H1 p (.dK (mergeK [] [(.inr x, v)]))) μ1 := R1.hr.other hm1 hF1 _
    have r3 := r2.adopt (u := .dct [.inr x] [d1]) hm1 hF1 ⟨[v], upd_same, rfl, HasL.one q1⟩
    obtain ⟨new, en, fr⟩ := s01.new
    refine k _ _ (ms1 ++ [p]) F1 r3 ⟨⟨new ++ [p], by rw [en]; simp, fun b hb => ?_⟩, fun b o eb hn => ?_, s01.fsub, s01.fnew⟩ ⟨p, rfl, by rw [← R1.hr.len]; simp⟩
    · rcases List.mem_append.mp hb with hb | hb
      · exact fr b hb
      · simp at hb; subst hb; exact hp
    · have hne : b ≠ p := fun z => by rw [z, hp] at eb; cases eb
      rw [upd_ne hne]; exact s01.keep b o eb hn
  · cases ev⟩
/-- d[k] = e -/
def putX (ks : List Key) (xs : List D) (k : Key) (d : D) : List Key × List D :=
  if (ks.any fun j => decide (j = k)) = true then (ks, (ks.zip xs).map fun p => if p.1 = k then d else p.2) else (ks ++ [k], xs ++ [d])
theorem putX_any (k : Key) : ∀ (ks : List Key) (vs : List V), ks.length = vs.length → ((ks.zip vs).any fun kv => decide (kv.1 = k)) = ks.any fun j => decide (j = k)
  | [], [], _ => rfl
  | j :: ks, v :: vs, h => by
    have := putX_any k ks vs (by simpa using h)
    simp only [List.zip_cons_cons, List.any_cons, this]
theorem putX_zip (k : Key) (v : V) : ∀ (ks : List Key) (vs : List V), ks.length = vs.length → ks.zip ((ks.zip vs).map fun p => if p.1 = k then v else p.2) = (ks.zip vs).map fun kv => if kv.1 = k then (kv.1, v) else kv
  | [], [], _ => rfl
  | j :: ks, w :: vs, h => by
    simp only [List.zip_cons_cons, List.map_cons]
    rw [putX_zip k v ks vs (by simpa using h)]
    by_cases e : j = k <;> simp [e]
theorem HasL.putm {Γ : Gm} {ms : List Addr} {F : Hp} {k : Key} {v : V} {d : D} (q : Has Γ ms F v d) : ∀ {ks : List Key} {vs : List V} {ds : List D}, HasL Γ ms F vs ds → HasL Γ ms F ((ks.zip vs).map fun p => if p.1 = k then v else p.2) ((ks.zip ds).map fun p => if p.1 = k then d else p.2)
  | [], vs, ds, h => by simp [HasL]
  | j :: ks, _, [], h => by cases h; simp [HasL]
  | j :: ks, _, e :: ds, ⟨w, ws, hv, h1, h2⟩ => by
    subst hv
    refine ⟨if j = k then v else w, _, rfl, ?_, HasL.putm q h2⟩
    by_cases ejk : j = k
    · simp only [ejk, if_true]; exact q
    · simp only [ejk, if_false]; exact h1
def keyD : D → Option Key
  | .int i => some (.inl i)
  | .str x => some (.inr x)
  | _ => none
theorem keyD_ok {Γ : Gm} {ms : List Addr} {F : Hp} {v : V} {d : D} {k : Key} (h : Has Γ ms F v d) (e : keyD d = some k) : v = kV k := by
  cases d <;> cases e <;> exact h
def bDPut (fd fk fv : EF) : BF := fun δ μ => match fv δ μ with
  | some (v, μ1) => match fd δ μ1 with
    | some (.mut j, μ2) => match fk δ μ2 with
      | some (kd, μ3) => match keyD kd, μ3[j]? with
        | some k, some (.dct ks xs) => if ks.length < 1000000 then some (.nx δ (μ3.set j (.dct (putX ks xs k v).1 (putX ks xs k v).2))) else none
        | _, _ => none
      | none => none
    | _ => none
  | none => none
theorem mut_dct {Γ : Gm} {ms : List Addr} {F H : Hp} {μ : List MO} {k : Nat} {v : V} {ks : List Key} {xs : List D} (r : HR Γ ms F H μ) (h : Has Γ ms F v (.mut k)) (e : μ[k]? = some (.dct ks xs)) : ∃ a vs, v = .ref a ∧ ms[k]? = some a ∧ H a = some (.dK (ks.zip vs)) ∧ ks.length = vs.length ∧ HasL Γ ms F vs xs := by
  obtain ⟨a, rfl, hm⟩ := h
  obtain ⟨a', ha', ys, hx, hn, hl⟩ := r.obj _ _ e
  rw [hm] at ha'; cases ha'
  exact ⟨a, ys, rfl, hm, hx, hn, hl⟩
theorem ds_dput {o i value : Expr} {pos pos' : Pos} {fd fk fv : EF} (hu : X.A.units + 1 < cLine) (ho : DE X cl o fd) (hi : DE X cl i fk) (hv : DE X cl value fv) (hs : swapsWith value (some (.Subscript o i pos')) pos.line X.env = pure false := by rfl) :
    DS X cl (.Assign [.Subscript o i pos'] value pos) (bDPut fd fk fv) := ⟨(ps_dput hu ho.p hi.p hv.p hs).weak fun D σ H ⟨O, ms, F, δ, μ, oo, R, ev, hO, k⟩ => by
  unfold bDPut at ev
  split at ev
  · rename_i d μ1 e1
    split at ev
    · rename_i j μ2 e2
      split at ev
      · rename_i kd μ3 e3
        split at ev
        · rename_i kk ks xs ek hk
          split at ev
          · rename_i hz
            cases ev
            refine tE.seq R e1 fun v H1 ms1 F1 R1 s1 q1 => tE.seq R1 e2 fun ov H2 ms2 F2 R2 s2 q2 => tE.seq R2 e3 fun iv H3 ms3 F3 R3 s3 q3 => ?_
            obtain ⟨a, ws, rfl, hma, ha, hn, hl⟩ := mut_dct R3.hr (q2.step s3) hk
            have zl : (ks.zip ws).length = ks.length := by rw [List.length_zip, hn]; simp
            refine ⟨a, _, rfl, .inl ⟨_, kk, ha, keyD_ok q3 ek, by rw [zl, sizeLine_eq]; omega, rfl⟩, ?_⟩
            have q1' := (q1.step s2).step s3
            have hp : ∃ us, putK (ks.zip ws) kk v = (putX ks xs kk d).1.zip us ∧ (putX ks xs kk d).1.length = us.length ∧ HasL (gm X cl) ms3 F3 us (putX ks xs kk d).2 := by
              unfold putK putX
              rw [putX_any kk ks ws hn]
              by_cases hmem : (ks.any fun j => decide (j = kk)) = true
              · rw [if_pos hmem, if_pos hmem]
                exact ⟨_, (putX_zip kk v ks ws hn).symm, by rw [List.length_map, zl], hl.putm q1'⟩
              · rw [if_neg hmem, if_neg hmem]
                exact ⟨ws ++ [v], by rw [List.zip_append hn]; rfl, by simp [hn], hl.append (HasL.one q1')⟩
            obtain ⟨us, ep, eu, hu'⟩ := hp
            rw [ep]
            obtain ⟨r', s⟩ := R3.hr.write hma (u := .dct (putX ks xs kk d).1 (putX ks xs kk d).2) (o := .dK ((putX ks xs kk d).1.zip us)) ⟨_, upd_same, eu, hu'⟩
            exact k σ _ ms3 F3 (R3.step r' s) (((s1.trans' R1.hr s2).trans' R2.hr s3).ext)
          · cases ev
        · cases ev
      · cases ev
    · cases ev
  · cases ev⟩
end
end G

set_option Elab.async false
set_option linter.all false
set_option autoImplicit false
set_option maxRecDepth 100000
set_option maxHeartbeats 2000000
namespace G
open PySem PySem.Spec PySem.Calls L2 PyProof.Rows
/-! ### repr of a dict -/
section
variable {X : Cx} {pins : List (Addr × Obj)} {σ : L2.St} {H : Hp} {s : Shared}
theorem call_reprDct (hgd : X.A.guards = some []) (hu : X.A.units + 64 < cLine) : CallR X (.builtin "repr") (fun xs H Q => ∃ a kvs ts, xs = [.ref a] ∧ H a = some (.dK kvs) ∧ enT kvs = some ts ∧ (dictText ts).length ≤ sizeLine ∧ Q (.str (dictText ts)) H) := by
  intro pins s σ H xs us Q I r h
  obtain ⟨a, kvs, ts, rfl, ha, et, hz, q⟩ := h
  obtain ⟨u, rfl, ru⟩ := vals1 r
  obtain rfl : u = Value.ref a := ru
  obtain ⟨_, hsys, vs, rk, o, es, ep, ho, hx, hd, hK, hP, _⟩ := dk_of I.hok ha
  refine call_repr_slot (by omega) ⟨o, ho, hx.1⟩ F.slot_dict_repr (call_dict_reprK (as := []) (h₀ := s.heap) (d := 0) ho hx.1 hd hsys (by simp) (en_reprK [] 0 et rk hP fun t ht => Nat.le_trans (dictText_mem ht) hz) hgd (fun b _ => Clear.nil b) (by show X.A.units + 1 + (0 + 1) < cLine; omega) (fun _ _ e => e) (fun h' z tk k => ⟨_, _, rfl, .str _, H, I.kept k, ⟨_, rfl⟩, q⟩) hz)
end
def txM (nm : Nat → Option Str) (μ : List MO) (d : D) : Option (Bool × Str) := match d with
  | .mut k => match μ[k]? with
    | some (.dct ks ds) => (enD ks ds).map fun ts => (true, dictText ts)
    | _ => (tx nm μ d).map fun t => (false, t)
  | .dct ks ds => (enD ks ds).map fun ts => (true, dictText ts)
  | d => (tx nm μ d).map fun t => (false, t)
def reprM (nm : Nat → Option Str) : List D → List MO → Option (D × List MO)
  | [d], μ => match txM nm μ d with
    | some t => if t.2.length ≤ 1000000 then some (.str t.2, μ) else none
    | none => none
  | _, _ => none
section
variable {X : Cx} {cl : Nat → Addr} {nm : Nat → Option Str}
theorem txM_dct {Γ : Gm} {ms : List Addr} {F H : Hp} {μ : List MO} {v : V} {d : D} {t : Str} (r : HR Γ ms F H μ) (h : Has Γ ms F v d) (e : txM nm μ d = some (true, t)) : ∃ a kvs ts, v = .ref a ∧ H a = some (.dK kvs) ∧ enT kvs = some ts ∧ t = dictText ts := by
  unfold txM at e
  split at e
  · split at e
    · rename_i k ks ds hk
      obtain ⟨ts, e1, e2⟩ := Option.map_eq_some_iff.mp e
      cases e2
      obtain ⟨a, vs, rfl, _, ha, hn, hl⟩ := mut_dct r h hk
      exact ⟨a, _, ts, rfl, ha, en_has e1 hl, rfl⟩
    · obtain ⟨ts, e1, e2⟩ := Option.map_eq_some_iff.mp e
      cases e2
  · obtain ⟨ts, e1, e2⟩ := Option.map_eq_some_iff.mp e
    cases e2
    obtain ⟨a, xs, rfl, h1, h2, h3⟩ := h
    exact ⟨a, _, ts, rfl, r.sub _ _ h1, en_has e1 h3, rfl⟩
  · obtain ⟨ts, e1, e2⟩ := Option.map_eq_some_iff.mp e
    cases e2
theorem txM_tx {μ : List MO} {d : D} {t : Str} (e : txM nm μ d = some (false, t)) : tx nm μ d = some t := by
  unfold txM at e
  split at e
  · split at e
    · obtain ⟨ts, e1, e2⟩ := Option.map_eq_some_iff.mp e
      cases e2
    · obtain ⟨ts, e1, e2⟩ := Option.map_eq_some_iff.mp e
      cases e2; exact e1
  · obtain ⟨ts, e1, e2⟩ := Option.map_eq_some_iff.mp e
    cases e2
  · obtain ⟨ts, e1, e2⟩ := Option.map_eq_some_iff.mp e
    cases e2; exact e1
theorem cd_reprM (hn : ∀ C n, nm C = some n → RxC X.K (cl C) n) (hgd : X.A.guards = some []) (hu : X.A.units + 64 < cLine) : CallD X cl (.builtin "repr") (reprM nm) := by
  intro ms F H μ vs ds d μ' Q r hv ev k
  unfold reprM at ev
  split at ev
  · rename_i d0
    split at ev
    · rename_i t et
      split at ev
      · rename_i hz
        cases ev
        obtain ⟨b, t⟩ := t
        cases b with
        | true =>
          obtain ⟨v, rfl, h⟩ := hv.one'
          obtain ⟨a, kvs, ts, rfl, ha, e1, rfl⟩ := txM_dct r h et
          exact ⟨_, call_reprDct hgd hu, a, kvs, ts, rfl, ha, e1, million hz, k.imm r rfl⟩
        | false =>
          refine cd_repr hn hgd hu ms F H μ vs [d0] (.str t) μ Q r hv ?_ k
          show (match tx nm μ d0 with
            | some t => if t.length ≤ 1000000 then some (D.str t, μ) else none
            | none => none) = _
          rw [txM_tx et]
          exact if_pos hz
      · cases ev
    · cases ev
  · cases ev
/-! ### range with a step -/
def rangeC (lo c : Int) (n : Nat) : List D := (List.range n).map fun i => .int (lo + (i : Nat) * c)
theorem rangeC_length (lo c : Int) (n : Nat) : (rangeC lo c n).length = n := by simp [rangeC]
theorem rangeC_get {lo c : Int} {n i : Nat} {d : D} (h : (rangeC lo c n)[i]? = some d) : d = .int (lo + (i : Nat) * c) := by
  unfold rangeC at h
  rw [List.getElem?_map] at h
  cases e : (List.range n)[i]? with
  | none => rw [e] at h; cases h
  | some j =>
    rw [e] at h
    obtain ⟨h1, h2⟩ := List.getElem?_eq_some_iff.mp e
    simp at h2
    subst h2
    cases h; rfl
theorem yld_rangeC {Γ : Gm} {ms0 : List Addr} {F0 : Hp} (lo c : Int) (n : Nat) : Yld Γ (Itc lo c n) (rangeC lo c n) ms0 F0 where
  go := fun ms F H μ i r e hi => by rw [rangeC_length] at hi; exact hi
  stop := fun ms F H μ i r e hi => by rw [rangeC_length] at hi; exact hi
  yld := fun ms F H μ i d x H' r e hd y => by
    obtain ⟨rfl, rfl⟩ := y
    rw [rangeC_get hd]
    exact ⟨ms, F, r, Stp.refl _ _ _, rfl⟩
def iR3 (r : AF) : IF := aThen r fun ds _ μ => match ds with
  | [.int i, .int j, .int c] => if c ≠ 0 ∧ c.natAbs < 1073741824 ∧ Builtin.Range.small i j c = true then some (rangeC i c (Builtin.Range.rangeSize i j c).toNat, μ) else none
  | _ => none
theorem di_range3 {tg a b c : Expr} {p pos : Pos} {r : AF} (hg : Gl X "range") (hm : X.mg "range" = none) (ha : DA X cl [a, b, c] r)
    (hs : starEach [a, b, c] X.env = (false, eval a X.env) :: starEach [b, c] X.env := by rfl) (hpl : (backTo pos (starEach [b, c] X.env)).any (·.1) = false := by rfl) :
    DI X cl tg (.Call (.Name "range" p) [a, b, c] [] pos) (iR3 r) := ⟨(pi_range3 hg hm ha.p hs hpl).weak fun σ H R ⟨O, ms, F, δ, μ, ds, μ', S, ev, k⟩ => by
  obtain ⟨d1, μ1, e1, ev⟩ := aThen_some ev
  refine tA.seq S e1 fun v H1 ms1 F1 R1 s1 q1 => ?_
  split at ev
  · split at ev
    · rename_i i j c hz
      cases ev
      obtain ⟨v, ws, rfl, hv, q2⟩ := q1
      obtain ⟨w, u, rfl, hw, hu⟩ := q2.two'
      exact ⟨i, j, c, _, by rw [show v = .int i from hv, show w = .int j from hw, show u = .int c from hu], ⟨hz.1, hz.2.1, hz.2.2, rangeSize_toNat i j c⟩, k _ H1 ms1 F1 R1.hr s1 (yld_rangeC _ _ _)⟩
    · cases ev
  · cases ev⟩
end
/-! ### what a loop walks, as long as it stays so -/
structure YldP (Γ : Gm) (J : It) (P : List MO → Prop) (ds : List D) (ms0 : List Addr) (F0 : Hp) : Prop where
  go : ∀ ms F H μ i, HR Γ ms F H μ → Ext ms0 ms F0 F → P μ → i < ds.length → J.go i H
  stop : ∀ ms F H μ, HR Γ ms F H μ → Ext ms0 ms F0 F → P μ → J.stop ds.length H
  yld : ∀ ms F H μ i d x H', HR Γ ms F H μ → Ext ms0 ms F0 F → P μ → ds[i]? = some d → J.yld i H x H' → ∃ ms' F', HR Γ ms' F' H' μ ∧ Stp ms ms' F F' H H' ∧ Has Γ ms' F' x d
structure Walk where
  ds : List D
  P : List MO → Prop
abbrev IFP := List SV → List MO → Option (Walk × List MO)
def tIP (Γ : Gm) (f : IFP) : TI := fun σ H R => ∃ O ms F δ μ ds μ1, SR Γ O ms F H σ δ μ ∧ f δ μ = some (ds, μ1) ∧
  ∀ J H1 ms1 F1, HR Γ ms1 F1 H1 μ1 → Stp ms ms1 F F1 H H1 → YldP Γ J ds.P ds.ds ms1 F1 → R J H1
structure DIP (X : Cx) (cl : Nat → Addr) (tg e : Expr) (f : IFP) : Prop where
  p : PI X tg e (tIP (gm X cl) f)
/-- a list or a tuple, and what keeps it as it is -/
def srcD (μ : List MO) : D → Option (Bool × List D × (List MO → Prop))
  | .lst ds => some (false, ds, fun _ => True)
  | .tup ds => some (true, ds, fun _ => True)
  | .mut k => match μ[k]? with
    | some (.lst ds) => some (false, ds, fun μ => μ[k]? = some (.lst ds))
    | _ => none
  | _ => none
theorem srcD_ok {Γ : Gm} {ms0 : List Addr} {F0 H0 : Hp} {μ0 : List MO} {v : V} {d : D} {t : Bool} {ds : List D} {P : List MO → Prop} (r0 : HR Γ ms0 F0 H0 μ0) (h : Has Γ ms0 F0 v d) (e : srcD μ0 d = some (t, ds, P)) :
    ∃ a, v = .ref a ∧ P μ0 ∧ ∀ ms F H μ, HR Γ ms F H μ → Ext ms0 ms F0 F → P μ → ∃ xs, SqX Γ.K t H a xs ∧ HasL Γ ms F xs ds := by
  unfold srcD at e
  split at e
  · cases e
    obtain ⟨a, xs, rfl, hs, hl⟩ := h
    exact ⟨a, rfl, trivial, fun ms F H μ r x _ => ⟨xs, SqL.of (r.sub _ _ (x.fsub _ _ hs)), hl.ext x⟩⟩
  · cases e
    obtain ⟨a, xs, rfl, hs, hl⟩ := h
    exact ⟨a, rfl, trivial, fun ms F H μ r x _ => ⟨xs, (Tp.same r.sub (Tp.same x.fsub hs)).sq, hl.ext x⟩⟩
  · split at e
    · rename_i k ds' hk
      cases e
      obtain ⟨a, rfl, hm⟩ := h
      refine ⟨a, rfl, hk, fun ms F H μ r x hp => ?_⟩
      obtain ⟨new, rfl⟩ := x.new
      obtain ⟨a', ha', xs, hx, hl⟩ := r.obj _ _ hp
      rw [getP hm] at ha'; cases ha'
      exact ⟨xs, SqL.of hx, hl⟩
    · cases e
  · cases e
def enumC (c : Int) (ds : List D) : List D := ds.mapIdx fun i d => .tup [.int (c + (i : Nat)), d]
theorem enumC_length (c : Int) (ds : List D) : (enumC c ds).length = ds.length := by simp [enumC]
theorem enumC_get {c : Int} {ds : List D} {i : Nat} {d : D} (h : (enumC c ds)[i]? = some d) : ∃ x, ds[i]? = some x ∧ d = .tup [.int (c + (i : Nat)), x] := by
  unfold enumC at h
  rw [List.getElem?_mapIdx] at h
  cases e : ds[i]? with
  | none => rw [e] at h; cases h
  | some x => rw [e] at h; cases h; exact ⟨x, rfl, rfl⟩
theorem yld_enumX {Γ : Gm} {ms0 : List Addr} {F0 : Hp} {a : Addr} {t : Bool} {c : Int} {ds : List D} {P : List MO → Prop} (src : ∀ ms F H μ, HR Γ ms F H μ → Ext ms0 ms F0 F → P μ → ∃ xs, SqX Γ.K t H a xs ∧ HasL Γ ms F xs ds) : YldP Γ (IteS Γ.K t a c) P (enumC c ds) ms0 F0 where
  go := fun ms F H μ i r e hp hi => by
    obtain ⟨xs, hs, hl⟩ := src ms F H μ r e hp
    obtain ⟨x, hx⟩ := hl.bound (by rw [enumC_length] at hi; exact hi)
    exact ⟨xs, x, hs, hx⟩
  stop := fun ms F H μ r e hp => by
    obtain ⟨xs, hs, hl⟩ := src ms F H μ r e hp
    exact ⟨xs, hs, by rw [hl.length, enumC_length]⟩
  yld := fun ms F H μ i d x' H' r e hp hd y => by
    obtain ⟨xs, hs, hl⟩ := src ms F H μ r e hp
    obtain ⟨T, x, rfl, hT, rfl, y⟩ := y
    obtain ⟨dx, hx, rfl⟩ := enumC_get hd
    obtain ⟨v, hv, q⟩ := hl.get hx
    have hx' := y xs hs
    rw [hv] at hx'; cases hx'
    obtain ⟨r', s⟩ := r.alloc hT (.tup [.int (c + (i : Nat)), x])
    exact ⟨ms, _, r', s, T, _, rfl, Tp.of upd_same, _, _, rfl, rfl, _, _, rfl, q.step s, rfl⟩
end G

set_option Elab.async false
set_option linter.all false
set_option autoImplicit false
set_option maxRecDepth 100000
set_option maxHeartbeats 2000000
namespace G
open PySem PySem.Spec PySem.Calls L2
section
variable {X : Cx} {cl : Nat → Addr} {tg e a b c : Expr} {es : List Expr} {fe fa fb : EF} {pos : Pos} {r : AF} {n : NF} {st : Stmt} {sts : List Stmt} {f g : BF} {ix : List Nat}
def iEX (r : AF) : IFP := aThen r fun ds _ μ => match ds with
  | [x] => match srcD μ x with
    | some (_, xs, P) => some (⟨enumC 0 xs, P⟩, μ)
    | none => none
  | _ => none
theorem di_enumX {p tpos : Pos} {elts : List Expr} {kk : Nat} (hg : Gl X "enumerate") (hm : X.mg "enumerate" = none) (ha : DA X cl [e] r) (hs : starEach [e] X.env = [(false, eval e X.env)] := by rfl) : DIP X cl (.Tuple elts kk tpos) (.Call (.Name "enumerate" p) [e] [] pos) (iEX r) := ⟨(pi_enumS hg hm ha.p hs).weak fun σ H R ⟨O, ms, F, δ, μ, w, μ', S, ev, k⟩ => by
  obtain ⟨d1, μ1, e1, ev⟩ := aThen_some ev
  refine tA.seq S e1 fun v H1 ms1 F1 R1 s1 q1 => ?_
  split at ev
  · split at ev
    · rename_i x t xs P hq
      cases ev
      obtain ⟨v, rfl, hv⟩ := q1.one'
      obtain ⟨a, rfl, hP, src⟩ := srcD_ok R1.hr hv hq
      obtain ⟨ys, hs, hl⟩ := src ms1 F1 H1 _ R1.hr (Ext.refl _ _) hP
      exact ⟨t, a, ys, rfl, hs, k _ H1 ms1 F1 R1.hr s1 (yld_enumX (Γ := gm X cl) src)⟩
    · cases ev
  · cases ev⟩
def iEXk (r : AF) (fk : EF) : IFP := aThen r fun ds δ μ => match ds with
  | [x] => match fk δ μ with
    | some (.int c, μ1) => if -(2 ^ 63) ≤ c ∧ c < 2 ^ 63 then (match srcD μ1 x with
      | some (_, xs, P) => some (⟨enumC c xs, P⟩, μ1)
      | none => none) else none
    | _ => none
  | _ => none
theorem di_enumXk {p tpos kp : Pos} {elts : List Expr} {kk : Nat} {k : Expr} {fk : EF} (hg : Gl X "enumerate") (hm : X.mg "enumerate" = none) (ha : DA X cl [e] r) (hk : DE X cl k fk) (hs : starEach [e] X.env = (false, eval e X.env) :: starEach [] X.env := by rfl)
    (hall : (backToKw pos (keywordEach [⟨some "start", k, kp⟩] X.env)).all (·.1.isSome) = true := by rfl) (hpl : ((backTo pos (starEach [e] X.env)).any (·.1) || (backToKw pos (keywordEach [⟨some "start", k, kp⟩] X.env)).any (·.1.isNone)) = false := by rfl)
    (hks : (backToKw pos (keywordEach [⟨some "start", k, kp⟩] X.env)).filterMap (·.1) = [Str.ofString "start"] := by rfl) :
    DIP X cl (.Tuple elts kk tpos) (.Call (.Name "enumerate" p) [e] [⟨some "start", k, kp⟩] pos) (iEXk r fk) := ⟨(pi_enumK hg hm ha.p (pk_cons hk.p pk_nil) hs hall hpl hks).weak fun σ H R ⟨O, ms, F, δ, μ, w, μ', S, ev, k⟩ => by
  obtain ⟨d1, μ1, e1, ev⟩ := aThen_some ev
  refine tA.seq S e1 fun v H1 ms1 F1 R1 s1 q1 => ?_
  split at ev
  · split at ev
    · rename_i x c μ2 ek
      split at ev
      · rename_i hz
        split at ev
        · rename_i t xs P hq
          cases ev
          refine tE.seq R1 ek fun kv H2 ms2 F2 R2 s2 q2 => ?_
          obtain ⟨v, rfl, hv⟩ := q1.one'
          obtain ⟨a, rfl, hP, src⟩ := srcD_ok R2.hr (hv.step s2) hq
          obtain ⟨ys, hs, hl⟩ := src ms2 F2 H2 _ R2.hr (Ext.refl _ _) hP
          exact ⟨t, a, ys, c, rfl, by rw [show kv = .int c from q2], hz.1, hz.2, hs, k _ H2 ms2 F2 R2.hr (s1.trans' R1.hr s2) (yld_enumX (Γ := gm X cl) src)⟩
        · cases ev
      · cases ev
    · cases ev
  · cases ev⟩
/-- a list that may change, as it stands -/
def iLM (f : EF) : IFP := eThen f fun d _ μ => match srcD μ d with
  | some (false, ds, P) => some (⟨ds, P⟩, μ)
  | _ => none
theorem yld_listM {Γ : Gm} {ms0 : List Addr} {F0 : Hp} {a : Addr} {ds : List D} {P : List MO → Prop} (src : ∀ ms F H μ, HR Γ ms F H μ → Ext ms0 ms F0 F → P μ → ∃ xs, SqX Γ.K false H a xs ∧ HasL Γ ms F xs ds) : YldP Γ (Itl Γ.K a) P ds ms0 F0 where
  go := fun ms F H μ i r e hp hi => by
    obtain ⟨xs, hs, hl⟩ := src ms F H μ r e hp
    obtain ⟨x, hx⟩ := hl.bound hi
    exact ⟨xs, x, hs, hx⟩
  stop := fun ms F H μ r e hp => by
    obtain ⟨xs, hs, hl⟩ := src ms F H μ r e hp
    exact ⟨xs, hs, by rw [hl.length]; exact Nat.le_refl _⟩
  yld := fun ms F H μ i d x H' r e hp hd y => by
    obtain ⟨rfl, y⟩ := y
    obtain ⟨xs, hs, hl⟩ := src ms F H' μ r e hp
    obtain ⟨v, hv, q⟩ := hl.get hd
    have := y xs hs
    rw [hv] at this; cases this
    exact ⟨ms, F, r, Stp.refl _ _ _, q⟩
theorem di_listM (h : DE X cl e fe) : DIP X cl tg e (iLM fe) := ⟨(pi_list h.p).weak fun σ H R ⟨O, ms, F, δ, μ, ds, μ', S, ev, k⟩ => by
  obtain ⟨d1, μ1, e1, ev⟩ := eThen_some ev
  refine tE.seq S e1 fun v H1 ms1 F1 R1 s1 q1 => ?_
  split at ev
  · rename_i xs P hq
    cases ev
    obtain ⟨a, rfl, hP, src⟩ := srcD_ok R1.hr q1 hq
    obtain ⟨ys, hs, hl⟩ := src ms1 F1 H1 _ R1.hr (Ext.refl _ _) hP
    exact ⟨a, rfl, ⟨ys, hs⟩, k _ H1 ms1 F1 R1.hr s1 (yld_listM (Γ := gm X cl) src)⟩
  · cases ev⟩
/-! ### for -/
open Classical in
noncomputable def forLoopP (P : List MO → Prop) (g : GF) (body : BF) : List D → List SV → List MO → Option Out
  | [], δ, μ => if P μ then some (.nx δ μ) else none
  | d :: ds, δ, μ => if P μ then (match g d δ with
    | none => none
    | some δ1 => match body δ1 μ with
      | some (.nx δ2 μ2) => forLoopP P g body ds δ2 μ2
      | some (.ct δ2 μ2) => forLoopP P g body ds δ2 μ2
      | some (.bk δ2 μ2) => some (.nx δ2 μ2)
      | some (.rt d μ2) => some (.rt d μ2)
      | some (.xc C f m d δ2 μ2) => some (.xc C f m d δ2 μ2)
      | none => none) else none
noncomputable def bForP (i : IFP) (g : GF) (body : BF) : BF := fun δ μ => match i δ μ with
  | some (w, μ1) => forLoopP w.P g body w.ds δ μ1
  | none => none
theorem ds_forP {iter : Expr} {body : List Stmt} {fi : IFP} {tgt : GF} {bd : BF} (hp : PassesOwn (model X.prog X.w) X.A X.env X.xe) (hc : X.calm = true) (hi : DIP X cl tg iter fi) (hg : DG X cl tg tgt ix) (hb : DB X cl body bd)
    (hs : ∀ x, foldedSetIterable iter X.env x = pure x := by intro _; rfl) : DS X cl (.For tg iter body [] pos) (bForP fi tgt bd) := ⟨(ps_for hp hc hi.p hg.p hb.p hs).weak fun D σ H ⟨O, ms, F, δ, μ, o, R, ev, hO, k⟩ => by
  unfold bForP at ev
  split at ev
  · rename_i wk μ1 e1
    obtain ⟨ds, Pm⟩ := wk
    refine ⟨O, ms, F, δ, μ, ⟨ds, Pm⟩, μ1, R, e1, fun J H1 ms1 F1 r1 s1 Y => ?_⟩
    let P : Nat → L2.St → Hp → Prop := fun i σ H => ∃ ms F δ μ, SR (gm X cl) O ms F H σ δ μ ∧ Ext ms1 ms F1 F ∧ forLoopP Pm tgt bd (ds.drop i) δ μ = some o
    have k1 := k.step s1.ext
    refine ⟨fun i m σ H => m = ds.length - i ∧ i ≤ ds.length ∧ P i σ H, ⟨_, rfl, Nat.zero_le _, ms1, F1, δ, μ1, R.step r1 s1, Ext.refl _ _, by simpa using ev⟩, ?_⟩
    rintro i m σ2 H2 ⟨rfl, hi, ms2, F2, δ2, μ2, R2, x2, ev2⟩
    by_cases hlt : i < ds.length
    · have hd : ds[i]? = some ds[i] := List.getElem?_eq_getElem hlt
      rw [List.drop_eq_getElem_cons hlt] at ev2
      unfold forLoopP at ev2
      by_cases hP : Pm μ2
      rotate_left
      · rw [if_neg hP] at ev2; cases ev2
      rw [if_pos hP] at ev2
      refine .inr ⟨Y.go ms2 F2 H2 μ2 i R2.hr x2 hP hlt, P (i + 1), fun σ' H' p' => ⟨_, by omega, rfl, hlt, p'⟩, fun x H' y => ?_⟩
      obtain ⟨ms3, F3, r3, s3, q3⟩ := Y.yld ms2 F2 H2 μ2 i _ x H' R2.hr x2 hP hd y
      split at ev2
      · cases ev2
      · rename_i δ3 eg
        refine ⟨O, ms3, F3, δ2, μ2, _, δ3, R2.step r3 s3, q3, eg, fun σ4 R4 _ _ => ?_⟩
        have x3 : Ext ms1 ms3 F1 F3 := x2.trans s3.ext
        split at ev2
        · rename_i δ5 μ5 eb
          exact ⟨O, ms3, F3, δ3, μ2, _, R4, eb, hO, fun σ' H' m F' R' x => ⟨m, F', _, _, R', x3.trans x, ev2⟩⟩
        · rename_i δ5 μ5 eb
          exact ⟨O, ms3, F3, δ3, μ2, _, R4, eb, hO, fun σ' H' m F' R' x => ⟨m, F', _, _, R', x3.trans x, ev2⟩⟩
        · rename_i δ5 μ5 eb
          cases ev2
          exact ⟨O, ms3, F3, δ3, μ2, _, R4, eb, hO, fun σ' H' m F' R' x => k1 σ' H' m F' R' (x3.trans x)⟩
        · rename_i d5 μ5 eb
          cases ev2
          exact ⟨O, ms3, F3, δ3, μ2, _, R4, eb, hO, k1⟩
        · rename_i eb
          cases ev2
          exact ⟨O, ms3, F3, δ3, μ2, _, R4, eb, hO, k1.step x3⟩
        · cases ev2
    · have : i = ds.length := by omega
      subst this
      rw [List.drop_length] at ev2
      unfold forLoopP at ev2
      by_cases hP : Pm μ2
      rotate_left
      · rw [if_neg hP] at ev2; cases ev2
      rw [if_pos hP] at ev2
      cases ev2
      exact .inl ⟨Y.stop ms2 F2 H2 μ2 R2.hr x2 hP, k1 σ2 H2 ms2 F2 R2 x2⟩
  · cases ev⟩
end
end G

set_option Elab.async false
set_option linter.all false
set_option autoImplicit false
set_option maxRecDepth 100000
set_option maxHeartbeats 2000000
namespace G
open PySem PySem.Spec PySem.Calls L2
/-- an own function that may raise -/
structure HasFX (P : Program) (w : World) (K : PySem.W.Frag) (mg : Str → Option Value) (base : Heap) (cl : Nat → Addr) (k : Nat) (x : Str) (n : Nat) (ps : List Str) (fn : XF) where
  f : Addr
  fd : FuncData
  ok : FnX P w K mg base k f fd n ps (spXF (gk K cl) n fn)
  mg : mg x = some (.ref f)
  kp : PySem.W.keepIn K (.ref f) = true
  bd : Binds K fd ps []
/-- an own function, called where an exception is handled -/
structure HasH (P : Program) (w : World) (K : PySem.W.Frag) (mg : Str → Option Value) (base : Heap) (cl : Nat → Addr) (k : Nat) (x : Str) (n : Nat) (ps : List Str) (fn : FF) where
  f : Addr
  fd : FuncData
  ok : L2H.FnH P w K mg base CX0 k f fd ps (spF (gk K cl) n fn)
  mg : mg x = some (.ref f)
  kp : PySem.W.keepIn K (.ref f) = true
  bd : Binds K fd ps []
/-- f(..) as a value, f one that may raise but doesn't here -/
def eFnX (fn : XF) (r : AF) : EF := aThen r fun xs _ μ => match fn xs μ with
  | some (.ok d μ2) => some (d, μ2)
  | _ => none
theorem de_callX {X : Cx} {cl : Nat → Addr} {e : Expr} {es : List Expr} {pos p : Pos} {r : AF} {k n : Nat} {f : Addr} {fd : FuncData} {ps : List Str} {fn : XF} {x : Str} (Gf : FnX X.prog X.w X.K X.mg X.base k f fd n ps (spXF (gk X.K cl) n fn)) (hgd : X.A.guards = some []) (hr : Room k X.A) (hg : Gl X x) (hm : X.mg x = some (.ref f)) (hk : PySem.W.keepIn X.K (.ref f) = true) (hb : Binds X.K fd ps [])
    (ha : DA X cl (e :: es) r) (hlen : ∀ δ μ xs μ1, r δ μ = some (xs, μ1) → xs.length = n) (hdb : (x == ("__debug__" : Str)) = false := by decide) (he : starEach (e :: es) X.env = (false, eval e X.env) :: starEach es X.env := by rfl) (hpl : (backTo pos (starEach es X.env)).any (·.1) = false := by rfl) :
    DE X cl (.Call (.Name x p) (e :: es) [] pos) (eFnX fn r) := ⟨(pe_callFX Gf hgd hr hg hm hk hb ha.p hdb he hpl).weak fun σ H Q ⟨O, ms, F, δ, μ, d, μ', R, ev, kk⟩ => by
  obtain ⟨xs, μ1, e1, ev⟩ := aThen_some ev
  refine ⟨O, ms, F, δ, μ, xs, μ1, R, e1, fun vs H1 ms1 F1 r1 s1 q1 => ?_⟩
  split at ev
  · rename_i d2 μ2 e2
    cases ev
    exact ⟨ms1, F1, xs, μ1, _, r1.xp, q1.xp, hlen _ _ _ _ e1, e2, fun v H' ms' F' r' s' q' => kk v H' ms' F' r'.xp (s1.trans' r1 s') q'.xp⟩
  · cases ev⟩
theorem un1 {A : Around} (h : A.units + 65 < cLine) : A.units + 1 < cLine := by omega
theorem _root_.L2H.RoomH.mono' {k j : Nat} {A : Around} (r : L2H.RoomH k A) (h : j ≤ k) : L2H.RoomH j A := ⟨by have := r.dp; omega, by have := r.un; omega⟩
/-- what a table of pairs tells -/
def pairT (yes no : List (Nat × Nat)) (i j : Nat) : Option Bool := if (i, j) ∈ yes then some true else if (i, j) ∈ no then some false else none
theorem pairT_ok {yes no : List (Nat × Nat)} {R : Nat → Nat → Bool → Prop} (hy : ∀ p ∈ yes, R p.1 p.2 true) (hn : ∀ p ∈ no, R p.1 p.2 false) {i j : Nat} {b : Bool} (e : pairT yes no i j = some b) : R i j b := by
  unfold pairT at e
  split at e
  · rename_i h; cases e; exact hy _ h
  · split at e
    · rename_i h; cases e; exact hn _ h
    · cases e
end G

set_option Elab.async false
set_option linter.all false
set_option autoImplicit false
set_option maxRecDepth 100000
set_option maxHeartbeats 4000000
namespace GL
open PySem PySem.Spec PySem.Calls L2 G
/-! readings, by plain Lean: what speaks of no law -/
theorem lc_map {i : Nat} {te : EF} {δ : List SV} {μ : List MO} {h : D → D} : ∀ {ds : List D}, (∀ d ∈ ds, te (δ.set i (.d d)) μ = some (h d, μ)) → lcLoop (nmG i) tYesD te δ ds μ = some (ds.map h, μ)
  | [], _ => rfl
  | d :: ds, q => by
    have e := q d (List.mem_cons_self ..)
    have r := lc_map (ds := ds) fun x hx => q x (List.mem_cons_of_mem _ hx)
    unfold lcLoop
    simp only [nmG, tYesD, e]
    rw [show lcLoop (nmG i) tYesD te δ ds μ = some (ds.map h, μ) from r]
    rfl
theorem lc_filter {i : Nat} {tt : TF} {te : EF} {δ : List SV} {μ : List MO} {p : D → Bool} : ∀ {ds : List D}, (∀ d ∈ ds, tt (δ.set i (.d d)) μ = some (p d, μ)) → (∀ d ∈ ds, te (δ.set i (.d d)) μ = some (d, μ)) → lcLoop (nmG i) tt te δ ds μ = some (ds.filter p, μ)
  | [], _, _ => rfl
  | d :: ds, q, q' => by
    have e := q d (List.mem_cons_self ..)
    have e' := q' d (List.mem_cons_self ..)
    have r := lc_filter (ds := ds) (fun x hx => q x (List.mem_cons_of_mem _ hx)) (fun x hx => q' x (List.mem_cons_of_mem _ hx))
    unfold lcLoop
    simp only [nmG, e]
    cases hp : p d with
    | false =>
      simp only
      rw [show lcLoop (nmG i) tt te δ ds μ = _ from r, List.filter_cons_of_neg (by simp [hp])]
    | true =>
      simp only [e']
      rw [show lcLoop (nmG i) tt te δ ds μ = _ from r, List.filter_cons_of_pos hp]
abbrev sg (c : Nat) : D := .str ⟨#[c]⟩
theorem lt_one (a b : Nat) : (([a] : List Nat) < [b]) ↔ a < b := by
  rw [List.cons_lt_cons_iff]
  simp
theorem le_lo (c k : Nat) (x : Str) (hx : x.cps.toList = [k]) (μ : List MO) : leD (.str x) (sg c) μ = some (.bl (decide (k ≤ c)), μ) := by
  simp [leD, hx, lt_one, ← Nat.not_lt]
theorem le_hi (c k : Nat) (x : Str) (hx : x.cps.toList = [k]) (μ : List MO) : leD (sg c) (.str x) μ = some (.bl (decide (c ≤ k)), μ) := by
  simp [leD, hx, lt_one, ← Nat.not_lt]
theorem bls_map (p : Nat → Bool) : ∀ cs : List Nat, blsD (cs.map fun c => D.bl (p c)) = some (cs.map p)
  | [] => rfl
  | c :: cs => by
    show blsD (D.bl (p c) :: cs.map _) = _
    unfold blsD
    rw [bls_map p cs]
    rfl
theorem all_id (p : Nat → Bool) (cs : List Nat) : (cs.map p).all id = cs.all p := by induction cs <;> simp_all
def inSp (c : Nat) : Bool := decide (32 ≤ c) && decide (c ≤ 126)
theorem cps_len (s : Str) : s.cps.toList.length = s.length := by simp [Str.length]
theorem ss : (" " : Str).cps.toList = [32] := by decide
theorem st : ("~" : Str).cps.toList = [126] := by decide
def onS (p : Nat → Bool) : D → Bool
  | .str x => p (x.cps.getD 0 0)
  | _ => false
theorem onS_sg (p : Nat → Bool) (c : Nat) : onS p (sg c) = p c := rfl
theorem map_signs (p : Nat → Bool) (s : Str) : (signsD s).map (fun d => D.bl (onS p d)) = s.cps.toList.map fun c => D.bl (p c) := by
  unfold signsD
  rw [List.map_map]
  rfl
theorem run_ask {n : Nat} {t : TF} {e : EF} {ds : List D} {μ μ1 μ2 : List MO} {b : Bool} {d : D} (ht : t (startD n ds) μ = some (b, μ1)) (he : b = false → e (startD n ds) μ1 = some (d, μ2)) (hb : b = true → d = .bl false ∧ μ2 = μ1) :
    runB n (bThen (bIf t (bRet (eC (.bl false))) bNil) (bRet e)) ds μ = some (d, μ2) := by
  cases b with
  | true =>
    obtain ⟨rfl, rfl⟩ := hb rfl
    simp [runB, bThen, bIf, ht, bRet, eC]
  | false =>
    simp [runB, bThen, bIf, ht, bRet, bNil, he rfl]
theorem run_ret {n : Nat} {e : EF} {ds : List D} {μ μ1 : List MO} {d : D} (he : e (startD n ds) μ = some (d, μ1)) : runB n (bRet e) ds μ = some (d, μ1) := by simp [runB, bRet, he]
theorem len_str (s : Str) (hl : s.length ≤ 100) (i : Nat) (δ : List SV) (μ : List MO) (h : δ[i]? = some (.d (.str s))) : eCall lenD (aCons (eVar i) aNil) δ μ = some (.int s.length, μ) := by
  simp [eCall, aThen, aCons, aNil, eVar, eThen, h, lenD, show s.length ≤ 1000000 by omega]
theorem asB_eq {f : EF} {δ : List SV} {μ μ1 : List MO} {b : Bool} (h : f δ μ = some (.bl b, μ1)) : asB f δ μ = some (b, μ1) := by simp [asB, h]
theorem not_eq {f : TF} {δ : List SV} {μ μ1 : List MO} {b : Bool} (h : f δ μ = some (b, μ1)) : tfNot f δ μ = some (!b, μ1) := by simp [tfNot, tThen, h]
theorem or_eq {f g : TF} {δ : List SV} {μ μ1 : List MO} {a b : Bool} (h : f δ μ = some (a, μ1)) (h2 : a = false → g δ μ1 = some (b, μ1)) : tfOr f g δ μ = some (a || b, μ1) := by
  cases a with
  | true => simp [tfOr, tThen, h]
  | false => simp [tfOr, tThen, h, h2 rfl]
theorem and_eq {f g : EF} {δ : List SV} {μ μ1 : List MO} {a b : Bool} (h : f δ μ = some (.bl a, μ1)) (h2 : a = true → g δ μ1 = some (.bl b, μ1)) : eAndV f g δ μ = some (.bl (a && b), μ1) := by
  cases a with
  | false => simp [eAndV, eThen, h]
  | true => simp [eAndV, eThen, h, h2 rfl]
theorem ch_le (a b c : Int) {fa fb fc : EF} {δ : List SV} {μ : List MO} (h1 : fa δ μ = some (.int a, μ)) (h2 : fb δ μ = some (.int b, μ)) (h3 : fc δ μ = some (.int c, μ)) : eChain leD leD fa fb fc δ μ = some (.bl (decide (a ≤ b) && decide (b ≤ c)), μ) := by
  by_cases q : a ≤ b <;> simp [eChain, eThen, h1, h2, h3, leD, q]
theorem ch_lt (a b c : Int) {fa fb fc : EF} {δ : List SV} {μ : List MO} (h1 : fa δ μ = some (.int a, μ)) (h2 : fb δ μ = some (.int b, μ)) (h3 : fc δ μ = some (.int c, μ)) : eChain ltD ltD fa fb fc δ μ = some (.bl (decide (a < b) && decide (b < c)), μ) := by
  by_cases q : a < b <;> simp [eChain, eThen, h1, h2, h3, ltD, q]
theorem signs_len (s : Str) : (signsD s).length = s.length := by simp [signsD, Str.length]
theorem all_eq {n : NF} {xs : List D} {bs : List Bool} {δ : List SV} {μ : List MO} (h : n δ μ = some (xs, μ)) (hb : blsD xs = some bs) : eCall allD (aCons (eFrz n) aNil) δ μ = some (.bl (bs.all id), μ) := by
  simp [eCall, aThen, aCons, aNil, eThen, eFrz, h, allD, hb]
theorem lc_str {i j : Nat} {p : Nat → Bool} {te : EF} {s : Str} {δ : List SV} {μ : List MO} (h : δ[i]? = some (.d (.str s))) (hl : s.length ≤ 100) (hj : j < δ.length) (q : ∀ (c : Nat) (δ' : List SV), δ'[j]? = some (.d (sg c)) → te δ' μ = some (.bl (p c), μ)) :
    nLc (iS (eVar i)) (nmG j) tYesD te [j] δ μ = some (s.cps.toList.map (fun c => D.bl (p c)), μ) := by
  have lc : lcLoop (nmG j) tYesD te (wipeD δ [j]) (signsD s) μ = some ((signsD s).map (fun d => D.bl (onS p d)), μ) := by
    refine lc_map fun d hd => ?_
    obtain ⟨c, hc, rfl⟩ := List.mem_map.mp hd
    refine q c _ ?_
    simp [wipeD, hj]
  rw [map_signs] at lc
  simp [nLc, iS, eThen, eVar, h, signs_len, show s.length ≤ 1000000 by omega, lc]
theorem dec_nat (a b : Nat) : decide ((a : Int) ≤ (b : Int)) = decide (a ≤ b) := by simp
theorem run_set {n i : Nat} {f e : EF} {ds : List D} {μ μ1 μ2 : List MO} {x d : D} (hf : f (startD n ds) μ = some (x, μ1)) (he : e ((startD n ds).set i (.d x)) μ1 = some (d, μ2)) : runB n (bThen (bSet i f) (bRet e)) ds μ = some (d, μ2) := by
  simp [runB, bThen, bSet, hf, bRet, he]
theorem lc_flt {i j : Nat} {p : Nat → Bool} {tt : TF} {s : Str} {δ : List SV} {μ : List MO} (h : δ[i]? = some (.d (.str s))) (hl : s.length ≤ 100) (hj : j < δ.length) (hi : i ≠ j) (q : ∀ (c : Nat) (δ' : List SV), δ'[j]? = some (.d (sg c)) → (∀ m, m ≠ j → δ'[m]? = δ[m]?) → tt δ' μ = some (p c, μ)) :
    nLc (iS (eVar i)) (nmG j) tt (eVar j) [j] δ μ = some ((s.cps.toList.filter p).map sg, μ) := by
  have lc : lcLoop (nmG j) tt (eVar j) (wipeD δ [j]) (signsD s) μ = some ((signsD s).filter (onS p), μ) := by
    refine lc_filter (fun d hd => ?_) fun d hd => ?_
    · obtain ⟨c, hc, rfl⟩ := List.mem_map.mp hd
      refine q c _ (by simp [wipeD, hj]) fun m hm => ?_
      rw [List.getElem?_set_ne (Ne.symm hm)]
      simp [wipeD, List.getElem?_set_ne (Ne.symm hm)]
    · obtain ⟨c, hc, rfl⟩ := List.mem_map.mp hd
      simp [eVar, wipeD, hj]
  have fm : (signsD s).filter (onS p) = (s.cps.toList.filter p).map sg := by
    unfold signsD
    rw [List.filter_map]
    rfl
  rw [fm] at lc
  simp [nLc, iS, eThen, eVar, h, signs_len, show s.length ≤ 1000000 by omega, lc]
theorem toPyL_sg (μ : List MO) (n : Nat) : ∀ cs : List Nat, toPyL (toPy μ (n + 1)) (cs.map sg) = some (cs.map fun c => PyData.str ⟨#[c]⟩)
  | [] => rfl
  | c :: cs => by
    show toPyL _ (sg c :: cs.map sg) = _
    unfold toPyL
    rw [toPyL_sg μ n cs]
    rfl
theorem canL_sg : ∀ cs : List Nat, (∀ c ∈ cs, c < 128) → PyData.canLayAll0 (cs.map fun c => PyData.str ⟨#[c]⟩) = true
  | [], _ => rfl
  | c :: cs, h => by
    have h1 := h c (List.mem_cons_self ..)
    simp only [List.map_cons, PyData.canLayAll0, PyData.canLay0, Bool.and_eq_true]
    exact ⟨by simp [PyData.strOk]; omega, canL_sg cs fun x hx => h x (List.mem_cons_of_mem _ hx)⟩
theorem depthL_sg : ∀ cs : List Nat, PyData.depthAll (cs.map fun c => PyData.str ⟨#[c]⟩) = 0
  | [] => rfl
  | c :: cs => by simp only [List.map_cons, PyData.depthAll, PyData.depth, depthL_sg cs]; rfl
theorem eq_nil (cs : List Nat) (h : ∀ c ∈ cs, c < 128) (μ : List MO) : eqD (.lst (cs.map sg)) (.lst []) μ = some (.bl cs.isEmpty, μ) := by
  have a1 : toPy μ DEEP (.lst (cs.map sg)) = some (.list (cs.map fun c => PyData.str ⟨#[c]⟩)) := by
    show (toPyL (toPy μ 15) (cs.map sg)).map _ = _
    rw [toPyL_sg]
    rfl
  have a2 : toPy μ DEEP (.lst []) = some (.list []) := rfl
  have a3 : shp (.list (cs.map fun c => PyData.str ⟨#[c]⟩)) = true := by
    simp only [shp, SeqAt.shaped, PyData.canLay0, canL_sg cs h, PyData.depth, depthL_sg]
    decide
  have a4 : shp (.list []) = true := by decide +kernel
  have a5 : PyData.eqv (.list (cs.map fun c => PyData.str ⟨#[c]⟩)) (.list []) = cs.isEmpty := by
    cases cs <;> simp [PyData.eqv, PyData.eqvAll]
  simp [eqD, eqP, a1, a2, a3, a4, a5]
theorem eqn_at {n : NF} {cs : List Nat} {δ : List SV} {μ : List MO} (h : n δ μ = some (cs.map sg, μ)) (hc : ∀ c ∈ cs, c < 128) : eBin eqD (eFrz n) (eFrz (nLst aNil)) δ μ = some (.bl cs.isEmpty, μ) := by
  have e := eq_nil cs hc μ
  simp [eBin, eThen, eFrz, h, nLst, aNil, e]
theorem flt_empty (p : Nat → Bool) (cs : List Nat) : (cs.filter fun c => !p c).isEmpty = cs.all p := by
  induction cs with
  | nil => rfl
  | cons c cs ih => cases h : p c <;> simp [h, ih]
theorem atI_of {α : Type} {xs : List α} {d : Int} (h0 : 0 ≤ d) (h1 : d < xs.length) : ∃ x, L2.atI xs d = some x ∧ x ∈ xs := by
  have hz : d.toNat < xs.length := by omega
  refine ⟨xs[d.toNat], ?_, List.getElem_mem hz⟩
  simp [L2.atI, L2.ixN, h0, h1, hz]
theorem ix_lst {xs : List D} {d : Int} {μ : List MO} (h0 : 0 ≤ d) (h1 : d < xs.length) : ∃ x, ixD (.lst xs) (.int d) μ = some (x, μ) ∧ x ∈ xs := by
  obtain ⟨x, e, m⟩ := atI_of h0 h1
  exact ⟨x, by simp [ixD, seqD, e], m⟩
theorem ix_str {s : Str} {d : Int} {μ : List MO} (hl : s.length ≤ 1000) (h0 : 0 ≤ d) (h1 : d < s.length) : ∃ c, ixD (.str s) (.int d) μ = some (sg c, μ) ∧ c ∈ s.cps.toList := by
  obtain ⟨x, e, m⟩ := atI_of (xs := s.cps.toList) h0 (by rw [cps_len]; exact h1)
  exact ⟨x, by simp [ixD, e, show s.length ≤ 1000000 by omega], m⟩
theorem ixe {fx fy : EF} {δ : List SV} {μ μ1 μ2 : List MO} {x y z : D} (h1 : fx δ μ = some (x, μ1)) (h2 : fy δ μ1 = some (y, μ2)) (h3 : ixD x y μ2 = some (z, μ2)) : eBin ixD fx fy δ μ = some (z, μ2) := by
  simp [eBin, eThen, h1, h2, h3]
theorem aC {f : EF} {r : AF} {δ : List SV} {μ μ1 μ2 : List MO} {x : D} {xs : List D} (h1 : f δ μ = some (x, μ1)) (h2 : r δ μ1 = some (xs, μ2)) : aCons f r δ μ = some (x :: xs, μ2) := by simp [aCons, eThen, h1, h2]
theorem frz {r : AF} {δ : List SV} {μ μ1 : List MO} {xs : List D} (h : r δ μ = some (xs, μ1)) (hl : xs.length ≤ 100) : eFrz (nLst r) δ μ = some (.lst xs, μ1) := by simp [eFrz, nLst, h, show xs.length ≤ 1000000 by omega]
theorem subE {fa fb : EF} {δ : List SV} {μ μ1 μ2 : List MO} {a b : Int} (h1 : fa δ μ = some (.int a, μ1)) (h2 : fb δ μ1 = some (.int b, μ2)) : eBin subD fa fb δ μ = some (.int (a - b), μ2) := by simp [eBin, eThen, h1, h2, subD]
theorem addE {fa fb : EF} {δ : List SV} {μ μ1 μ2 : List MO} {a b : Int} (h1 : fa δ μ = some (.int a, μ1)) (h2 : fb δ μ1 = some (.int b, μ2)) : eBin addD fa fb δ μ = some (.int (a + b), μ2) := by simp [eBin, eThen, h1, h2, addD]
theorem addS {fa fb : EF} {δ : List SV} {μ μ1 μ2 : List MO} {a b : Str} (h1 : fa δ μ = some (.str a, μ1)) (h2 : fb δ μ1 = some (.str b, μ2)) (hl : a.length + b.length ≤ 1000) : eBin addD fa fb δ μ = some (.str (a ++ b), μ2) := by simp [eBin, eThen, h1, h2, addD, show a.length + b.length ≤ 1000000 by omega]
theorem ret_eq {f : EF} {δ : List SV} {μ μ1 : List MO} {d : D} (h : f δ μ = some (d, μ1)) : bRet f δ μ = some (.rt d μ1) := by simp [bRet, h]
theorem if_t {t : TF} {fa fb : EF} {δ : List SV} {μ μ1 : List MO} {r : D × List MO} (ht : t δ μ = some (true, μ1)) (h : fa δ μ1 = some r) : eIf t fa fb δ μ = some r := by simp [eIf, tThen, ht, h]
theorem if_f {t : TF} {fa fb : EF} {δ : List SV} {μ μ1 : List MO} {r : D × List MO} (ht : t δ μ = some (false, μ1)) (h : fb δ μ1 = some r) : eIf t fa fb δ μ = some r := by simp [eIf, tThen, ht, h]
theorem then_set {i : Nat} {f : EF} {g : BF} {δ : List SV} {μ μ1 : List MO} {x : D} (h : f δ μ = some (x, μ1)) : bThen (bSet i f) g δ μ = g (δ.set i (.d x)) μ1 := by simp [bThen, bSet, h]
theorem run_of {n : Nat} {b : BF} {ds : List D} {μ μ1 : List MO} {d : D} (h : b (startD n ds) μ = some (.rt d μ1)) : runB n b ds μ = some (d, μ1) := by simp [runB, h]
theorem eq_int {fa fb : EF} {δ : List SV} {μ μ1 μ2 : List MO} {a b : Int} (h1 : fa δ μ = some (.int a, μ1)) (h2 : fb δ μ1 = some (.int b, μ2)) : eBin eqD fa fb δ μ = some (.bl (decide (a = b)), μ2) := by
  by_cases q : a = b <;> simp [eBin, eThen, h1, h2, eqD, eqP, toPy, shp, SeqAt.shaped, PyData.canLay0, PyData.depth, PyData.eqv, q]
theorem ask_ret {t : TF} {e : EF} {g : BF} {δ : List SV} {μ μ1 μ2 : List MO} {d : D} (h : t δ μ = some (true, μ1)) (h2 : e δ μ1 = some (d, μ2)) : bThen (bIf t (bRet e) bNil) g δ μ = some (.rt d μ2) := by simp [bThen, bIf, h, bRet, h2]
theorem ask_on {t : TF} {b : BF} {g : BF} {δ : List SV} {μ μ1 : List MO} (h : t δ μ = some (false, μ1)) : bThen (bIf t b bNil) g δ μ = g δ μ1 := by simp [bThen, bIf, h, bNil]
theorem cut_mem (z : Str) (lo hi : Option Int) : (∀ c ∈ (cutS z lo hi).cps.toList, c ∈ z.cps.toList) ∧ (cutS z lo hi).length ≤ z.length := by
  constructor
  · intro c hc
    have : c ∈ ((z.cps.toList.drop (HT.sIx z.length 0 lo)).take (HT.sIx z.length z.length hi - HT.sIx z.length 0 lo)) := by simpa [cutS] using hc
    exact List.mem_of_mem_drop (List.mem_of_mem_take this)
  · show ((z.cps.toList.drop (HT.sIx z.length 0 lo)).take (HT.sIx z.length z.length hi - HT.sIx z.length 0 lo)).toArray.size ≤ _
    rw [List.size_toArray, List.length_take, List.length_drop, cps_len]
    omega
theorem cut_len (z : Str) (lo hi : Option Int) : (cutS z lo hi).length = min (HT.sIx z.length z.length hi - HT.sIx z.length 0 lo) (z.length - HT.sIx z.length 0 lo) := by
  show ((z.cps.toList.drop (HT.sIx z.length 0 lo)).take (HT.sIx z.length z.length hi - HT.sIx z.length 0 lo)).toArray.size = _
  rw [List.size_toArray, List.length_take, List.length_drop, cps_len]
theorem slE {f : EF} {lo hi : PF} {δ : List SV} {μ : List MO} {z : Str} {l h : Option Int} (h1 : f δ μ = some (.str z, μ)) (h2 : lo δ μ = some (l, μ)) (h3 : hi δ μ = some (h, μ)) (hl : z.length ≤ 1000) : eSlS f lo hi δ μ = some (.str (cutS z l h), μ) := by
  simp [eSlS, eThen, h1, h2, h3, show z.length ≤ 1000000 by omega]
theorem soE {f : EF} {δ : List SV} {μ : List MO} {i : Int} (h : f δ μ = some (.int i, μ)) : pSo f δ μ = some (some i, μ) := by simp [pSo, eThen, h]
theorem joinL_one : ∀ cs : List Nat, TL.joinL [] (cs.map fun c => [c]) = cs
  | [] => rfl
  | [c] => rfl
  | c :: d :: r => by
    show [c] ++ ([] ++ TL.joinL [] ((d :: r).map fun c => [c])) = _
    rw [joinL_one (d :: r)]
    rfl
theorem join_sg (cs : List Nat) : (Txt.join "" (cs.map fun c => (⟨#[c]⟩ : Str))).cps.toList = cs := by
  rw [TL.join_eq]
  refine (TL.tl_join "" _).trans ?_
  rw [List.map_map]
  exact joinL_one cs
theorem strs_sg : ∀ cs : List Nat, strsD (cs.map sg) = some (cs.map fun c => (⟨#[c]⟩ : Str))
  | [] => rfl
  | c :: cs => by
    show strsD (sg c :: cs.map sg) = _
    unfold strsD
    rw [strs_sg cs]
    rfl
theorem sum_sg : ∀ cs : List Nat, ((cs.map fun c => (⟨#[c]⟩ : Str)).map (·.length)).sum = cs.length
  | [] => rfl
  | c :: cs => by
    rw [List.map_cons, List.map_cons, List.sum_cons, sum_sg cs, List.length_cons]
    show 1 + _ = _
    omega
theorem join_ok (cs : List Nat) (hl : cs.length ≤ 1000) (μ : List MO) : joinD (.str "") [.lst (cs.map sg)] μ = some (.str (Txt.join "" (cs.map fun c => (⟨#[c]⟩ : Str))), μ) := by
  have e0 : ("" : Str).length = 0 := rfl
  simp only [joinD, seqD, strs_sg, sum_sg, List.length_map, e0, Nat.mul_zero, Nat.add_zero]
  rw [if_pos (by omega)]
theorem join_len (cs : List Nat) : (Txt.join "" (cs.map fun c => (⟨#[c]⟩ : Str))).length = cs.length := by
  rw [← cps_len, join_sg]
theorem range_len (n : Nat) : (rangeD 0 n).length = n := by simp [rangeD]
theorem mtE {T : String} {g : D → G1} {fo : EF} {r : AF} {δ : List SV} {μ μ1 μ2 : List MO} {x : D} {ds : List D} {z : D × List MO} (h1 : fo δ μ = some (x, μ1)) (h2 : tyB T μ1 x = true) (h3 : r δ μ1 = some (ds, μ2)) (h4 : g x ds μ2 = some z) : eMt T g fo r δ μ = some z := by
  simp [eMt, eThen, h1, h2, aThen, h3, h4]
theorem frzE {n : NF} {δ : List SV} {μ μ1 : List MO} {xs : List D} (h : n δ μ = some (xs, μ1)) : eFrz n δ μ = some (.lst xs, μ1) := by simp [eFrz, h]
theorem fnE {fn : FF} {r : AF} {δ : List SV} {μ μ1 : List MO} {xs : List D} {z : D × List MO} (h : r δ μ = some (xs, μ1)) (h2 : fn xs μ1 = some z) : eFn fn [] r δ μ = some z := by simp [eFn, aThen, h, h2]
theorem then_for {it : IF} {g : GF} {body k : BF} {ds : List D} {δ δ' : List SV} {μ μ1 μ2 : List MO} (h : it δ μ = some (ds, μ1)) (h2 : forLoop g body ds δ μ1 = some (.nx δ' μ2)) : bThen (bFor it g body) k δ μ = k δ' μ2 := by simp [bThen, bFor, h, h2]
theorem for_eq {it : IF} {g : GF} {body : BF} {ds : List D} {δ : List SV} {μ μ1 : List MO} {o : Option Out} (h : it δ μ = some (ds, μ1)) (h2 : forLoop g body ds δ μ1 = o) : bFor it g body δ μ = o := by simp [bFor, h, h2]
theorem if_nx {t : TF} {b : BF} {δ : List SV} {μ μ1 : List MO} (h : t δ μ = some (false, μ1)) : bIf t b bNil δ μ = some (.nx δ μ1) := by simp [bIf, h, bNil]
theorem var_at {i : Nat} {x : D} {δ : List SV} {μ : List MO} (h : δ[i]? = some (.d x)) : eVar i δ μ = some (x, μ) := by simp [eVar, h]
theorem a_nil (δ : List SV) (μ : List MO) : aNil δ μ = some ([], μ) := rfl
theorem fn1 {fn : FF} {i : Nat} {x z : D} {δ : List SV} {μ : List MO} (h : δ[i]? = some (.d x)) (e : fn [x] μ = some (z, μ)) : eFn fn [] (aCons (eVar i) aNil) δ μ = some (z, μ) := fnE (aC (var_at h) (a_nil _ _)) e
theorem callE {g : G1} {r : AF} {δ : List SV} {μ μ1 : List MO} {xs : List D} {z : D × List MO} (h : r δ μ = some (xs, μ1)) (h2 : g xs μ1 = some z) : eCall g r δ μ = some z := by simp [eCall, aThen, h, h2]
theorem for_two {J : List SV → Prop} {i : Nat} {body : BF} : ∀ {ds : List D}, (∀ d ∈ ds, ∀ δ μ, J δ → ∃ δ' μ', body (δ.set i (.d d)) μ = some (.nx δ' μ') ∧ J δ') → ∀ δ μ, J δ → ∃ δ' μ', forLoop (nmG i) body ds δ μ = some (.nx δ' μ') ∧ J δ'
  | [], _, δ, μ, h => ⟨δ, μ, rfl, h⟩
  | d :: ds, q, δ, μ, h => by
    obtain ⟨δ1, μ1, e1, h1⟩ := q d (List.mem_cons_self ..) δ μ h
    obtain ⟨δ2, μ2, e2, h2⟩ := for_two (ds := ds) (fun x hx => q x (List.mem_cons_of_mem _ hx)) δ1 μ1 h1
    refine ⟨δ2, μ2, ?_, h2⟩
    unfold forLoop
    simp only [nmG, e1]
    exact e2
theorem ch_text (c i : Nat) (δ : List SV) (μ : List MO) (h : δ[i]? = some (.d (sg c))) : eChain leD leD (eC (.str " ")) (eVar i) (eC (.str "~")) δ μ = some (.bl (inSp c), μ) := by
  have e1 := le_lo c 32 " " ss μ
  have e2 := le_hi c 126 "~" st μ
  by_cases q : 32 ≤ c <;> simp [eChain, eThen, eC, eVar, h, e1, e2, inSp, q]
theorem ord_at (c i : Nat) (δ : List SV) (μ : List MO) (h : δ[i]? = some (.d (sg c))) : eBin neD (eCall ordD (aCons (eVar i) aNil)) (eC (.int 37)) δ μ = some (.bl (decide (c ≠ 37)), μ) := by
  by_cases q : c = 37 <;> simp [eBin, eThen, eCall, aThen, aCons, aNil, eVar, eC, h, ordD, Str.length, neD, eqP, toPy, shp, SeqAt.shaped, PyData.canLay0, PyData.depth, PyData.eqv, q] <;> omega
theorem eq_str {fa fb : EF} {δ : List SV} {μ μ1 μ2 : List MO} {a b : Str} (h1 : fa δ μ = some (.str a, μ1)) (h2 : fb δ μ1 = some (.str b, μ2)) : eBin eqD fa fb δ μ = some (.bl (decide (a = b)), μ2) := by simp [eBin, eThen, h1, h2, eqD]
theorem ne_str {fa fb : EF} {δ : List SV} {μ μ1 μ2 : List MO} {a b : Str} (h1 : fa δ μ = some (.str a, μ1)) (h2 : fb δ μ1 = some (.str b, μ2)) : eBin neD fa fb δ μ = some (.bl (!decide (a = b)), μ2) := by simp [eBin, eThen, h1, h2, neD]
theorem notV_eq {f : EF} {δ : List SV} {μ μ1 : List MO} {b : Bool} (h : f δ μ = some (.bl b, μ1)) : eNotV f δ μ = some (.bl (!b), μ1) := by simp [eNotV, eThen, h]
theorem tand_eq {f g : TF} {δ : List SV} {μ μ1 : List MO} {a b : Bool} (h : f δ μ = some (a, μ1)) (h2 : a = true → g δ μ1 = some (b, μ1)) : tfAnd f g δ μ = some (a && b, μ1) := by
  cases a with
  | false => simp [tfAnd, tThen, h]
  | true => simp [tfAnd, tThen, h, h2 rfl]
theorem orV_eq {f g : EF} {δ : List SV} {μ μ1 : List MO} {a b : Bool} (h : f δ μ = some (.bl a, μ1)) (h2 : a = false → g δ μ1 = some (.bl b, μ1)) : eOrV f g δ μ = some (.bl (a || b), μ1) := by
  cases a with
  | true => simp [eOrV, eThen, h]
  | false => simp [eOrV, eThen, h, h2 rfl]
theorem gtE {fa fb : EF} {δ : List SV} {μ μ1 μ2 : List MO} {a b : Int} (h1 : fa δ μ = some (.int a, μ1)) (h2 : fb δ μ1 = some (.int b, μ2)) : eBin gtD fa fb δ μ = some (.bl (decide (b < a)), μ2) := by simp [eBin, eThen, h1, h2, gtD]
theorem ltE {fa fb : EF} {δ : List SV} {μ μ1 μ2 : List MO} {a b : Int} (h1 : fa δ μ = some (.int a, μ1)) (h2 : fb δ μ1 = some (.int b, μ2)) : eBin ltD fa fb δ μ = some (.bl (decide (a < b)), μ2) := by simp [eBin, eThen, h1, h2, ltD]
theorem then_expr {f : EF} {g : BF} {δ : List SV} {μ μ1 : List MO} {x : D} (h : f δ μ = some (x, μ1)) : bThen (bExpr f) g δ μ = g δ μ1 := by simp [bThen, bExpr, h]
theorem then_nx {f g : BF} {δ δ1 : List SV} {μ μ1 : List MO} (h : f δ μ = some (.nx δ1 μ1)) : bThen f g δ μ = g δ1 μ1 := by simp [bThen, h]
theorem then_rt {f g : BF} {δ : List SV} {μ μ1 : List MO} {d : D} (h : f δ μ = some (.rt d μ1)) : bThen f g δ μ = some (.rt d μ1) := by simp [bThen, h]
theorem then_xc {f g : BF} {δ δ1 : List SV} {μ μ1 : List MO} {C : Nat} {x m : Str} {d : D} (h : f δ μ = some (.xc C x m d δ1 μ1)) : bThen f g δ μ = some (.xc C x m d δ1 μ1) := by simp [bThen, h]
theorem if_at {t : TF} {a b : BF} {δ : List SV} {μ μ1 : List MO} {c : Bool} (h : t δ μ = some (c, μ1)) : bIf t a b δ μ = if c = true then a δ μ1 else b δ μ1 := by simp [bIf, h]

end GL

set_option Elab.async false
set_option linter.all false
set_option autoImplicit false
set_option maxRecDepth 100000
set_option maxHeartbeats 2000000
namespace G
open PySem PySem.Spec PySem.Calls L2 PyProof.Rows
section
variable {X : Cx} {cl : Nat → Addr}
/-! ### text.index, list.pop -/
def indexS : D → G1 := fun x ds μ => match x, ds with
  | .str a, [.str b] => match Builtin.Str.occurrences a b 0 a.length 1 with
    | i :: _ => some (.int (i : Nat), μ)
    | [] => none
  | _, _ => none
theorem md_indexS : MtD X cl "str.index" indexS := by
  intro ms F H μ x vs dx ds d μ' Q r hx hv ev k
  unfold indexS at ev
  split at ev
  · split at ev
    · rename_i i rest ho
      cases ev
      obtain ⟨v, rfl, hb⟩ := hv.one'
      exact ⟨_, mt_sindex, _, _, i, rest, hx, by rw [hb], ho, k.imm r rfl⟩
    · cases ev
  · cases ev
theorem HasL.dropLast {Γ : Gm} {ms : List Addr} {F : Hp} {vs : List V} {ds : List D} (h : HasL Γ ms F vs ds) : HasL Γ ms F vs.dropLast ds.dropLast := by
  rw [List.dropLast_eq_take, List.dropLast_eq_take, h.length]
  exact h.take _
def popD : D → G1 := fun x ds μ => match x, ds with
  | .mut k, [] => match μ[k]? with
    | some (.lst xs) => match xs[xs.length - 1]? with
      | some y => some (y, μ.set k (.lst xs.dropLast))
      | none => none
    | _ => none
  | _, _ => none
theorem md_pop : MtD X cl "list.pop" popD := by
  intro ms F H μ x vs dx ds d μ' Q r hx hv ev k
  unfold popD at ev
  split at ev
  · split at ev
    · rename_i xs hk
      split at ev
      · rename_i y hy
        cases ev
        cases hv
        obtain ⟨a, ws, rfl, hm, ha, hl⟩ := mut_lst r hx hk
        obtain ⟨v, e, q⟩ := hl.get hy
        exact ⟨_, mt_pop, a, ws, v, rfl, rfl, ha, by rw [hl.length]; exact e, k.wr r hm hl.dropLast q⟩
      · cases ev
    · cases ev
  · cases ev
/-! ### tuples: +, slices, times -/
def addT : G2 := fun x y μ => match x, y with
  | .tup a, .tup b => if a.length + b.length ≤ 1000000 then some (.tup (a ++ b), μ) else none
  | x, y => addM x y μ
theorem opd_addT : OpD X cl (binaryOp .Add) addT := by
  intro ms F H μ x y dx dy d μ' Q r hx hy ev k
  unfold addT at ev
  split at ev
  · rename_i a b
    split at ev
    · rename_i hz
      cases ev
      obtain ⟨p, xs, rfl, hs, la⟩ := hx
      obtain ⟨q, ys, rfl, ht, lb⟩ := hy
      have nil : ∀ {Γ : Gm} {vs : List V} {ds : List D}, HasL Γ ms F vs ds → vs = [] → ds = [] := fun h e => by
        have := h.length
        rw [e] at this
        exact List.eq_nil_of_length_eq_zero this.symm
      refine ⟨_, op_catA, p, q, xs, ys, rfl, rfl, (Tp.same r.sub hs).sq, (Tp.same r.sub ht).sq, by rw [la.length, lb.length]; exact million hz, fun z => ?_, fun _ z => ?_, fun _ _ c hc => k.tup r (la.append lb) hc⟩
      · have := nil la z
        subst this
        exact k.imm r ⟨q, ys, rfl, ht, lb⟩
      · have := nil lb z
        subst this
        rw [List.append_nil] at k
        exact k.imm r ⟨p, xs, rfl, hs, la⟩
    · cases ev
  · exact opd_addM ms F H μ x y _ _ d μ' Q r hx hy ev k
/-- a tuple's slice -/
def eSlT (f : EF) (lo hi : PF) : EF := eThen f fun x δ μ => match lo δ μ with
  | some (l, μ1) => match hi δ μ1 with
    | some (h, μ2) => match x with
      | .tup xs => some (.tup (cutL xs l h), μ2)
      | _ => none
    | none => none
  | none => none
theorem cutL_whole {xs : List D} {l h : Option Int} (z : HT.sIx xs.length 0 l = 0 ∧ HT.sIx xs.length xs.length h = xs.length) : cutL xs l h = xs := by
  unfold cutL
  rw [z.1, z.2]
  simp
theorem de_slT {a : Expr} {fa : EF} {p2 pos : Pos} {lo hi : Option Expr} {fl fh : PF} (ha : DE X cl a fa) (hl : DP X cl lo fl) (hh : DP X cl hi fh) : DE X cl (.Subscript a (.Slice lo hi none p2) pos) (eSlT fa fl fh) := ⟨(pe_slice sl_tupA ha.p hl.p hh.p).weak fun σ H Q ⟨O, ms, F, δ, μ, d, μ', R, ev, k⟩ => by
  obtain ⟨d1, μ1, e1, ev⟩ := eThen_some ev
  refine tE.seq R e1 fun v H1 ms1 F1 R1 s1 q1 => ?_
  split at ev
  · rename_i l μ2 el
    split at ev
    · rename_i h μ3 eh
      split at ev
      · rename_i xs
        cases ev
        refine tP.seq R1 el fun H2 ms2 F2 R2 s2 => tP.seq R2 eh fun H3 ms3 F3 R3 s3 => ?_
        obtain ⟨a', ys, rfl, hs, hl'⟩ := (q1.step s2).step s3
        have s13 := (s1.trans' R1.hr s2).trans' R2.hr s3
        refine ⟨a', ys, rfl, (Tp.same R3.hr.sub hs).sq, fun z => ?_, fun _ p hp => ?_⟩
        · rw [hl'.length] at z
          rw [cutL_whole z] at k
          exact k _ H3 ms3 F3 R3.hr s13 ⟨a', ys, rfl, hs, hl'⟩
        · exact Fin1.tup (fun v H' ms' F' r s q => k v H' ms' F' r (s13.trans' R3.hr s) q) R3.hr (hl'.cut l h) hp
      · cases ev
    · cases ev
  · cases ev⟩
/-- a tuple times an int -/
def mulT : G2 := fun x y μ => match x, y with
  | .tup a, .int k => if a.isEmpty = false ∧ 2 ≤ k ∧ k ≤ 1000 ∧ a.length ≤ 1000 then some (.tup (List.replicate k.toNat a).flatten, μ) else none
  | x, y => mulM x y μ
theorem flatR {Γ : Gm} {ms : List Addr} {F : Hp} {vs : List V} {ds : List D} (h : HasL Γ ms F vs ds) (n : Nat) : HasL Γ ms F (List.replicate n vs).flatten (List.replicate n ds).flatten := h.flat n
theorem opd_mulT : OpD X cl (binaryOp .Mult) mulT := by
  intro ms F H μ x y dx dy d μ' Q r hx hy ev k
  unfold mulT at ev
  split at ev
  · rename_i a j
    split at ev
    · rename_i hz
      cases ev
      obtain ⟨p, xs, rfl, hs, la⟩ := hx
      refine ⟨_, op_repT, p, j, xs, rfl, hy, (Tp.same r.sub hs).sq, fun z => ?_, hz.2.1, hz.2.2.1, by rw [la.length]; exact hz.2.2.2, fun c hc => k.tup r (la.flat _) hc⟩
      subst z
      have := la.isE
      rw [hz.1] at this
      cases this
    · cases ev
  · exact opd_mulM ms F H μ x y _ _ d μ' Q r hx hy ev k
end
end G

set_option Elab.async false
set_option linter.all false
set_option autoImplicit false
set_option maxRecDepth 100000
set_option maxHeartbeats 2000000
namespace G
open PySem PySem.Spec PySem.Calls L2
/-! ### expressions that may raise -/
abbrev XEF := List SV → List MO → Option Rs
def XOk (Γ : Gm) (W : WX × Hp) (O : Og) (ms : List Addr) (F H : Hp) (σ : L2.St) (δ : List SV) (Q : VK) : Rs → Prop
  | .ok d μ' => Fin1 Γ ms F H d μ' Q
  | .ex C f msg d μ' => ∀ H' ms' F' dx y, SR Γ O ms' F' H' σ δ μ' → Stp ms ms' F F' H H' → F' dx = some (exd dx [(f, y)]) → Has Γ ms' F' y d → W.1 (.ref (Γ.cl C)) (some dx) σ H'
def tX (Γ : Gm) (W : WX × Hp) (g : XEF) : TE := fun σ H Q => ∃ O ms F δ μ r, SR Γ O ms F H σ δ μ ∧ g δ μ = some r ∧ O.H = W.2 ∧ XOk Γ W O ms F H σ δ Q r
structure DX (X : Cx) (cl : Nat → Addr) (e : Expr) (g : XEF) : Prop where
  p : PE X e (tX (gm X cl) (W0 X) g)
theorem XOk.step {Γ : Gm} {W : WX × Hp} {O : Og} {ms ms1 : List Addr} {F F1 H H1 : Hp} {σ : L2.St} {δ : List SV} {μ1 : List MO} {Q : VK} {r : Rs} (k : XOk Γ W O ms F H σ δ Q r) (r1 : HR Γ ms1 F1 H1 μ1) (s : Stp ms ms1 F F1 H H1) : XOk Γ W O ms1 F1 H1 σ δ Q r := by
  cases r with
  | ok d μ => exact Fin1.step k r1 s
  | ex C f msg d μ => exact fun H' ms' F' dx y R s' hd hy => k H' ms' F' dx y R (s.trans' r1 s') hd hy
section
variable {X : Cx} {cl : Nat → Addr} {a b c e : Expr} {es : List Expr} {pos p pos' : Pos} {r rk : AF} {k n : Nat} {f : Addr} {fd : FuncData} {ps ks : List Str} {fn : XF} {x : Str} {ga gb : XEF} {ta : TF}
/-- one that doesn't -/
def gE (fe : EF) : XEF := fun δ μ => match fe δ μ with
  | some (d, μ1) => some (.ok d μ1)
  | none => none
theorem dx_e {fe : EF} (h : DE X cl e fe) : DX X cl e (gE fe) := ⟨h.p.weak fun σ H Q ⟨O, ms, F, δ, μ, rr, R, ev, hO, kk⟩ => by
  unfold gE at ev
  split at ev
  · rename_i d μ1 e1
    cases ev
    exact ⟨O, ms, F, δ, μ, d, μ1, R, e1, kk⟩
  · cases ev⟩
/-- f(..) -/
def gCall (fn : XF) (r : AF) : XEF := fun δ μ => match r δ μ with
  | some (xs, μ1) => fn xs μ1
  | none => none
theorem dx_call (Gf : FnX X.prog X.w X.K X.mg X.base k f fd n ps (spXF (gk X.K cl) n fn)) (hgd : X.A.guards = some []) (hr : Room k X.A) (hg : Gl X x) (hm : X.mg x = some (.ref f)) (hk : PySem.W.keepIn X.K (.ref f) = true) (hb : Binds X.K fd ps [])
    (ha : DA X cl (e :: es) r) (hlen : ∀ δ μ xs μ1, r δ μ = some (xs, μ1) → xs.length = n) (hdb : (x == ("__debug__" : Str)) = false := by decide) (he : starEach (e :: es) X.env = (false, eval e X.env) :: starEach es X.env := by rfl) (hpl : (backTo pos (starEach es X.env)).any (·.1) = false := by rfl) :
    DX X cl (.Call (.Name x p) (e :: es) [] pos) (gCall fn r) := ⟨(pe_callFX Gf hgd hr hg hm hk hb ha.p hdb he hpl).weak fun σ H Q ⟨O, ms, F, δ, μ, rr, R, ev, hO, kk⟩ => by
  unfold gCall at ev
  split at ev
  · rename_i xs μ1 e1
    refine ⟨O, ms, F, δ, μ, xs, μ1, R, e1, fun vs H1 ms1 F1 r1 s1 q1 => ?_⟩
    have R1 := R.step r1 s1
    have k1 := kk.step r1 s1
    refine ⟨ms1, F1, xs, μ1, rr, r1.xp, q1.xp, hlen _ _ _ _ e1, ev, ?_⟩
    cases rr with
    | ok d μ2 => exact fun v H' ms' F' r' s' q' => k1 v H' ms' F' r'.xp s' q'.xp
    | ex C f' msg d μ2 => exact fun dx y H' ms' F' r' s' hd hy => k1 H' ms' F' dx y (R1.step r'.xp s') s' hd hy.xp
  · cases ev⟩
/-- f(.., k = v, ..), all parameters written -/
theorem runFXK {sp : Sp} {n0 : Nat} {g : List Value → List Value → List Value} {gV : List V → List V → List V} {pins : List (Addr × Obj)} {σ : L2.St} {H : Hp} {s : Shared} {Q : VK} {us ws : List Value} {vs zs : List V} (Gf : FnX X.prog X.w X.K X.mg X.base k f fd n ps sp) (hgd : X.A.guards = some []) (hr : Room k X.A)
    (hb : KBn X.K fd ps n0 ks g gV) (I : Inv X pins σ H s) (rv : Vals vs us) (rz : Vals zs ws) (l1 : vs.length = n0) (l2 : zs.length = ks.length) (h : sp (gV vs zs) H Q (WE (W0 X).1 σ)) : wpAny (model X.prog X.w) X.A (call (.ref f) us (ks.zip ws)) (EP X pins σ Q) X.xe s := by
  have r2 := hb.rel rv rz
  refine wpAny_call (codeAny_mono (Gf.go hgd hr I.env0 (hb.to s us ws I.kIn (rv.length.symm.trans l1) (rz.length.symm.trans l2)) r2 h) fun z s' hq => ?_)
  cases z with
  | error e => exact L2N.passAt takesW σ pins H s e s' I hq
  | ok fl =>
    cases fl with
    | ret u => exact I.after hq
    | next => exact (show False from hq).elim
    | brk => exact (show False from hq).elim
    | cont => exact (show False from hq).elim
def tCallXK (n0 m : Nat) (sp : Sp) (gV : List V → List V → List V) (W : WX) (t tk : TA) : TE := fun σ H Q => t σ H fun vs H1 => tk σ H1 fun zs H2 => vs.length = n0 ∧ zs.length = m ∧ sp (gV vs zs) H2 Q (WE W σ)
theorem pe_callFXK {sp : Sp} {n0 : Nat} {g : List Value → List Value → List Value} {gV : List V → List V → List V} {t tk : TA} {kws : List Keyword} (Gf : FnX X.prog X.w X.K X.mg X.base k f fd n ps sp) (hgd : X.A.guards = some []) (hr : Room k X.A) (hg : Gl X x) (hm : X.mg x = some (.ref f)) (hk : PySem.W.keepIn X.K (.ref f) = true) (hb : KBn X.K fd ps n0 ks g gV)
    (ha : PA X (e :: es) t) (hkw : PK X kws tk) (hall : (backToKw pos (keywordEach kws X.env)).all (·.1.isSome) = true := by rfl) (hks : (backToKw pos (keywordEach kws X.env)).filterMap (·.1) = ks := by rfl)
    (hdb : (x == ("__debug__" : Str)) = false := by decide) (he : starEach (e :: es) X.env = (false, eval e X.env) :: starEach es X.env := by rfl)
    (hpl : ((backTo pos (starEach (e :: es) X.env)).any (·.1) || (backToKw pos (keywordEach kws X.env)).any (·.1.isNone)) = false := by rfl) :
    PE X (.Call (.Name x p) (e :: es) kws pos) (tCallXK n0 ks.length sp gV (W0 X).1 t tk) := by
  refine ⟨fun pins s σ H Q I h => ?_⟩
  refine wpAny_Call_Name_kw (ld_glob I hg hm ?_ hdb)
  refine PySem.W.callWith_KW (h₀ := X.base) I.ok.mod.kin hk hall (thn (ha.run pos pins s σ H _ I h) fun us s1 ⟨vs, H1, I1, r, q⟩ => ?_) hpl he
  refine thn (hkw.run pos pins s1 σ H1 _ I1 q) fun ws s2 ⟨zs, H2, I2, rz, l1, l2, q2⟩ => ⟨I2.kIn, ?_⟩
  rw [hks]
  exact runFXK Gf hgd hr hb I2 r rz l1 l2 q2
/-- keywords' values -/
structure DK (X : Cx) (cl : Nat → Addr) (kws : List Keyword) (r : AF) : Prop where
  p : PK X kws (tA (gm X cl) r)
theorem dk_one {nm : Option Str} {kp : Pos} {fe : EF} (h : DE X cl e fe) : DK X cl [⟨nm, e, kp⟩] (aCons fe aNil) := by
  constructor
  have q := pk_cons (nm := nm) (kpos := kp) h.p (pk_nil (X := X))
  refine ⟨fun pos pins s σ H Q I hh => q.run pos pins s σ H Q I ?_⟩
  obtain ⟨O, ms, F, δ, μ, d, μ', R, ev, k⟩ := hh
  obtain ⟨d1, μ1, e1, ev⟩ := eThen_some ev
  dsimp only [aNil] at ev
  cases ev
  exact tE.seq R e1 fun v H1 ms1 F1 R1 s1 q1 => k [v] H1 ms1 F1 R1.hr s1 ⟨v, [], rfl, q1, rfl⟩
/-- the keywords' values behind the positional ones -/
def gCallK (fn : XF) (r rk : AF) : XEF := fun δ μ => match r δ μ with
  | some (xs, μ1) => match rk δ μ1 with
    | some (ys, μ2) => fn (xs ++ ys) μ2
    | none => none
  | none => none
theorem dx_callK {n0 : Nat} {g : List Value → List Value → List Value} {kws : List Keyword} (Gf : FnX X.prog X.w X.K X.mg X.base k f fd n ps (spXF (gk X.K cl) n fn)) (hgd : X.A.guards = some []) (hr : Room k X.A) (hg : Gl X x) (hm : X.mg x = some (.ref f)) (hk : PySem.W.keepIn X.K (.ref f) = true) (hb : KBn X.K fd ps n0 ks g (· ++ ·))
    (ha : DA X cl (e :: es) r) (hkw : DK X cl kws rk) (hl1 : ∀ δ μ xs μ1, r δ μ = some (xs, μ1) → xs.length = n0) (hl2 : ∀ δ μ ys μ2, rk δ μ = some (ys, μ2) → ys.length = ks.length) (hn : n0 + ks.length = n) (hall : (backToKw pos (keywordEach kws X.env)).all (·.1.isSome) = true := by rfl) (hks : (backToKw pos (keywordEach kws X.env)).filterMap (·.1) = ks := by rfl)
    (hdb : (x == ("__debug__" : Str)) = false := by decide) (he : starEach (e :: es) X.env = (false, eval e X.env) :: starEach es X.env := by rfl)
    (hpl : ((backTo pos (starEach (e :: es) X.env)).any (·.1) || (backToKw pos (keywordEach kws X.env)).any (·.1.isNone)) = false := by rfl) :
    DX X cl (.Call (.Name x p) (e :: es) kws pos) (gCallK fn r rk) := ⟨(pe_callFXK Gf hgd hr hg hm hk hb ha.p hkw.p hall hks hdb he hpl).weak fun σ H Q ⟨O, ms, F, δ, μ, rr, R, ev, hO, kk⟩ => by
  unfold gCallK at ev
  split at ev
  · rename_i xs μ1 e1
    split at ev
    · rename_i ys μ2 e2
      refine ⟨O, ms, F, δ, μ, xs, μ1, R, e1, fun vs H1 ms1 F1 r1 s1 q1 => ?_⟩
      have R1 := R.step r1 s1
      refine ⟨O, ms1, F1, δ, μ1, ys, μ2, R1, e2, fun zs H2 ms2 F2 r2 s2 q2 => ?_⟩
      have R2 := R1.step r2 s2
      have k2 := (kk.step r1 s1).step r2 s2
      refine ⟨by rw [q1.length]; exact hl1 _ _ _ _ e1, by rw [q2.length]; exact hl2 _ _ _ _ e2, ms2, F2, xs ++ ys, μ2, rr, r2.xp, (q1.step s2).xp.append q2.xp, by rw [List.length_append, hl1 _ _ _ _ e1, hl2 _ _ _ _ e2]; exact hn, ev, ?_⟩
      cases rr with
      | ok d μ3 => exact fun v H' ms' F' r' s' q' => k2 v H' ms' F' r'.xp s' q'.xp
      | ex C f' msg d μ3 => exact fun dx y H' ms' F' r' s' hd hy => k2 H' ms' F' dx y (R2.step r'.xp s') s' hd hy.xp
    · cases ev
  · cases ev⟩
/-- a if c else b -/
def gIf (t : TF) (ga gb : XEF) : XEF := fun δ μ => match t δ μ with
  | some (true, μ1) => ga δ μ1
  | some (false, μ1) => gb δ μ1
  | none => none
theorem dx_if (hc : DT X cl c ta) (ha : DX X cl a ga) (hb : DX X cl b gb) : DX X cl (.IfExp c a b pos) (gIf ta ga gb) := ⟨(pe_ifExp hc.p ha.p hb.p).weak fun σ H Q ⟨O, ms, F, δ, μ, rr, R, ev, hO, kk⟩ => by
  unfold gIf at ev
  split at ev
  · rename_i μ1 e1
    exact tT.seq R e1 fun H1 ms1 F1 R1 s1 => ⟨O, ms1, F1, δ, μ1, rr, R1, ev, hO, kk.step R1.hr s1⟩
  · rename_i μ1 e1
    exact tT.seq R e1 fun H1 ms1 F1 R1 s1 => ⟨O, ms1, F1, δ, μ1, rr, R1, ev, hO, kk.step R1.hr s1⟩
  · cases ev⟩
/-! the statements over them -/
def bSetG (i : Nat) (g : XEF) : BF := fun δ μ => match g δ μ with
  | some (.ok d μ2) => some (.nx (δ.set i (.d d)) μ2)
  | some (.ex C f msg d μ2) => some (.xc C f msg d δ μ2)
  | none => none
def bRetG (g : XEF) : BF := fun δ μ => match g δ μ with
  | some (.ok d μ2) => some (.rt d μ2)
  | some (.ex C f msg d μ2) => some (.xc C f msg d δ μ2)
  | none => none
def bExprG (g : XEF) : BF := fun δ μ => match g δ μ with
  | some (.ok _ μ2) => some (.nx δ μ2)
  | some (.ex C f msg d μ2) => some (.xc C f msg d δ μ2)
  | none => none
theorem ds_setG {i : Nat} {y : Str} {p' : Pos} {g : XEF} (hN : X.N.Nodup) (hi : X.N[i]? = some y) (hy : Loc X.env.scope y) (h : DX X cl e g)
    (hs : swapsWith e (some (.Name y p')) pos'.line X.env = pure false := by rfl) (hf : X.fn y = true ∨ X.env.scope.names.lookup y = some .local := by first | exact .inl rfl | exact .inr rfl | assumption) :
    DS X cl (.Assign [.Name y p'] e pos') (bSetG i g) := ⟨(ps_set hN hi hy h.p hs hf).weak fun D σ H ⟨O, ms, F, δ, μ, o, R, ev, hO, kk⟩ => by
  unfold bSetG at ev
  split at ev
  · rename_i d μ2 e2
    cases ev
    exact ⟨O, ms, F, δ, μ, _, R, e2, hO, fun v H' ms' F' r' s' q' => kk _ H' ms' F' ((R.step r' s').set q' i) s'.ext⟩
  · rename_i C f' msg d μ2 e2
    cases ev
    exact ⟨O, ms, F, δ, μ, _, R, e2, hO, fun H' ms' F' dx y R' s' hd hy => kk σ H' ms' F' dx y R' s'.ext hd hy⟩
  · cases ev⟩
theorem ds_retG {g : XEF} (h : DX X cl e g) : DS X cl (.Return (some e) pos') (bRetG g) := ⟨(ps_ret h.p).weak fun D σ H ⟨O, ms, F, δ, μ, o, R, ev, hO, kk⟩ => by
  unfold bRetG at ev
  split at ev
  · rename_i d μ2 e2
    cases ev
    exact ⟨O, ms, F, δ, μ, _, R, e2, hO, fun v H' ms' F' r' s' q' => kk v H' ms' F' r' (R.step r' s').st q'⟩
  · rename_i C f' msg d μ2 e2
    cases ev
    exact ⟨O, ms, F, δ, μ, _, R, e2, hO, fun H' ms' F' dx y R' s' hd hy => kk σ H' ms' F' dx y R' s'.ext hd hy⟩
  · cases ev⟩
theorem ds_exprG {g : XEF} (h : DX X cl e g) (hs : swapsWith e none pos'.line X.env = pure false := by rfl) : DS X cl (.Expr e pos') (bExprG g) := ⟨(ps_expr h.p hs).weak fun D σ H ⟨O, ms, F, δ, μ, o, R, ev, hO, kk⟩ => by
  unfold bExprG at ev
  split at ev
  · rename_i d μ2 e2
    cases ev
    exact ⟨O, ms, F, δ, μ, _, R, e2, hO, fun v H' ms' F' r' s' q' => kk σ H' ms' F' (R.step r' s') s'.ext⟩
  · rename_i C f' msg d μ2 e2
    cases ev
    exact ⟨O, ms, F, δ, μ, _, R, e2, hO, fun H' ms' F' dx y R' s' hd hy => kk σ H' ms' F' dx y R' s'.ext hd hy⟩
  · cases ev⟩
/-! ### x or y, x and y, by truth -/
def eOrT (fa fb : EF) : EF := eThen fa fun x δ μ => match truD μ x with
  | some true => some (x, μ)
  | some false => fb δ μ
  | none => none
def eAndT (fa fb : EF) : EF := eThen fa fun x δ μ => match truD μ x with
  | some true => fb δ μ
  | some false => some (x, μ)
  | none => none
variable {fa fb : EF} {rest : List Expr}
theorem de_orT (ha : DE X cl a fa) (hb : DE X cl (.BoolOp .Or (b :: rest) pos) fb) : DE X cl (.BoolOp .Or (a :: b :: rest) pos) (eOrT fa fb) := ⟨(pe_orT ha.p hb.p).weak fun σ H Q ⟨O, ms, F, δ, μ, d, μ', R, ev, k⟩ => by
  obtain ⟨d1, μ1, e1, ev⟩ := eThen_some ev
  refine tE.seq R e1 fun v H1 ms1 F1 R1 s1 q1 => ?_
  split at ev
  · rename_i ht
    cases ev
    exact ⟨true, truD_ok R1.hr q1 ht, by rw [if_pos rfl]; exact k v H1 ms1 F1 R1.hr s1 q1⟩
  · rename_i ht
    exact ⟨false, truD_ok R1.hr q1 ht, by rw [if_neg Bool.false_ne_true]; exact tE.seq R1 ev fun v H2 ms2 F2 R2 s2 q => k v H2 ms2 F2 R2.hr (s1.trans' R1.hr s2) q⟩
  · cases ev⟩
theorem de_andT (ha : DE X cl a fa) (hb : DE X cl (.BoolOp .And (b :: rest) pos) fb) : DE X cl (.BoolOp .And (a :: b :: rest) pos) (eAndT fa fb) := ⟨(pe_andT ha.p hb.p).weak fun σ H Q ⟨O, ms, F, δ, μ, d, μ', R, ev, k⟩ => by
  obtain ⟨d1, μ1, e1, ev⟩ := eThen_some ev
  refine tE.seq R e1 fun v H1 ms1 F1 R1 s1 q1 => ?_
  split at ev
  · rename_i ht
    exact ⟨true, truD_ok R1.hr q1 ht, by rw [if_pos rfl]; exact tE.seq R1 ev fun v H2 ms2 F2 R2 s2 q => k v H2 ms2 F2 R2.hr (s1.trans' R1.hr s2) q⟩
  · rename_i ht
    cases ev
    exact ⟨false, truD_ok R1.hr q1 ht, by rw [if_neg Bool.false_ne_true]; exact k v H1 ms1 F1 R1.hr s1 q1⟩
  · cases ev⟩
end
end G

set_option Elab.async false
set_option linter.all false
set_option autoImplicit false
set_option maxRecDepth 100000
set_option maxHeartbeats 2000000
namespace G
open PySem PySem.Spec PySem.Calls L2
section
variable {X : Cx} {cl : Nat → Addr} {e : Expr} {es : List Expr} {pos p : Pos} {r : AF} {k n : Nat} {f : Addr} {fd : FuncData} {ps : List Str} {fn : XF} {x : Str} {ds : List Value} {dvs : List V} {dds : List D}
/-! ### f(..), f one that may raise, its last parameters by their defaults -/
theorem runFXD {sp : Sp} {pins : List (Addr × Obj)} {σ : L2.St} {H : Hp} {s : Shared} {Q : VK} {us : List Value} {vs : List V} (Gf : FnX X.prog X.w X.K X.mg X.base k f fd n ps sp) (hgd : X.A.guards = some []) (hr : Room k X.A)
    (hb : Binds X.K fd ps ds) (hd : Vals dvs ds) (I : Inv X pins σ H s) (rv : Vals vs us) (h : sp (vs ++ dvs) H Q (WE (W0 X).1 σ)) : wpAny (model X.prog X.w) X.A (call (.ref f) us) (EP X pins σ Q) X.xe s := by
  have r2 := rv.append hd
  have hl : (us ++ ds).length = ps.length := by rw [← r2.length, Gf.pl]; exact Gf.len _ _ _ _ h
  refine wpAny_call (codeAny_mono (Gf.go hgd hr I.env0 (hb s us I.kIn hl) r2 h) fun z s' hq => ?_)
  cases z with
  | error e => exact L2N.passAt takesW σ pins H s e s' I hq
  | ok fl =>
    cases fl with
    | ret u => exact I.after hq
    | next => exact (show False from hq).elim
    | brk => exact (show False from hq).elim
    | cont => exact (show False from hq).elim
def tCallXD (sp : Sp) (dvs : List V) (W : WX) (t : TA) : TE := fun σ H Q => t σ H fun vs H1 => sp (vs ++ dvs) H1 Q (WE W σ)
theorem pe_callFXD {sp : Sp} {t : TA} (Gf : FnX X.prog X.w X.K X.mg X.base k f fd n ps sp) (hgd : X.A.guards = some []) (hr : Room k X.A) (hg : Gl X x) (hm : X.mg x = some (.ref f)) (hk : PySem.W.keepIn X.K (.ref f) = true) (hb : Binds X.K fd ps ds) (hd : Vals dvs ds)
    (ha : PA X (e :: es) t) (hdb : (x == ("__debug__" : Str)) = false := by decide) (he : starEach (e :: es) X.env = (false, eval e X.env) :: starEach es X.env := by rfl) (hpl : (backTo pos (starEach es X.env)).any (·.1) = false := by rfl) :
    PE X (.Call (.Name x p) (e :: es) [] pos) (tCallXD sp dvs (W0 X).1 t) := by
  refine ⟨fun pins s σ H Q I h => ?_⟩
  refine wpAny_Call_Name_kw (ld_glob I hg hm ?_ hdb)
  refine PySem.W.callWith_K (h₀ := X.base) I.ok.mod.kin hk (thn (ha.run pos pins s σ H _ I h) fun us s1 ⟨vs, H1, I1, r, q⟩ => ⟨I1.kIn, ?_⟩) he hpl
  exact runFXD Gf hgd hr hb hd I1 r q
def gCallD (fn : XF) (dds : List D) (r : AF) : XEF := fun δ μ => match r δ μ with
  | some (xs, μ1) => fn (xs ++ dds) μ1
  | none => none
theorem dx_callD (Gf : FnX X.prog X.w X.K X.mg X.base k f fd n ps (spXF (gk X.K cl) n fn)) (hgd : X.A.guards = some []) (hr : Room k X.A) (hg : Gl X x) (hm : X.mg x = some (.ref f)) (hk : PySem.W.keepIn X.K (.ref f) = true) (hb : Binds X.K fd ps ds) (hd : Vals dvs ds) (hdd : ∀ ms F, HasL (gk X.K cl) ms F dvs dds)
    (ha : DA X cl (e :: es) r) (hlen : ∀ δ μ xs μ1, r δ μ = some (xs, μ1) → (xs ++ dds).length = n) (hdb : (x == ("__debug__" : Str)) = false := by decide) (he : starEach (e :: es) X.env = (false, eval e X.env) :: starEach es X.env := by rfl) (hpl : (backTo pos (starEach es X.env)).any (·.1) = false := by rfl) :
    DX X cl (.Call (.Name x p) (e :: es) [] pos) (gCallD fn dds r) := ⟨(pe_callFXD Gf hgd hr hg hm hk hb hd ha.p hdb he hpl).weak fun σ H Q ⟨O, ms, F, δ, μ, rr, R, ev, hO, kk⟩ => by
  unfold gCallD at ev
  split at ev
  · rename_i xs μ1 e1
    refine ⟨O, ms, F, δ, μ, xs, μ1, R, e1, fun vs H1 ms1 F1 r1 s1 q1 => ?_⟩
    have R1 := R.step r1 s1
    have k1 := kk.step r1 s1
    refine ⟨ms1, F1, xs ++ dds, μ1, rr, r1.xp, q1.xp.append (hdd ms1 F1), hlen _ _ _ _ e1, ev, ?_⟩
    cases rr with
    | ok d μ2 => exact fun v H' ms' F' r' s' q' => k1 v H' ms' F' r'.xp s' q'.xp
    | ex C f' msg d μ2 => exact fun dx y H' ms' F' r' s' hd hy => k1 H' ms' F' dx y (R1.step r'.xp s') s' hd hy.xp
  · cases ev⟩
end
end G
namespace G
open PySem PySem.Spec PySem.Calls L2
/-- an own function that may raise, with keyword-only parameters that have defaults -/
structure HasFXD (P : Program) (w : World) (K : PySem.W.Frag) (mg : Str → Option Value) (base : Heap) (cl : Nat → Addr) (k : Nat) (x : Str) (n : Nat) (ps ks : List Str) (ds : List Value) (fn : XF) where
  f : Addr
  fd : FuncData
  ok : FnX P w K mg base k f fd n ps (spXF (gk K cl) n fn)
  mg : mg x = some (.ref f)
  kp : PySem.W.keepIn K (.ref f) = true
  bd : Binds K fd ps ds
  kb : KBn K fd ps (ps.length - ks.length) ks (· ++ ·) (· ++ ·)
end G
namespace G
open PySem PySem.Spec PySem.Calls L2 L2H
theorem roomH_of {X : Cx} {k : Nat} {a : Addr} {pn : List (Addr × Obj)} (hot : HotC (X.suite a pn)) (r : Room k X.A) : RoomH k (X.suite a pn).A := roomH_suite r
end G

set_option Elab.async false
set_option linter.all false
set_option autoImplicit false
set_option maxRecDepth 100000
set_option maxHeartbeats 2000000
namespace G
open PySem PySem.Spec PySem.Calls L2 PyProof.Rows HT
/-! ### a tuple's [::-1] -/
section
variable {prog : Program} {w : World} {A : Around} {E : Value → Shared → Prop} {s : Shared}
theorem places_rev (n : Nat) : Builtin.Slice.slicePlaces ((n : Int) - 1) (-1) (-1) = n := by
  unfold Builtin.Slice.slicePlaces
  have h1 : ¬ ((-1 : Int) > 0) := by decide
  have h2 : (-(-1) : Int) = 1 := by decide
  simp only [h1, if_false, h2, Int.ediv_one]
  split <;> omega
theorem applied_rev {sl : Addr} {vl vu vk : Value} {n : Nat} {Q : Int × Int × Nat → Shared → Prop} (hs : s.heap.IsSliceOf sl vl vu vk) (pl : IsPart vl none) (pu : IsPart vu none) (pk : IsPart vk (some (-1)))
    (h : Q ((n : Int) - 1, -1, n) s) : wpAny (model prog w) A (Builtin.Slice.sliceApplied (.ref sl) (pure (n : Int))) Q E s := by
  obtain ⟨os, hos, _, hds⟩ := hs
  unfold Builtin.Slice.sliceApplied Builtin.Slice.sliceFields
  refine wpAny_bind (wpAny_bind (wpAny_field hos hds (x := vl) rfl (wpAny_bind (wpAny_field hos hds (x := vu) rfl (wpAny_bind (wpAny_field hos hds (x := vk) rfl (wpAny_pure (wpAny_bind (slicePart_ pk ?_)))))))))
  show wpAny _ _ (if ((-1 : Int) == 0) = true then _ else _) _ _ s
  rw [if_neg (by decide)]
  refine wpAny_bind (slicePart_ pl (wpAny_bind (slicePart_ pu (wpAny_bind (wpAny_pure (wpAny_pure ?_))))))
  have e : Builtin.Slice.slicePlaces ((n : Int) - 1) (-1) (-1) = n := places_rev n
  show Q (((n : Int) - 1), (-1 : Int), Builtin.Slice.slicePlaces ((n : Int) - 1) (-1) (-1)) s
  rw [e]
  exact h
theorem fmap_congr {α β : Type} {f g : α → Option β} : ∀ {l : List α}, (∀ m ∈ l, f m = g m) → l.filterMap f = l.filterMap g
  | [], _ => rfl
  | a :: l, h => by
    have h1 := h a (List.mem_cons_self ..)
    have h2 := fmap_congr (l := l) fun m hm => h m (List.mem_cons_of_mem _ hm)
    simp only [List.filterMap_cons, h1, h2]
theorem picked_rev (xs : Array Value) : ((List.range xs.size).filterMap fun (m : Nat) => xs[((xs.size : Int) - 1 + (m : Int) * (-1)).toNat]?).toArray = xs.toList.reverse.toArray := by
  have e : ((List.range xs.size).filterMap fun (m : Nat) => xs[((xs.size : Int) - 1 + (m : Int) * (-1)).toNat]?) = ((List.range xs.size).map fun k => xs.size - 1 - k).filterMap (xs[·]?) := by
    rw [List.filterMap_map]
    refine fmap_congr fun m hm => ?_
    have lt := List.mem_range.mp hm
    have : ((xs.size : Int) - 1 + (m : Int) * (-1)).toNat = xs.size - 1 - m := by omega
    rw [this]
    rfl
  rw [e, PySem.W.krv_range, List.filterMap_reverse, PySem.W.krv_all]
theorem item_rev {t sl : Addr} {items : Array Value} {vl vu vk : Value} {Q : Value → Shared → Prop} (ht : IsTup s.heap t items) (hs : s.heap.IsSliceOf sl vl vu vk) (pl : IsPart vl none) (pu : IsPart vu none) (pk : IsPart vk (some (-1)))
    (hz : items.size ≤ sizeLine) (h : Q (.ref s.heap.objs.size) { s with heap := s.heap.push { cls := .type "tuple", data := .seq items.toList.reverse.toArray } }) : wpAny (model prog w) A (getItem (.ref t) (.ref sl)) Q E s := by
  have room : sizeOk (.seq items.toList.reverse.toArray) := by
    show items.toList.reverse.toArray.size ≤ sizeLine
    rw [List.size_toArray, List.length_reverse, Array.length_toList]
    exact hz
  have isSl : s.TypeIs (.ref sl) "slice" := let ⟨os, hos, hcs, _⟩ := hs; ⟨os, hos, hcs⟩
  unfold getItem
  try with_reducible refine wpAny_holding ?_
  first | refine wpAny_bind (wpAny_pure ?_) | skip
  refine wpAny_bind (wpAny_sequenceKey ht.typeIs (by decide) (wpAny_bind (wpAny_callSpecial?_slot (name := Str.ofString "__getitem__") ht.typeIs slot_tuple_getitem (wpAny_call_entry slot_tuple_getitem ht.typeIs entry_tuple_getitem ?_ (args_tuple_getitem _ _)))))
  show wpAny _ _ (Builtin.Tuple.tupleItemsOf (.ref t) >>= fun _ => _) _ _ s
  refine wpAny_bind (tupleItemsOf_ ht (wpAny_bind (wpAny_typeOf isSl ?_)))
  rw [if_pos (by decide)]
  refine wpAny_bind (applied_rev hs pl pu pk ?_)
  have no : ¬ (((((items.size : Int) - 1) == 0) && ((-1 : Int) == 1) && (items.size == items.size)) = true) := by simp
  show wpAny _ _ (if ((((items.size : Int) - 1) == 0) && ((-1 : Int) == 1) && (items.size == items.size)) = true then _ else _) _ _ s
  rw [if_neg no, picked_rev]
  first
    | exact wpAny_bind (m := Builtin.Tuple.tupleExact _) (wpAny_newObj_type (wpAny_pure ⟨_, rfl, wpAny_pure h⟩) room)
    | exact wpAny_bind (m := Builtin.Tuple.tupleExact _) (wpAny_newObj_type (wpAny_bind (wpAny_pure (wpAny_pure ⟨_, rfl, wpAny_pure h⟩))) room)
end
section
variable {X : Cx} {cl : Nat → Addr}
def tRevT (K : PySem.W.Frag) (te : TE) : TE := fun σ H Q => te σ H fun x H1 => ∃ a xs, x = .ref a ∧ SqT K H1 a xs ∧ ∀ p, H1 p = none → Q (.ref p) (upd H1 p (.tup xs.reverse))
theorem pe_revT {e : Expr} {te : TE} {k : Nat} {p1 p2 p3 pos : Pos} (he : PE X e te) : PE X (.Subscript e (.Slice none none (some (.UnaryOp .USub (.Constant (.int 1) k p1) p2)) p3) pos) (tRevT X.K te) := by
  constructor
  intro pins s σ H Q I h
  refine Subscript_ (thn (he.run pins s σ H _ I h) fun v s1 ⟨x, H1, I1, r1, a, xs, ex, hx, q⟩ => ?_)
  subst ex
  cases r1
  have step : PO X (some (.UnaryOp .USub (.Constant (.int 1) k p1) p2)) (tPart (tUn (rU fun i => .int (-i)) (tC (.int 1)))) := po_some (pe_un un_neg pe_int)
  refine wpAny_Slice (thn (po_none.run pins s1 σ H1 (fun o G => o = none ∧ G = H1) I1 ⟨rfl, rfl⟩) fun vl s2 ⟨l, H2, I2, pl, el, e2⟩ => ?_)
  subst el; subst e2
  refine thn (po_none.run pins s2 σ H2 (fun o G => o = none ∧ G = H2) I2 ⟨rfl, rfl⟩) fun vu s3 ⟨u, H3, I3, pu, eu, e3⟩ => ?_
  subst eu; subst e3
  refine thn (step.run pins s3 σ H3 (fun o G => o = some (-1) ∧ G = H3) I3 ⟨1, rfl, -1, rfl, rfl, rfl⟩) fun vk s4 ⟨o, H4, I4, pk, eo, e4⟩ => ?_
  subst eo; subst e4
  have I5 : Inv X pins σ H4 { s4 with heap := s4.heap.push { cls := .type "slice", data := .fields #[vl, vu, vk] } } := I4.kept (t' := s4.toks) fun b ob z => Heap.get?_push_of_some _ z
  obtain ⟨its, r, ht, hz⟩ := I5.tuple hx
  have hlen := r.length
  show wpAny (model X.prog X.w) X.A (subscriptTail e _ (.ref a) (.ref s4.heap.objs.size)) (EP X pins σ Q) X.xe _
  refine tail_any (ops := [.ref a, .ref s4.heap.objs.size]) ht.typeIs slot_tuple_getitem.lookup ?_ (by with_unfolding_all rfl)
  refine item_rev ht (Heap.IsSliceOf.new _ vl vu vk) pl pu pk (by rw [List.size_toArray]; omega) ?_
  refine ⟨.ref _, _, I5.laid (t' := s4.toks) (o := .tup xs.reverse) (fun b ob z => Heap.get?_push_of_some _ z) (Nat.le_refl _) ?_, rfl, q _ (I5.hok.fresh (Nat.le_refl _))⟩
  exact ⟨by rw [List.length_reverse]; exact hz, _, r.reverse, IsTup.new _ _⟩
/-- a tuple or a list, backwards; a list is a new one that may change -/
def eRevT (f : EF) : EF := eThen f fun x _ μ => match x with
  | .tup xs => some (.tup xs.reverse, μ)
  | _ => none
theorem de_revT {e : Expr} {fe : EF} {k : Nat} {p1 p2 p3 pos : Pos} (h : DE X cl e fe) : DE X cl (.Subscript e (.Slice none none (some (.UnaryOp .USub (.Constant (.int 1) k p1) p2)) p3) pos) (eRevT fe) := ⟨(pe_revT h.p).weak fun σ H Q ⟨O, ms, F, δ, μ, d, μ', R, ev, k⟩ => by
  obtain ⟨d1, μ1, e1, ev⟩ := eThen_some ev
  refine tE.seq R e1 fun v H1 ms1 F1 R1 s1 q1 => ?_
  split at ev
  · cases ev
    obtain ⟨a, xs, rfl, hs, hl⟩ := q1
    exact ⟨a, xs, rfl, (Tp.same R1.hr.sub hs).sq, fun p hp => Fin1.tup (fun v H' ms' F' r s q => k v H' ms' F' r (s1.trans' R1.hr s) q) R1.hr hl.rev hp⟩
  · cases ev⟩
end
end G
namespace G
open PySem PySem.Spec PySem.Calls L2
theorem ds_stL {X : Cx} {cl : Nat → Addr} {e o i : Expr} {fe fo fi : EF} {sp pos : Pos} (he : DE X cl e fe) (ho : DE X cl o fo) (hi : DE X cl i fi) (hs : swapsWithSole [.Subscript o i sp] e pos.line X.env = pure false := by rfl) (hw : swappedStores [.Subscript o i sp] e X.env = pure none := by rfl) (h1 : (assignEach [.Subscript o i sp] X.env).map (·.2) = [assign (.Subscript o i sp) X.env] := by rfl)
    (has : ∀ v, assign (.Subscript o i sp) X.env v = (do
      let ov ← holding [v] (eval o X.env)
      let iv ← holding [v, ov] (eval i X.env)
      standAt sp
      holding [v, ov, iv] (setItem ov iv v)
      release [v, ov, iv] []) := by intro _; rfl) :
    DS X cl (.Assign [.Subscript o i sp] e pos) (bSt fe fo fi) := ds_st he ho hi hs hw h1 (pg_sub ho.p hi.p set_list (ha := has))
end G

set_option Elab.async false
set_option linter.all false
set_option autoImplicit false
set_option maxRecDepth 100000
set_option maxHeartbeats 2000000
namespace G
open PySem PySem.Spec PySem.Calls L2
/-! ### what raises within an expression -/
abbrev RF := List SV → List MO → Option (Nat × Str × Str × D × List MO)
def tR (Γ : Gm) (W : WX × Hp) (g : RF) (σ : L2.St) (H : Hp) : Prop := ∃ O ms F δ μ C f msg d μ', SR Γ O ms F H σ δ μ ∧ g δ μ = some (C, f, msg, d, μ') ∧ O.H = W.2 ∧
  ∀ H' ms' F' dx y, SR Γ O ms' F' H' σ δ μ' → Stp ms ms' F F' H H' → F' dx = some (exd dx [(f, y)]) → Has Γ ms' F' y d → W.1 (.ref (Γ.cl C)) (some dx) σ H'
structure DR (X : Cx) (cl : Nat → Addr) (e : Expr) (g : RF) : Prop where
  p : PE X e (fun σ H _ => tR (gm X cl) (W0 X) g σ H)
structure DRA (X : Cx) (cl : Nat → Addr) (es : List Expr) (g : RF) : Prop where
  p : PA X es (fun σ H _ => tR (gm X cl) (W0 X) g σ H)
section
variable {X : Cx} {cl : Nat → Addr} {e : Expr} {es : List Expr} {pos p : Pos} {r : AF} {k n : Nat} {f : Addr} {fd : FuncData} {ps : List Str} {fn : XF} {x : Str} {fe : EF} {g : RF}
theorem pa_false : PA X es (fun _ _ _ => False) := ⟨fun _ _ _ _ _ _ _ h => h.elim⟩
def rCall (fn : XF) (r : AF) : RF := fun δ μ => match r δ μ with
  | some (xs, μ1) => match fn xs μ1 with
    | some (.ex C f m d μ2) => some (C, f, m, d, μ2)
    | _ => none
  | none => none
theorem dr_call (Gf : FnX X.prog X.w X.K X.mg X.base k f fd n ps (spXF (gk X.K cl) n fn)) (hgd : X.A.guards = some []) (hr : Room k X.A) (hg : Gl X x) (hm : X.mg x = some (.ref f)) (hk : PySem.W.keepIn X.K (.ref f) = true) (hb : Binds X.K fd ps [])
    (ha : DA X cl (e :: es) r) (hlen : ∀ δ μ xs μ1, r δ μ = some (xs, μ1) → xs.length = n) (hdb : (x == ("__debug__" : Str)) = false := by decide) (he : starEach (e :: es) X.env = (false, eval e X.env) :: starEach es X.env := by rfl) (hpl : (backTo pos (starEach es X.env)).any (·.1) = false := by rfl) :
    DR X cl (.Call (.Name x p) (e :: es) [] pos) (rCall fn r) := ⟨(pe_callFX Gf hgd hr hg hm hk hb ha.p hdb he hpl).weak fun σ H Q ⟨O, ms, F, δ, μ, C, f', msg, d, μ2, R, ev, hO, kk⟩ => by
  unfold rCall at ev
  split at ev
  · rename_i xs μ1 e1
    refine ⟨O, ms, F, δ, μ, xs, μ1, R, e1, fun vs H1 ms1 F1 r1 s1 q1 => ?_⟩
    have R1 := R.step r1 s1
    split at ev
    · rename_i C' f'' m' d' μ3 e2
      cases ev
      refine ⟨ms1, F1, xs, μ1, .ex C f' msg d μ2, r1.xp, q1.xp, hlen _ _ _ _ e1, e2, ?_⟩
      exact fun dx y H' ms' F' r' s' hd hy => kk H' ms' F' dx y (R1.step r'.xp s') (s1.trans' r1 s') hd hy.xp
    · cases ev
  · cases ev⟩
theorem dra_head (h : DR X cl e g) (hs : starEach (e :: es) X.env = (false, eval e X.env) :: starEach es X.env := by rfl) : DRA X cl (e :: es) g := ⟨(pa_cons h.p (pa_false (es := es)) hs).weak fun σ H Q h => h⟩
def rThen (fe : EF) (g : RF) : RF := fun δ μ => match fe δ μ with
  | some (_, μ1) => g δ μ1
  | none => none
theorem dra_tail (h : DE X cl e fe) (hr : DRA X cl es g) (hs : starEach (e :: es) X.env = (false, eval e X.env) :: starEach es X.env := by rfl) : DRA X cl (e :: es) (rThen fe g) := ⟨(pa_cons h.p hr.p hs).weak fun σ H Q ⟨O, ms, F, δ, μ, C, f', msg, d, μ2, R, ev, hO, kk⟩ => by
  unfold rThen at ev
  split at ev
  · rename_i d1 μ1 e1
    refine tE.seq R e1 fun v H1 ms1 F1 R1 s1 q1 => ?_
    exact ⟨O, ms1, F1, δ, μ1, C, f', msg, d, μ2, R1, ev, hO, fun H' ms' F' dx y R' s' hd hy => kk H' ms' F' dx y R' (s1.trans' R1.hr s') hd hy⟩
  · cases ev⟩
theorem dr_tup {x1} (h : DRA X cl es g) : DR X cl (.Tuple es x1 pos) g := ⟨(pe_tup h.p).weak fun _ _ _ h => h⟩
theorem dr_lst (h : DRA X cl es g) : DR X cl (.List es pos) g := ⟨(pe_lst h.p).weak fun _ _ _ h => h⟩
theorem dr_callT {T : String} (hg : Gl X x) (hm : X.mg x = none) (hv : bootBuiltins x = some (.type T)) (ha : DRA X cl (e :: es) g) (hn : x ≠ "__name__" := by decide) (hdb : (x == ("__debug__" : Str)) = false := by decide)
    (he : starEach (e :: es) X.env = (false, eval e X.env) :: starEach es X.env := by rfl) (hpl : (backTo pos (starEach es X.env)).any (·.1) = false := by rfl) : DR X cl (.Call (.Name x p) (e :: es) [] pos) g :=
  ⟨(pe_callTy CallR.any' hg hm hv ha.p hn hdb he hpl).weak fun σ H Q h => h⟩
theorem dr_callB {id : String} (hg : Gl X x) (hm : X.mg x = none) (hv : bootBuiltins x = some (.builtin id)) (ha : DRA X cl (e :: es) g) (hn : x ≠ "__name__" := by decide) (hdb : (x == ("__debug__" : Str)) = false := by decide)
    (he : starEach (e :: es) X.env = (false, eval e X.env) :: starEach es X.env := by rfl) (hpl : (backTo pos (starEach es X.env)).any (·.1) = false := by rfl) : DR X cl (.Call (.Name x p) (e :: es) [] pos) g :=
  ⟨(pe_callB CallR.any' hg hm hv ha.p hn hdb he hpl).weak fun σ H Q h => h⟩
theorem dr_lc {elt tg iter : Expr} {ifs : List Expr} {scope : Scope} {own : List (Str × Nat)} {pos : Pos} (hc : X.calm = true) (hN : X.N.Nodup) (hi : DR X cl iter g) (ok : BlkOk X.N X.env.scope scope own) (hs : ∀ x, foldedSetIterable iter X.env x = pure x := by intro _; rfl) :
    DR X cl (.ListComp elt [⟨tg, iter, ifs, 0⟩] scope pos) g :=
  ⟨(pe_lc hc hN (pi_list (tg := tg) hi.p) ok (g := fun _ _ _ _ => False) (tt := fun _ _ _ => False) (te := fun _ _ _ => False) (fun _ _ _ _ _ => ⟨fun _ _ _ _ _ _ _ _ _ h => h.elim⟩) (fun _ _ _ _ _ => ⟨fun _ _ _ _ _ _ h => h.elim⟩) (fun _ _ _ _ _ => ⟨fun _ _ _ _ _ _ h => h.elim⟩) hs).weak fun σ H Q h => h⟩
/-- the one or the other -/
def gTry (fe : EF) (g : RF) : XEF := fun δ μ => match fe δ μ with
  | some (d, μ1) => some (.ok d μ1)
  | none => match g δ μ with
    | some (C, f, m, d, μ1) => some (.ex C f m d μ1)
    | none => none
theorem dx_try (h : DE X cl e fe) (h2 : DR X cl e g) : DX X cl e (gTry fe g) := ⟨⟨fun pins s σ H Q I ⟨O, ms, F, δ, μ, rr, R, ev, hO, kk⟩ => by
  unfold gTry at ev
  split at ev
  · rename_i d μ1 e1
    cases ev
    exact h.p.run pins s σ H Q I ⟨O, ms, F, δ, μ, d, μ1, R, e1, kk⟩
  · split at ev
    · rename_i C f' m d μ1 e1
      cases ev
      exact h2.p.run pins s σ H Q I ⟨O, ms, F, δ, μ, C, f', m, d, μ1, R, e1, hO, kk⟩
    · cases ev⟩⟩
end
end G

set_option Elab.async false
set_option linter.all false
set_option autoImplicit false
set_option maxRecDepth 100000
set_option maxHeartbeats 2000000
namespace G
open PySem PySem.Spec PySem.Calls L2
section
variable {X : Cx} {cl : Nat → Addr}
/-! ### data that are alike: < -/
theorem op_ltAl (hu : X.A.units + 64 < cLine) : OpR X (compareOp .Lt) (fun x y H Q => ∃ d e, Dp X.K H x d ∧ Dp X.K H y e ∧ PySem.W.alike d e = true ∧ d ≠ .none ∧ d.depth ≤ 60 ∧ Q (.bl (PySem.W.dataLt d e)) H) := by
  intro pins s σ H x y v u Q I rx ry h
  obtain ⟨d, e, hd, he, ha, hn, hp, q⟩ := h
  obtain ⟨as, r1⟩ := Dp.reads I d x v hd rx
  obtain ⟨bs, r2⟩ := Dp.reads I e y u he ry
  exact PySem.W.rcLt_alike d e X.A s v u as bs r1 r2 ha hn (by omega) _ _ _ _ ⟨.bl _, H, I, rfl, q⟩
def ltT : G2 := fun x y μ => match toPy μ DEEP x, toPy μ DEEP y with
  | some (.tuple p), some q => if PySem.W.alike (.tuple p) q = true ∧ (PyData.tuple p).depth ≤ 60 then some (.bl (PySem.W.dataLt (.tuple p) q), μ) else none
  | _, _ => none
theorem opd_ltT (hu : X.A.units + 64 < cLine) : OpD X cl (compareOp .Lt) ltT := by
  intro ms F H μ x y dx dy d μ' Q r hx hy ev k
  unfold ltT at ev
  split at ev
  · rename_i p q e1 e2
    split at ev
    · rename_i hz
      cases ev
      exact ⟨_, op_ltAl hu, _, _, dp_of r _ _ _ _ e1 hx, dp_of r _ _ _ _ e2 hy, hz.1, (fun z => nomatch z), hz.2, k.imm r rfl⟩
    · cases ev
  · cases ev
/-! ### list.insert, text.upper, list.count of a truth -/
def insertD : D → G1 := fun x ds μ => match x, ds with
  | .mut k, [.int i, d] => match μ[k]? with
    | some (.lst xs) => if xs.length < 1000000 ∧ 0 ≤ i ∧ i ≤ 1000000 then some (.non, μ.set k (.lst (xs.take i.toNat ++ [d] ++ xs.drop i.toNat))) else none
    | _ => none
  | _, _ => none
theorem md_insert : MtD X cl "list.insert" insertD := by
  intro ms F H μ x vs dx ds d μ' Q r hx hv ev k
  unfold insertD at ev
  split at ev
  · rename_i j i dd
    split at ev
    · rename_i xs hk
      split at ev
      · rename_i hz
        cases ev
        obtain ⟨v1, v2, rfl, h1, h2⟩ := hv.two'
        obtain ⟨a, ws, rfl, hm, ha, hl⟩ := mut_lst r hx hk
        obtain rfl : v1 = .int i := h1
        exact ⟨_, mt_insert, a, ws, i, v2, rfl, rfl, ha, by rw [hl.length, sizeLine_eq]; omega, hz.2.1, by omega, k.wr r hm (((hl.take _).append (HasL.one h2)).append (hl.drop _)) rfl⟩
      · cases ev
    · cases ev
  · cases ev
def upperD : D → G1 := fun x ds μ => match x, ds with
  | .str a, [] => if a.length ≤ 1000000 then some (.str (Txt.upper a), μ) else none
  | _, _ => none
theorem md_upper : MtD X cl "str.upper" upperD := by
  intro ms F H μ x vs dx ds d μ' Q r hx hv ev k
  unfold upperD at ev
  split at ev
  · split at ev
    · rename_i hz
      cases ev
      cases hv
      exact ⟨_, mt_upper, _, hx, rfl, by omega, k.imm r rfl⟩
    · cases ev
  · cases ev
theorem bools_of : ∀ {bs : List Bool} {its : List Value}, Vals (bs.map V.bl) its → its = bs.map Value.bool
  | [], _, h => by cases h; rfl
  | b :: bs, _, h => by
    cases h with
    | cons h1 h2 =>
      cases h1
      rw [bools_of h2]
      rfl
theorem count_bools (k : Bool) : ∀ bs : List Bool, (bs.map Value.bool).countP (PyProof.Rows.isBoolOf k) = bs.count k
  | [] => rfl
  | b :: bs => by
    rw [List.map_cons, List.countP_cons, List.count_cons, count_bools k bs]
    rfl
theorem mt_countB : MtR X "list.count" (fun x xs H Q => ∃ (p : Addr) (bs : List Bool) (k : Bool), x = .ref p ∧ xs = [.bl k] ∧ SqL X.K H p (bs.map V.bl) ∧ Q (.int (bs.count k : Nat)) H) := by
  intro pins s σ H x xs v us Q I rx rxs h
  obtain ⟨p, bs, k, rfl, rfl, hs, q⟩ := h
  cases rx
  obtain ⟨u, rfl, ru⟩ := rxs.one
  cases ru
  obtain ⟨its, rv, ⟨⟨cls, dd, data, sl⟩, n, ho, hc, hdn, hd⟩, hlen⟩ := I.list hs
  simp only at hc hd
  subst hc hd
  have e := bools_of rv
  subst e
  refine call_meets PySem.F.slot_list_count ⟨_, ho, rfl⟩ PySem.F.entry_list_count (PySem.F.args_list_count_2 _ _)
    (SeqAt.list_countAt p (bs.map Value.bool).toArray n dd sl (.bool k) (PyProof.Rows.isBoolOf k)) ⟨ho, fun y hy => ?_, ?_⟩
  · obtain ⟨b, _, rfl⟩ := List.mem_map.mp (show y ∈ bs.map Value.bool from Array.mem_toList_iff.mpr hy)
    exact SeqAt.EqAt.bool_bool b k
  · have ec : (bs.map Value.bool).toArray.toList.countP (PyProof.Rows.isBoolOf k) = bs.count k := count_bools k bs
    refine ⟨.int (bs.count k : Nat), H, I.tok _, ⟨s.toks, ?_⟩, q⟩
    show Value.int (((bs.map Value.bool).toArray.toList.countP (PyProof.Rows.isBoolOf k) : Nat) : Int) s.toks = Value.int ((bs.count k : Nat) : Int) s.toks
    rw [ec]
def countB : D → G1 := fun x ds μ => match x, ds with
  | .lst xs, [.bl k] => match blsD xs with
    | some bs => some (.int (bs.count k : Nat), μ)
    | none => none
  | _, _ => none
theorem md_countB : MtD X cl "list.count" countB := by
  intro ms F H μ x vs dx ds d μ' Q r hx hv ev k
  unfold countB at ev
  split at ev
  · rename_i xs b
    split at ev
    · rename_i bs hb
      cases ev
      obtain ⟨v, rfl, h1⟩ := hv.one'
      obtain ⟨a, ys, rfl, hs, hl⟩ := hx
      obtain rfl : v = .bl b := h1
      exact ⟨_, mt_countB, a, bs, b, rfl, rfl, by rw [← blsD_ok hb hl]; exact SqL.of (r.sub _ _ hs), k.imm r rfl⟩
    · cases ev
  · cases ev
end
end G

set_option Elab.async false
set_option linter.all false
set_option autoImplicit false
set_option maxRecDepth 100000
set_option maxHeartbeats 2000000
namespace G
open PySem PySem.Spec PySem.Calls L2
section
variable {X : Cx} {cl : Nat → Addr} {e a b c tg : Expr} {pos : Pos} {fe : EF} {g : RF}
theorem pe_false : PE X e (fun _ _ _ => False) := ⟨fun _ _ _ _ _ _ h => h.elim⟩
/-- a if c else b, c raising -/
theorem dr_ifT (h : DR X cl c g) (he : ∀ whole, isTrue c X.env whole = (do let v ← whole; standAt c.pos; holding [v] (truthy v)) := by intro _; rfl) : DR X cl (.IfExp c a b pos) g :=
  ⟨(pe_ifExp (pt_val h.p he) (pe_false (e := a)) (pe_false (e := b))).weak fun _ _ _ h => h⟩
/-! ### for over a list or a tuple, by what it is -/
def iAM (f : EF) : IFP := eThen f fun d _ μ => match srcD μ d with
  | some (_, ds, P) => some (⟨ds, P⟩, μ)
  | _ => none
theorem yld_tupM {Γ : Gm} {ms0 : List Addr} {F0 : Hp} {a : Addr} {ds : List D} {P : List MO → Prop} (src : ∀ ms F H μ, HR Γ ms F H μ → Ext ms0 ms F0 F → P μ → ∃ xs, SqX Γ.K true H a xs ∧ HasL Γ ms F xs ds) : YldP Γ (Itt Γ.K a) P ds ms0 F0 where
  go := fun ms F H μ i r e hp hi => by
    obtain ⟨xs, hs, hl⟩ := src ms F H μ r e hp
    obtain ⟨x, hx⟩ := hl.bound hi
    exact ⟨xs, x, hs, hx⟩
  stop := fun ms F H μ r e hp => by
    obtain ⟨xs, hs, hl⟩ := src ms F H μ r e hp
    exact ⟨xs, hs, by rw [hl.length]; exact Nat.le_refl _⟩
  yld := fun ms F H μ i d x H' r e hp hd y => by
    obtain ⟨rfl, y⟩ := y
    obtain ⟨xs, hs, hl⟩ := src ms F H' μ r e hp
    obtain ⟨v, hv, q⟩ := hl.get hd
    have := y xs hs
    rw [hv] at this; cases this
    exact ⟨ms, F, r, Stp.refl _ _ _, q⟩
theorem di_anyM (h : DE X cl e fe) : DIP X cl tg e (iAM fe) := ⟨⟨fun pins s σ H R I ⟨O, ms, F, δ, μ, w, μ', S, ev, k⟩ => by
  obtain ⟨d1, μ1, e1, ev⟩ := eThen_some ev
  split at ev
  · rename_i t xs P hq
    cases ev
    cases t with
    | false =>
      refine (pi_list (tg := tg) h.p).run pins s σ H R I (tE.seq S e1 fun v H1 ms1 F1 R1 s1 q1 => ?_)
      obtain ⟨a, rfl, hP, src⟩ := srcD_ok R1.hr q1 hq
      obtain ⟨ys, hs, hl⟩ := src ms1 F1 H1 _ R1.hr (Ext.refl _ _) hP
      exact ⟨a, rfl, ⟨ys, hs⟩, k _ H1 ms1 F1 R1.hr s1 (yld_listM (Γ := gm X cl) src)⟩
    | true =>
      refine (pi_tup (tg := tg) h.p).run pins s σ H R I (tE.seq S e1 fun v H1 ms1 F1 R1 s1 q1 => ?_)
      obtain ⟨a, rfl, hP, src⟩ := srcD_ok R1.hr q1 hq
      obtain ⟨ys, hs, hl⟩ := src ms1 F1 H1 _ R1.hr (Ext.refl _ _) hP
      exact ⟨a, rfl, ⟨ys, hs⟩, k _ H1 ms1 F1 R1.hr s1 (yld_tupM (Γ := gm X cl) src)⟩
  · cases ev⟩⟩
/-! ### a list backwards -/
def nRevL (f : EF) : NF := fun δ μ => match f δ μ with
  | some (x, μ1) => match seqD μ1 x with
    | some (.l, xs) => some (xs.reverse, μ1)
    | _ => none
  | none => none
theorem dn_revL {k : Nat} {p1 p2 p3 : Pos} (h : DE X cl e fe) : DN X cl (.Subscript e (.Slice none none (some (.UnaryOp .USub (.Constant (.int 1) k p1) p2)) p3) pos) (nRevL fe) := ⟨(pe_revL h.p).weak fun σ H Q ⟨O, ms, F, δ, μ, d, μ', R, ev, k⟩ => by
  unfold nRevL at ev
  split at ev
  · rename_i x μ1 e1
    split at ev
    · rename_i xs hq
      cases ev
      refine tE.seq R e1 fun v H1 ms1 F1 R1 s1 q1 => ?_
      obtain ⟨a, ys, rfl, hs, hl⟩ := seqD_ok R1.hr q1 hq
      exact ⟨a, ys, rfl, SqL.of hs, fun p hp => (k.step' R1.hr s1).here R1.hr hl.rev hp⟩
    · cases ev
  · cases ev⟩
end
end G

set_option Elab.async false
set_option linter.all false
set_option autoImplicit false
set_option maxRecDepth 100000
set_option maxHeartbeats 4000000
namespace Law
open PySem PySem.Spec PySem.Calls L2 G
def top (i : Nat) : Stmt := PySem.Challenge.pw_peersmeet_k14_whole_greater_cards.main.body.getD i (.Pass ⟨0, 0, 0, 0⟩)
/-- the own exceptions whose repr is asked -/
def exNm : Nat → Option Str
  | _ => none
/-- which clause takes which -/
abbrev exMt : Nat → Nat → Option Bool := fun j C => pairT [(2, 2), (0, 4), (1, 4), (2, 4), (3, 4), (3, 3)] [(0, 2), (1, 2), (3, 2), (0, 3), (1, 3), (2, 3)] C j
def exIs : Nat → Nat → Option Bool := pairT [(1, 1)] [(0, 1), (2, 1), (3, 1)]
def exFl_found : Nat → Bool := fun C => decide (C ∈ [0, 1, 2, 3])
/-- what the top holds -/
structure Txt (K : PySem.W.Frag) (mg : Str → Option Value) (cl : Nat → Addr) : Prop where
  x_nm : ∀ C n, exNm C = some n → RxC K (cl C) n
  x_exm : ∀ j C b, exMt j C = some b → PySem.W.exmOne K (.ref (cl C)) (.ref (cl j)) = some b
  x_is : ∀ C n b, exIs C n = some b → L2.ExcC K (cl C) ∧ PySem.W.kitOne K (.ref (cl C)) (.ref (cl n)) = some b
  x_fld_found : ∀ C, exFl_found C = true → XfC K (cl C) ∧ PySem.W.findIn K (.ref (cl C)) "found" = some none
  m_NoCard : mg "NoCard" = some (.ref (cl 2))
  m_NoList : mg "NoList" = some (.ref (cl 1))
  m_PeerError : mg "PeerError" = some (.ref (cl 4))
  m_Unlike : mg "Unlike" = some (.ref (cl 3))
  n_all : mg "all" = none
  n_bool : mg "bool" = none
  n_dict : mg "dict" = none
  n_int : mg "int" = none
  n_isinstance : mg "isinstance" = none
  n_len : mg "len" = none
  n_list : mg "list" = none
  n_max : mg "max" = none
  n_min : mg "min" = none
  n_ord : mg "ord" = none
  n_range : mg "range" = none
  n_repr : mg "repr" = none
  n_str : mg "str" = none
  n_tuple : mg "tuple" = none
  c_MARK_LEFT : ∃ t, mg "MARK_LEFT" = some (.int 251 t)
  c_MOST_LETTERS : ∃ t, mg "MOST_LETTERS" = some (.int 8 t)
  c_MOST_NUMBER : ∃ t, mg "MOST_NUMBER" = some (.int 999999 t)
  c_MOST_PIECES : ∃ t, mg "MOST_PIECES" = some (.int 8 t)
  c_MOST_THINGS : ∃ t, mg "MOST_THINGS" = some (.int 100 t)
section
variable {P : Program} {w : World} {K : PySem.W.Frag} {mg : Str → Option Value} {base : Heap} {cl : Nat → Addr}


abbrev s_is_number : Stmt := top 11
abbrev N_is_number : List Str := ["thing"]
theorem sc_is_number : FnScope N_is_number ["thing"] (defScope s_is_number) := ⟨rfl, rfl, rfl, by decide +kernel, rfl, by decide +kernel, by decide +kernel⟩
def b_is_number : BF := bRet (eAndV (eCall isiG (aCons (eVar 0) (aCons (eC (.ty "int")) (aNil)))) (eNotV (eCall isiG (aCons (eVar 0) (aCons (eC (.ty "bool")) (aNil))))))
def f_is_number : FF := runB 1 b_is_number
theorem ok_is_number (T : Txt K mg cl)  {f : Addr} {fd : FuncData} (F : Fun K "is_number" "is_number" s_is_number f fd) : FnG P w K mg base 1 f fd 1 ["thing"] (spF (gk K cl) 1 f_is_number) := by
  have nd := sc_is_number.nd
  exact fn_ok F sc_is_number rfl fun cdv A outer s H hgd hr => (db_one (ds_ret (de_and (de_callB (cd_isi fun _ _ _ => trivial) rfl T.n_isinstance (by decide +kernel) (da_cons (de_var (pv 0)) (da_cons (de_c (v := .ty "int") (pe_bltn rfl T.n_int (by decide +kernel) rfl) fun _ _ => rfl) da_nil))) (de_one (de_not (de_callB (cd_isi fun _ _ _ => trivial) rfl T.n_isinstance (by decide +kernel) (da_cons (de_var (pv 0)) (da_cons (de_c (v := .ty "bool") (pe_bltn rfl T.n_bool (by decide +kernel) rfl) fun _ _ => rfl) da_nil))))))))

abbrev s_is_list : Stmt := top 12
abbrev N_is_list : List Str := ["thing"]
theorem sc_is_list : FnScope N_is_list ["thing"] (defScope s_is_list) := ⟨rfl, rfl, rfl, by decide +kernel, rfl, by decide +kernel, by decide +kernel⟩
def b_is_list : BF := bRet (eCall isiG (aCons (eVar 0) (aCons (eTup (aCons (eC (.ty "list")) (aCons (eC (.ty "tuple")) (aNil)))) (aNil))))
def f_is_list : FF := runB 1 b_is_list
theorem ok_is_list (T : Txt K mg cl)  {f : Addr} {fd : FuncData} (F : Fun K "is_list" "is_list" s_is_list f fd) : FnG P w K mg base 1 f fd 1 ["thing"] (spF (gk K cl) 1 f_is_list) := by
  have nd := sc_is_list.nd
  exact fn_ok F sc_is_list rfl fun cdv A outer s H hgd hr => (db_one (ds_ret (de_callB (cd_isi fun _ _ _ => trivial) rfl T.n_isinstance (by decide +kernel) (da_cons (de_var (pv 0)) (da_cons (de_tup (da_cons (de_c (v := .ty "list") (pe_bltn rfl T.n_list (by decide +kernel) rfl) fun _ _ => rfl) (da_cons (de_c (v := .ty "tuple") (pe_bltn rfl T.n_tuple (by decide +kernel) rfl) fun _ _ => rfl) da_nil))) da_nil)))))

abbrev s_is_name : Stmt := top 14
abbrev N_is_name : List Str := ["thing", "sign"]
theorem sc_is_name : FnScope N_is_name ["thing"] (defScope s_is_name) := ⟨rfl, rfl, rfl, by decide +kernel, rfl, by decide +kernel, by decide +kernel⟩
def b_is_name : BF := bThen (bIf (tfOr (tfNot (asB (eCall isiG (aCons (eVar 0) (aCons (eC (.ty "str")) (aNil)))))) (tfNot (asB (eChain leD leD (eC (.int 1)) (eCall lenD (aCons (eVar 0) (aNil))) (eC (.int 8)))))) (bRet (eC (.bl false))) (bNil)) (bRet (eCall allD (aCons (eFrz (nLc (iS (eVar 0)) (nmG 1) (tYesD) (eChain leD leD (eC (.str "a")) (eVar 1) (eC (.str "z"))) [1])) (aNil))))
def f_is_name : FF := runB 2 b_is_name
theorem ok_is_name (T : Txt K mg cl)  {f : Addr} {fd : FuncData} (F : Fun K "is_name" "is_name" s_is_name f fd) : FnG P w K mg base 1 f fd 1 ["thing"] (spF (gk K cl) 1 f_is_name) := by
  have nd := sc_is_name.nd
  exact fn_ok F sc_is_name rfl fun cdv A outer s H hgd hr => (db_cons (ds_if (dt_w (dw_or (dt_not (dt_val (de_callB (cd_isi fun _ _ _ => trivial) rfl T.n_isinstance (by decide +kernel) (da_cons (de_var (pv 0)) (da_cons (de_c (v := .ty "str") (pe_bltn rfl T.n_str (by decide +kernel) rfl) fun _ _ => rfl) da_nil))))) (dw_or1 (dt_not (dt_chain opd_le opd_le de_int (de_callB cd_len rfl T.n_len (by decide +kernel) (da_cons (de_var (pv 0)) da_nil)) (de_gint rfl T.c_MOST_LETTERS)))))) (db_one (ds_ret de_bl)) db_nil) (db_one (ds_ret (de_callB (cd_all rfl) rfl T.n_all (by decide +kernel) (da_cons (de_frz (dn_lc (own := [("sign", 1)]) rfl nd (di_str (de_var (pv 0))) (blkOk_by (N := N_is_name) (sc := defScope s_is_name) (by decide +kernel)) (fun _ _ _ _ _ => (dg_name (i := 1) nd rfl (.inl rfl))) (fun _ _ _ _ _ => dts_nil) (fun _ _ _ _ _ => (de_chain opd_le opd_le de_str (de_var (pv 1)) de_str)))) da_nil)))))

abbrev s_rank : Stmt := top 22
abbrev N_rank : List Str := ["card", "_", "number", "by", "marks"]
theorem sc_rank : FnScope N_rank ["card"] (defScope s_rank) := ⟨rfl, rfl, rfl, by decide +kernel, rfl, by decide +kernel, by decide +kernel⟩
def b_rank : BF := bThen (bAsg (eVar 0) (tupG 4 (consG (nmG 1) (consG (nmG 2) (consG (nmG 3) (consG (nmG 4) (nilG))))))) (bRet (eTup (aCons (eVar 2) (aCons (eVar 3) (aCons (eNotN (eVar 4)) (aCons (eOrT (eVar 4) (eTup (aNil))) (aNil)))))))
def f_rank : FF := runB 5 b_rank
theorem ok_rank (T : Txt K mg cl)  {f : Addr} {fd : FuncData} (F : Fun K "rank" "rank" s_rank f fd) : FnG P w K mg base 1 f fd 1 ["card"] (spF (gk K cl) 1 f_rank) := by
  have nd := sc_rank.nd
  exact fn_ok F sc_rank rfl fun cdv A outer s H hgd hr => (db_cons (ds_asg (de_var (pv 0)) (dg_tup rfl (dgs_cons (dg_name (i := 1) nd rfl (.inl rfl)) (dgs_cons (dg_name (i := 2) nd rfl (.inl rfl)) (dgs_cons (dg_name (i := 3) nd rfl (.inl rfl)) (dgs_cons (dg_name (i := 4) nd rfl (.inl rfl)) dgs_nil)))))) (db_one (ds_ret (de_tup (da_cons (de_var (pv 2)) (da_cons (de_var (pv 3)) (da_cons (de_notN (de_var (pv 4))) (da_cons (de_orT (de_var (pv 4)) (de_one (de_tup da_nil))) da_nil))))))))

abbrev s__law_cell : Stmt := top 27
abbrev N__law_cell : List Str := ["script", "k"]
theorem sc__law_cell : FnScope N__law_cell ["script", "k"] (defScope s__law_cell) := ⟨rfl, rfl, rfl, by decide +kernel, rfl, by decide +kernel, by decide +kernel⟩
def b__law_cell : BF := bThen (bIf (asB (eBin ltD (eVar 1) (eCall lenD (aCons (eVar 0) (aNil))))) (bRet (eBin ixD (eVar 0) (eVar 1))) (bNil)) (bRet (eBin addD (eBin mulD (eC (.int 9001)) (eVar 1)) (eC (.int 37))))
def f__law_cell : FF := runB 2 b__law_cell
theorem ok__law_cell (T : Txt K mg cl)  {f : Addr} {fd : FuncData} (F : Fun K "_law_cell" "_law_cell" s__law_cell f fd) : FnG P w K mg base 1 f fd 2 ["script", "k"] (spF (gk K cl) 2 f__law_cell) := by
  have nd := sc__law_cell.nd
  exact fn_ok F sc__law_cell rfl fun cdv A outer s H hgd hr => (db_cons (ds_if (dt_cmp opd_lt (de_var (pv 1)) (de_callB cd_len rfl T.n_len (by decide +kernel) (da_cons (de_var (pv 0)) da_nil))) (db_one (ds_ret (de_ix (de_var (pv 0)) (de_var (pv 1)) (fun _ _ => rfl)))) db_nil) (db_one (ds_ret (de_bin opd_add (de_bin opd_mul de_int (de_var (pv 1))) de_int))))

abbrev s__law_box : Stmt := top 28
abbrev N__law_box : List Str := ["cell"]
theorem sc__law_box : FnScope N__law_box ["cell"] (defScope s__law_box) := ⟨rfl, rfl, rfl, by decide +kernel, rfl, by decide +kernel, by decide +kernel⟩
def b__law_box : BF := bRet (eMut (nLst (aCons (eCall maxD (aCons (eC (.int 0)) (aCons (eBin subD (eVar 0) (eBin powD (eC (.int 10)) (eC (.int 18)))) (aNil)))) (aCons (eBin modD (eVar 0) (eC (.int 2147483563))) (aCons (eC (.int 0)) (aNil))))))
def f__law_box : FF := runB 1 b__law_box
theorem ok__law_box (T : Txt K mg cl)  {f : Addr} {fd : FuncData} (F : Fun K "_law_box" "_law_box" s__law_box f fd) : FnG P w K mg base 1 f fd 1 ["cell"] (spF (gk K cl) 1 f__law_box) := by
  have nd := sc__law_box.nd
  exact fn_ok F sc__law_box rfl fun cdv A outer s H hgd hr => (db_one (ds_ret (de_mut (dn_lst (da_cons (de_callB (cd_max rfl) rfl T.n_max (by decide +kernel) (da_cons de_int (da_cons (de_bin opd_sub (de_var (pv 0)) (de_bin opd_pow de_int de_int)) da_nil))) (da_cons (de_bin opd_mod (de_var (pv 0)) de_int) (da_cons de_int da_nil)))))))

abbrev s__law_take : Stmt := top 29
abbrev N__law_take : List Str := ["box", "many", "turn", "digit"]
theorem sc__law_take : FnScope N__law_take ["box", "many"] (defScope s__law_take) := ⟨rfl, rfl, rfl, by decide +kernel, rfl, by decide +kernel, by decide +kernel⟩
def b__law_take : BF := bThen (bIf (asB (eBin gtD (eBin ixD (eVar 0) (eC (.int 0))) (eC (.int 0)))) (bThen (bSet 3 (eBin modD (eBin ixD (eVar 0) (eC (.int 0))) (eVar 1))) (bThen (bSt (eBin fdivD (eBin ixD (eVar 0) (eC (.int 0))) (eVar 1)) (eVar 0) (eC (.int 0))) (bRet (eVar 3)))) (bNil)) (bThen (bSt (eBin addD (eBin ixD (eVar 0) (eC (.int 2))) (eC (.int 1))) (eVar 0) (eC (.int 2))) (bThen (bSet 2 (eBin modD (eBin powD (eBin addD (eBin addD (eBin ixD (eVar 0) (eC (.int 1))) (eBin mulD (eC (.int 60013)) (eBin ixD (eVar 0) (eC (.int 2))))) (eC (.int 5))) (eC (.int 5))) (eC (.int 2147483647)))) (bThen (bSet 2 (eBin modD (eBin powD (eBin addD (eVar 2) (eBin mulD (eC (.int 91139)) (eBin ixD (eVar 0) (eC (.int 2))))) (eC (.int 5))) (eC (.int 2147483629)))) (bRet (eBin modD (eBin fdivD (eVar 2) (eC (.int 32))) (eVar 1))))))
def f__law_take : FF := runB 4 b__law_take
theorem ok__law_take (T : Txt K mg cl)  {f : Addr} {fd : FuncData} (F : Fun K "_law_take" "_law_take" s__law_take f fd) : FnG P w K mg base 1 f fd 2 ["box", "many"] (spF (gk K cl) 2 f__law_take) := by
  have nd := sc__law_take.nd
  exact fn_ok F sc__law_take rfl fun cdv A outer s H hgd hr => (db_cons (ds_if (dt_cmp opd_gt (de_ix (de_var (pv 0)) de_int (fun _ _ => rfl)) de_int) (db_cons (ds_set (i := 3) nd rfl (.inl rfl) (de_bin opd_mod (de_ix (de_var (pv 0)) de_int (fun _ _ => rfl)) (de_var (pv 1)))) (db_cons (let z1 := (de_var (pv 0)); let z2 := de_int; ds_st (de_bin opd_fdiv (de_ix (de_var (pv 0)) de_int (fun _ _ => rfl)) (de_var (pv 1))) z1 z2 rfl rfl rfl (pg_sub z1.p z2.p set_list)) (db_one (ds_ret (de_var (pv 3)))))) db_nil) (db_cons (let z1 := (de_var (pv 0)); let z2 := de_int; ds_st (de_bin opd_add (de_ix (de_var (pv 0)) de_int (fun _ _ => rfl)) de_int) z1 z2 rfl rfl rfl (pg_sub z1.p z2.p set_list)) (db_cons (ds_set (i := 2) nd rfl (.inl rfl) (de_bin opd_mod (de_bin opd_pow (de_bin opd_add (de_bin opd_add (de_ix (de_var (pv 0)) de_int (fun _ _ => rfl)) (de_bin opd_mul de_int (de_ix (de_var (pv 0)) de_int (fun _ _ => rfl)))) de_int) de_int) de_int)) (db_cons (ds_set (i := 2) nd rfl (.inl rfl) (de_bin opd_mod (de_bin opd_pow (de_bin opd_add (de_var (pv 2)) (de_bin opd_mul de_int (de_ix (de_var (pv 0)) de_int (fun _ _ => rfl)))) de_int) de_int)) (db_one (ds_ret (de_bin opd_mod (de_bin opd_fdiv (de_var (pv 2)) de_int) (de_var (pv 1)))))))))

abbrev s__law_cut : Stmt := top 31
abbrev N__law_cut : List Str := ["text", "k"]
theorem sc__law_cut : FnScope N__law_cut ["text"] (defScope s__law_cut) := ⟨rfl, rfl, rfl, by decide +kernel, rfl, by decide +kernel, by decide +kernel⟩
def b__law_cut : BF := bRet (eFrz (nLc (iR3 (aCons (eC (.int 0)) (aCons (eCall lenD (aCons (eVar 0) (aNil))) (aCons (eC (.int 8)) (aNil))))) (nmG 1) (tYesD) (eSlS (eVar 0) (pSo (eVar 1)) (pSo (eBin addD (eVar 1) (eC (.int 8))))) [1]))
def f__law_cut : FF := runB 2 b__law_cut
theorem ok__law_cut (T : Txt K mg cl)  {f : Addr} {fd : FuncData} (F : Fun K "_law_cut" "_law_cut" s__law_cut f fd) : FnG P w K mg base 1 f fd 1 ["text"] (spF (gk K cl) 1 f__law_cut) := by
  have nd := sc__law_cut.nd
  exact fn_ok F sc__law_cut rfl fun cdv A outer s H hgd hr => (db_one (ds_ret (de_frz (dn_lc (own := [("k", 1)]) rfl nd (di_range3 rfl T.n_range (da_cons de_int (da_cons (de_callB cd_len rfl T.n_len (by decide +kernel) (da_cons (de_var (pv 0)) da_nil)) (da_cons de_int da_nil)))) (blkOk_by (N := N__law_cut) (sc := defScope s__law_cut) (by decide +kernel)) (fun _ _ _ _ _ => (dg_name (i := 1) nd rfl (.inl rfl))) (fun _ _ _ _ _ => dts_nil) (fun _ _ _ _ _ => (de_slS (de_var (pv 0)) (dp_so (de_var (pv 1))) (dp_so (de_bin opd_add (de_var (pv 1)) de_int))))))))

abbrev s__law_mark : Stmt := top 32
abbrev N__law_mark : List Str := ["text", "one", "other", "sign"]
theorem sc__law_mark : FnScope N__law_mark ["text"] (defScope s__law_mark) := ⟨rfl, rfl, rfl, by decide +kernel, rfl, by decide +kernel, by decide +kernel⟩
def b__law_mark : BF := bThen (bSet 1 (eC (.int 1))) (bThen (bSet 2 (eC (.int 0))) (bThen (bFor (iS (eVar 0)) (nmG 3) (bThen (bSet 1 (eBin modD (eBin addD (eVar 1) (eCall ordD (aCons (eVar 3) (aNil)))) (eC (.int 251)))) (bSet 2 (eBin modD (eBin addD (eVar 2) (eVar 1)) (eC (.int 251)))))) (bRet (eBin addD (eBin mulD (eC (.int 256)) (eVar 2)) (eVar 1)))))
def f__law_mark : FF := runB 4 b__law_mark
theorem ok__law_mark (T : Txt K mg cl)  {f : Addr} {fd : FuncData} (F : Fun K "_law_mark" "_law_mark" s__law_mark f fd) : FnG P w K mg base 1 f fd 1 ["text"] (spF (gk K cl) 1 f__law_mark) := by
  have nd := sc__law_mark.nd
  exact fn_ok F sc__law_mark rfl fun cdv A outer s H hgd hr => (db_cons (ds_set (i := 1) nd rfl (.inl rfl) de_int) (db_cons (ds_set (i := 2) nd rfl (.inl rfl) de_int) (db_cons (ds_for PassesOwn.never rfl (di_str (de_var (pv 0))) (dg_name (i := 3) nd rfl (.inl rfl)) (db_cons (ds_set (i := 1) nd rfl (.inl rfl) (de_bin opd_mod (de_bin opd_add (de_var (pv 1)) (de_callB cd_ord rfl T.n_ord (by decide +kernel) (da_cons (de_var (pv 3)) da_nil))) de_int)) (db_one (ds_set (i := 2) nd rfl (.inl rfl) (de_bin opd_mod (de_bin opd_add (de_var (pv 2)) (de_var (pv 1))) de_int))))) (db_one (ds_ret (de_bin opd_add (de_bin opd_mul de_int (de_var (pv 2))) (de_var (pv 1))))))))

abbrev s__law_grown : Stmt := top 36
abbrev N__law_grown : List Str := ["thing"]
theorem sc__law_grown : FnScope N__law_grown ["thing"] (defScope s__law_grown) := ⟨rfl, rfl, rfl, by decide +kernel, rfl, by decide +kernel, by decide +kernel⟩
def b__law_grown : BF := bThen (bIf (asB (eCall isiG (aCons (eVar 0) (aCons (eC (.ty "list")) (aNil))))) (bExpr (eMt "list" appendD (eVar 0) (aCons (eC (.int 7)) (aNil)))) (bNil)) (bIf (asB (eCall isiG (aCons (eVar 0) (aCons (eC (.ty "dict")) (aNil))))) (bDPut (eVar 0) (eC (.str "more")) (eC (.int 7))) (bNil))
def f__law_grown : FF := runB 1 b__law_grown
theorem ok__law_grown (T : Txt K mg cl)  {f : Addr} {fd : FuncData} (F : Fun K "_law_grown" "_law_grown" s__law_grown f fd) : FnG P w K mg base 1 f fd 1 ["thing"] (spF (gk K cl) 1 f__law_grown) := by
  have nd := sc__law_grown.nd
  exact fn_ok F sc__law_grown rfl fun cdv A outer s H hgd hr => (db_cons (ds_if (dt_val (de_callB (cd_isi fun _ _ _ => trivial) rfl T.n_isinstance (by decide +kernel) (da_cons (de_var (pv 0)) (da_cons (de_c (v := .ty "list") (pe_bltn rfl T.n_list (by decide +kernel) rfl) fun _ _ => rfl) da_nil)))) (db_one (ds_expr (de_bm PySem.F.plainAttrs_list PySem.F.slot_list_append PySem.F.type_list_append md_append (de_var (pv 0)) (da_cons de_int da_nil)))) db_nil) (db_one (ds_if (dt_val (de_callB (cd_isi fun _ _ _ => trivial) rfl T.n_isinstance (by decide +kernel) (da_cons (de_var (pv 0)) (da_cons (de_c (v := .ty "dict") (pe_bltn rfl T.n_dict (by decide +kernel) rfl) fun _ _ => rfl) da_nil)))) (db_one (ds_dput (un1 hr.un65) (de_var (pv 0)) de_str de_int)) db_nil)))
theorem okH__law_grown (T : Txt K mg cl)  {f : Addr} {fd : FuncData} (F : Fun K "_law_grown" "_law_grown" s__law_grown f fd) : L2H.FnH P w K mg base CX0 1 f fd ["thing"] (spF (gk K cl) 1 f__law_grown) := by
  have nd := sc__law_grown.nd
  exact fnH_ok F sc__law_grown rfl fun cdv A outer s H E p hot hr => (db_cons (ds_if (dt_val (de_callB (cd_isi fun _ _ _ => trivial) rfl T.n_isinstance (by decide +kernel) (da_cons (de_var (pv 0)) (da_cons (de_c (v := .ty "list") (pe_bltn rfl T.n_list (by decide +kernel) rfl) fun _ _ => rfl) da_nil)))) (db_one (ds_expr (de_bm PySem.F.plainAttrs_list PySem.F.slot_list_append PySem.F.type_list_append md_append (de_var (pv 0)) (da_cons de_int da_nil)))) db_nil) (db_one (ds_if (dt_val (de_callB (cd_isi fun _ _ _ => trivial) rfl T.n_isinstance (by decide +kernel) (da_cons (de_var (pv 0)) (da_cons (de_c (v := .ty "dict") (pe_bltn rfl T.n_dict (by decide +kernel) rfl) fun _ _ => rfl) da_nil)))) (db_one (ds_dput (un1 hr.un65) (de_var (pv 0)) de_str de_int)) db_nil)))

abbrev s__law_ahead : Stmt := top 37
abbrev N__law_ahead : List Str := ["one", "other"]
theorem sc__law_ahead : FnScope N__law_ahead ["one", "other"] (defScope s__law_ahead) := ⟨rfl, rfl, rfl, by decide +kernel, rfl, by decide +kernel, by decide +kernel⟩
def b__law_ahead : BF := bThen (bIf (asB (eBin neD (eBin ixD (eVar 0) (eC (.int 1))) (eBin ixD (eVar 1) (eC (.int 1))))) (bRet (eBin ltD (eBin ixD (eVar 0) (eC (.int 1))) (eBin ixD (eVar 1) (eC (.int 1))))) (bNil)) (bThen (bIf (asB (eBin neD (eBin ixD (eVar 0) (eC (.int 2))) (eBin ixD (eVar 1) (eC (.int 2))))) (bRet (eBin ltD (eBin ixD (eVar 0) (eC (.int 2))) (eBin ixD (eVar 1) (eC (.int 2))))) (bNil)) (bThen (bIf (tfOr (asB (eIsN (eBin ixD (eVar 0) (eC (.int 3))))) (asB (eIsN (eBin ixD (eVar 1) (eC (.int 3)))))) (bRet (eAndV (eIsN (eBin ixD (eVar 0) (eC (.int 3)))) (eNotN (eBin ixD (eVar 1) (eC (.int 3)))))) (bNil)) (bRet (eBin ltT (eBin ixD (eVar 0) (eC (.int 3))) (eBin ixD (eVar 1) (eC (.int 3)))))))
def f__law_ahead : FF := runB 2 b__law_ahead
theorem ok__law_ahead (T : Txt K mg cl)  {f : Addr} {fd : FuncData} (F : Fun K "_law_ahead" "_law_ahead" s__law_ahead f fd) : FnG P w K mg base 1 f fd 2 ["one", "other"] (spF (gk K cl) 2 f__law_ahead) := by
  have nd := sc__law_ahead.nd
  exact fn_ok F sc__law_ahead rfl fun cdv A outer s H hgd hr => (db_cons (ds_if (dt_cmp (opd_ne hr.units) (de_ix (de_var (pv 0)) de_int (fun _ _ => rfl)) (de_ix (de_var (pv 1)) de_int (fun _ _ => rfl))) (db_one (ds_ret (de_cmp opd_lt (de_ix (de_var (pv 0)) de_int (fun _ _ => rfl)) (de_ix (de_var (pv 1)) de_int (fun _ _ => rfl))))) db_nil) (db_cons (ds_if (dt_cmp (opd_ne hr.units) (de_ix (de_var (pv 0)) de_int (fun _ _ => rfl)) (de_ix (de_var (pv 1)) de_int (fun _ _ => rfl))) (db_one (ds_ret (de_cmp opd_lt (de_ix (de_var (pv 0)) de_int (fun _ _ => rfl)) (de_ix (de_var (pv 1)) de_int (fun _ _ => rfl))))) db_nil) (db_cons (ds_if (dt_w (dw_or (dt_isN (de_ix (de_var (pv 0)) de_int (fun _ _ => rfl))) (dw_or1 (dt_isN (de_ix (de_var (pv 1)) de_int (fun _ _ => rfl)))))) (db_one (ds_ret (de_and (de_isN (de_ix (de_var (pv 0)) de_int (fun _ _ => rfl))) (de_one (de_notN (de_ix (de_var (pv 1)) de_int (fun _ _ => rfl))))))) db_nil) (db_one (ds_ret (de_cmp (opd_ltT hr.units) (de_ix (de_var (pv 0)) de_int (fun _ _ => rfl)) (de_ix (de_var (pv 1)) de_int (fun _ _ => rfl))))))))

abbrev s_is_mark : Stmt := top 18
abbrev N_is_mark : List Str := ["thing"]
theorem sc_is_mark : FnScope N_is_mark ["thing"] (defScope s_is_mark) := ⟨rfl, rfl, rfl, by decide +kernel, rfl, by decide +kernel, by decide +kernel⟩
def b_is_mark : BF := bRet (eAndV (eFn f_is_number [] (aCons (eVar 0) (aNil))) (eAndV (eChain leD ltD (eC (.int 0)) (eVar 0) (eBin mulD (eC (.int 256)) (eC (.int 251)))) (eBin ltD (eBin modD (eVar 0) (eC (.int 256))) (eC (.int 251)))))
def f_is_mark : FF := runB 1 b_is_mark
theorem ok_is_mark (T : Txt K mg cl) (T_is_number : HasF P w K mg base cl 1 "is_number" 1 ["thing"] f_is_number) {f : Addr} {fd : FuncData} (F : Fun K "is_mark" "is_mark" s_is_mark f fd) : FnG P w K mg base 2 f fd 1 ["thing"] (spF (gk K cl) 1 f_is_mark) := by
  have nd := sc_is_mark.nd
  exact fn_ok F sc_is_mark rfl fun cdv A outer s H hgd hr => (db_one (ds_ret (de_and (de_call T_is_number.ok hgd hr rfl T_is_number.mg T_is_number.kp T_is_number.bd .nil (fun _ _ => rfl) rfl (da_cons (de_var (pv 0)) da_nil) (aCons_len aNil_len)) (de_and (de_chain opd_le opd_lt de_int (de_var (pv 0)) (de_bin opd_mul de_int (de_gint rfl T.c_MARK_LEFT))) (de_one (de_cmp opd_lt (de_bin opd_mod (de_var (pv 0)) de_int) (de_gint rfl T.c_MARK_LEFT)))))))

abbrev s__law_text : Stmt := top 30
abbrev N__law_text : List Str := ["box", "size", "signs", "k"]
theorem sc__law_text : FnScope N__law_text ["box", "size"] (defScope s__law_text) := ⟨rfl, rfl, rfl, by decide +kernel, rfl, by decide +kernel, by decide +kernel⟩
def b__law_text : BF := bThen (bSet 2 (eC (.str " !\"#$&'()*+,-./0123456789:;<=>?@ABCDEFGHIJKLMNOPQRSTUVWXYZ[\\]^_`abcdefghijklmnopqrstuvwxyz{|}~"))) (bRet (eMt "str" joinD (eC (.str "")) (aCons (eFrz (nLc (iR1 (aCons (eVar 1) (aNil))) (nmG 3) (tYesD) (eBin ixD (eVar 2) (eFn f__law_take [] (aCons (eVar 0) (aCons (eCall lenD (aCons (eVar 2) (aNil))) (aNil))))) [3])) (aNil))))
def f__law_text : FF := runB 4 b__law_text
theorem ok__law_text (T : Txt K mg cl) (T__law_take : HasF P w K mg base cl 1 "_law_take" 2 ["box", "many"] f__law_take) {f : Addr} {fd : FuncData} (F : Fun K "_law_text" "_law_text" s__law_text f fd) : FnG P w K mg base 2 f fd 2 ["box", "size"] (spF (gk K cl) 2 f__law_text) := by
  have nd := sc__law_text.nd
  exact fn_ok F sc__law_text rfl fun cdv A outer s H hgd hr => (db_cons (ds_set (i := 2) nd rfl (.inr rfl) de_str) (db_one (ds_ret (de_bm PySem.F.plainAttrs_str PySem.F.slot_str_join PySem.F.type_str_join md_join de_str (da_cons (de_frz (dn_lc (own := [("k", 3)]) rfl nd (di_range1 rfl T.n_range (da_cons (de_var (pv 1)) da_nil)) (blkOk_by (N := N__law_text) (sc := defScope s__law_text) (by decide +kernel)) (fun _ _ _ _ _ => (dg_name (i := 3) nd rfl (.inl rfl))) (fun _ _ _ _ _ => dts_nil) (fun _ _ _ _ _ => (de_ix (de_var (pv 2)) (de_call T__law_take.ok hgd hr rfl T__law_take.mg T__law_take.kp T__law_take.bd .nil (fun _ _ => rfl) rfl (da_cons (de_var (pv 0)) (da_cons (de_callB cd_len rfl T.n_len (by decide +kernel) (da_cons (de_var (pv 2)) da_nil)) da_nil)) (aCons_len (aCons_len aNil_len))) (fun _ _ => rfl))))) da_nil)))))

abbrev s__law_marks : Stmt := top 33
abbrev N__law_marks : List Str := ["text", "piece"]
theorem sc__law_marks : FnScope N__law_marks ["text"] (defScope s__law_marks) := ⟨rfl, rfl, rfl, by decide +kernel, rfl, by decide +kernel, by decide +kernel⟩
def b__law_marks : BF := bRet (eIf (asB (eIsN (eVar 0))) (eC .non) (eCall tupM (aCons (eFrz (nLc (iL (eFn f__law_cut [] (aCons (eVar 0) (aNil)))) (nmG 1) (tYesD) (eFn f__law_mark [] (aCons (eVar 1) (aNil))) [1])) (aNil))))
def f__law_marks : FF := runB 2 b__law_marks
theorem ok__law_marks (T : Txt K mg cl) (T__law_cut : HasF P w K mg base cl 1 "_law_cut" 1 ["text"] f__law_cut) (T__law_mark : HasF P w K mg base cl 1 "_law_mark" 1 ["text"] f__law_mark) {f : Addr} {fd : FuncData} (F : Fun K "_law_marks" "_law_marks" s__law_marks f fd) : FnG P w K mg base 2 f fd 1 ["text"] (spF (gk K cl) 1 f__law_marks) := by
  have nd := sc__law_marks.nd
  exact fn_ok F sc__law_marks rfl fun cdv A outer s H hgd hr => (db_one (ds_ret (de_if (dt_isN (de_var (pv 0))) de_non (de_callT cd_tupM rfl T.n_tuple (by decide +kernel) (da_cons (de_frz (dn_lc (own := [("piece", 1)]) rfl nd (di_list (de_call T__law_cut.ok hgd hr rfl T__law_cut.mg T__law_cut.kp T__law_cut.bd .nil (fun _ _ => rfl) rfl (da_cons (de_var (pv 0)) da_nil) (aCons_len aNil_len))) (blkOk_by (N := N__law_marks) (sc := defScope s__law_marks) (by decide +kernel)) (fun _ _ _ _ _ => (dg_name (i := 1) nd rfl (.inl rfl))) (fun _ _ _ _ _ => dts_nil) (fun _ _ _ _ _ => (de_call T__law_mark.ok hgd hr rfl T__law_mark.mg T__law_mark.kp T__law_mark.bd .nil (fun _ _ => rfl) rfl (da_cons (de_var (pv 1)) da_nil) (aCons_len aNil_len))))) da_nil)))))

abbrev s__law_names : Stmt := top 34
abbrev N__law_names : List Str := ["box", "many", "letters", "names", "k", "stem", "word", "letter", "turn"]
theorem sc__law_names : FnScope N__law_names ["box", "many"] (defScope s__law_names) := ⟨rfl, rfl, rfl, by decide +kernel, rfl, by decide +kernel, by decide +kernel⟩
def b__law_names : BF := bThen (bSet 2 (eC (.str "abcdefghijklmnopqrstuvwxyz"))) (bThen (bSet 3 (eMut (nLst (aNil)))) (bThen (bFor (iR1 (aCons (eVar 1) (aNil))) (nmG 4) (bThen (bSet 5 (eC (.str ""))) (bThen (bIf (tfAnd (asB (eBin neD (eVar 3) (eFrz (nLst (aNil))))) (asB (eBin eqD (eFn f__law_take [] (aCons (eVar 0) (aCons (eC (.int 3)) (aNil)))) (eC (.int 0))))) (bSet 5 (eSlS (eBin ixD (eVar 3) (eFn f__law_take [] (aCons (eVar 0) (aCons (eCall lenD (aCons (eVar 3) (aNil))) (aNil))))) (pNo) (pSo (eFn f__law_take [] (aCons (eVar 0) (aCons (eC (.int 8)) (aNil))))))) (bNil)) (bThen (bSet 6 (eSlS (eBin addD (eVar 5) (eMt "str" joinD (eC (.str "")) (aCons (eFrz (nLc (iR1 (aCons (eBin addD (eC (.int 1)) (eFn f__law_take [] (aCons (eVar 0) (aCons (eC (.int 8)) (aNil))))) (aNil))) (nmG 8) (tYesD) (eBin ixD (eVar 2) (eFn f__law_take [] (aCons (eVar 0) (aCons (eC (.int 26)) (aNil))))) [8])) (aNil)))) (pNo) (pSo (eC (.int 8))))) (bThen (bIf (asB (eBin inD (eVar 6) (eVar 3))) (bSet 6 (eBin ixD (eFrz (nLc (iS (eVar 2)) (nmG 7) (asB (eBin ninD (eBin addD (eSlS (eVar 6) (pNo) (pSo (eC (.int 7)))) (eVar 7)) (eVar 3))) (eBin addD (eSlS (eVar 6) (pNo) (pSo (eC (.int 7)))) (eVar 7)) [7])) (eC (.int 0)))) (bNil)) (bExpr (eMt "list" appendD (eVar 3) (aCons (eVar 6) (aNil))))))))) (bRet (eVar 3))))
def f__law_names : FF := runB 9 b__law_names
theorem ok__law_names (T : Txt K mg cl) (T__law_take : HasF P w K mg base cl 1 "_law_take" 2 ["box", "many"] f__law_take) {f : Addr} {fd : FuncData} (F : Fun K "_law_names" "_law_names" s__law_names f fd) : FnG P w K mg base 2 f fd 2 ["box", "many"] (spF (gk K cl) 2 f__law_names) := by
  have nd := sc__law_names.nd
  exact fn_ok F sc__law_names rfl fun cdv A outer s H hgd hr => (db_cons (ds_set (i := 2) nd rfl (.inr rfl) de_str) (db_cons (ds_set (i := 3) nd rfl (.inr rfl) (de_mut (dn_lst da_nil))) (db_cons (ds_for PassesOwn.never rfl (di_range1 rfl T.n_range (da_cons (de_var (pv 1)) da_nil)) (dg_name (i := 4) nd rfl (.inl rfl)) (db_cons (ds_set (i := 5) nd rfl (.inl rfl) de_str) (db_cons (ds_if (dt_w (dw_and (dt_cmp (opd_ne hr.units) (de_var (pv 3)) (de_frz (dn_lst da_nil))) (dw_and1 (dt_cmp (opd_eq hr.units) (de_call T__law_take.ok hgd hr rfl T__law_take.mg T__law_take.kp T__law_take.bd .nil (fun _ _ => rfl) rfl (da_cons (de_var (pv 0)) (da_cons de_int da_nil)) (aCons_len (aCons_len aNil_len))) de_int)))) (db_one (ds_set (i := 5) nd rfl (.inl rfl) (de_slS (de_ix (de_var (pv 3)) (de_call T__law_take.ok hgd hr rfl T__law_take.mg T__law_take.kp T__law_take.bd .nil (fun _ _ => rfl) rfl (da_cons (de_var (pv 0)) (da_cons (de_callB cd_len rfl T.n_len (by decide +kernel) (da_cons (de_var (pv 3)) da_nil)) da_nil)) (aCons_len (aCons_len aNil_len))) (fun _ _ => rfl)) dp_no (dp_so (de_call T__law_take.ok hgd hr rfl T__law_take.mg T__law_take.kp T__law_take.bd .nil (fun _ _ => rfl) rfl (da_cons (de_var (pv 0)) (da_cons de_int da_nil)) (aCons_len (aCons_len aNil_len))))))) db_nil) (db_cons (ds_set (i := 6) nd rfl (.inr rfl) (de_slS (de_bin opd_add (de_var (pv 5)) (de_bm PySem.F.plainAttrs_str PySem.F.slot_str_join PySem.F.type_str_join md_join de_str (da_cons (de_frz (dn_lc (own := [("turn", 8)]) rfl nd (di_range1 rfl T.n_range (da_cons (de_bin opd_add de_int (de_call T__law_take.ok hgd hr rfl T__law_take.mg T__law_take.kp T__law_take.bd .nil (fun _ _ => rfl) rfl (da_cons (de_var (pv 0)) (da_cons de_int da_nil)) (aCons_len (aCons_len aNil_len)))) da_nil)) (blkOk_by (N := N__law_names) (sc := defScope s__law_names) (by decide +kernel)) (fun _ _ _ _ _ => (dg_name (i := 8) nd rfl (.inl rfl))) (fun _ _ _ _ _ => dts_nil) (fun _ _ _ _ _ => (de_ix (de_var (pv 2)) (de_call T__law_take.ok hgd hr rfl T__law_take.mg T__law_take.kp T__law_take.bd .nil (fun _ _ => rfl) rfl (da_cons (de_var (pv 0)) (da_cons de_int da_nil)) (aCons_len (aCons_len aNil_len))) (fun _ _ => rfl))))) da_nil))) dp_no (dp_so de_int))) (db_cons (ds_if (dt_cmp (opd_in hr.un65) (de_var (pv 6)) (de_var (pv 3))) (db_one (ds_set (i := 6) nd rfl (.inr rfl) (de_ix (de_frz (dn_lc (own := [("letter", 7)]) rfl nd (di_str (de_var (pv 2))) (blkOk_by (N := N__law_names) (sc := defScope s__law_names) (by decide +kernel)) (fun _ _ _ _ _ => (dg_name (i := 7) nd rfl (.inl rfl))) (fun _ _ _ _ _ => (dts_one (dt_cmp (opd_nin hr.un65) (de_bin opd_add (de_slS (de_var (pv 6)) dp_no (dp_so de_int)) (de_var (pv 7))) (de_var (pv 3))))) (fun _ _ _ _ _ => (de_bin opd_add (de_slS (de_var (pv 6)) dp_no (dp_so de_int)) (de_var (pv 7)))))) de_int (fun _ _ => rfl)))) db_nil) (db_one (ds_expr (de_bm PySem.F.plainAttrs_list PySem.F.slot_list_append PySem.F.type_list_append md_append (de_var (pv 3)) (da_cons (de_var (pv 6)) da_nil))))))))) (db_one (ds_ret (de_var (pv 3)))))))

abbrev s__law_thing : Stmt := top 35
abbrev N__law_thing : List Str := ["box", "some"]
theorem sc__law_thing : FnScope N__law_thing ["box"] (defScope s__law_thing) := ⟨rfl, rfl, rfl, by decide +kernel, rfl, by decide +kernel, by decide +kernel⟩
def b__law_thing : BF := bThen (bSet 1 (eFrz (nLst (aCons (eC .non) (aCons (eC (.bl true)) (aCons (eC (.bl false)) (aCons (eC (.int 0)) (aCons (eC (.int 1)) (aCons (eNeg (eC (.int 1))) (aCons (eBin powD (eC (.int 10)) (eC (.int 29))) (aCons (eC (.str "")) (aCons (eC (.str "A")) (aCons (eC (.str "a b")) (aCons (eTup (aNil)) (aCons (eTup (aCons (eC (.int 1)) (aNil))) (aCons (eMut (nLst (aNil))) (aCons (eMut (nLst (aCons (eC (.str "a")) (aNil)))) (aCons (eDctM0) (aCons (eDctM1 (.inr "a") (eC (.int 1))) (aCons (eTup (aCons (eC (.str "a")) (aCons (eC (.int 1)) (aCons (eC (.str "b")) (aNil))))) (aNil))))))))))))))))))))) (bRet (eBin ixD (eVar 1) (eFn f__law_take [] (aCons (eVar 0) (aCons (eC (.int 17)) (aNil))))))
def f__law_thing : FF := runB 2 b__law_thing
theorem ok__law_thing (T : Txt K mg cl) (T__law_take : HasF P w K mg base cl 1 "_law_take" 2 ["box", "many"] f__law_take) {f : Addr} {fd : FuncData} (F : Fun K "_law_thing" "_law_thing" s__law_thing f fd) : FnG P w K mg base 2 f fd 1 ["box"] (spF (gk K cl) 1 f__law_thing) := by
  have nd := sc__law_thing.nd
  exact fn_ok F sc__law_thing rfl fun cdv A outer s H hgd hr => (db_cons (ds_set (i := 1) nd rfl (.inl rfl) (de_frz (dn_lst (da_cons de_non (da_cons de_bl (da_cons de_bl (da_cons de_int (da_cons de_int (da_cons (de_neg de_int) (da_cons (de_bin opd_pow de_int de_int) (da_cons de_str (da_cons de_str (da_cons de_str (da_cons (de_tup da_nil) (da_cons (de_tup (da_cons de_int da_nil)) (da_cons (de_mut (dn_lst da_nil)) (da_cons (de_mut (dn_lst (da_cons de_str da_nil))) (da_cons de_dctM0 (da_cons (de_dctM1 de_int) (da_cons (de_tup (da_cons de_str (da_cons de_int (da_cons de_str da_nil)))) da_nil)))))))))))))))))))) (db_one (ds_ret (de_ix (de_var (pv 1)) (de_call T__law_take.ok hgd hr rfl T__law_take.mg T__law_take.kp T__law_take.bd .nil (fun _ _ => rfl) rfl (da_cons (de_var (pv 0)) (da_cons de_int da_nil)) (aCons_len (aCons_len aNil_len))) (fun _ _ => rfl)))))

abbrev s_is_marks : Stmt := top 19
abbrev N_is_marks : List Str := ["thing", "mark"]
theorem sc_is_marks : FnScope N_is_marks ["thing"] (defScope s_is_marks) := ⟨rfl, rfl, rfl, by decide +kernel, rfl, by decide +kernel, by decide +kernel⟩
def b_is_marks : BF := bThen (bIf (asB (eIsN (eVar 0))) (bRet (eC (.bl true))) (bNil)) (bThen (bIf (tfOr (tfNot (asB (eCall isiG (aCons (eVar 0) (aCons (eC (.ty "tuple")) (aNil)))))) (asB (eBin gtD (eCall lenD (aCons (eVar 0) (aNil))) (eC (.int 8))))) (bRet (eC (.bl false))) (bNil)) (bRet (eCall allD (aCons (eFrz (nLc (iT (eVar 0)) (nmG 1) (tYesD) (eFn f_is_mark [] (aCons (eVar 1) (aNil))) [1])) (aNil)))))
def f_is_marks : FF := runB 2 b_is_marks
theorem ok_is_marks (T : Txt K mg cl) (T_is_mark : HasF P w K mg base cl 2 "is_mark" 1 ["thing"] f_is_mark) {f : Addr} {fd : FuncData} (F : Fun K "is_marks" "is_marks" s_is_marks f fd) : FnG P w K mg base 3 f fd 1 ["thing"] (spF (gk K cl) 1 f_is_marks) := by
  have nd := sc_is_marks.nd
  exact fn_ok F sc_is_marks rfl fun cdv A outer s H hgd hr => (db_cons (ds_if (dt_isN (de_var (pv 0))) (db_one (ds_ret de_bl)) db_nil) (db_cons (ds_if (dt_w (dw_or (dt_not (dt_val (de_callB (cd_isi fun _ _ _ => trivial) rfl T.n_isinstance (by decide +kernel) (da_cons (de_var (pv 0)) (da_cons (de_c (v := .ty "tuple") (pe_bltn rfl T.n_tuple (by decide +kernel) rfl) fun _ _ => rfl) da_nil))))) (dw_or1 (dt_cmp opd_gt (de_callB cd_len rfl T.n_len (by decide +kernel) (da_cons (de_var (pv 0)) da_nil)) (de_gint rfl T.c_MOST_PIECES))))) (db_one (ds_ret de_bl)) db_nil) (db_one (ds_ret (de_callB (cd_all rfl) rfl T.n_all (by decide +kernel) (da_cons (de_frz (dn_lc (own := [("mark", 1)]) rfl nd (di_tup (de_var (pv 0))) (blkOk_by (N := N_is_marks) (sc := defScope s_is_marks) (by decide +kernel)) (fun _ _ _ _ _ => (dg_name (i := 1) nd rfl (.inl rfl))) (fun _ _ _ _ _ => dts_nil) (fun _ _ _ _ _ => (de_call T_is_mark.ok hgd hr rfl T_is_mark.mg T_is_mark.kp T_is_mark.bd .nil (fun _ _ => rfl) rfl (da_cons (de_var (pv 1)) da_nil) (aCons_len aNil_len))))) da_nil))))))

abbrev s__law_cards : Stmt := top 38
abbrev N__law_cards : List Str := ["box", "key", "names", "text", "base", "cards", "k", "marks", "way", "at", "number"]
theorem sc__law_cards : FnScope N__law_cards ["box", "key", "names"] (defScope s__law_cards) := ⟨rfl, rfl, rfl, by decide +kernel, rfl, by decide +kernel, by decide +kernel⟩
def b__law_cards : BF := bThen (bSet 3 (eFn f__law_text [] (aCons (eVar 0) (aCons (eBin ixD (eFrz (nLst (aCons (eC (.int 0)) (aCons (eC (.int 8)) (aCons (eC (.int 9)) (aCons (eC (.int 60)) (aCons (eFn f__law_take [] (aCons (eVar 0) (aCons (eC (.int 61)) (aNil)))) (aNil)))))))) (eFn f__law_take [] (aCons (eVar 0) (aCons (eC (.int 5)) (aNil))))) (aNil))))) (bThen (bSet 4 (eBin ixD (eFrz (nLst (aCons (eC (.int 1)) (aCons (eC (.int 999990)) (aCons (eBin addD (eC (.int 1)) (eFn f__law_take [] (aCons (eVar 0) (aCons (eC (.int 999990)) (aNil))))) (aNil)))))) (eFn f__law_take [] (aCons (eVar 0) (aCons (eC (.int 3)) (aNil)))))) (bThen (bSet 5 (eMut (nLst (aNil)))) (bThen (bFor (iR1 (aCons (eBin addD (eC (.int 3)) (eFn f__law_take [] (aCons (eVar 0) (aCons (eC (.int 4)) (aNil))))) (aNil))) (nmG 6) (bThen (bSet 7 (eFn f__law_marks [] (aCons (eVar 3) (aNil)))) (bThen (bSet 8 (eFn f__law_take [] (aCons (eVar 0) (aCons (eC (.int 6)) (aNil))))) (bThen (bSet 9 (eFn f__law_take [] (aCons (eVar 0) (aCons (eCall maxD (aCons (eC (.int 1)) (aCons (eCall lenD (aCons (eVar 7) (aNil))) (aNil)))) (aNil))))) (bThen (bIf (asB (eBin eqD (eVar 8) (eC (.int 0)))) (bSet 7 (eC .non)) (bNil)) (bThen (bIf (asB (eBin eqD (eVar 8) (eC (.int 1)))) (bSet 7 (eSlT (eVar 7) (pNo) (pSo (eVar 9)))) (bNil)) (bThen (bIf (asB (eBin eqD (eVar 8) (eC (.int 2)))) (bSet 7 (eSlT (eBin addT (eVar 7) (eTup (aCons (eC (.int 300)) (aNil)))) (pNo) (pSo (eC (.int 8))))) (bNil)) (bThen (bIf (tfAnd (asB (eBin eqD (eVar 8) (eC (.int 3)))) (asB (eBin neD (eVar 7) (eTup (aNil))))) (bSet 7 (eBin addT (eBin addT (eSlT (eVar 7) (pNo) (pSo (eVar 9))) (eTup (aCons (eFn f__law_mark [] (aCons (eSlS (eVar 3) (pNo) (pSo (eVar 9))) (aNil))) (aNil)))) (eSlT (eVar 7) (pSo (eBin addD (eVar 9) (eC (.int 1)))) (pNo)))) (bNil)) (bThen (bSet 10 (eBin ixD (eFrz (nLst (aCons (eBin addD (eVar 4) (eFn f__law_take [] (aCons (eVar 0) (aCons (eC (.int 3)) (aNil))))) (aCons (eBin addD (eC (.int 1)) (eFn f__law_take [] (aCons (eVar 0) (aCons (eC (.int 999999)) (aNil))))) (aNil))))) (eCall intD (aCons (eBin eqD (eFn f__law_take [] (aCons (eVar 0) (aCons (eC (.int 3)) (aNil)))) (eC (.int 0))) (aNil))))) (bExpr (eMt "list" appendD (eVar 5) (aCons (eTup (aCons (eVar 1) (aCons (eVar 10) (aCons (eBin ixD (eVar 2) (eFn f__law_take [] (aCons (eVar 0) (aCons (eC (.int 2)) (aNil))))) (aCons (eVar 7) (aNil)))))) (aNil))))))))))))) (bRet (eVar 5)))))
def f__law_cards : FF := runB 11 b__law_cards
theorem ok__law_cards (T : Txt K mg cl) (T__law_mark : HasF P w K mg base cl 1 "_law_mark" 1 ["text"] f__law_mark) (T__law_marks : HasF P w K mg base cl 2 "_law_marks" 1 ["text"] f__law_marks) (T__law_take : HasF P w K mg base cl 1 "_law_take" 2 ["box", "many"] f__law_take) (T__law_text : HasF P w K mg base cl 2 "_law_text" 2 ["box", "size"] f__law_text) {f : Addr} {fd : FuncData} (F : Fun K "_law_cards" "_law_cards" s__law_cards f fd) : FnG P w K mg base 3 f fd 3 ["box", "key", "names"] (spF (gk K cl) 3 f__law_cards) := by
  have nd := sc__law_cards.nd
  exact fn_ok F sc__law_cards rfl fun cdv A outer s H hgd hr => (db_cons (ds_set (i := 3) nd rfl (.inl rfl) (de_call T__law_text.ok hgd hr rfl T__law_text.mg T__law_text.kp T__law_text.bd .nil (fun _ _ => rfl) rfl (da_cons (de_var (pv 0)) (da_cons (de_ix (de_frz (dn_lst (da_cons de_int (da_cons de_int (da_cons de_int (da_cons de_int (da_cons (de_call T__law_take.ok hgd (hr.mono (by decide)) rfl T__law_take.mg T__law_take.kp T__law_take.bd .nil (fun _ _ => rfl) rfl (da_cons (de_var (pv 0)) (da_cons de_int da_nil)) (aCons_len (aCons_len aNil_len))) da_nil))))))) (de_call T__law_take.ok hgd (hr.mono (by decide)) rfl T__law_take.mg T__law_take.kp T__law_take.bd .nil (fun _ _ => rfl) rfl (da_cons (de_var (pv 0)) (da_cons de_int da_nil)) (aCons_len (aCons_len aNil_len))) (fun _ _ => rfl)) da_nil)) (aCons_len (aCons_len aNil_len)))) (db_cons (ds_set (i := 4) nd rfl (.inl rfl) (de_ix (de_frz (dn_lst (da_cons de_int (da_cons de_int (da_cons (de_bin opd_add de_int (de_call T__law_take.ok hgd (hr.mono (by decide)) rfl T__law_take.mg T__law_take.kp T__law_take.bd .nil (fun _ _ => rfl) rfl (da_cons (de_var (pv 0)) (da_cons de_int da_nil)) (aCons_len (aCons_len aNil_len)))) da_nil))))) (de_call T__law_take.ok hgd (hr.mono (by decide)) rfl T__law_take.mg T__law_take.kp T__law_take.bd .nil (fun _ _ => rfl) rfl (da_cons (de_var (pv 0)) (da_cons de_int da_nil)) (aCons_len (aCons_len aNil_len))) (fun _ _ => rfl))) (db_cons (ds_set (i := 5) nd rfl (.inl rfl) (de_mut (dn_lst da_nil))) (db_cons (ds_for PassesOwn.never rfl (di_range1 rfl T.n_range (da_cons (de_bin opd_add de_int (de_call T__law_take.ok hgd (hr.mono (by decide)) rfl T__law_take.mg T__law_take.kp T__law_take.bd .nil (fun _ _ => rfl) rfl (da_cons (de_var (pv 0)) (da_cons de_int da_nil)) (aCons_len (aCons_len aNil_len)))) da_nil)) (dg_name (i := 6) nd rfl (.inl rfl)) (db_cons (ds_set (i := 7) nd rfl (.inl rfl) (de_call T__law_marks.ok hgd hr rfl T__law_marks.mg T__law_marks.kp T__law_marks.bd .nil (fun _ _ => rfl) rfl (da_cons (de_var (pv 3)) da_nil) (aCons_len aNil_len))) (db_cons (ds_set (i := 8) nd rfl (.inl rfl) (de_call T__law_take.ok hgd (hr.mono (by decide)) rfl T__law_take.mg T__law_take.kp T__law_take.bd .nil (fun _ _ => rfl) rfl (da_cons (de_var (pv 0)) (da_cons de_int da_nil)) (aCons_len (aCons_len aNil_len)))) (db_cons (ds_set (i := 9) nd rfl (.inl rfl) (de_call T__law_take.ok hgd (hr.mono (by decide)) rfl T__law_take.mg T__law_take.kp T__law_take.bd .nil (fun _ _ => rfl) rfl (da_cons (de_var (pv 0)) (da_cons (de_callB (cd_max rfl) rfl T.n_max (by decide +kernel) (da_cons de_int (da_cons (de_callB cd_len rfl T.n_len (by decide +kernel) (da_cons (de_var (pv 7)) da_nil)) da_nil))) da_nil)) (aCons_len (aCons_len aNil_len)))) (db_cons (ds_if (dt_cmp (opd_eq hr.units) (de_var (pv 8)) de_int) (db_one (ds_set (i := 7) nd rfl (.inl rfl) de_non)) db_nil) (db_cons (ds_if (dt_cmp (opd_eq hr.units) (de_var (pv 8)) de_int) (db_one (ds_set (i := 7) nd rfl (.inl rfl) (de_slT (de_var (pv 7)) dp_no (dp_so (de_var (pv 9)))))) db_nil) (db_cons (ds_if (dt_cmp (opd_eq hr.units) (de_var (pv 8)) de_int) (db_one (ds_set (i := 7) nd rfl (.inl rfl) (de_slT (de_bin opd_addT (de_var (pv 7)) (de_tup (da_cons de_int da_nil))) dp_no (dp_so de_int)))) db_nil) (db_cons (ds_if (dt_w (dw_and (dt_cmp (opd_eq hr.units) (de_var (pv 8)) de_int) (dw_and1 (dt_cmp (opd_ne hr.units) (de_var (pv 7)) (de_tup da_nil))))) (db_one (ds_set (i := 7) nd rfl (.inl rfl) (de_bin opd_addT (de_bin opd_addT (de_slT (de_var (pv 7)) dp_no (dp_so (de_var (pv 9)))) (de_tup (da_cons (de_call T__law_mark.ok hgd (hr.mono (by decide)) rfl T__law_mark.mg T__law_mark.kp T__law_mark.bd .nil (fun _ _ => rfl) rfl (da_cons (de_slS (de_var (pv 3)) dp_no (dp_so (de_var (pv 9)))) da_nil) (aCons_len aNil_len)) da_nil))) (de_slT (de_var (pv 7)) (dp_so (de_bin opd_add (de_var (pv 9)) de_int)) dp_no)))) db_nil) (db_cons (ds_set (i := 10) nd rfl (.inl rfl) (de_ix (de_frz (dn_lst (da_cons (de_bin opd_add (de_var (pv 4)) (de_call T__law_take.ok hgd (hr.mono (by decide)) rfl T__law_take.mg T__law_take.kp T__law_take.bd .nil (fun _ _ => rfl) rfl (da_cons (de_var (pv 0)) (da_cons de_int da_nil)) (aCons_len (aCons_len aNil_len)))) (da_cons (de_bin opd_add de_int (de_call T__law_take.ok hgd (hr.mono (by decide)) rfl T__law_take.mg T__law_take.kp T__law_take.bd .nil (fun _ _ => rfl) rfl (da_cons (de_var (pv 0)) (da_cons de_int da_nil)) (aCons_len (aCons_len aNil_len)))) da_nil)))) (de_callT cd_int rfl T.n_int (by decide +kernel) (da_cons (de_cmp (opd_eq hr.units) (de_call T__law_take.ok hgd (hr.mono (by decide)) rfl T__law_take.mg T__law_take.kp T__law_take.bd .nil (fun _ _ => rfl) rfl (da_cons (de_var (pv 0)) (da_cons de_int da_nil)) (aCons_len (aCons_len aNil_len))) de_int) da_nil)) (fun _ _ => rfl))) (db_one (ds_expr (de_bm PySem.F.plainAttrs_list PySem.F.slot_list_append PySem.F.type_list_append md_append (de_var (pv 5)) (da_cons (de_tup (da_cons (de_var (pv 1)) (da_cons (de_var (pv 10)) (da_cons (de_ix (de_var (pv 2)) (de_call T__law_take.ok hgd (hr.mono (by decide)) rfl T__law_take.mg T__law_take.kp T__law_take.bd .nil (fun _ _ => rfl) rfl (da_cons (de_var (pv 0)) (da_cons de_int da_nil)) (aCons_len (aCons_len aNil_len))) (fun _ _ => rfl)) (da_cons (de_var (pv 7)) da_nil))))) da_nil))))))))))))) (db_one (ds_ret (de_var (pv 5))))))))

abbrev s_need_number : Stmt := top 15
abbrev N_need_number : List Str := ["thing"]
theorem sc_need_number : FnScope N_need_number ["thing"] (defScope s_need_number) := ⟨rfl, rfl, rfl, by decide +kernel, rfl, by decide +kernel, by decide +kernel⟩
def b_need_number : BF := bIf (tfNot (asB (eFn f_is_number [] (aCons (eVar 0) (aNil))))) (bRaise 0 "found" "no number" (aCons (eVar 0) (aNil))) (bNil)
def fx_need_number : XF := runX 1 b_need_number
theorem ok_need_number (T : Txt K mg cl) (T_is_number : HasF P w K mg base cl 1 "is_number" 1 ["thing"] f_is_number) (T_NoNumber : HasX P w K mg base cl 0 "NoNumber" "found" "no number") {f : Addr} {fd : FuncData} (F : Fun K "need_number" "need_number" s_need_number f fd) : FnX P w K mg base 4 f fd 1 ["thing"] (spXF (gk K cl) 1 fx_need_number) := by
  have nd := sc_need_number.nd
  exact fnX_ok F sc_need_number rfl fun cdv A outer s H E hgd hr => (db_one (ds_if (dt_not (dt_val (de_call T_is_number.ok hgd (hr.mono (by decide)) rfl T_is_number.mg T_is_number.kp T_is_number.bd .nil (fun _ _ => rfl) rfl (da_cons (de_var (pv 0)) da_nil) (aCons_len aNil_len)))) (db_one (ds_raise T_NoNumber hgd hr rfl rfl rfl (da_cons (de_var (pv 0)) da_nil))) db_nil))

abbrev s_is_whole : Stmt := top 13
abbrev N_is_whole : List Str := ["thing", "low", "high"]
theorem sc_is_whole : FnScope N_is_whole ["thing", "low", "high"] (defScope s_is_whole) := ⟨rfl, rfl, rfl, by decide +kernel, rfl, by decide +kernel, by decide +kernel⟩
def b_is_whole : BF := bThen (bCallX fx_need_number (aCons (eVar 1) (aNil))) (bThen (bCallX fx_need_number (aCons (eVar 2) (aNil))) (bRet (eAndV (eFn f_is_number [] (aCons (eVar 0) (aNil))) (eChain leD leD (eVar 1) (eVar 0) (eVar 2)))))
def fx_is_whole : XF := runX 3 b_is_whole
theorem ok_is_whole (T : Txt K mg cl) (T_is_number : HasF P w K mg base cl 1 "is_number" 1 ["thing"] f_is_number) (TX_need_number : HasFX P w K mg base cl 4 "need_number" 1 ["thing"] fx_need_number) {f : Addr} {fd : FuncData} (F : Fun K "is_whole" "is_whole" s_is_whole f fd) : FnX P w K mg base 5 f fd 3 ["thing", "low", "high"] (spXF (gk K cl) 3 fx_is_whole) := by
  have nd := sc_is_whole.nd
  exact fnX_ok F sc_is_whole rfl fun cdv A outer s H E hgd hr => (db_cons (ds_callX TX_need_number.ok hgd hr rfl TX_need_number.mg TX_need_number.kp TX_need_number.bd (da_cons (de_var (pv 1)) da_nil) (aCons_len aNil_len)) (db_cons (ds_callX TX_need_number.ok hgd hr rfl TX_need_number.mg TX_need_number.kp TX_need_number.bd (da_cons (de_var (pv 2)) da_nil) (aCons_len aNil_len)) (db_one (ds_ret (de_and (de_call T_is_number.ok hgd (hr.mono (by decide)) rfl T_is_number.mg T_is_number.kp T_is_number.bd .nil (fun _ _ => rfl) rfl (da_cons (de_var (pv 0)) da_nil) (aCons_len aNil_len)) (de_one (de_chain opd_le opd_le (de_var (pv 1)) (de_var (pv 0)) (de_var (pv 2)))))))))

abbrev s_is_card : Stmt := top 20
abbrev N_is_card : List Str := ["thing", "key", "number", "by", "marks"]
theorem sc_is_card : FnScope N_is_card ["thing"] (defScope s_is_card) := ⟨rfl, rfl, rfl, by decide +kernel, rfl, by decide +kernel, by decide +kernel⟩
def b_is_card : BF := bThen (bIf (tfOr (tfNot (asB (eCall isiG (aCons (eVar 0) (aCons (eC (.ty "tuple")) (aNil)))))) (asB (eBin neD (eCall lenD (aCons (eVar 0) (aNil))) (eC (.int 4))))) (bRet (eC (.bl false))) (bNil)) (bThen (bAsg (eVar 0) (tupG 4 (consG (nmG 1) (consG (nmG 2) (consG (nmG 3) (consG (nmG 4) (nilG))))))) (bRet (eAndV (eFn f_is_name [] (aCons (eVar 1) (aNil))) (eAndV (eFnX fx_is_whole (aCons (eVar 2) (aCons (eC (.int 1)) (aCons (eC (.int 999999)) (aNil))))) (eAndV (eFn f_is_name [] (aCons (eVar 3) (aNil))) (eFn f_is_marks [] (aCons (eVar 4) (aNil))))))))
def f_is_card : FF := runB 5 b_is_card
theorem ok_is_card (T : Txt K mg cl) (T_is_marks : HasF P w K mg base cl 3 "is_marks" 1 ["thing"] f_is_marks) (T_is_name : HasF P w K mg base cl 1 "is_name" 1 ["thing"] f_is_name) (TX_is_whole : HasFX P w K mg base cl 5 "is_whole" 3 ["thing", "low", "high"] fx_is_whole) {f : Addr} {fd : FuncData} (F : Fun K "is_card" "is_card" s_is_card f fd) : FnG P w K mg base 6 f fd 1 ["thing"] (spF (gk K cl) 1 f_is_card) := by
  have nd := sc_is_card.nd
  exact fn_ok F sc_is_card rfl fun cdv A outer s H hgd hr => (db_cons (ds_if (dt_w (dw_or (dt_not (dt_val (de_callB (cd_isi fun _ _ _ => trivial) rfl T.n_isinstance (by decide +kernel) (da_cons (de_var (pv 0)) (da_cons (de_c (v := .ty "tuple") (pe_bltn rfl T.n_tuple (by decide +kernel) rfl) fun _ _ => rfl) da_nil))))) (dw_or1 (dt_cmp (opd_ne hr.units) (de_callB cd_len rfl T.n_len (by decide +kernel) (da_cons (de_var (pv 0)) da_nil)) de_int)))) (db_one (ds_ret de_bl)) db_nil) (db_cons (ds_asg (de_var (pv 0)) (dg_tup rfl (dgs_cons (dg_name (i := 1) nd rfl (.inl rfl)) (dgs_cons (dg_name (i := 2) nd rfl (.inl rfl)) (dgs_cons (dg_name (i := 3) nd rfl (.inl rfl)) (dgs_cons (dg_name (i := 4) nd rfl (.inl rfl)) dgs_nil)))))) (db_one (ds_ret (de_and (de_call T_is_name.ok hgd (hr.mono (by decide)) rfl T_is_name.mg T_is_name.kp T_is_name.bd .nil (fun _ _ => rfl) rfl (da_cons (de_var (pv 1)) da_nil) (aCons_len aNil_len)) (de_and (de_callX TX_is_whole.ok hgd hr rfl TX_is_whole.mg TX_is_whole.kp TX_is_whole.bd (da_cons (de_var (pv 2)) (da_cons de_int (da_cons (de_gint rfl T.c_MOST_NUMBER) da_nil))) (aCons_len (aCons_len (aCons_len aNil_len)))) (de_and (de_call T_is_name.ok hgd (hr.mono (by decide)) rfl T_is_name.mg T_is_name.kp T_is_name.bd .nil (fun _ _ => rfl) rfl (da_cons (de_var (pv 3)) da_nil) (aCons_len aNil_len)) (de_one (de_call T_is_marks.ok hgd (hr.mono (by decide)) rfl T_is_marks.mg T_is_marks.kp T_is_marks.bd .nil (fun _ _ => rfl) rfl (da_cons (de_var (pv 4)) da_nil) (aCons_len aNil_len))))))))))

abbrev s_need_card : Stmt := top 21
abbrev N_need_card : List Str := ["thing"]
theorem sc_need_card : FnScope N_need_card ["thing"] (defScope s_need_card) := ⟨rfl, rfl, rfl, by decide +kernel, rfl, by decide +kernel, by decide +kernel⟩
def b_need_card : BF := bIf (tfNot (asB (eFn f_is_card [] (aCons (eVar 0) (aNil))))) (bRaise 2 "found" "no card" (aCons (eVar 0) (aNil))) (bNil)
def fx_need_card : XF := runX 1 b_need_card
theorem ok_need_card (T : Txt K mg cl) (T_is_card : HasF P w K mg base cl 6 "is_card" 1 ["thing"] f_is_card) (T_NoCard : HasX P w K mg base cl 2 "NoCard" "found" "no card") {f : Addr} {fd : FuncData} (F : Fun K "need_card" "need_card" s_need_card f fd) : FnX P w K mg base 7 f fd 1 ["thing"] (spXF (gk K cl) 1 fx_need_card) := by
  have nd := sc_need_card.nd
  exact fnX_ok F sc_need_card rfl fun cdv A outer s H E hgd hr => (db_one (ds_if (dt_not (dt_val (de_call T_is_card.ok hgd hr rfl T_is_card.mg T_is_card.kp T_is_card.bd .nil (fun _ _ => rfl) rfl (da_cons (de_var (pv 0)) da_nil) (aCons_len aNil_len)))) (db_one (ds_raise T_NoCard hgd (hr.mono (by decide)) rfl rfl rfl (da_cons (de_var (pv 0)) da_nil))) db_nil))

abbrev s_is_ahead : Stmt := top 23
abbrev N_is_ahead : List Str := ["one", "other"]
theorem sc_is_ahead : FnScope N_is_ahead ["one", "other"] (defScope s_is_ahead) := ⟨rfl, rfl, rfl, by decide +kernel, rfl, by decide +kernel, by decide +kernel⟩
def b_is_ahead : BF := bThen (bCallX fx_need_card (aCons (eVar 0) (aNil))) (bThen (bCallX fx_need_card (aCons (eVar 1) (aNil))) (bThen (bIf (asB (eBin neD (eBin ixD (eVar 1) (eC (.int 0))) (eBin ixD (eVar 0) (eC (.int 0))))) (bRaise 3 "found" "unlike" (aCons (eVar 1) (aNil))) (bNil)) (bRet (eBin ltT (eFn f_rank [] (aCons (eVar 0) (aNil))) (eFn f_rank [] (aCons (eVar 1) (aNil)))))))
def fx_is_ahead : XF := runX 2 b_is_ahead
theorem ok_is_ahead (T : Txt K mg cl) (T_rank : HasF P w K mg base cl 1 "rank" 1 ["card"] f_rank) (TX_need_card : HasFX P w K mg base cl 7 "need_card" 1 ["thing"] fx_need_card) (T_Unlike : HasX P w K mg base cl 3 "Unlike" "found" "unlike") {f : Addr} {fd : FuncData} (F : Fun K "is_ahead" "is_ahead" s_is_ahead f fd) : FnX P w K mg base 8 f fd 2 ["one", "other"] (spXF (gk K cl) 2 fx_is_ahead) := by
  have nd := sc_is_ahead.nd
  exact fnX_ok F sc_is_ahead rfl fun cdv A outer s H E hgd hr => (db_cons (ds_callX TX_need_card.ok hgd hr rfl TX_need_card.mg TX_need_card.kp TX_need_card.bd (da_cons (de_var (pv 0)) da_nil) (aCons_len aNil_len)) (db_cons (ds_callX TX_need_card.ok hgd hr rfl TX_need_card.mg TX_need_card.kp TX_need_card.bd (da_cons (de_var (pv 1)) da_nil) (aCons_len aNil_len)) (db_cons (ds_if (dt_cmp (opd_ne hr.units) (de_ix (de_var (pv 1)) de_int (fun _ _ => rfl)) (de_ix (de_var (pv 0)) de_int (fun _ _ => rfl))) (db_one (ds_raise T_Unlike hgd (hr.mono (by decide)) rfl rfl rfl (da_cons (de_var (pv 1)) da_nil))) db_nil) (db_one (ds_ret (de_cmp (opd_ltT hr.units) (de_call T_rank.ok hgd (hr.mono (by decide)) rfl T_rank.mg T_rank.kp T_rank.bd .nil (fun _ _ => rfl) rfl (da_cons (de_var (pv 0)) da_nil) (aCons_len aNil_len)) (de_call T_rank.ok hgd (hr.mono (by decide)) rfl T_rank.mg T_rank.kp T_rank.bd .nil (fun _ _ => rfl) rfl (da_cons (de_var (pv 1)) da_nil) (aCons_len aNil_len))))))))

abbrev s_greater : Stmt := top 24
abbrev N_greater : List Str := ["one", "other"]
theorem sc_greater : FnScope N_greater ["one", "other"] (defScope s_greater) := ⟨rfl, rfl, rfl, by decide +kernel, rfl, by decide +kernel, by decide +kernel⟩
def b_greater : BF := bRetG (gTry (eIf (asB (eFnX fx_is_ahead (aCons (eVar 0) (aCons (eVar 1) (aNil))))) (eVar 1) (eVar 0)) (rCall fx_is_ahead (aCons (eVar 0) (aCons (eVar 1) (aNil)))))
def fx_greater : XF := runX 2 b_greater
theorem ok_greater (T : Txt K mg cl) (TX_is_ahead : HasFX P w K mg base cl 8 "is_ahead" 2 ["one", "other"] fx_is_ahead) {f : Addr} {fd : FuncData} (F : Fun K "greater" "greater" s_greater f fd) : FnX P w K mg base 9 f fd 2 ["one", "other"] (spXF (gk K cl) 2 fx_greater) := by
  have nd := sc_greater.nd
  exact fnX_ok F sc_greater rfl fun cdv A outer s H E hgd hr => (db_one (ds_retG (dx_try (de_if (dt_val (de_callX TX_is_ahead.ok hgd hr rfl TX_is_ahead.mg TX_is_ahead.kp TX_is_ahead.bd (da_cons (de_var (pv 0)) (da_cons (de_var (pv 1)) da_nil)) (aCons_len (aCons_len aNil_len)))) (de_var (pv 1)) (de_var (pv 0))) (dr_ifT (dr_call TX_is_ahead.ok hgd hr rfl TX_is_ahead.mg TX_is_ahead.kp TX_is_ahead.bd (da_cons (de_var (pv 0)) (da_cons (de_var (pv 1)) da_nil)) (aCons_len (aCons_len aNil_len)))))))

abbrev s_greatest : Stmt := top 25
abbrev N_greatest : List Str := ["cards", "best", "card"]
theorem sc_greatest : FnScope N_greatest ["cards"] (defScope s_greatest) := ⟨rfl, rfl, rfl, by decide +kernel, rfl, by decide +kernel, by decide +kernel⟩
noncomputable def b_greatest : BF := bThen (bIf (tfOr (tfNot (asB (eFn f_is_list [] (aCons (eVar 0) (aNil))))) (tfNot (asB (eChain leD leD (eC (.int 1)) (eCall lenD (aCons (eVar 0) (aNil))) (eC (.int 100)))))) (bRaise 1 "found" "no list" (aCons (eVar 0) (aNil))) (bNil)) (bThen (bSet 1 (eBin ixD (eVar 0) (eC (.int 0)))) (bThen (bForP (iAM (eVar 0)) (nmG 2) (bSetX 1 fx_greater (aCons (eVar 1) (aCons (eVar 2) (aNil))))) (bRet (eVar 1))))
noncomputable def fx_greatest : XF := runX 3 b_greatest
theorem ok_greatest (T : Txt K mg cl) (T_is_list : HasF P w K mg base cl 1 "is_list" 1 ["thing"] f_is_list) (TX_greater : HasFX P w K mg base cl 9 "greater" 2 ["one", "other"] fx_greater) (T_NoList : HasX P w K mg base cl 1 "NoList" "found" "no list") {f : Addr} {fd : FuncData} (F : Fun K "greatest" "greatest" s_greatest f fd) : FnX P w K mg base 10 f fd 1 ["cards"] (spXF (gk K cl) 1 fx_greatest) := by
  have nd := sc_greatest.nd
  exact fnX_ok F sc_greatest rfl fun cdv A outer s H E hgd hr => (db_cons (ds_if (dt_w (dw_or (dt_not (dt_val (de_call T_is_list.ok hgd (hr.mono (by decide)) rfl T_is_list.mg T_is_list.kp T_is_list.bd .nil (fun _ _ => rfl) rfl (da_cons (de_var (pv 0)) da_nil) (aCons_len aNil_len)))) (dw_or1 (dt_not (dt_chain opd_le opd_le de_int (de_callB cd_len rfl T.n_len (by decide +kernel) (da_cons (de_var (pv 0)) da_nil)) (de_gint rfl T.c_MOST_THINGS)))))) (db_one (ds_raise T_NoList hgd (hr.mono (by decide)) rfl rfl rfl (da_cons (de_var (pv 0)) da_nil))) db_nil) (db_cons (ds_set (i := 1) nd rfl (.inl rfl) (de_ix (de_var (pv 0)) de_int (fun _ _ => rfl))) (db_cons (ds_forP (passes_of rfl) rfl (di_anyM (de_var (pv 0))) (dg_name (i := 2) nd rfl (.inl rfl)) (db_one (ds_setX (i := 1) nd rfl (.inl rfl) TX_greater.ok hgd hr rfl TX_greater.mg TX_greater.kp TX_greater.bd (da_cons (de_var (pv 1)) (da_cons (de_var (pv 2)) da_nil)) (aCons_len (aCons_len aNil_len))))) (db_one (ds_ret (de_var (pv 1)))))))

abbrev s__law_pair_right : Stmt := top 39
abbrev N__law_pair_right : List Str := ["one", "other", "due"]
theorem sc__law_pair_right : FnScope N__law_pair_right ["one", "other"] (defScope s__law_pair_right) := ⟨rfl, rfl, rfl, by decide +kernel, rfl, by decide +kernel, by decide +kernel⟩
def b__law_pair_right : BF := bThen (bSet 2 (eFn f__law_ahead [] (aCons (eVar 0) (aCons (eVar 1) (aNil))))) (bThen (bIf (asB (eBin neD (eCall (reprM exNm) (aCons (eFnX fx_is_ahead (aCons (eVar 0) (aCons (eVar 1) (aNil)))) (aNil))) (eCall (reprM exNm) (aCons (eVar 2) (aNil))))) (bRet (eC (.bl false))) (bNil)) (bRet (eBin eqD (eCall (reprM exNm) (aCons (eFnX fx_greater (aCons (eVar 0) (aCons (eVar 1) (aNil)))) (aNil))) (eCall (reprM exNm) (aCons (eIf (asB (eVar 2)) (eVar 1) (eVar 0)) (aNil))))))
def f__law_pair_right : FF := runB 3 b__law_pair_right
theorem ok__law_pair_right (T : Txt K mg cl) (T__law_ahead : HasF P w K mg base cl 1 "_law_ahead" 2 ["one", "other"] f__law_ahead) (TX_greater : HasFX P w K mg base cl 9 "greater" 2 ["one", "other"] fx_greater) (TX_is_ahead : HasFX P w K mg base cl 8 "is_ahead" 2 ["one", "other"] fx_is_ahead) {f : Addr} {fd : FuncData} (F : Fun K "_law_pair_right" "_law_pair_right" s__law_pair_right f fd) : FnG P w K mg base 10 f fd 2 ["one", "other"] (spF (gk K cl) 2 f__law_pair_right) := by
  have nd := sc__law_pair_right.nd
  exact fn_ok F sc__law_pair_right rfl fun cdv A outer s H hgd hr => (db_cons (ds_set (i := 2) nd rfl (.inl rfl) (de_call T__law_ahead.ok hgd (hr.mono (by decide)) rfl T__law_ahead.mg T__law_ahead.kp T__law_ahead.bd .nil (fun _ _ => rfl) rfl (da_cons (de_var (pv 0)) (da_cons (de_var (pv 1)) da_nil)) (aCons_len (aCons_len aNil_len)))) (db_cons (ds_if (dt_cmp (opd_ne hr.units) (de_callB (cd_reprM T.x_nm hgd hr.units) rfl T.n_repr (by decide +kernel) (da_cons (de_callX TX_is_ahead.ok hgd (hr.mono (by decide)) rfl TX_is_ahead.mg TX_is_ahead.kp TX_is_ahead.bd (da_cons (de_var (pv 0)) (da_cons (de_var (pv 1)) da_nil)) (aCons_len (aCons_len aNil_len))) da_nil)) (de_callB (cd_reprM T.x_nm hgd hr.units) rfl T.n_repr (by decide +kernel) (da_cons (de_var (pv 2)) da_nil))) (db_one (ds_ret de_bl)) db_nil) (db_one (ds_ret (de_cmp (opd_eq hr.units) (de_callB (cd_reprM T.x_nm hgd hr.units) rfl T.n_repr (by decide +kernel) (da_cons (de_callX TX_greater.ok hgd hr rfl TX_greater.mg TX_greater.kp TX_greater.bd (da_cons (de_var (pv 0)) (da_cons (de_var (pv 1)) da_nil)) (aCons_len (aCons_len aNil_len))) da_nil)) (de_callB (cd_reprM T.x_nm hgd hr.units) rfl T.n_repr (by decide +kernel) (da_cons (de_if (dt_val (de_var (pv 2))) (de_var (pv 1)) (de_var (pv 0))) da_nil)))))))

abbrev s__law_answer : Stmt := top 40
abbrev N__law_answer : List Str := ["door", "one", "other"]
theorem sc__law_answer : FnScope N__law_answer ["door", "one", "other"] (defScope s__law_answer) := ⟨rfl, rfl, rfl, by decide +kernel, rfl, by decide +kernel, by decide +kernel⟩
noncomputable def b__law_answer : BF := bThen (bIf (asB (eBin eqD (eVar 0) (eC (.int 0)))) (bRetX fx_greater (aCons (eVar 1) (aCons (eVar 2) (aNil)))) (bNil)) (bThen (bIf (asB (eBin eqD (eVar 0) (eC (.int 1)))) (bRetX fx_is_ahead (aCons (eVar 1) (aCons (eVar 2) (aNil)))) (bNil)) (bRetX fx_greatest (aCons (eFrz (nLst (aCons (eVar 1) (aCons (eVar 2) (aNil))))) (aNil))))
noncomputable def fx__law_answer : XF := runX 3 b__law_answer
theorem ok__law_answer (T : Txt K mg cl) (TX_greater : HasFX P w K mg base cl 9 "greater" 2 ["one", "other"] fx_greater) (TX_greatest : HasFX P w K mg base cl 10 "greatest" 1 ["cards"] fx_greatest) (TX_is_ahead : HasFX P w K mg base cl 8 "is_ahead" 2 ["one", "other"] fx_is_ahead) {f : Addr} {fd : FuncData} (F : Fun K "_law_answer" "_law_answer" s__law_answer f fd) : FnX P w K mg base 11 f fd 3 ["door", "one", "other"] (spXF (gk K cl) 3 fx__law_answer) := by
  have nd := sc__law_answer.nd
  exact fnX_ok F sc__law_answer rfl fun cdv A outer s H E hgd hr => (db_cons (ds_if (dt_cmp (opd_eq hr.units) (de_var (pv 0)) de_int) (db_one (ds_retX TX_greater.ok hgd (hr.mono (by decide)) rfl TX_greater.mg TX_greater.kp TX_greater.bd (da_cons (de_var (pv 1)) (da_cons (de_var (pv 2)) da_nil)) (aCons_len (aCons_len aNil_len)))) db_nil) (db_cons (ds_if (dt_cmp (opd_eq hr.units) (de_var (pv 0)) de_int) (db_one (ds_retX TX_is_ahead.ok hgd (hr.mono (by decide)) rfl TX_is_ahead.mg TX_is_ahead.kp TX_is_ahead.bd (da_cons (de_var (pv 1)) (da_cons (de_var (pv 2)) da_nil)) (aCons_len (aCons_len aNil_len)))) db_nil) (db_one (ds_retX TX_greatest.ok hgd hr rfl TX_greatest.mg TX_greatest.kp TX_greatest.bd (da_cons (de_frz (dn_lst (da_cons (de_var (pv 1)) (da_cons (de_var (pv 2)) da_nil)))) da_nil) (aCons_len aNil_len)))))

abbrev s__law_no_list : Stmt := top 42
abbrev N__law_no_list : List Str := ["thing", "e"]
theorem sc__law_no_list : FnScope N__law_no_list ["thing"] (defScope s__law_no_list) := ⟨rfl, rfl, rfl, by decide +kernel, rfl, by decide +kernel, by decide +kernel⟩
noncomputable def b__law_no_list : BF := bThen (bTry (bCallX fx_greatest (aCons (eVar 0) (aNil))) [(exMt 4, (some 1), bThen (bExpr (eFn f__law_grown [] (aCons (eVar 0) (aNil)))) (bRet (eAndV (eXis 1 (kitX exIs) (eC (.cls 1))) (eBin eqD (eCall (reprM exNm) (aCons (eXf 1 "found" exFl_found) (aNil))) (eCall (reprM exNm) (aCons (eVar 0) (aNil)))))))]) (bRet (eC (.bl false)))
noncomputable def f__law_no_list : FF := runB 2 b__law_no_list
theorem ok__law_no_list (T : Txt K mg cl) (TX_greatest : HasFX P w K mg base cl 10 "greatest" 1 ["cards"] fx_greatest) (TH__law_grown : HasH P w K mg base cl 1 "_law_grown" 1 ["thing"] f__law_grown) {f : Addr} {fd : FuncData} (F : Fun K "_law_no_list" "_law_no_list" s__law_no_list f fd) : FnG P w K mg base 11 f fd 1 ["thing"] (spF (gk K cl) 1 f__law_no_list) := by
  have nd := sc__law_no_list.nd
  exact fn_ok F sc__law_no_list rfl fun cdv A outer s H hgd hr => (db_cons (ds_try rfl rfl rfl nd (fun pn xe hp => (db_one (ds_callX TX_greatest.ok hgd hr rfl TX_greatest.mg TX_greatest.kp TX_greatest.bd (da_cons (de_var (pv 0)) da_nil) (aCons_len aNil_len)))) (.cons (x := "PeerError") (oi := (some 1)) ⟨rfl, by decide, .inl T.m_PeerError⟩ ⟨rfl, rfl⟩ (T.x_exm 4) (fun a oe pn hot => have hr := roomH_of hot hr; (db_cons (ds_expr (de_callH TH__law_grown.ok hot (hr.mono (by decide)) rfl TH__law_grown.mg TH__law_grown.kp TH__law_grown.bd rfl (da_cons (de_var (pv 0)) da_nil) (aCons_len aNil_len))) (db_one (ds_ret (de_and (de_xis rfl T.n_isinstance (pv 1) (de_cls (C := 1) rfl T.m_NoList) T.x_is) (de_one (de_cmp (opd_eq hr.units) (de_callB (cd_reprM T.x_nm hgd hr.units) rfl T.n_repr (by decide +kernel) (da_cons (de_xf (pv 1) T.x_fld_found) da_nil)) (de_callB (cd_reprM T.x_nm hgd hr.units) rfl T.n_repr (by decide +kernel) (da_cons (de_var (pv 0)) da_nil))))))))) .nil)) (db_one (ds_ret de_bl)))

abbrev s__law_bad_among : Stmt := top 43
abbrev N__law_bad_among : List Str := ["some", "word", "thing", "e"]
theorem sc__law_bad_among : FnScope N__law_bad_among ["some", "word", "thing"] (defScope s__law_bad_among) := ⟨rfl, rfl, rfl, by decide +kernel, rfl, by decide +kernel, by decide +kernel⟩
noncomputable def b__law_bad_among : BF := bThen (bTry (bCallX fx_greatest (aCons (eVar 0) (aNil))) [(exMt 2, (some 3), bRet (eAndV (eBin eqD (eVar 1) (eC (.str "card"))) (eBin eqD (eCall (reprM exNm) (aCons (eXf 3 "found" exFl_found) (aNil))) (eCall (reprM exNm) (aCons (eVar 2) (aNil)))))), (exMt 3, (some 3), bRet (eAndV (eBin eqD (eVar 1) (eC (.str "unlike"))) (eBin eqD (eCall (reprM exNm) (aCons (eXf 3 "found" exFl_found) (aNil))) (eCall (reprM exNm) (aCons (eVar 2) (aNil))))))]) (bRet (eC (.bl false)))
noncomputable def f__law_bad_among : FF := runB 4 b__law_bad_among
theorem ok__law_bad_among (T : Txt K mg cl) (TX_greatest : HasFX P w K mg base cl 10 "greatest" 1 ["cards"] fx_greatest) {f : Addr} {fd : FuncData} (F : Fun K "_law_bad_among" "_law_bad_among" s__law_bad_among f fd) : FnG P w K mg base 11 f fd 3 ["some", "word", "thing"] (spF (gk K cl) 3 f__law_bad_among) := by
  have nd := sc__law_bad_among.nd
  exact fn_ok F sc__law_bad_among rfl fun cdv A outer s H hgd hr => (db_cons (ds_try rfl rfl rfl nd (fun pn xe hp => (db_one (ds_callX TX_greatest.ok hgd hr rfl TX_greatest.mg TX_greatest.kp TX_greatest.bd (da_cons (de_var (pv 0)) da_nil) (aCons_len aNil_len)))) (.cons (x := "NoCard") (oi := (some 3)) ⟨rfl, by decide, .inl T.m_NoCard⟩ ⟨rfl, rfl⟩ (T.x_exm 2) (fun a oe pn hot => have hr := roomH_of hot hr; (db_one (ds_ret (de_and (de_cmp (opd_eq hr.units) (de_var (pv 1)) de_str) (de_one (de_cmp (opd_eq hr.units) (de_callB (cd_reprM T.x_nm hgd hr.units) rfl T.n_repr (by decide +kernel) (da_cons (de_xf (pv 3) T.x_fld_found) da_nil)) (de_callB (cd_reprM T.x_nm hgd hr.units) rfl T.n_repr (by decide +kernel) (da_cons (de_var (pv 2)) da_nil)))))))) (.cons (x := "Unlike") (oi := (some 3)) ⟨rfl, by decide, .inl T.m_Unlike⟩ ⟨rfl, rfl⟩ (T.x_exm 3) (fun a oe pn hot => have hr := roomH_of hot hr; (db_one (ds_ret (de_and (de_cmp (opd_eq hr.units) (de_var (pv 1)) de_str) (de_one (de_cmp (opd_eq hr.units) (de_callB (cd_reprM T.x_nm hgd hr.units) rfl T.n_repr (by decide +kernel) (da_cons (de_xf (pv 3) T.x_fld_found) da_nil)) (de_callB (cd_reprM T.x_nm hgd hr.units) rfl T.n_repr (by decide +kernel) (da_cons (de_var (pv 2)) da_nil)))))))) .nil))) (db_one (ds_ret de_bl)))

abbrev s__law_refused : Stmt := top 41
abbrev N__law_refused : List Str := ["door", "one", "other", "word", "thing", "e"]
theorem sc__law_refused : FnScope N__law_refused ["door", "one", "other", "word", "thing"] (defScope s__law_refused) := ⟨rfl, rfl, rfl, by decide +kernel, rfl, by decide +kernel, by decide +kernel⟩
noncomputable def b__law_refused : BF := bThen (bTry (bCallX fx__law_answer (aCons (eVar 0) (aCons (eVar 1) (aCons (eVar 2) (aNil))))) [(exMt 2, (some 5), bThen (bExpr (eFn f__law_grown [] (aCons (eVar 4) (aNil)))) (bRet (eAndV (eBin eqD (eVar 3) (eC (.str "card"))) (eBin eqD (eCall (reprM exNm) (aCons (eXf 5 "found" exFl_found) (aNil))) (eCall (reprM exNm) (aCons (eVar 4) (aNil))))))), (exMt 3, (some 5), bRet (eAndV (eBin eqD (eVar 3) (eC (.str "unlike"))) (eBin eqD (eCall (reprM exNm) (aCons (eXf 5 "found" exFl_found) (aNil))) (eCall (reprM exNm) (aCons (eVar 4) (aNil)))))), (exMt 4, none, bRet (eC (.bl false)))]) (bRet (eC (.bl false)))
noncomputable def f__law_refused : FF := runB 6 b__law_refused
theorem ok__law_refused (T : Txt K mg cl) (TX__law_answer : HasFX P w K mg base cl 11 "_law_answer" 3 ["door", "one", "other"] fx__law_answer) (TH__law_grown : HasH P w K mg base cl 1 "_law_grown" 1 ["thing"] f__law_grown) {f : Addr} {fd : FuncData} (F : Fun K "_law_refused" "_law_refused" s__law_refused f fd) : FnG P w K mg base 12 f fd 5 ["door", "one", "other", "word", "thing"] (spF (gk K cl) 5 f__law_refused) := by
  have nd := sc__law_refused.nd
  exact fn_ok F sc__law_refused rfl fun cdv A outer s H hgd hr => (db_cons (ds_try rfl rfl rfl nd (fun pn xe hp => (db_one (ds_callX TX__law_answer.ok hgd hr rfl TX__law_answer.mg TX__law_answer.kp TX__law_answer.bd (da_cons (de_var (pv 0)) (da_cons (de_var (pv 1)) (da_cons (de_var (pv 2)) da_nil))) (aCons_len (aCons_len (aCons_len aNil_len)))))) (.cons (x := "NoCard") (oi := (some 5)) ⟨rfl, by decide, .inl T.m_NoCard⟩ ⟨rfl, rfl⟩ (T.x_exm 2) (fun a oe pn hot => have hr := roomH_of hot hr; (db_cons (ds_expr (de_callH TH__law_grown.ok hot (hr.mono (by decide)) rfl TH__law_grown.mg TH__law_grown.kp TH__law_grown.bd rfl (da_cons (de_var (pv 4)) da_nil) (aCons_len aNil_len))) (db_one (ds_ret (de_and (de_cmp (opd_eq hr.units) (de_var (pv 3)) de_str) (de_one (de_cmp (opd_eq hr.units) (de_callB (cd_reprM T.x_nm hgd hr.units) rfl T.n_repr (by decide +kernel) (da_cons (de_xf (pv 5) T.x_fld_found) da_nil)) (de_callB (cd_reprM T.x_nm hgd hr.units) rfl T.n_repr (by decide +kernel) (da_cons (de_var (pv 4)) da_nil))))))))) (.cons (x := "Unlike") (oi := (some 5)) ⟨rfl, by decide, .inl T.m_Unlike⟩ ⟨rfl, rfl⟩ (T.x_exm 3) (fun a oe pn hot => have hr := roomH_of hot hr; (db_one (ds_ret (de_and (de_cmp (opd_eq hr.units) (de_var (pv 3)) de_str) (de_one (de_cmp (opd_eq hr.units) (de_callB (cd_reprM T.x_nm hgd hr.units) rfl T.n_repr (by decide +kernel) (da_cons (de_xf (pv 5) T.x_fld_found) da_nil)) (de_callB (cd_reprM T.x_nm hgd hr.units) rfl T.n_repr (by decide +kernel) (da_cons (de_var (pv 4)) da_nil)))))))) (.cons (x := "PeerError") (oi := none) ⟨rfl, by decide, .inl T.m_PeerError⟩ trivial (T.x_exm 4) (fun a oe pn hot => have hr := roomH_of hot hr; (db_one (ds_ret de_bl))) .nil)))) (db_one (ds_ret de_bl)))

abbrev s__law_first_bad_right : Stmt := top 44
abbrev N__law_first_bad_right : List Str := ["box", "cards", "odd", "strange", "some", "thing"]
theorem sc__law_first_bad_right : FnScope N__law_first_bad_right ["box", "cards", "odd", "strange"] (defScope s__law_first_bad_right) := ⟨rfl, rfl, rfl, by decide +kernel, rfl, by decide +kernel, by decide +kernel⟩
noncomputable def b__law_first_bad_right : BF := bThen (bSet 4 (eCall lstM (aCons (eVar 1) (aNil)))) (bThen (bFor (iL (eFrz (nLst (aCons (eVar 2) (aCons (eVar 3) (aNil)))))) (nmG 5) (bExpr (eMt "list" insertD (eVar 4) (aCons (eBin addD (eC (.int 1)) (eFn f__law_take [] (aCons (eVar 0) (aCons (eCall lenD (aCons (eVar 4) (aNil))) (aNil))))) (aCons (eVar 5) (aNil)))))) (bThen (bForP (iLM (eVar 4)) (nmG 5) (bThen (bIf (asB (eBin eqD (eCall (reprM exNm) (aCons (eVar 5) (aNil))) (eCall (reprM exNm) (aCons (eVar 2) (aNil))))) (bRet (eFn f__law_bad_among [] (aCons (eVar 4) (aCons (eC (.str "card")) (aCons (eVar 2) (aNil)))))) (bNil)) (bIf (asB (eBin eqD (eCall (reprM exNm) (aCons (eVar 5) (aNil))) (eCall (reprM exNm) (aCons (eVar 3) (aNil))))) (bRet (eFn f__law_bad_among [] (aCons (eVar 4) (aCons (eC (.str "unlike")) (aCons (eVar 3) (aNil)))))) (bNil)))) (bRet (eC (.bl false)))))
noncomputable def f__law_first_bad_right : FF := runB 6 b__law_first_bad_right
theorem ok__law_first_bad_right (T : Txt K mg cl) (T__law_bad_among : HasF P w K mg base cl 11 "_law_bad_among" 3 ["some", "word", "thing"] f__law_bad_among) (T__law_take : HasF P w K mg base cl 1 "_law_take" 2 ["box", "many"] f__law_take) {f : Addr} {fd : FuncData} (F : Fun K "_law_first_bad_right" "_law_first_bad_right" s__law_first_bad_right f fd) : FnG P w K mg base 12 f fd 4 ["box", "cards", "odd", "strange"] (spF (gk K cl) 4 f__law_first_bad_right) := by
  have nd := sc__law_first_bad_right.nd
  exact fn_ok F sc__law_first_bad_right rfl fun cdv A outer s H hgd hr => (db_cons (ds_set (i := 4) nd rfl (.inl rfl) (de_callT cd_lstM rfl T.n_list (by decide +kernel) (da_cons (de_var (pv 1)) da_nil))) (db_cons (ds_for PassesOwn.never rfl (di_list (de_frz (dn_lst (da_cons (de_var (pv 2)) (da_cons (de_var (pv 3)) da_nil))))) (dg_name (i := 5) nd rfl (.inl rfl)) (db_one (ds_expr (de_bm PySem.F.plainAttrs_list PySem.F.slot_list_insert PySem.F.type_list_insert md_insert (de_var (pv 4)) (da_cons (de_bin opd_add de_int (de_call T__law_take.ok hgd (hr.mono (by decide)) rfl T__law_take.mg T__law_take.kp T__law_take.bd .nil (fun _ _ => rfl) rfl (da_cons (de_var (pv 0)) (da_cons (de_callB cd_len rfl T.n_len (by decide +kernel) (da_cons (de_var (pv 4)) da_nil)) da_nil)) (aCons_len (aCons_len aNil_len)))) (da_cons (de_var (pv 5)) da_nil)))))) (db_cons (ds_forP PassesOwn.never rfl (di_listM (de_var (pv 4))) (dg_name (i := 5) nd rfl (.inl rfl)) (db_cons (ds_if (dt_cmp (opd_eq hr.units) (de_callB (cd_reprM T.x_nm hgd hr.units) rfl T.n_repr (by decide +kernel) (da_cons (de_var (pv 5)) da_nil)) (de_callB (cd_reprM T.x_nm hgd hr.units) rfl T.n_repr (by decide +kernel) (da_cons (de_var (pv 2)) da_nil))) (db_one (ds_ret (de_call T__law_bad_among.ok hgd hr rfl T__law_bad_among.mg T__law_bad_among.kp T__law_bad_among.bd .nil (fun _ _ => rfl) rfl (da_cons (de_var (pv 4)) (da_cons de_str (da_cons (de_var (pv 2)) da_nil))) (aCons_len (aCons_len (aCons_len aNil_len)))))) db_nil) (db_one (ds_if (dt_cmp (opd_eq hr.units) (de_callB (cd_reprM T.x_nm hgd hr.units) rfl T.n_repr (by decide +kernel) (da_cons (de_var (pv 5)) da_nil)) (de_callB (cd_reprM T.x_nm hgd hr.units) rfl T.n_repr (by decide +kernel) (da_cons (de_var (pv 3)) da_nil))) (db_one (ds_ret (de_call T__law_bad_among.ok hgd hr rfl T__law_bad_among.mg T__law_bad_among.kp T__law_bad_among.bd .nil (fun _ _ => rfl) rfl (da_cons (de_var (pv 4)) (da_cons de_str (da_cons (de_var (pv 3)) da_nil))) (aCons_len (aCons_len (aCons_len aNil_len)))))) db_nil)))) (db_one (ds_ret de_bl)))))

abbrev s__law_refusals_right : Stmt := top 45
abbrev N__law_refusals_right : List Str := ["box", "cards", "key", "card", "strange", "odd", "door", "thing", "wrong", "word", "some"]
theorem sc__law_refusals_right : FnScope N__law_refusals_right ["box", "cards", "key"] (defScope s__law_refusals_right) := ⟨rfl, rfl, rfl, by decide +kernel, rfl, by decide +kernel, by decide +kernel⟩
noncomputable def b__law_refusals_right : BF := bThen (bSet 3 (eBin ixD (eVar 1) (eFn f__law_take [] (aCons (eVar 0) (aCons (eCall lenD (aCons (eVar 1) (aNil))) (aNil)))))) (bThen (bSet 4 (eBin addT (eTup (aCons (eVar 2) (aNil))) (eSlT (eVar 3) (pSo (eC (.int 1))) (pNo)))) (bThen (bSet 5 (eBin ixD (eFrz (nLst (aCons (eFn f__law_thing [] (aCons (eVar 0) (aNil))) (aCons (eCall lstM (aCons (eVar 3) (aNil))) (aCons (eSlT (eVar 3) (pNo) (pSo (eC (.int 3)))) (aCons (eBin addT (eTup (aCons (eMt "str" upperD (eBin ixD (eVar 3) (eC (.int 0))) aNil) (aNil))) (eSlT (eVar 3) (pSo (eC (.int 1))) (pNo))) (aNil))))))) (eFn f__law_take [] (aCons (eVar 0) (aCons (eC (.int 4)) (aNil)))))) (bThen (bFor (iR1 (aCons (eC (.int 3)) (aNil))) (nmG 6) (bThen (bIf (tfNot (asB (eFn f__law_refused [] (aCons (eVar 6) (aCons (eVar 5) (aCons (eVar 4) (aCons (eC (.str "card")) (aCons (eVar 5) (aNil))))))))) (bRet (eC (.bl false))) (bNil)) (bIf (tfOr (tfNot (asB (eFn f__law_refused [] (aCons (eVar 6) (aCons (eVar 3) (aCons (eVar 5) (aCons (eC (.str "card")) (aCons (eVar 5) (aNil))))))))) (tfNot (asB (eFn f__law_refused [] (aCons (eVar 6) (aCons (eVar 3) (aCons (eVar 4) (aCons (eC (.str "unlike")) (aCons (eVar 4) (aNil)))))))))) (bRet (eC (.bl false))) (bNil)))) (bThen (bFor (iL (eFrz (nLst (aCons (eTup (aCons (eVar 5) (aCons (eC (.str "card")) (aNil)))) (aCons (eTup (aCons (eVar 4) (aCons (eC (.str "unlike")) (aNil)))) (aNil)))))) (tupG 2 (consG (nmG 8) (consG (nmG 9) (nilG)))) (bThen (bSet 10 (eBin addM (eVar 1) (eMut (nSl (eVar 1) (pNo) (pSo (eC (.int 1))))))) (bThen (bExpr (eMt "list" insertD (eVar 10) (aCons (eBin addD (eC (.int 1)) (eFn f__law_take [] (aCons (eVar 0) (aCons (eCall lenD (aCons (eVar 10) (aNil))) (aNil))))) (aCons (eVar 8) (aNil))))) (bIf (tfNot (asB (eFn f__law_bad_among [] (aCons (eVar 10) (aCons (eVar 9) (aCons (eVar 8) (aNil))))))) (bRet (eC (.bl false))) (bNil))))) (bThen (bIf (tfNot (asB (eFn f__law_first_bad_right [] (aCons (eVar 0) (aCons (eVar 1) (aCons (eVar 5) (aCons (eVar 4) (aNil)))))))) (bRet (eC (.bl false))) (bNil)) (bThen (bFor (iL (eFrz (nLst (aCons (eMut (nLst (aNil))) (aCons (eTup (aNil)) (aCons (eC .non) (aCons (eBin ixD (eVar 3) (eC (.int 0))) (aCons (eDctM0) (aCons (eBin mulM (eMut (nSl (eVar 1) (pNo) (pSo (eC (.int 1))))) (eC (.int 101))) (aNil)))))))))) (nmG 7) (bIf (tfNot (asB (eFn f__law_no_list [] (aCons (eVar 7) (aNil))))) (bRet (eC (.bl false))) (bNil))) (bRet (eC (.bl true)))))))))
noncomputable def f__law_refusals_right : FF := runB 11 b__law_refusals_right
theorem ok__law_refusals_right (T : Txt K mg cl) (T__law_bad_among : HasF P w K mg base cl 11 "_law_bad_among" 3 ["some", "word", "thing"] f__law_bad_among) (T__law_first_bad_right : HasF P w K mg base cl 12 "_law_first_bad_right" 4 ["box", "cards", "odd", "strange"] f__law_first_bad_right) (T__law_no_list : HasF P w K mg base cl 11 "_law_no_list" 1 ["thing"] f__law_no_list) (T__law_refused : HasF P w K mg base cl 12 "_law_refused" 5 ["door", "one", "other", "word", "thing"] f__law_refused) (T__law_take : HasF P w K mg base cl 1 "_law_take" 2 ["box", "many"] f__law_take) (T__law_thing : HasF P w K mg base cl 2 "_law_thing" 1 ["box"] f__law_thing) {f : Addr} {fd : FuncData} (F : Fun K "_law_refusals_right" "_law_refusals_right" s__law_refusals_right f fd) : FnG P w K mg base 13 f fd 3 ["box", "cards", "key"] (spF (gk K cl) 3 f__law_refusals_right) := by
  have nd := sc__law_refusals_right.nd
  exact fn_ok F sc__law_refusals_right rfl fun cdv A outer s H hgd hr => (db_cons (ds_set (i := 3) nd rfl (.inl rfl) (de_ix (de_var (pv 1)) (de_call T__law_take.ok hgd (hr.mono (by decide)) rfl T__law_take.mg T__law_take.kp T__law_take.bd .nil (fun _ _ => rfl) rfl (da_cons (de_var (pv 0)) (da_cons (de_callB cd_len rfl T.n_len (by decide +kernel) (da_cons (de_var (pv 1)) da_nil)) da_nil)) (aCons_len (aCons_len aNil_len))) (fun _ _ => rfl))) (db_cons (ds_set (i := 4) nd rfl (.inl rfl) (de_bin opd_addT (de_tup (da_cons (de_var (pv 2)) da_nil)) (de_slT (de_var (pv 3)) (dp_so de_int) dp_no))) (db_cons (ds_set (i := 5) nd rfl (.inl rfl) (de_ix (de_frz (dn_lst (da_cons (de_call T__law_thing.ok hgd (hr.mono (by decide)) rfl T__law_thing.mg T__law_thing.kp T__law_thing.bd .nil (fun _ _ => rfl) rfl (da_cons (de_var (pv 0)) da_nil) (aCons_len aNil_len)) (da_cons (de_callT cd_lstM rfl T.n_list (by decide +kernel) (da_cons (de_var (pv 3)) da_nil)) (da_cons (de_slT (de_var (pv 3)) dp_no (dp_so de_int)) (da_cons (de_bin opd_addT (de_tup (da_cons (de_bm0 PySem.F.plainAttrs_str PySem.F.slot_str_upper PySem.F.type_str_upper md_upper (de_ix (de_var (pv 3)) de_int (fun _ _ => rfl))) da_nil)) (de_slT (de_var (pv 3)) (dp_so de_int) dp_no)) da_nil)))))) (de_call T__law_take.ok hgd (hr.mono (by decide)) rfl T__law_take.mg T__law_take.kp T__law_take.bd .nil (fun _ _ => rfl) rfl (da_cons (de_var (pv 0)) (da_cons de_int da_nil)) (aCons_len (aCons_len aNil_len))) (fun _ _ => rfl))) (db_cons (ds_for PassesOwn.never rfl (di_range1 rfl T.n_range (da_cons de_int da_nil)) (dg_name (i := 6) nd rfl (.inl rfl)) (db_cons (ds_if (dt_not (dt_val (de_call T__law_refused.ok hgd hr rfl T__law_refused.mg T__law_refused.kp T__law_refused.bd .nil (fun _ _ => rfl) rfl (da_cons (de_var (pv 6)) (da_cons (de_var (pv 5)) (da_cons (de_var (pv 4)) (da_cons de_str (da_cons (de_var (pv 5)) da_nil))))) (aCons_len (aCons_len (aCons_len (aCons_len (aCons_len aNil_len)))))))) (db_one (ds_ret de_bl)) db_nil) (db_one (ds_if (dt_w (dw_or (dt_not (dt_val (de_call T__law_refused.ok hgd hr rfl T__law_refused.mg T__law_refused.kp T__law_refused.bd .nil (fun _ _ => rfl) rfl (da_cons (de_var (pv 6)) (da_cons (de_var (pv 3)) (da_cons (de_var (pv 5)) (da_cons de_str (da_cons (de_var (pv 5)) da_nil))))) (aCons_len (aCons_len (aCons_len (aCons_len (aCons_len aNil_len)))))))) (dw_or1 (dt_not (dt_val (de_call T__law_refused.ok hgd hr rfl T__law_refused.mg T__law_refused.kp T__law_refused.bd .nil (fun _ _ => rfl) rfl (da_cons (de_var (pv 6)) (da_cons (de_var (pv 3)) (da_cons (de_var (pv 4)) (da_cons de_str (da_cons (de_var (pv 4)) da_nil))))) (aCons_len (aCons_len (aCons_len (aCons_len (aCons_len aNil_len))))))))))) (db_one (ds_ret de_bl)) db_nil)))) (db_cons (ds_for PassesOwn.never rfl (di_list (de_frz (dn_lst (da_cons (de_tup (da_cons (de_var (pv 5)) (da_cons de_str da_nil))) (da_cons (de_tup (da_cons (de_var (pv 4)) (da_cons de_str da_nil))) da_nil))))) (dg_tup rfl (dgs_cons (dg_name (i := 8) nd rfl (.inl rfl)) (dgs_cons (dg_name (i := 9) nd rfl (.inl rfl)) dgs_nil))) (db_cons (ds_set (i := 10) nd rfl (.inl rfl) (de_bin opd_addM (de_var (pv 1)) (de_mut (dn_sl (de_var (pv 1)) dp_no (dp_so de_int))))) (db_cons (ds_expr (de_bm PySem.F.plainAttrs_list PySem.F.slot_list_insert PySem.F.type_list_insert md_insert (de_var (pv 10)) (da_cons (de_bin opd_add de_int (de_call T__law_take.ok hgd (hr.mono (by decide)) rfl T__law_take.mg T__law_take.kp T__law_take.bd .nil (fun _ _ => rfl) rfl (da_cons (de_var (pv 0)) (da_cons (de_callB cd_len rfl T.n_len (by decide +kernel) (da_cons (de_var (pv 10)) da_nil)) da_nil)) (aCons_len (aCons_len aNil_len)))) (da_cons (de_var (pv 8)) da_nil)))) (db_one (ds_if (dt_not (dt_val (de_call T__law_bad_among.ok hgd (hr.mono (by decide)) rfl T__law_bad_among.mg T__law_bad_among.kp T__law_bad_among.bd .nil (fun _ _ => rfl) rfl (da_cons (de_var (pv 10)) (da_cons (de_var (pv 9)) (da_cons (de_var (pv 8)) da_nil))) (aCons_len (aCons_len (aCons_len aNil_len)))))) (db_one (ds_ret de_bl)) db_nil))))) (db_cons (ds_if (dt_not (dt_val (de_call T__law_first_bad_right.ok hgd hr rfl T__law_first_bad_right.mg T__law_first_bad_right.kp T__law_first_bad_right.bd .nil (fun _ _ => rfl) rfl (da_cons (de_var (pv 0)) (da_cons (de_var (pv 1)) (da_cons (de_var (pv 5)) (da_cons (de_var (pv 4)) da_nil)))) (aCons_len (aCons_len (aCons_len (aCons_len aNil_len))))))) (db_one (ds_ret de_bl)) db_nil) (db_cons (ds_for PassesOwn.never rfl (di_list (de_frz (dn_lst (da_cons (de_mut (dn_lst da_nil)) (da_cons (de_tup da_nil) (da_cons de_non (da_cons (de_ix (de_var (pv 3)) de_int (fun _ _ => rfl)) (da_cons de_dctM0 (da_cons (de_bin opd_mulM (de_mut (dn_sl (de_var (pv 1)) dp_no (dp_so de_int))) de_int) da_nil))))))))) (dg_name (i := 7) nd rfl (.inl rfl)) (db_one (ds_if (dt_not (dt_val (de_call T__law_no_list.ok hgd (hr.mono (by decide)) rfl T__law_no_list.mg T__law_no_list.kp T__law_no_list.bd .nil (fun _ _ => rfl) rfl (da_cons (de_var (pv 7)) da_nil) (aCons_len aNil_len)))) (db_one (ds_ret de_bl)) db_nil))) (db_one (ds_ret de_bl)))))))))

abbrev s_law : Stmt := top 46
abbrev N_law : List Str := ["script", "k", "box", "names", "cards", "one", "top", "card", "turn", "some", "other", "held", "last"]
theorem sc_law : FnScope N_law ["script"] (defScope s_law) := ⟨rfl, rfl, rfl, by decide +kernel, rfl, by decide +kernel, by decide +kernel⟩
noncomputable def b_law : BF := bThen (bFor (iR1 (aCons (eCall maxD (aCons (eC (.int 2)) (aCons (eCall minD (aCons (eCall lenD (aCons (eVar 0) (aNil))) (aCons (eC (.int 6)) (aNil)))) (aNil)))) (aNil))) (nmG 1) (bThen (bSet 2 (eFn f__law_box [] (aCons (eFn f__law_cell [] (aCons (eVar 0) (aCons (eVar 1) (aNil)))) (aNil)))) (bThen (bSet 3 (eFn f__law_names [] (aCons (eVar 2) (aCons (eC (.int 4)) (aNil))))) (bThen (bSet 4 (eFn f__law_cards [] (aCons (eVar 2) (aCons (eBin ixD (eVar 3) (eC (.int 2))) (aCons (eMut (nSl (eVar 3) (pNo) (pSo (eC (.int 2))))) (aNil)))))) (bThen (bForP (iLM (eVar 4)) (nmG 5) (bForP (iLM (eVar 4)) (nmG 10) (bThen (bIf (tfNot (asB (eFn f__law_pair_right [] (aCons (eVar 5) (aCons (eVar 10) (aNil)))))) (bRet (eC (.bl false))) (bNil)) (bThen (bIf (asB (eBin neD (eMt "list" countB (eFrz (nLst (aCons (eFnX fx_is_ahead (aCons (eVar 5) (aCons (eVar 10) (aNil)))) (aCons (eFnX fx_is_ahead (aCons (eVar 10) (aCons (eVar 5) (aNil)))) (aNil))))) (aCons (eC (.bl true)) (aNil))) (eCall intD (aCons (eBin neD (eVar 5) (eVar 10)) (aNil))))) (bRet (eC (.bl false))) (bNil)) (bForP (iLM (eMut (nSl (eVar 4) (pNo) (pSo (eC (.int 3)))))) (nmG 12) (bIf (tfAnd (asB (eFnX fx_is_ahead (aCons (eVar 5) (aCons (eVar 10) (aNil))))) (tfAnd (asB (eFnX fx_is_ahead (aCons (eVar 10) (aCons (eVar 12) (aNil))))) (tfNot (asB (eFnX fx_is_ahead (aCons (eVar 5) (aCons (eVar 12) (aNil)))))))) (bRet (eC (.bl false))) (bNil))))))) (bThen (bSet 6 (eBin ixD (eVar 4) (eC (.int 0)))) (bThen (bForP (iLM (eMut (nSl (eVar 4) (pSo (eC (.int 1))) (pNo)))) (nmG 7) (bSet 6 (eIf (asB (eFn f__law_ahead [] (aCons (eVar 6) (aCons (eVar 7) (aNil))))) (eVar 7) (eVar 6)))) (bThen (bSet 8 (eFn f__law_take [] (aCons (eVar 2) (aCons (eCall lenD (aCons (eVar 4) (aNil))) (aNil))))) (bThen (bFor (iL (eFrz (nLst (aCons (eVar 4) (aCons (eMut (nRevL (eVar 4))) (aCons (eCall tupM (aCons (eBin addM (eMut (nSl (eVar 4) (pSo (eVar 8)) (pNo))) (eMut (nSl (eVar 4) (pNo) (pSo (eVar 8))))) (aNil))) (aNil))))))) (nmG 9) (bThen (bSet 11 (eCall (reprM exNm) (aCons (eVar 9) (aNil)))) (bIf (tfOr (asB (eBin neD (eCall (reprM exNm) (aCons (eFnX fx_greatest (aCons (eVar 9) (aNil))) (aNil))) (eCall (reprM exNm) (aCons (eVar 6) (aNil))))) (asB (eBin neD (eCall (reprM exNm) (aCons (eVar 9) (aNil))) (eVar 11)))) (bRet (eC (.bl false))) (bNil)))) (bThen (bIf (asB (eBin neD (eFnX fx_greatest (aCons (eBin addM (eBin mulM (eMut (nSl (eVar 4) (pNo) (pSo (eC (.int 1))))) (eC (.int 99))) (eMut (nSl (eVar 4) (pSo (eC (.int 1))) (pSo (eC (.int 2)))))) (aNil))) (eFnX fx_greatest (aCons (eMut (nSl (eVar 4) (pNo) (pSo (eC (.int 2))))) (aNil))))) (bRet (eC (.bl false))) (bNil)) (bIf (tfNot (asB (eFn f__law_refusals_right [] (aCons (eVar 2) (aCons (eVar 4) (aCons (eBin ixD (eVar 3) (eC (.int 3))) (aNil))))))) (bRet (eC (.bl false))) (bNil)))))))))))) (bRet (eC (.bl true)))
noncomputable def f_law : FF := runB 13 b_law
theorem ok_law (T : Txt K mg cl) (T__law_ahead : HasF P w K mg base cl 1 "_law_ahead" 2 ["one", "other"] f__law_ahead) (T__law_box : HasF P w K mg base cl 1 "_law_box" 1 ["cell"] f__law_box) (T__law_cards : HasF P w K mg base cl 3 "_law_cards" 3 ["box", "key", "names"] f__law_cards) (T__law_cell : HasF P w K mg base cl 1 "_law_cell" 2 ["script", "k"] f__law_cell) (T__law_names : HasF P w K mg base cl 2 "_law_names" 2 ["box", "many"] f__law_names) (T__law_pair_right : HasF P w K mg base cl 10 "_law_pair_right" 2 ["one", "other"] f__law_pair_right) (T__law_refusals_right : HasF P w K mg base cl 13 "_law_refusals_right" 3 ["box", "cards", "key"] f__law_refusals_right) (T__law_take : HasF P w K mg base cl 1 "_law_take" 2 ["box", "many"] f__law_take) (TX_greatest : HasFX P w K mg base cl 10 "greatest" 1 ["cards"] fx_greatest) (TX_is_ahead : HasFX P w K mg base cl 8 "is_ahead" 2 ["one", "other"] fx_is_ahead) {f : Addr} {fd : FuncData} (F : Fun K "law" "law" s_law f fd) : FnG P w K mg base 14 f fd 1 ["script"] (spF (gk K cl) 1 f_law) := by
  have nd := sc_law.nd
  exact fn_ok F sc_law rfl fun cdv A outer s H hgd hr => (db_cons (ds_for PassesOwn.never rfl (di_range1 rfl T.n_range (da_cons (de_callB (cd_max rfl) rfl T.n_max (by decide +kernel) (da_cons de_int (da_cons (de_callB (cd_min rfl) rfl T.n_min (by decide +kernel) (da_cons (de_callB cd_len rfl T.n_len (by decide +kernel) (da_cons (de_var (pv 0)) da_nil)) (da_cons de_int da_nil))) da_nil))) da_nil)) (dg_name (i := 1) nd rfl (.inl rfl)) (db_cons (ds_set (i := 2) nd rfl (.inl rfl) (de_call T__law_box.ok hgd (hr.mono (by decide)) rfl T__law_box.mg T__law_box.kp T__law_box.bd .nil (fun _ _ => rfl) rfl (da_cons (de_call T__law_cell.ok hgd (hr.mono (by decide)) rfl T__law_cell.mg T__law_cell.kp T__law_cell.bd .nil (fun _ _ => rfl) rfl (da_cons (de_var (pv 0)) (da_cons (de_var (pv 1)) da_nil)) (aCons_len (aCons_len aNil_len))) da_nil) (aCons_len aNil_len))) (db_cons (ds_set (i := 3) nd rfl (.inl rfl) (de_call T__law_names.ok hgd (hr.mono (by decide)) rfl T__law_names.mg T__law_names.kp T__law_names.bd .nil (fun _ _ => rfl) rfl (da_cons (de_var (pv 2)) (da_cons de_int da_nil)) (aCons_len (aCons_len aNil_len)))) (db_cons (ds_set (i := 4) nd rfl (.inl rfl) (de_call T__law_cards.ok hgd (hr.mono (by decide)) rfl T__law_cards.mg T__law_cards.kp T__law_cards.bd .nil (fun _ _ => rfl) rfl (da_cons (de_var (pv 2)) (da_cons (de_ix (de_var (pv 3)) de_int (fun _ _ => rfl)) (da_cons (de_mut (dn_sl (de_var (pv 3)) dp_no (dp_so de_int))) da_nil))) (aCons_len (aCons_len (aCons_len aNil_len))))) (db_cons (ds_forP PassesOwn.never rfl (di_listM (de_var (pv 4))) (dg_name (i := 5) nd rfl (.inl rfl)) (db_one (ds_forP PassesOwn.never rfl (di_listM (de_var (pv 4))) (dg_name (i := 10) nd rfl (.inl rfl)) (db_cons (ds_if (dt_not (dt_val (de_call T__law_pair_right.ok hgd (hr.mono (by decide)) rfl T__law_pair_right.mg T__law_pair_right.kp T__law_pair_right.bd .nil (fun _ _ => rfl) rfl (da_cons (de_var (pv 5)) (da_cons (de_var (pv 10)) da_nil)) (aCons_len (aCons_len aNil_len))))) (db_one (ds_ret de_bl)) db_nil) (db_cons (ds_if (dt_cmp (opd_ne hr.units) (de_bm PySem.F.plainAttrs_list PySem.F.slot_list_count PySem.F.type_list_count md_countB (de_frz (dn_lst (da_cons (de_callX TX_is_ahead.ok hgd (hr.mono (by decide)) rfl TX_is_ahead.mg TX_is_ahead.kp TX_is_ahead.bd (da_cons (de_var (pv 5)) (da_cons (de_var (pv 10)) da_nil)) (aCons_len (aCons_len aNil_len))) (da_cons (de_callX TX_is_ahead.ok hgd (hr.mono (by decide)) rfl TX_is_ahead.mg TX_is_ahead.kp TX_is_ahead.bd (da_cons (de_var (pv 10)) (da_cons (de_var (pv 5)) da_nil)) (aCons_len (aCons_len aNil_len))) da_nil)))) (da_cons de_bl da_nil)) (de_callT cd_int rfl T.n_int (by decide +kernel) (da_cons (de_cmp (opd_ne hr.units) (de_var (pv 5)) (de_var (pv 10))) da_nil))) (db_one (ds_ret de_bl)) db_nil) (db_one (ds_forP PassesOwn.never rfl (di_listM (de_mut (dn_sl (de_var (pv 4)) dp_no (dp_so de_int)))) (dg_name (i := 12) nd rfl (.inl rfl)) (db_one (ds_if (dt_w (dw_and (dt_val (de_callX TX_is_ahead.ok hgd (hr.mono (by decide)) rfl TX_is_ahead.mg TX_is_ahead.kp TX_is_ahead.bd (da_cons (de_var (pv 5)) (da_cons (de_var (pv 10)) da_nil)) (aCons_len (aCons_len aNil_len)))) (dw_and (dt_val (de_callX TX_is_ahead.ok hgd (hr.mono (by decide)) rfl TX_is_ahead.mg TX_is_ahead.kp TX_is_ahead.bd (da_cons (de_var (pv 10)) (da_cons (de_var (pv 12)) da_nil)) (aCons_len (aCons_len aNil_len)))) (dw_and1 (dt_not (dt_val (de_callX TX_is_ahead.ok hgd (hr.mono (by decide)) rfl TX_is_ahead.mg TX_is_ahead.kp TX_is_ahead.bd (da_cons (de_var (pv 5)) (da_cons (de_var (pv 12)) da_nil)) (aCons_len (aCons_len aNil_len))))))))) (db_one (ds_ret de_bl)) db_nil))))))))) (db_cons (ds_set (i := 6) nd rfl (.inl rfl) (de_ix (de_var (pv 4)) de_int (fun _ _ => rfl))) (db_cons (ds_forP PassesOwn.never rfl (di_listM (de_mut (dn_sl (de_var (pv 4)) (dp_so de_int) dp_no))) (dg_name (i := 7) nd rfl (.inl rfl)) (db_one (ds_set (i := 6) nd rfl (.inl rfl) (de_if (dt_val (de_call T__law_ahead.ok hgd (hr.mono (by decide)) rfl T__law_ahead.mg T__law_ahead.kp T__law_ahead.bd .nil (fun _ _ => rfl) rfl (da_cons (de_var (pv 6)) (da_cons (de_var (pv 7)) da_nil)) (aCons_len (aCons_len aNil_len)))) (de_var (pv 7)) (de_var (pv 6)))))) (db_cons (ds_set (i := 8) nd rfl (.inl rfl) (de_call T__law_take.ok hgd (hr.mono (by decide)) rfl T__law_take.mg T__law_take.kp T__law_take.bd .nil (fun _ _ => rfl) rfl (da_cons (de_var (pv 2)) (da_cons (de_callB cd_len rfl T.n_len (by decide +kernel) (da_cons (de_var (pv 4)) da_nil)) da_nil)) (aCons_len (aCons_len aNil_len)))) (db_cons (ds_for PassesOwn.never rfl (di_list (de_frz (dn_lst (da_cons (de_var (pv 4)) (da_cons (de_mut (dn_revL (de_var (pv 4)))) (da_cons (de_callT cd_tupM rfl T.n_tuple (by decide +kernel) (da_cons (de_bin opd_addM (de_mut (dn_sl (de_var (pv 4)) (dp_so (de_var (pv 8))) dp_no)) (de_mut (dn_sl (de_var (pv 4)) dp_no (dp_so (de_var (pv 8)))))) da_nil)) da_nil)))))) (dg_name (i := 9) nd rfl (.inl rfl)) (db_cons (ds_set (i := 11) nd rfl (.inl rfl) (de_callB (cd_reprM T.x_nm hgd hr.units) rfl T.n_repr (by decide +kernel) (da_cons (de_var (pv 9)) da_nil))) (db_one (ds_if (dt_w (dw_or (dt_cmp (opd_ne hr.units) (de_callB (cd_reprM T.x_nm hgd hr.units) rfl T.n_repr (by decide +kernel) (da_cons (de_callX TX_greatest.ok hgd (hr.mono (by decide)) rfl TX_greatest.mg TX_greatest.kp TX_greatest.bd (da_cons (de_var (pv 9)) da_nil) (aCons_len aNil_len)) da_nil)) (de_callB (cd_reprM T.x_nm hgd hr.units) rfl T.n_repr (by decide +kernel) (da_cons (de_var (pv 6)) da_nil))) (dw_or1 (dt_cmp (opd_ne hr.units) (de_callB (cd_reprM T.x_nm hgd hr.units) rfl T.n_repr (by decide +kernel) (da_cons (de_var (pv 9)) da_nil)) (de_var (pv 11)))))) (db_one (ds_ret de_bl)) db_nil)))) (db_cons (ds_if (dt_cmp (opd_ne hr.units) (de_callX TX_greatest.ok hgd (hr.mono (by decide)) rfl TX_greatest.mg TX_greatest.kp TX_greatest.bd (da_cons (de_bin opd_addM (de_bin opd_mulM (de_mut (dn_sl (de_var (pv 4)) dp_no (dp_so de_int))) de_int) (de_mut (dn_sl (de_var (pv 4)) (dp_so de_int) (dp_so de_int)))) da_nil) (aCons_len aNil_len)) (de_callX TX_greatest.ok hgd (hr.mono (by decide)) rfl TX_greatest.mg TX_greatest.kp TX_greatest.bd (da_cons (de_mut (dn_sl (de_var (pv 4)) dp_no (dp_so de_int))) da_nil) (aCons_len aNil_len))) (db_one (ds_ret de_bl)) db_nil) (db_one (ds_if (dt_not (dt_val (de_call T__law_refusals_right.ok hgd hr rfl T__law_refusals_right.mg T__law_refusals_right.kp T__law_refusals_right.bd .nil (fun _ _ => rfl) rfl (da_cons (de_var (pv 2)) (da_cons (de_var (pv 4)) (da_cons (de_ix (de_var (pv 3)) de_int (fun _ _ => rfl)) da_nil))) (aCons_len (aCons_len (aCons_len aNil_len)))))) (db_one (ds_ret de_bl)) db_nil)))))))))))) (db_one (ds_ret de_bl)))
end
end Law

set_option Elab.async false
set_option linter.all false
set_option autoImplicit false
set_option maxRecDepth 100000
set_option maxHeartbeats 4000000
namespace Law
open PySem PySem.Spec PySem.Calls L2 G GL
def BagOk (n : Nat) (o : MO) : Prop := ∃ a b c : Int, o = .lst [.int a, .int b, .int c] ∧ 0 ≤ a ∧ 0 ≤ b ∧ b < 2147483648 ∧ 0 ≤ c ∧ c ≤ n
theorem take_ok {k n : Nat} {μ : List MO} {o : MO} {m : Int} (h : μ[k]? = some o) (hb : BagOk n o) (hm : 0 < m) (hm2 : m.natAbs.log2 < 9000) (hn : n ≤ 1000000) :
    ∃ (d : Int) (o' : MO), f__law_take [.mut k, .int m] μ = some (.int d, μ.set k o') ∧ 0 ≤ d ∧ d < m ∧ BagOk (n + 1) o' := by
  obtain ⟨a, b, c, rfl, ha, hb0, hb1, hc0, hc1⟩ := hb
  have hk : k < μ.length := (List.getElem?_eq_some_iff.mp h).1
  have i0 : ixN 3 0 = some 0 := by decide
  have i1 : ixN 3 1 = some 1 := by decide
  have i2 : ixN 3 2 = some 2 := by decide
  have ix : ∀ (j : Nat) (x y z : Int) (ν : List MO), ν[k]? = some (.lst [.int x, .int y, .int z]) → j < 3 → ixD (.mut k) (.int (j : Nat)) ν = some ([D.int x, D.int y, D.int z].getD j .non, ν) := by
    intro j x y z ν e hj
    have : j = 0 ∨ j = 1 ∨ j = 2 := by omega
    rcases this with rfl | rfl | rfl <;> simp [ixD, seqD, e, L2.atI, i0, i1, i2]
  by_cases hpos : 0 < a
  · refine ⟨a % m, .lst [.int (a / m), .int b, .int c], ?_, Int.emod_nonneg _ (by omega), Int.emod_lt_of_pos _ hm, ⟨_, _, _, rfl, Int.ediv_nonneg (by omega) (by omega), hb0, hb1, hc0, by omega⟩⟩
    have x0 := ix 0 a b c μ h (by decide)
    simp at x0
    simp [f__law_take, runB, b__law_take, bThen, bIf, asB, eBin, eThen, eVar, eC, startD, gtD, bSet, modD, fdivD, bSt, bRet, x0, hpos, hm, hm2, h, i0]
  · have x2 := ix 2 a b c μ h (by decide)
    have hs : (μ.set k (.lst [.int a, .int b, .int (c + 1)]))[k]? = some (.lst [.int a, .int b, .int (c + 1)]) := by rw [List.getElem?_set_self hk]
    have x2' := ix 2 a b (c + 1) _ hs (by decide)
    have x1' := ix 1 a b (c + 1) _ hs (by decide)
    have x0 := ix 0 a b c μ h (by decide)
    simp at x0 x2 x2' x1'
    have lg : ∀ (z : Int) (j : Nat), 0 < j → z.natAbs < 2 ^ j → z.natAbs.log2 < j := fun z j h0 h1 => PySem.Flt.log2_lt_of h0 h1
    have l1 : (60013 : Int).natAbs.log2 + (c + 1).natAbs.log2 < 1000000 := by
      have q1 := lg 60013 16 (by decide) (by decide)
      have q2 := lg (c + 1) 30 (by decide) (by omega)
      omega
    have l2 : (91139 : Int).natAbs.log2 + (c + 1).natAbs.log2 < 1000000 := by
      have q1 := lg 91139 17 (by decide) (by decide)
      have q2 := lg (c + 1) 30 (by decide) (by omega)
      omega
    have p1 : (b + 60013 * (c + 1) + 5).natAbs < 2 ^ 64 := by omega
    generalize e1 : (b + 60013 * (c + 1) + 5) ^ 5 % 2147483647 = t1
    have t1a : 0 ≤ t1 := by rw [← e1]; exact Int.emod_nonneg _ (by decide)
    have t1b : t1 < 2147483647 := by rw [← e1]; exact Int.emod_lt_of_pos _ (by decide)
    have p2 : (t1 + 91139 * (c + 1)).natAbs < 2 ^ 64 := by omega
    refine ⟨(t1 + 91139 * (c + 1)) ^ 5 % 2147483629 / 32 % m, .lst [.int a, .int b, .int (c + 1)], ?_, Int.emod_nonneg _ (by omega), Int.emod_lt_of_pos _ hm, ⟨_, _, _, rfl, ha, hb0, hb1, by omega, by omega⟩⟩
    have l3 : (32 : Int).natAbs.log2 < 9000 := by have := lg 32 6 (by decide) (by decide); omega
    simp only [show ((60013 : Int).natAbs) = 60013 from rfl, show ((91139 : Int).natAbs) = 91139 from rfl, show ((32 : Int).natAbs) = 32 from rfl, show (2 ^ 64 : Nat) = 18446744073709551616 from rfl] at l1 l2 l3 p1 p2
    simp [f__law_take, runB, b__law_take, bThen, bIf, asB, eBin, eThen, eVar, eC, startD, gtD, bSet, modD, fdivD, mulD, addD, powD, bSt, bRet, bNil, x0, x2, x2', x1', hpos, hm, hm2, h, i2, l1, l2, l3, p1, p2, e1]

/-- the box changes, and nothing else that was there -/
def Drawn (b : Nat) (μ μ' : List MO) : Prop := ∀ (i : Nat) (o : MO), i ≠ b → μ[i]? = some o → μ'[i]? = some o
theorem Drawn.trans {b : Nat} {μ μ' μ'' : List MO} (a : Drawn b μ μ') (c : Drawn b μ' μ'') : Drawn b μ μ'' := fun i o h e => c i o h (a i o h e)
theorem Drawn.refl (b : Nat) (μ : List MO) : Drawn b μ μ := fun _ _ _ e => e
/-- the box stands at k, drawn from at most n times since R -/
def Bg (R : List MO) (k n : Nat) (μ : List MO) : Prop := (∃ o, μ[k]? = some o ∧ BagOk n o) ∧ Drawn k R μ
variable {R : List MO}
theorem Bg.mono {k n m : Nat} {μ : List MO} (h : Bg R k n μ) (l : n ≤ m) : Bg R k m μ := by
  obtain ⟨⟨o, e, a, b, c, rfl, h1, h2, h3, h4, h5⟩, dr⟩ := h
  exact ⟨⟨_, e, a, b, c, rfl, h1, h2, h3, h4, by omega⟩, dr⟩
theorem Bg.re {k n : Nat} {μ : List MO} (h : Bg R k n μ) : Bg μ k n μ := ⟨h.1, Drawn.refl k μ⟩
theorem Bg.un {k n m : Nat} {μ μ' : List MO} (h : Bg R k n μ) (h2 : Bg μ k m μ') : Bg R k m μ' := ⟨h2.1, h.2.trans h2.2⟩
theorem take_bg {k n : Nat} {μ : List MO} {m : Int} (h : Bg R k n μ) (hm : 0 < m) (hm2 : m.natAbs < 2 ^ 128) (hn : n ≤ 1000000) :
    ∃ (d : Int) (μ' : List MO), f__law_take [.mut k, .int m] μ = some (.int d, μ') ∧ 0 ≤ d ∧ d < m ∧ Bg R k (n + 1) μ' := by
  obtain ⟨⟨o, e, b⟩, dr⟩ := h
  have hl : m.natAbs.log2 < 9000 := Nat.lt_trans (PySem.Flt.log2_lt_of (by decide : 0 < 128) hm2) (by decide)
  obtain ⟨d, o', e1, e2, e3, e4⟩ := take_ok e b hm hl hn
  have hk : k < μ.length := (List.getElem?_eq_some_iff.mp e).1
  exact ⟨d, _, e1, e2, e3, ⟨o', by rw [List.getElem?_set_self hk], e4⟩, fun i u hi ei => by rw [List.getElem?_set_ne (Ne.symm hi)]; exact dr i u hi ei⟩
theorem take_at {i k n : Nat} {m : Int} {fm : EF} {δ : List SV} {μ : List MO} (hi : δ[i]? = some (.d (.mut k))) (hf : fm δ μ = some (.int m, μ)) (h : Bg R k n μ) (hm : 0 < m) (hm2 : m.natAbs < 2 ^ 128) (hn : n ≤ 1000000) :
    ∃ (d : Int) (μ' : List MO), eFn f__law_take [] (aCons (eVar i) (aCons fm aNil)) δ μ = some (.int d, μ') ∧ 0 ≤ d ∧ d < m ∧ Bg R k (n + 1) μ' := by
  obtain ⟨d, μ', e, h1, h2, h3⟩ := take_bg h hm hm2 hn
  refine ⟨d, μ', ?_, h1, h2, h3⟩
  simp [eFn, aThen, aCons, aNil, eVar, eThen, hi, hf, e]
def Gd (s : Str) : Prop := ∀ c ∈ s.cps.toList, c < 128 ∧ c ≠ 37
theorem lc_signs {i k : Nat} {te : EF} {s : Str} {δ : List SV} (q : ∀ (d : D) (n : Nat) (μ : List MO), Bg R k n μ → n ≤ 900 → ∃ (c : Nat) (μ' : List MO), te (δ.set i (.d d)) μ = some (sg c, μ') ∧ c ∈ s.cps.toList ∧ Bg R k (n + 1) μ') :
    ∀ (ds : List D) (n : Nat) (μ : List MO), Bg R k n μ → n + ds.length ≤ 900 → ∃ (cs : List Nat) (μ' : List MO), lcLoop (nmG i) tYesD te δ ds μ = some (cs.map sg, μ') ∧ cs.length = ds.length ∧ (∀ c ∈ cs, c ∈ s.cps.toList) ∧ Bg R k (n + ds.length) μ'
  | [], n, μ, h, _ => ⟨[], μ, rfl, rfl, fun c hc => by simp at hc, h⟩
  | d :: ds, n, μ, h, hn => by
    rw [List.length_cons] at hn
    obtain ⟨c, μ1, e1, m1, b1⟩ := q d n μ h (by omega)
    obtain ⟨cs, μ2, e2, l2, m2, b2⟩ := lc_signs q ds (n + 1) μ1 b1 (by omega)
    refine ⟨c :: cs, μ2, ?_, by simp [l2], fun x hx => ?_, ?_⟩
    · unfold lcLoop
      simp only [nmG, tYesD, e1]
      rw [show lcLoop (nmG i) tYesD te δ ds μ1 = _ from e2]
      rfl
    · rcases List.mem_cons.mp hx with rfl | hx
      · exact m1
      · exact m2 x hx
    · rw [List.length_cons]
      exact b2.mono (by omega)
theorem text_in {s : Str} (hs : ∀ c ∈ s.cps.toList, c < 128 ∧ c ≠ 37) {cs : List Nat} (h : ∀ c ∈ cs, c ∈ s.cps.toList) : Gd (Txt.join "" (cs.map fun c => (⟨#[c]⟩ : Str))) := fun c hc => by
  rw [join_sg] at hc
  exact hs c (h c hc)
abbrev signsT : Str := " !\"#$&'()*+,-./0123456789:;<=>?@ABCDEFGHIJKLMNOPQRSTUVWXYZ[\\]^_`abcdefghijklmnopqrstuvwxyz{|}~"
theorem signs_gd : ∀ c ∈ signsT.cps.toList, c < 128 ∧ c ≠ 37 := by decide +kernel
theorem drawn {k n j vi L : Nat} {w : Int} {z : Str} {fr : AF} {fm : EF} {δ : List SV} {μ μ0 : List MO} (hz : ∀ c ∈ z.cps.toList, c < 128 ∧ c ≠ 37) (zl : z.length = w) (hw : w.natAbs < 2 ^ 128) (zl2 : z.length ≤ 1000) (z0 : 0 < w) (d0 : δ[0]? = some (.d (.mut k))) (dz : δ[vi]? = some (.d (.str z))) (hj0 : 0 ≠ j) (hjv : vi ≠ j) (hm : ∀ d μ, fm ((wipeD δ [j]).set j (.d d)) μ = some (.int w, μ))
    (hr : fr δ μ = some ([.int (L : Nat)], μ0)) (hL : L ≤ 70) (h : Bg R k n μ0) (hn : n ≤ 500) :
    ∃ (t : Str) (μ' : List MO), eMt "str" joinD (eC (.str "")) (aCons (eFrz (nLc (iR1 fr) (nmG j) tYesD (eBin ixD (eVar vi) (eFn f__law_take [] (aCons (eVar 0) (aCons fm aNil)))) [j])) aNil) δ μ = some (.str t, μ') ∧ Gd t ∧ t.length = L ∧ Bg R k (n + L) μ' := by
  have step : ∀ (d : D) (m : Nat) (ν : List MO), Bg R k m ν → m ≤ 900 → ∃ (c : Nat) (ν' : List MO), eBin ixD (eVar vi) (eFn f__law_take [] (aCons (eVar 0) (aCons fm aNil))) ((wipeD δ [j]).set j (.d d)) ν = some (sg c, ν') ∧ c ∈ z.cps.toList ∧ Bg R k (m + 1) ν' := by
    intro d m ν hb hm'
    have a0 : ((wipeD δ [j]).set j (.d d))[0]? = some (.d (.mut k)) := by
      rw [List.getElem?_set_ne (Ne.symm hj0)]
      simp [wipeD, List.getElem?_set_ne (Ne.symm hj0), d0]
    have a1 : ((wipeD δ [j]).set j (.d d))[vi]? = some (.d (.str z)) := by
      rw [List.getElem?_set_ne (Ne.symm hjv)]
      simp [wipeD, List.getElem?_set_ne (Ne.symm hjv), dz]
    obtain ⟨x, ν', e, x0, x1, b⟩ := take_at (i := 0) (m := w) a0 (hm _ _) hb z0 hw (by omega)
    obtain ⟨c, ec, hc⟩ := ix_str (s := z) (μ := ν') zl2 x0 (by rw [zl]; exact x1)
    exact ⟨c, ν', ixe (μ1 := ν) (by simp [eVar, a1]) e ec, hc, b⟩
  obtain ⟨cs, μ', e, hl, hc, hb⟩ := lc_signs (i := j) step (rangeD 0 L) n μ0 h (by rw [range_len]; omega)
  rw [range_len] at hl hb
  refine ⟨_, μ', ?_, text_in hz hc, by rw [join_len, hl], hb⟩
  have hr1 : iR1 fr δ μ = some (rangeD 0 L, μ0) := by
    simp only [iR1, aThen, hr]
    rw [if_pos (by omega)]
    simp
  have hN : nLc (iR1 fr) (nmG j) tYesD (eBin ixD (eVar vi) (eFn f__law_take [] (aCons (eVar 0) (aCons fm aNil)))) [j] δ μ = some (cs.map sg, μ') := by
    simp only [nLc, hr1, range_len]
    rw [if_pos (by omega)]
    exact e
  have jo := join_ok cs (by omega) μ'
  exact mtE (fo := eC (.str "")) (μ1 := μ) rfl rfl (aC (frzE hN) rfl) jo
theorem text_ok {k n L : Nat} {μ : List MO} (h : Bg R k n μ) (hn : n ≤ 300) (hL : L ≤ 70) : ∃ (t : Str) (μ' : List MO), f__law_text [.mut k, .int (L : Nat)] μ = some (.str t, μ') ∧ Gd t ∧ t.length = L ∧ Bg R k (n + L) μ' := by
  let δ1 : List SV := (startD 4 [.mut k, .int (L : Nat)]).set 2 (.d (.str signsT))
  have l94 : signsT.length = 94 := by decide +kernel
  have hr : aCons (eVar 1) aNil δ1 μ = some ([.int (L : Nat)], μ) := rfl
  obtain ⟨t, μ4, e5, g3, t3, b4⟩ := drawn (z := signsT) (vi := 2) (j := 3) (w := 94) (fm := eCall lenD (aCons (eVar 2) aNil)) signs_gd (by rw [l94]; rfl) (by decide) (by rw [l94]; decide) (by decide) (show δ1[0]? = some (.d (.mut k)) from rfl) rfl (by decide) (by decide) (fun d ν => by
    have := len_str signsT (by rw [l94]; decide) 2 ((wipeD δ1 [3]).set 3 (.d d)) ν (by simp [wipeD, δ1, startD])
    rw [l94] at this
    exact this) hr hL h (by omega)
  exact ⟨t, μ4, run_set rfl e5, g3, t3, b4⟩
theorem bag_ok (c : Int) (μ : List MO) : ∃ o, f__law_box [.int c] μ = some (.mut μ.length, μ ++ [o]) ∧ BagOk 0 o := by
  refine ⟨.lst [.int (if c - 10 ^ 18 > 0 then c - 10 ^ 18 else 0), .int (c % 2147483563), .int 0], ?_, _, _, _, rfl, ?_, Int.emod_nonneg _ (by decide), Int.lt_trans (Int.emod_lt_of_pos _ (by decide)) (by decide), by omega, by omega⟩
  · simp [f__law_box, runB, b__law_box, bRet, eMut, nLst, aCons, aNil, eThen, eCall, aThen, eC, eBin, eVar, startD, subD, powD, modD, maxD]
  · split <;> omega
theorem cell_ok {ns : List Int} (hl : ns.length ≤ 63) (k : Nat) (hk : k ≤ 1000) (μ : List MO) : ∃ c : Int, f__law_cell [.scr ns, .int k] μ = some (.int c, μ) := by
  by_cases h : k < ns.length
  · have hz : ((k : Nat) : Int) < ns.length := by omega
    refine ⟨ns[k], ?_⟩
    have e : ixD (.scr ns) (.int k) μ = some (.int ns[k], μ) := by
      have : L2.atI ns (k : Int) = some ns[k] := by simp [L2.atI, L2.ixN, hz, h]
      simp [ixD, this]
    refine run_of ?_
    have q : asB (eBin ltD (eVar 1) (eCall lenD (aCons (eVar 0) aNil))) (startD 2 [.scr ns, .int k]) μ = some (true, μ) := by
      simp [asB, eBin, eThen, eVar, startD, eCall, aThen, aCons, aNil, lenD, ltD, hz]
    exact ask_ret q (ixe (var_at rfl) (var_at rfl) e)
  · refine ⟨9001 * k + 37, run_of ?_⟩
    have hz : ¬ ((k : Nat) : Int) < ns.length := by omega
    have q : asB (eBin ltD (eVar 1) (eCall lenD (aCons (eVar 0) aNil))) (startD 2 [.scr ns, .int k]) μ = some (false, μ) := by
      simp [asB, eBin, eThen, eVar, startD, eCall, aThen, aCons, aNil, lenD, ltD, hz]
    rw [show b__law_cell = bThen (bIf _ _ bNil) _ from rfl, ask_on q]
    refine ret_eq (addE (fb := eC (.int 37)) (a := 9001 * k) ?_ rfl)
    have l1 : (9001 : Int).natAbs.log2 < 14 := PySem.Flt.log2_lt_of (by decide) (by decide)
    have l2 : ((k : Nat) : Int).natAbs.log2 < 30 := PySem.Flt.log2_lt_of (by decide) (by omega)
    have l3 : (9001 : Int).natAbs.log2 + ((k : Nat) : Int).natAbs.log2 < 1000000 := by omega
    simp only [show ((9001 : Int).natAbs) = 9001 from rfl, Int.natAbs_natCast] at l3
    simp [eBin, eThen, eC, eVar, startD, mulD, l3]
end Law

set_option Elab.async false
set_option linter.all false
set_option autoImplicit false
set_option maxRecDepth 100000
set_option maxHeartbeats 4000000
namespace Law
open PySem PySem.Spec PySem.Calls L2 G GL
/-! ### the things -/
def Gs (s : Str) : Prop := s.length ≤ 64 ∧ ∀ c ∈ s.cps.toList, c < 128
inductive Lf : D → Prop
  | non : Lf .non
  | bl (b : Bool) : Lf (.bl b)
  | int {i : Int} : i.natAbs < 10 ^ 30 → Lf (.int i)
  | str {s : Str} : Gs s → Lf (.str s)
  | nil : Lf (.tup [])
theorem lfi {i : Int} (h : i.natAbs < 2000000) : Lf (.int i) := .int (Nat.lt_of_lt_of_le h (by decide))
/-- things of depth d at most: what stands in tuples and in lists that change -/
def Tm (b : Nat) (μ : List MO) (m : Nat) : Nat → D → Prop
  | 0, x => Lf x
  | d + 1, x => Lf x ∨ (∃ xs, x = .tup xs ∧ xs.length ≤ 20 ∧ ∀ y ∈ xs, Tm b μ m d y) ∨ ∃ k xs, x = .mut k ∧ b < k ∧ μ[k]? = some (.lst xs) ∧ xs.length ≤ m ∧ ∀ y ∈ xs, Tm b μ m d y
def dst : List (List Key × List D) := [([], []), ([.inr "a"], [.int 1]), ([.inr "more"], [.int 7]), ([.inr "a", .inr "more"], [.int 1, .int 7])]
def Th (b : Nat) (μ : List MO) (m : Nat) (x : D) : Prop := Tm b μ m 2 x ∨ ∃ k s, x = .mut k ∧ b < k ∧ s ∈ dst ∧ μ[k]? = some (.dct s.1 s.2)
variable {b m d : Nat} {μ : List MO} {x : D}
theorem Tm.lf (h : Lf x) : Tm b μ m d x := by
  cases d with
  | zero => exact h
  | succ d => exact .inl h
theorem Tm.up : ∀ {d : Nat} {x : D}, Tm b μ m d x → Tm b μ m (d + 1) x
  | 0, x, h => .inl h
  | d + 1, x, h => by
    rcases h with h | ⟨xs, rfl, hl, ha⟩ | ⟨k, xs, rfl, hk, e, hl, ha⟩
    · exact .inl h
    · exact .inr (.inl ⟨xs, rfl, hl, fun y hy => (ha y hy).up⟩)
    · exact .inr (.inr ⟨k, xs, rfl, hk, e, hl, fun y hy => (ha y hy).up⟩)
theorem Th.lf (h : Lf x) : Th b μ m x := .inl (Tm.lf h)
theorem Tm.th (h : Tm b μ m 1 x) : Th b μ m x := .inl h.up
/-! ### kinds -/
def kinds : List String := ["NoneType", "bool", "int", "str", "list", "tuple", "dict"]
def tyIs (n T : String) : Bool := decide (n = T) || (decide (n = "bool") && decide (T = "int"))
theorem kitAll : ∀ n ∈ kinds, ∀ T ∈ ["str", "list", "dict", "tuple", "int", "bool"], kitB n T = some (tyIs n T) := by decide +kernel
def tyM (μ : List MO) (x : D) : String := (typeD μ x).getD ""
theorem Lf.kd (h : Lf x) : typeD μ x = some (tyM μ x) ∧ tyM μ x ∈ kinds := by
  cases h <;> exact ⟨rfl, by simp [tyM, typeD, kinds]⟩
theorem Th.kd (h : Th b μ m x) : typeD μ x = some (tyM μ x) ∧ tyM μ x ∈ kinds := by
  rcases h with (h | ⟨xs, rfl, _, _⟩ | ⟨k, xs, rfl, _, e, _, _⟩) | ⟨k, s, rfl, _, _, e⟩
  · exact h.kd
  · exact ⟨by simp [tyM, typeD], by simp [tyM, typeD, kinds]⟩
  · exact ⟨by simp [tyM, typeD, e], by simp [tyM, typeD, e, kinds]⟩
  · exact ⟨by simp [tyM, typeD, e], by simp [tyM, typeD, e, kinds]⟩
theorem isi_ty (h : Th b μ m x) {T : String} (hT : T ∈ ["str", "list", "dict", "tuple", "int", "bool"]) : isiG [x, .ty T] μ = some (.bl (tyIs (tyM μ x) T), μ) := by
  have e := kitAll _ h.kd.2 T hT
  simp [isiG, isiP, h.kd.1, e]
theorem isi_at {i : Nat} {T x : D} {c : Bool} {δ : List SV} {μ : List MO} {f : EF} (h : δ[i]? = some (.d x)) (hf : f δ μ = some (T, μ)) (e : isiG [x, T] μ = some (.bl c, μ)) : eCall isiG (aCons (eVar i) (aCons f aNil)) δ μ = some (.bl c, μ) :=
  callE (aC (var_at h) (aC hf (a_nil _ _))) e
/-- the kind of what is no list that changes -/
def isK (T : String) : D → Bool
  | .non => tyIs "NoneType" T
  | .bl _ => tyIs "bool" T
  | .int _ => tyIs "int" T
  | .str _ => tyIs "str" T
  | .tup _ => tyIs "tuple" T
  | _ => false
theorem kinds_no : ∀ T ∈ ["str", "tuple", "int", "bool"], tyIs "list" T = false ∧ tyIs "dict" T = false ∧ T ∈ ["str", "list", "dict", "tuple", "int", "bool"] := by decide +kernel
theorem isi_k (h : Th b μ m x) {T : String} (hT : T ∈ ["str", "tuple", "int", "bool"]) : isiG [x, .ty T] μ = some (.bl (isK T x), μ) := by
  obtain ⟨n1, n2, n3⟩ := kinds_no T hT
  rw [isi_ty h n3]
  suffices q : tyIs (tyM μ x) T = isK T x by rw [q]
  rcases h with (h | ⟨xs, rfl, _, _⟩ | ⟨k, xs, rfl, _, e, _, _⟩) | ⟨k, s, rfl, _, _, e⟩
  · cases h <;> simp [tyM, typeD, isK]
  · simp [tyM, typeD, isK]
  · simp [tyM, typeD, e, isK, n1]
  · simp [tyM, typeD, e, isK, n2]
/-! ### the data of a thing -/
structure Sm (w d : Nat) (p : PyData) : Prop where
  sh : p.showable = true
  nd : p.hasDict = false
  lv : p.leavesShort 32 = true
  dp : p.depth ≤ d
  bk : p.bulk ≤ w
theorem int_sm {i : Int} (h : i.natAbs < 10 ^ 30) : Sm 64 1 (.int i) := by
  have hp : (10 : Nat) ^ 30 < 2 ^ 128 := by decide
  have hl : i.natAbs.log2 < 1920 := Nat.lt_trans (PySem.Flt.log2_lt_of (k := 128) (by decide) (Nat.lt_trans h hp)) (by decide)
  refine ⟨by simp [PyData.showable, hl], rfl, ?_, by simp [PyData.depth], by simp [PyData.bulk]⟩
  have l := int_text_length_le10 (k := 30) (by decide) h
  simp only [PyData.leavesShort, PyData.shown]
  refine decide_eq_true (Nat.le_trans ?_ (show 31 ≤ 32 by decide))
  rw [ofString_length]
  exact l
theorem str_sm {s : Str} (h : Gs s) : Sm 64 1 (.str s) := by
  refine ⟨rfl, rfl, ?_, by simp [PyData.depth], h.1⟩
  simp only [PyData.leavesShort, List.all_eq_true, decide_eq_true_eq]
  exact fun c hc => Nat.lt_of_lt_of_le (h.2 c hc) (by decide)
theorem Lf.py (h : Lf x) (μ : List MO) (n : Nat) : ∃ p, toPy μ (n + 1) x = some p ∧ Sm 64 1 p := by
  cases h with
  | non => exact ⟨_, rfl, rfl, rfl, rfl, by simp [PyData.depth], by simp [PyData.bulk]⟩
  | bl b => exact ⟨_, rfl, rfl, rfl, rfl, by simp [PyData.depth], by simp [PyData.bulk]⟩
  | int hi => exact ⟨_, rfl, int_sm hi⟩
  | str hs => exact ⟨_, rfl, str_sm hs⟩
  | nil => exact ⟨.tuple [], rfl, by decide +kernel, by decide +kernel, by decide +kernel, by decide +kernel, by decide +kernel⟩
theorem list_py {n w d : Nat} : ∀ {xs : List D}, (∀ x ∈ xs, ∃ p, toPy μ n x = some p ∧ Sm w d p) → ∃ ps, toPyL (toPy μ n) xs = some ps ∧ PyData.showableAll ps = true ∧ PyData.hasDictAll ps = false ∧ PyData.leavesShortAll 32 ps = true ∧ PyData.depthAll ps ≤ d ∧ PyData.bulkAll ps ≤ (w + 1) * xs.length
  | [], _ => ⟨[], rfl, rfl, rfl, rfl, by simp [PyData.depthAll], by simp [PyData.bulkAll]⟩
  | x :: xs, h => by
    obtain ⟨p, e1, s1⟩ := h x (List.mem_cons_self ..)
    obtain ⟨ps, e2, a1, a2, a3, a4, a5⟩ := list_py (xs := xs) fun y hy => h y (List.mem_cons_of_mem _ hy)
    refine ⟨p :: ps, by simp [toPyL, e1, e2], ?_, ?_, ?_, ?_, ?_⟩
    · simp only [PyData.showableAll, s1.sh, a1, Bool.and_self]
    · simp only [PyData.hasDictAll, s1.nd, a2, Bool.or_self]
    · simp only [PyData.leavesShortAll, s1.lv, a3, Bool.and_self]
    · simp only [PyData.depthAll]
      have := s1.dp
      omega
    · simp only [PyData.bulkAll, List.length_cons, Nat.mul_add, Nat.mul_one]
      have := s1.bk
      omega
def wide : Nat → Nat
  | 0 => 64
  | d + 1 => (wide d + 1) * 20
theorem wide_le : ∀ d, 64 ≤ wide d
  | 0 => Nat.le_refl _
  | d + 1 => by
    have := wide_le d
    show 64 ≤ (wide d + 1) * 20
    omega
theorem Tm.py (hm : m ≤ 20) : ∀ (d j : Nat) {x : D}, Tm b μ m d x → ∃ p, toPy μ (j + d + 1) x = some p ∧ Sm (wide d) (d + 1) p
  | 0, j, x, h => Lf.py h μ _
  | d + 1, j, x, h => by
    rcases h with h | ⟨xs, rfl, hl, ha⟩ | ⟨k, xs, rfl, hk, e, hl, ha⟩
    · obtain ⟨p, e, s⟩ := h.py μ (j + (d + 1))
      exact ⟨p, e, s.sh, s.nd, s.lv, by have := s.dp; omega, Nat.le_trans s.bk (wide_le _)⟩
    · obtain ⟨ps, e, a1, a2, a3, a4, a5⟩ := list_py (μ := μ) (n := j + d + 1) (w := wide d) (d := d + 1) fun y hy => Tm.py hm d j (ha y hy)
      refine ⟨.tuple ps, ?_, by simpa [PyData.showable] using a1, by simpa [PyData.hasDict] using a2, by simpa [PyData.leavesShort] using a3, by simp only [PyData.depth]; omega, ?_⟩
      · show (toPyL (toPy μ (j + d + 1)) xs).map PyData.tuple = _
        rw [e]; rfl
      · simp only [PyData.bulk, wide]
        exact Nat.le_trans a5 (Nat.mul_le_mul_left _ hl)
    · obtain ⟨ps, e', a1, a2, a3, a4, a5⟩ := list_py (μ := μ) (n := j + d + 1) (w := wide d) (d := d + 1) fun y hy => Tm.py hm d j (ha y hy)
      refine ⟨.list ps, ?_, by simpa [PyData.showable] using a1, by simpa [PyData.hasDict] using a2, by simpa [PyData.leavesShort] using a3, by simp only [PyData.depth]; omega, ?_⟩
      · show (match μ[k]? with
          | some (.lst ds) => (toPyL (toPy μ (j + d + 1)) ds).map PyData.list
          | _ => none) = _
        rw [e]
        simp [e']
      · simp only [PyData.bulk, wide]
        exact Nat.le_trans a5 (Nat.mul_le_mul_left _ (by omega))
theorem Sm.ok {w d : Nat} {p : PyData} (s : Sm w d p) (hd : d ≤ 10) : okP p = true := by
  have := s.dp
  simp only [okP, s.sh, s.nd, Bool.not_false, Bool.and_true, Bool.true_and, decide_eq_true_eq]
  omega
theorem dct_text : ∀ s ∈ dst, ((enD s.1 s.2).map dictText).isSome = true ∧ (((enD s.1 s.2).map dictText).getD "").length ≤ 100 := by decide +kernel
/-- the text of a thing -/
def rpM (μ : List MO) (x : D) : Str := match reprM exNm [x] μ with
  | some (.str t, _) => t
  | _ => ""
theorem rpr_fin {c : Bool} {t : Str} (e : txM exNm μ x = some (c, t)) (l : t.length ≤ 1000000) : reprM exNm [x] μ = some (.str (rpM μ x), μ) := by
  have : reprM exNm [x] μ = some (.str t, μ) := by simp [reprM, e, l]
  simp [rpM, this]
theorem rpr_plain {p : PyData} {w d : Nat} (e : toPy μ DEEP x = some p) (s : Sm w d p) (hd : d ≤ 10) (hw : w ≤ 29000) (et : txM exNm μ x = (tx exNm μ x).map (fun t => (false, t))) : reprM exNm [x] μ = some (.str (rpM μ x), μ) := by
  have l := PyData.shown_le_bulk 32 (by decide) p s.lv
  have bk := s.bk
  refine rpr_fin (c := false) (t := p.shown) ?_ (by omega)
  rw [et]
  simp [tx, e, s.ok hd]
theorem Th.rpr (h : Th b μ m x) (hm : m ≤ 20) : reprM exNm [x] μ = some (.str (rpM μ x), μ) := by
  rcases h with h | ⟨k, s, rfl, hk, hs, e⟩
  · obtain ⟨p, e, s⟩ := Tm.py hm 2 13 h
    refine rpr_plain e s (by decide) (by decide) ?_
    rcases h with h | ⟨xs, rfl, _, _⟩ | ⟨k, xs, rfl, _, e0, _, _⟩
    · cases h <;> rfl
    · rfl
    · simp only [txM, e0]
  · obtain ⟨z1, z2⟩ := dct_text s hs
    obtain ⟨t, et⟩ := Option.isSome_iff_exists.mp z1
    rw [et] at z2
    refine rpr_fin (c := true) (t := t) ?_ (Nat.le_trans z2 (by decide))
    obtain ⟨ts, e1, rfl⟩ := Option.map_eq_some_iff.mp et
    simp [txM, e, e1]
theorem repr_at {f : EF} {x : D} {δ : List SV} {μ μ1 : List MO} (h : f δ μ = some (x, μ1)) (t : Th b μ1 m x) (hm : m ≤ 20) : eCall (reprM exNm) (aCons f aNil) δ μ = some (.str (rpM μ1 x), μ1) := callE (aC h (a_nil _ _)) (t.rpr hm)
end Law

set_option Elab.async false
set_option linter.all false
set_option autoImplicit false
set_option maxRecDepth 100000
set_option maxHeartbeats 4000000
namespace Law
open PySem PySem.Spec PySem.Calls L2 G GL
variable {b m d : Nat} {μ : List MO} {x : D}
def numB : D → Bool
  | .int _ => true
  | _ => false
theorem num_eq (x : D) : (isK "int" x && !isK "bool" x) = numB x := by cases x <;> simp [isK, numB, tyIs]
theorem is_number_ok (h : Th b μ m x) : f_is_number [x] μ = some (.bl (numB x), μ) := by
  rw [← num_eq x]
  exact run_ret (and_eq (isi_at (i := 0) rfl rfl (isi_k h (T := "int") (by decide))) fun _ => notV_eq (isi_at (i := 0) rfl rfl (isi_k h (T := "bool") (by decide))))
theorem isi_int (i : Int) (μ : List MO) {T : String} (hT : T ∈ ["int", "bool"]) : isiG [.int i, .ty T] μ = some (.bl (tyIs "int" T), μ) := by
  have e := kitAll "int" (by decide) T (by
    simp only [List.mem_cons, List.mem_nil_iff, or_false] at hT
    rcases hT with rfl | rfl <;> decide)
  simp [isiG, isiP, typeD, e]
theorem is_number_int (i : Int) (μ : List MO) : f_is_number [.int i] μ = some (.bl true, μ) :=
  run_ret (and_eq (a := true) (b := true) (isi_at (i := 0) rfl rfl (isi_int i μ (T := "int") (by decide))) fun _ => notV_eq (b := false) (isi_at (i := 0) rfl rfl (isi_int i μ (T := "bool") (by decide))))
theorem runX_nx {n : Nat} {bd : BF} {ds : List D} {δ : List SV} {μ μ1 : List MO} (h : bd (startD n ds) μ = some (.nx δ μ1)) : runX n bd ds μ = some (.ok .non μ1) := by simp [runX, h]
theorem runX_rt {n : Nat} {bd : BF} {ds : List D} {μ μ1 : List MO} {d : D} (h : bd (startD n ds) μ = some (.rt d μ1)) : runX n bd ds μ = some (.ok d μ1) := by simp [runX, h]
theorem runX_xc {n : Nat} {bd : BF} {ds : List D} {δ : List SV} {μ μ1 : List MO} {C : Nat} {f t : Str} {d : D} (h : bd (startD n ds) μ = some (.xc C f t d δ μ1)) : runX n bd ds μ = some (.ex C f t d μ1) := by simp [runX, h]
theorem callX_ok {fn : XF} {r : AF} {δ : List SV} {μ μ1 μ2 : List MO} {xs : List D} {d : D} (h : r δ μ = some (xs, μ1)) (e : fn xs μ1 = some (.ok d μ2)) : bCallX fn r δ μ = some (.nx δ μ2) := by simp [bCallX, h, e]
theorem callX_ex {fn : XF} {r : AF} {δ : List SV} {μ μ1 μ2 : List MO} {xs : List D} {C : Nat} {f t : Str} {d : D} (h : r δ μ = some (xs, μ1)) (e : fn xs μ1 = some (.ex C f t d μ2)) : bCallX fn r δ μ = some (.xc C f t d δ μ2) := by simp [bCallX, h, e]
theorem fnX {fn : XF} {r : AF} {δ : List SV} {μ μ1 μ2 : List MO} {xs : List D} {d : D} (h : r δ μ = some (xs, μ1)) (e : fn xs μ1 = some (.ok d μ2)) : eFnX fn r δ μ = some (d, μ2) := by simp [eFnX, aThen, h, e]
theorem a1 {i : Nat} {x : D} {δ : List SV} {μ : List MO} (h : δ[i]? = some (.d x)) : aCons (eVar i) aNil δ μ = some ([x], μ) := aC (var_at h) (a_nil _ _)
theorem raise_at {i C : Nat} {f t : Str} {x : D} {δ : List SV} {μ : List MO} (h : δ[i]? = some (.d x)) : bRaise C f t (aCons (eVar i) aNil) δ μ = some (.xc C f t x δ μ) := by simp [bRaise, a1 h]
theorem if_xc {t : TF} {r b2 : BF} {c : Bool} {δ : List SV} {μ : List MO} {o : Option Out} (h : t δ μ = some (c, μ)) (hc : c = true) (e : r δ μ = o) : bIf t r b2 δ μ = o := by
  rw [if_at h, hc]
  exact e
theorem need_number_int (i : Int) (μ : List MO) : fx_need_number [.int i] μ = some (.ok .non μ) :=
  runX_nx (if_nx (not_eq (b := true) (asB_eq (fn1 (i := 0) rfl (is_number_int i μ)))))
theorem and_t {f g : EF} {δ : List SV} {μ μ1 : List MO} {c : Bool} (h : f δ μ = some (.bl true, μ1)) (h2 : g δ μ1 = some (.bl c, μ1)) : eAndV f g δ μ = some (.bl c, μ1) := by simp [eAndV, eThen, h, h2]
def wholeB (lo hi : Int) : D → Bool
  | .int i => decide (lo ≤ i) && decide (i ≤ hi)
  | _ => false
theorem num_int {x : D} (h : numB x = true) : ∃ i, x = .int i := by
  cases x with
  | int i => exact ⟨i, rfl⟩
  | _ => cases h
theorem is_whole_ok (h : Th b μ m x) (lo hi : Int) : fx_is_whole [x, .int lo, .int hi] μ = some (.ok (.bl (wholeB lo hi x)) μ) := by
  refine runX_rt ?_
  have c1 : bCallX fx_need_number (aCons (eVar 1) (aNil)) (startD 3 [x, .int lo, .int hi]) μ = some (.nx _ μ) := callX_ok (a1 (x := .int lo) rfl) (need_number_int lo μ)
  have c2 : bCallX fx_need_number (aCons (eVar 2) (aNil)) (startD 3 [x, .int lo, .int hi]) μ = some (.nx _ μ) := callX_ok (a1 (x := .int hi) rfl) (need_number_int hi μ)
  rw [show b_is_whole = bThen _ (bThen _ _) from rfl, then_nx c1, then_nx c2]
  have e1 := fn1 (i := 0) (δ := startD 3 [x, .int lo, .int hi]) rfl (is_number_ok h)
  cases hx : numB x with
  | true =>
    obtain ⟨i, rfl⟩ := num_int hx
    rw [hx] at e1
    have e2 := ch_le lo i hi (fa := eVar 1) (fb := eVar 0) (fc := eVar 2) (δ := startD 3 [.int i, .int lo, .int hi]) (μ := μ) rfl rfl rfl
    exact ret_eq (and_t e1 e2)
  | false =>
    rw [hx] at e1
    have q : wholeB lo hi x = false := by cases x <;> first | rfl | cases hx
    rw [q]
    exact ret_eq (and_eq (b := false) e1 fun z => nomatch z)
theorem mark_lim : (256 : Int) * 251 = 64256 := by decide
def markB : D → Bool
  | .int i => (decide (0 ≤ i) && decide (i < 64256)) && decide (i % 256 < 251)
  | _ => false
theorem ch_leLt2 (a b c : Int) {fa fb fc : EF} {δ : List SV} {μ : List MO} (h1 : fa δ μ = some (.int a, μ)) (h2 : fb δ μ = some (.int b, μ)) (h3 : fc δ μ = some (.int c, μ)) : eChain leD ltD fa fb fc δ μ = some (.bl (decide (a ≤ b) && decide (b < c)), μ) := by
  by_cases q : a ≤ b <;> simp [eChain, eThen, h1, h2, h3, leD, ltD, q]
theorem modE {fa fb : EF} {δ : List SV} {μ μ1 μ2 : List MO} {a b : Int} (h1 : fa δ μ = some (.int a, μ1)) (h2 : fb δ μ1 = some (.int b, μ2)) (hb : 0 < b) : eBin modD fa fb δ μ = some (.int (a % b), μ2) := by simp [eBin, eThen, h1, h2, modD, hb]
theorem mulE {fa fb : EF} {δ : List SV} {μ μ1 μ2 : List MO} {a b : Int} (h1 : fa δ μ = some (.int a, μ1)) (h2 : fb δ μ1 = some (.int b, μ2)) (ha : a.natAbs < 2 ^ 64) (hb : b.natAbs < 2 ^ 64) : eBin mulD fa fb δ μ = some (.int (a * b), μ2) := by
  have q1 := PySem.Flt.log2_lt_of (k := 64) (by decide) ha
  have q2 := PySem.Flt.log2_lt_of (k := 64) (by decide) hb
  have q : a.natAbs.log2 + b.natAbs.log2 < 1000000 := by omega
  simp [eBin, eThen, h1, h2, mulD, q]
theorem is_mark_ok (h : Th b μ m x) : f_is_mark [x] μ = some (.bl (markB x), μ) := by
  have e1 := fn1 (i := 0) (δ := startD 1 [x]) rfl (is_number_ok h)
  cases hx : numB x with
  | true =>
    obtain ⟨i, rfl⟩ := num_int hx
    rw [hx] at e1
    have ml := mulE (fa := eC (.int 256)) (fb := eC (.int 251)) (δ := startD 1 [.int i]) (μ := μ) rfl rfl (by decide) (by decide)
    rw [mark_lim] at ml
    have e2 := ch_leLt2 0 i 64256 (fa := eC (.int 0)) (fb := eVar 0) (δ := startD 1 [.int i]) (μ := μ) rfl rfl ml
    have e3 := ltE (modE (fa := eVar 0) (fb := eC (.int 256)) (δ := startD 1 [.int i]) (μ := μ) rfl rfl (by decide)) (fb := eC (.int 251)) rfl
    exact run_ret (and_t e1 (and_eq e2 fun _ => e3))
  | false =>
    rw [hx] at e1
    have q : markB x = false := by cases x <;> first | rfl | cases hx
    rw [q]
    exact run_ret (and_eq (b := false) e1 fun z => nomatch z)
def lowB (c : Nat) : Bool := decide (97 ≤ c) && decide (c ≤ 122)
def nameB : D → Bool
  | .str s => (decide (1 ≤ s.length) && decide (s.length ≤ 8)) && s.cps.toList.all lowB
  | _ => false
theorem sa : ("a" : Str).cps.toList = [97] := by decide
theorem sz : ("z" : Str).cps.toList = [122] := by decide
theorem ch_low (c i : Nat) (δ : List SV) (μ : List MO) (h : δ[i]? = some (.d (sg c))) : eChain leD leD (eC (.str "a")) (eVar i) (eC (.str "z")) δ μ = some (.bl (lowB c), μ) := by
  have e1 := le_lo c 97 "a" sa μ
  have e2 := le_hi c 122 "z" sz μ
  by_cases q : 97 ≤ c <;> simp [eChain, eThen, eC, eVar, h, e1, e2, lowB, q]
theorem Th.str {s : Str} (h : Th b μ m (.str s)) : Gs s := by
  rcases h with (h | ⟨_, q, _⟩ | ⟨_, _, q, _⟩) | ⟨_, _, q, _⟩
  · cases h; assumption
  · cases q
  · cases q
  · cases q
def plainB (s : Str) : Bool := s.cps.toList.all fun c => inSp c && decide (c ≠ 37)
theorem not_str {x : D} (hs : ¬ ∃ s, x = .str s) : isK "str" x = false ∧ nameB x = false := by
  cases x <;> first | exact absurd ⟨_, rfl⟩ hs | simp [isK, tyIs, nameB]
theorem str_is (s : Str) : isK "str" (.str s) = true := by simp [isK, tyIs]
theorem is_name_ok (h : Th b μ m x) : f_is_name [x] μ = some (.bl (nameB x), μ) := by
  have e1 := isi_at (i := 0) (f := eC (.ty "str")) (δ := startD 2 [x]) rfl rfl (isi_k h (T := "str") (by decide))
  by_cases hs : ∃ s, x = .str s
  · obtain ⟨s, rfl⟩ := hs
    have hg := h.str
    have hl : s.length ≤ 100 := by have := hg.1; omega
    have d0 : (startD 2 [.str s])[0]? = some (.d (.str s)) := rfl
    have ls := len_str s hl 0 _ μ d0
    have e2 := ch_le 1 s.length 8 (fa := eC (.int 1)) (fc := eC (.int 8)) rfl ls rfl
    rw [str_is] at e1
    have q1 : decide ((1 : Int) ≤ s.length) = decide (1 ≤ s.length) := by rw [Bool.eq_iff_iff]; simp only [decide_eq_true_eq]; omega
    have q2 : decide ((s.length : Int) ≤ 8) = decide (s.length ≤ 8) := by rw [Bool.eq_iff_iff]; simp only [decide_eq_true_eq]; omega
    rw [q1, q2] at e2
    refine run_ask (or_eq (not_eq (asB_eq e1)) fun _ => not_eq (asB_eq e2)) (fun hb => ?_) fun hb => ?_
    · refine (all_eq (lc_str (p := lowB) d0 hl (by simp [startD]) fun c δ' h => ch_low c 1 δ' μ h) (bls_map _ _)).trans ?_
      rw [all_id]
      have h1 : (decide (1 ≤ s.length) && decide (s.length ≤ 8)) = true := by simpa using hb
      simp only [nameB, h1, Bool.true_and]
    · have h1 : (decide (1 ≤ s.length) && decide (s.length ≤ 8)) = false := by
        revert hb
        cases decide (1 ≤ s.length) <;> cases decide (s.length ≤ 8) <;> simp
      exact ⟨by simp only [nameB, h1, Bool.false_and], rfl⟩
  · obtain ⟨q, q2⟩ := not_str hs
    rw [q] at e1
    rw [q2]
    exact run_ask (or_eq (b := true) (not_eq (asB_eq e1)) fun z => nomatch z) (fun z => nomatch z) fun _ => ⟨rfl, rfl⟩
abbrev alphT : Str := "abcdefghijklmnopqrstuvwxyz"
theorem ord_sg (c i : Nat) (δ : List SV) (μ : List MO) (h : δ[i]? = some (.d (sg c))) : eCall ordD (aCons (eVar i) aNil) δ μ = some (.int (c : Nat), μ) := by
  simp [eCall, aThen, aCons, aNil, eVar, eThen, h, ordD, Str.length]
end Law

set_option Elab.async false
set_option linter.all false
set_option autoImplicit false
set_option maxRecDepth 100000
set_option maxHeartbeats 4000000
namespace Law
open PySem PySem.Spec PySem.Calls L2 G GL
variable {b m d : Nat} {μ : List MO} {x : D}
theorem eights : ∀ n, n < 65 → Builtin.Range.small 0 (n : Nat) 8 = true ∧ (Builtin.Range.rangeSize 0 (n : Nat) 8).toNat ≤ 8 := by decide +kernel
def pieceAt (s : Str) : D → D
  | .int i => .str (cutS s (some i) (some (i + 8)))
  | d => d
def cut8 (s : Str) : List D := (rangeC 0 8 (Builtin.Range.rangeSize 0 (s.length : Nat) 8).toNat).map (pieceAt s)
theorem Gs.cut {s : Str} (h : Gs s) (lo hi : Option Int) : Gs (cutS s lo hi) := by
  have m := cut_mem s lo hi
  have := h.1
  exact ⟨by have := m.2; omega, fun c hc => h.2 c (m.1 c hc)⟩
theorem cut8_len {s : Str} (h : Gs s) : (cut8 s).length ≤ 8 := by
  rw [cut8, List.length_map, rangeC_length]
  exact (eights s.length (by have := h.1; omega)).2
abbrev cutN : NF := nLc (iR3 (aCons (eC (.int 0)) (aCons (eCall lenD (aCons (eVar 0) (aNil))) (aCons (eC (.int 8)) (aNil))))) (nmG 1) (tYesD) (eSlS (eVar 0) (pSo (eVar 1)) (pSo (eBin addD (eVar 1) (eC (.int 8))))) [1]
theorem cut_lc {s : Str} (h : Gs s) (μ : List MO) : cutN (startD 2 [.str s]) μ = some (cut8 s, μ) := by
  have hl := h.1
  obtain ⟨sm, sz⟩ := eights s.length (by omega)
  have ls := len_str s (by omega) 0 (startD 2 [.str s]) μ rfl
  have ar := aC (f := eC (.int 0)) (δ := startD 2 [.str s]) (μ := μ) rfl (aC ls (aC (f := eC (.int 8)) rfl (a_nil _ μ)))
  have hi : iR3 (aCons (eC (.int 0)) (aCons (eCall lenD (aCons (eVar 0) (aNil))) (aCons (eC (.int 8)) (aNil)))) (startD 2 [.str s]) μ = some (rangeC 0 8 (Builtin.Range.rangeSize 0 (s.length : Nat) 8).toNat, μ) := by
    simp only [iR3, aThen, ar]
    rw [if_pos ⟨by decide, by decide, sm⟩]
  have lc : lcLoop (nmG 1) tYesD (eSlS (eVar 0) (pSo (eVar 1)) (pSo (eBin addD (eVar 1) (eC (.int 8))))) (wipeD (startD 2 [.str s]) [1]) (rangeC 0 8 (Builtin.Range.rangeSize 0 (s.length : Nat) 8).toNat) μ = some (cut8 s, μ) := by
    refine lc_map (h := pieceAt s) fun d hd => ?_
    obtain ⟨i, _, rfl⟩ := List.mem_map.mp hd
    have v0 : eVar 0 ((wipeD (startD 2 [.str s]) [1]).set 1 (.d (.int (0 + (i : Nat) * 8)))) μ = some (.str s, μ) := rfl
    have v1 : eVar 1 ((wipeD (startD 2 [.str s]) [1]).set 1 (.d (.int (0 + (i : Nat) * 8)))) μ = some (.int (0 + (i : Nat) * 8), μ) := rfl
    exact slE v0 (soE v1) (soE (addE v1 (fb := eC (.int 8)) rfl)) (by omega)
  simp only [cutN, nLc, hi, rangeC_length]
  rw [if_pos (by omega)]
  exact lc
theorem cut8_str {s : Str} (h : Gs s) : ∀ y ∈ cut8 s, ∃ t, y = .str t ∧ Gs t := fun y hy => by
  obtain ⟨d, hd, rfl⟩ := List.mem_map.mp hy
  obtain ⟨i, _, rfl⟩ := List.mem_map.mp hd
  exact ⟨_, rfl, h.cut _ _⟩
theorem law_cut_ok {s : Str} (h : Gs s) (μ : List MO) : f__law_cut [.str s] μ = some (.lst (cut8 s), μ) := run_ret (frzE (cut_lc h μ))
theorem lfTh {x : D} (h : Lf x) (μ : List MO) : Th 0 μ 0 x := Th.lf h
def mstep (p : Int × Int) (c : Nat) : Int × Int := ((p.1 + (c : Nat)) % 251, (p.2 + (p.1 + (c : Nat)) % 251) % 251)
def markP (s : Str) : Int × Int := s.cps.toList.foldl mstep (1, 0)
def markI (s : Str) : Int := 256 * (markP s).2 + (markP s).1
abbrev markBody : BF := bThen (bSet 1 (eBin modD (eBin addD (eVar 1) (eCall ordD (aCons (eVar 3) (aNil)))) (eC (.int 251)))) (bSet 2 (eBin modD (eBin addD (eVar 2) (eVar 1)) (eC (.int 251))))
theorem set_at {i : Nat} {f : EF} {δ : List SV} {μ μ1 : List MO} {x : D} (h : f δ μ = some (x, μ1)) : bSet i f δ μ = some (.nx (δ.set i (.d x)) μ1) := by simp [bSet, h]
theorem for_cons {i : Nat} {body : BF} {x : D} {xs : List D} {δ δ1 : List SV} {μ μ1 : List MO} (h : body (δ.set i (.d x)) μ = some (.nx δ1 μ1)) : forLoop (nmG i) body (x :: xs) δ μ = forLoop (nmG i) body xs δ1 μ1 := by
  conv => lhs; unfold forLoop
  simp only [nmG, h]
theorem get_set {i : Nat} {s : SV} {δ : List SV} (h : i < δ.length) : (δ.set i s)[i]? = some s := by rw [List.getElem?_set_self h]
theorem get_ne {i j : Nat} {s : SV} {δ : List SV} {r : Option SV} (h : δ[j]? = r) (n : i ≠ j) : (δ.set i s)[j]? = r := by rw [List.getElem?_set_ne n]; exact h
theorem mark_loop (μ : List MO) : ∀ (cs : List Nat) (p : Int × Int) (δ : List SV), δ[1]? = some (.d (.int p.1)) → δ[2]? = some (.d (.int p.2)) → δ.length = 4 → ∃ δ', forLoop (nmG 3) markBody (cs.map sg) δ μ = some (.nx δ' μ) ∧ δ'[1]? = some (.d (.int (cs.foldl mstep p).1)) ∧ δ'[2]? = some (.d (.int (cs.foldl mstep p).2))
  | [], p, δ, h1, h2, hl => ⟨δ, rfl, h1, h2⟩
  | c :: cs, p, δ, h1, h2, hl => by
    let δ1 := δ.set 3 (.d (sg c))
    have b1 : δ1[1]? = some (.d (.int p.1)) := get_ne h1 (by decide)
    have b2 : δ1[2]? = some (.d (.int p.2)) := get_ne h2 (by decide)
    have b3 : δ1[3]? = some (.d (sg c)) := get_set (by omega)
    have l1 : δ1.length = 4 := by simp [δ1, hl]
    let δ2 := δ1.set 1 (.d (.int ((p.1 + (c : Nat)) % 251)))
    have s1 : bSet 1 (eBin modD (eBin addD (eVar 1) (eCall ordD (aCons (eVar 3) (aNil)))) (eC (.int 251))) δ1 μ = some (.nx δ2 μ) := set_at (modE (addE (var_at b1) (ord_sg c 3 δ1 μ b3)) (fb := eC (.int 251)) rfl (by decide))
    have l2 : δ2.length = 4 := by simp [δ2, l1]
    have c1 : δ2[1]? = some (.d (.int ((p.1 + (c : Nat)) % 251))) := get_set (by omega)
    have c2 : δ2[2]? = some (.d (.int p.2)) := get_ne b2 (by decide)
    let δ3 := δ2.set 2 (.d (.int ((p.2 + (p.1 + (c : Nat)) % 251) % 251)))
    have s2 : bSet 2 (eBin modD (eBin addD (eVar 2) (eVar 1)) (eC (.int 251))) δ2 μ = some (.nx δ3 μ) := set_at (modE (addE (var_at c2) (var_at c1)) (fb := eC (.int 251)) rfl (by decide))
    have l3 : δ3.length = 4 := by simp [δ3, l2]
    obtain ⟨δ', e, q1, q2⟩ := mark_loop μ cs (mstep p c) δ3 (get_ne c1 (by decide)) (get_set (by omega)) l3
    refine ⟨δ', ?_, q1, q2⟩
    rw [List.map_cons, for_cons ((then_nx s1).trans s2)]
    exact e
def Mr (p : Int × Int) : Prop := (0 ≤ p.1 ∧ p.1 < 251) ∧ 0 ≤ p.2 ∧ p.2 < 251
theorem mr_fold : ∀ (cs : List Nat) (p : Int × Int), Mr p → Mr (cs.foldl mstep p)
  | [], p, h => h
  | c :: cs, p, h => mr_fold cs _ ⟨⟨Int.emod_nonneg _ (by decide), Int.emod_lt_of_pos _ (by decide)⟩, Int.emod_nonneg _ (by decide), Int.emod_lt_of_pos _ (by decide)⟩
theorem mark_mr (s : Str) : Mr (markP s) := mr_fold _ _ ⟨⟨by decide, by decide⟩, by decide, by decide⟩
theorem mark_lf (s : Str) : Lf (.int (markI s)) := by
  obtain ⟨⟨h1, h2⟩, h3, h4⟩ := mark_mr s
  exact lfi (by unfold markI; omega)
theorem iS_at {i : Nat} {s : Str} {δ : List SV} {μ : List MO} (h : δ[i]? = some (.d (.str s))) : iS (eVar i) δ μ = some (signsD s, μ) := by simp [iS, eThen, eVar, h]
theorem mark_run (s : Str) (μ : List MO) : b__law_mark (startD 4 [.str s]) μ = some (.rt (.int (markI s)) μ) := by
  let δ1 := ((startD 4 [D.str s]).set 1 (.d (.int 1))).set 2 (.d (.int 0))
  obtain ⟨δ', e, q1, q2⟩ := mark_loop μ s.cps.toList (1, 0) δ1 rfl rfl rfl
  rw [show b__law_mark = bThen (bSet 1 _) (bThen (bSet 2 _) (bThen (bFor _ _ _) _)) from rfl, then_set (x := .int 1) (μ1 := μ) rfl, then_set (x := .int 0) (μ1 := μ) rfl, then_for (iS_at (s := s) rfl) e]
  obtain ⟨⟨h1, h2⟩, h3, h4⟩ := mark_mr s
  exact ret_eq (addE (mulE (fa := eC (.int 256)) (μ1 := μ) rfl (var_at q2) (by decide) (by show (markP s).2.natAbs < _; omega)) (var_at q1))
theorem law_mark_ok (s : Str) (μ : List MO) : f__law_mark [.str s] μ = some (.int (markI s), μ) := run_of (mark_run s μ)
def markD : D → D
  | .str s => .int (markI s)
  | d => d
def marksD : D → D
  | .str s => .tup ((cut8 s).map markD)
  | _ => .non
theorem iL_at {f : EF} {δ : List SV} {μ μ1 : List MO} {ds : List D} (h : f δ μ = some (.lst ds, μ1)) : iL f δ μ = some (ds, μ1) := by simp [iL, eThen, h]
theorem nLc_at {it : IF} {g : GF} {tt : TF} {te : EF} {vs : List Nat} {δ : List SV} {μ μ1 : List MO} {ds : List D} {r : Option (List D × List MO)} (h : it δ μ = some (ds, μ1)) (hl : ds.length ≤ 1000) (e : lcLoop g tt te (wipeD δ vs) ds μ1 = r) : nLc it g tt te vs δ μ = r := by
  simp only [nLc, h]
  rw [if_pos (by omega)]
  exact e
theorem isN_non {f : EF} {δ : List SV} {μ μ1 : List MO} (h : f δ μ = some (.non, μ1)) : asB (eIsN f) δ μ = some (true, μ1) := asB_eq (by simp [eIsN, eThen, h, isNone])
theorem isN_no {f : EF} {δ : List SV} {μ μ1 : List MO} {x : D} (h : f δ μ = some (x, μ1)) (hx : x ≠ .non) : asB (eIsN f) δ μ = some (false, μ1) := asB_eq (by cases x <;> first | exact absurd rfl hx | simp [eIsN, eThen, h, isNone])
theorem notN_non {f : EF} {δ : List SV} {μ μ1 : List MO} (h : f δ μ = some (.non, μ1)) : eNotN f δ μ = some (.bl false, μ1) := by simp [eNotN, eThen, h, isNone]
theorem notN_no {f : EF} {δ : List SV} {μ μ1 : List MO} {x : D} (h : f δ μ = some (x, μ1)) (hx : x ≠ .non) : eNotN f δ μ = some (.bl true, μ1) := by cases x <;> first | exact absurd rfl hx | simp [eNotN, eThen, h, isNone]
theorem tup_lst {f : EF} {δ : List SV} {μ μ1 : List MO} {xs : List D} (h : f δ μ = some (.lst xs, μ1)) : eCall tupM (aCons f aNil) δ μ = some (.tup xs, μ1) := callE (aC h (a_nil _ _)) (by simp only [tupM, seqD])
theorem law_marks_non (μ : List MO) : f__law_marks [.non] μ = some (.non, μ) := run_ret (if_t (isN_non (var_at rfl)) rfl)
theorem law_marks_str {s : Str} (h : Gs s) (μ : List MO) : f__law_marks [.str s] μ = some (marksD (.str s), μ) := by
  refine run_ret (if_f (isN_no (x := .str s) (var_at rfl) (fun z => nomatch z)) (tup_lst (frzE ?_)))
  refine nLc_at (iL_at (fnE (a1 (i := 0) (x := .str s) rfl) (law_cut_ok h μ))) (by have := cut8_len h; omega) (lc_map (h := markD) fun d hd => ?_)
  obtain ⟨t, rfl, g⟩ := cut8_str h d hd
  exact fn1 (i := 1) rfl (law_mark_ok t μ)
theorem marks_lf {s : Str} (h : Gs s) : ∀ y ∈ (cut8 s).map markD, Lf y := fun y hy => by
  obtain ⟨d, hd, rfl⟩ := List.mem_map.mp hy
  obtain ⟨t, rfl, g⟩ := cut8_str h d hd
  exact mark_lf t
end Law

set_option Elab.async false
set_option linter.all false
set_option autoImplicit false
set_option maxRecDepth 100000
set_option maxHeartbeats 4000000
namespace Law
open PySem PySem.Spec PySem.Calls L2 G GL
variable {b m d : Nat} {μ : List MO} {x : D}
theorem Th.tup {xs : List D} (h : Th b μ m (.tup xs)) : xs.length ≤ 20 ∧ ∀ y ∈ xs, Tm b μ m 1 y := by
  rcases h with (h | ⟨ys, q, hl, ha⟩ | ⟨_, _, q, _⟩) | ⟨_, _, q, _⟩
  · cases h; exact ⟨by simp, fun y hy => nomatch hy⟩
  · cases q; exact ⟨hl, ha⟩
  · cases q
  · cases q
theorem Tm.tup1 {xs : List D} (h : Tm b μ m 1 (.tup xs)) : xs.length ≤ 20 ∧ ∀ y ∈ xs, Lf y := by
  rcases h with h | ⟨ys, q, hl, ha⟩ | ⟨_, _, q, _⟩
  · cases h; exact ⟨by simp, fun y hy => nomatch hy⟩
  · cases q; exact ⟨hl, ha⟩
  · cases q
theorem tf_t {t : TF} {c : Bool} {δ : List SV} {μ μ1 : List MO} (T : t δ μ = some (c, μ1)) (h : c = true) : t δ μ = some (true, μ1) := h ▸ T
theorem tf_f {t : TF} {c : Bool} {δ : List SV} {μ μ1 : List MO} (T : t δ μ = some (c, μ1)) (h : c = false) : t δ μ = some (false, μ1) := h ▸ T
def marksB : D → Bool
  | .non => true
  | .tup ms => decide (ms.length ≤ 8) && ms.all markB
  | _ => false
def cardB : D → Bool
  | .tup [k, n, w, t] => nameB k && (wholeB 1 999999 n && (nameB w && marksB t))
  | _ => false
theorem bls_mapD (p : D → Bool) : ∀ xs : List D, blsD (xs.map fun y => D.bl (p y)) = some (xs.map p)
  | [] => rfl
  | y :: ys => by
    show blsD (D.bl (p y) :: ys.map _) = _
    unfold blsD
    rw [bls_mapD p ys]
    rfl
theorem all_idD (p : D → Bool) (xs : List D) : (xs.map p).all id = xs.all p := by induction xs <;> simp_all
theorem len_tup {f : EF} {xs : List D} {δ : List SV} {μ μ1 : List MO} (h : f δ μ = some (.tup xs, μ1)) : eCall lenD (aCons f aNil) δ μ = some (.int xs.length, μ1) := callE (aC h (a_nil _ _)) rfl
theorem ne_int_z (a b : Int) : (a == b) = decide (a = b) := by rw [Bool.eq_iff_iff]; simp
theorem ne_int {fa fb : EF} {δ : List SV} {μ μ1 μ2 : List MO} {a b : Int} (h1 : fa δ μ = some (.int a, μ1)) (h2 : fb δ μ1 = some (.int b, μ2)) : eBin neD fa fb δ μ = some (.bl (!decide (a = b)), μ2) := by
  simp [eBin, eThen, h1, h2, neD, eqP, toPy, shp, SeqAt.shaped, PyData.canLay0, PyData.depth, PyData.eqv, ne_int_z]
theorem iT_at {f : EF} {xs : List D} {δ : List SV} {μ μ1 : List MO} (h : f δ μ = some (.tup xs, μ1)) : iT f δ μ = some (xs, μ1) := by simp [iT, eThen, h]
theorem all_tup {j : Nat} {f te : EF} {p : D → Bool} {xs : List D} {δ : List SV} {μ : List MO} (h : f δ μ = some (.tup xs, μ)) (hl : xs.length ≤ 1000) (q : ∀ y ∈ xs, ∀ δ' : List SV, δ'[j]? = some (.d y) → te δ' μ = some (.bl (p y), μ)) (hj : j < δ.length) :
    eCall allD (aCons (eFrz (nLc (iT f) (nmG j) tYesD te [j])) aNil) δ μ = some (.bl (xs.all p), μ) := by
  have e := nLc_at (tt := tYesD) (te := te) (g := nmG j) (vs := [j]) (iT_at h) hl (lc_map (h := fun y => D.bl (p y)) fun y hy => q y hy _ (by rw [List.getElem?_set_self (by simpa [wipeD] using hj)]))
  refine (all_eq e (bls_mapD p xs)).trans ?_
  rw [all_idD]
theorem is_marks_ok (h : Tm b μ m 1 x) : f_is_marks [x] μ = some (.bl (marksB x), μ) := by
  let δ := startD 2 [x]
  refine run_of ?_
  rw [show b_is_marks = bThen (bIf _ (bRet _) bNil) (bThen (bIf _ (bRet _) bNil) (bRet _)) from rfl]
  by_cases hn : x = .non
  · subst hn
    exact ask_ret (isN_non (var_at rfl)) rfl
  · rw [ask_on (isN_no (x := x) (var_at rfl) hn)]
    have e1 := isi_at (i := 0) (f := eC (.ty "tuple")) (δ := δ) rfl rfl (isi_k h.th (T := "tuple") (by decide))
    by_cases ht : ∃ xs, x = .tup xs
    · obtain ⟨xs, rfl⟩ := ht
      obtain ⟨hl, ha⟩ := h.tup1
      rw [show isK "tuple" (.tup xs) = true by simp [isK, tyIs]] at e1
      have e2 := gtE (len_tup (f := eVar 0) (xs := xs) (δ := δ) (μ := μ) rfl) (fb := eC (.int 8)) rfl
      have q2 : decide ((8 : Int) < xs.length) = !decide (xs.length ≤ 8) := by rw [Bool.eq_iff_iff]; simp only [decide_eq_true_eq, Bool.not_eq_true', decide_eq_false_iff_not]; omega
      rw [q2] at e2
      have T := or_eq (not_eq (asB_eq e1)) fun _ => asB_eq e2
      by_cases q : xs.length ≤ 8
      · rw [ask_on (tf_f T (by simp [q]))]
        refine (ret_eq (all_tup (p := markB) (f := eVar 0) (δ := δ) rfl (by omega) (fun y hy δ' hd => fn1 hd (is_mark_ok (Th.lf (ha y hy) : Th b μ m y))) (by simp [δ, startD]))).trans ?_
        simp [marksB, q]
      · rw [ask_ret (tf_t T (by simp [q])) rfl]
        simp [marksB, q]
    · have q : isK "tuple" x = false := by cases x <;> first | exact absurd ⟨_, rfl⟩ ht | simp [isK, tyIs]
      rw [q] at e1
      have T := or_eq (b := true) (g := asB (eBin gtD (eCall lenD (aCons (eVar 0) (aNil))) (eC (.int 8)))) (not_eq (asB_eq e1)) fun z => nomatch z
      rw [ask_ret T (e := eC (.bl false)) rfl]
      have : marksB x = false := by cases x <;> first | rfl | exact absurd rfl hn | exact absurd ⟨_, rfl⟩ ht
      rw [this]
theorem four {xs : List D} (h : xs.length = 4) : ∃ k n w t, xs = [k, n, w, t] := by
  match xs, h with
  | [k, n, w, t], _ => exact ⟨k, n, w, t, rfl⟩
theorem card_not4 {xs : List D} (h : xs.length ≠ 4) : cardB (.tup xs) = false := by
  unfold cardB
  split
  · rename_i e
    cases e
    exact absurd rfl h
  · rfl
theorem not_tup {x : D} (ht : ¬ ∃ xs, x = .tup xs) : isK "tuple" x = false ∧ cardB x = false := by
  constructor
  · cases x <;> first | exact absurd ⟨_, rfl⟩ ht | simp [isK, tyIs]
  · unfold cardB
    split
    · exact absurd ⟨_, rfl⟩ ht
    · rfl
theorem is_card_ok (h : Th b μ m x) : f_is_card [x] μ = some (.bl (cardB x), μ) := by
  let δ := startD 5 [x]
  refine run_of ?_
  have e1 := isi_at (i := 0) (f := eC (.ty "tuple")) (δ := δ) rfl rfl (isi_k h (T := "tuple") (by decide))
  rw [show b_is_card = bThen (bIf _ (bRet _) bNil) (bThen (bAsg _ _) (bRet _)) from rfl]
  by_cases ht : ∃ xs, x = .tup xs
  · obtain ⟨xs, rfl⟩ := ht
    obtain ⟨hl, ha⟩ := h.tup
    rw [show isK "tuple" (.tup xs) = true by simp [isK, tyIs]] at e1
    have e2 := ne_int (len_tup (f := eVar 0) (xs := xs) (δ := δ) (μ := μ) rfl) (fb := eC (.int 4)) rfl
    have T := or_eq (not_eq (asB_eq e1)) fun _ => asB_eq e2
    by_cases q : xs.length = 4
    · obtain ⟨k, n, w, t, rfl⟩ := four q
      rw [ask_on (tf_f T (by simp))]
      let δ1 : List SV := [.d (.tup [k, n, w, t]), .d k, .d n, .d w, .d t]
      have ag : bAsg (eVar 0) (tupG 4 (consG (nmG 1) (consG (nmG 2) (consG (nmG 3) (consG (nmG 4) (nilG)))))) δ μ = some (.nx δ1 μ) := rfl
      rw [then_nx ag]
      have tk : Th b μ m k := (ha k (by simp)).th
      have tn : Th b μ m n := (ha n (by simp)).th
      have tw : Th b μ m w := (ha w (by simp)).th
      have f1 := fn1 (i := 1) (δ := δ1) rfl (is_name_ok tk)
      have f2 : eFnX fx_is_whole (aCons (eVar 2) (aCons (eC (.int 1)) (aCons (eC (.int 999999)) (aNil)))) δ1 μ = some (.bl (wholeB 1 999999 n), μ) := fnX (aC (var_at (x := n) rfl) (aC (f := eC (.int 1)) rfl (aC (f := eC (.int 999999)) rfl (a_nil _ _)))) (is_whole_ok tn 1 999999)
      have f3 := fn1 (i := 3) (δ := δ1) rfl (is_name_ok tw)
      have f4 := fn1 (i := 4) (δ := δ1) rfl (is_marks_ok (ha t (by simp)))
      exact ret_eq (and_eq f1 fun _ => and_eq f2 fun _ => and_eq f3 fun _ => f4)
    · have q2 : decide ((xs.length : Int) = 4) = false := decide_eq_false (by omega)
      rw [ask_ret (tf_t T (by rw [q2]; rfl)) (e := eC (.bl false)) rfl, card_not4 q]
  · obtain ⟨q, q2⟩ := not_tup ht
    rw [q] at e1
    have T := or_eq (b := true) (g := asB (eBin neD (eCall lenD (aCons (eVar 0) (aNil))) (eC (.int 4)))) (not_eq (asB_eq e1)) fun z => nomatch z
    rw [ask_ret T (e := eC (.bl false)) rfl, q2]
theorem notN_of {f : EF} {x : D} {δ : List SV} {μ μ1 : List MO} (h : f δ μ = some (x, μ1)) : eNotN f δ μ = some (.bl (!isNone x), μ1) := by simp [eNotN, eThen, h]
theorem isN_of {f : EF} {x : D} {δ : List SV} {μ μ1 : List MO} (h : f δ μ = some (x, μ1)) : eIsN f δ μ = some (.bl (isNone x), μ1) := by simp [eIsN, eThen, h]
theorem ix4 {k n w t : D} (j : Nat) (hj : j < 4) (μ : List MO) : ixD (.tup [k, n, w, t]) (.int (j : Nat)) μ = some ([k, n, w, t].getD j .non, μ) := by
  have : j = 0 ∨ j = 1 ∨ j = 2 ∨ j = 3 := by omega
  rcases this with rfl | rfl | rfl | rfl <;> simp [ixD, seqD, L2.atI, L2.ixN]
structure Ev (b c : Nat) (μ μ' : List MO) : Prop where
  lst : ∀ i xs, b < i → μ[i]? = some (.lst xs) → ∃ j, j ≤ c ∧ μ'[i]? = some (.lst (xs ++ List.replicate j (.int 7)))
  dct : ∀ i s, b < i → s ∈ dst → μ[i]? = some (.dct s.1 s.2) → ∃ s', s' ∈ dst ∧ μ'[i]? = some (.dct s'.1 s'.2)
  box : ∀ o, μ[b]? = some o → μ'[b]? = some o
def Keeps (μ μ' : List MO) : Prop := ∀ (i : Nat) (o : MO), μ[i]? = some o → μ'[i]? = some o
theorem Keeps.refl (μ : List MO) : Keeps μ μ := fun _ _ e => e
theorem Keeps.trans {μ μ' μ'' : List MO} (a : Keeps μ μ') (c : Keeps μ' μ'') : Keeps μ μ'' := fun i o e => c i o (a i o e)
theorem Keeps.app (μ ν : List MO) : Keeps μ (μ ++ ν) := fun _ _ e => getP e
theorem Keeps.drawn {b : Nat} {μ μ' : List MO} (a : Keeps μ μ') : Drawn b μ μ' := fun i o _ e => a i o e
theorem Keeps.ev {μ μ' : List MO} (k : Keeps μ μ') (b c : Nat) : Ev b c μ μ' :=
  ⟨fun i xs _ e => ⟨0, Nat.zero_le _, by simpa using k i _ e⟩, fun i s _ hs e => ⟨s, hs, k i _ e⟩, fun o e => k b o e⟩
theorem Ev.trans {c e : Nat} {μ μ' μ'' : List MO} (a : Ev b c μ μ') (r : Ev b e μ' μ'') : Ev b (c + e) μ μ'' := by
  refine ⟨fun i xs hi h => ?_, fun i s hi hs h => ?_, fun o h => r.box o (a.box o h)⟩
  · obtain ⟨j, hj, h1⟩ := a.lst i xs hi h
    obtain ⟨l, hl, h2⟩ := r.lst i _ hi h1
    exact ⟨j + l, by omega, by rw [h2, List.append_assoc, List.replicate_append_replicate]⟩
  · obtain ⟨s', hs', h1⟩ := a.dct i s hi hs h
    exact r.dct i s' hi hs' h1
theorem Ev.mono {c e : Nat} {μ μ' : List MO} (a : Ev b c μ μ') (l : c ≤ e) : Ev b e μ μ' :=
  ⟨fun i xs hi h => by obtain ⟨j, hj, q⟩ := a.lst i xs hi h; exact ⟨j, by omega, q⟩, a.dct, a.box⟩
theorem seven {y : D} {j : Nat} (h : y ∈ List.replicate j (D.int 7)) : Lf y := by
  rw [(List.mem_replicate.mp h).2]
  exact lfi (by decide)
theorem Tm.ev {c : Nat} {μ μ' : List MO} (r : Ev b c μ μ') : ∀ {d : Nat} {x : D}, Tm b μ m d x → Tm b μ' (m + c) d x
  | 0, x, h => h
  | d + 1, x, h => by
    rcases h with h | ⟨xs, rfl, hl, ha⟩ | ⟨k, xs, rfl, hk, e, hl, ha⟩
    · exact .inl h
    · exact .inr (.inl ⟨xs, rfl, hl, fun y hy => Tm.ev r (ha y hy)⟩)
    · obtain ⟨j, hj, q⟩ := r.lst k xs hk e
      refine .inr (.inr ⟨k, _, rfl, hk, q, by rw [List.length_append, List.length_replicate]; omega, fun y hy => ?_⟩)
      rcases List.mem_append.mp hy with hy | hy
      · exact Tm.ev r (ha y hy)
      · exact Tm.lf (seven hy)
theorem Th.ev {c : Nat} {μ μ' : List MO} (r : Ev b c μ μ') (h : Th b μ m x) : Th b μ' (m + c) x := by
  rcases h with h | ⟨k, s, rfl, hk, hs, e⟩
  · exact .inl (h.ev r)
  · obtain ⟨s', hs', q⟩ := r.dct k s hk hs e
    exact .inr ⟨k, s', rfl, hk, hs', q⟩
theorem Tm.dr {m' : Nat} {μ μ' : List MO} (r : Drawn b μ μ') (l : m ≤ m') : ∀ {d : Nat} {x : D}, Tm b μ m d x → Tm b μ' m' d x
  | 0, x, h => h
  | d + 1, x, h => by
    rcases h with h | ⟨xs, rfl, hl, ha⟩ | ⟨k, xs, rfl, hk, e, hl, ha⟩
    · exact .inl h
    · exact .inr (.inl ⟨xs, rfl, hl, fun y hy => Tm.dr r l (ha y hy)⟩)
    · exact .inr (.inr ⟨k, xs, rfl, hk, r k _ (by omega) e, by omega, fun y hy => Tm.dr r l (ha y hy)⟩)
theorem Th.dr {m' : Nat} {μ μ' : List MO} (r : Drawn b μ μ') (h : Th b μ m x) (l : m ≤ m') : Th b μ' m' x := by
  rcases h with h | ⟨k, s, rfl, hk, hs, e⟩
  · exact .inl (Tm.dr r l h)
  · exact .inr ⟨k, s, rfl, hk, hs, r k _ (by omega) e⟩
theorem Th.mono {m' : Nat} (h : Th b μ m x) (l : m ≤ m') : Th b μ m' x := h.dr (Drawn.refl b μ) l
theorem am : ¬ (Str.ofString "a" = Str.ofString "more") := by decide +kernel
theorem put_dst : ∀ s ∈ dst, (putX s.1 s.2 (.inr "more") (.int 7)) ∈ dst ∧ s.1.length < 1000000 := by
  intro s hs
  simp only [dst, List.mem_cons, List.mem_nil_iff, or_false] at hs
  rcases hs with rfl | rfl | rfl | rfl
  · exact ⟨by simp [putX, dst, am], by decide⟩
  · exact ⟨by simp [putX, dst, am], by decide⟩
  · exact ⟨by simp [putX, dst, am], by decide⟩
  · exact ⟨by simp [putX, dst, am], by decide⟩
theorem Ev.set_lst {k : Nat} {xs : List D} (hk : b < k) (e : μ[k]? = some (.lst xs)) : Ev b 1 μ (μ.set k (.lst (xs ++ [.int 7]))) := by
  have lt := (List.getElem?_eq_some_iff.mp e).1
  refine ⟨fun i ys hi h => ?_, fun i s hi hs h => ?_, fun o h => ?_⟩
  · by_cases q : i = k
    · subst q
      rw [e] at h; cases h
      exact ⟨1, Nat.le_refl _, by rw [List.getElem?_set_self lt]; rfl⟩
    · exact ⟨0, Nat.zero_le _, by rw [List.getElem?_set_ne (Ne.symm q)]; simpa using h⟩
  · by_cases q : i = k
    · subst q
      rw [e] at h; cases h
    · exact ⟨s, hs, by rw [List.getElem?_set_ne (Ne.symm q)]; exact h⟩
  · rw [List.getElem?_set_ne (by omega)]; exact h
theorem Ev.set_dct {k : Nat} {s s' : List Key × List D} (hk : b < k) (e : μ[k]? = some (.dct s.1 s.2)) (hs' : s' ∈ dst) : Ev b 1 μ (μ.set k (.dct s'.1 s'.2)) := by
  have lt := (List.getElem?_eq_some_iff.mp e).1
  refine ⟨fun i ys hi h => ?_, fun i u hi hs h => ?_, fun o h => ?_⟩
  · by_cases q : i = k
    · subst q
      rw [e] at h; cases h
    · exact ⟨0, Nat.zero_le _, by rw [List.getElem?_set_ne (Ne.symm q)]; simpa using h⟩
  · by_cases q : i = k
    · subst q
      exact ⟨s', hs', by rw [List.getElem?_set_self lt]⟩
    · exact ⟨u, hs, by rw [List.getElem?_set_ne (Ne.symm q)]; exact h⟩
  · rw [List.getElem?_set_ne (by omega)]; exact h
theorem tyList {n : String} (h : n ∈ ["NoneType", "bool", "int", "str", "tuple", "dict"]) : tyIs n "list" = false := by
  simp only [List.mem_cons, List.mem_nil_iff, or_false] at h
  rcases h with rfl | rfl | rfl | rfl | rfl | rfl <;> decide
theorem grown_ok (h : Th b μ m x) (hm : m ≤ 1000) : ∃ μ', f__law_grown [x] μ = some (.non, μ') ∧ Ev b 1 μ μ' := by
  let δ : List SV := startD 1 [x]
  have d0 : δ[0]? = some (.d x) := rfl
  have q1 := asB_eq (isi_at (i := 0) (f := eC (.ty "list")) d0 rfl (isi_ty h (T := "list") (by decide)))
  have fin : ∀ {μ μ'}, b__law_grown δ μ = some (.nx δ μ') → f__law_grown [x] μ = some (.non, μ') := fun e => by
    show runB 1 b__law_grown [x] _ = _
    simp only [runB]
    rw [show b__law_grown (startD 1 [x]) _ = _ from e]
  have other : tyIs (tyM μ x) "list" = false → tyIs (tyM μ x) "dict" = false → ∃ μ', f__law_grown [x] μ = some (.non, μ') ∧ Ev b 1 μ μ' := fun n1 n2 => by
    have q2 := asB_eq (isi_at (i := 0) (f := eC (.ty "dict")) (μ := μ) d0 rfl (isi_ty h (T := "dict") (by decide)))
    rw [n1] at q1
    rw [n2] at q2
    exact ⟨μ, fin ((then_nx (if_nx q1)).trans (if_nx q2)), (Keeps.refl μ).ev b 1⟩
  rcases id h with (hl | ⟨xs, rfl, _, _⟩ | ⟨k, xs, rfl, hk, e, hl, ha⟩) | ⟨k, s, rfl, hk, hs, e⟩
  · refine other ?_ ?_ <;> cases hl <;> simp [tyM, typeD, tyIs]
  · exact other (by simp [tyM, typeD, tyIs]) (by simp [tyM, typeD, tyIs])
  · have r : Ev b 1 μ (μ.set k (.lst (xs ++ [.int 7]))) := Ev.set_lst hk e
    have lt := (List.getElem?_eq_some_iff.mp e).1
    have e' : (μ.set k (.lst (xs ++ [.int 7])))[k]? = some (.lst (xs ++ [.int 7])) := by rw [List.getElem?_set_self lt]
    have q2 := asB_eq (isi_at (i := 0) (f := eC (.ty "dict")) (μ := μ.set k (.lst (xs ++ [.int 7]))) d0 rfl (isi_ty (h.ev r) (T := "dict") (by decide)))
    rw [show tyIs (tyM (μ.set k (.lst (xs ++ [.int 7]))) (.mut k)) "dict" = false by simp [tyM, typeD, e', tyIs]] at q2
    rw [show tyIs (tyM μ (.mut k)) "list" = true by simp [tyM, typeD, e, tyIs]] at q1
    have ap : eMt "list" appendD (eVar 0) (aCons (eC (.int 7)) (aNil)) δ μ = some (.non, μ.set k (.lst (xs ++ [.int 7]))) := by
      refine mtE (var_at d0) (by simp [tyB, e]) (aC (f := eC (.int 7)) rfl (a_nil δ μ)) ?_
      simp only [appendD, e]
      rw [if_pos (by omega)]
    refine ⟨_, fin ?_, r⟩
    have s1 : bIf (asB (eCall isiG (aCons (eVar 0) (aCons (eC (.ty "list")) (aNil))))) (bExpr (eMt "list" appendD (eVar 0) (aCons (eC (.int 7)) (aNil)))) (bNil) δ μ = some (.nx δ (μ.set k (.lst (xs ++ [.int 7])))) := by
      rw [if_at q1]
      simp [bExpr, ap]
    exact (then_nx s1).trans (if_nx q2)
  · have q2 := asB_eq (isi_at (i := 0) (f := eC (.ty "dict")) (μ := μ) d0 rfl (isi_ty h (T := "dict") (by decide)))
    rw [show tyIs (tyM μ (.mut k)) "list" = false by simp [tyM, typeD, e, tyIs]] at q1
    rw [show tyIs (tyM μ (.mut k)) "dict" = true by simp [tyM, typeD, e, tyIs]] at q2
    obtain ⟨p1, p2⟩ := put_dst s hs
    refine ⟨μ.set k (.dct (putX s.1 s.2 (.inr "more") (.int 7)).1 (putX s.1 s.2 (.inr "more") (.int 7)).2), fin ?_, Ev.set_dct hk e p1⟩
    refine (then_nx (if_nx q1)).trans ?_
    rw [if_at q2]
    simp only [if_true]
    simp only [bDPut, eC, var_at (μ := μ) d0, keyD, e]
    rw [if_pos p2]
theorem tup4 {f1 f2 f3 f4 : EF} {k n w t : D} {δ : List SV} {μ : List MO} (h1 : f1 δ μ = some (k, μ)) (h2 : f2 δ μ = some (n, μ)) (h3 : f3 δ μ = some (w, μ)) (h4 : f4 δ μ = some (t, μ)) : eTup (aCons f1 (aCons f2 (aCons f3 (aCons f4 aNil)))) δ μ = some (.tup [k, n, w, t], μ) := by
  simp [eTup, aC h1 (aC h2 (aC h3 (aC h4 (a_nil δ μ))))]
theorem aC_no {f : EF} {r : AF} {δ : List SV} {μ : List MO} (h : f δ μ = none) : aCons f r δ μ = none := by simp [aCons, eThen, h]
theorem aC_no2 {f : EF} {r : AF} {δ : List SV} {μ μ1 : List MO} {x : D} (h : f δ μ = some (x, μ1)) (h2 : r δ μ1 = none) : aCons f r δ μ = none := by simp [aCons, eThen, h, h2]
theorem tup_no {r : AF} {δ : List SV} {μ : List MO} (h : r δ μ = none) : eTup r δ μ = none := by simp [eTup, h]
theorem xf_at {i C : Nat} {d : D} {δ : List SV} {μ : List MO} (h : δ[i]? = some (.xv C "found" d)) (hC : exFl_found C = true) : eXf i "found" exFl_found δ μ = some (d, μ) := by simp [eXf, h, hC]
theorem ret_true {f : EF} {δ : List SV} {μ μ1 : List MO} {b : Bool} (h : f δ μ = some (.bl b, μ1)) (hb : b = true) : bRet f δ μ = some (.rt (.bl true) μ1) := by
  subst hb
  exact ret_eq h
theorem tOr_eq2 {f g : TF} {δ : List SV} {μ μ1 μ2 : List MO} {b : Bool} (h : f δ μ = some (false, μ1)) (h2 : g δ μ1 = some (b, μ2)) : tfOr f g δ μ = some (b, μ2) := by simp [tfOr, tThen, h, h2]
theorem try_x {bd : BF} {hs : List (XT × Option Nat × BF)} {δ δ' : List SV} {μ μ' : List MO} {C : Nat} {f m : Str} {d : D} (h : bd δ μ = some (.xc C f m d δ' μ')) : bTry bd hs δ μ = handle hs C f m d δ' μ' := by simp [bTry, h]
theorem try_n {bd : BF} {hs : List (XT × Option Nat × BF)} {δ δ' : List SV} {μ μ' : List MO} (h : bd δ μ = some (.nx δ' μ')) : bTry bd hs δ μ = some (.nx δ' μ') := by simp [bTry, h]
theorem hd_yes {t : XT} {i C : Nat} {h : BF} {r : List (XT × Option Nat × BF)} {f m : Str} {d x : D} {δ : List SV} {μ μ1 : List MO} (ht : t C = some true) (e : h (δ.set i (.xv C f d)) μ = some (.rt x μ1)) : handle ((t, some i, h) :: r) C f m d δ μ = some (.rt x μ1) := by
  simp [handle, ht, inX, e, offOut]
theorem hd_no {t : XT} {oi : Option Nat} {C : Nat} {h : BF} {r : List (XT × Option Nat × BF)} {f m : Str} {d : D} {δ : List SV} {μ : List MO} (ht : t C = some false) : handle ((t, oi, h) :: r) C f m d δ μ = handle r C f m d δ μ := by
  simp [handle, ht]
theorem xis_at {i C : Nat} {d dc : D} {c : Bool} {fc : EF} {f : Str} {δ : List SV} {μ : List MO} (h : δ[i]? = some (.xv C f d)) (hf : fc δ μ = some (dc, μ)) (hk : kitX exIs C dc = some c) : eXis i (kitX exIs) fc δ μ = some (.bl c, μ) := by
  simp [eXis, h, hf, hk]
theorem catE {fa fb : EF} {δ : List SV} {μ μ1 μ2 : List MO} {a c : List D} (h1 : fa δ μ = some (.lst a, μ1)) (h2 : fb δ μ1 = some (.lst c, μ2)) (hl : a.length + c.length ≤ 1000) : eBin addD fa fb δ μ = some (.lst (a ++ c), μ2) := by
  simp [eBin, eThen, h1, h2, addD, show a.length + c.length ≤ 1000000 by omega]
theorem iR1_at {r : AF} {L : Nat} {δ : List SV} {μ μ1 : List MO} (h : r δ μ = some ([.int (L : Nat)], μ1)) (hL : L ≤ 1000) : iR1 r δ μ = some (rangeD 0 L, μ1) := by
  simp only [iR1, aThen, h]
  rw [if_pos (by omega)]
  simp
theorem card_parts {x : D} (h : cardB x = true) : ∃ k n w t, x = .tup [k, n, w, t] ∧ nameB k = true ∧ wholeB 1 999999 n = true ∧ nameB w = true ∧ marksB t = true := by
  unfold cardB at h
  split at h
  · rename_i k n w t
    simp only [Bool.and_eq_true] at h
    exact ⟨k, n, w, t, rfl, h.1, h.2.1, h.2.2.1, h.2.2.2⟩
  · cases h
theorem name_str {k : D} (h : nameB k = true) : ∃ s, k = .str s := by
  cases k with
  | str s => exact ⟨s, rfl⟩
  | _ => cases h
theorem need_card_ok (h : Th b μ m x) : fx_need_card [x] μ = if cardB x = true then some (.ok .non μ) else some (.ex 2 "found" "no card" x μ) := by
  have t := not_eq (asB_eq (fn1 (i := 0) (δ := startD 1 [x]) rfl (is_card_ok h)))
  by_cases q : cardB x = true
  · rw [if_pos q]
    rw [q] at t
    exact runX_nx (if_nx t)
  · rw [if_neg q]
    exact runX_xc (if_xc t (by simpa using q) (raise_at rfl))
end Law

set_option Elab.async false
set_option linter.all false
set_option autoImplicit false
set_option maxRecDepth 100000
set_option maxHeartbeats 4000000
namespace Law
open PySem PySem.Spec PySem.Calls L2 G GL
variable {b m d : Nat} {μ : List MO} {x : D}
def Bx (b n : Nat) (μ : List MO) : Prop := ∃ o, μ[b]? = some o ∧ BagOk n o
theorem Bx.bg {n : Nat} (h : Bx b n μ) : Bg μ b n μ := ⟨h, Drawn.refl b μ⟩
theorem Bx.lt {n : Nat} (h : Bx b n μ) : b < μ.length := by
  obtain ⟨o, e, _⟩ := h
  exact (List.getElem?_eq_some_iff.mp e).1
theorem Bx.mono {n k : Nat} (h : Bx b n μ) (l : n ≤ k) : Bx b k μ := (h.bg.mono l).1
theorem Bx.keeps {n : Nat} {μ' : List MO} (h : Bx b n μ) (k : Keeps μ μ') : Bx b n μ' := by
  obtain ⟨o, e, q⟩ := h
  exact ⟨o, k _ _ e, q⟩
theorem Bx.ev {n c : Nat} {μ' : List MO} (h : Bx b n μ) (r : Ev b c μ μ') : Bx b n μ' := by
  obtain ⟨o, e, q⟩ := h
  exact ⟨o, r.box o e, q⟩
theorem take_x {i n : Nat} {w : Int} {fm : EF} {δ : List SV} {μ : List MO} (hi : δ[i]? = some (.d (.mut b))) (hf : fm δ μ = some (.int w, μ)) (h : Bx b n μ) (hm : 0 < w) (hm2 : w.natAbs < 2 ^ 128) (hn : n ≤ 1000000) :
    ∃ (d : Int) (μ' : List MO), eFn f__law_take [] (aCons (eVar i) (aCons fm aNil)) δ μ = some (.int d, μ') ∧ 0 ≤ d ∧ d < w ∧ Bx b (n + 1) μ' ∧ Drawn b μ μ' := by
  obtain ⟨d, μ', e, h1, h2, B⟩ := take_at hi hf h.bg hm hm2 hn
  exact ⟨d, μ', e, h1, h2, B.1, B.2⟩
theorem Drawn.dr2 {p : Nat} {μ μ' : List MO} (h : Drawn b μ μ') : ∀ (i : Nat) (o : MO), i ≠ b → i ≠ p → μ[i]? = some o → μ'[i]? = some o := fun i o n _ e => h i o n e
def thingL (L : Nat) : List D := [.non, .bl true, .bl false, .int 0, .int 1, .int (-1), .int (10 ^ 29), .str "", .str "A", .str "a b", .tup [], .tup [.int 1], .mut L, .mut (L + 1), .mut (L + 2), .mut (L + 3), .tup [.str "a", .int 1, .str "b"]]
def thingM (μ : List MO) : List MO := (((μ ++ [.lst []]) ++ [.lst [.str "a"]]) ++ [.dct [] []]) ++ [.dct [.inr "a"] [.int 1]]
theorem Gs_of (s : Str) (h : (decide (s.length ≤ 64) && s.cps.toList.all fun c => decide (c < 128)) = true) : Gs s := by
  simp only [Bool.and_eq_true, decide_eq_true_eq, List.all_eq_true] at h
  exact h
theorem Gs_a : Gs "a" := Gs_of _ (by decide +kernel)
theorem mutE {n : NF} {δ : List SV} {μ μ1 : List MO} {xs : List D} (h : n δ μ = some (xs, μ1)) : eMut n δ μ = some (.mut μ1.length, μ1 ++ [.lst xs]) := by simp [eMut, h]
theorem mutL {r : AF} {δ : List SV} {μ μ1 : List MO} {xs : List D} (h : r δ μ = some (xs, μ1)) (hl : xs.length ≤ 100) : eMut (nLst r) δ μ = some (.mut μ1.length, μ1 ++ [.lst xs]) := mutE (by simp [nLst, h, show xs.length ≤ 1000000 by omega])
theorem mutK {r : AF} {δ : List SV} {μ μ1 : List MO} {xs : List D} {k : Nat} (hk : μ1.length = k) (h : r δ μ = some (xs, μ1)) (hl : xs.length ≤ 100) : eMut (nLst r) δ μ = some (.mut k, μ1 ++ [.lst xs]) := by
  subst hk
  exact mutL h hl
theorem dct0K {δ : List SV} {μ : List MO} {k : Nat} (hk : μ.length = k) : eDctM0 δ μ = some (.mut k, μ ++ [.dct [] []]) := by
  subst hk
  rfl
theorem dct1K {key : Key} {d : D} {δ : List SV} {μ : List MO} {k : Nat} (hk : μ.length = k) : eDctM1 key (eC d) δ μ = some (.mut k, μ ++ [.dct [key] [d]]) := by
  subst hk
  rfl
theorem thing_ok {n : Nat} (h : Bx b n μ) (hn : n ≤ 1000) : ∃ x μ', f__law_thing [.mut b] μ = some (x, μ') ∧ Th b μ' 8 x ∧ Bx b (n + 1) μ' ∧ Drawn b μ μ' := by
  let L := μ.length
  have hb := h.lt
  let δ0 : List SV := startD 2 [.mut b]
  have kM : Keeps μ (thingM μ) := ((Keeps.app _ _).trans (Keeps.app _ _)).trans ((Keeps.app _ _).trans (Keeps.app _ _))
  have i0 : (thingM μ)[L]? = some (.lst []) := by simp [thingM, L]
  have i1 : (thingM μ)[L + 1]? = some (.lst [.str "a"]) := by simp [thingM, L]
  have i2 : (thingM μ)[L + 2]? = some (.dct [] []) := by simp [thingM, L]
  have i3 : (thingM μ)[L + 3]? = some (.dct [.inr "a"] [.int 1]) := by simp [thingM, L]
  have S : eFrz (nLst (aCons (eC .non) (aCons (eC (.bl true)) (aCons (eC (.bl false)) (aCons (eC (.int 0)) (aCons (eC (.int 1)) (aCons (eNeg (eC (.int 1))) (aCons (eBin powD (eC (.int 10)) (eC (.int 29))) (aCons (eC (.str "")) (aCons (eC (.str "A")) (aCons (eC (.str "a b")) (aCons (eTup (aNil)) (aCons (eTup (aCons (eC (.int 1)) (aNil))) (aCons (eMut (nLst (aNil))) (aCons (eMut (nLst (aCons (eC (.str "a")) (aNil)))) (aCons (eDctM0) (aCons (eDctM1 (.inr "a") (eC (.int 1))) (aCons (eTup (aCons (eC (.str "a")) (aCons (eC (.int 1)) (aCons (eC (.str "b")) (aNil))))) (aNil))))))))))))))))))) δ0 μ = some (.lst (thingL L), thingM μ) := by
    refine frz (xs := thingL L) ?_ (by simp [thingL])
    refine aC (f := eC .non) rfl (aC (f := eC (.bl true)) rfl (aC (f := eC (.bl false)) rfl (aC (f := eC (.int 0)) rfl (aC (f := eC (.int 1)) rfl (aC (x := .int (-1)) rfl (aC (x := .int (10 ^ 29)) (μ1 := μ) (by simp [eBin, eThen, eC, powD]) (aC (f := eC (.str "")) rfl (aC (f := eC (.str "A")) rfl (aC (f := eC (.str "a b")) rfl (aC (x := .tup []) (μ1 := μ) rfl (aC (x := .tup [.int 1]) (μ1 := μ) (by simp [eTup, aCons, aNil, eThen, eC]) (aC (mutK (k := L) (xs := []) rfl rfl (by simp)) (aC (mutK (k := L + 1) (xs := [.str "a"]) (μ1 := μ ++ [.lst []]) (by simp [L]) (aC (f := eC (.str "a")) rfl (a_nil _ _)) (by simp)) (aC (dct0K (k := L + 2) (by simp [L])) (aC (dct1K (k := L + 3) (by simp [L])) (aC (x := .tup [.str "a", .int 1, .str "b"]) ?_ (a_nil _ _)))))))))))))))))
    simp [eTup, aCons, aNil, eThen, eC, thingM]
  obtain ⟨d, μ', e, d1, d2, B, dr0⟩ := take_x (i := 0) (δ := δ0.set 1 (.d (.lst (thingL L)))) (w := 17) (fm := eC (.int 17)) rfl rfl (h.keeps kM) (by decide) (by decide) (by omega)
  obtain ⟨x, ex, hx⟩ := ix_lst (xs := thingL L) (μ := μ') d1 (by simpa [thingL] using d2)
  have dr : Drawn b μ μ' := kM.drawn.trans dr0
  refine ⟨x, μ', run_set S (ixe (x := .lst (thingL L)) (y := .int d) (μ1 := thingM μ) rfl e ex), ?_, B, dr⟩
  have j0 := dr0 L _ (by omega) i0
  have j1 := dr0 (L + 1) _ (by omega) i1
  have j2 := dr0 (L + 2) _ (by omega) i2
  have j3 := dr0 (L + 3) _ (by omega) i3
  simp only [thingL, List.mem_cons, List.mem_nil_iff, or_false] at hx
  rcases hx with rfl | rfl | rfl | rfl | rfl | rfl | rfl | rfl | rfl | rfl | rfl | rfl | rfl | rfl | rfl | rfl | rfl
  · exact Th.lf .non
  · exact Th.lf (.bl _)
  · exact Th.lf (.bl _)
  · exact Th.lf (lfi (by decide))
  · exact Th.lf (lfi (by decide))
  · exact Th.lf (lfi (by decide))
  · exact Th.lf (.int (by decide))
  · exact Th.lf (.str (Gs_of _ (by decide +kernel)))
  · exact Th.lf (.str (Gs_of _ (by decide +kernel)))
  · exact Th.lf (.str (Gs_of _ (by decide +kernel)))
  · exact Th.lf .nil
  · exact Tm.th (.inr (.inl ⟨_, rfl, by simp, fun y hy => by simp at hy; subst hy; exact lfi (by decide)⟩))
  · exact Tm.th (.inr (.inr ⟨_, _, rfl, by omega, j0, by simp, fun y hy => nomatch hy⟩))
  · exact Tm.th (.inr (.inr ⟨_, _, rfl, by omega, j1, by simp, fun y hy => by simp at hy; subst hy; exact .str Gs_a⟩))
  · exact .inr ⟨_, ([], []), rfl, by omega, by simp [dst], j2⟩
  · exact .inr ⟨_, ([.inr "a"], [.int 1]), rfl, by omega, by simp [dst], j3⟩
  · refine Tm.th (.inr (.inl ⟨_, rfl, by simp, fun y hy => ?_⟩))
    simp at hy
    rcases hy with rfl | rfl | rfl
    · exact .str Gs_a
    · exact lfi (by decide)
    · exact .str (Gs_of _ (by decide +kernel))
theorem cutL_mem {xs : List D} {lo hi : Option Int} {y : D} (h : y ∈ cutL xs lo hi) : y ∈ xs := List.mem_of_mem_drop (List.mem_of_mem_take h)
theorem cutL_len (xs : List D) (lo hi : Option Int) : (cutL xs lo hi).length ≤ xs.length := by
  unfold cutL
  rw [List.length_take, List.length_drop]
  omega
theorem addT_at {fa fb : EF} {a c : List D} {δ : List SV} {μ μ1 μ2 : List MO} (h1 : fa δ μ = some (.tup a, μ1)) (h2 : fb δ μ1 = some (.tup c, μ2)) (hl : a.length + c.length ≤ 1000) : eBin addT fa fb δ μ = some (.tup (a ++ c), μ2) := by
  simp [eBin, eThen, h1, h2, addT, show a.length + c.length ≤ 1000000 by omega]
theorem slT_at {f : EF} {xs : List D} {δ : List SV} {μ μ1 : List MO} {lo hi : PF} {l h : Option Int} (v : f δ μ = some (.tup xs, μ1)) (h1 : lo δ μ1 = some (l, μ1)) (h2 : hi δ μ1 = some (h, μ1)) : eSlT f lo hi δ μ = some (.tup (cutL xs l h), μ1) := by simp [eSlT, eThen, v, h1, h2]
theorem tup1 {f : EF} {y : D} {δ : List SV} {μ μ1 : List MO} (h : f δ μ = some (y, μ1)) : eTup (aCons f aNil) δ μ = some (.tup [y], μ1) := by simp [eTup, aC h (a_nil δ μ1)]
theorem lstM_at {f : EF} {xs : List D} {δ : List SV} {μ μ1 : List MO} (h : f δ μ = some (.tup xs, μ1)) : eCall lstM (aCons f aNil) δ μ = some (.mut μ1.length, μ1 ++ [.lst xs]) := callE (aC h (a_nil _ _)) rfl
theorem mulT_at {fa : EF} {a : List D} {k : Nat} {δ : List SV} {μ μ1 : List MO} (h1 : fa δ μ = some (.tup a, μ1)) (hk : 2 ≤ k) (hk2 : k ≤ 1000) (ha : a.isEmpty = false) (hl : a.length ≤ 1000) : eBin mulT fa (eC (.int (k : Nat))) δ μ = some (.tup (List.replicate k a).flatten, μ1) := by
  have z : a.isEmpty = false ∧ (2 : Int) ≤ (k : Nat) ∧ ((k : Nat) : Int) ≤ 1000 ∧ a.length ≤ 1000 := ⟨ha, by omega, by omega, hl⟩
  simp only [eBin, eThen, h1, eC, mulT]
  rw [if_pos z, Int.toNat_natCast]
theorem revT_at {f : EF} {xs : List D} {δ : List SV} {μ μ1 : List MO} (h : f δ μ = some (.tup xs, μ1)) : eRevT f δ μ = some (.tup xs.reverse, μ1) := by simp [eRevT, eThen, h]
theorem tm_tup {xs : List D} (hl : xs.length ≤ 20) (ha : ∀ y ∈ xs, Tm b μ m 1 y) : Th b μ m (.tup xs) := .inl (.inr (.inl ⟨xs, rfl, hl, ha⟩))
theorem tm1_tup {xs : List D} (hl : xs.length ≤ 20) (ha : ∀ y ∈ xs, Lf y) : Tm b μ m 1 (.tup xs) := .inr (.inl ⟨xs, rfl, hl, ha⟩)
theorem lt_at {i : Nat} {a c : Int} {δ : List SV} {μ : List MO} (h : δ[i]? = some (.d (.int a))) : asB (eBin ltD (eVar i) (eC (.int c))) δ μ = some (decide (a < c), μ) := asB_eq (ltE (var_at h) (fb := eC (.int c)) rfl)
theorem eq_at {i : Nat} {a c : Int} {δ : List SV} {μ : List MO} (h : δ[i]? = some (.d (.int a))) : asB (eBin eqD (eVar i) (eC (.int c))) δ μ = some (decide (a = c), μ) := asB_eq (eq_int (var_at h) (fb := eC (.int c)) rfl)
end Law

set_option Elab.async false
set_option linter.all false
set_option autoImplicit false
set_option maxRecDepth 100000
set_option maxHeartbeats 4000000
namespace Law
open PySem PySem.Spec PySem.Calls L2 G GL
variable {b m d : Nat} {μ : List MO} {x : D}
theorem strs_py (μ : List MO) (n : Nat) : ∀ ws : List Str, toPyL (toPy μ (n + 1)) (ws.map D.str) = some (ws.map PyData.str)
  | [] => rfl
  | w :: ws => by
    have r := strs_py μ n ws
    have e : toPy μ (n + 1) (.str w) = some (.str w) := rfl
    simp [toPyL, e, r]
theorem str_lay {s : Str} (h : Gs s) : PyData.canLay0 (.str s) = true := by
  simp only [PyData.canLay0, PyData.strOk]
  rw [← Array.all_toList, List.all_eq_true]
  intro c hc
  have := h.2 c hc
  simp
  omega
theorem strs_lay : ∀ ws : List Str, (∀ w ∈ ws, Gs w) → PyData.canLayAll0 (ws.map PyData.str) = true
  | [], _ => rfl
  | w :: ws, h => by
    simp only [List.map_cons, PyData.canLayAll0, Bool.and_eq_true]
    exact ⟨str_lay (h w (by simp)), strs_lay ws fun u hu => h u (by simp [hu])⟩
theorem strs_dep : ∀ ws : List Str, PyData.depthAll (ws.map PyData.str) = 0
  | [] => rfl
  | w :: ws => by simp [PyData.depthAll, PyData.depth, strs_dep ws]
theorem shp_strs {ws : List Str} (h : ∀ w ∈ ws, Gs w) : shp (.list (ws.map PyData.str)) = true := by
  simp [shp, SeqAt.shaped, PyData.canLay0, PyData.depth, strs_lay ws h, strs_dep ws]
theorem shp_str {s : Str} (h : Gs s) : shp (.str s) = true := by
  have := str_lay h
  simp [shp, SeqAt.shaped, PyData.depth, this]
theorem mut_py {p : Nat} {ws : List Str} (e : μ[p]? = some (.lst (ws.map D.str))) : toPy μ DEEP (.mut p) = some (.list (ws.map PyData.str)) := by
  show (match μ[p]? with
    | some (.lst ds) => (toPyL (toPy μ 15) ds).map PyData.list
    | _ => none) = _
  rw [e]
  simp [strs_py μ 14]
theorem dec_cons (w u : Str) (us : List Str) : (decide (w = u) || decide (w ∈ us)) = decide (w ∈ u :: us) := by
  rw [Bool.eq_iff_iff, Bool.or_eq_true, decide_eq_true_eq, decide_eq_true_eq, decide_eq_true_eq, List.mem_cons]
theorem eqv_str (u w : Str) : PyData.eqv (.str u) (.str w) = decide (w = u) := by
  have q : PyData.eqv (.str u) (.str w) = (u == w) := by simp [PyData.eqv]
  rw [q, Bool.eq_iff_iff, beq_iff_eq, decide_eq_true_eq]
  exact eq_comm
theorem any_strs (w : Str) : ∀ us : List Str, ((us.map PyData.str).any fun z => PyData.eqv z (.str w)) = decide (w ∈ us)
  | [] => rfl
  | u :: us => by
    rw [List.map_cons, List.any_cons, eqv_str, any_strs w us, dec_cons]
theorem in_strs {p : Nat} {ws : List Str} {w : Str} (e : μ[p]? = some (.lst (ws.map D.str))) (h : ∀ w ∈ ws, Gs w) (hw : Gs w) : inP (.str w) (.mut p) μ = some (decide (w ∈ ws)) := by
  have e1 : toPy μ DEEP (.str w) = some (.str w) := rfl
  simp only [inP, e1, mut_py e]
  rw [if_pos ⟨shp_str hw, shp_strs h⟩, any_strs]
theorem bin_at {g : G2} {fa fb : EF} {x y : D} {δ : List SV} {μ μ1 μ2 : List MO} {r : Option (D × List MO)} (h1 : fa δ μ = some (x, μ1)) (h2 : fb δ μ1 = some (y, μ2)) (h3 : g x y μ2 = r) : eBin g fa fb δ μ = r := by simp [eBin, eThen, h1, h2, h3]
theorem expr_at {f : EF} {x : D} {δ : List SV} {μ μ1 : List MO} (h : f δ μ = some (x, μ1)) : bExpr f δ μ = some (.nx δ μ1) := by simp [bExpr, h]
theorem ne_nil {p : Nat} {ws : List Str} {δ : List SV} {i : Nat} (v : δ[i]? = some (.d (.mut p))) (e : μ[p]? = some (.lst (ws.map D.str))) (h : ∀ w ∈ ws, Gs w) : eBin neD (eVar i) (eFrz (nLst aNil)) δ μ = some (.bl (!ws.isEmpty), μ) := by
  have e2 := frz (a_nil δ μ) (by simp)
  have t2 : toPy μ DEEP (.lst []) = some (.list []) := rfl
  have t5 : PyData.eqv (.list (ws.map PyData.str)) (.list []) = ws.isEmpty := by cases ws <;> simp [PyData.eqv, PyData.eqvAll]
  have t4 : shp (.list []) = true := by decide +kernel
  simp only [eBin, eThen, var_at (μ := μ) v, e2, neD, eqP, mut_py e, t2]
  rw [if_pos ⟨shp_strs h, t4⟩, t5]
def Nm (w : Str) : Prop := w.length ≤ 8 ∧ ∀ c ∈ w.cps.toList, c < 128
theorem Nm.gs {w : Str} (h : Nm w) : Gs w := ⟨by have := h.1; omega, h.2⟩
theorem alph_gd : ∀ c ∈ alphT.cps.toList, c < 128 ∧ c ≠ 37 := by decide +kernel
theorem alph_len : alphT.length = 26 := by decide +kernel
theorem cps_app (a c : Str) : (a ++ c).cps.toList = a.cps.toList ++ c.cps.toList := PyProof.Rows.cps_toList_append _ _
theorem nm_cut {s : Str} (h : ∀ c ∈ s.cps.toList, c < 128) (hi : Int) (h0 : 0 ≤ hi) (h8 : hi ≤ 8) : Nm (cutS s none (some hi)) := by
  have mm := cut_mem s none (some hi)
  refine ⟨?_, fun c hc => h c (mm.1 c hc)⟩
  rw [cut_len]
  simp only [HT.sIx, show ¬ hi < 0 by omega, if_false]
  omega
def cand (w : Str) (c : Nat) : Str := cutS w none (some 7) ++ (⟨#[c]⟩ : Str)
theorem cand_cps (w : Str) (c : Nat) : (cand w c).cps.toList = (cutS w none (some 7)).cps.toList ++ [c] := by
  unfold cand
  rw [cps_app]
theorem sg_len (c : Nat) : (⟨#[c]⟩ : Str).length = 1 := rfl
theorem cand_nm {w : Str} (h : Nm w) {c : Nat} (hc : c < 128) : Nm (cand w c) := by
  have n7 : (cutS w none (some 7)).length ≤ 7 := by
    rw [cut_len]
    simp only [HT.sIx, show ¬ (7 : Int) < 0 by decide, if_false]
    omega
  refine ⟨?_, fun z hz => ?_⟩
  · unfold cand
    rw [strLen_append, sg_len]
    omega
  · rw [cand_cps] at hz
    rcases List.mem_append.mp hz with hz | hz
    · exact h.2 z ((cut_mem w none (some 7)).1 z hz)
    · simp at hz; omega
theorem cand_inj {w : Str} {c e : Nat} (h : cand w c = cand w e) : c = e := by
  have := congrArg (fun s : Str => s.cps.toList) h
  simp only [cand_cps, List.append_cancel_left_eq, List.cons.injEq, and_true] at this
  exact this
theorem lc_fm {i : Nat} {tt : TF} {te : EF} {δ : List SV} {μ : List MO} {p : D → Bool} {h : D → D} : ∀ {ds : List D}, (∀ d ∈ ds, tt (δ.set i (.d d)) μ = some (p d, μ)) → (∀ d ∈ ds, te (δ.set i (.d d)) μ = some (h d, μ)) → lcLoop (nmG i) tt te δ ds μ = some ((ds.filter p).map h, μ)
  | [], _, _ => rfl
  | d :: ds, q, q' => by
    have e := q d (List.mem_cons_self ..)
    have e' := q' d (List.mem_cons_self ..)
    have r := lc_fm (ds := ds) (fun x hx => q x (List.mem_cons_of_mem _ hx)) (fun x hx => q' x (List.mem_cons_of_mem _ hx))
    unfold lcLoop
    simp only [nmG, e]
    cases hp : p d with
    | false =>
      simp only
      rw [show lcLoop (nmG i) tt te δ ds μ = _ from r, List.filter_cons_of_neg (by simp [hp])]
    | true =>
      simp only [e']
      rw [show lcLoop (nmG i) tt te δ ds μ = _ from r, List.filter_cons_of_pos hp]
      rfl
def sgN : D → Nat
  | .str x => x.cps.getD 0 0
  | _ => 0
theorem sgN_sg (c : Nat) : sgN (sg c) = c := rfl
abbrev wordF : EF := eBin addD (eSlS (eVar 6) (pNo) (pSo (eC (.int 7)))) (eVar 7)
abbrev otherN : NF := nLc (iS (eVar 2)) (nmG 7) (asB (eBin ninD wordF (eVar 3))) wordF [7]
abbrev stemB : BF := bIf (tfAnd (asB (eBin neD (eVar 3) (eFrz (nLst (aNil))))) (asB (eBin eqD (eFn f__law_take [] (aCons (eVar 0) (aCons (eC (.int 3)) (aNil)))) (eC (.int 0))))) (bSet 5 (eSlS (eBin ixD (eVar 3) (eFn f__law_take [] (aCons (eVar 0) (aCons (eCall lenD (aCons (eVar 3) (aNil))) (aNil))))) (pNo) (pSo (eFn f__law_take [] (aCons (eVar 0) (aCons (eC (.int 8)) (aNil))))))) (bNil)
abbrev lettersF : EF := eMt "str" joinD (eC (.str "")) (aCons (eFrz (nLc (iR1 (aCons (eBin addD (eC (.int 1)) (eFn f__law_take [] (aCons (eVar 0) (aCons (eC (.int 8)) (aNil))))) (aNil))) (nmG 8) (tYesD) (eBin ixD (eVar 2) (eFn f__law_take [] (aCons (eVar 0) (aCons (eC (.int 26)) (aNil))))) [8])) (aNil))
end Law

set_option Elab.async false
set_option linter.all false
set_option autoImplicit false
set_option maxRecDepth 100000
set_option maxHeartbeats 4000000
namespace Law
open PySem PySem.Spec PySem.Calls L2 G GL
variable {b m d : Nat} {μ : List MO} {x : D}
/-! ### cards -/
structure Cd where
  key : Str
  num : Int
  bye : Str
  mks : Option (List Int)
deriving DecidableEq
def mkD : Option (List Int) → D
  | none => .non
  | some ms => .tup (ms.map D.int)
def Cd.dt (c : Cd) : D := .tup [.str c.key, .int c.num, .str c.bye, mkD c.mks]
def mkP : Option (List Int) → PyData
  | none => .none
  | some ms => .tuple (ms.map PyData.int)
def Cd.py (c : Cd) : PyData := .tuple [.str c.key, .int c.num, .str c.bye, mkP c.mks]
def NameS (s : Str) : Prop := nameB (.str s) = true
structure CdOk (c : Cd) : Prop where
  key : NameS c.key
  bye : NameS c.bye
  n1 : 1 ≤ c.num
  n2 : c.num ≤ 999999
  ml : (c.mks.getD []).length ≤ 8
  ma : ∀ i ∈ c.mks.getD [], markB (.int i) = true
theorem NameS.gs {s : Str} (h : NameS s) : Gs s := by
  simp only [NameS, nameB, Bool.and_eq_true, decide_eq_true_eq, List.all_eq_true, lowB] at h
  refine ⟨by omega, fun c hc => ?_⟩
  have := h.2 c hc
  omega
theorem mark_lt {i : Int} (h : markB (.int i) = true) : 0 ≤ i ∧ i < 64256 := by
  simp only [markB, Bool.and_eq_true, decide_eq_true_eq] at h
  exact h.1
theorem CdOk.mkTm {c : Cd} (h : CdOk c) : Tm b μ m 1 (mkD c.mks) := by
  cases hm : c.mks with
  | none => exact .inl .non
  | some ms =>
    have l := h.ml
    have a := h.ma
    rw [hm] at l a
    refine .inr (.inl ⟨_, rfl, by rw [List.length_map]; exact Nat.le_trans l (by decide), fun y hy => ?_⟩)
    obtain ⟨i, hi, rfl⟩ := List.mem_map.mp hy
    obtain ⟨z1, z2⟩ := mark_lt (a i hi)
    exact lfi (by omega)
theorem CdOk.tm {c : Cd} (h : CdOk c) : Tm b μ m 2 c.dt := by
  refine .inr (.inl ⟨_, rfl, by simp, fun y hy => ?_⟩)
  simp only [List.mem_cons, List.mem_nil_iff, or_false] at hy
  rcases hy with rfl | rfl | rfl | rfl
  · exact .inl (.str h.key.gs)
  · exact .inl (lfi (by have := h.n1; have := h.n2; omega))
  · exact .inl (.str h.bye.gs)
  · exact h.mkTm
theorem CdOk.th {c : Cd} (h : CdOk c) : Th b μ m c.dt := .inl h.tm
theorem CdOk.cardB {c : Cd} (h : CdOk c) : cardB c.dt = true := by
  have t : marksB (mkD c.mks) = true := by
    cases hm : c.mks with
    | none => rfl
    | some ms =>
      have l := h.ml
      have a := h.ma
      rw [hm] at l a
      simp only [mkD, marksB, List.length_map, Bool.and_eq_true, decide_eq_true_eq, List.all_eq_true]
      refine ⟨l, fun y hy => ?_⟩
      obtain ⟨i, hi, rfl⟩ := List.mem_map.mp hy
      exact a i hi
  have n : wholeB 1 999999 (.int c.num) = true := by
    simp only [wholeB, Bool.and_eq_true, decide_eq_true_eq]
    exact ⟨h.n1, h.n2⟩
  simp only [Cd.dt, Law.cardB, Bool.and_eq_true]
  exact ⟨h.key, n, h.bye, t⟩
theorem ints_py (μ : List MO) (n : Nat) : ∀ ms : List Int, toPyL (toPy μ (n + 1)) (ms.map D.int) = some (ms.map PyData.int)
  | [] => rfl
  | i :: ms => by
    have r := ints_py μ n ms
    have e : toPy μ (n + 1) (.int i) = some (.int i) := rfl
    simp [toPyL, e, r]
theorem mk_py (μ : List MO) (n : Nat) (k : Option (List Int)) : toPy μ (n + 2) (mkD k) = some (mkP k) := by
  cases k with
  | none => rfl
  | some ms =>
    show (toPyL (toPy μ (n + 1)) (ms.map D.int)).map PyData.tuple = _
    rw [ints_py]
    rfl
theorem card_py (μ : List MO) (n : Nat) (c : Cd) : toPy μ (n + 3) c.dt = some c.py := by
  have e4 := mk_py μ n c.mks
  have e1 : toPy μ (n + 2) (.str c.key) = some (.str c.key) := rfl
  have e2 : toPy μ (n + 2) (.int c.num) = some (.int c.num) := rfl
  have e3 : toPy μ (n + 2) (.str c.bye) = some (.str c.bye) := rfl
  show (toPyL (toPy μ (n + 2)) [.str c.key, .int c.num, .str c.bye, mkD c.mks]).map PyData.tuple = _
  simp [toPyL, e1, e2, e3, e4, Cd.py]
theorem cards_py (μ : List MO) (n : Nat) : ∀ cs : List Cd, toPyL (toPy μ (n + 3)) (cs.map Cd.dt) = some (cs.map Cd.py)
  | [] => rfl
  | c :: cs => by
    have r := cards_py μ n cs
    simp [toPyL, card_py, r]
/-! ### equal cards -/
theorem eqv_ints : ∀ xs ys : List Int, PyData.eqvAll (xs.map PyData.int) (ys.map PyData.int) = decide (xs = ys)
  | [], [] => by simp [PyData.eqvAll]
  | [], y :: ys => by simp [PyData.eqvAll]
  | x :: xs, [] => by simp [PyData.eqvAll]
  | x :: xs, y :: ys => by
    have r := eqv_ints xs ys
    simp only [List.map_cons, PyData.eqvAll, r, PyData.eqv]
    rw [Bool.eq_iff_iff]
    simp only [Bool.and_eq_true, beq_iff_eq, decide_eq_true_eq, List.cons.injEq]
theorem eqv_mk (k l : Option (List Int)) : PyData.eqv (mkP k) (mkP l) = decide (k = l) := by
  cases k <;> cases l
  · simp [mkP, PyData.eqv]
  · simp [mkP, PyData.eqv]
  · simp [mkP, PyData.eqv]
  · rename_i xs ys
    have q : PyData.eqv (mkP (some xs)) (mkP (some ys)) = PyData.eqvAll (xs.map PyData.int) (ys.map PyData.int) := by
      show PyData.eqv (.tuple _) (.tuple _) = _
      rw [PyData.eqv]
    rw [q, eqv_ints]
    exact decide_eq_decide.mpr ⟨fun h => h ▸ rfl, fun h => Option.some.inj h⟩
theorem eqv_s (u w : Str) : PyData.eqv (.str u) (.str w) = decide (u = w) := by
  have q : PyData.eqv (.str u) (.str w) = (u == w) := by simp [PyData.eqv]
  rw [q, Bool.eq_iff_iff, beq_iff_eq, decide_eq_true_eq]
theorem eqv_i (i j : Int) : PyData.eqv (.int i) (.int j) = decide (i = j) := by
  have q : PyData.eqv (.int i) (.int j) = (i == j) := by simp [PyData.eqv]
  rw [q, Bool.eq_iff_iff, beq_iff_eq, decide_eq_true_eq]
theorem eqv_card (a c : Cd) : PyData.eqv a.py c.py = decide (a = c) := by
  have q : PyData.eqv a.py c.py = (PyData.eqv (.str a.key) (.str c.key) && (PyData.eqv (.int a.num) (.int c.num) && (PyData.eqv (.str a.bye) (.str c.bye) && PyData.eqv (mkP a.mks) (mkP c.mks)))) := by
    simp only [Cd.py, PyData.eqv, PyData.eqvAll, Bool.and_true]
  rw [q, eqv_s, eqv_i, eqv_s, eqv_mk, Bool.eq_iff_iff]
  simp only [Bool.and_eq_true, decide_eq_true_eq]
  constructor
  · rintro ⟨h1, h2, h3, h4⟩
    cases a; cases c
    simp_all
  · rintro rfl
    exact ⟨rfl, rfl, rfl, rfl⟩
theorem ints_lay : ∀ ms : List Int, PyData.canLayAll0 (ms.map PyData.int) = true
  | [] => rfl
  | i :: ms => by
    simp only [List.map_cons, PyData.canLayAll0, PyData.canLay0, ints_lay ms, Bool.and_self]
theorem ints_dep : ∀ ms : List Int, PyData.depthAll (ms.map PyData.int) = 0
  | [] => rfl
  | i :: ms => by simp [PyData.depthAll, PyData.depth, ints_dep ms]
theorem mk_lay (k : Option (List Int)) : PyData.canLay0 (mkP k) = true := by
  cases k with
  | none => rfl
  | some ms => simp only [mkP, PyData.canLay0, ints_lay]
theorem mk_dep (k : Option (List Int)) : (mkP k).depth ≤ 1 := by
  cases k with
  | none => simp [mkP, PyData.depth]
  | some ms => simp [mkP, PyData.depth, ints_dep]
theorem card_lay {c : Cd} (h : CdOk c) : PyData.canLay0 c.py = true := by
  simp only [Cd.py, PyData.canLay0, PyData.canLayAll0, mk_lay, Bool.and_true]
  have h1 := str_lay h.key.gs
  have h2 := str_lay h.bye.gs
  simp only [PyData.canLay0] at h1 h2
  simp [h1, h2]
theorem card_dep (c : Cd) : c.py.depth ≤ 2 := by
  have := mk_dep c.mks
  simp only [Cd.py, PyData.depth, PyData.depthAll]
  omega
theorem shp_card {c : Cd} (h : CdOk c) : shp c.py = true := by
  have h1 := card_lay h
  have h2 := card_dep c
  simp only [shp, SeqAt.shaped, h1, Bool.true_and, decide_eq_true_eq]
  omega
theorem ne_cards {fa fb : EF} {δ : List SV} {μ1 μ2 : List MO} {a c : Cd} (h1 : fa δ μ = some (a.dt, μ1)) (h2 : fb δ μ1 = some (c.dt, μ2)) (ha : CdOk a) (hc : CdOk c) : eBin neD fa fb δ μ = some (.bl (!decide (a = c)), μ2) := by
  refine bin_at h1 h2 ?_
  have e : neD a.dt c.dt μ2 = (match eqP a.dt c.dt μ2 with | some b => some (.bl (!b), μ2) | none => none) := rfl
  rw [e]
  have q : eqP a.dt c.dt μ2 = some (decide (a = c)) := by
    simp only [eqP, card_py μ2 13]
    rw [if_pos ⟨shp_card ha, shp_card hc⟩, eqv_card]
  rw [q]
/-! ### the order -/
def rankP (c : Cd) : PyData := .tuple [.int c.num, .str c.bye, .bool c.mks.isSome, .tuple ((c.mks.getD []).map PyData.int)]
def rankD (c : Cd) : D := .tup [.int c.num, .str c.bye, .bl c.mks.isSome, .tup ((c.mks.getD []).map D.int)]
def ahd (a c : Cd) : Bool := PySem.W.dataLt (rankP a) (rankP c)
theorem alike_ints : ∀ xs ys : List Int, PySem.W.alikeAll (xs.map PyData.int) (ys.map PyData.int) = true
  | [], _ => by simp [PySem.W.alikeAll]
  | x :: xs, [] => by simp [PySem.W.alikeAll]
  | x :: xs, y :: ys => by
    rw [List.map_cons, List.map_cons, PySem.W.alikeAll, alike_ints xs ys]
    rfl
theorem alike_rank (a c : Cd) : PySem.W.alike (rankP a) (rankP c) = true := by
  simp only [rankP, PySem.W.alike, PySem.W.alikeAll, alike_ints, Bool.and_self]
theorem toks_ints : ∀ xs ys : List Int, PySem.W.keyToksAll (xs.map PyData.int) = PySem.W.keyToksAll (ys.map PyData.int) → xs = ys
  | [], [], _ => rfl
  | [], y :: ys, h => by simp [PySem.W.keyToksAll] at h
  | x :: xs, [], h => by simp [PySem.W.keyToksAll] at h
  | x :: xs, y :: ys, h => by
    simp only [List.map_cons, PySem.W.keyToksAll, PySem.W.keyToks, List.cons_append, List.nil_append, List.cons.injEq, Sum.inl.injEq, true_and] at h
    rw [h.1, toks_ints xs ys h.2]
def tok (c : Cd) : List (Int ⊕ List Nat) := PySem.W.keyToks (rankP c)
theorem ahd_tok (a c : Cd) : ahd a c = PyProof.Rows.lexLt PyProof.Rows.itemOrd (tok a) (tok c) := rfl
theorem tok_inj {a c : Cd} (hk : a.key = c.key) (h : tok a = tok c) : a = c := by
  simp only [tok, rankP, PySem.W.keyToks, PySem.W.keyToksAll, List.cons_append, List.nil_append, List.cons.injEq, Sum.inl.injEq, Sum.inr.injEq, true_and] at h
  obtain ⟨h1, h2, h3, h4⟩ := h
  have hb : a.bye = c.bye := PySem.W.str_of_cps h2
  have hs : a.mks.isSome = c.mks.isSome := by
    cases ha : a.mks.isSome <;> cases hc : c.mks.isSome <;> rw [ha, hc] at h3 <;> simp_all
  have hm : a.mks = c.mks := by
    have h5 : PySem.W.keyToksAll ((a.mks.getD []).map PyData.int) = PySem.W.keyToksAll ((c.mks.getD []).map PyData.int) := by
      have := List.append_cancel_right h4
      exact this
    have h6 := toks_ints _ _ h5
    cases ha : a.mks <;> cases hc : c.mks <;> rw [ha, hc] at hs h6 <;> simp_all
  cases a; cases c
  simp_all
theorem ahd_irr (a : Cd) : ahd a a = false := by
  rw [ahd_tok]
  exact PyProof.Rows.lex_irrefl _
theorem ahd_trans {a c e : Cd} (h : ahd a c = true) (h2 : ahd c e = true) : ahd a e = true := PyProof.Rows.lex_trans _ _ _ h h2
theorem ahd_total {a c : Cd} (hk : a.key = c.key) (h : ahd a c = false) (h2 : ahd c a = false) : a = c := tok_inj hk (PyProof.Rows.lex_total _ _ h h2)
theorem ahd_asym {a c : Cd} (h : ahd a c = true) : ahd c a = false := by
  cases q : ahd c a with
  | false => rfl
  | true =>
    have := ahd_trans h q
    rw [ahd_irr] at this
    cases this
/-- the order by parts -/
theorem ahd_num {a c : Cd} (h : a.num ≠ c.num) : ahd a c = decide (a.num < c.num) := by
  unfold ahd rankP
  rw [PySem.W.dataLt_tuple, PySem.W.dataLt_all_no rfl (by rw [eqv_i]; exact decide_eq_false h), PySem.W.dataLt_int]
theorem ahd_bye {a c : Cd} (h : a.num = c.num) (h2 : a.bye ≠ c.bye) : ahd a c = decide (a.bye.cps.toList < c.bye.cps.toList) := by
  unfold ahd rankP
  rw [PySem.W.dataLt_tuple, PySem.W.dataLt_all_yes rfl (by rw [eqv_i]; exact decide_eq_true h), PySem.W.dataLt_all_no rfl (by rw [eqv_s]; exact decide_eq_false h2), PySem.W.dataLt_str]
theorem ahd_mk {a c : Cd} (h : a.num = c.num) (h2 : a.bye = c.bye) : ahd a c = (match a.mks, c.mks with
    | none, none => false
    | none, some _ => true
    | some _, none => false
    | some x, some y => PySem.W.dataLt (.tuple (x.map PyData.int)) (.tuple (y.map PyData.int))) := by
  unfold ahd rankP
  rw [PySem.W.dataLt_tuple, PySem.W.dataLt_all_yes rfl (by rw [eqv_i]; exact decide_eq_true h), PySem.W.dataLt_all_yes rfl (by rw [eqv_s]; exact decide_eq_true h2)]
  have eb : ∀ p q : Bool, PyData.eqv (.bool p) (.bool q) = (p == q) := fun p q => by cases p <;> cases q <;> decide +kernel
  cases ha : a.mks <;> cases hc : c.mks
  · rw [PySem.W.dataLt_all_yes rfl (by rw [eb]; rfl)]
    exact PyProof.Rows.lex_irrefl _
  · rw [PySem.W.dataLt_all_no rfl (by rw [eb]; rfl), PySem.W.dataLt_bool]
    exact (by decide : decide (PyProof.Rows.b2i false < PyProof.Rows.b2i true) = true)
  · rw [PySem.W.dataLt_all_no rfl (by rw [eb]; rfl), PySem.W.dataLt_bool]
    exact (by decide : decide (PyProof.Rows.b2i true < PyProof.Rows.b2i false) = false)
  · rename_i x y
    rw [PySem.W.dataLt_all_yes rfl (by rw [eb]; rfl)]
    have al : PySem.W.alike (.tuple (x.map PyData.int)) (.tuple (y.map PyData.int)) = true := alike_ints x y
    simp only [Option.getD_some]
    cases q : PyData.eqv (.tuple (x.map PyData.int)) (.tuple (y.map PyData.int)) with
    | true =>
      rw [PySem.W.dataLt_all_yes al q]
      have e : x = y := by
        have : PyData.eqvAll (x.map PyData.int) (y.map PyData.int) = true := by simpa only [PyData.eqv] using q
        rw [eqv_ints] at this
        exact of_decide_eq_true this
      subst e
      rw [PySem.W.dataLt_tuple]
      exact (PyProof.Rows.lex_irrefl _).trans (PyProof.Rows.lex_irrefl _).symm
    | false => rw [PySem.W.dataLt_all_no al q]
end Law

set_option Elab.async false
set_option linter.all false
set_option autoImplicit false
set_option maxRecDepth 100000
set_option maxHeartbeats 4000000
namespace Law
open PySem PySem.Spec PySem.Calls L2 G GL
variable {b m : Nat} {μ : List MO} {x y : D}
/-! ### rank and order, read -/
theorem ix4d {c : Cd} (j : Nat) (hj : j < 4) (μ : List MO) : ixD c.dt (.int (j : Nat)) μ = some ([D.str c.key, .int c.num, .str c.bye, mkD c.mks].getD j .non, μ) := ix4 j hj μ
theorem rank_ok (c : Cd) (μ : List MO) : f_rank [c.dt] μ = some (rankD c, μ) := by
  let δ1 : List SV := [.d c.dt, .d (.str c.key), .d (.int c.num), .d (.str c.bye), .d (mkD c.mks)]
  have ag : bAsg (eVar 0) (tupG 4 (consG (nmG 1) (consG (nmG 2) (consG (nmG 3) (consG (nmG 4) (nilG)))))) (startD 5 [c.dt]) μ = some (.nx δ1 μ) := rfl
  have v4 : eVar 4 δ1 μ = some (mkD c.mks, μ) := rfl
  have i4 : eNotN (eVar 4) δ1 μ = some (.bl c.mks.isSome, μ) := by
    cases h : c.mks with
    | none => rw [h] at v4; exact notN_non v4
    | some ms => rw [h] at v4; exact notN_no v4 (fun z => nomatch z)
  have o4 : eOrT (eVar 4) (eTup aNil) δ1 μ = some (.tup ((c.mks.getD []).map D.int), μ) := by
    have z : eTup aNil δ1 μ = some (.tup [], μ) := rfl
    cases h : c.mks with
    | none => rw [h] at v4; simp [eOrT, eThen, v4, mkD, truD, z]
    | some ms =>
      rw [h] at v4
      cases ms with
      | nil => simp [eOrT, eThen, v4, mkD, truD, z]
      | cons i is => simp [eOrT, eThen, v4, mkD, truD]
  refine run_of ((then_nx ag).trans (ret_eq ?_))
  exact tup4 (f1 := eVar 2) (f2 := eVar 3) (k := .int c.num) (n := .str c.bye) rfl rfl i4 o4
theorem tup4' : True := trivial
theorem rank_py (c : Cd) (μ : List MO) : toPy μ DEEP (rankD c) = some (rankP c) := by
  have e1 : toPy μ 15 (.int c.num) = some (.int c.num) := rfl
  have e2 : toPy μ 15 (.str c.bye) = some (.str c.bye) := rfl
  have e3 : toPy μ 15 (.bl c.mks.isSome) = some (.bool c.mks.isSome) := rfl
  have e4 : toPy μ 15 (.tup ((c.mks.getD []).map D.int)) = some (.tuple ((c.mks.getD []).map PyData.int)) := by
    show (toPyL (toPy μ 14) _).map PyData.tuple = _
    rw [ints_py]; rfl
  show (toPyL (toPy μ 15) [.int c.num, .str c.bye, .bl c.mks.isSome, .tup ((c.mks.getD []).map D.int)]).map PyData.tuple = _
  simp [toPyL, e1, e2, e3, e4, rankP]
theorem rank_dep (c : Cd) : (rankP c).depth ≤ 60 := by
  simp only [rankP, PyData.depth, PyData.depthAll, ints_dep]
  omega
theorem ltT_at {fa fb : EF} {δ : List SV} {μ1 μ2 : List MO} {u v : D} {p : List PyData} {q : PyData} (h1 : fa δ μ = some (u, μ1)) (h2 : fb δ μ1 = some (v, μ2)) (e1 : toPy μ2 DEEP u = some (.tuple p)) (e2 : toPy μ2 DEEP v = some q) (ha : PySem.W.alike (.tuple p) q = true) (hd : (PyData.tuple p).depth ≤ 60) : eBin ltT fa fb δ μ = some (.bl (PySem.W.dataLt (.tuple p) q), μ2) := by
  refine bin_at h1 h2 ?_
  simp only [ltT, e1, e2]
  rw [if_pos ⟨ha, hd⟩]
theorem rank_lt {fa fb : EF} {δ : List SV} {a c : Cd} (h1 : fa δ μ = some (a.dt, μ)) (h2 : fb δ μ = some (c.dt, μ)) : eBin ltT (eFn f_rank [] (aCons fa aNil)) (eFn f_rank [] (aCons fb aNil)) δ μ = some (.bl (ahd a c), μ) :=
  ltT_at (fnE (aC h1 (a_nil _ _)) (rank_ok a μ)) (fnE (aC h2 (a_nil _ _)) (rank_ok c μ)) (rank_py a μ) (rank_py c μ) (alike_rank a c) (rank_dep a)
/-- what is wrong among cards of a key -/
def Wr (key : Str) (y : D) (C : Nat) (t : Str) : Prop := (cardB y = false ∧ C = 2 ∧ t = "no card") ∨ ∃ e : Cd, y = e.dt ∧ CdOk e ∧ e.key ≠ key ∧ C = 3 ∧ t = "unlike"
theorem need_yes {c : Cd} (h : CdOk c) (μ : List MO) : fx_need_card [c.dt] μ = some (.ok .non μ) := by
  have := need_card_ok (b := 0) (m := 0) (μ := μ) h.th
  rwa [if_pos h.cardB] at this
theorem need_no (h : Th b μ m y) (hb : cardB y = false) : fx_need_card [y] μ = some (.ex 2 "found" "no card" y μ) := by
  have := need_card_ok h
  rwa [if_neg (by rw [hb]; decide)] at this
theorem ahead_bad (h : Th b μ m x) (hb : cardB x = false) (y : D) : fx_is_ahead [x, y] μ = some (.ex 2 "found" "no card" x μ) :=
  runX_xc (then_xc (callX_ex (a1 (i := 0) (x := x) rfl) (need_no h hb)))
theorem ahead_key {a c : Cd} (ha : CdOk a) (hc : CdOk c) (μ : List MO) : eBin neD (eBin ixD (eVar 1) (eC (.int 0))) (eBin ixD (eVar 0) (eC (.int 0))) (startD 2 [a.dt, c.dt]) μ = some (.bl (!decide (c.key = a.key)), μ) :=
  ne_str (ixe (x := c.dt) (var_at rfl) (fy := eC (.int 0)) rfl (ix4d 0 (by decide) μ)) (ixe (x := a.dt) (var_at rfl) (fy := eC (.int 0)) rfl (ix4d 0 (by decide) μ))
theorem ahead_wr {c : Cd} (hc : CdOk c) (hy : Th b μ m y) {C : Nat} {t : Str} (w : Wr c.key y C t) : fx_is_ahead [c.dt, y] μ = some (.ex C "found" t y μ) := by
  have c0 : bCallX fx_need_card (aCons (eVar 0) (aNil)) (startD 2 [c.dt, y]) μ = some (.nx _ μ) := callX_ok (a1 (x := c.dt) rfl) (need_yes hc μ)
  rcases w with ⟨hb, rfl, rfl⟩ | ⟨e, rfl, he, hk, rfl, rfl⟩
  · exact runX_xc ((then_nx c0).trans (then_xc (callX_ex (a1 (i := 1) (x := y) rfl) (need_no hy hb))))
  · have c1 : bCallX fx_need_card (aCons (eVar 1) (aNil)) (startD 2 [c.dt, e.dt]) μ = some (.nx _ μ) := callX_ok (a1 (x := e.dt) rfl) (need_yes he μ)
    have T := asB_eq (ahead_key hc he μ)
    rw [decide_eq_false hk] at T
    exact runX_xc ((then_nx c0).trans ((then_nx c1).trans (then_xc (if_xc T rfl (raise_at (x := e.dt) rfl)))))
theorem ahead_ok {a c : Cd} (ha : CdOk a) (hc : CdOk c) (hk : c.key = a.key) (μ : List MO) : fx_is_ahead [a.dt, c.dt] μ = some (.ok (.bl (ahd a c)) μ) := by
  have c0 : bCallX fx_need_card (aCons (eVar 0) (aNil)) (startD 2 [a.dt, c.dt]) μ = some (.nx _ μ) := callX_ok (a1 (x := a.dt) rfl) (need_yes ha μ)
  have c1 : bCallX fx_need_card (aCons (eVar 1) (aNil)) (startD 2 [a.dt, c.dt]) μ = some (.nx _ μ) := callX_ok (a1 (x := c.dt) rfl) (need_yes hc μ)
  have T := asB_eq (ahead_key ha hc μ)
  rw [decide_eq_true hk] at T
  refine runX_rt ((then_nx c0).trans ((then_nx c1).trans ((then_nx (if_nx T)).trans ?_)))
  exact ret_eq (rank_lt (var_at (x := a.dt) rfl) (var_at (x := c.dt) rfl))
/-! ### the greater one -/
def gr (a c : Cd) : Cd := if ahd a c = true then c else a
abbrev grF : EF := eIf (asB (eFnX fx_is_ahead (aCons (eVar 0) (aCons (eVar 1) (aNil))))) (eVar 1) (eVar 0)
theorem greater_ok {a c : Cd} (ha : CdOk a) (hc : CdOk c) (hk : c.key = a.key) (μ : List MO) : fx_greater [a.dt, c.dt] μ = some (.ok (gr a c).dt μ) := by
  let δ := startD 2 [a.dt, c.dt]
  have T : asB (eFnX fx_is_ahead (aCons (eVar 0) (aCons (eVar 1) (aNil)))) δ μ = some (ahd a c, μ) := asB_eq (fnX (aC (var_at (x := a.dt) rfl) (a1 (x := c.dt) rfl)) (ahead_ok ha hc hk μ))
  have F : grF δ μ = some ((gr a c).dt, μ) := by
    unfold gr
    cases q : ahd a c with
    | true => rw [q] at T; exact if_t T rfl
    | false => rw [q] at T; exact if_f T rfl
  refine runX_rt ?_
  show bRetG (gTry grF _) δ μ = _
  simp only [bRetG, gTry, F]
theorem greater_ex {u v y : D} {C : Nat} {t : Str} (e : fx_is_ahead [u, v] μ = some (.ex C "found" t y μ)) : fx_greater [u, v] μ = some (.ex C "found" t y μ) := by
  let δ := startD 2 [u, v]
  have ar : aCons (eVar 0) (aCons (eVar 1) (aNil)) δ μ = some ([u, v], μ) := aC (var_at (x := u) rfl) (a1 (x := v) rfl)
  have F0 : eFnX fx_is_ahead (aCons (eVar 0) (aCons (eVar 1) (aNil))) δ μ = none := by simp only [eFnX, aThen, ar, e]
  have F1 : asB (eFnX fx_is_ahead (aCons (eVar 0) (aCons (eVar 1) (aNil)))) δ μ = none := by simp only [asB, F0]
  have F : grF δ μ = none := by simp only [grF, eIf, tThen, F1]
  have R : rCall fx_is_ahead (aCons (eVar 0) (aCons (eVar 1) (aNil))) δ μ = some (C, ("found" : Str), t, y, μ) := by simp only [rCall, ar, e]
  refine runX_xc (δ := δ) ?_
  show bRetG (gTry grF (rCall fx_is_ahead (aCons (eVar 0) (aCons (eVar 1) (aNil))))) δ μ = _
  simp only [bRetG, gTry, F, R]
/-! ### the greatest one -/
def mx (c : Cd) (cs : List Cd) : Cd := cs.foldl gr c
theorem gr_mem (a c : Cd) : gr a c = a ∨ gr a c = c := by
  unfold gr
  split
  · exact .inr rfl
  · exact .inl rfl
theorem gr_self (a : Cd) : gr a a = a := by
  unfold gr
  rw [ahd_irr]
  rfl
theorem mx_mem : ∀ (cs : List Cd) (c : Cd), mx c cs = c ∨ mx c cs ∈ cs
  | [], c => .inl rfl
  | e :: cs, c => by
    show mx (gr c e) cs = c ∨ mx (gr c e) cs ∈ e :: cs
    rcases mx_mem cs (gr c e) with h | h
    · rw [h]
      rcases gr_mem c e with q | q
      · exact .inl q
      · rw [q]; exact .inr (List.mem_cons_self ..)
    · exact .inr (List.mem_cons_of_mem _ h)
theorem gr_not1 (a c : Cd) : ahd (gr a c) a = false := by
  unfold gr
  cases q : ahd a c with
  | true => rw [if_pos rfl]; exact ahd_asym q
  | false => rw [if_neg Bool.false_ne_true]; exact ahd_irr a
theorem gr_not2 (a c : Cd) : ahd (gr a c) c = false := by
  unfold gr
  cases q : ahd a c with
  | true => rw [if_pos rfl]; exact ahd_irr c
  | false => rw [if_neg Bool.false_ne_true]; exact q
/-- not ahead goes on -/
theorem not_trans {a c e : Cd} (h : ahd a c = false) (h2 : ahd c e = false) : ahd a e = false := by
  cases q : ahd a e with
  | false => rfl
  | true =>
    rcases PyProof.Rows.lex_negTrans (O := PyProof.Rows.itemOrd) (tok a) (tok c) (tok e) q with z | z
    · rw [ahd_tok] at h; rw [h] at z; cases z
    · rw [ahd_tok] at h2; rw [h2] at z; cases z
theorem mx_not : ∀ (cs : List Cd) (c : Cd), ahd (mx c cs) c = false ∧ ∀ e ∈ cs, ahd (mx c cs) e = false
  | [], c => ⟨ahd_irr c, fun e he => nomatch he⟩
  | e :: cs, c => by
    show ahd (mx (gr c e) cs) c = false ∧ _
    obtain ⟨h1, h2⟩ := mx_not cs (gr c e)
    refine ⟨not_trans h1 (gr_not1 c e), fun u hu => ?_⟩
    show ahd (mx (gr c e) cs) u = false
    rcases List.mem_cons.mp hu with rfl | hu
    · exact not_trans h1 (gr_not2 c u)
    · exact h2 u hu
theorem mx_uniq {c e : Cd} {cs es : List Cd} (key : Str) (hc : ∀ u ∈ c :: cs, u.key = key) (h : ∀ u, u ∈ c :: cs ↔ u ∈ e :: es) : mx c cs = mx e es := by
  have m1 : mx c cs ∈ c :: cs := by
    rcases mx_mem cs c with h | h
    · rw [h]; exact List.mem_cons_self ..
    · exact List.mem_cons_of_mem _ h
  have m2 : mx e es ∈ e :: es := by
    rcases mx_mem es e with h | h
    · rw [h]; exact List.mem_cons_self ..
    · exact List.mem_cons_of_mem _ h
  have n1 : ∀ u ∈ c :: cs, ahd (mx c cs) u = false := fun u hu => by
    rcases List.mem_cons.mp hu with rfl | hu
    · exact (mx_not cs _).1
    · exact (mx_not cs _).2 u hu
  have n2 : ∀ u ∈ e :: es, ahd (mx e es) u = false := fun u hu => by
    rcases List.mem_cons.mp hu with rfl | hu
    · exact (mx_not es _).1
    · exact (mx_not es _).2 u hu
  exact ahd_total ((hc _ m1).trans (hc _ ((h _).mpr m2)).symm) (n1 _ ((h _).mpr m2)) (n2 _ ((h _).mp m1))
/-- a list or a tuple as it stands -/
structure Sq (μ : List MO) (x : D) (ys : List D) (P : List MO → Prop) : Prop where
  src : ∃ t, srcD μ x = some (t, ys, P)
  now : P μ
  seq : ∃ sk, seqD μ x = some (sk, ys)
  isl : isiG [x, .tup [.ty "list", .ty "tuple"]] μ = some (.bl true, μ)
theorem kitLT : kitAnyB "list" ["list", "tuple"] = some true ∧ kitAnyB "tuple" ["list", "tuple"] = some true := by decide +kernel
theorem isi_lt {n : String} (h : typeD μ x = some n) (hn : kitAnyB n ["list", "tuple"] = some true) : isiG [x, .tup [.ty "list", .ty "tuple"]] μ = some (.bl true, μ) := by
  simp [isiG, isiP, h, tysD, hn]
theorem Sq.mut {k : Nat} {ys : List D} (e : μ[k]? = some (.lst ys)) : Sq μ (.mut k) ys (fun μ => μ[k]? = some (.lst ys)) :=
  ⟨⟨false, by simp only [srcD, e]⟩, e, ⟨.l, by simp only [seqD, e]⟩, isi_lt (n := "list") (by simp [typeD, e]) kitLT.1⟩
theorem Sq.lst (ys : List D) : Sq μ (.lst ys) ys (fun _ => True) := ⟨⟨false, rfl⟩, trivial, ⟨.l, rfl⟩, isi_lt (n := "list") rfl kitLT.1⟩
theorem Sq.tup (ys : List D) : Sq μ (.tup ys) ys (fun _ => True) := ⟨⟨true, rfl⟩, trivial, ⟨.t, rfl⟩, isi_lt (n := "tuple") rfl kitLT.2⟩
theorem len_seq {sk : SK} {xs : List D} (h : seqD μ x = some (sk, xs)) : lenD [x] μ = some (.int xs.length, μ) := by
  cases x with
  | lst _ => cases h; rfl
  | tup _ => cases h; rfl
  | «mut» k =>
    unfold seqD at h
    dsimp only at h
    split at h
    · rename_i ds e
      cases h
      simp [lenD, seqD, e]
    · cases h
  | _ => cases h
theorem ix_seq {sk : SK} {xs : List D} {j : Nat} {y : D} (h : seqD μ x = some (sk, xs)) (hj : xs[j]? = some y) : ixD x (.int (j : Nat)) μ = some (y, μ) := by
  have lt := (List.getElem?_eq_some_iff.mp hj).1
  have a : L2.atI xs (j : Nat) = some y := by
    have z : ((j : Nat) : Int) < xs.length := by omega
    simp [L2.atI, L2.ixN, z, hj]
  cases x with
  | lst _ => cases h; simp only [ixD, seqD, a]
  | tup _ => cases h; simp only [ixD, seqD, a]
  | «mut» k => simp only [ixD, h, a]
  | _ => cases h
theorem is_list_yes {ys : List D} {P : List MO → Prop} (h : Sq μ x ys P) : f_is_list [x] μ = some (.bl true, μ) := by
  refine run_ret (callE (aC (var_at (x := x) rfl) (aC (x := .tup [.ty "list", .ty "tuple"]) (μ1 := μ) ?_ (a_nil _ _))) h.isl)
  simp [eTup, aCons, aNil, eThen, eC]
abbrev bestB : BF := bSetX 1 fx_greater (aCons (eVar 1) (aCons (eVar 2) (aNil)))
theorem forP_cons {P : List MO → Prop} {i : Nat} {body : BF} {y : D} {ys : List D} {δ δ1 : List SV} {μ1 : List MO} (hP : P μ) (h : body (δ.set i (.d y)) μ = some (.nx δ1 μ1)) : forLoopP P (nmG i) body (y :: ys) δ μ = forLoopP P (nmG i) body ys δ1 μ1 := by
  conv => lhs; unfold forLoopP
  rw [if_pos hP]
  simp only [nmG, h]
theorem forP_xc {P : List MO → Prop} {i : Nat} {body : BF} {y : D} {ys : List D} {δ δ1 : List SV} {μ1 : List MO} {C : Nat} {f t : Str} {d : D} (hP : P μ) (h : body (δ.set i (.d y)) μ = some (.xc C f t d δ1 μ1)) : forLoopP P (nmG i) body (y :: ys) δ μ = some (.xc C f t d δ1 μ1) := by
  unfold forLoopP
  rw [if_pos hP]
  simp only [nmG, h]
theorem forP_rt {P : List MO → Prop} {i : Nat} {body : BF} {y d : D} {ys : List D} {δ : List SV} {μ1 : List MO} (hP : P μ) (h : body (δ.set i (.d y)) μ = some (.rt d μ1)) : forLoopP P (nmG i) body (y :: ys) δ μ = some (.rt d μ1) := by
  unfold forLoopP
  rw [if_pos hP]
  simp only [nmG, h]
theorem forP_nil {P : List MO → Prop} {i : Nat} {body : BF} {δ : List SV} (hP : P μ) : forLoopP P (nmG i) body [] δ μ = some (.nx δ μ) := by
  unfold forLoopP
  rw [if_pos hP]
theorem best_step {a c : Cd} {δ : List SV} (ha : CdOk a) (hc : CdOk c) (hk : c.key = a.key) (h1 : δ[1]? = some (.d a.dt)) (hl : δ.length = 3) : bestB (δ.set 2 (.d c.dt)) μ = some (.nx ((δ.set 2 (.d c.dt)).set 1 (.d (gr a c).dt)) μ) := by
  have g1 : (δ.set 2 (.d c.dt))[1]? = some (.d a.dt) := get_ne h1 (by decide)
  have g2 : (δ.set 2 (.d c.dt))[2]? = some (.d c.dt) := get_set (by omega)
  simp only [bestB, bSetX, aC (var_at (μ := μ) g1) (a1 g2), greater_ok ha hc hk μ]
theorem best_loop {P : List MO → Prop} (hP : P μ) (key : Str) : ∀ (cs : List Cd) (ys : List D) (a : Cd) (δ : List SV), (∀ c ∈ cs, CdOk c ∧ c.key = key) → CdOk a → a.key = key → δ[1]? = some (.d a.dt) → δ.length = 3 → ∃ δ', forLoopP P (nmG 2) bestB (cs.map Cd.dt ++ ys) δ μ = forLoopP P (nmG 2) bestB ys δ' μ ∧ δ'[1]? = some (.d (mx a cs).dt) ∧ δ'.length = 3 ∧ CdOk (mx a cs) ∧ (mx a cs).key = key
  | [], ys, a, δ, _, ha, hk, h1, hl => ⟨δ, rfl, h1, hl, ha, hk⟩
  | c :: cs, ys, a, δ, h, ha, hk, h1, hl => by
    obtain ⟨hc, kc⟩ := h c (List.mem_cons_self ..)
    have s := best_step (μ := μ) ha hc (kc.trans hk.symm) h1 hl
    have gk : CdOk (gr a c) ∧ (gr a c).key = key := by
      rcases gr_mem a c with q | q <;> rw [q]
      · exact ⟨ha, hk⟩
      · exact ⟨hc, kc⟩
    obtain ⟨δ', e, r1, r2, r3, r4⟩ := best_loop hP key cs ys (gr a c) ((δ.set 2 (.d c.dt)).set 1 (.d (gr a c).dt)) (fun u hu => h u (List.mem_cons_of_mem _ hu)) gk.1 gk.2 (get_set (by simp [hl])) (by simp [hl])
    refine ⟨δ', ?_, r1, r2, r3, r4⟩
    rw [List.map_cons, List.cons_append, forP_cons hP s]
    exact e
theorem gt_head {ys : List D} {P : List MO → Prop} {y0 : D} {r : List D} (h : Sq μ x ys P) (hy : ys = y0 :: r) (hl : ys.length ≤ 100) {o : Option Out} (e : bThen (bForP (iAM (eVar 0)) (nmG 2) bestB) (bRet (eVar 1)) ((startD 3 [x]).set 1 (.d y0)) μ = o) : b_greatest (startD 3 [x]) μ = o := by
  let δ := startD 3 [x]
  obtain ⟨sk, hs⟩ := h.seq
  have A := not_eq (asB_eq (fn1 (i := 0) (x := x) (δ := δ) rfl (is_list_yes h)))
  have ln : eCall lenD (aCons (eVar 0) aNil) δ μ = some (.int ys.length, μ) := callE (a1 (x := x) rfl) (len_seq hs)
  have C := not_eq (asB_eq (ch_le 1 ys.length 100 (fa := eC (.int 1)) (fc := eC (.int 100)) rfl ln rfl))
  have l1 : 1 ≤ ys.length := by rw [hy]; simp
  rw [decide_eq_true (show (1 : Int) ≤ ys.length by omega), decide_eq_true (show (ys.length : Int) ≤ 100 by omega)] at C
  have T := or_eq A fun _ => C
  have i0 : eBin ixD (eVar 0) (eC (.int 0)) δ μ = some (y0, μ) := ixe (x := x) (var_at rfl) (fy := eC (.int 0)) rfl (ix_seq (j := 0) hs (by rw [hy]; rfl))
  rw [show b_greatest = bThen (bIf _ (bRaise _ _ _ _) bNil) (bThen (bSet 1 _) (bThen (bForP (iAM (eVar 0)) (nmG 2) bestB) (bRet (eVar 1)))) from rfl]
  refine (then_nx (if_nx (T.trans rfl))).trans ?_
  rw [then_set i0]
  exact e
theorem forP_at {ys : List D} {P : List MO → Prop} {δ : List SV} {body : BF} (h : Sq μ x ys P) (h0 : δ[0]? = some (.d x)) {o : Option Out} (e : forLoopP P (nmG 2) body ys δ μ = o) : bForP (iAM (eVar 0)) (nmG 2) body δ μ = o := by
  obtain ⟨t, hs⟩ := h.src
  simp only [bForP, iAM, eThen, var_at (μ := μ) h0, hs]
  exact e
theorem greatest_ok {P : List MO → Prop} {c : Cd} {cs : List Cd} (h : Sq μ x ((c :: cs).map Cd.dt) P) (hl : cs.length < 100) (ho : ∀ u ∈ c :: cs, CdOk u ∧ u.key = c.key) : fx_greatest [x] μ = some (.ok (mx c cs).dt μ) := by
  have oc := (ho c (List.mem_cons_self ..)).1
  obtain ⟨δ', e, r1, _, _, _⟩ := best_loop h.now c.key (c :: cs) [] c ((startD 3 [x]).set 1 (.d c.dt)) ho oc rfl rfl rfl
  rw [List.append_nil, forP_nil h.now] at e
  have q : mx c (c :: cs) = mx c cs := by
    show mx (gr c c) cs = _
    rw [gr_self]
  rw [q] at r1
  refine runX_rt (gt_head h rfl (by simp; omega) ?_)
  exact (then_nx (forP_at h rfl e)).trans (ret_eq (var_at r1))
theorem greatest_wr {P : List MO → Prop} {c : Cd} {cs : List Cd} {ys : List D} {y : D} {C : Nat} {t : Str} (h : Sq μ x ((c :: cs).map Cd.dt ++ y :: ys) P) (hl : cs.length + ys.length < 98) (ho : ∀ u ∈ c :: cs, CdOk u ∧ u.key = c.key) (hy : Th b μ m y) (w : Wr c.key y C t) : fx_greatest [x] μ = some (.ex C "found" t y μ) := by
  have oc := (ho c (List.mem_cons_self ..)).1
  obtain ⟨δ', e, r1, r2, r3, r4⟩ := best_loop h.now c.key (c :: cs) (y :: ys) c ((startD 3 [x]).set 1 (.d c.dt)) ho oc rfl rfl rfl
  have g1 : (δ'.set 2 (.d y))[1]? = some (.d (mx c (c :: cs)).dt) := get_ne r1 (by decide)
  have g2 : (δ'.set 2 (.d y))[2]? = some (.d y) := get_set (by omega)
  rw [← r4] at w
  have s : bestB (δ'.set 2 (.d y)) μ = some (.xc C "found" t y (δ'.set 2 (.d y)) μ) := by
    simp only [bestB, bSetX, aC (var_at (μ := μ) g1) (a1 g2), greater_ex (ahead_wr r3 hy w)]
  rw [forP_xc h.now s] at e
  refine runX_xc (δ := δ'.set 2 (.d y)) (gt_head h rfl (by simp; omega) ?_)
  exact then_xc (forP_at h rfl e)
theorem greatest_bad {P : List MO → Prop} {ys : List D} {y : D} (h : Sq μ x (y :: ys) P) (hl : ys.length < 100) (hy : Th b μ m y) (hb : cardB y = false) : fx_greatest [x] μ = some (.ex 2 "found" "no card" y μ) := by
  let δ := (startD 3 [x]).set 1 (.d y)
  have s : bestB (δ.set 2 (.d y)) μ = some (.xc 2 "found" "no card" y (δ.set 2 (.d y)) μ) := by
    simp only [bestB, bSetX, aC (var_at (i := 1) (x := y) (δ := δ.set 2 (.d y)) (μ := μ) rfl) (a1 (i := 2) (x := y) (δ := δ.set 2 (.d y)) (μ := μ) rfl), greater_ex (ahead_bad hy hb y)]
  refine runX_xc (δ := δ.set 2 (.d y)) (gt_head h rfl (by simp; omega) ?_)
  exact then_xc (forP_at h rfl (forP_xc h.now s))
end Law

set_option Elab.async false
set_option linter.all false
set_option autoImplicit false
set_option maxRecDepth 100000
set_option maxHeartbeats 4000000
namespace Law
open PySem PySem.Spec PySem.Calls L2 G GL
variable {b m : Nat} {μ : List MO} {x y : D}
/-! ### texts of cards -/
def cl (s : Str) : List Nat := s.cps.toList
def letB (c : Nat) : Bool := lowB c || (decide (65 ≤ c) && decide (c ≤ 90))
theorem let_char : ∀ c, c < 128 → letB c = true → PySem.Builtin.Str.reprChar 39 c = [c] := by decide +kernel
theorem let_lt {c : Nat} (h : letB c = true) : c < 128 ∧ c ≠ 39 := by
  simp only [letB, lowB, Bool.or_eq_true, Bool.and_eq_true, decide_eq_true_eq] at h
  omega
theorem foldl_let : ∀ (l : List Nat) (acc : Array Nat), (∀ c ∈ l, letB c = true) → (l.foldl (fun out c => out ++ (PySem.Builtin.Str.reprChar 39 c).toArray) acc).toList = acc.toList ++ l
  | [], acc, _ => by simp
  | c :: l, acc, h => by
    have e := let_char c (let_lt (h c (List.mem_cons_self ..))).1 (h c (List.mem_cons_self ..))
    rw [List.foldl_cons, foldl_let l _ fun u hu => h u (List.mem_cons_of_mem _ hu), e]
    simp
theorem repr_let {s : Str} (h : ∀ c ∈ cl s, letB c = true) : cl (reprText s) = 39 :: (cl s ++ [39]) := by
  have q : reprQuote s = 39 := by
    unfold reprQuote
    have : s.cps.contains 39 = false := by
      rw [← Bool.not_eq_true, Array.contains_iff_mem]
      intro hm
      exact (let_lt (h 39 (Array.mem_toList_iff.mpr hm))).2 rfl
    rw [this]
    rfl
  unfold reprText
  rw [q]
  show ((s.cps.foldl _ #[39]).push 39).toList = _
  rw [Array.toList_push, ← Array.foldl_toList, show s.cps.toList = cl s from rfl, foldl_let _ _ h]
  simp
theorem low_let {c : Nat} (h : lowB c = true) : letB c = true := by simp [letB, h]
theorem NameS.low {s : Str} (h : NameS s) : ∀ c ∈ cl s, lowB c = true := by
  simp only [NameS, nameB, Bool.and_eq_true, List.all_eq_true] at h
  exact h.2
theorem NameS.cons {s : Str} (h : NameS s) : ∃ c r, cl s = c :: r ∧ lowB c = true := by
  have l : 1 ≤ s.length := by
    have := h
    simp only [NameS, nameB, Bool.and_eq_true, decide_eq_true_eq] at this
    exact this.1.1
  have hl := h.low
  rw [← cps_len] at l
  cases e : cl s with
  | nil => rw [show s.cps.toList = cl s from rfl, e] at l; simp at l
  | cons c r => exact ⟨c, r, rfl, hl c (by rw [e]; exact List.mem_cons_self ..)⟩
theorem repr_name {s : Str} (h : NameS s) : cl (reprText s) = 39 :: (cl s ++ [39]) := repr_let fun c hc => low_let (h.low c hc)
theorem cl_app (a c : Str) : cl (a ++ c) = cl a ++ cl c := cps_app a c
theorem cl_tup4 (a c e f : Str) : cl (tupleText [a, c, e, f]) = 40 :: (cl a ++ (44 :: 32 :: (cl c ++ (44 :: 32 :: (cl e ++ (44 :: 32 :: (cl f ++ [41]))))))) := by
  have j : Str.join ", " [a, c, e, f] = a ++ ", " ++ (c ++ ", " ++ (e ++ ", " ++ f)) := rfl
  have s1 : cl ("(" : Str) = [40] := by decide +kernel
  have s2 : cl (", " : Str) = [44, 32] := by decide +kernel
  have s3 : cl (")" : Str) = [41] := by decide +kernel
  have z : tupleText [a, c, e, f] = ("(" : Str) ++ Str.join ", " [a, c, e, f] ++ (")" : Str) := rfl
  rw [z, j]
  simp only [cl_app, s1, s2, s3, List.cons_append, List.nil_append, List.append_assoc]
theorem cl_tup3 (a c e : Str) : cl (tupleText [a, c, e]) = 40 :: (cl a ++ (44 :: 32 :: (cl c ++ (44 :: 32 :: (cl e ++ [41]))))) := by
  have j : Str.join ", " [a, c, e] = a ++ ", " ++ (c ++ ", " ++ e) := rfl
  have s1 : cl ("(" : Str) = [40] := by decide +kernel
  have s2 : cl (", " : Str) = [44, 32] := by decide +kernel
  have s3 : cl (")" : Str) = [41] := by decide +kernel
  have z : tupleText [a, c, e] = ("(" : Str) ++ Str.join ", " [a, c, e] ++ (")" : Str) := rfl
  rw [z, j]
  simp only [cl_app, s1, s2, s3, List.cons_append, List.nil_append, List.append_assoc]
/-- the last sign of the marks -/
theorem mk_last (k : Option (List Int)) : ∃ z l, cl (mkP k).shown = l ++ [z] ∧ z ≠ 39 := by
  cases k with
  | none => exact ⟨101, [78, 111, 110], by show cl ("None" : Str) = _; decide +kernel, by decide⟩
  | some ms =>
    have s3 : cl (")" : Str) = [41] := by decide +kernel
    have s4 : cl (",)" : Str) = [44, 41] := by decide +kernel
    have z : (mkP (some ms)).shown = tupleText (PyData.shownAll (ms.map PyData.int)) := by
      simp only [mkP, PyData.shown]
    rw [z]
    unfold tupleText
    rw [cl_app]
    split
    · exact ⟨41, cl (("(" : Str) ++ Str.join ", " (PyData.shownAll (ms.map PyData.int))) ++ [44], by rw [s4]; simp, by decide⟩
    · exact ⟨41, cl (("(" : Str) ++ Str.join ", " (PyData.shownAll (ms.map PyData.int))), by rw [s3], by decide⟩
def cardT (c : Cd) : Str := c.py.shown
theorem card_cl {c : Cd} : cl (cardT c) = 40 :: (cl (reprText c.key) ++ (44 :: 32 :: (cl (PyData.int c.num).shown ++ (44 :: 32 :: (cl (reprText c.bye) ++ (44 :: 32 :: (cl (mkP c.mks).shown ++ [41]))))))) := by
  have z : cardT c = tupleText [reprText c.key, (PyData.int c.num).shown, reprText c.bye, (mkP c.mks).shown] := by
    simp only [cardT, Cd.py, PyData.shown, PyData.shownAll]
  rw [z, cl_tup4]
/-- no text of a card -/
def OT (t : List Nat) : Prop := t[0]? ≠ some 40 ∨ t[1]? ≠ some 39 ∨ (∃ k, t[2]? = some k ∧ lowB k = false) ∨ t.reverse[1]? = some 39
theorem card_not {c : Cd} (h : CdOk c) {t : Str} (o : OT (cl t)) : t ≠ cardT c := by
  rintro rfl
  obtain ⟨k, r, ek, lk⟩ := h.key.cons
  have e := card_cl (c := c)
  rw [repr_name h.key, ek] at e
  rcases o with o | o | ⟨k', e', l'⟩ | o
  · rw [e] at o
    exact o rfl
  · rw [e] at o
    exact o rfl
  · rw [e] at e'
    simp at e'
    rw [← e', lk] at l'
    cases l'
  · obtain ⟨z, l, ez, hz⟩ := mk_last c.mks
    rw [e, ez] at o
    simp [List.reverse_append] at o
    exact hz o
theorem split39 : ∀ {l l' r r' : List Nat}, 39 ∉ l → 39 ∉ l' → l ++ 39 :: r = l' ++ 39 :: r' → l = l'
  | [], [], _, _, _, _, _ => rfl
  | [], c :: l', _, _, _, h', e => by
    simp at e
    exact absurd (by rw [← e.1]; exact List.mem_cons_self ..) h'
  | c :: l, [], _, _, h, _, e => by
    simp at e
    exact absurd (by rw [e.1]; exact List.mem_cons_self ..) h
  | c :: l, c' :: l', r, r', h, h', e => by
    simp only [List.cons_append, List.cons.injEq] at e
    rw [e.1, split39 (fun z => h (List.mem_cons_of_mem _ z)) (fun z => h' (List.mem_cons_of_mem _ z)) e.2]
theorem NameS.no39 {s : Str} (h : NameS s) : 39 ∉ cl s := fun z => by
  have := h.low 39 z
  exact absurd this (by decide)
theorem card_keys {a c : Cd} (ha : CdOk a) (hc : CdOk c) (hk : a.key ≠ c.key) : cardT a ≠ cardT c := fun e => by
  have e1 := congrArg cl e
  rw [card_cl, card_cl, repr_name ha.key, repr_name hc.key] at e1
  simp only [List.cons_append, List.append_assoc, List.cons.injEq, true_and, List.nil_append] at e1
  exact hk (PySem.W.str_of_cps (split39 ha.key.no39 hc.key.no39 e1))
/-! ### reprs, exactly -/
theorem card_sm {c : Cd} (h : CdOk c) : Sm 26020 3 c.py := by
  obtain ⟨p, e, s⟩ := Tm.py (b := 0) (μ := []) (m := 0) (by decide) 2 13 (h.tm)
  rw [card_py [] 13] at e
  cases e
  exact s
theorem rpr_exact {p : PyData} {w d : Nat} (e : toPy μ DEEP x = some p) (s : Sm w d p) (hd : d ≤ 10) (hw : w ≤ 29000) (et : txM exNm μ x = (tx exNm μ x).map (fun t => (false, t))) : reprM exNm [x] μ = some (.str p.shown, μ) := by
  have l := PyData.shown_le_bulk 32 (by decide) p s.lv
  have bk := s.bk
  have et2 : txM exNm μ x = some (false, p.shown) := by
    rw [et]
    simp [tx, e, s.ok hd]
  simp only [reprM, et2]
  rw [if_pos (by omega)]
theorem card_rpr {c : Cd} (h : CdOk c) (μ : List MO) : reprM exNm [c.dt] μ = some (.str (cardT c), μ) := rpr_exact (card_py μ 13 c) (card_sm h) (by decide) (by decide) rfl
theorem card_repr_at {f : EF} {c : Cd} {δ : List SV} {μ μ1 : List MO} (h : f δ μ = some (c.dt, μ1)) (hc : CdOk c) : eCall (reprM exNm) (aCons f aNil) δ μ = some (.str (cardT c), μ1) := callE (aC h (a_nil _ _)) (card_rpr hc μ1)
/-! ### odd things -/
/-- what is no card, and no card's text -/
structure Od (b p m : Nat) (μ : List MO) (x : D) : Prop where
  th : Th b μ m x
  no : cardB x = false
  at_ : ∀ k, x = .mut k → p < k
  ot : m ≤ 20 → OT (cl (rpM μ x))
theorem textFrom_pre : ∀ (ts : List Str) (k : Nat) (acc : Str), ∃ r, cl (textFrom k acc ts) = cl acc ++ r
  | [], k, acc => ⟨[], by simp [textFrom]⟩
  | t :: ts, k, acc => by
    obtain ⟨r, e⟩ := textFrom_pre ts (k + 1) (acc ++ (if k > 0 then ", " else "" : String) ++ t)
    refine ⟨cl ((if k > 0 then ", " else "" : String) : Str) ++ (cl t ++ r), ?_⟩
    show cl (textFrom (k + 1) _ ts) = _
    rw [e]
    simp only [cl_app, List.append_assoc]
theorem list_ot (ts : List Str) : OT (cl (listText ts)) := by
  obtain ⟨r, e⟩ := textFrom_pre ts 0 "["
  have s1 : cl ("[" : Str) = [91] := by decide +kernel
  refine .inl ?_
  unfold listText
  rw [cl_app, e, s1]
  simp
theorem dict_ot (ts : List Str) : OT (cl (dictText ts)) := by
  have s1 : cl ("{" : Str) = [123] := by decide +kernel
  refine .inl ?_
  unfold dictText
  rw [cl_app, cl_app, s1]
  simp
/-- lists that change, and dicts -/
theorem mut_ot {k : Nat} (h : Th b μ m (.mut k)) (hm : m ≤ 20) : OT (cl (rpM μ (.mut k))) := by
  have r := h.rpr hm
  rcases id h with (h' | ⟨_, q, _⟩ | ⟨k', xs, q, hk, e, hl, ha⟩) | ⟨k', s, q, hk, hs, e⟩
  · cases h'
  · cases q
  · cases q
    obtain ⟨p, ep, s⟩ := Tm.py (by omega : m ≤ 20) 2 13 (.inr (.inr ⟨k, xs, rfl, hk, e, hl, ha⟩) : Tm b μ m 2 (.mut k))
    have ex := rpr_exact ep s (by decide) (by decide) (by simp only [txM, e])
    rw [ex] at r
    have er : rpM μ (.mut k) = p.shown := by
      unfold rpM
      rw [ex]
    have ep' := ep
    have e1 : toPy μ (13 + 2 + 1) (.mut k) = (toPyL (toPy μ (13 + 2)) xs).map PyData.list := by
      show (match μ[k]? with
        | some (.lst ds) => (toPyL (toPy μ 15) ds).map PyData.list
        | _ => none) = _
      rw [e]
    rw [e1] at ep'
    obtain ⟨ps, _, rfl⟩ := Option.map_eq_some_iff.mp ep'
    rw [er]
    simp only [PyData.shown]
    exact list_ot _
  · cases q
    obtain ⟨z1, z2⟩ := dct_text s hs
    obtain ⟨t, et⟩ := Option.isSome_iff_exists.mp z1
    rw [et] at z2
    obtain ⟨ts, e1, rfl⟩ := Option.map_eq_some_iff.mp et
    have tx2 : txM exNm μ (.mut k) = some (true, dictText ts) := by simp [txM, e, e1]
    have er : rpM μ (.mut k) = dictText ts := by
      unfold rpM reprM
      simp only [tx2]
      have z3 : (dictText ts).length ≤ 1000000 := Nat.le_trans z2 (show 100 ≤ 1000000 by decide)
      rw [if_pos z3]
    rw [er]
    exact dict_ot ts
theorem Od.mut {p k : Nat} (h : Th b μ m (.mut k)) (hp : p < k) : Od b p m μ (.mut k) := ⟨h, rfl, fun j e => by cases e; exact hp, fun hm => mut_ot h hm⟩
/-- what never changes -/
theorem Od.same {p : Nat} {μ' : List MO} (h : Od b p m μ x) (hx : ∀ k, x ≠ .mut k) (h2 : Th b μ' m x) (e : rpM μ' x = rpM μ x) : Od b p m μ' x := ⟨h2, h.no, fun k q => absurd q (hx k), fun hm => by rw [e]; exact h.ot hm⟩
end Law

set_option Elab.async false
set_option linter.all false
set_option autoImplicit false
set_option maxRecDepth 100000
set_option maxHeartbeats 4000000
namespace Law
open PySem PySem.Spec PySem.Calls L2 G GL
variable {b m : Nat} {μ : List MO} {x : D}
variable {R : List MO}
/-! ### names -/
def LwC (s : Str) : Prop := ∀ c ∈ s.cps.toList, lowB c = true
theorem text_low {s : Str} (hs : ∀ c ∈ s.cps.toList, lowB c = true) {cs : List Nat} (h : ∀ c ∈ cs, c ∈ s.cps.toList) : LwC (Txt.join "" (cs.map fun c => (⟨#[c]⟩ : Str))) := fun c hc => by
  rw [join_sg] at hc
  exact hs c (h c hc)
theorem drawnL {k n j vi L : Nat} {w : Int} {z : Str} {fr : AF} {fm : EF} {δ : List SV} {μ μ0 : List MO} (hz : ∀ c ∈ z.cps.toList, lowB c = true) (zl : z.length = w) (hw : w.natAbs < 2 ^ 128) (zl2 : z.length ≤ 1000) (z0 : 0 < w) (d0 : δ[0]? = some (.d (.mut k))) (dz : δ[vi]? = some (.d (.str z))) (hj0 : 0 ≠ j) (hjv : vi ≠ j) (hm : ∀ d μ, fm ((wipeD δ [j]).set j (.d d)) μ = some (.int w, μ))
    (hr : fr δ μ = some ([.int (L : Nat)], μ0)) (hL : L ≤ 70) (h : Bg R k n μ0) (hn : n ≤ 500) :
    ∃ (t : Str) (μ' : List MO), eMt "str" joinD (eC (.str "")) (aCons (eFrz (nLc (iR1 fr) (nmG j) tYesD (eBin ixD (eVar vi) (eFn f__law_take [] (aCons (eVar 0) (aCons fm aNil)))) [j])) aNil) δ μ = some (.str t, μ') ∧ LwC t ∧ t.length = L ∧ Bg R k (n + L) μ' := by
  have step : ∀ (d : D) (m : Nat) (ν : List MO), Bg R k m ν → m ≤ 900 → ∃ (c : Nat) (ν' : List MO), eBin ixD (eVar vi) (eFn f__law_take [] (aCons (eVar 0) (aCons fm aNil))) ((wipeD δ [j]).set j (.d d)) ν = some (sg c, ν') ∧ c ∈ z.cps.toList ∧ Bg R k (m + 1) ν' := by
    intro d m ν hb hm'
    have a0 : ((wipeD δ [j]).set j (.d d))[0]? = some (.d (.mut k)) := by
      rw [List.getElem?_set_ne (Ne.symm hj0)]
      simp [wipeD, List.getElem?_set_ne (Ne.symm hj0), d0]
    have a1 : ((wipeD δ [j]).set j (.d d))[vi]? = some (.d (.str z)) := by
      rw [List.getElem?_set_ne (Ne.symm hjv)]
      simp [wipeD, List.getElem?_set_ne (Ne.symm hjv), dz]
    obtain ⟨x, ν', e, x0, x1, b⟩ := take_at (i := 0) (m := w) a0 (hm _ _) hb z0 hw (by omega)
    obtain ⟨c, ec, hc⟩ := ix_str (s := z) (μ := ν') zl2 x0 (by rw [zl]; exact x1)
    exact ⟨c, ν', ixe (μ1 := ν) (by simp [eVar, a1]) e ec, hc, b⟩
  obtain ⟨cs, μ', e, hl, hc, hb⟩ := lc_signs (i := j) step (rangeD 0 L) n μ0 h (by rw [range_len]; omega)
  rw [range_len] at hl hb
  refine ⟨_, μ', ?_, text_low hz hc, by rw [join_len, hl], hb⟩
  have hr1 : iR1 fr δ μ = some (rangeD 0 L, μ0) := by
    simp only [iR1, aThen, hr]
    rw [if_pos (by omega)]
    simp
  have hN : nLc (iR1 fr) (nmG j) tYesD (eBin ixD (eVar vi) (eFn f__law_take [] (aCons (eVar 0) (aCons fm aNil)))) [j] δ μ = some (cs.map sg, μ') := by
    simp only [nLc, hr1, range_len]
    rw [if_pos (by omega)]
    exact e
  have jo := join_ok cs (by omega) μ'
  exact mtE (fo := eC (.str "")) (μ1 := μ) rfl rfl (aC (frzE hN) rfl) jo

/-- of small letters, eight at most -/
def Lw (w : Str) : Prop := w.length ≤ 8 ∧ LwC w
theorem Lw.nm {w : Str} (h : Lw w) : Nm w := ⟨h.1, fun c hc => by
  have := h.2 c hc
  simp only [lowB, Bool.and_eq_true, decide_eq_true_eq] at this
  omega⟩
theorem Lw.name {w : Str} (h : Lw w) (l : 1 ≤ w.length) : NameS w := by
  simp only [NameS, nameB, Bool.and_eq_true, decide_eq_true_eq, List.all_eq_true]
  exact ⟨⟨l, h.1⟩, h.2⟩
theorem NameS.lw {w : Str} (h : NameS w) : Lw w ∧ 1 ≤ w.length := by
  simp only [NameS, nameB, Bool.and_eq_true, decide_eq_true_eq, List.all_eq_true] at h
  exact ⟨⟨h.1.2, h.2⟩, h.1.1⟩
theorem alph_low : ∀ c ∈ alphT.cps.toList, lowB c = true := by decide +kernel
theorem cut_lw {s : Str} (h : LwC s) (hi : Int) (h0 : 0 ≤ hi) (h8 : hi ≤ 8) : Lw (cutS s none (some hi)) := by
  have mm := cut_mem s none (some hi)
  refine ⟨?_, fun c hc => h c (mm.1 c hc)⟩
  rw [cut_len]
  simp only [HT.sIx, show ¬ hi < 0 by omega, if_false]
  omega
theorem cand_lw {w : Str} (h : Lw w) {c : Nat} (hc : lowB c = true) : Lw (cand w c) ∧ 1 ≤ (cand w c).length := by
  have n7 : (cutS w none (some 7)).length ≤ 7 := by
    rw [cut_len]
    simp only [HT.sIx, show ¬ (7 : Int) < 0 by decide, if_false]
    omega
  refine ⟨⟨?_, fun z hz => ?_⟩, ?_⟩
  · unfold cand
    rw [strLen_append, sg_len]
    omega
  · rw [cand_cps] at hz
    rcases List.mem_append.mp hz with hz | hz
    · exact h.2 z ((cut_mem w none (some 7)).1 z hz)
    · simp at hz; rw [hz]; exact hc
  · unfold cand
    rw [strLen_append, sg_len]
    omega
theorem pigeon (w : Str) : ∀ (ls : List Nat) (ws : List Str), ls.Nodup → (∀ c ∈ ls, cand w c ∈ ws) → ls.length ≤ ws.length
  | [], _, _, _ => Nat.zero_le _
  | c :: ls, ws, hn, h => by
    rw [List.nodup_cons] at hn
    have hm := h c (List.mem_cons_self ..)
    have r := pigeon w ls (ws.erase (cand w c)) hn.2 fun e he => by
      refine (List.mem_erase_of_ne fun q => ?_).mpr (h e (List.mem_cons_of_mem _ he))
      exact hn.1 (by rw [← cand_inj q]; exact he)
    rw [List.length_erase_of_mem hm] at r
    have : 0 < ws.length := List.length_pos_of_mem hm
    simp only [List.length_cons]
    omega
theorem other_ok {p : Nat} {ws : List Str} {w : Str} {δ : List SV} (d2 : δ[2]? = some (.d (.str alphT))) (d3 : δ[3]? = some (.d (.mut p))) (d6 : δ[6]? = some (.d (.str w))) (hl : δ.length = 9) (e : μ[p]? = some (.lst (ws.map D.str))) (h : ∀ w ∈ ws, Gs w) (hw' : Lw w) (h1 : ws.length ≤ 3) :
    ∃ u, eBin ixD (eFrz otherN) (eC (.int 0)) δ μ = some (.str u, μ) ∧ NameS u ∧ u ∉ ws := by
  have hw := hw'.nm
  have wd : ∀ c, c < 128 → wordF ((wipeD δ [7]).set 7 (.d (sg c))) μ = some (.str (cand w c), μ) := fun c hc => by
    have v6 : ((wipeD δ [7]).set 7 (.d (sg c)))[6]? = some (.d (.str w)) := get_ne (get_ne d6 (by decide)) (by decide)
    have v7 : ((wipeD δ [7]).set 7 (.d (sg c)))[7]? = some (.d (sg c)) := get_set (by simp [wipeD, hl])
    have n := (cut_mem w none (some 7)).2
    exact addS (slE (lo := pNo) (var_at v6) rfl (soE (f := eC (.int 7)) rfl) (by have := hw.1; omega)) (var_at v7) (by rw [sg_len]; have := hw.1; omega)
  have lc := nLc_at (tt := asB (eBin ninD wordF (eVar 3))) (te := wordF) (g := nmG 7) (vs := [7]) (iS_at (μ := μ) d2) (by rw [signs_len, alph_len]; decide) (lc_fm (p := fun y => !decide (cand w (sgN y) ∈ ws)) (h := fun y => .str (cand w (sgN y))) (fun y hy => by
    obtain ⟨c, hc, rfl⟩ := List.mem_map.mp hy
    have hc1 := (alph_gd c hc).1
    have v3 : ((wipeD δ [7]).set 7 (.d (sg c)))[3]? = some (.d (.mut p)) := get_ne (get_ne d3 (by decide)) (by decide)
    have q := in_strs e h (cand_nm hw hc1).gs
    exact asB_eq (bin_at (wd c hc1) (var_at (μ := μ) v3) (by simp only [ninD, q]; rfl))) (fun y hy => by
    obtain ⟨c, hc, rfl⟩ := List.mem_map.mp hy
    exact wd c (alph_gd c hc).1))
  -- two letters: one of them makes a new word
  have ne : 0 < (((signsD alphT).filter fun y => !decide (cand w (sgN y) ∈ ws)).map fun y => D.str (cand w (sgN y))).length := by
    rw [List.length_map]
    refine Nat.pos_of_ne_zero fun z => ?_
    have all : ∀ c ∈ [97, 98, 99, 100], cand w c ∈ ws := fun c hc => by
      have mc : sg c ∈ signsD alphT := List.mem_map.mpr ⟨c, by
        simp only [List.mem_cons, List.mem_nil_iff, or_false] at hc
        rcases hc with rfl | rfl | rfl | rfl <;> decide +kernel, rfl⟩
      have nf : sg c ∉ (signsD alphT).filter fun y => !decide (cand w (sgN y) ∈ ws) := by
        rw [List.eq_nil_of_length_eq_zero z]
        exact fun q => nomatch q
      by_cases q : cand w c ∈ ws
      · exact q
      · exact absurd (List.mem_filter.mpr ⟨mc, by rw [sgN_sg]; simpa using q⟩) nf
    have := pigeon w [97, 98, 99, 100] ws (by decide) all
    simp only [List.length_cons, List.length_nil] at this
    omega
  obtain ⟨y, ey, hy⟩ := ix_lst (μ := μ) (Int.le_refl 0) (show (0 : Int) < _ from Int.natCast_pos.mpr ne)
  obtain ⟨z, hz, rfl⟩ := List.mem_map.mp hy
  obtain ⟨c, hc, rfl⟩ := List.mem_map.mp (List.mem_filter.mp hz).1
  have cw := cand_lw hw' (alph_low c hc)
  have nw : cand w c ∉ ws := by
    have := (List.mem_filter.mp hz).2
    rw [sgN_sg] at this
    simpa using this
  exact ⟨cand w c, ixe (frzE lc) (fy := eC (.int 0)) rfl ey, cw.1.name cw.2, nw⟩
abbrev nameB2 : BF := bThen (bSet 5 (eC (.str ""))) (bThen stemB (bThen (bSet 6 (eSlS (eBin addD (eVar 5) lettersF) (pNo) (pSo (eC (.int 8))))) (bThen (bIf (asB (eBin inD (eVar 6) (eVar 3))) (bSet 6 (eBin ixD (eFrz otherN) (eC (.int 0)))) (bNil)) (bExpr (eMt "list" appendD (eVar 3) (aCons (eVar 6) (aNil)))))))
theorem name_step {n p : Nat} {ws : List Str} (h : Bx b n μ) (hn : n ≤ 200) (hp : b < p) (e : μ[p]? = some (.lst (ws.map D.str))) (hw : ∀ w ∈ ws, NameS w) (h1 : ws.length ≤ 3) (s4 s5 s6 s7 s8 : SV) :
    ∃ w s5' s6' μ', nameB2 [.d (.mut b), .d (.int 4), .d (.str alphT), .d (.mut p), s4, s5, s6, s7, s8] μ = some (.nx [.d (.mut b), .d (.int 4), .d (.str alphT), .d (.mut p), s4, s5', s6', s7, s8] μ') ∧ NameS w ∧ w ∉ ws ∧ μ'[p]? = some (.lst ((ws ++ [w]).map D.str)) ∧ Bx b (n + 20) μ' ∧ ∀ (i : Nat) (o : MO), i ≠ b → i ≠ p → μ[i]? = some o → μ'[i]? = some o := by
  let δ0 : List SV := [.d (.mut b), .d (.int 4), .d (.str alphT), .d (.mut p), s4, .d (.str ""), s6, s7, s8]
  have hg : ∀ w ∈ ws, Gs w := fun w hw' => NameS.gs (hw w hw')
  -- the stem
  obtain ⟨st, μ1, e1, nst, B1, dr1⟩ : ∃ st μ1, stemB δ0 μ = some (.nx (δ0.set 5 (.d (.str st))) μ1) ∧ Lw st ∧ Bx b (n + 3) μ1 ∧ Drawn b μ μ1 := by
    have nn := asB_eq (ne_nil (δ := δ0) (i := 3) rfl e hg)
    have none' : ∀ ν, tfAnd (asB (eBin neD (eVar 3) (eFrz (nLst (aNil))))) (asB (eBin eqD (eFn f__law_take [] (aCons (eVar 0) (aCons (eC (.int 3)) (aNil)))) (eC (.int 0)))) δ0 μ = some (false, ν) → stemB δ0 μ = some (.nx (δ0.set 5 (.d (.str ""))) ν) := fun ν q => if_nx q
    have n0 : Lw "" := ⟨by decide +kernel, fun c hc => by have : ("" : Str).cps.toList = [] := by decide +kernel
                                                          rw [this] at hc; exact nomatch hc⟩
    cases hws : ws.isEmpty with
    | true =>
      rw [hws] at nn
      refine ⟨"", μ, none' μ ?_, n0, h.mono (by omega), Drawn.refl b μ⟩
      simp [tfAnd, tThen, nn]
    | false =>
      rw [hws] at nn
      obtain ⟨q, μ1, e1, q0, q3, B1, d1⟩ := take_x (i := 0) (δ := δ0) (w := 3) (fm := eC (.int 3)) rfl rfl h (by decide) (by decide) (by omega)
      have eq := asB_eq (eq_int e1 (fb := eC (.int 0)) rfl)
      have T : tfAnd (asB (eBin neD (eVar 3) (eFrz (nLst (aNil))))) (asB (eBin eqD (eFn f__law_take [] (aCons (eVar 0) (aCons (eC (.int 3)) (aNil)))) (eC (.int 0)))) δ0 μ = some (decide (q = 0), μ1) := by
        simp [tfAnd, tThen, nn, eq]
      by_cases hq : q = 0
      · have k1 : μ1[p]? = some (.lst (ws.map D.str)) := d1 p _ (by omega) e
        have wl : 0 < ws.length := by
          cases ws with
          | nil => simp at hws
          | cons _ _ => simp
        obtain ⟨j, μ2, e2, j0, j1, B2, d2⟩ := take_x (i := 0) (δ := δ0) (w := ws.length) (fm := eCall lenD (aCons (eVar 3) (aNil))) rfl (callE (a1 (x := .mut p) rfl) (by simp [lenD, seqD, k1])) B1 (by omega) (by omega) (by omega)
        have k2 : μ2[p]? = some (.lst (ws.map D.str)) := d2 p _ (by omega) k1
        obtain ⟨z, ez, hz⟩ := atI_of (xs := ws.map D.str) j0 (by rw [List.length_map]; exact j1)
        obtain ⟨w, hw', rfl⟩ := List.mem_map.mp hz
        have iz : ixD (.mut p) (.int j) μ2 = some (.str w, μ2) := by simp only [ixD, seqD, k2, ez]
        obtain ⟨l, μ3, e3, l0, l8, B3, d3⟩ := take_x (i := 0) (δ := δ0) (w := 8) (fm := eC (.int 8)) rfl rfl B2 (by decide) (by decide) (by omega)
        have nw := (hw w hw').lw.1
        have sl : eSlS (eBin ixD (eVar 3) (eFn f__law_take [] (aCons (eVar 0) (aCons (eCall lenD (aCons (eVar 3) (aNil))) (aNil))))) (pNo) (pSo (eFn f__law_take [] (aCons (eVar 0) (aCons (eC (.int 8)) (aNil))))) δ0 μ1 = some (.str (cutS w none (some l)), μ3) := by
          have g : eBin ixD (eVar 3) (eFn f__law_take [] (aCons (eVar 0) (aCons (eCall lenD (aCons (eVar 3) (aNil))) (aNil)))) δ0 μ1 = some (.str w, μ2) := ixe (x := .mut p) (μ1 := μ1) rfl e2 iz
          simp only [eSlS, eThen, g, pNo, pSo, e3]
          rw [if_pos (by have := nw.1; omega)]
        refine ⟨_, μ3, ?_, cut_lw nw.2 l l0 (by omega), B3.mono (by omega), d1.trans (d2.trans d3)⟩
        show bIf _ _ _ δ0 μ = _
        rw [if_at T, decide_eq_true hq, if_pos rfl]
        exact set_at sl
      · exact ⟨"", μ1, none' μ1 (T.trans (by rw [decide_eq_false hq])), n0, B1.mono (by omega), d1⟩
  let δ1 : List SV := δ0.set 5 (.d (.str st))
  -- the letters
  obtain ⟨L, μ2, e2, l0, l8, B2, d2⟩ := take_x (i := 0) (δ := δ1) (w := 8) (fm := eC (.int 8)) rfl rfl B1 (by decide) (by decide) (by omega)
  have ar : aCons (eBin addD (eC (.int 1)) (eFn f__law_take [] (aCons (eVar 0) (aCons (eC (.int 8)) (aNil))))) (aNil) δ1 μ1 = some ([.int ((1 + L.toNat : Nat) : Int)], μ2) := by
    have := aC (addE (fa := eC (.int 1)) (a := 1) (μ1 := μ1) rfl e2) (a_nil δ1 μ2)
    rw [show ((1 + L.toNat : Nat) : Int) = 1 + L by omega]
    exact this
  obtain ⟨t, μ3, e3, gt, tl, B3⟩ := drawnL (R := μ2) (k := b) (n := n + 3 + 1) (j := 8) (vi := 2) (L := 1 + L.toNat) (w := 26) (z := alphT) (fm := eC (.int 26)) (δ := δ1) alph_low (by rw [alph_len]; rfl) (by decide) (by rw [alph_len]; decide) (by decide) rfl rfl (by decide) (by decide) (fun _ _ => rfl) ar (by omega) B2.bg (by omega)
  have nt : LwC t := gt
  have wf : eSlS (eBin addD (eVar 5) lettersF) (pNo) (pSo (eC (.int 8))) δ1 μ1 = some (.str (cutS (st ++ t) none (some 8)), μ3) := by
    have a : eBin addD (eVar 5) lettersF δ1 μ1 = some (.str (st ++ t), μ3) := addS (a := st) (μ1 := μ1) (var_at rfl) e3 (by have := nst.1; omega)
    simp only [eSlS, eThen, a, pNo, pSo, eC]
    rw [if_pos (by rw [strLen_append]; have := nst.1; omega)]
  have l1 : 1 ≤ (cutS (st ++ t) none (some 8)).length := by
    rw [cut_len, strLen_append, tl]
    simp only [HT.sIx, show ¬ (8 : Int) < 0 by decide, if_false]
    omega
  have nw : Lw (cutS (st ++ t) none (some 8)) := cut_lw (fun c hc => by
    rw [cps_app] at hc
    exact (List.mem_append.mp hc).elim (nst.2 c) (nt c)) 8 (by decide) (by decide)
  generalize cutS (st ++ t) none (some 8) = w at wf nw l1
  have d13 : Drawn b μ1 μ3 := d2.trans B3.2
  have d3' : Drawn b μ μ3 := dr1.trans d13
  have k3 : μ3[p]? = some (.lst (ws.map D.str)) := d3' p _ (by omega) e
  let δ2 : List SV := δ1.set 6 (.d (.str w))
  have tin : asB (eBin inD (eVar 6) (eVar 3)) δ2 μ3 = some (decide (w ∈ ws), μ3) := by
    refine asB_eq ?_
    have q := in_strs k3 hg nw.nm.gs
    simp only [eBin, eThen, var_at (i := 6) (x := .str w) (δ := δ2) (μ := μ3) rfl, var_at (i := 3) (x := .mut p) (δ := δ2) (μ := μ3) rfl, inD, q]
  obtain ⟨u, eu, nu, ni⟩ : ∃ u, bIf (asB (eBin inD (eVar 6) (eVar 3))) (bSet 6 (eBin ixD (eFrz otherN) (eC (.int 0)))) (bNil) δ2 μ3 = some (.nx (δ1.set 6 (.d (.str u))) μ3) ∧ NameS u ∧ u ∉ ws := by
    by_cases q : w ∈ ws
    · obtain ⟨u, eu, nu, ni⟩ := other_ok (δ := δ2) (w := w) rfl rfl rfl rfl k3 hg nw h1
      refine ⟨u, ?_, nu, ni⟩
      rw [if_at tin, decide_eq_true q, if_pos rfl]
      exact set_at eu
    · refine ⟨w, ?_, nw.name l1, q⟩
      rw [if_at tin, decide_eq_false q]
      rfl
  let δ3 : List SV := δ1.set 6 (.d (.str u))
  have pl := (List.getElem?_eq_some_iff.mp k3).1
  have ap : eMt "list" appendD (eVar 3) (aCons (eVar 6) (aNil)) δ3 μ3 = some (.non, μ3.set p (.lst (ws.map D.str ++ [.str u]))) := by
    refine mtE (x := .mut p) (var_at rfl) (by simp [tyB, k3]) (a1 (x := .str u) rfl) ?_
    simp only [appendD, k3]
    rw [if_pos (by rw [List.length_map]; omega)]
  refine ⟨u, .d (.str st), .d (.str u), μ3.set p (.lst (ws.map D.str ++ [.str u])), ?_, nu, ni, ?_, ?_, fun i o hb hi eo => ?_⟩
  · rw [show nameB2 = bThen (bSet 5 _) (bThen stemB (bThen (bSet 6 _) (bThen _ (bExpr _)))) from rfl, then_set (x := .str "") (μ1 := μ) rfl]
    refine (then_nx e1).trans ?_
    rw [then_set wf]
    refine (then_nx eu).trans ?_
    exact expr_at ap
  · rw [List.getElem?_set_self pl, List.map_append]
    rfl
  · obtain ⟨o, eo, bo⟩ := B3.1
    have bx : Bx b (n + 3 + 1 + (1 + L.toNat)) (μ3.set p (.lst (ws.map D.str ++ [.str u]))) := ⟨o, by rw [List.getElem?_set_ne (by omega)]; exact eo, bo⟩
    exact bx.mono (by omega)
  · rw [List.getElem?_set_ne (Ne.symm hi)]
    exact d3' i o hb eo
theorem names_ok {n : Nat} (h : Bx b n μ) (hn : n ≤ 100) : ∃ p w0 w1 w2 w3 μ', f__law_names [.mut b, .int 4] μ = some (.mut p, μ') ∧ b < p ∧ μ'[p]? = some (.lst ([w0, w1, w2, w3].map D.str)) ∧ NameS w0 ∧ NameS w1 ∧ NameS w2 ∧ NameS w3 ∧ w3 ≠ w2 ∧ Bx b (n + 80) μ' := by
  let p := μ.length
  let μ0 := μ ++ [MO.lst []]
  have hp : b < p := h.lt
  have B0 : Bx b n μ0 := h.keeps (Keeps.app _ _)
  have k0 : μ0[p]? = some (.lst (([] : List Str).map D.str)) := by simp [μ0, p]
  obtain ⟨w0, a5, a6, μ1, e1, n0, _, k1, B1, f1⟩ := name_step (ws := []) B0 (by omega) hp k0 (fun w hw => nomatch hw) (by simp) (.d (.int 0)) .no .no .no .no
  obtain ⟨w1, c5, c6, μ2, e2, n1, _, k2, B2, f2⟩ := name_step (ws := [w0]) B1 (by omega) hp k1 (fun w hw => by simp at hw; subst hw; exact n0) (by simp) (.d (.int 1)) a5 a6 .no .no
  obtain ⟨w2, d5, d6, μ3, e3, n2, _, k3, B3, f3⟩ := name_step (ws := [w0, w1]) B2 (by omega) hp k2 (fun w hw => by
    simp at hw
    rcases hw with rfl | rfl
    · exact n0
    · exact n1) (by simp) (.d (.int 2)) c5 c6 .no .no
  obtain ⟨w3, g5, g6, μ4, e4, n3, i3, k4, B4, f4⟩ := name_step (ws := [w0, w1, w2]) B3 (by omega) hp k3 (fun w hw => by
    simp at hw
    rcases hw with rfl | rfl | rfl
    · exact n0
    · exact n1
    · exact n2) (by simp) (.d (.int 3)) d5 d6 .no .no
  refine ⟨p, w0, w1, w2, w3, μ4, run_of ?_, hp, k4, n0, n1, n2, n3, fun q => i3 (by rw [q]; simp), B4.mono (by omega)⟩
  let δ0 : List SV := ((startD 9 [.mut b, .int 4]).set 2 (.d (.str alphT))).set 3 (.d (.mut p))
  rw [show b__law_names = bThen (bSet 2 _) (bThen (bSet 3 _) (bThen (bFor _ _ nameB2) (bRet _))) from rfl, then_set (x := .str alphT) (μ1 := μ) rfl, then_set (x := .mut p) (μ1 := μ0) (mutL (a_nil _ _) (by simp))]
  have F : forLoop (nmG 4) nameB2 (rangeD 0 4) δ0 μ0 = some (.nx [.d (.mut b), .d (.int 4), .d (.str alphT), .d (.mut p), .d (.int 3), g5, g6, .no, .no] μ4) := by
    show forLoop (nmG 4) nameB2 [.int 0, .int 1, .int 2, .int 3] δ0 μ0 = _
    rw [for_cons e1, for_cons (δ1 := [.d (.mut b), .d (.int 4), .d (.str alphT), .d (.mut p), .d (.int 1), c5, c6, .no, .no]) (μ1 := μ2) e2, for_cons (δ1 := [.d (.mut b), .d (.int 4), .d (.str alphT), .d (.mut p), .d (.int 2), d5, d6, .no, .no]) (μ1 := μ3) e3, for_cons (δ1 := [.d (.mut b), .d (.int 4), .d (.str alphT), .d (.mut p), .d (.int 3), g5, g6, .no, .no]) (μ1 := μ4) e4]
    rfl
  rw [then_for (iR1_at (L := 4) (a1 (x := .int 4) rfl) (by decide)) F]
  exact ret_eq (var_at (x := .mut p) rfl)
end Law

set_option Elab.async false
set_option linter.all false
set_option autoImplicit false
set_option maxRecDepth 100000
set_option maxHeartbeats 4000000
namespace Law
open PySem PySem.Spec PySem.Calls L2 G GL
variable {b m : Nat} {μ : List MO} {x : D}
abbrev cI0 : BF := bIf (asB (eBin eqD (eVar 8) (eC (.int 0)))) (bSet 7 (eC .non)) (bNil)
abbrev cI1 : BF := bIf (asB (eBin eqD (eVar 8) (eC (.int 1)))) (bSet 7 (eSlT (eVar 7) (pNo) (pSo (eVar 9)))) (bNil)
abbrev cI2 : BF := bIf (asB (eBin eqD (eVar 8) (eC (.int 2)))) (bSet 7 (eSlT (eBin addT (eVar 7) (eTup (aCons (eC (.int 300)) (aNil)))) (pNo) (pSo (eC (.int 8))))) (bNil)
abbrev cI3 : BF := bIf (tfAnd (asB (eBin eqD (eVar 8) (eC (.int 3)))) (asB (eBin neD (eVar 7) (eTup (aNil))))) (bSet 7 (eBin addT (eBin addT (eSlT (eVar 7) (pNo) (pSo (eVar 9))) (eTup (aCons (eFn f__law_mark [] (aCons (eSlS (eVar 3) (pNo) (pSo (eVar 9))) (aNil))) (aNil)))) (eSlT (eVar 7) (pSo (eBin addD (eVar 9) (eC (.int 1)))) (pNo)))) (bNil)
abbrev cNum : EF := eBin ixD (eFrz (nLst (aCons (eBin addD (eVar 4) (eFn f__law_take [] (aCons (eVar 0) (aCons (eC (.int 3)) (aNil))))) (aCons (eBin addD (eC (.int 1)) (eFn f__law_take [] (aCons (eVar 0) (aCons (eC (.int 999999)) (aNil))))) (aNil))))) (eCall intD (aCons (eBin eqD (eFn f__law_take [] (aCons (eVar 0) (aCons (eC (.int 3)) (aNil)))) (eC (.int 0))) (aNil)))
abbrev cApp : BF := bExpr (eMt "list" appendD (eVar 5) (aCons (eTup (aCons (eVar 1) (aCons (eVar 10) (aCons (eBin ixD (eVar 2) (eFn f__law_take [] (aCons (eVar 0) (aCons (eC (.int 2)) (aNil))))) (aCons (eVar 7) (aNil)))))) (aNil)))
abbrev cAt : EF := eFn f__law_take [] (aCons (eVar 0) (aCons (eCall maxD (aCons (eC (.int 1)) (aCons (eCall lenD (aCons (eVar 7) (aNil))) (aNil)))) (aNil)))
abbrev cardsB : BF := bThen (bSet 7 (eFn f__law_marks [] (aCons (eVar 3) (aNil)))) (bThen (bSet 8 (eFn f__law_take [] (aCons (eVar 0) (aCons (eC (.int 6)) (aNil))))) (bThen (bSet 9 cAt) (bThen cI0 (bThen cI1 (bThen cI2 (bThen cI3 (bThen (bSet 10 cNum) cApp)))))))
abbrev cText : EF := eFn f__law_text [] (aCons (eVar 0) (aCons (eBin ixD (eFrz (nLst (aCons (eC (.int 0)) (aCons (eC (.int 8)) (aCons (eC (.int 9)) (aCons (eC (.int 60)) (aCons (eFn f__law_take [] (aCons (eVar 0) (aCons (eC (.int 61)) (aNil)))) (aNil)))))))) (eFn f__law_take [] (aCons (eVar 0) (aCons (eC (.int 5)) (aNil))))) (aNil)))
abbrev cBase : EF := eBin ixD (eFrz (nLst (aCons (eC (.int 1)) (aCons (eC (.int 999990)) (aCons (eBin addD (eC (.int 1)) (eFn f__law_take [] (aCons (eVar 0) (aCons (eC (.int 999990)) (aNil))))) (aNil)))))) (eFn f__law_take [] (aCons (eVar 0) (aCons (eC (.int 3)) (aNil))))
theorem cards_is : b__law_cards = bThen (bSet 3 cText) (bThen (bSet 4 cBase) (bThen (bSet 5 (eMut (nLst (aNil)))) (bThen (bFor (iR1 (aCons (eBin addD (eC (.int 3)) (eFn f__law_take [] (aCons (eVar 0) (aCons (eC (.int 4)) (aNil))))) (aNil))) (nmG 6) cardsB) (bRet (eVar 5))))) := rfl
/-! ### cards that are drawn -/
def cutG {α : Type} (xs : List α) (lo hi : Option Int) : List α := (xs.drop (HT.sIx xs.length 0 lo)).take (HT.sIx xs.length xs.length hi - HT.sIx xs.length 0 lo)
theorem cutL_map {α : Type} (f : α → D) (xs : List α) (lo hi : Option Int) : cutL (xs.map f) lo hi = (cutG xs lo hi).map f := by
  simp only [cutL, cutG, List.length_map, List.map_take, List.map_drop]
theorem cutG_mem {α : Type} {xs : List α} {lo hi : Option Int} {y : α} (h : y ∈ cutG xs lo hi) : y ∈ xs := List.mem_of_mem_drop (List.mem_of_mem_take h)
theorem cutG_len {α : Type} (xs : List α) (lo hi : Option Int) : (cutG xs lo hi).length = min (HT.sIx xs.length xs.length hi - HT.sIx xs.length 0 lo) (xs.length - HT.sIx xs.length 0 lo) := by
  unfold cutG
  rw [List.length_take, List.length_drop]
def MkOk (k : Option (List Int)) : Prop := (k.getD []).length ≤ 8 ∧ ∀ i ∈ k.getD [], markB (.int i) = true
theorem MkOk.none : MkOk none := ⟨by simp, fun i hi => by simp at hi⟩
theorem mark_ok (s : Str) : markB (.int (markI s)) = true := by
  obtain ⟨⟨h1, h2⟩, h3, h4⟩ := mark_mr s
  have e : markI s % 256 = (markP s).1 := by
    unfold markI
    omega
  simp only [markB, Bool.and_eq_true, decide_eq_true_eq]
  refine ⟨⟨by unfold markI; omega, by unfold markI; omega⟩, by rw [e]; exact h2⟩
def mkI : D → Int
  | .str s => markI s
  | _ => 0
def marksI (t : Str) : List Int := (cut8 t).map mkI
theorem marks_eq {t : Str} (h : Gs t) : marksD (.str t) = .tup ((marksI t).map D.int) := by
  simp only [marksD, marksI, List.map_map]
  congr 1
  refine List.map_congr_left fun y hy => ?_
  obtain ⟨s, rfl, _⟩ := cut8_str h y hy
  rfl
theorem marksI_ok {t : Str} (h : Gs t) : MkOk (some (marksI t)) := by
  refine ⟨by simp only [Option.getD_some, marksI, List.length_map]; exact cut8_len h, fun i hi => ?_⟩
  simp only [Option.getD_some, marksI] at hi
  obtain ⟨y, hy, rfl⟩ := List.mem_map.mp hi
  obtain ⟨s, rfl, _⟩ := cut8_str h y hy
  exact mark_ok s
theorem ne_unit {i : Nat} {ms : List Int} {δ : List SV} (h : δ[i]? = some (.d (.tup (ms.map D.int)))) : eBin neD (eVar i) (eTup aNil) δ μ = some (.bl (!ms.isEmpty), μ) := by
  have z : eTup aNil δ μ = some (.tup [], μ) := rfl
  have t1 : toPy μ DEEP (.tup (ms.map D.int)) = some (.tuple (ms.map PyData.int)) := by
    show (toPyL (toPy μ 15) _).map PyData.tuple = _
    rw [ints_py]; rfl
  have t2 : toPy μ DEEP (.tup []) = some (.tuple []) := rfl
  have s1 : shp (.tuple (ms.map PyData.int)) = true := by
    simp [shp, SeqAt.shaped, PyData.canLay0, PyData.depth, ints_lay, ints_dep]
  have s2 : shp (.tuple []) = true := by decide +kernel
  have e : PyData.eqv (.tuple (ms.map PyData.int)) (.tuple []) = ms.isEmpty := by cases ms <;> simp [PyData.eqv, PyData.eqvAll]
  refine bin_at (var_at h) z ?_
  have q : neD (.tup (ms.map D.int)) (.tup []) μ = (match eqP (.tup (ms.map D.int)) (.tup []) μ with | some b => some (.bl (!b), μ) | none => none) := rfl
  rw [q]
  have p : eqP (.tup (ms.map D.int)) (.tup []) μ = some ms.isEmpty := by
    simp only [eqP, t1, t2]
    rw [if_pos ⟨s1, s2⟩, e]
  rw [p]
theorem if_set {t : TF} {c : Bool} {i : Nat} {f : EF} {δ : List SV} {v : D} (h : t δ μ = some (c, μ)) (hf : c = true → f δ μ = some (v, μ)) {w : D} (hw : δ[i]? = some (.d w)) : bIf t (bSet i f) bNil δ μ = some (.nx (δ.set i (.d (if c = true then v else w))) μ) := by
  cases c with
  | true =>
    rw [if_at h, if_pos rfl, if_pos rfl]
    exact set_at (hf rfl)
  | false =>
    rw [if_nx h, if_neg Bool.false_ne_true]
    have : δ.set i (.d w) = δ := by
      obtain ⟨lt, e⟩ := List.getElem?_eq_some_iff.mp hw
      rw [← e, List.set_getElem_self]
    rw [this]
theorem marks_step {δ : List SV} {ms : List Int} {w a : Int} {t : Str} (h3 : δ[3]? = some (.d (.str t))) (h7 : δ[7]? = some (.d (.tup (ms.map D.int)))) (h8 : δ[8]? = some (.d (.int w))) (h9 : δ[9]? = some (.d (.int a))) (hl : δ.length = 11) (ok : MkOk (some ms)) (a0 : 0 ≤ a) (a1' : a < max 1 (ms.length : Int)) (gt : Gs t) :
    ∃ k, MkOk k ∧ ∀ K : BF, bThen cI0 (bThen cI1 (bThen cI2 (bThen cI3 K))) δ μ = K (δ.set 7 (.d (mkD k))) μ := by
  obtain ⟨ol, om⟩ := ok
  simp only [Option.getD_some] at ol om
  have back : δ.set 7 (.d (.tup (ms.map D.int))) = δ := by
    obtain ⟨lt, e⟩ := List.getElem?_eq_some_iff.mp h7
    rw [← e, List.set_getElem_self]
  have T : ∀ (c : Int) (ε : List SV), ε[8]? = some (.d (.int w)) → asB (eBin eqD (eVar 8) (eC (.int c))) ε μ = some (decide (w = c), μ) := fun c ε h => eq_at h
  have T3 : ∀ (ε : List SV), ε[8]? = some (.d (.int w)) → w ≠ 3 → tfAnd (asB (eBin eqD (eVar 8) (eC (.int 3)))) (asB (eBin neD (eVar 7) (eTup (aNil)))) ε μ = some (false, μ) := fun ε h q => by
    have := T 3 ε h
    rw [decide_eq_false q] at this
    simp [tfAnd, tThen, this]
  have no : ∀ (c : Int) (f : EF) (ε : List SV), ε[8]? = some (.d (.int w)) → w ≠ c → bIf (asB (eBin eqD (eVar 8) (eC (.int c)))) (bSet 7 f) bNil ε μ = some (.nx ε μ) := fun c f ε h q => if_nx ((T c ε h).trans (by rw [decide_eq_false q]))
  have yes : ∀ (c : Int) (f : EF) (v : D), w = c → f δ μ = some (v, μ) → bIf (asB (eBin eqD (eVar 8) (eC (.int c)))) (bSet 7 f) bNil δ μ = some (.nx (δ.set 7 (.d v)) μ) := fun c f v q e => by
    rw [if_at (T c δ h8), decide_eq_true q, if_pos rfl]
    exact set_at e
  have g8 : ∀ v, (δ.set 7 (.d v))[8]? = some (.d (.int w)) := fun v => get_ne h8 (by decide)
  have v7 : ∀ ν, eVar 7 δ ν = some (.tup (ms.map D.int), ν) := fun ν => var_at h7
  have v9 : ∀ ν, eVar 9 δ ν = some (.int a, ν) := fun ν => var_at h9
  by_cases w0 : w = 0
  · refine ⟨none, MkOk.none, fun K => ?_⟩
    rw [then_nx (yes 0 _ .non w0 rfl), then_nx (no 1 _ _ (g8 _) (by omega)), then_nx (no 2 _ _ (g8 _) (by omega)), then_nx (if_nx (T3 _ (g8 _) (by omega)))]
    rfl
  by_cases w1 : w = 1
  · refine ⟨some (cutG ms none (some a)), ⟨?_, fun i hi => om i (cutG_mem hi)⟩, fun K => ?_⟩
    · simp only [Option.getD_some]
      rw [cutG_len]
      omega
    · have s := slT_at (lo := pNo) (v7 μ) rfl (soE (v9 μ))
      rw [cutL_map] at s
      rw [then_nx (no 0 _ _ h8 w0), then_nx (yes 1 _ _ w1 s), then_nx (no 2 _ _ (g8 _) (by omega)), then_nx (if_nx (T3 _ (g8 _) (by omega)))]
      rfl
  by_cases w2 : w = 2
  · refine ⟨some (cutG (ms ++ [300]) none (some 8)), ⟨?_, fun i hi => ?_⟩, fun K => ?_⟩
    · simp only [Option.getD_some]
      rw [cutG_len]
      simp only [HT.sIx, show ¬ (8 : Int) < 0 by decide, if_false]
      omega
    · rcases List.mem_append.mp (cutG_mem hi) with q | q
      · exact om i q
      · simp at q; subst q; decide
    · have ad := addT_at (v7 μ) (tup1 (f := eC (.int 300)) (y := .int 300) (δ := δ) (μ := μ) rfl) (by rw [List.length_map, List.length_singleton]; omega)
      have s := slT_at (lo := pNo) (hi := pSo (eC (.int 8))) (h := some 8) ad rfl rfl
      rw [show ms.map D.int ++ [D.int 300] = (ms ++ [300]).map D.int by simp, cutL_map] at s
      rw [then_nx (no 0 _ _ h8 w0), then_nx (no 1 _ _ h8 w1), then_nx (yes 2 _ _ w2 s), then_nx (if_nx (T3 _ (g8 _) (by omega)))]
      rfl
  have skip : ∀ K : BF, bThen cI0 (bThen cI1 (bThen cI2 (bThen cI3 K))) δ μ = bThen cI3 K δ μ := fun K => by
    rw [then_nx (no 0 _ _ h8 w0), then_nx (no 1 _ _ h8 w1), then_nx (no 2 _ _ h8 w2)]
  by_cases w3 : w = 3 ∧ ms.isEmpty = false
  · obtain ⟨w3, hne⟩ := w3
    have al : a < ms.length := by
      cases ms with
      | nil => simp at hne
      | cons i is => simp only [List.length_cons] at a1' ⊢; omega
    refine ⟨some ((cutG ms none (some a) ++ [markI (cutS t none (some a))]) ++ cutG ms (some (a + 1)) none), ⟨?_, fun i hi => ?_⟩, fun K => ?_⟩
    · simp only [Option.getD_some, List.length_append, List.length_singleton, cutG_len, HT.sIx, show ¬ a < 0 by omega, show ¬ a + 1 < 0 by omega, if_false]
      omega
    · simp only [Option.getD_some] at hi
      rcases List.mem_append.mp hi with q | q
      · rcases List.mem_append.mp q with q | q
        · exact om i (cutG_mem q)
        · simp at q; subst q; exact mark_ok _
      · exact om i (cutG_mem q)
    · have tT := T 3 δ h8
      rw [decide_eq_true w3] at tT
      have tN := asB_eq (ne_unit (μ := μ) h7)
      rw [hne] at tN
      have TT : tfAnd (asB (eBin eqD (eVar 8) (eC (.int 3)))) (asB (eBin neD (eVar 7) (eTup (aNil)))) δ μ = some (true, μ) := by
        simp [tfAnd, tThen, tT, tN]
      have s1 := slT_at (lo := pNo) (v7 μ) rfl (soE (v9 μ))
      have s2 := slT_at (hi := pNo) (v7 μ) (soE (addE (v9 μ) (fb := eC (.int 1)) rfl)) rfl
      have cs : eSlS (eVar 3) pNo (pSo (eVar 9)) δ μ = some (.str (cutS t none (some a)), μ) := slE (lo := pNo) (var_at h3) rfl (soE (v9 μ)) (by have := gt.1; omega)
      have mk : eFn f__law_mark [] (aCons (eSlS (eVar 3) pNo (pSo (eVar 9))) aNil) δ μ = some (.int (markI (cutS t none (some a))), μ) := fnE (aC cs (a_nil _ _)) (law_mark_ok _ μ)
      have c1 := cutL_len (ms.map D.int) none (some a)
      have c2 := cutL_len (ms.map D.int) (some (a + 1)) none
      rw [List.length_map] at c1 c2
      have r := addT_at (addT_at s1 (tup1 mk) (by rw [List.length_singleton]; omega)) s2 (by rw [List.length_append, List.length_singleton]; omega)
      rw [cutL_map, cutL_map] at r
      have e : bIf (tfAnd (asB (eBin eqD (eVar 8) (eC (.int 3)))) (asB (eBin neD (eVar 7) (eTup (aNil))))) (bSet 7 (eBin addT (eBin addT (eSlT (eVar 7) (pNo) (pSo (eVar 9))) (eTup (aCons (eFn f__law_mark [] (aCons (eSlS (eVar 3) (pNo) (pSo (eVar 9))) (aNil))) (aNil)))) (eSlT (eVar 7) (pSo (eBin addD (eVar 9) (eC (.int 1)))) (pNo)))) (bNil) δ μ = some (.nx (δ.set 7 (.d (.tup ((cutG ms none (some a)).map D.int ++ [.int (markI (cutS t none (some a)))] ++ (cutG ms (some (a + 1)) none).map D.int)))) μ) := by
        rw [if_at TT, if_pos rfl]
        exact set_at r
      rw [skip, then_nx e]
      simp only [mkD, List.map_append, List.map_cons, List.map_nil]
  · refine ⟨some ms, ⟨ol, om⟩, fun K => ?_⟩
    have TT : tfAnd (asB (eBin eqD (eVar 8) (eC (.int 3)))) (asB (eBin neD (eVar 7) (eTup (aNil)))) δ μ = some (false, μ) := by
      by_cases q : w = 3
      · have tT := T 3 δ h8
        rw [decide_eq_true q] at tT
        have tN := asB_eq (ne_unit (μ := μ) h7)
        have he : ms.isEmpty = true := by
          cases z : ms.isEmpty with
          | true => rfl
          | false => exact absurd ⟨q, z⟩ w3
        rw [he] at tN
        simp [tfAnd, tThen, tT, tN]
      · exact T3 δ h8 q
    rw [skip, then_nx (if_nx TT)]
    show K δ μ = K (δ.set 7 (.d (.tup (ms.map D.int)))) μ
    rw [back]
theorem num_draw {n : Nat} {δ : List SV} {base : Int} (B : Bx b n μ) (hn : n ≤ 900) (h0 : δ[0]? = some (.d (.mut b))) (h4 : δ[4]? = some (.d (.int base))) (l1 : 1 ≤ base) (l2 : base ≤ 999990) : ∃ (i : Int) (μ' : List MO), cNum δ μ = some (.int i, μ') ∧ 1 ≤ i ∧ i ≤ 999999 ∧ Bx b (n + 3) μ' ∧ Drawn b μ μ' := by
  obtain ⟨q, μ1, e1, q0, q1, B1, d1⟩ := take_x (i := 0) (δ := δ) (w := 3) (fm := eC (.int 3)) h0 rfl B (by decide) (by decide) (by omega)
  obtain ⟨r, μ2, e2, r0, r1, B2, d2⟩ := take_x (i := 0) (δ := δ) (w := 999999) (fm := eC (.int 999999)) h0 rfl B1 (by decide) (by decide) (by omega)
  have L := frz (aC (addE (var_at (μ := μ) h4) e1) (aC (addE (fa := eC (.int 1)) (a := 1) (μ1 := μ1) rfl e2) (a_nil δ μ2))) (by simp)
  obtain ⟨j, μ3, e3, j0, j1, B3, d3⟩ := take_x (i := 0) (δ := δ) (w := 3) (fm := eC (.int 3)) h0 rfl B2 (by decide) (by decide) (by omega)
  have ix : eCall intD (aCons (eBin eqD (eFn f__law_take [] (aCons (eVar 0) (aCons (eC (.int 3)) (aNil)))) (eC (.int 0))) aNil) δ μ2 = some (.int (if decide (j = 0) = true then 1 else 0), μ3) := callE (aC (eq_int e3 (fb := eC (.int 0)) rfl) (a_nil _ _)) rfl
  by_cases z : j = 0
  · rw [decide_eq_true z, if_pos rfl] at ix
    exact ⟨1 + r, μ3, ixe L ix (by simp [ixD, seqD, L2.atI, L2.ixN]), by omega, by omega, B3, d1.trans (d2.trans d3)⟩
  · rw [decide_eq_false z, if_neg Bool.false_ne_true] at ix
    exact ⟨base + q, μ3, ixe L ix (by simp [ixD, seqD, L2.atI, L2.ixN]), by omega, by omega, B3, d1.trans (d2.trans d3)⟩
def Two (b p : Nat) (μ μ' : List MO) : Prop := ∀ (i : Nat) (o : MO), i ≠ b → i ≠ p → μ[i]? = some o → μ'[i]? = some o
theorem Two.trans {p : Nat} {μ μ' μ'' : List MO} (a : Two b p μ μ') (c : Two b p μ' μ'') : Two b p μ μ'' := fun i o h1 h2 e => c i o h1 h2 (a i o h1 h2 e)
theorem Drawn.two {p : Nat} {μ μ' : List MO} (a : Drawn b μ μ') : Two b p μ μ' := fun i o h1 _ e => a i o h1 e
theorem cards_step {n p q : Nat} {key w0 w1 t : Str} {base : Int} {cs : List Cd} {δ : List SV} (B : Bx b n μ) (hn : n ≤ 800) (hbp : b ≠ p) (hbq : b ≠ q) (hpq : p ≠ q) (kp : μ[p]? = some (.lst (cs.map Cd.dt))) (kq : μ[q]? = some (.lst [.str w0, .str w1])) (hk : NameS key) (n0 : NameS w0) (n1 : NameS w1) (gt : Gs t) (l1 : 1 ≤ base) (l2 : base ≤ 999990) (lc : cs.length ≤ 50)
    (h0 : δ[0]? = some (.d (.mut b))) (h1 : δ[1]? = some (.d (.str key))) (h2 : δ[2]? = some (.d (.mut q))) (h3 : δ[3]? = some (.d (.str t))) (h4 : δ[4]? = some (.d (.int base))) (h5 : δ[5]? = some (.d (.mut p))) (hl : δ.length = 11) :
    ∃ δ' μ' c, cardsB δ μ = some (.nx δ' μ') ∧ CdOk c ∧ c.key = key ∧ μ'[p]? = some (.lst ((cs ++ [c]).map Cd.dt)) ∧ Bx b (n + 6) μ' ∧ Two b p μ μ' ∧ δ'.length = 11 ∧ ∀ j, j < 6 → δ'[j]? = δ[j]? := by
  have ms0 := marksI_ok gt
  have e7 : eFn f__law_marks [] (aCons (eVar 3) (aNil)) δ μ = some (.tup ((marksI t).map D.int), μ) := by
    rw [← marks_eq gt]
    exact fnE (a1 h3) (law_marks_str gt μ)
  let δ1 : List SV := δ.set 7 (.d (.tup ((marksI t).map D.int)))
  have g : ∀ j, j < 7 → δ1[j]? = δ[j]? := fun j hj => get_ne rfl (by omega)
  obtain ⟨w, μ1, e8, w0', w6, B1, d1⟩ := take_x (i := 0) (δ := δ1) (w := 6) (fm := eC (.int 6)) ((g 0 (by decide)).trans h0) rfl B (by decide) (by decide) (by omega)
  let δ2 : List SV := δ1.set 8 (.d (.int w))
  have g2 : ∀ j, j < 7 → δ2[j]? = δ[j]? := fun j hj => (get_ne rfl (by omega)).trans (g j hj)
  have v7 : δ2[7]? = some (.d (.tup ((marksI t).map D.int))) := get_ne (get_set (by omega)) (by decide)
  have v8 : δ2[8]? = some (.d (.int w)) := get_set (by simp [δ1, hl])
  have ln : eCall lenD (aCons (eVar 7) (aNil)) δ2 μ1 = some (.int ((marksI t).length : Nat), μ1) := by
    have := len_tup (var_at (μ := μ1) v7)
    rwa [List.length_map] at this
  have mxE : eCall maxD (aCons (eC (.int 1)) (aCons (eCall lenD (aCons (eVar 7) (aNil))) (aNil))) δ2 μ1 = some (.int (max 1 ((marksI t).length : Int)), μ1) := by
    have := aC (μ := μ1) (f := eC (.int 1)) (δ := δ2) rfl (aC ln (a_nil _ _))
    refine callE this ?_
    have z : (if ((marksI t).length : Int) > 1 then ((marksI t).length : Int) else 1) = max 1 ((marksI t).length : Int) := by
      split <;> omega
    simp only [maxD, z]
  have ol := ms0.1
  simp only [Option.getD_some] at ol
  obtain ⟨a, μ2, e9, a0, am, B2, d2⟩ := take_x (i := 0) (δ := δ2) (w := max 1 ((marksI t).length : Int)) (fm := eCall maxD (aCons (eC (.int 1)) (aCons (eCall lenD (aCons (eVar 7) (aNil))) (aNil)))) ((g2 0 (by decide)).trans h0) mxE B1 (by omega) (by omega) (by omega)
  let δ3 : List SV := δ2.set 9 (.d (.int a))
  have g3 : ∀ j, j < 7 → δ3[j]? = δ[j]? := fun j hj => (get_ne rfl (by omega)).trans (g2 j hj)
  obtain ⟨k, ok, st⟩ := marks_step (μ := μ2) (δ := δ3) ((g3 3 (by decide)).trans h3) (get_ne v7 (by decide)) (get_ne v8 (by decide)) (get_set (by simp [δ2, δ1, hl])) (by simp [δ3, δ2, δ1, hl]) ms0 a0 am gt
  let δ4 : List SV := δ3.set 7 (.d (mkD k))
  have g4 : ∀ j, j < 7 → δ4[j]? = δ[j]? := fun j hj => (get_ne rfl (by omega)).trans (g3 j hj)
  have l4 : δ4.length = 11 := by simp [δ4, δ3, δ2, δ1, hl]
  obtain ⟨i, μ3, e10, i1, i2, B3, d3⟩ := num_draw (δ := δ4) B2 (by omega) ((g4 0 (by decide)).trans h0) ((g4 4 (by decide)).trans h4) l1 l2
  let δ5 : List SV := δ4.set 10 (.d (.int i))
  have g5 : ∀ j, j < 7 → δ5[j]? = δ[j]? := fun j hj => (get_ne rfl (by omega)).trans (g4 j hj)
  have l5 : δ5.length = 11 := by simp [δ5, l4]
  obtain ⟨z, μ4, e11, z0, z2, B4, d4⟩ := take_x (i := 0) (δ := δ5) (w := 2) (fm := eC (.int 2)) ((g5 0 (by decide)).trans h0) rfl B3 (by decide) (by decide) (by omega)
  have dall : Drawn b μ μ4 := d1.trans (d2.trans (d3.trans d4))
  have kq4 := dall q _ (Ne.symm hbq) kq
  have kp4 := dall p _ (Ne.symm hbp) kp
  obtain ⟨wn, hwn, nwn⟩ : ∃ wn : Str, ixD (.mut q) (.int z) μ4 = some (.str wn, μ4) ∧ NameS wn := by
    have : z = 0 ∨ z = 1 := by omega
    rcases this with rfl | rfl
    · exact ⟨w0, ix_seq (x := .mut q) (sk := .l) (xs := [.str w0, .str w1]) (j := 0) (by simp only [seqD, kq4]) rfl, n0⟩
    · exact ⟨w1, ix_seq (x := .mut q) (sk := .l) (xs := [.str w0, .str w1]) (j := 1) (by simp only [seqD, kq4]) rfl, n1⟩
  have v2 : eVar 2 δ5 μ3 = some (.mut q, μ3) := var_at ((g5 2 (by decide)).trans h2)
  have nm := ixe v2 e11 hwn
  let c : Cd := ⟨key, i, wn, k⟩
  have tp : eTup (aCons (eVar 1) (aCons (eVar 10) (aCons (eBin ixD (eVar 2) (eFn f__law_take [] (aCons (eVar 0) (aCons (eC (.int 2)) (aNil))))) (aCons (eVar 7) (aNil))))) δ5 μ3 = some (c.dt, μ4) := by
    have v7' : eVar 7 δ5 μ4 = some (mkD k, μ4) := var_at (get_ne (get_set (by simp [δ3, δ2, δ1, hl])) (by decide))
    have := aC (var_at (μ := μ3) ((g5 1 (by decide)).trans h1)) (aC (var_at (μ := μ3) (i := 10) (x := .int i) (δ := δ5) (get_set (by omega))) (aC nm (aC v7' (a_nil _ _))))
    simp [eTup, this]
    rfl
  have pl := (List.getElem?_eq_some_iff.mp kp4).1
  have ap : eMt "list" appendD (eVar 5) (aCons (eTup (aCons (eVar 1) (aCons (eVar 10) (aCons (eBin ixD (eVar 2) (eFn f__law_take [] (aCons (eVar 0) (aCons (eC (.int 2)) (aNil))))) (aCons (eVar 7) (aNil)))))) (aNil)) δ5 μ3 = some (.non, μ4.set p (.lst (cs.map Cd.dt ++ [c.dt]))) := by
    have kp3 : μ3[p]? = some (.lst (cs.map Cd.dt)) := (d1.trans (d2.trans d3)) p _ (Ne.symm hbp) kp
    refine mtE (x := .mut p) (var_at ((g5 5 (by decide)).trans h5)) (by simp [tyB, kp3]) (aC tp (a_nil _ _)) ?_
    simp only [appendD, kp4]
    rw [if_pos (by rw [List.length_map]; omega)]
  refine ⟨δ5, μ4.set p (.lst (cs.map Cd.dt ++ [c.dt])), c, ?_, ⟨hk, nwn, i1, i2, ok.1, ok.2⟩, rfl, ?_, ?_, ?_, l5, fun j hj => g5 j (by omega)⟩
  · rw [show cardsB = bThen (bSet 7 _) (bThen (bSet 8 _) (bThen (bSet 9 cAt) (bThen cI0 (bThen cI1 (bThen cI2 (bThen cI3 (bThen (bSet 10 cNum) cApp))))))) from rfl, then_set e7, then_set e8, then_set e9, st, then_set e10]
    exact expr_at ap
  · rw [List.getElem?_set_self pl, List.map_append]
    rfl
  · obtain ⟨o, eo, bo⟩ := B4
    exact ⟨o, by rw [List.getElem?_set_ne (Ne.symm hbp)]; exact eo, bo⟩
  · intro j o hj hjp eo
    rw [List.getElem?_set_ne (Ne.symm hjp)]
    exact dall j o hj eo
end Law

set_option Elab.async false
set_option linter.all false
set_option autoImplicit false
set_option maxRecDepth 100000
set_option maxHeartbeats 4000000
namespace Law
open PySem PySem.Spec PySem.Calls L2 G GL
variable {b m : Nat} {μ : List MO} {x y : D}
def AllOk (key : Str) (cs : List Cd) : Prop := ∀ c ∈ cs, CdOk c ∧ c.key = key
theorem cards_loop {p q : Nat} {key w0 w1 t : Str} {base : Int} (hbp : b ≠ p) (hbq : b ≠ q) (hpq : p ≠ q) (hk : NameS key) (n0 : NameS w0) (n1 : NameS w1) (gt : Gs t) (l1 : 1 ≤ base) (l2 : base ≤ 999990) : ∀ (ds : List D) (n : Nat) (cs : List Cd) (δ : List SV) (μ : List MO), Bx b n μ → n + 6 * ds.length ≤ 700 → cs.length + ds.length ≤ 50 → μ[p]? = some (.lst (cs.map Cd.dt)) → μ[q]? = some (.lst [.str w0, .str w1]) → AllOk key cs →
    δ[0]? = some (.d (.mut b)) → δ[1]? = some (.d (.str key)) → δ[2]? = some (.d (.mut q)) → δ[3]? = some (.d (.str t)) → δ[4]? = some (.d (.int base)) → δ[5]? = some (.d (.mut p)) → δ.length = 11 →
    ∃ δ' μ' cs', forLoop (nmG 6) cardsB ds δ μ = some (.nx δ' μ') ∧ cs'.length = cs.length + ds.length ∧ AllOk key cs' ∧ μ'[p]? = some (.lst (cs'.map Cd.dt)) ∧ Bx b (n + 6 * ds.length) μ' ∧ Two b p μ μ' ∧ δ'[5]? = some (.d (.mut p))
  | [], n, cs, δ, μ, B, _, _, kp, _, ok, _, _, _, _, _, h5, _ => ⟨δ, μ, cs, rfl, by simp, ok, kp, B, fun _ _ _ _ e => e, h5⟩
  | z :: ds, n, cs, δ, μ, B, hn, hc, kp, kq, ok, h0, h1, h2, h3, h4, h5, hl => by
    rw [List.length_cons] at hn hc
    let δ1 := δ.set 6 (.d z)
    have g : ∀ j, j < 6 → δ1[j]? = δ[j]? := fun j hj => get_ne rfl (by omega)
    obtain ⟨δ2, μ2, c, e2, oc, ck, k2, B2, tw, l2', g2⟩ := cards_step (δ := δ1) B (by omega) hbp hbq hpq kp kq hk n0 n1 gt l1 l2 (by omega) ((g 0 (by decide)).trans h0) ((g 1 (by decide)).trans h1) ((g 2 (by decide)).trans h2) ((g 3 (by decide)).trans h3) ((g 4 (by decide)).trans h4) ((g 5 (by decide)).trans h5) (by simp [δ1, hl])
    have gg : ∀ j, j < 6 → δ2[j]? = δ[j]? := fun j hj => (g2 j hj).trans (g j hj)
    have ok2 : AllOk key (cs ++ [c]) := fun u hu => by
      rcases List.mem_append.mp hu with hu | hu
      · exact ok u hu
      · simp at hu; subst hu; exact ⟨oc, ck⟩
    obtain ⟨δ3, μ3, cs', e3, r1, r2, r3, r4, r5, r6⟩ := cards_loop hbp hbq hpq hk n0 n1 gt l1 l2 ds (n + 6) (cs ++ [c]) δ2 μ2 B2 (by omega) (by rw [List.length_append, List.length_singleton]; omega) k2 (tw q _ (Ne.symm hbq) (Ne.symm hpq) kq) ok2 ((gg 0 (by decide)).trans h0) ((gg 1 (by decide)).trans h1) ((gg 2 (by decide)).trans h2) ((gg 3 (by decide)).trans h3) ((gg 4 (by decide)).trans h4) ((gg 5 (by decide)).trans h5) l2'
    refine ⟨δ3, μ3, cs', ?_, by rw [r1, List.length_append, List.length_singleton, List.length_cons]; omega, r2, r3, by rw [List.length_cons, show n + 6 * (ds.length + 1) = n + 6 + 6 * ds.length by omega]; exact r4, tw.trans r5, r6⟩
    rw [for_cons e2]
    exact e3
theorem law_cards_ok {n q : Nat} {key w0 w1 : Str} (B : Bx b n μ) (hn : n ≤ 200) (hbq : b ≠ q) (kq : μ[q]? = some (.lst [.str w0, .str w1])) (hk : NameS key) (n0 : NameS w0) (n1 : NameS w1) : ∃ p c cs μ', f__law_cards [.mut b, .str key, .mut q] μ = some (.mut p, μ') ∧ μ.length ≤ p ∧ μ'[p]? = some (.lst ((c :: cs).map Cd.dt)) ∧ AllOk key (c :: cs) ∧ 2 ≤ cs.length ∧ cs.length ≤ 5 ∧ Bx b (n + 120) μ' ∧ Drawn b μ μ' := by
  let δ0 : List SV := startD 11 [.mut b, .str key, .mut q]
  -- the text
  obtain ⟨s1, μ1, e1, a0, a1', B1, d1⟩ := take_x (i := 0) (δ := δ0) (w := 61) (fm := eC (.int 61)) rfl rfl B (by decide) (by decide) (by omega)
  have L := frz (aC (f := eC (.int 0)) (δ := δ0) (μ := μ) rfl (aC (f := eC (.int 8)) rfl (aC (f := eC (.int 9)) rfl (aC (f := eC (.int 60)) rfl (aC e1 (a_nil _ _)))))) (by simp)
  obtain ⟨j, μ2, e2, j0, j5, B2, d2⟩ := take_x (i := 0) (δ := δ0) (w := 5) (fm := eC (.int 5)) rfl rfl B1 (by decide) (by decide) (by omega)
  obtain ⟨z, ez, hz⟩ := ix_lst (xs := [.int 0, .int 8, .int 9, .int 60, .int s1]) (μ := μ2) j0 j5
  obtain ⟨l, rfl, hl⟩ : ∃ l : Nat, z = .int (l : Nat) ∧ l ≤ 60 := by
    simp only [List.mem_cons, List.mem_nil_iff, or_false] at hz
    rcases hz with rfl | rfl | rfl | rfl | rfl
    · exact ⟨0, rfl, by decide⟩
    · exact ⟨8, rfl, by decide⟩
    · exact ⟨9, rfl, by decide⟩
    · exact ⟨60, rfl, by decide⟩
    · exact ⟨s1.toNat, by rw [Int.toNat_of_nonneg a0], by omega⟩
  obtain ⟨t, μ3, e3, gd, tl, B3⟩ := text_ok B2.bg (by omega) (show l ≤ 70 by omega)
  have gt : Gs t := ⟨by omega, fun c hc => (gd c hc).1⟩
  have ft : cText δ0 μ = some (.str t, μ3) := fnE (aC (var_at (x := .mut b) rfl) (aC (ixe L e2 ez) (a_nil _ _))) e3
  have B3' : Bx b (n + 1 + 1 + l) μ3 := B3.1
  let δ1 : List SV := δ0.set 3 (.d (.str t))
  -- the base
  obtain ⟨r, μ4, e4, r0, r1, B4, d4⟩ := take_x (i := 0) (δ := δ1) (w := 999990) (fm := eC (.int 999990)) rfl rfl B3' (by decide) (by decide) (by omega)
  have Lb := frz (aC (f := eC (.int 1)) (δ := δ1) (μ := μ3) rfl (aC (f := eC (.int 999990)) rfl (aC (addE (fa := eC (.int 1)) (a := 1) (μ1 := μ3) rfl e4) (a_nil _ _)))) (by simp)
  obtain ⟨h, μ5, e5, h0, h3, B5, d5⟩ := take_x (i := 0) (δ := δ1) (w := 3) (fm := eC (.int 3)) rfl rfl B4 (by decide) (by decide) (by omega)
  obtain ⟨y, ey, hy⟩ := ix_lst (xs := [.int 1, .int 999990, .int (1 + r)]) (μ := μ5) h0 h3
  obtain ⟨base, rfl, b1, b2⟩ : ∃ base : Int, y = .int base ∧ 1 ≤ base ∧ base ≤ 999990 := by
    simp only [List.mem_cons, List.mem_nil_iff, or_false] at hy
    rcases hy with rfl | rfl | rfl
    · exact ⟨_, rfl, by decide, by decide⟩
    · exact ⟨_, rfl, by decide, by decide⟩
    · exact ⟨_, rfl, by omega, by omega⟩
  have fb : cBase δ1 μ3 = some (.int base, μ5) := ixe Lb e5 ey
  let δ2 : List SV := δ1.set 4 (.d (.int base))
  have d05 : Drawn b μ μ5 := d1.trans (d2.trans (B3.2.trans (d4.trans d5)))
  -- the list
  let p := μ5.length
  let μ6 := μ5 ++ [MO.lst []]
  have fp : eMut (nLst aNil) δ2 μ5 = some (.mut p, μ6) := mutL (a_nil _ _) (by simp)
  let δ3 : List SV := δ2.set 5 (.d (.mut p))
  have B6 : Bx b (n + 1 + 1 + l + 1 + 1) μ6 := B5.keeps (Keeps.app _ _)
  have hp : b < p := B5.lt
  have ql := (List.getElem?_eq_some_iff.mp (d05 q _ (Ne.symm hbq) kq)).1
  have lp : μ.length ≤ p := by
    rcases Nat.lt_or_ge p μ.length with h | h
    · have e := List.getElem?_eq_getElem h
      have := (List.getElem?_eq_some_iff.mp (d05 p _ (by omega) e)).1
      omega
    · exact h
  -- the cards
  obtain ⟨g, μ7, e7, g0, g4, B7, d7⟩ := take_x (i := 0) (δ := δ3) (w := 4) (fm := eC (.int 4)) rfl rfl B6 (by decide) (by decide) (by omega)
  have ar : aCons (eBin addD (eC (.int 3)) (eFn f__law_take [] (aCons (eVar 0) (aCons (eC (.int 4)) (aNil))))) (aNil) δ3 μ6 = some ([.int ((3 + g.toNat : Nat) : Int)], μ7) := by
    have := aC (addE (fa := eC (.int 3)) (a := 3) (μ1 := μ6) rfl e7) (a_nil δ3 μ7)
    rw [show ((3 + g.toNat : Nat) : Int) = 3 + g by omega]
    exact this
  have k7 : μ7[p]? = some (.lst (([] : List Cd).map Cd.dt)) := d7 p _ (by omega) (by simp [μ6, p])
  have q7 : μ7[q]? = some (.lst [.str w0, .str w1]) := d7 q _ (Ne.symm hbq) (getP (d05 q _ (Ne.symm hbq) kq))
  obtain ⟨δ4, μ8, cs', e8, r1', r2', r3', r4', r5', r6'⟩ := cards_loop (p := p) (q := q) (b := b) (by omega) hbq (by omega) hk n0 n1 gt b1 b2 (rangeD 0 (3 + g.toNat)) (n + 1 + 1 + l + 1 + 1 + 1) [] δ3 μ7 B7 (by rw [range_len]; omega) (by rw [range_len]; simp; omega) k7 q7 (fun c hc => nomatch hc) rfl rfl rfl rfl rfl rfl rfl
  rw [range_len, List.length_nil] at r1'
  rw [range_len] at r4'
  have F : f__law_cards [.mut b, .str key, .mut q] μ = some (.mut p, μ8) := by
    refine run_of ?_
    rw [cards_is, then_set ft, then_set fb, then_set fp, then_for (iR1_at ar (by omega)) e8]
    exact ret_eq (var_at r6')
  cases cs' with
  | nil => simp only [List.length_nil] at r1'; omega
  | cons c cs =>
    simp only [List.length_cons] at r1'
    refine ⟨p, c, cs, μ8, F, lp, r3', r2', by omega, by omega, r4'.mono (by omega), fun i o hi e => ?_⟩
    have lt := (List.getElem?_eq_some_iff.mp e).1
    exact r5' i o hi (by omega) (d7 i o hi (getP (d05 i o hi e)))
/-! ### the law's order -/
theorem g1 {f : EF} {c : Cd} {δ : List SV} (j : Nat) (hj : j < 4) (h : f δ μ = some (c.dt, μ)) : eBin ixD f (eC (.int (j : Nat))) δ μ = some ([D.str c.key, .int c.num, .str c.bye, mkD c.mks].getD j .non, μ) := ixe h (fy := eC (.int (j : Nat))) rfl (ix4d j hj μ)
theorem ltS {fa fb : EF} {δ : List SV} {μ1 μ2 : List MO} {u w : Str} (h1 : fa δ μ = some (.str u, μ1)) (h2 : fb δ μ1 = some (.str w, μ2)) : eBin ltD fa fb δ μ = some (.bl (decide (u.cps.toList < w.cps.toList)), μ2) := by simp [eBin, eThen, h1, h2, ltD]
theorem law_ahead_ok (a c : Cd) (μ : List MO) : f__law_ahead [a.dt, c.dt] μ = some (.bl (ahd a c), μ) := by
  let δ := startD 2 [a.dt, c.dt]
  have v0 : eVar 0 δ μ = some (a.dt, μ) := rfl
  have v1 : eVar 1 δ μ = some (c.dt, μ) := rfl
  have a01 : eBin ixD (eVar 0) (eC (.int 1)) δ μ = some (.int a.num, μ) := g1 1 (by decide) v0
  have a11 : eBin ixD (eVar 1) (eC (.int 1)) δ μ = some (.int c.num, μ) := g1 1 (by decide) v1
  have a02 : eBin ixD (eVar 0) (eC (.int 2)) δ μ = some (.str a.bye, μ) := g1 2 (by decide) v0
  have a12 : eBin ixD (eVar 1) (eC (.int 2)) δ μ = some (.str c.bye, μ) := g1 2 (by decide) v1
  have n1 := ne_int a01 a11
  have n2 := ne_str a02 a12
  have k0 : eBin ixD (eVar 0) (eC (.int 3)) δ μ = some (mkD a.mks, μ) := g1 3 (by decide) v0
  have k1 : eBin ixD (eVar 1) (eC (.int 3)) δ μ = some (mkD c.mks, μ) := g1 3 (by decide) v1
  refine run_of ?_
  rw [show b__law_ahead = bThen (bIf _ (bRet _) bNil) (bThen (bIf _ (bRet _) bNil) (bThen (bIf _ (bRet _) bNil) (bRet _))) from rfl]
  by_cases q1 : a.num = c.num
  · rw [ask_on (tf_f (asB_eq n1) (by rw [decide_eq_true q1]; rfl))]
    by_cases q2 : a.bye = c.bye
    · rw [ask_on (tf_f (asB_eq n2) (by rw [decide_eq_true q2]; rfl)), ahd_mk q1 q2]
      cases ha : a.mks with
      | none =>
        rw [ha] at k0
        have T := or_eq (b := true) (g := asB (eIsN (eBin ixD (eVar 1) (eC (.int 3))))) (isN_non k0) fun z => nomatch z
        have i0 : eIsN (eBin ixD (eVar 0) (eC (.int 3))) δ μ = some (.bl true, μ) := isN_of k0
        have A : eAndV (eIsN (eBin ixD (eVar 0) (eC (.int 3)))) (eNotN (eBin ixD (eVar 1) (eC (.int 3)))) δ μ = some (.bl (match c.mks with | none => false | some _ => true), μ) := by
          cases hc : c.mks with
          | none => rw [hc] at k1; exact and_t i0 (notN_non k1)
          | some y => rw [hc] at k1; exact and_t i0 (notN_no k1 (fun z => nomatch z))
        refine (ask_ret T A).trans ?_
        cases c.mks <;> rfl
      | some xs =>
        rw [ha] at k0
        have i0 := isN_no k0 (fun z => nomatch z)
        cases hc : c.mks with
        | none =>
          rw [hc] at k1
          have T := or_eq i0 fun _ => isN_non k1
          have A : eAndV (eIsN (eBin ixD (eVar 0) (eC (.int 3)))) (eNotN (eBin ixD (eVar 1) (eC (.int 3)))) δ μ = some (.bl false, μ) := and_eq (a := false) (b := false) (isN_of k0) fun z => nomatch z
          exact ask_ret T A
        | some ys =>
          rw [hc] at k1
          have T := or_eq i0 fun _ => isN_no k1 (fun z => nomatch z)
          rw [ask_on T]
          have p1 : ∀ zs : List Int, toPy μ DEEP (mkD (some zs)) = some (.tuple (zs.map PyData.int)) := fun zs => mk_py μ 14 (some zs)
          exact ret_eq (ltT_at k0 k1 (p1 xs) (p1 ys) (alike_ints xs ys) (by simp only [PyData.depth, ints_dep]; omega))
    · rw [ask_ret (tf_t (asB_eq n2) (by rw [decide_eq_false q2]; rfl)) (ltS a02 a12), ahd_bye q1 q2]
  · rw [ask_ret (tf_t (asB_eq n1) (by rw [decide_eq_false q1]; rfl)) (ltE a01 a11), ahd_num q1]
theorem bl_repr {f : EF} {c : Bool} {δ : List SV} {μ1 : List MO} (h : f δ μ = some (.bl c, μ1)) : eCall (reprM exNm) (aCons f aNil) δ μ = some (.str (rpM μ1 (.bl c)), μ1) := repr_at (b := 0) (m := 0) h (Th.lf (.bl c)) (by decide)
theorem pair_right_ok {a c : Cd} (ha : CdOk a) (hc : CdOk c) (hk : c.key = a.key) (μ : List MO) : f__law_pair_right [a.dt, c.dt] μ = some (.bl true, μ) := by
  let δ := startD 3 [a.dt, c.dt]
  let δ1 : List SV := δ.set 2 (.d (.bl (ahd a c)))
  have ar : ∀ ε : List SV, ε[0]? = some (.d a.dt) → ε[1]? = some (.d c.dt) → aCons (eVar 0) (aCons (eVar 1) (aNil)) ε μ = some ([a.dt, c.dt], μ) := fun ε h0 h1 => aC (var_at h0) (a1 h1)
  have e2 : eFn f__law_ahead [] (aCons (eVar 0) (aCons (eVar 1) (aNil))) δ μ = some (.bl (ahd a c), μ) := fnE (ar δ rfl rfl) (law_ahead_ok a c μ)
  have A := bl_repr (fnX (ar δ1 rfl rfl) (ahead_ok ha hc hk μ))
  have C := bl_repr (f := eVar 2) (c := ahd a c) (δ := δ1) (μ := μ) rfl
  have N := asB_eq (ne_str A C)
  have oa : CdOk (gr a c) := by rcases gr_mem a c with q | q <;> rw [q] <;> assumption
  have G := card_repr_at (fnX (ar δ1 rfl rfl) (greater_ok ha hc hk μ)) oa
  have I : eIf (asB (eVar 2)) (eVar 1) (eVar 0) δ1 μ = some ((gr a c).dt, μ) := by
    have v : asB (eVar 2) δ1 μ = some (ahd a c, μ) := asB_eq rfl
    unfold gr
    cases q : ahd a c with
    | true => rw [q] at v; exact if_t v rfl
    | false => rw [q] at v; exact if_f v rfl
  have E := eq_str G (card_repr_at I oa)
  refine run_of ?_
  rw [show b__law_pair_right = bThen (bSet 2 _) (bThen (bIf _ (bRet _) bNil) (bRet _)) from rfl, then_set e2, ask_on (tf_f N (by simp))]
  exact ret_true E (by simp)
end Law

set_option Elab.async false
set_option linter.all false
set_option autoImplicit false
set_option maxRecDepth 100000
set_option maxHeartbeats 4000000
namespace Law
open PySem PySem.Spec PySem.Calls L2 G GL
variable {b m p : Nat} {μ : List MO} {x y : D}
/-! ### what grows -/
theorem grown_lst {k : Nat} {xs : List D} (e : μ[k]? = some (.lst xs)) (hl : xs.length ≤ 1000) : f__law_grown [.mut k] μ = some (.non, μ.set k (.lst (xs ++ [.int 7]))) := by
  let δ : List SV := startD 1 [.mut k]
  have d0 : δ[0]? = some (.d (.mut k)) := rfl
  have lt := (List.getElem?_eq_some_iff.mp e).1
  have ty : ∀ {ν : List MO} {ys : List D} {T : String} {c : Bool}, ν[k]? = some (.lst ys) → kitB "list" T = some c → isiG [.mut k, .ty T] ν = some (.bl c, ν) := fun e hk => by simp [isiG, isiP, typeD, e, hk]
  have q1 := asB_eq (isi_at (i := 0) (f := eC (.ty "list")) d0 rfl (ty e (by decide +kernel : kitB "list" "list" = some true)))
  have q2 := asB_eq (isi_at (i := 0) (f := eC (.ty "dict")) (μ := μ.set k (.lst (xs ++ [.int 7]))) d0 rfl (ty (List.getElem?_set_self lt) (by decide +kernel : kitB "list" "dict" = some false)))
  have ap : eMt "list" appendD (eVar 0) (aCons (eC (.int 7)) (aNil)) δ μ = some (.non, μ.set k (.lst (xs ++ [.int 7]))) := by
    refine mtE (var_at d0) (by simp [tyB, e]) (aC (f := eC (.int 7)) rfl (a_nil δ μ)) ?_
    simp only [appendD, e]
    rw [if_pos (by omega)]
  have s1 : bIf (asB (eCall isiG (aCons (eVar 0) (aCons (eC (.ty "list")) (aNil))))) (bExpr (eMt "list" appendD (eVar 0) (aCons (eC (.int 7)) (aNil)))) (bNil) δ μ = some (.nx δ (μ.set k (.lst (xs ++ [.int 7])))) := by
    rw [if_at q1]
    simp [bExpr, ap]
  show runB 1 b__law_grown [.mut k] _ = _
  simp only [runB]
  rw [show b__law_grown (startD 1 [.mut k]) _ = _ from (then_nx s1).trans (if_nx q2)]
theorem grown_dct {k : Nat} {s : List Key × List D} (hb : b < k) (hs : s ∈ dst) (e : μ[k]? = some (.dct s.1 s.2)) : ∃ s' ∈ dst, f__law_grown [.mut k] μ = some (.non, μ.set k (.dct s'.1 s'.2)) := by
  let δ : List SV := startD 1 [.mut k]
  have d0 : δ[0]? = some (.d (.mut k)) := rfl
  have h : Th b μ 8 (.mut k) := .inr ⟨k, s, rfl, hb, hs, e⟩
  have q1 := asB_eq (isi_at (i := 0) (f := eC (.ty "list")) d0 rfl (isi_ty h (T := "list") (by decide)))
  have q2 := asB_eq (isi_at (i := 0) (f := eC (.ty "dict")) (μ := μ) d0 rfl (isi_ty h (T := "dict") (by decide)))
  rw [show tyIs (tyM μ (.mut k)) "list" = false by simp [tyM, typeD, e, tyIs]] at q1
  rw [show tyIs (tyM μ (.mut k)) "dict" = true by simp [tyM, typeD, e, tyIs]] at q2
  obtain ⟨p1, p2⟩ := put_dst s hs
  refine ⟨_, p1, ?_⟩
  show runB 1 b__law_grown [.mut k] _ = _
  simp only [runB]
  rw [show b__law_grown (startD 1 [.mut k]) _ = some (.nx δ (μ.set k (.dct (putX s.1 s.2 (.inr "more") (.int 7)).1 (putX s.1 s.2 (.inr "more") (.int 7)).2))) from by
    refine (then_nx (if_nx q1)).trans ?_
    rw [if_at q2]
    simp only [if_true]
    simp only [bDPut, eC, var_at (μ := μ) d0, keyD, e]
    rw [if_pos p2]]
theorem grown_fix (h : Th b μ m x) (hx : ∀ k, x ≠ .mut k) : f__law_grown [x] μ = some (.non, μ) := by
  let δ : List SV := startD 1 [x]
  have d0 : δ[0]? = some (.d x) := rfl
  have q1 := asB_eq (isi_at (i := 0) (f := eC (.ty "list")) d0 rfl (isi_ty h (T := "list") (by decide)))
  have q2 := asB_eq (isi_at (i := 0) (f := eC (.ty "dict")) (μ := μ) d0 rfl (isi_ty h (T := "dict") (by decide)))
  have n1 : tyIs (tyM μ x) "list" = false ∧ tyIs (tyM μ x) "dict" = false := by
    rcases id h with (hl | ⟨xs, rfl, _, _⟩ | ⟨k, xs, rfl, _, _, _, _⟩) | ⟨k, s, rfl, _, _, _⟩
    · cases hl <;> exact ⟨by simp [tyM, typeD, tyIs], by simp [tyM, typeD, tyIs]⟩
    · exact ⟨by simp [tyM, typeD, tyIs], by simp [tyM, typeD, tyIs]⟩
    · exact absurd rfl (hx k)
    · exact absurd rfl (hx k)
  rw [n1.1] at q1
  rw [n1.2] at q2
  show runB 1 b__law_grown [x] _ = _
  simp only [runB]
  rw [show b__law_grown (startD 1 [x]) _ = _ from (then_nx (if_nx q1)).trans (if_nx q2)]
/-! ### the odd ones -/
inductive Odd (b p m : Nat) (μ : List MO) : D → Prop
  | chg {k : Nat} : Th b μ m (.mut k) → p < k → Odd b p m μ (.mut k)
  | fix {x : D} : (∀ ν, Th b ν 8 x ∧ OT (cl (rpM ν x))) → cardB x = false → (∀ k, x ≠ .mut k) → 8 ≤ m → Odd b p m μ x
theorem Odd.th (h : Odd b p m μ x) : Th b μ m x := by
  cases h with
  | chg h _ => exact h
  | fix h _ _ l => exact (h μ).1.mono l
theorem Odd.no (h : Odd b p m μ x) : cardB x = false := by
  cases h with
  | chg _ _ => rfl
  | fix _ h _ _ => exact h
theorem Odd.ot (h : Odd b p m μ x) (hm : m ≤ 20) : OT (cl (rpM μ x)) := by
  cases h with
  | chg h _ => exact mut_ot h hm
  | fix h _ _ _ => exact (h μ).2
theorem Odd.ev {c : Nat} {μ' : List MO} (h : Odd b p m μ x) (r : Ev b c μ μ') : Odd b p (m + c) μ' x := by
  cases h with
  | chg h hp => exact .chg (h.ev r) hp
  | fix h h2 h3 l => exact .fix h h2 h3 (by omega)
theorem Odd.dr {μ' : List MO} (h : Odd b p m μ x) (r : Drawn b μ μ') : Odd b p m μ' x := by
  cases h with
  | chg h hp => exact .chg (h.dr r (Nat.le_refl _)) hp
  | fix h h2 h3 l => exact .fix h h2 h3 l
/-- the list at p stands -/
def Kp (p : Nat) (μ μ' : List MO) : Prop := ∀ o, μ[p]? = some o → μ'[p]? = some o
theorem Odd.grown (h : Odd b p m μ x) (hm : m ≤ 100) (hbp : b < p) : ∃ μ', f__law_grown [x] μ = some (.non, μ') ∧ Ev b 1 μ μ' ∧ Kp p μ μ' := by
  cases h with
  | chg h hp =>
    rename_i k
    rcases id h with (h' | ⟨xs, q, _⟩ | ⟨k', xs, q, hk, e, hl, ha⟩) | ⟨k', s, q, hk, hs, e⟩
    · cases h'
    · cases q
    · cases q
      exact ⟨_, grown_lst e (by omega), Ev.set_lst hk e, fun o eo => by rw [List.getElem?_set_ne (by omega)]; exact eo⟩
    · cases q
      obtain ⟨s', hs', e'⟩ := grown_dct hk hs e
      exact ⟨_, e', Ev.set_dct hk e hs', fun o eo => by rw [List.getElem?_set_ne (by omega)]; exact eo⟩
  | fix h h2 h3 l => exact ⟨μ, grown_fix (h μ).1 h3, (Keeps.refl μ).ev b 1, fun o eo => eo⟩
def otB (t : List Nat) : Bool := decide (t[0]? ≠ some 40) || (decide (t[1]? ≠ some 39) || decide (t.reverse[1]? = some 39))
theorem otB_ot {t : List Nat} (h : otB t = true) : OT t := by
  simp only [otB, Bool.or_eq_true, decide_eq_true_eq] at h
  rcases h with h | h | h
  · exact .inl h
  · exact .inr (.inl h)
  · exact .inr (.inr (.inr h))
theorem rp_of {ν : List MO} {p : PyData} {w d : Nat} (e : toPy ν DEEP x = some p) (s : Sm w d p) (hd : d ≤ 10) (hw : w ≤ 29000) (et : txM exNm ν x = (tx exNm ν x).map (fun t => (false, t))) : rpM ν x = p.shown := by
  unfold rpM
  rw [rpr_exact e s hd hw et]
theorem fix_ot {p : PyData} (e : ∀ ν, toPy ν DEEP x = some p) (et : ∀ ν, txM exNm ν x = (tx exNm ν x).map (fun t => (false, t))) (h : ∀ b ν, Tm b ν 8 2 x) (o : OT (cl p.shown)) : ∀ b ν, Th b ν 8 x ∧ OT (cl (rpM ν x)) := fun b ν => by
  refine ⟨.inl (h b ν), ?_⟩
  obtain ⟨p', e', s⟩ := Tm.py (by decide : 8 ≤ 20) 2 13 (h b ν)
  have e2 := e ν
  rw [show DEEP = 13 + 2 + 1 from rfl, e'] at e2
  cases e2
  rw [rp_of (w := wide 2) (d := 3) (e ν) s (by decide) (by decide) (et ν)]
  exact o
theorem fix_lf {p : PyData} (hl : Lf x) (e : ∀ ν, toPy ν DEEP x = some p) (et : ∀ ν, txM exNm ν x = (tx exNm ν x).map (fun t => (false, t))) (o : otB (cl p.shown) = true) : ∀ b ν, Th b ν 8 x ∧ OT (cl (rpM ν x)) := fix_ot e et (fun b ν => Tm.lf hl) (otB_ot o)
theorem fix_tup {p : PyData} {xs : List D} (hl : xs.length ≤ 20) (ha : ∀ y ∈ xs, Lf y) (e : ∀ ν, toPy ν DEEP (.tup xs) = some p) (o : otB (cl p.shown) = true) : ∀ b ν, Th b ν 8 (.tup xs) ∧ OT (cl (rpM ν (.tup xs))) := fix_ot e (fun _ => rfl) (fun b ν => .inr (.inl ⟨xs, rfl, hl, fun y hy => Tm.lf (ha y hy)⟩)) (otB_ot o)
theorem thing_od {n : Nat} (h : Bx b n μ) (hn : n ≤ 1000) (hp : p < μ.length) : ∃ x μ', f__law_thing [.mut b] μ = some (x, μ') ∧ Odd b p 8 μ' x ∧ Bx b (n + 1) μ' ∧ Drawn b μ μ' := by
  let L := μ.length
  have hb := h.lt
  let δ0 : List SV := startD 2 [.mut b]
  have kM : Keeps μ (thingM μ) := ((Keeps.app _ _).trans (Keeps.app _ _)).trans ((Keeps.app _ _).trans (Keeps.app _ _))
  have i0 : (thingM μ)[L]? = some (.lst []) := by simp [thingM, L]
  have i1 : (thingM μ)[L + 1]? = some (.lst [.str "a"]) := by simp [thingM, L]
  have i2 : (thingM μ)[L + 2]? = some (.dct [] []) := by simp [thingM, L]
  have i3 : (thingM μ)[L + 3]? = some (.dct [.inr "a"] [.int 1]) := by simp [thingM, L]
  have S : eFrz (nLst (aCons (eC .non) (aCons (eC (.bl true)) (aCons (eC (.bl false)) (aCons (eC (.int 0)) (aCons (eC (.int 1)) (aCons (eNeg (eC (.int 1))) (aCons (eBin powD (eC (.int 10)) (eC (.int 29))) (aCons (eC (.str "")) (aCons (eC (.str "A")) (aCons (eC (.str "a b")) (aCons (eTup (aNil)) (aCons (eTup (aCons (eC (.int 1)) (aNil))) (aCons (eMut (nLst (aNil))) (aCons (eMut (nLst (aCons (eC (.str "a")) (aNil)))) (aCons (eDctM0) (aCons (eDctM1 (.inr "a") (eC (.int 1))) (aCons (eTup (aCons (eC (.str "a")) (aCons (eC (.int 1)) (aCons (eC (.str "b")) (aNil))))) (aNil))))))))))))))))))) δ0 μ = some (.lst (thingL L), thingM μ) := by
    refine frz (xs := thingL L) ?_ (by simp [thingL])
    refine aC (f := eC .non) rfl (aC (f := eC (.bl true)) rfl (aC (f := eC (.bl false)) rfl (aC (f := eC (.int 0)) rfl (aC (f := eC (.int 1)) rfl (aC (x := .int (-1)) rfl (aC (x := .int (10 ^ 29)) (μ1 := μ) (by simp [eBin, eThen, eC, powD]) (aC (f := eC (.str "")) rfl (aC (f := eC (.str "A")) rfl (aC (f := eC (.str "a b")) rfl (aC (x := .tup []) (μ1 := μ) rfl (aC (x := .tup [.int 1]) (μ1 := μ) (by simp [eTup, aCons, aNil, eThen, eC]) (aC (mutK (k := L) (xs := []) rfl rfl (by simp)) (aC (mutK (k := L + 1) (xs := [.str "a"]) (μ1 := μ ++ [.lst []]) (by simp [L]) (aC (f := eC (.str "a")) rfl (a_nil _ _)) (by simp)) (aC (dct0K (k := L + 2) (by simp [L])) (aC (dct1K (k := L + 3) (by simp [L])) (aC (x := .tup [.str "a", .int 1, .str "b"]) ?_ (a_nil _ _)))))))))))))))))
    simp [eTup, aCons, aNil, eThen, eC, thingM]
  obtain ⟨d, μ', e, d1, d2, B, dr0⟩ := take_x (i := 0) (δ := δ0.set 1 (.d (.lst (thingL L)))) (w := 17) (fm := eC (.int 17)) rfl rfl (h.keeps kM) (by decide) (by decide) (by omega)
  obtain ⟨x, ex, hx⟩ := ix_lst (xs := thingL L) (μ := μ') d1 (by simpa [thingL] using d2)
  have dr : Drawn b μ μ' := kM.drawn.trans dr0
  refine ⟨x, μ', run_set S (ixe (x := .lst (thingL L)) (y := .int d) (μ1 := thingM μ) rfl e ex), ?_, B, dr⟩
  have j0 := dr0 L _ (by omega) i0
  have j1 := dr0 (L + 1) _ (by omega) i1
  have j2 := dr0 (L + 2) _ (by omega) i2
  have j3 := dr0 (L + 3) _ (by omega) i3
  have lf : ∀ {z : D} {q : PyData}, Lf z → (∀ ν, toPy ν DEEP z = some q) → (∀ ν, txM exNm ν z = (tx exNm ν z).map (fun t => (false, t))) → otB (cl q.shown) = true → cardB z = false → (∀ k, z ≠ .mut k) → Odd b p 8 μ' z := fun h1 h2 h3 h4 h5 h6 => .fix (fix_lf h1 h2 h3 h4 b) h5 h6 (Nat.le_refl _)
  simp only [thingL, List.mem_cons, List.mem_nil_iff, or_false] at hx
  rcases hx with rfl | rfl | rfl | rfl | rfl | rfl | rfl | rfl | rfl | rfl | rfl | rfl | rfl | rfl | rfl | rfl | rfl
  · exact lf .non (fun _ => rfl) (fun _ => rfl) (by decide +kernel) rfl (fun _ z => nomatch z)
  · exact lf (.bl _) (fun _ => rfl) (fun _ => rfl) (by decide +kernel) rfl (fun _ z => nomatch z)
  · exact lf (.bl _) (fun _ => rfl) (fun _ => rfl) (by decide +kernel) rfl (fun _ z => nomatch z)
  · exact lf (lfi (by decide)) (fun _ => rfl) (fun _ => rfl) (by decide +kernel) rfl (fun _ z => nomatch z)
  · exact lf (lfi (by decide)) (fun _ => rfl) (fun _ => rfl) (by decide +kernel) rfl (fun _ z => nomatch z)
  · exact lf (lfi (by decide)) (fun _ => rfl) (fun _ => rfl) (by decide +kernel) rfl (fun _ z => nomatch z)
  · exact lf (.int (by decide)) (fun _ => rfl) (fun _ => rfl) (by decide +kernel) rfl (fun _ z => nomatch z)
  · exact lf (.str (Gs_of _ (by decide +kernel))) (fun _ => rfl) (fun _ => rfl) (by decide +kernel) rfl (fun _ z => nomatch z)
  · exact lf (.str (Gs_of _ (by decide +kernel))) (fun _ => rfl) (fun _ => rfl) (by decide +kernel) rfl (fun _ z => nomatch z)
  · exact lf (.str (Gs_of _ (by decide +kernel))) (fun _ => rfl) (fun _ => rfl) (by decide +kernel) rfl (fun _ z => nomatch z)
  · exact .fix (fix_tup (p := .tuple []) (xs := []) (by simp) (fun y hy => nomatch hy) (fun _ => rfl) (by decide +kernel) b) (card_not4 (by decide)) (fun _ z => nomatch z) (Nat.le_refl _)
  · exact .fix (fix_tup (p := .tuple [.int 1]) (by simp) (fun y hy => by simp at hy; subst hy; exact lfi (by decide)) (fun _ => rfl) (by decide +kernel) b) (card_not4 (by decide)) (fun _ z => nomatch z) (Nat.le_refl _)
  · exact .chg (Tm.th (.inr (.inr ⟨_, _, rfl, by omega, j0, by simp, fun y hy => nomatch hy⟩))) (by omega)
  · exact .chg (Tm.th (.inr (.inr ⟨_, _, rfl, by omega, j1, by simp, fun y hy => by simp at hy; subst hy; exact .str Gs_a⟩))) (by omega)
  · exact .chg (.inr ⟨_, ([], []), rfl, by omega, by simp [dst], j2⟩) (by omega)
  · exact .chg (.inr ⟨_, ([.inr "a"], [.int 1]), rfl, by omega, by simp [dst], j3⟩) (by omega)
  · refine .fix (fix_tup (p := .tuple [.str "a", .int 1, .str "b"]) (by simp) (fun y hy => ?_) (fun _ => rfl) (by decide +kernel) b) (card_not4 (by decide)) (fun _ z => nomatch z) (Nat.le_refl _)
    simp at hy
    rcases hy with rfl | rfl | rfl
    · exact .str Gs_a
    · exact lfi (by decide)
    · exact .str (Gs_of _ (by decide +kernel))
/-- a card as a list -/
theorem list_od {c : Cd} (h : CdOk c) {k : Nat} (e : μ[k]? = some (.lst [.str c.key, .int c.num, .str c.bye, mkD c.mks])) (hb : b < k) (hp : p < k) : Odd b p 8 μ (.mut k) := by
  refine .chg (.inl (.inr (.inr ⟨k, _, rfl, hb, e, by simp, fun y hy => ?_⟩))) hp
  simp only [List.mem_cons, List.mem_nil_iff, or_false] at hy
  rcases hy with rfl | rfl | rfl | rfl
  · exact .inl (.str h.key.gs)
  · exact .inl (lfi (by have := h.n1; have := h.n2; omega))
  · exact .inl (.str h.bye.gs)
  · exact h.mkTm
/-- a card cut short -/
theorem cut_od {c : Cd} (h : CdOk c) : Odd b p 8 μ (.tup [.str c.key, .int c.num, .str c.bye]) := by
  refine .fix (fix_ot (p := .tuple [.str c.key, .int c.num, .str c.bye]) (fun _ => rfl) (fun _ => rfl) (fun b ν => .inr (.inl ⟨_, rfl, by simp, fun y hy => ?_⟩)) ?_ b) (card_not4 (by simp)) (fun _ z => nomatch z) (Nat.le_refl _)
  · simp only [List.mem_cons, List.mem_nil_iff, or_false] at hy
    rcases hy with rfl | rfl | rfl
    · exact .inl (.str h.key.gs)
    · exact .inl (lfi (by have := h.n1; have := h.n2; omega))
    · exact .inl (.str h.bye.gs)
  · refine .inr (.inr (.inr ?_))
    have z : (PyData.tuple [.str c.key, .int c.num, .str c.bye]).shown = tupleText [reprText c.key, (PyData.int c.num).shown, reprText c.bye] := by
      simp only [PyData.shown, PyData.shownAll]
    rw [z, cl_tup3, repr_name h.bye]
    simp [List.reverse_append]
/-- a card of a place that is no name -/
theorem up_low : ∀ c, c < 128 → lowB c = true → letB (PyProof.Rows.up1 c) = true ∧ lowB (PyProof.Rows.up1 c) = false := by decide +kernel
theorem upper_name {s : Str} (h : NameS s) : cl (Txt.upper s) = (cl s).map PyProof.Rows.up1 := by
  rw [PyProof.Rows.upper_ascii (x := s) (fun c hc => h.gs.2 c hc)]
  show (s.cps.map PyProof.Rows.up1).toList = _
  rw [Array.toList_map]
  rfl
def Cd.up (c : Cd) : Cd := { c with key := Txt.upper c.key }
theorem up_od {c : Cd} (h : CdOk c) : Odd b p 8 μ c.up.dt := by
  have gs : Gs (Txt.upper c.key) := by
    have e := upper_name h.key
    refine ⟨?_, fun u hu => ?_⟩
    · rw [← cps_len, show (Txt.upper c.key).cps.toList = cl (Txt.upper c.key) from rfl, e, List.length_map, show cl c.key = c.key.cps.toList from rfl, cps_len]
      exact h.key.gs.1
    · rw [show (Txt.upper c.key).cps.toList = cl (Txt.upper c.key) from rfl, e] at hu
      obtain ⟨v, hv, rfl⟩ := List.mem_map.mp hu
      exact (let_lt (up_low v (h.key.gs.2 v hv) (h.key.low v hv)).1).1
  have no : nameB (.str (Txt.upper c.key)) = false := by
    obtain ⟨k, r, ek, lk⟩ := h.key.cons
    rw [← Bool.not_eq_true]
    intro q
    have := NameS.low (s := Txt.upper c.key) q (PyProof.Rows.up1 k) (by rw [upper_name h.key, ek]; exact List.mem_cons_self ..)
    have l := (up_low k (h.key.gs.2 k (by rw [show c.key.cps.toList = cl c.key from rfl, ek]; exact List.mem_cons_self ..)) lk).2
    rw [this] at l
    cases l
  refine .fix (fix_ot (p := c.up.py) (fun ν => card_py ν 13 c.up) (fun _ => rfl) (fun b ν => .inr (.inl ⟨_, rfl, by simp, fun y hy => ?_⟩)) ?_ b) ?_ (fun _ z => nomatch z) (Nat.le_refl _)
  · simp only [List.mem_cons, List.mem_nil_iff, or_false] at hy
    rcases hy with rfl | rfl | rfl | rfl
    · exact .inl (.str gs)
    · exact .inl (lfi (by have := h.n1; have := h.n2; show c.num.natAbs < _; omega))
    · exact .inl (.str h.bye.gs)
    · exact h.mkTm
  · refine .inr (.inr (.inl ?_))
    obtain ⟨k, r, ek, lk⟩ := h.key.cons
    have hk := up_low k (h.key.gs.2 k (by rw [show c.key.cps.toList = cl c.key from rfl, ek]; exact List.mem_cons_self ..)) lk
    refine ⟨PyProof.Rows.up1 k, ?_, hk.2⟩
    have e := card_cl (c := c.up)
    rw [show cl (reprText c.up.key) = 39 :: (cl (Txt.upper c.key) ++ [39]) from repr_let fun u hu => by
      rw [show cl c.up.key = _ from upper_name h.key] at hu
      obtain ⟨v, hv, rfl⟩ := List.mem_map.mp hu
      exact (up_low v (h.key.gs.2 v hv) (h.key.low v hv)).1, upper_name h.key, ek] at e
    rw [show c.up.py.shown = cardT c.up from rfl, e]
    simp
  · simp only [Cd.dt, Cd.up, Law.cardB, no, Bool.false_and]
end Law

set_option Elab.async false
set_option linter.all false
set_option autoImplicit false
set_option maxRecDepth 100000
set_option maxHeartbeats 4000000
namespace Law
open PySem PySem.Spec PySem.Calls L2 G GL
variable {b m p : Nat} {μ : List MO} {x y : D}
theorem m22 : exMt 2 2 = some true := by decide +kernel
theorem m23 : exMt 2 3 = some false := by decide +kernel
theorem m33 : exMt 3 3 = some true := by decide +kernel
theorem m41 : exMt 4 1 = some true := by decide +kernel
theorem kx1 : kitX exIs 1 (.cls 1) = some true := by rfl
theorem retX_ex {fn : XF} {r : AF} {δ : List SV} {μ1 μ2 : List MO} {xs : List D} {C : Nat} {f t : Str} {d : D} (h : r δ μ = some (xs, μ1)) (e : fn xs μ1 = some (.ex C f t d μ2)) : bRetX fn r δ μ = some (.xc C f t d δ μ2) := by simp [bRetX, h, e]
theorem xf_txt {i C : Nat} {T : Str} {δ : List SV} (h : δ[i]? = some (.xv C "found" y)) (hC : exFl_found C = true) (r : reprM exNm [y] μ = some (.str T, μ)) : eCall (reprM exNm) (aCons (eXf i "found" exFl_found) aNil) δ μ = some (.str T, μ) := callE (aC (xf_at h hC) (a_nil _ _)) r
theorem var_txt {i : Nat} {T : Str} {δ : List SV} (h : δ[i]? = some (.d y)) (r : reprM exNm [y] μ = some (.str T, μ)) : eCall (reprM exNm) (aCons (eVar i) aNil) δ μ = some (.str T, μ) := callE (aC (var_at h) (a_nil _ _)) r
/-! ### answers at a door -/
theorem answer_ex {u v y : D} {C : Nat} {t : Str} {z : Nat} (hz : z < 3) (e : fx_is_ahead [u, v] μ = some (.ex C "found" t y μ)) (e2 : fx_greatest [.lst [u, v]] μ = some (.ex C "found" t y μ)) : fx__law_answer [.int (z : Nat), u, v] μ = some (.ex C "found" t y μ) := by
  let δ := startD 3 [.int (z : Nat), u, v]
  have ar : aCons (eVar 1) (aCons (eVar 2) (aNil)) δ μ = some ([u, v], μ) := aC (var_at (x := u) rfl) (a1 (x := v) rfl)
  have t0 := eq_at (i := 0) (a := (z : Nat)) (c := 0) (δ := δ) (μ := μ) rfl
  have t1 := eq_at (i := 0) (a := (z : Nat)) (c := 1) (δ := δ) (μ := μ) rfl
  have r0 : bRetX fx_greater (aCons (eVar 1) (aCons (eVar 2) (aNil))) δ μ = some (.xc C "found" t y δ μ) := retX_ex ar (greater_ex e)
  have r1 : bRetX fx_is_ahead (aCons (eVar 1) (aCons (eVar 2) (aNil))) δ μ = some (.xc C "found" t y δ μ) := retX_ex ar e
  have r2 : bRetX fx_greatest (aCons (eFrz (nLst (aCons (eVar 1) (aCons (eVar 2) (aNil))))) (aNil)) δ μ = some (.xc C "found" t y δ μ) := retX_ex (aC (frz ar (by simp)) (a_nil _ _)) e2
  have : z = 0 ∨ z = 1 ∨ z = 2 := by omega
  rcases this with rfl | rfl | rfl
  · exact runX_xc (δ := δ) (then_xc (if_xc t0 rfl r0))
  · exact runX_xc (δ := δ) ((then_nx (if_nx t0)).trans (then_xc (if_xc t1 rfl r1)))
  · exact runX_xc (δ := δ) ((then_nx (if_nx t0)).trans ((then_nx (if_nx t1)).trans r2))
theorem answer_bad {z : Nat} (hz : z < 3) (h : Th b μ m x) (hb : cardB x = false) (y : D) : fx__law_answer [.int (z : Nat), x, y] μ = some (.ex 2 "found" "no card" x μ) :=
  answer_ex hz (ahead_bad h hb y) (greatest_bad (Sq.lst [x, y]) (by simp) h hb)
theorem answer_wr {z : Nat} {c : Cd} (hz : z < 3) (hc : CdOk c) (hy : Th b μ m y) {C : Nat} {t : Str} (w : Wr c.key y C t) : fx__law_answer [.int (z : Nat), c.dt, y] μ = some (.ex C "found" t y μ) :=
  answer_ex hz (ahead_wr hc hy w) (greatest_wr (c := c) (cs := []) (ys := []) (Sq.lst [c.dt, y]) (by decide) (fun u hu => by simp at hu; subst hu; exact ⟨hc, rfl⟩) hy w)
theorem refused_card {dr u v : D} (h : Odd b p m μ y) (hm : m ≤ 18) (hbp : b < p) (e : fx__law_answer [dr, u, v] μ = some (.ex 2 "found" "no card" y μ)) : ∃ μ', f__law_refused [dr, u, v, .str "card", y] μ = some (.bl true, μ') ∧ Ev b 1 μ μ' ∧ Kp p μ μ' := by
  obtain ⟨μ', eg, r, k⟩ := h.grown (by omega) hbp
  refine ⟨μ', ?_, r, k⟩
  let δ := startD 6 [dr, u, v, .str "card", y]
  let δ1 : List SV := δ.set 5 (.xv 2 "found" y)
  have rp := (h.ev r).th.rpr (by omega)
  have c0 : bCallX fx__law_answer (aCons (eVar 0) (aCons (eVar 1) (aCons (eVar 2) (aNil)))) δ μ = some (.xc 2 "found" "no card" y δ μ) := callX_ex (aC (var_at (x := dr) rfl) (aC (var_at (x := u) rfl) (a1 (x := v) rfl))) e
  refine run_of ((then_rt ((try_x c0).trans (hd_yes m22 ?_))))
  refine (then_expr (show eFn f__law_grown [] (aCons (eVar 4) aNil) δ1 μ = some (.non, μ') from fnE (a1 (x := y) rfl) eg)).trans ?_
  have A := eq_str (fa := eVar 3) (a := "card") (δ := δ1) (μ := μ') (μ1 := μ') rfl (fb := eC (.str "card")) (b := "card") rfl
  have E := eq_str (xf_txt (i := 5) (δ := δ1) rfl (by decide) rp) (var_txt (i := 4) (δ := δ1) rfl rp)
  exact ret_true (and_eq A fun _ => E) (by simp)
theorem refused_unlike {dr u v : D} {T : Str} (rp : reprM exNm [y] μ = some (.str T, μ)) (e : fx__law_answer [dr, u, v] μ = some (.ex 3 "found" "unlike" y μ)) : f__law_refused [dr, u, v, .str "unlike", y] μ = some (.bl true, μ) := by
  let δ := startD 6 [dr, u, v, .str "unlike", y]
  let δ1 : List SV := δ.set 5 (.xv 3 "found" y)
  have c0 : bCallX fx__law_answer (aCons (eVar 0) (aCons (eVar 1) (aCons (eVar 2) (aNil)))) δ μ = some (.xc 3 "found" "unlike" y δ μ) := callX_ex (aC (var_at (x := dr) rfl) (aC (var_at (x := u) rfl) (a1 (x := v) rfl))) e
  refine run_of ((then_rt ((try_x c0).trans ((hd_no m23).trans (hd_yes m33 ?_)))))
  have A := eq_str (fa := eVar 3) (a := "unlike") (δ := δ1) (μ := μ) (μ1 := μ) rfl (fb := eC (.str "unlike")) (b := "unlike") rfl
  have E := eq_str (xf_txt (i := 5) (δ := δ1) rfl (by decide) rp) (var_txt (i := 4) (δ := δ1) rfl rp)
  exact ret_true (and_eq A fun _ => E) (by simp)
theorem bad_card {s : D} {T : Str} (rp : reprM exNm [y] μ = some (.str T, μ)) (e : fx_greatest [s] μ = some (.ex 2 "found" "no card" y μ)) : f__law_bad_among [s, .str "card", y] μ = some (.bl true, μ) := by
  let δ := startD 4 [s, .str "card", y]
  let δ1 : List SV := δ.set 3 (.xv 2 "found" y)
  have c0 : bCallX fx_greatest (aCons (eVar 0) (aNil)) δ μ = some (.xc 2 "found" "no card" y δ μ) := callX_ex (a1 (x := s) rfl) e
  refine run_of ((then_rt ((try_x c0).trans (hd_yes m22 ?_))))
  have A := eq_str (fa := eVar 1) (a := "card") (δ := δ1) (μ := μ) (μ1 := μ) rfl (fb := eC (.str "card")) (b := "card") rfl
  have E := eq_str (xf_txt (i := 3) (δ := δ1) rfl (by decide) rp) (var_txt (i := 2) (δ := δ1) rfl rp)
  exact ret_true (and_eq A fun _ => E) (by simp)
theorem bad_unlike {s : D} {T : Str} (rp : reprM exNm [y] μ = some (.str T, μ)) (e : fx_greatest [s] μ = some (.ex 3 "found" "unlike" y μ)) : f__law_bad_among [s, .str "unlike", y] μ = some (.bl true, μ) := by
  let δ := startD 4 [s, .str "unlike", y]
  let δ1 : List SV := δ.set 3 (.xv 3 "found" y)
  have c0 : bCallX fx_greatest (aCons (eVar 0) (aNil)) δ μ = some (.xc 3 "found" "unlike" y δ μ) := callX_ex (a1 (x := s) rfl) e
  refine run_of ((then_rt ((try_x c0).trans ((hd_no m23).trans (hd_yes m33 ?_)))))
  have A := eq_str (fa := eVar 1) (a := "unlike") (δ := δ1) (μ := μ) (μ1 := μ) rfl (fb := eC (.str "unlike")) (b := "unlike") rfl
  have E := eq_str (xf_txt (i := 3) (δ := δ1) rfl (by decide) rp) (var_txt (i := 2) (δ := δ1) rfl rp)
  exact ret_true (and_eq A fun _ => E) (by simp)
/-! ### no list -/
theorem no_list_ok {T : Str} {μ' : List MO} (e : fx_greatest [x] μ = some (.ex 1 "found" "no list" x μ)) (g : f__law_grown [x] μ = some (.non, μ')) (rp : reprM exNm [x] μ' = some (.str T, μ')) : f__law_no_list [x] μ = some (.bl true, μ') := by
  let δ := startD 2 [x]
  let δ1 : List SV := δ.set 1 (.xv 1 "found" x)
  have c0 : bCallX fx_greatest (aCons (eVar 0) (aNil)) δ μ = some (.xc 1 "found" "no list" x δ μ) := callX_ex (a1 (x := x) rfl) e
  refine run_of ((then_rt ((try_x c0).trans (hd_yes m41 ?_))))
  refine (then_expr (show eFn f__law_grown [] (aCons (eVar 0) aNil) δ1 μ = some (.non, μ') from fnE (a1 (x := x) rfl) g)).trans ?_
  have A : eXis 1 (kitX exIs) (eC (.cls 1)) δ1 μ' = some (.bl true, μ') := xis_at (d := x) rfl rfl kx1
  have E := eq_str (xf_txt (i := 1) (δ := δ1) rfl (by decide) rp) (var_txt (i := 0) (δ := δ1) rfl rp)
  exact ret_true (and_eq A fun _ => E) (by simp)
theorem is_list_no {n : String} (h : typeD μ x = some n) (hn : kitAnyB n ["list", "tuple"] = some false) : f_is_list [x] μ = some (.bl false, μ) := by
  refine run_ret (callE (aC (var_at (x := x) rfl) (aC (x := .tup [.ty "list", .ty "tuple"]) (μ1 := μ) ?_ (a_nil _ _))) ?_)
  · simp [eTup, aCons, aNil, eThen, eC]
  · simp [isiG, isiP, h, tysD, hn]
theorem is_list_y (h : isiG [x, .tup [.ty "list", .ty "tuple"]] μ = some (.bl true, μ)) : f_is_list [x] μ = some (.bl true, μ) := by
  refine run_ret (callE (aC (var_at (x := x) rfl) (aC (x := .tup [.ty "list", .ty "tuple"]) (μ1 := μ) ?_ (a_nil _ _))) h)
  simp [eTup, aCons, aNil, eThen, eC]
theorem greatest_no1 {n : String} (h : typeD μ x = some n) (hn : kitAnyB n ["list", "tuple"] = some false) : fx_greatest [x] μ = some (.ex 1 "found" "no list" x μ) := by
  let δ := startD 3 [x]
  have A := not_eq (asB_eq (fn1 (i := 0) (x := x) (δ := δ) rfl (is_list_no h hn)))
  have T := or_eq (b := true) (g := tfNot (asB (eChain leD leD (eC (.int 1)) (eCall lenD (aCons (eVar 0) (aNil))) (eC (.int 100))))) A fun z => nomatch z
  exact runX_xc (δ := δ) (then_xc (if_xc T rfl (raise_at (x := x) rfl)))
theorem greatest_no2 {sk : SK} {xs : List D} (hs : seqD μ x = some (sk, xs)) (hi : isiG [x, .tup [.ty "list", .ty "tuple"]] μ = some (.bl true, μ)) (hl : xs.length = 0 ∨ 100 < xs.length) : fx_greatest [x] μ = some (.ex 1 "found" "no list" x μ) := by
  let δ := startD 3 [x]
  have A := not_eq (asB_eq (fn1 (i := 0) (x := x) (δ := δ) rfl (is_list_y hi)))
  have ln : eCall lenD (aCons (eVar 0) aNil) δ μ = some (.int xs.length, μ) := callE (a1 (x := x) rfl) (len_seq hs)
  have C := not_eq (asB_eq (ch_le 1 xs.length 100 (fa := eC (.int 1)) (fc := eC (.int 100)) rfl ln rfl))
  have q : (decide ((1 : Int) ≤ xs.length) && decide ((xs.length : Int) ≤ 100)) = false := by
    rw [← Bool.not_eq_true, Bool.and_eq_true, decide_eq_true_eq, decide_eq_true_eq]
    omega
  rw [q] at C
  have T := or_eq A fun _ => C
  exact runX_xc (δ := δ) (then_xc (if_xc T rfl (raise_at (x := x) rfl)))
/-! ### rows of cards, told -/
theorem card_sm2 {c : Cd} (h : CdOk c) : Sm 200 3 c.py := by
  have s := card_sm h
  refine ⟨s.sh, s.nd, s.lv, s.dp, ?_⟩
  have bis : ∀ ms : List Int, PyData.bulkAll (ms.map PyData.int) = ms.length := by
    intro ms
    induction ms with
    | nil => rfl
    | cons i ms ih => simp only [List.map_cons, PyData.bulkAll, PyData.bulk, ih, List.length_cons]; omega
  have km : (mkP c.mks).bulk ≤ 8 := by
    have l := h.ml
    cases q : c.mks with
    | none => simp [mkP, PyData.bulk]
    | some ms =>
      rw [q] at l
      simp only [mkP, PyData.bulk, bis]
      exact l
  have k1 : c.key.cps.size ≤ 64 := h.key.gs.1
  have k2 : c.bye.cps.size ≤ 64 := h.bye.gs.1
  simp only [Cd.py, PyData.bulk, PyData.bulkAll]
  omega
def Row (μ : List MO) (xs : List D) : Prop := xs.length ≤ 120 ∧ ∀ y ∈ xs, ∃ q, toPy μ 15 y = some q ∧ Sm 200 3 q
theorem Row.cards {cs : List Cd} (h : ∀ c ∈ cs, CdOk c) (hl : cs.length ≤ 120) (μ : List MO) : Row μ (cs.map Cd.dt) := by
  refine ⟨by rw [List.length_map]; exact hl, fun y hy => ?_⟩
  obtain ⟨c, hc, rfl⟩ := List.mem_map.mp hy
  exact ⟨c.py, card_py μ 12 c, card_sm2 (h c hc)⟩
theorem Row.seven {cs : List Cd} (h : ∀ c ∈ cs, CdOk c) (hl : cs.length ≤ 119) (μ : List MO) : Row μ (cs.map Cd.dt ++ [.int 7]) := by
  refine ⟨by rw [List.length_append, List.length_map, List.length_singleton]; omega, fun y hy => ?_⟩
  rcases List.mem_append.mp hy with hy | hy
  · exact (Row.cards h (by omega) μ).2 y hy
  · simp at hy
    subst hy
    have s := int_sm (i := 7) (by decide)
    exact ⟨.int 7, rfl, s.sh, s.nd, s.lv, Nat.le_trans s.dp (by decide), Nat.le_trans s.bk (by decide)⟩
theorem Row.txt {xs : List D} (h : Row μ xs) : (∃ T, reprM exNm [.tup xs] μ = some (.str T, μ)) ∧ ∀ k, μ[k]? = some (.lst xs) → ∃ T, reprM exNm [.mut k] μ = some (.str T, μ) := by
  obtain ⟨ps, e, a1, a2, a3, a4, a5⟩ := list_py (μ := μ) (n := 15) (w := 200) (d := 3) h.2
  have l := h.1
  have bk : PyData.bulkAll ps ≤ 25000 := Nat.le_trans a5 (by omega)
  constructor
  · refine ⟨(PyData.tuple ps).shown, rpr_exact (w := 25000) (d := 4) ?_ ⟨by simpa [PyData.showable] using a1, by simpa [PyData.hasDict] using a2, by simpa [PyData.leavesShort] using a3, by simp only [PyData.depth]; omega, by simp only [PyData.bulk]; exact bk⟩ (by decide) (by decide) rfl⟩
    show (toPyL (toPy μ 15) xs).map PyData.tuple = _
    rw [e]; rfl
  · intro k ek
    refine ⟨(PyData.list ps).shown, rpr_exact (w := 25000) (d := 4) ?_ ⟨by simpa [PyData.showable] using a1, by simpa [PyData.hasDict] using a2, by simpa [PyData.leavesShort] using a3, by simp only [PyData.depth]; omega, by simp only [PyData.bulk]; exact bk⟩ (by decide) (by decide) (by simp only [txM, ek])⟩
    show (match μ[k]? with
      | some (.lst ds) => (toPyL (toPy μ 15) ds).map PyData.list
      | _ => none) = _
    rw [ek]
    simp [e]
end Law

set_option Elab.async false
set_option linter.all false
set_option autoImplicit false
set_option maxRecDepth 100000
set_option maxHeartbeats 4000000
namespace Law
open PySem PySem.Spec PySem.Calls L2 G GL
variable {b m n p : Nat} {μ : List MO} {x y : D}
theorem seq_mut {k : Nat} {xs : List D} {μ : List MO} (e : μ[k]? = some (.lst xs)) : seqD μ (.mut k) = some (.l, xs) := by simp only [seqD, e]
theorem len_var {i k : Nat} {xs : List D} {δ : List SV} (v : δ[i]? = some (.d (.mut k))) (e : μ[k]? = some (.lst xs)) : eCall lenD (aCons (eVar i) aNil) δ μ = some (.int xs.length, μ) := callE (a1 v) (len_seq (seq_mut e))
def insL (xs : List D) (t : Nat) (z : D) : List D := xs.take t ++ [z] ++ xs.drop t
theorem insL_len (xs : List D) (t : Nat) (z : D) : (insL xs t z).length = xs.length + 1 := by
  simp only [insL, List.length_append, List.length_take, List.length_drop, List.length_singleton]
  omega
abbrev insF (i j k : Nat) : BF := bExpr (eMt "list" insertD (eVar j) (aCons (eBin addD (eC (.int 1)) (eFn f__law_take [] (aCons (eVar i) (aCons (eCall lenD (aCons (eVar j) (aNil))) (aNil))))) (aCons (eVar k) (aNil))))
theorem ins_at {i j k q : Nat} {xs : List D} {z : D} {δ : List SV} (B : Bx b n μ) (hn : n ≤ 1000) (hbq : b ≠ q) (e : μ[q]? = some (.lst xs)) (l1 : 1 ≤ xs.length) (l2 : xs.length ≤ 100) (hi : δ[i]? = some (.d (.mut b))) (hj : δ[j]? = some (.d (.mut q))) (hk : δ[k]? = some (.d z)) :
    ∃ (t : Nat) (μ' : List MO), insF i j k δ μ = some (.nx δ μ') ∧ 1 ≤ t ∧ t ≤ xs.length ∧ Bx b (n + 1) μ' ∧ μ'[q]? = some (.lst (insL xs t z)) ∧ Two b q μ μ' := by
  obtain ⟨d, μ1, e1, d0, d1, B1, dr⟩ := take_x (i := i) (δ := δ) (w := (xs.length : Nat)) (fm := eCall lenD (aCons (eVar j) aNil)) hi (len_var hj e) B (by omega) (by omega) (by omega)
  have k1 := dr q _ (Ne.symm hbq) e
  have lt := (List.getElem?_eq_some_iff.mp k1).1
  have ar : aCons (eBin addD (eC (.int 1)) (eFn f__law_take [] (aCons (eVar i) (aCons (eCall lenD (aCons (eVar j) (aNil))) (aNil))))) (aCons (eVar k) (aNil)) δ μ = some ([.int (1 + d), z], μ1) := aC (addE (fa := eC (.int 1)) (a := 1) (μ1 := μ) rfl e1) (a1 hk)
  refine ⟨(1 + d).toNat, μ1.set q (.lst (insL xs (1 + d).toNat z)), ?_, by omega, by omega, ?_, by rw [List.getElem?_set_self lt], fun u o h1 h2 h3 => by rw [List.getElem?_set_ne (Ne.symm h2)]; exact dr u o h1 h3⟩
  · refine expr_at (x := .non) (mtE (var_at hj) (by simp [tyB, e]) ar ?_)
    simp only [insertD, k1]
    rw [if_pos ⟨by omega, by omega, by omega⟩]
    rfl
  · obtain ⟨o, eo, bo⟩ := B1
    exact ⟨o, by rw [List.getElem?_set_ne (Ne.symm hbq)]; exact eo, bo⟩
theorem srcM {k : Nat} {ys : List D} (e : μ[k]? = some (.lst ys)) : srcD μ (.mut k) = some (false, ys, fun μ => μ[k]? = some (.lst ys)) := by simp only [srcD, e]
theorem forPM_at {i q : Nat} {f : EF} {ys : List D} {δ : List SV} {μ1 : List MO} {body : BF} {o : Option Out} (h : f δ μ = some (.mut q, μ1)) (k : μ1[q]? = some (.lst ys)) (e : forLoopP (fun μ => μ[q]? = some (.lst ys)) (nmG i) body ys δ μ1 = o) : bForP (iLM f) (nmG i) body δ μ = o := by
  simp only [bForP, iLM, eThen, h, srcM k]
  exact e
/-! ### the first bad one -/
def Fst (key : Str) (odd : D) (s : Cd) (L : List D) : Prop := ∃ (c : Cd) (as : List Cd) (y : D) (ys : List D), L = (c :: as).map Cd.dt ++ y :: ys ∧ AllOk key (c :: as) ∧ (y = odd ∨ y = s.dt)
theorem ins_lo {c : Cd} {as : List Cd} {rest : List D} {t : Nat} {z : D} (h1 : 1 ≤ t) (h2 : t ≤ as.length + 1) : ∃ ys, insL ((c :: as).map Cd.dt ++ rest) t z = (c :: as.take (t - 1)).map Cd.dt ++ z :: ys := by
  refine ⟨((c :: as).map Cd.dt ++ rest).drop t, ?_⟩
  obtain ⟨u, rfl⟩ : ∃ u, t = u + 1 := ⟨t - 1, by omega⟩
  unfold insL
  rw [List.take_append_of_le_length (by rw [List.length_map, List.length_cons]; exact h2), ← List.map_take, List.take_succ_cons, Nat.add_sub_cancel, List.append_assoc]
  rfl
theorem AllOk.take {key : Str} {c : Cd} {as : List Cd} (h : AllOk key (c :: as)) (k : Nat) : AllOk key (c :: as.take k) := fun u hu => by
  rcases List.mem_cons.mp hu with rfl | hu
  · exact h _ (List.mem_cons_self ..)
  · exact h _ (List.mem_cons_of_mem _ (List.mem_of_mem_take hu))
theorem ins_first {key : Str} {odd : D} {s c : Cd} {as : List Cd} {t : Nat} {z : D} (ok : AllOk key (c :: as)) (hz : z = odd ∨ z = s.dt) (h1 : 1 ≤ t) (h2 : t ≤ as.length + 1) : Fst key odd s (insL ((c :: as).map Cd.dt) t z) := by
  obtain ⟨ys, e⟩ := ins_lo (rest := []) (c := c) (as := as) (z := z) h1 h2
  rw [List.append_nil] at e
  exact ⟨c, _, z, ys, e, ok.take _, hz⟩
theorem ins_fst {key : Str} {odd : D} {s : Cd} {L : List D} {t : Nat} {z : D} (h : Fst key odd s L) (hz : z = odd ∨ z = s.dt) (h1 : 1 ≤ t) : Fst key odd s (insL L t z) := by
  obtain ⟨c, as, y, ys, rfl, ok, hy⟩ := h
  by_cases h2 : t ≤ as.length + 1
  · obtain ⟨r, e⟩ := ins_lo (rest := y :: ys) (c := c) (as := as) (z := z) h1 h2
    exact ⟨c, _, z, r, e, ok.take _, hz⟩
  · obtain ⟨u, rfl⟩ : ∃ u, t = (as.length + 1) + (u + 1) := ⟨t - (as.length + 1) - 1, by omega⟩
    refine ⟨c, as, y, ys.take u ++ z :: ys.drop u, ?_, ok, hy⟩
    have l : ((c :: as).map Cd.dt).length = as.length + 1 := by rw [List.length_map, List.length_cons]
    unfold insL
    rw [← l, List.take_length_add_append, List.drop_length_add_append, List.take_succ_cons, List.drop_succ_cons]
    simp
noncomputable abbrev walkB : BF := bThen (bIf (asB (eBin eqD (eCall (reprM exNm) (aCons (eVar 5) (aNil))) (eCall (reprM exNm) (aCons (eVar 2) (aNil))))) (bRet (eFn f__law_bad_among [] (aCons (eVar 4) (aCons (eC (.str "card")) (aCons (eVar 2) (aNil)))))) (bNil)) (bIf (asB (eBin eqD (eCall (reprM exNm) (aCons (eVar 5) (aNil))) (eCall (reprM exNm) (aCons (eVar 3) (aNil))))) (bRet (eFn f__law_bad_among [] (aCons (eVar 4) (aCons (eC (.str "unlike")) (aCons (eVar 3) (aNil)))))) (bNil))
theorem walk_skip {q : Nat} {key : Str} {odd : D} {s c : Cd} {δ : List SV} (hc : CdOk c) (kc : c.key = key) (hs : CdOk s) (ks : s.key ≠ key) (ho : Odd b p m μ odd) (hm : m ≤ 20) (h2 : δ[2]? = some (.d odd)) (h3 : δ[3]? = some (.d s.dt)) (hl : δ.length = 6) : walkB (δ.set 5 (.d c.dt)) μ = some (.nx (δ.set 5 (.d c.dt)) μ) := by
  let δ1 := δ.set 5 (.d c.dt)
  have g2 : δ1[2]? = some (.d odd) := get_ne h2 (by decide)
  have g3 : δ1[3]? = some (.d s.dt) := get_ne h3 (by decide)
  have g5 : δ1[5]? = some (.d c.dt) := get_set (by omega)
  have r5 := var_txt (i := 5) g5 (card_rpr hc μ)
  have e2 := asB_eq (eq_str r5 (var_txt (i := 2) g2 (ho.th.rpr hm)))
  have e3 := asB_eq (eq_str r5 (var_txt (i := 3) g3 (card_rpr hs μ)))
  rw [decide_eq_false (fun z => card_not hc (ho.ot hm) z.symm)] at e2
  rw [decide_eq_false (card_keys hc hs (by rw [kc]; exact Ne.symm ks))] at e3
  exact (then_nx (if_nx e2)).trans (if_nx e3)
theorem walk_ok {q : Nat} {key : Str} {odd : D} {s : Cd} {L : List D} (hs : CdOk s) (ks : s.key ≠ key) (ho : Odd b p m μ odd) (hm : m ≤ 20) (eq : μ[q]? = some (.lst L)) {y : D} {ys : List D} (hy : y = odd ∨ y = s.dt)
    (bc : y = odd → f__law_bad_among [.mut q, .str "card", odd] μ = some (.bl true, μ)) (bu : y = s.dt → f__law_bad_among [.mut q, .str "unlike", s.dt] μ = some (.bl true, μ)) : ∀ (as : List Cd) (δ : List SV), AllOk key as → δ[2]? = some (.d odd) → δ[3]? = some (.d s.dt) → δ[4]? = some (.d (.mut q)) → δ.length = 6 →
    forLoopP (fun μ => μ[q]? = some (.lst L)) (nmG 5) walkB (as.map Cd.dt ++ y :: ys) δ μ = some (.rt (.bl true) μ)
  | c :: as, δ, ok, h2, h3, h4, hl => by
    obtain ⟨hc, kc⟩ := ok c (List.mem_cons_self ..)
    rw [List.map_cons, List.cons_append, forP_cons eq (walk_skip (q := q) hc kc hs ks ho hm h2 h3 hl)]
    exact walk_ok hs ks ho hm eq hy bc bu as (δ.set 5 (.d c.dt)) (fun u hu => ok u (List.mem_cons_of_mem _ hu)) (get_ne h2 (by decide)) (get_ne h3 (by decide)) (get_ne h4 (by decide)) (by simp [hl])
  | [], δ, ok, h2, h3, h4, hl => by
    let δ1 := δ.set 5 (.d y)
    have g2 : δ1[2]? = some (.d odd) := get_ne h2 (by decide)
    have g3 : δ1[3]? = some (.d s.dt) := get_ne h3 (by decide)
    have g4 : δ1[4]? = some (.d (.mut q)) := get_ne h4 (by decide)
    have g5 : δ1[5]? = some (.d y) := get_set (by omega)
    have r2 := var_txt (i := 2) g2 (ho.th.rpr hm)
    have r3 := var_txt (i := 3) g3 (card_rpr hs μ)
    rw [List.map_nil, List.nil_append]
    refine forP_rt eq ?_
    rcases hy with rfl | rfl
    · have r5 := var_txt (i := 5) g5 (ho.th.rpr hm)
      have e2 := asB_eq (eq_str r5 r2)
      rw [decide_eq_true rfl] at e2
      exact then_rt (if_xc e2 rfl (ret_eq (fnE (aC (var_at g4) (aC (f := eC (.str "card")) rfl (a1 g2))) (bc rfl))))
    · have r5 := var_txt (i := 5) g5 (card_rpr hs μ)
      have e2 := asB_eq (eq_str r5 r2)
      have e3 := asB_eq (eq_str r5 r3)
      rw [decide_eq_false (fun z => card_not hs (ho.ot hm) z.symm)] at e2
      rw [decide_eq_true rfl] at e3
      exact (then_nx (if_nx e2)).trans (if_xc e3 rfl (ret_eq (fnE (aC (var_at g4) (aC (f := eC (.str "unlike")) rfl (a1 g3))) (bu rfl))))
/-- what comes first is told -/
theorem bad_of {q : Nat} {key : Str} {odd : D} {s c : Cd} {as : List Cd} {ys : List D} (hs : CdOk s) (ks : s.key ≠ key) (ho : Odd b p m μ odd) (hm : m ≤ 20) (ok : AllOk key (c :: as)) (hl : as.length + ys.length < 98) (hy : y = odd ∨ y = s.dt) (eq : μ[q]? = some (.lst ((c :: as).map Cd.dt ++ y :: ys))) :
    (y = odd → f__law_bad_among [.mut q, .str "card", odd] μ = some (.bl true, μ)) ∧ (y = s.dt → f__law_bad_among [.mut q, .str "unlike", s.dt] μ = some (.bl true, μ)) := by
  have kc := (ok c (List.mem_cons_self ..)).2
  have ok' : ∀ u ∈ c :: as, CdOk u ∧ u.key = c.key := fun u hu => ⟨(ok u hu).1, (ok u hu).2.trans kc.symm⟩
  constructor
  · rintro rfl
    exact bad_card (ho.th.rpr hm) (greatest_wr (Sq.mut eq) hl ok' ho.th (.inl ⟨ho.no, rfl, rfl⟩))
  · rintro rfl
    exact bad_unlike (card_rpr hs μ) (greatest_wr (b := 0) (m := 0) (Sq.mut eq) hl ok' hs.th (.inr ⟨s, rfl, hs, by rw [kc]; exact ks, rfl, rfl⟩))
theorem Two.old {q : Nat} {μ0 μ1 : List MO} (t : Two b q μ μ1) (d : Drawn b μ0 μ) (hq : μ0.length ≤ q) : Drawn b μ0 μ1 := fun i o hi e => by
  have lt := (List.getElem?_eq_some_iff.mp e).1
  exact t i o hi (by omega) (d i o hi e)
theorem first_bad_ok {key : Str} {odd : D} {s c : Cd} {cs : List Cd} (B : Bx b n μ) (hn : n ≤ 900) (kp : μ[p]? = some (.lst ((c :: cs).map Cd.dt))) (ok : AllOk key (c :: cs)) (l : cs.length ≤ 10) (hs : CdOk s) (ks : s.key ≠ key) (ho : Odd b p m μ odd) (hm : m ≤ 20) :
    ∃ μ', f__law_first_bad_right [.mut b, .mut p, odd, s.dt] μ = some (.bl true, μ') ∧ Drawn b μ μ' ∧ Bx b (n + 2) μ' := by
  let δ0 : List SV := startD 6 [.mut b, .mut p, odd, s.dt]
  let q := μ.length
  let μ1 := μ ++ [MO.lst ((c :: cs).map Cd.dt)]
  have hb := B.lt
  have e1 : eCall lstM (aCons (eVar 1) (aNil)) δ0 μ = some (.mut q, μ1) := callE (a1 (x := .mut p) rfl) (by simp only [lstM, seq_mut kp, q, μ1])
  let δ1 : List SV := δ0.set 4 (.d (.mut q))
  have B1 : Bx b n μ1 := B.keeps (Keeps.app _ _)
  have k1 : μ1[q]? = some (.lst ((c :: cs).map Cd.dt)) := by simp [μ1, q]
  let δ2 : List SV := δ1.set 5 (.d odd)
  obtain ⟨t, μ2, e2, t1, t2, B2, k2, w2⟩ := ins_at (i := 0) (j := 4) (k := 5) (z := odd) (δ := δ2) B1 (by omega) (by omega) k1 (by simp) (by simp; omega) rfl rfl rfl
  have F2 : Fst key odd s (insL ((c :: cs).map Cd.dt) t odd) := ins_first ok (.inl rfl) t1 (by simpa using t2)
  let δ3 : List SV := δ2.set 5 (.d s.dt)
  obtain ⟨u, μ3, e3, u1, u2, B3, k3, w3⟩ := ins_at (i := 0) (j := 4) (k := 5) (z := s.dt) (δ := δ3) B2 (by omega) (by omega) k2 (by rw [insL_len]; omega) (by rw [insL_len, List.length_map, List.length_cons]; omega) rfl rfl rfl
  have F3 := ins_fst F2 (.inr rfl : s.dt = odd ∨ s.dt = s.dt) u1
  have d3 : Drawn b μ μ3 := Two.old w3 (Two.old w2 (Keeps.app _ _).drawn (Nat.le_refl _)) (Nat.le_refl _)
  have ho3 := ho.dr d3
  have ln : (insL (insL ((c :: cs).map Cd.dt) t odd) u s.dt).length = cs.length + 3 := by rw [insL_len, insL_len, List.length_map, List.length_cons]
  obtain ⟨c', as, y, ys, eL, okL, hy⟩ := F3
  rw [eL] at k3 ln
  rw [List.length_append, List.length_map, List.length_cons, List.length_cons] at ln
  obtain ⟨bc, bu⟩ := bad_of hs ks ho3 hm okL (by omega) hy k3
  have W := walk_ok (ys := ys) hs ks ho3 hm k3 hy bc bu (c' :: as) δ3 okL rfl rfl rfl rfl
  have L1 : iL (eFrz (nLst (aCons (eVar 2) (aCons (eVar 3) (aNil))))) δ1 μ1 = some ([odd, s.dt], μ1) := iL_at (frz (aC (var_at (x := odd) rfl) (a1 (x := s.dt) rfl)) (by simp))
  have lp : forLoop (nmG 5) (insF 0 4 5) [odd, s.dt] δ1 μ1 = some (.nx δ3 μ3) := by
    rw [for_cons e2, for_cons e3]
    rfl
  refine ⟨μ3, run_of ?_, d3, B3⟩
  rw [show b__law_first_bad_right = bThen (bSet 4 _) (bThen (bFor (iL (eFrz (nLst (aCons (eVar 2) (aCons (eVar 3) (aNil)))))) (nmG 5) (insF 0 4 5)) (bThen (bForP (iLM (eVar 4)) (nmG 5) walkB) (bRet (eC (.bl false))))) from rfl, then_set e1]
  refine (then_nx (for_eq L1 lp)).trans (then_rt ?_)
  exact forPM_at (var_at (x := .mut q) rfl) k3 W
end Law

set_option Elab.async false
set_option linter.all false
set_option autoImplicit false
set_option maxRecDepth 100000
set_option maxHeartbeats 4000000
namespace Law
open PySem PySem.Spec PySem.Calls L2 G GL
variable {b m n p : Nat} {μ : List MO} {x y : D}
/-! ### what is no list -/
theorem nl_fix (hl : Lf x) (e : fx_greatest [x] μ = some (.ex 1 "found" "no list" x μ)) : f__law_no_list [x] μ = some (.bl true, μ) := by
  have h : Th 0 μ 0 x := Th.lf hl
  exact no_list_ok e (grown_fix h (fun k z => by cases hl <;> cases z)) (h.rpr (by decide))
theorem nl_lst {k : Nat} {cs : List Cd} (e : μ[k]? = some (.lst (cs.map Cd.dt))) (ok : ∀ c ∈ cs, CdOk c) (h : cs.length = 0 ∨ 100 < cs.length) (hl : cs.length ≤ 119) : f__law_no_list [.mut k] μ = some (.bl true, μ.set k (.lst (cs.map Cd.dt ++ [.int 7]))) := by
  have lt := (List.getElem?_eq_some_iff.mp e).1
  have e2 := List.getElem?_set_self (a := MO.lst (cs.map Cd.dt ++ [.int 7])) lt
  obtain ⟨T, r⟩ := (Row.seven ok hl _).txt.2 k e2
  exact no_list_ok (greatest_no2 (seq_mut e) (Sq.mut e).isl (by rw [List.length_map]; exact h)) (grown_lst e (by rw [List.length_map]; omega)) r
theorem nl_dct {k : Nat} (hb : b < k) (e : μ[k]? = some (.dct [] [])) : ∃ s' ∈ dst, f__law_no_list [.mut k] μ = some (.bl true, μ.set k (.dct s'.1 s'.2)) := by
  have lt := (List.getElem?_eq_some_iff.mp e).1
  obtain ⟨s', hs', g⟩ := grown_dct (s := ([], [])) hb (by simp [dst]) e
  have h : Th b (μ.set k (.dct s'.1 s'.2)) 8 (.mut k) := .inr ⟨k, s', rfl, hb, hs', List.getElem?_set_self lt⟩
  exact ⟨s', hs', no_list_ok (greatest_no1 (n := "dict") (by simp [typeD, e]) (by decide +kernel)) g (h.rpr (by decide))⟩
/-! ### sums and slices of lists that change -/
theorem sl_at {i k : Nat} {xs : List D} {δ : List SV} {μ : List MO} {lo hi : PF} {l h : Option Int} (v : δ[i]? = some (.d (.mut k))) (e : μ[k]? = some (.lst xs)) (h1 : lo δ μ = some (l, μ)) (h2 : hi δ μ = some (h, μ)) :
    eMut (nSl (eVar i) lo hi) δ μ = some (.mut μ.length, μ ++ [.lst (cutL xs l h)]) := mutE (by simp [nSl, eThen, eVar, v, h1, h2, seqD, e])
theorem addM_at {fa fb : EF} {x y : D} {as bs : List D} {δ : List SV} {μ μ1 μ2 : List MO} (h1 : fa δ μ = some (x, μ1)) (h2 : fb δ μ1 = some (y, μ2)) (s1 : seqD μ2 x = some (.l, as)) (s2 : seqD μ2 y = some (.l, bs)) (hl : as.length + bs.length ≤ 1000) :
    eBin addM fa fb δ μ = some (.mut μ2.length, μ2 ++ [.lst (as ++ bs)]) := by
  simp only [eBin, eThen, h1, h2, addM, s1, s2]
  rw [if_pos (by omega)]
theorem mulM_mut {k : Nat} {a : List D} {j : Int} {μ : List MO} (e : μ[k]? = some (.lst a)) (h1 : -(2 ^ 63) ≤ j) (h2 : j < 2 ^ 63) (h3 : a.length * j.toNat ≤ 1000000) : mulM (.mut k) (.int j) μ = some (.mut μ.length, μ ++ [.lst (List.replicate j.toNat a).flatten]) := by
  simp only [mulM, seq_mut e]
  rw [if_pos ⟨h1, h2, h3⟩]
theorem flat_one (c : Cd) : ∀ k : Nat, (List.replicate k [c.dt]).flatten = (List.replicate k c).map Cd.dt
  | 0 => rfl
  | k + 1 => by
    rw [List.replicate_succ, List.flatten_cons, flat_one c k, List.replicate_succ, List.map_cons]
    rfl
theorem mul_card {i k t : Nat} {c : Cd} {cs : List Cd} {δ : List SV} (ht : t ≤ 110) (v : δ[i]? = some (.d (.mut k))) (e : μ[k]? = some (.lst ((c :: cs).map Cd.dt))) : ∃ ν, eBin mulM (eMut (nSl (eVar i) (pNo) (pSo (eC (.int 1))))) (eC (.int (t : Nat))) δ μ = some (.mut ν.length, ν ++ [.lst ((List.replicate t c).map Cd.dt)]) ∧ Keeps μ ν := by
  have c1 : cutL ((c :: cs).map Cd.dt) none (some 1) = [c.dt] := by
    simp [cutL, List.take, HT.sIx]
  have s := sl_at (lo := pNo) (hi := pSo (eC (.int 1))) (l := none) (h := some 1) v e rfl rfl
  rw [c1] at s
  refine ⟨μ ++ [MO.lst [c.dt]], ?_, Keeps.app _ _⟩
  rw [← flat_one]
  have := mulM_mut (k := μ.length) (a := [c.dt]) (j := (t : Nat)) (μ := μ ++ [MO.lst [c.dt]]) (by simp) (by omega) (by omega) (by simp; omega)
  rw [Int.toNat_natCast] at this
  exact bin_at s rfl this
theorem addone {i k : Nat} {c : Cd} {cs : List Cd} {δ : List SV} (v : δ[i]? = some (.d (.mut k))) (e : μ[k]? = some (.lst ((c :: cs).map Cd.dt))) (hl : cs.length ≤ 100) : ∃ ν, eBin addM (eVar i) (eMut (nSl (eVar i) (pNo) (pSo (eC (.int 1))))) δ μ = some (.mut ν.length, ν ++ [.lst ((c :: (cs ++ [c])).map Cd.dt)]) ∧ Keeps μ ν := by
  have c1 : cutL ((c :: cs).map Cd.dt) none (some 1) = [c.dt] := by
    simp [cutL, List.take, HT.sIx]
  have s := sl_at (lo := pNo) (hi := pSo (eC (.int 1))) (l := none) (h := some 1) v e rfl rfl
  rw [c1] at s
  refine ⟨μ ++ [MO.lst [c.dt]], ?_, Keeps.app _ _⟩
  have := addM_at (var_at v) s (seq_mut (Keeps.app μ [MO.lst [c.dt]] _ _ e)) (seq_mut (by simp : (μ ++ [MO.lst [c.dt]])[μ.length]? = some (.lst [c.dt]))) (by simp; omega)
  rw [this]
  simp
/-! ### doors -/
noncomputable abbrev rfF (a c e w t : EF) : TF := tfNot (asB (eFn f__law_refused [] (aCons a (aCons c (aCons e (aCons w (aCons t (aNil))))))))
noncomputable abbrev doorB : BF := bThen (bIf (rfF (eVar 6) (eVar 5) (eVar 4) (eC (.str "card")) (eVar 5)) (bRet (eC (.bl false))) (bNil)) (bIf (tfOr (rfF (eVar 6) (eVar 3) (eVar 5) (eC (.str "card")) (eVar 5)) (rfF (eVar 6) (eVar 3) (eVar 4) (eC (.str "unlike")) (eVar 4))) (bRet (eC (.bl false))) (bNil))
theorem rf_at {fa fc fe fw ft : EF} {a c e w t : D} {δ : List SV} {μ' : List MO} (h1 : fa δ μ = some (a, μ)) (h2 : fc δ μ = some (c, μ)) (h3 : fe δ μ = some (e, μ)) (h4 : fw δ μ = some (w, μ)) (h5 : ft δ μ = some (t, μ)) (h : f__law_refused [a, c, e, w, t] μ = some (.bl true, μ')) : rfF fa fc fe fw ft δ μ = some (false, μ') :=
  not_eq (b := true) (asB_eq (fnE (aC h1 (aC h2 (aC h3 (aC h4 (aC h5 (a_nil _ _)))))) h))
theorem Kp.trans {μ' μ'' : List MO} (a : Kp p μ μ') (c : Kp p μ' μ'') : Kp p μ μ'' := fun o e => c o (a o e)
theorem door_ok {odd : D} {u s : Cd} {z : Nat} {δ : List SV} (hz : z < 3) (ho : Odd b p m μ odd) (hm : m ≤ 16) (hbp : b < p) (hu : CdOk u) (hs : CdOk s) (ks : s.key ≠ u.key) (h3 : δ[3]? = some (.d u.dt)) (h4 : δ[4]? = some (.d s.dt)) (h5 : δ[5]? = some (.d odd)) (h6 : δ[6]? = some (.d (.int (z : Nat)))) :
    ∃ μ', doorB δ μ = some (.nx δ μ') ∧ Ev b 2 μ μ' ∧ Kp p μ μ' := by
  obtain ⟨μ1, e1, r1, k1⟩ := refused_card (dr := .int (z : Nat)) (u := odd) (v := s.dt) ho (by omega) hbp (answer_bad hz ho.th ho.no s.dt)
  have o1 := ho.ev r1
  obtain ⟨μ2, e2, r2, k2⟩ := refused_card (dr := .int (z : Nat)) (u := u.dt) (v := odd) o1 (by omega) hbp (answer_wr hz hu o1.th (.inl ⟨ho.no, rfl, rfl⟩))
  have e3 := refused_unlike (dr := .int (z : Nat)) (u := u.dt) (v := s.dt) (card_rpr hs μ2) (answer_wr (b := 0) (m := 0) hz hu hs.th (.inr ⟨s, rfl, hs, ks, rfl, rfl⟩))
  refine ⟨μ2, ?_, r1.trans r2, k1.trans k2⟩
  have T1 := rf_at (fw := eC (.str "card")) (var_at (μ := μ) h6) (var_at h5) (var_at h4) rfl (var_at h5) e1
  have T2 := rf_at (fw := eC (.str "card")) (var_at (μ := μ1) h6) (var_at h3) (var_at h5) rfl (var_at h5) e2
  have T3 := rf_at (fw := eC (.str "unlike")) (var_at (μ := μ2) h6) (var_at h3) (var_at h4) rfl (var_at h4) e3
  exact (then_nx (if_nx T1)).trans (if_nx (tOr_eq2 T2 T3))
theorem doors_ok {odd : D} {u s : Cd} (hbp : b < p) (hu : CdOk u) (hs : CdOk s) (ks : s.key ≠ u.key) : ∀ (ds : List D) (m : Nat) (δ : List SV) (μ : List MO), (∀ d ∈ ds, ∃ z : Nat, z < 3 ∧ d = .int (z : Nat)) → Odd b p m μ odd → m + 2 * ds.length ≤ 18 → δ[3]? = some (.d u.dt) → δ[4]? = some (.d s.dt) → δ[5]? = some (.d odd) → δ.length = 11 →
    ∃ δ' μ', forLoop (nmG 6) doorB ds δ μ = some (.nx δ' μ') ∧ Odd b p (m + 2 * ds.length) μ' odd ∧ Kp p μ μ' ∧ Ev b (2 * ds.length) μ μ' ∧ δ'.length = 11 ∧ ∀ j, j < 6 → δ'[j]? = δ[j]?
  | [], m, δ, μ, _, ho, _, _, _, _, hl => ⟨δ, μ, rfl, ho, fun _ e => e, (Keeps.refl μ).ev b 0, hl, fun _ _ => rfl⟩
  | d :: ds, m, δ, μ, hd, ho, hm, h3, h4, h5, hl => by
    rw [List.length_cons] at hm
    obtain ⟨z, hz, rfl⟩ := hd d (List.mem_cons_self ..)
    let δ1 := δ.set 6 (.d (.int (z : Nat)))
    have g : ∀ j, j < 6 → δ1[j]? = δ[j]? := fun j hj => get_ne rfl (by omega)
    obtain ⟨μ1, e1, r1, k1⟩ := door_ok (δ := δ1) hz ho (by omega) hbp hu hs ks ((g 3 (by decide)).trans h3) ((g 4 (by decide)).trans h4) ((g 5 (by decide)).trans h5) (get_set (by omega))
    obtain ⟨δ2, μ2, e2, o2, k2, r2, l2, g2⟩ := doors_ok hbp hu hs ks ds (m + 2) δ1 μ1 (fun d hd' => hd d (List.mem_cons_of_mem _ hd')) (ho.ev r1) (by omega) ((g 3 (by decide)).trans h3) ((g 4 (by decide)).trans h4) ((g 5 (by decide)).trans h5) (by simp [δ1, hl])
    refine ⟨δ2, μ2, ?_, by rw [List.length_cons, show m + 2 * (ds.length + 1) = m + 2 + 2 * ds.length by omega]; exact o2, k1.trans k2, by rw [List.length_cons, show 2 * (ds.length + 1) = 2 + 2 * ds.length by omega]; exact r1.trans r2, l2, fun j hj => (g2 j hj).trans (g j hj)⟩
    rw [for_cons e1]
    exact e2
/-! ### one wrong one among them -/
noncomputable abbrev wrongB : BF := bThen (bSet 10 (eBin addM (eVar 1) (eMut (nSl (eVar 1) (pNo) (pSo (eC (.int 1))))))) (bThen (insF 0 10 8) (bIf (tfNot (asB (eFn f__law_bad_among [] (aCons (eVar 10) (aCons (eVar 9) (aCons (eVar 8) (aNil))))))) (bRet (eC (.bl false))) (bNil)))
theorem wrong_ok {key w : Str} {odd z : D} {s c : Cd} {cs : List Cd} {δ : List SV} (B : Bx b n μ) (hn : n ≤ 900) (kp : μ[p]? = some (.lst ((c :: cs).map Cd.dt))) (ok : AllOk key (c :: cs)) (l : cs.length ≤ 10) (hs : CdOk s) (ks : s.key ≠ key) (ho : Odd b p m μ odd) (hm : m ≤ 20) (hz : (z = odd ∧ w = "card") ∨ (z = s.dt ∧ w = "unlike"))
    (h0 : δ[0]? = some (.d (.mut b))) (h1 : δ[1]? = some (.d (.mut p))) (h8 : δ[8]? = some (.d z)) (h9 : δ[9]? = some (.d (.str w))) (hl : δ.length = 11) : ∃ δ' μ', wrongB δ μ = some (.nx δ' μ') ∧ Drawn b μ μ' ∧ Bx b (n + 1) μ' ∧ δ'.length = 11 ∧ ∀ j, j < 8 → δ'[j]? = δ[j]? := by
  obtain ⟨ν, e1, kν⟩ := addone h1 kp (by omega)
  let q := ν.length
  let μ1 := ν ++ [MO.lst ((c :: (cs ++ [c])).map Cd.dt)]
  let δ1 := δ.set 10 (.d (.mut q))
  have K1 : Keeps μ μ1 := kν.trans (Keeps.app _ _)
  have B1 : Bx b n μ1 := B.keeps K1
  have hb : b < q := (B.keeps kν).lt
  have k1 : μ1[q]? = some (.lst ((c :: (cs ++ [c])).map Cd.dt)) := by simp [μ1, q]
  have g : ∀ j, j < 10 → δ1[j]? = δ[j]? := fun j hj => get_ne rfl (by omega)
  have g10 : δ1[10]? = some (.d (.mut q)) := get_set (by omega)
  obtain ⟨t, μ2, e2, t1, t2, B2, k2, w2⟩ := ins_at (i := 0) (j := 10) (k := 8) (z := z) (δ := δ1) B1 (by omega) (by omega) k1 (by simp) (by simp; omega) ((g 0 (by decide)).trans h0) g10 ((g 8 (by decide)).trans h8)
  have ql : μ.length ≤ q := by
    rcases Nat.lt_or_ge q μ.length with h | h
    · have e := List.getElem?_eq_getElem h
      have := (List.getElem?_eq_some_iff.mp (kν q _ e)).1
      omega
    · exact h
  have d2 : Drawn b μ μ2 := Two.old w2 K1.drawn ql
  have okc : AllOk key (c :: (cs ++ [c])) := fun v hv => by
    rcases List.mem_cons.mp hv with rfl | hv
    · exact ok _ (List.mem_cons_self ..)
    · rcases List.mem_append.mp hv with hv | hv
      · exact ok v (List.mem_cons_of_mem _ hv)
      · simp at hv; subst hv; exact ok _ (List.mem_cons_self ..)
  have ln : (insL ((c :: (cs ++ [c])).map Cd.dt) t z).length = cs.length + 3 := by rw [insL_len, List.length_map, List.length_cons, List.length_append, List.length_singleton]
  obtain ⟨ys, ei⟩ := ins_lo (rest := []) (c := c) (as := cs ++ [c]) (z := z) t1 (by simpa using t2)
  rw [List.append_nil] at ei
  rw [ei] at k2 ln
  rw [List.length_append, List.length_map, List.length_cons, List.length_cons] at ln
  have hz' : z = odd ∨ z = s.dt := by rcases hz with h | h <;> simp [h.1]
  obtain ⟨bc, bu⟩ := bad_of hs ks (ho.dr d2) hm (okc.take (t - 1)) (by omega) hz' k2
  have bad : f__law_bad_among [.mut q, .str w, z] μ2 = some (.bl true, μ2) := by
    rcases hz with ⟨h1, h2⟩ | ⟨h1, h2⟩
    · rw [h2, h1]; exact bc h1
    · rw [h2, h1]; exact bu h1
  have T := not_eq (b := true) (asB_eq (fnE (aC (var_at (μ := μ2) g10) (aC (var_at ((g 9 (by decide)).trans h9)) (a1 ((g 8 (by decide)).trans h8)))) bad))
  refine ⟨δ1, μ2, ?_, d2, B2, by simp [δ1, hl], fun j hj => g j (by omega)⟩
  rw [show wrongB = bThen (bSet 10 _) (bThen (insF 0 10 8) _) from rfl, then_set e1]
  exact (then_nx e2).trans (if_nx T)
end Law

set_option Elab.async false
set_option linter.all false
set_option autoImplicit false
set_option maxRecDepth 100000
set_option maxHeartbeats 4000000
namespace Law
open PySem PySem.Spec PySem.Calls L2 G GL
variable {b m n p : Nat} {μ : List MO} {x y : D}
theorem for_consG {g : GF} {body : BF} {x : D} {xs : List D} {δ δ0 δ1 : List SV} {μ μ1 : List MO} (hg : g x δ = some δ0) (h : body δ0 μ = some (.nx δ1 μ1)) : forLoop g body (x :: xs) δ μ = forLoop g body xs δ1 μ1 := by
  conv => lhs; unfold forLoop
  simp only [hg, h]
theorem mut_ix {p : Nat} {xs : List D} {y : D} {j : Nat} (k : μ[p]? = some (.lst xs)) (hj : xs[j]? = some y) : ixD (.mut p) (.int (j : Nat)) μ = some (y, μ) := ix_seq (seq_mut k) hj
/-! ### the odd one, drawn -/
abbrev upF : EF := eBin addT (eTup (aCons (eMt "str" upperD (eBin ixD (eVar 3) (eC (.int 0))) aNil) (aNil))) (eSlT (eVar 3) (pSo (eC (.int 1))) (pNo))
abbrev oddF : EF := eBin ixD (eFrz (nLst (aCons (eFn f__law_thing [] (aCons (eVar 0) (aNil))) (aCons (eCall lstM (aCons (eVar 3) (aNil))) (aCons (eSlT (eVar 3) (pNo) (pSo (eC (.int 3)))) (aCons upF (aNil))))))) (eFn f__law_take [] (aCons (eVar 0) (aCons (eC (.int 4)) (aNil))))
theorem rest_at {c : Cd} {δ : List SV} (h3 : δ[3]? = some (.d c.dt)) : eSlT (eVar 3) (pSo (eC (.int 1))) (pNo) δ μ = some (.tup [.int c.num, .str c.bye, mkD c.mks], μ) := slT_at (xs := [.str c.key, .int c.num, .str c.bye, mkD c.mks]) (l := some 1) (h := none) (var_at h3) rfl rfl
theorem odd_ok {c : Cd} {δ : List SV} (B : Bx b n μ) (hn : n ≤ 900) (hp : p < μ.length) (hc : CdOk c) (h0 : δ[0]? = some (.d (.mut b))) (h3 : δ[3]? = some (.d c.dt)) : ∃ x μ', oddF δ μ = some (x, μ') ∧ Odd b p 8 μ' x ∧ Bx b (n + 2) μ' ∧ Drawn b μ μ' := by
  obtain ⟨x1, μ1, e1, o1, B1, d1⟩ := thing_od B (by omega) hp
  have f1 : eFn f__law_thing [] (aCons (eVar 0) (aNil)) δ μ = some (x1, μ1) := fnE (a1 h0) e1
  let k := μ1.length
  let μ2 := μ1 ++ [MO.lst [.str c.key, .int c.num, .str c.bye, mkD c.mks]]
  have f2 : eCall lstM (aCons (eVar 3) (aNil)) δ μ1 = some (.mut k, μ2) := lstM_at (var_at h3)
  have f3 : eSlT (eVar 3) (pNo) (pSo (eC (.int 3))) δ μ2 = some (.tup [.str c.key, .int c.num, .str c.bye], μ2) := slT_at (xs := [.str c.key, .int c.num, .str c.bye, mkD c.mks]) (l := none) (h := some 3) (var_at h3) rfl rfl
  have up : eMt "str" upperD (eBin ixD (eVar 3) (eC (.int 0))) aNil δ μ2 = some (.str (Txt.upper c.key), μ2) := by
    refine mtE (x := .str c.key) (g1 0 (by decide) (var_at h3)) rfl (a_nil _ _) ?_
    simp only [upperD]
    rw [if_pos (by have := hc.key.gs.1; omega)]
  have f4 : upF δ μ2 = some (c.up.dt, μ2) := addT_at (a := [.str (Txt.upper c.key)]) (c := [.int c.num, .str c.bye, mkD c.mks]) (tup1 up) (rest_at (c := c) h3) (by simp)
  have S := frz (aC f1 (aC f2 (aC f3 (aC f4 (a_nil _ _))))) (by simp)
  have kb : k = μ1.length := rfl
  have lb := B1.lt
  obtain ⟨j, μ3, e3, j0, j4, B3, d3⟩ := take_x (i := 0) (δ := δ) (w := 4) (fm := eC (.int 4)) h0 rfl (B1.keeps (Keeps.app μ1 [MO.lst [.str c.key, .int c.num, .str c.bye, mkD c.mks]])) (by decide) (by decide) (by omega)
  obtain ⟨x, ex, hx⟩ := ix_lst (xs := [x1, .mut k, .tup [.str c.key, .int c.num, .str c.bye], c.up.dt]) (μ := μ3) j0 j4
  have pl : p < μ1.length := by
    by_cases q : p = b
    · omega
    · have e := List.getElem?_eq_getElem hp
      exact (List.getElem?_eq_some_iff.mp (d1 p _ q e)).1
  have k3 : μ3[k]? = some (.lst [.str c.key, .int c.num, .str c.bye, mkD c.mks]) := d3 k _ (by omega) (by simp [μ2, k])
  refine ⟨x, μ3, ixe S e3 ex, ?_, B3, d1.trans ((Keeps.app μ1 _).drawn.trans d3)⟩
  simp only [List.mem_cons, List.mem_nil_iff, or_false] at hx
  rcases hx with rfl | rfl | rfl | rfl
  · exact o1.dr ((Keeps.app μ1 _).drawn.trans d3)
  · exact list_od hc k3 (by omega) (by omega)
  · exact cut_od hc
  · exact up_od hc
/-! ### no lists -/
noncomputable abbrev noB : BF := bIf (tfNot (asB (eFn f__law_no_list [] (aCons (eVar 7) (aNil))))) (bRet (eC (.bl false))) (bNil)
theorem no_step {δ : List SV} {μ' : List MO} (e : f__law_no_list [x] μ = some (.bl true, μ')) (hl : δ.length = 11) : noB (δ.set 7 (.d x)) μ = some (.nx (δ.set 7 (.d x)) μ') :=
  if_nx (not_eq (b := true) (asB_eq (fnE (a1 (get_set (by omega))) e)))
abbrev nosF : EF := eFrz (nLst (aCons (eMut (nLst (aNil))) (aCons (eTup (aNil)) (aCons (eC .non) (aCons (eBin ixD (eVar 3) (eC (.int 0))) (aCons (eDctM0) (aCons (eBin mulM (eMut (nSl (eVar 1) (pNo) (pSo (eC (.int 1))))) (eC (.int 101))) (aNil))))))))
theorem nos_ok {u c : Cd} {cs : List Cd} {δ : List SV} (hb : b < μ.length) (kp : μ[p]? = some (.lst ((c :: cs).map Cd.dt))) (hu : CdOk u) (hc : CdOk c) (h1 : δ[1]? = some (.d (.mut p))) (h3 : δ[3]? = some (.d u.dt)) (hl : δ.length = 11) : ∃ δ' μ', bFor (iL nosF) (nmG 7) noB δ μ = some (.nx δ' μ') := by
  let a := μ.length
  let μ1 := μ ++ [MO.lst []]
  let e := μ1.length
  let μ2 := μ1 ++ [MO.dct [] []]
  have e1 : eMut (nLst aNil) δ μ = some (.mut a, μ1) := mutL (a_nil _ _) (by simp)
  have e5 : eDctM0 δ μ1 = some (.mut e, μ2) := rfl
  have K2 : Keeps μ μ2 := (Keeps.app _ _).trans (Keeps.app _ _)
  obtain ⟨ν, e6, kν⟩ := mul_card (t := 101) (by decide) h1 (K2 p _ kp)
  let f := ν.length
  let μ3 := ν ++ [MO.lst ((List.replicate 101 c).map Cd.dt)]
  have e3 : eTup aNil δ μ1 = some (.tup [], μ1) := rfl
  have e4 : eBin ixD (eVar 3) (eC (.int 0)) δ μ1 = some (.str u.key, μ1) := Law.g1 0 (by decide) (var_at h3)
  have S : nosF δ μ = some (.lst [.mut a, .tup [], .non, .str u.key, .mut e, .mut f], μ3) := frz (aC e1 (aC e3 (aC (f := eC .non) rfl (aC e4 (aC e5 (aC e6 (a_nil _ _))))))) (by simp)
  have ea : e = a + 1 := by simp [e, μ1, a]
  have k2e : μ2[e]? = some (.dct [] []) := by simp [μ2, e]
  have k2a : μ2[a]? = some (.lst []) := by simp [μ2, μ1, a]
  have fe : e < f := (List.getElem?_eq_some_iff.mp (kν e _ k2e)).1
  have K3 : Keeps μ2 μ3 := kν.trans (Keeps.app _ _)
  have k3a : μ3[a]? = some (.lst (([] : List Cd).map Cd.dt)) := K3 a _ k2a
  have k3e := K3 e _ k2e
  have k3f : μ3[f]? = some (.lst ((List.replicate 101 c).map Cd.dt)) := by simp [μ3, f]
  have n1 := nl_lst k3a (fun c hc => nomatch hc) (.inl rfl) (by simp)
  generalize hμ4 : μ3.set a (.lst (([] : List Cd).map Cd.dt ++ [.int 7])) = μ4 at n1
  have k4e : μ4[e]? = some (.dct [] []) := by rw [← hμ4, List.getElem?_set_ne (by omega)]; exact k3e
  have k4f : μ4[f]? = some (.lst ((List.replicate 101 c).map Cd.dt)) := by rw [← hμ4, List.getElem?_set_ne (by omega)]; exact k3f
  have n2 : f__law_no_list [.tup []] μ4 = some (.bl true, μ4) := nl_fix .nil (greatest_no2 (sk := .t) (xs := []) rfl (Sq.tup []).isl (.inl rfl))
  have n3 : f__law_no_list [.non] μ4 = some (.bl true, μ4) := nl_fix .non (greatest_no1 (n := "NoneType") rfl (by decide +kernel))
  have n4 : f__law_no_list [.str u.key] μ4 = some (.bl true, μ4) := nl_fix (.str hu.key.gs) (greatest_no1 (n := "str") rfl (by decide +kernel))
  obtain ⟨s', _, n5⟩ := nl_dct (b := b) (by omega) k4e
  generalize hμ5 : μ4.set e (.dct s'.1 s'.2) = μ5 at n5
  have k5f : μ5[f]? = some (.lst ((List.replicate 101 c).map Cd.dt)) := by rw [← hμ5, List.getElem?_set_ne (by omega)]; exact k4f
  have n6 := nl_lst k5f (fun w hw => by rw [(List.mem_replicate.mp hw).2]; exact hc) (.inr (by rw [List.length_replicate]; decide)) (by rw [List.length_replicate]; decide)
  suffices q : ∃ δ' μ', forLoop (nmG 7) noB [.mut a, .tup [], .non, .str u.key, .mut e, .mut f] δ μ3 = some (.nx δ' μ') by
    obtain ⟨δ', μ', q⟩ := q
    exact ⟨δ', μ', for_eq (iL_at S) q⟩
  · rw [for_cons (no_step n1 hl), for_cons (no_step n2 (by simp [hl])), for_cons (no_step n3 (by simp [hl])), for_cons (no_step n4 (by simp [hl])), for_cons (no_step n5 (by simp [hl])), for_cons (no_step n6 (by simp [hl]))]
    exact ⟨_, _, rfl⟩
/-! ### the refusals -/
theorem refusals_ok {key kw : Str} {c : Cd} {cs : List Cd} (B : Bx b n μ) (hn : n ≤ 600) (hbp : b < p) (kp : μ[p]? = some (.lst ((c :: cs).map Cd.dt))) (ok : AllOk key (c :: cs)) (l : cs.length ≤ 10) (hk : NameS kw) (ks : kw ≠ key) : ∃ μ', f__law_refusals_right [.mut b, .mut p, .str kw] μ = some (.bl true, μ') := by
  let δ0 : List SV := startD 11 [.mut b, .mut p, .str kw]
  have hc := (ok c (List.mem_cons_self ..)).1
  -- the card
  obtain ⟨d, μ1, e1, d0, d1, B1, dr1⟩ := take_x (i := 0) (δ := δ0) (w := (((c :: cs).map Cd.dt).length : Nat)) (fm := eCall lenD (aCons (eVar 1) aNil)) rfl (len_var (k := p) rfl kp) B (by simp) (by simp; omega) (by omega)
  rw [List.length_map, List.length_cons] at d1
  obtain ⟨j, rfl⟩ : ∃ j : Nat, d = (j : Nat) := ⟨d.toNat, by omega⟩
  have k1 := dr1 p _ (by omega) kp
  have jl : j < (c :: cs).length := by rw [List.length_cons]; omega
  obtain ⟨u, hu⟩ : ∃ u, (c :: cs)[j]? = some u := ⟨_, List.getElem?_eq_getElem jl⟩
  have mu : u ∈ c :: cs := List.mem_of_getElem? hu
  obtain ⟨ou, ku⟩ := ok u mu
  have hj : ((c :: cs).map Cd.dt)[j]? = some u.dt := by rw [List.getElem?_map, hu]; rfl
  have F3 : eBin ixD (eVar 1) (eFn f__law_take [] (aCons (eVar 0) (aCons (eCall lenD (aCons (eVar 1) (aNil))) (aNil)))) δ0 μ = some (u.dt, μ1) := ixe (x := .mut p) (var_at rfl) e1 (mut_ix k1 hj)
  let δ1 : List SV := δ0.set 3 (.d u.dt)
  -- the strange one
  let s : Cd := { u with key := kw }
  have os : CdOk s := ⟨hk, ou.bye, ou.n1, ou.n2, ou.ml, ou.ma⟩
  have kss : s.key ≠ key := ks
  have ksu : s.key ≠ u.key := by rw [ku]; exact ks
  have F4 : eBin addT (eTup (aCons (eVar 2) (aNil))) (eSlT (eVar 3) (pSo (eC (.int 1))) (pNo)) δ1 μ1 = some (s.dt, μ1) := addT_at (a := [.str kw]) (tup1 (var_at rfl)) (rest_at (c := u) rfl) (by simp)
  let δ2 : List SV := δ1.set 4 (.d s.dt)
  -- the odd one
  obtain ⟨odd, μ2, e2, o2, B2, dr2⟩ := odd_ok (p := p) (δ := δ2) B1 (by omega) (List.getElem?_eq_some_iff.mp k1).1 ou rfl rfl
  have k2 := dr2 p _ (by omega) k1
  let δ3 : List SV := δ2.set 5 (.d odd)
  -- the doors
  obtain ⟨δ4, μ3, e3, o3, kk3, r3, l4, g4⟩ := doors_ok hbp ou os ksu (rangeD 0 3) 8 δ3 μ2 (fun d hd => by
    obtain ⟨z, hz, rfl⟩ := List.mem_map.mp hd
    rw [List.mem_range] at hz
    exact ⟨z, hz, by rw [show (0 : Int) + (z : Nat) = (z : Nat) by omega]⟩) o2 (by rw [range_len]; decide) rfl rfl rfl rfl
  rw [range_len] at o3 r3
  have k3 := kk3 _ k2
  have B3 := B2.ev r3
  -- one wrong one
  have W : iL (eFrz (nLst (aCons (eTup (aCons (eVar 5) (aCons (eC (.str "card")) (aNil)))) (aCons (eTup (aCons (eVar 4) (aCons (eC (.str "unlike")) (aNil)))) (aNil))))) δ4 μ3 = some ([.tup [odd, .str "card"], .tup [s.dt, .str "unlike"]], μ3) := by
    have v5 := (g4 5 (by decide)).trans (show δ3[5]? = some (.d odd) from rfl)
    have v4 := (g4 4 (by decide)).trans (show δ3[4]? = some (.d s.dt) from rfl)
    have t1 : eTup (aCons (eVar 5) (aCons (eC (.str "card")) (aNil))) δ4 μ3 = some (.tup [odd, .str "card"], μ3) := by
      simp [eTup, aC (var_at (μ := μ3) v5) (aC (f := eC (.str "card")) (δ := δ4) (μ := μ3) rfl (a_nil _ _))]
    have t2 : eTup (aCons (eVar 4) (aCons (eC (.str "unlike")) (aNil))) δ4 μ3 = some (.tup [s.dt, .str "unlike"], μ3) := by
      simp [eTup, aC (var_at (μ := μ3) v4) (aC (f := eC (.str "unlike")) (δ := δ4) (μ := μ3) rfl (a_nil _ _))]
    exact iL_at (frz (aC t1 (aC t2 (a_nil _ _))) (by simp))
  let δ5 := (δ4.set 8 (.d odd)).set 9 (.d (.str "card"))
  have g5 : ∀ j, j < 6 → δ5[j]? = δ3[j]? := fun j hj => (get_ne (get_ne rfl (by omega)) (by omega)).trans (g4 j hj)
  have l5 : δ5.length = 11 := by simp [δ5, l4]
  obtain ⟨δ6, μ4, e4, d4, B4, l6, g6⟩ := wrong_ok (δ := δ5) (z := odd) (w := "card") B3 (by omega) k3 ok l os kss o3 (by decide) (.inl ⟨rfl, rfl⟩) (g5 0 (by decide)) (g5 1 (by decide)) (get_ne (get_set (by omega)) (by decide)) (get_set (by simp [l4])) l5
  have k4 := d4 p _ (by omega) k3
  have o4 := o3.dr d4
  let δ7 := (δ6.set 8 (.d s.dt)).set 9 (.d (.str "unlike"))
  have g7 : ∀ j, j < 6 → δ7[j]? = δ3[j]? := fun j hj => (get_ne (get_ne rfl (by omega)) (by omega)).trans ((g6 j (by omega)).trans (g5 j hj))
  have l7 : δ7.length = 11 := by simp [δ7, l6]
  obtain ⟨δ8, μ5, e5, d5, B5, l8, g8⟩ := wrong_ok (δ := δ7) (z := s.dt) (w := "unlike") B4 (by omega) k4 ok l os kss o4 (by decide) (.inr ⟨rfl, rfl⟩) (g7 0 (by decide)) (g7 1 (by decide)) (get_ne (get_set (by omega)) (by decide)) (get_set (by simp [l6])) l7
  have k5 := d5 p _ (by omega) k4
  have o5 := o4.dr d5
  have gg : ∀ j, j < 6 → δ8[j]? = δ3[j]? := fun j hj => (g8 j (by omega)).trans (g7 j hj)
  have lp : forLoop (tupG 2 (consG (nmG 8) (consG (nmG 9) (nilG)))) wrongB [.tup [odd, .str "card"], .tup [s.dt, .str "unlike"]] δ4 μ3 = some (.nx δ8 μ5) := by
    rw [for_consG (show tupG 2 (consG (nmG 8) (consG (nmG 9) (nilG))) (.tup [odd, .str "card"]) δ4 = some δ5 from rfl) e4, for_consG (show tupG 2 (consG (nmG 8) (consG (nmG 9) (nilG))) (.tup [s.dt, .str "unlike"]) δ6 = some δ7 from rfl) e5]
    rfl
  -- the first wrong one
  obtain ⟨μ6, e6, d6, B6⟩ := first_bad_ok B5 (by omega) k5 ok l os kss o5 (by decide)
  have k6 := d6 p _ (by omega) k5
  have T6 := not_eq (b := true) (asB_eq (fnE (aC (var_at (μ := μ5) ((gg 0 (by decide)).trans (show δ3[0]? = some (.d (.mut b)) from rfl))) (aC (var_at ((gg 1 (by decide)).trans (show δ3[1]? = some (.d (.mut p)) from rfl))) (aC (var_at ((gg 5 (by decide)).trans (show δ3[5]? = some (.d odd) from rfl))) (a1 ((gg 4 (by decide)).trans (show δ3[4]? = some (.d s.dt) from rfl)))))) e6))
  -- what is no list
  obtain ⟨δ9, μ7, e7⟩ := nos_ok (b := b) B6.lt k6 ou hc ((gg 1 (by decide)).trans (show δ3[1]? = some (.d (.mut p)) from rfl)) ((gg 3 (by decide)).trans (show δ3[3]? = some (.d u.dt) from rfl)) l8
  refine ⟨μ7, run_of ?_⟩
  rw [show b__law_refusals_right = bThen (bSet 3 _) (bThen (bSet 4 _) (bThen (bSet 5 oddF) (bThen (bFor (iR1 (aCons (eC (.int 3)) (aNil))) (nmG 6) doorB) (bThen (bFor (iL (eFrz (nLst (aCons (eTup (aCons (eVar 5) (aCons (eC (.str "card")) (aNil)))) (aCons (eTup (aCons (eVar 4) (aCons (eC (.str "unlike")) (aNil)))) (aNil)))))) (tupG 2 (consG (nmG 8) (consG (nmG 9) (nilG)))) wrongB) (bThen (bIf _ (bRet _) bNil) (bThen (bFor (iL nosF) (nmG 7) noB) (bRet (eC (.bl true))))))))) from rfl, then_set F3, then_set F4, then_set e2, then_for (iR1_at (L := 3) (aC (f := eC (.int 3)) rfl (a_nil _ _)) (by decide)) e3]
  refine (then_nx (for_eq W lp)).trans ((then_nx (if_nx T6)).trans ((then_nx e7).trans (ret_eq (f := eC (.bl true)) (d := .bl true) rfl)))
end Law

set_option Elab.async false
set_option linter.all false
set_option autoImplicit false
set_option maxRecDepth 100000
set_option maxHeartbeats 4000000
namespace Law
open PySem PySem.Spec PySem.Calls L2 G GL
variable {b m n p : Nat} {μ : List MO} {x y : D}
theorem forP_inv {P : List MO → Prop} {J : List SV → List MO → Prop} {i : Nat} {body : BF} : ∀ (ds : List D), (∀ d ∈ ds, ∀ δ μ, J δ μ → ∃ δ' μ', body (δ.set i (.d d)) μ = some (.nx δ' μ') ∧ J δ' μ') → (∀ δ μ, J δ μ → P μ) → ∀ δ μ, J δ μ → ∃ δ' μ', forLoopP P (nmG i) body ds δ μ = some (.nx δ' μ') ∧ J δ' μ'
  | [], _, hP, δ, μ, j => ⟨δ, μ, forP_nil (hP δ μ j), j⟩
  | d :: ds, h, hP, δ, μ, j => by
    obtain ⟨δ1, μ1, e1, j1⟩ := h d (List.mem_cons_self ..) δ μ j
    obtain ⟨δ2, μ2, e2, j2⟩ := forP_inv ds (fun d hd => h d (List.mem_cons_of_mem _ hd)) hP δ1 μ1 j1
    exact ⟨δ2, μ2, (forP_cons (hP δ μ j) e1).trans e2, j2⟩
/-- slots below k stand, and what was laid stands -/
structure Sm13 (k : Nat) (δ0 : List SV) (μ0 : List MO) (δ : List SV) (μ : List MO) : Prop where
  len : δ.length = 13
  old : ∀ j, j < k → δ[j]? = δ0[j]?
  mem : Keeps μ0 μ
theorem Sm13.refl {k : Nat} {δ : List SV} (h : δ.length = 13) : Sm13 k δ μ δ μ := ⟨h, fun _ _ => rfl, Keeps.refl μ⟩
theorem Sm13.set {k i : Nat} {δ0 δ : List SV} {μ0 : List MO} {s : SV} (h : Sm13 k δ0 μ0 δ μ) (hi : k ≤ i) : Sm13 k δ0 μ0 (δ.set i s) μ := ⟨by rw [List.length_set]; exact h.len, fun j hj => (get_ne rfl (by omega)).trans (h.old j hj), h.mem⟩
theorem Sm13.trans {k l : Nat} {δ0 δ δ1 : List SV} {μ0 μ1 : List MO} (h : Sm13 k δ0 μ0 δ μ) (h2 : Sm13 l δ μ δ1 μ1) (hk : k ≤ l) : Sm13 k δ0 μ0 δ1 μ1 := ⟨h2.len, fun j hj => (h2.old j (by omega)).trans (h.old j hj), h.mem.trans h2.mem⟩
theorem tAnd_t {f g : TF} {δ : List SV} {μ1 : List MO} {c : Bool} (h : f δ μ = some (true, μ)) (h2 : g δ μ = some (c, μ1)) : tfAnd f g δ μ = some (c, μ1) := by simp [tfAnd, tThen, h, h2]
theorem tAnd_f {f g : TF} {δ : List SV} (h : f δ μ = some (false, μ)) : tfAnd f g δ μ = some (false, μ) := by simp [tfAnd, tThen, h]
noncomputable abbrev ahF (i j : Nat) : EF := eFnX fx_is_ahead (aCons (eVar i) (aCons (eVar j) (aNil)))
theorem ah_at {i j : Nat} {a c : Cd} {δ : List SV} (ha : CdOk a) (hc : CdOk c) (hk : c.key = a.key) (hi : δ[i]? = some (.d a.dt)) (hj : δ[j]? = some (.d c.dt)) : ahF i j δ μ = some (.bl (ahd a c), μ) := fnX (aC (var_at hi) (a1 hj)) (ahead_ok ha hc hk μ)
noncomputable abbrev lastB : BF := bIf (tfAnd (asB (ahF 5 10)) (tfAnd (asB (ahF 10 12)) (tfNot (asB (ahF 5 12))))) (bRet (eC (.bl false))) (bNil)
theorem last_ok {a c e : Cd} {δ : List SV} (ha : CdOk a) (hc : CdOk c) (he : CdOk e) (k1 : c.key = a.key) (k2 : e.key = a.key) (h5 : δ[5]? = some (.d a.dt)) (h10 : δ[10]? = some (.d c.dt)) (h12 : δ[12]? = some (.d e.dt)) : lastB δ μ = some (.nx δ μ) := by
  have A := asB_eq (ah_at (μ := μ) ha hc k1 h5 h10)
  have B := asB_eq (ah_at (μ := μ) hc he (k2.trans k1.symm) h10 h12)
  have C := not_eq (asB_eq (ah_at (μ := μ) ha he k2 h5 h12))
  cases q1 : ahd a c with
  | false => rw [q1] at A; exact if_nx (tAnd_f A)
  | true =>
    rw [q1] at A
    cases q2 : ahd c e with
    | false => rw [q2] at B; exact if_nx (tAnd_t A (tAnd_f B))
    | true =>
      rw [q2] at B
      rw [ahd_trans q1 q2] at C
      exact if_nx (tAnd_t A (tAnd_t B C))
noncomputable abbrev countT : TF := asB (eBin neD (eMt "list" countB (eFrz (nLst (aCons (ahF 5 10) (aCons (ahF 10 5) (aNil))))) (aCons (eC (.bl true)) (aNil))) (eCall intD (aCons (eBin neD (eVar 5) (eVar 10)) (aNil))))
theorem count_ahd {a c : Cd} (hk : c.key = a.key) : (([ahd a c, ahd c a].count true : Nat) : Int) = if (!decide (a = c)) then 1 else 0 := by
  by_cases q : a = c
  · subst q
    rw [ahd_irr]
    simp
  · have d : decide (a = c) = false := decide_eq_false q
    rw [d]
    cases q1 : ahd a c with
    | true => rw [ahd_asym q1]; rfl
    | false =>
      cases q2 : ahd c a with
      | true => rfl
      | false => exact absurd (ahd_total hk.symm q1 q2) q
theorem count_ok {a c : Cd} {δ : List SV} (ha : CdOk a) (hc : CdOk c) (hk : c.key = a.key) (h5 : δ[5]? = some (.d a.dt)) (h10 : δ[10]? = some (.d c.dt)) : countT δ μ = some (false, μ) := by
  have L := frz (aC (ah_at (μ := μ) ha hc hk h5 h10) (aC (ah_at (μ := μ) hc ha hk.symm h10 h5) (a_nil δ μ))) (by simp)
  have A : eMt "list" countB (eFrz (nLst (aCons (ahF 5 10) (aCons (ahF 10 5) (aNil))))) (aCons (eC (.bl true)) (aNil)) δ μ = some (.int (([ahd a c, ahd c a].count true : Nat) : Int), μ) := mtE L rfl (aC (f := eC (.bl true)) rfl (a_nil δ μ)) rfl
  have B : eCall intD (aCons (eBin neD (eVar 5) (eVar 10)) (aNil)) δ μ = some (.int (if (!decide (a = c)) then 1 else 0), μ) := callE (aC (ne_cards (var_at h5) (var_at h10) ha hc) (a_nil _ _)) rfl
  rw [count_ahd hk] at A
  have := asB_eq (ne_int A B)
  rw [decide_eq_true rfl] at this
  exact this
noncomputable abbrev pairB : BF := bThen (bIf (tfNot (asB (eFn f__law_pair_right [] (aCons (eVar 5) (aCons (eVar 10) (aNil)))))) (bRet (eC (.bl false))) (bNil)) (bThen (bIf countT (bRet (eC (.bl false))) (bNil)) (bForP (iLM (eMut (nSl (eVar 4) (pNo) (pSo (eC (.int 3)))))) (nmG 12) lastB))
theorem cut_mem2 {cs : List Cd} {lo hi : Option Int} {y : D} (h : y ∈ cutL (cs.map Cd.dt) lo hi) : ∃ e ∈ cs, y = e.dt := by
  obtain ⟨e, he, q⟩ := List.mem_map.mp (cutL_mem h)
  exact ⟨e, he, q.symm⟩
theorem pair_ok {key : Str} {a c : Cd} {cs : List Cd} {δ : List SV} (ok : AllOk key cs) (kp : μ[p]? = some (.lst (cs.map Cd.dt))) (ha : CdOk a ∧ a.key = key) (hc : CdOk c ∧ c.key = key) (h4 : δ[4]? = some (.d (.mut p))) (h5 : δ[5]? = some (.d a.dt)) (h10 : δ[10]? = some (.d c.dt)) (hl : δ.length = 13) : ∃ δ' μ', pairB δ μ = some (.nx δ' μ') ∧ Sm13 11 δ μ δ' μ' := by
  have kk : c.key = a.key := hc.2.trans ha.2.symm
  have T1 := not_eq (b := true) (asB_eq (fnE (aC (var_at (μ := μ) h5) (a1 h10)) (pair_right_ok ha.1 hc.1 kk μ)))
  have T2 := count_ok (μ := μ) ha.1 hc.1 kk h5 h10
  let r := μ.length
  let μ1 := μ ++ [MO.lst (cutL (cs.map Cd.dt) none (some 3))]
  have s : eMut (nSl (eVar 4) (pNo) (pSo (eC (.int 3)))) δ μ = some (.mut r, μ1) := sl_at h4 kp rfl rfl
  have k1 : μ1[r]? = some (.lst (cutL (cs.map Cd.dt) none (some 3))) := by simp [μ1, r]
  obtain ⟨δ', μ', e, j⟩ := forP_inv (P := fun μ => μ[r]? = some (.lst (cutL (cs.map Cd.dt) none (some 3)))) (J := Sm13 11 δ μ1) (i := 12) (body := lastB) (cutL (cs.map Cd.dt) none (some 3)) (fun d hd δ2 μ2 j => by
    obtain ⟨e, he, rfl⟩ := cut_mem2 hd
    obtain ⟨oe, ke⟩ := ok e he
    have js := j.set (i := 12) (s := .d e.dt) (by decide)
    exact ⟨_, μ2, last_ok ha.1 hc.1 oe kk (ke.trans ha.2.symm) ((js.old 5 (by decide)).trans h5) ((js.old 10 (by decide)).trans h10) (get_set (by have := j.len; omega)), js⟩) (fun δ2 μ2 j => j.mem _ _ k1) δ μ1 (Sm13.refl hl)
  exact ⟨δ', μ', (then_nx (if_nx T1)).trans ((then_nx (if_nx T2)).trans (forPM_at s k1 e)), ⟨j.len, j.old, (Keeps.app _ _).trans j.mem⟩⟩
noncomputable abbrev pairsB : BF := bForP (iLM (eVar 4)) (nmG 5) (bForP (iLM (eVar 4)) (nmG 10) pairB)
theorem pairs_ok {key : Str} {cs : List Cd} {δ : List SV} (ok : AllOk key cs) (kp : μ[p]? = some (.lst (cs.map Cd.dt))) (h4 : δ[4]? = some (.d (.mut p))) (hl : δ.length = 13) : ∃ δ' μ', pairsB δ μ = some (.nx δ' μ') ∧ Sm13 5 δ μ δ' μ' := by
  obtain ⟨δ', μ', e, j⟩ := forP_inv (P := fun μ => μ[p]? = some (.lst (cs.map Cd.dt))) (J := Sm13 5 δ μ) (i := 5) (body := bForP (iLM (eVar 4)) (nmG 10) pairB) (cs.map Cd.dt) (fun d hd δ2 μ2 j => by
    obtain ⟨a, ha, rfl⟩ := List.mem_map.mp hd
    have j3 := j.set (i := 5) (s := .d a.dt) (by decide)
    have g5 : (δ2.set 5 (.d a.dt))[5]? = some (.d a.dt) := get_set (by have := j.len; omega)
    have kp2 := j.mem _ _ kp
    obtain ⟨δ3, μ3, e3, k3⟩ := forP_inv (P := fun μ => μ[p]? = some (.lst (cs.map Cd.dt))) (J := Sm13 6 (δ2.set 5 (.d a.dt)) μ2) (i := 10) (body := pairB) (cs.map Cd.dt) (fun d hd δ4 μ4 j4 => by
      obtain ⟨c, hc, rfl⟩ := List.mem_map.mp hd
      have j5 := j4.set (i := 10) (s := .d c.dt) (by decide)
      obtain ⟨δ6, μ6, e6, j6⟩ := pair_ok (δ := δ4.set 10 (.d c.dt)) ok (j4.mem _ _ kp2) (ok a ha) (ok c hc) ((j5.old 4 (by decide)).trans ((j3.old 4 (by decide)).trans h4)) ((j5.old 5 (by decide)).trans g5) (get_set (by have := j4.len; omega)) j5.len
      exact ⟨δ6, μ6, e6, j5.trans j6 (by decide)⟩) (fun δ4 μ4 j4 => j4.mem _ _ kp2) (δ2.set 5 (.d a.dt)) μ2 (Sm13.refl j3.len)
    refine ⟨δ3, μ3, forPM_at (var_at ((j3.old 4 (by decide)).trans h4)) kp2 e3, j3.trans k3 (by decide)⟩) (fun δ2 μ2 j => j.mem _ _ kp) δ μ (Sm13.refl hl)
  exact ⟨δ', μ', forPM_at (var_at h4) kp e, j⟩
/-! ### the top -/
theorem cut_from1 (c : Cd) (cs : List Cd) : cutL ((c :: cs).map Cd.dt) (some 1) none = cs.map Cd.dt := by
  simp only [cutL, HT.sIx, List.map_cons, List.length_cons, List.length_map]
  rw [if_neg (by omega), show min (1 : Int).toNat (cs.length + 1) = 1 by simp, List.drop_one, List.tail_cons, Nat.add_sub_cancel]
  exact List.take_of_length_le (by simp)
abbrev topB : BF := bSet 6 (eIf (asB (eFn f__law_ahead [] (aCons (eVar 6) (aCons (eVar 7) (aNil))))) (eVar 7) (eVar 6))
theorem top_step {a c : Cd} {δ : List SV} (h6 : δ[6]? = some (.d a.dt)) (h7 : δ[7]? = some (.d c.dt)) : topB δ μ = some (.nx (δ.set 6 (.d (gr a c).dt)) μ) := by
  have T : asB (eFn f__law_ahead [] (aCons (eVar 6) (aCons (eVar 7) (aNil)))) δ μ = some (ahd a c, μ) := asB_eq (fnE (aC (var_at h6) (a1 h7)) (law_ahead_ok a c μ))
  refine set_at ?_
  unfold gr
  cases q : ahd a c with
  | true => rw [q] at T; exact if_t T (var_at h7)
  | false => rw [q] at T; exact if_f T (var_at h6)
theorem top_loop {P : List MO → Prop} (hP : P μ) : ∀ (cs : List Cd) (a : Cd) (δ : List SV), δ[6]? = some (.d a.dt) → δ.length = 13 → ∃ δ', forLoopP P (nmG 7) topB (cs.map Cd.dt) δ μ = some (.nx δ' μ) ∧ δ'[6]? = some (.d (mx a cs).dt) ∧ Sm13 6 δ μ δ' μ
  | [], a, δ, h, hl => ⟨δ, forP_nil hP, h, Sm13.refl hl⟩
  | c :: cs, a, δ, h, hl => by
    have s1 := (Sm13.refl (k := 6) (μ := μ) hl).set (i := 7) (s := .d c.dt) (by decide)
    have s2 := s1.set (i := 6) (s := .d (gr a c).dt) (by decide)
    have e := top_step (μ := μ) (δ := δ.set 7 (.d c.dt)) (get_ne h (by decide)) (get_set (by omega))
    obtain ⟨δ', e', h6, s3⟩ := top_loop hP cs (gr a c) _ (get_set (s := .d (gr a c).dt) (by simp [hl])) s2.len
    exact ⟨δ', (forP_cons hP e).trans e', h6, s2.trans s3 (by decide)⟩
end Law

set_option Elab.async false
set_option linter.all false
set_option autoImplicit false
set_option maxRecDepth 100000
set_option maxHeartbeats 4000000
namespace Law
open PySem PySem.Spec PySem.Calls L2 G GL
variable {b m n p : Nat} {μ : List MO} {x y : D}
/-! ### the greatest of them, however they stand -/
noncomputable abbrev someB : BF := bThen (bSet 11 (eCall (reprM exNm) (aCons (eVar 9) (aNil)))) (bIf (tfOr (asB (eBin neD (eCall (reprM exNm) (aCons (eFnX fx_greatest (aCons (eVar 9) (aNil))) (aNil))) (eCall (reprM exNm) (aCons (eVar 6) (aNil))))) (asB (eBin neD (eCall (reprM exNm) (aCons (eVar 9) (aNil))) (eVar 11)))) (bRet (eC (.bl false))) (bNil))
theorem some_ok {P : List MO → Prop} {key T : Str} {c e : Cd} {cs es : List Cd} {δ : List SV} (ok : AllOk key (c :: cs)) (hl : es.length < 100) (h : Sq μ x ((e :: es).map Cd.dt) P) (hm : ∀ u, u ∈ c :: cs ↔ u ∈ e :: es) (rp : reprM exNm [x] μ = some (.str T, μ)) (h9 : δ[9]? = some (.d x)) (h6 : δ[6]? = some (.d (mx c cs).dt)) (hd : δ.length = 13) : someB δ μ = some (.nx (δ.set 11 (.d (.str T))) μ) := by
  let δ1 := δ.set 11 (.d (.str T))
  have ke := (ok e ((hm e).mpr (List.mem_cons_self ..))).2
  have G := greatest_ok h hl (fun u hu => ⟨(ok u ((hm u).mpr hu)).1, (ok u ((hm u).mpr hu)).2.trans ke.symm⟩)
  rw [← mx_uniq key (fun u hu => (ok u hu).2) hm] at G
  have om : CdOk (mx c cs) := by
    rcases mx_mem cs c with q | q
    · rw [q]; exact (ok _ (List.mem_cons_self ..)).1
    · exact (ok _ (List.mem_cons_of_mem _ q)).1
  have g9 : δ1[9]? = some (.d x) := get_ne h9 (by decide)
  have g6 : δ1[6]? = some (.d (mx c cs).dt) := get_ne h6 (by decide)
  have g11 : δ1[11]? = some (.d (.str T)) := get_set (by omega)
  have A := asB_eq (ne_str (card_repr_at (fnX (a1 (μ := μ) g9) G) om) (card_repr_at (var_at (μ := μ) g6) om))
  rw [decide_eq_true rfl] at A
  have C := asB_eq (ne_str (var_txt g9 rp) (var_at (x := .str T) g11))
  rw [decide_eq_true rfl] at C
  exact (then_nx (set_at (var_txt h9 rp))).trans (if_nx (tOr_eq2 (b := false) A C))
theorem revM_at {i k : Nat} {xs : List D} {δ : List SV} (v : δ[i]? = some (.d (.mut k))) (e : μ[k]? = some (.lst xs)) : eMut (nRevL (eVar i)) δ μ = some (.mut μ.length, μ ++ [.lst xs.reverse]) := mutE (by simp [nRevL, var_at (μ := μ) v, seq_mut e])
theorem cut_lo (xs : List D) (d : Nat) : cutL xs (some (d : Nat)) none = xs.drop d := by
  simp only [cutL, HT.sIx_nat, HT.sIx_none]
  rw [List.take_of_length_le (by rw [List.length_drop]; omega)]
  rcases Nat.le_total d xs.length with h | h
  · rw [Nat.min_eq_left h]
  · rw [Nat.min_eq_right h, List.drop_length, List.drop_of_length_le h]
theorem cut_hi (xs : List D) (d : Nat) : cutL xs none (some (d : Nat)) = xs.take d := by
  simp only [cutL, HT.sIx_nat, HT.sIx_none, List.drop_zero, Nat.sub_zero]
  rcases Nat.le_total d xs.length with h | h
  · rw [Nat.min_eq_left h]
  · rw [Nat.min_eq_right h, List.take_length, List.take_of_length_le h]
theorem cons_of {l : List Cd} (h : 1 ≤ l.length) : ∃ e es, l = e :: es := by
  cases l with
  | nil => simp at h
  | cons e es => exact ⟨e, es, rfl⟩
abbrev rotF : EF := eCall tupM (aCons (eBin addM (eMut (nSl (eVar 4) (pSo (eVar 8)) (pNo))) (eMut (nSl (eVar 4) (pNo) (pSo (eVar 8))))) (aNil))
theorem rot_ok {cs : List Cd} {d : Nat} {δ : List SV} (kp : μ[p]? = some (.lst (cs.map Cd.dt))) (hl : cs.length ≤ 100) (h4 : δ[4]? = some (.d (.mut p))) (h8 : δ[8]? = some (.d (.int (d : Nat)))) : ∃ μ', rotF δ μ = some (.tup ((cs.drop d ++ cs.take d).map Cd.dt), μ') ∧ Keeps μ μ' := by
  have v8 : ∀ ν, pSo (eVar 8) δ ν = some (some (d : Int), ν) := fun ν => by simp [pSo, eThen, var_at (μ := ν) h8]
  have s1 := sl_at (lo := pSo (eVar 8)) (hi := pNo) (l := some (d : Nat)) (h := none) h4 kp (v8 μ) rfl
  rw [cut_lo] at s1
  let μ1 := μ ++ [MO.lst ((cs.map Cd.dt).drop d)]
  have K1 : Keeps μ μ1 := Keeps.app _ _
  have s2 := sl_at (lo := pNo) (hi := pSo (eVar 8)) (l := none) (h := some (d : Nat)) (μ := μ1) h4 (K1 p _ kp) rfl (v8 μ1)
  rw [cut_hi] at s2
  let μ2 := μ1 ++ [MO.lst ((cs.map Cd.dt).take d)]
  have K2 : Keeps μ1 μ2 := Keeps.app _ _
  have ka : μ1[μ.length]? = some (.lst ((cs.map Cd.dt).drop d)) := by simp [μ1]
  have kb : μ2[μ1.length]? = some (.lst ((cs.map Cd.dt).take d)) := by simp [μ2]
  have s3 := addM_at s1 s2 (seq_mut (K2 μ.length _ ka)) (seq_mut kb) (by rw [List.length_drop, List.length_take, List.length_map]; omega)
  refine ⟨_, ?_, K1.trans (K2.trans (Keeps.app μ2 [MO.lst ((cs.map Cd.dt).drop d ++ (cs.map Cd.dt).take d)]))⟩
  refine callE (aC s3 (a_nil _ _)) ?_
  have kc : (μ2 ++ [MO.lst ((cs.map Cd.dt).drop d ++ (cs.map Cd.dt).take d)])[μ2.length]? = some (.lst ((cs.map Cd.dt).drop d ++ (cs.map Cd.dt).take d)) := by simp only [List.getElem?_concat_length]
  have q : tupM [.mut μ2.length] (μ2 ++ [MO.lst ((cs.map Cd.dt).drop d ++ (cs.map Cd.dt).take d)]) = some (.tup ((cs.map Cd.dt).drop d ++ (cs.map Cd.dt).take d), μ2 ++ [MO.lst ((cs.map Cd.dt).drop d ++ (cs.map Cd.dt).take d)]) := by simp only [tupM, seq_mut kc]
  rw [← List.map_drop, ← List.map_take, ← List.map_append] at q
  rw [List.map_append, List.map_drop, List.map_take] at q ⊢
  exact q
abbrev somesF : EF := eFrz (nLst (aCons (eVar 4) (aCons (eMut (nRevL (eVar 4))) (aCons rotF (aNil)))))
theorem somes_ok {key : Str} {c : Cd} {cs : List Cd} {d : Nat} {δ : List SV} (ok : AllOk key (c :: cs)) (kp : μ[p]? = some (.lst ((c :: cs).map Cd.dt))) (hl : cs.length ≤ 10) (h4 : δ[4]? = some (.d (.mut p))) (h8 : δ[8]? = some (.d (.int (d : Nat)))) (h6 : δ[6]? = some (.d (mx c cs).dt)) (hd : δ.length = 13) : ∃ δ' μ', bFor (iL somesF) (nmG 9) someB δ μ = some (.nx δ' μ') ∧ Sm13 9 δ μ δ' μ' := by
  let r := μ.length
  let μ1 := μ ++ [MO.lst ((c :: cs).map Cd.dt).reverse]
  have K1 : Keeps μ μ1 := Keeps.app _ _
  have e1 : eMut (nRevL (eVar 4)) δ μ = some (.mut r, μ1) := revM_at h4 kp
  obtain ⟨μ2, e2, K2⟩ := rot_ok (d := d) (K1 p _ kp) (by rw [List.length_cons]; omega) h4 h8
  have S := frz (aC (var_at (μ := μ) h4) (aC e1 (aC e2 (a_nil _ _)))) (by simp)
  have kp2 : μ2[p]? = some (.lst ((c :: cs).map Cd.dt)) := K2 p _ (K1 p _ kp)
  have kr2 : μ2[r]? = some (.lst ((c :: cs).reverse.map Cd.dt)) := K2 r _ (by simp [μ1, r])
  obtain ⟨e, es, er⟩ := cons_of (l := (c :: cs).reverse) (by simp)
  obtain ⟨f, fs, fr⟩ := cons_of (l := (c :: cs).drop d ++ (c :: cs).take d) (by rw [List.length_append, List.length_drop, List.length_take, List.length_cons]; omega)
  rw [er] at kr2
  rw [fr] at S
  have m1 : ∀ u, u ∈ c :: cs ↔ u ∈ e :: es := fun u => by rw [← er, List.mem_reverse]
  have m2 : ∀ u, u ∈ c :: cs ↔ u ∈ f :: fs := fun u => by
    rw [← fr, List.mem_append, or_comm, ← List.mem_append, List.take_append_drop]
  have l1 : es.length < 100 := by
    have := congrArg List.length er
    rw [List.length_reverse, List.length_cons, List.length_cons] at this
    omega
  have l2 : fs.length < 100 := by
    have := congrArg List.length fr
    rw [List.length_append, List.length_drop, List.length_take, List.length_cons, List.length_cons] at this
    omega
  have ok1 : ∀ u ∈ e :: es, CdOk u := fun u hu => (ok u ((m1 u).mpr hu)).1
  have ok2 : ∀ u ∈ f :: fs, CdOk u := fun u hu => (ok u ((m2 u).mpr hu)).1
  obtain ⟨T0, r0⟩ := (Row.cards (fun u hu => (ok u hu).1) (by rw [List.length_cons]; omega) μ2).txt.2 p kp2
  obtain ⟨T1, r1⟩ := (Row.cards ok1 (by rw [List.length_cons]; omega) μ2).txt.2 r kr2
  obtain ⟨T2, r2⟩ := (Row.cards ok2 (by rw [List.length_cons]; omega) μ2).txt.1
  have s0 := (Sm13.refl (k := 9) (μ := μ2) hd).set (i := 9) (s := .d (.mut p)) (by decide)
  have e3 := some_ok (δ := δ.set 9 (.d (.mut p))) ok (by omega) (Sq.mut kp2) (fun u => Iff.rfl) r0 (get_set (by omega)) (get_ne h6 (by decide)) s0.len
  have t0 := s0.set (i := 11) (s := .d (.str T0)) (by decide)
  have s1 := t0.set (i := 9) (s := .d (.mut r)) (by decide)
  have e4 := some_ok ok l1 (Sq.mut kr2) m1 r1 (get_set (by have := t0.len; omega)) ((s1.old 6 (by decide)).trans h6) s1.len
  have t1 := s1.set (i := 11) (s := .d (.str T1)) (by decide)
  have s2 := t1.set (i := 9) (s := .d (.tup ((f :: fs).map Cd.dt))) (by decide)
  have e5 := some_ok ok l2 (Sq.tup (μ := μ2) ((f :: fs).map Cd.dt)) m2 r2 (get_set (by have := t1.len; omega)) ((s2.old 6 (by decide)).trans h6) s2.len
  have t2 := s2.set (i := 11) (s := .d (.str T2)) (by decide)
  refine ⟨_, μ2, for_eq (iL_at S) ?_, t2.len, t2.old, K1.trans K2⟩
  rw [for_cons e3, for_cons e4, for_cons e5]
  rfl
/-! ### a hundred of them -/
noncomputable abbrev hundT : TF := asB (eBin neD (eFnX fx_greatest (aCons (eBin addM (eBin mulM (eMut (nSl (eVar 4) (pNo) (pSo (eC (.int 1))))) (eC (.int 99))) (eMut (nSl (eVar 4) (pSo (eC (.int 1))) (pSo (eC (.int 2)))))) (aNil))) (eFnX fx_greatest (aCons (eMut (nSl (eVar 4) (pNo) (pSo (eC (.int 2))))) (aNil))))
theorem hund_ok {key : Str} {c c2 : Cd} {cs : List Cd} {δ : List SV} (ok : AllOk key (c :: c2 :: cs)) (kp : μ[p]? = some (.lst ((c :: c2 :: cs).map Cd.dt))) (h4 : δ[4]? = some (.d (.mut p))) : ∃ μ', hundT δ μ = some (false, μ') ∧ Keeps μ μ' := by
  obtain ⟨ν, e1, K1⟩ := mul_card (t := 99) (by decide) h4 kp
  let f := ν.length
  let μ1 := ν ++ [MO.lst ((List.replicate 99 c).map Cd.dt)]
  have K2 : Keeps μ μ1 := K1.trans (Keeps.app _ _)
  have c12 : cutL ((c :: c2 :: cs).map Cd.dt) (some 1) (some 2) = [c2.dt] := by
    simp [cutL, HT.sIx]
  have c02 : cutL ((c :: c2 :: cs).map Cd.dt) none (some 2) = [c, c2].map Cd.dt := by
    simp [cutL, HT.sIx]
  have s1 := sl_at (lo := pSo (eC (.int 1))) (hi := pSo (eC (.int 2))) (l := some 1) (h := some 2) (μ := μ1) h4 (K2 p _ kp) rfl rfl
  rw [c12] at s1
  let μ2 := μ1 ++ [MO.lst [c2.dt]]
  have K3 : Keeps μ1 μ2 := Keeps.app _ _
  have ka : μ1[f]? = some (.lst ((List.replicate 99 c).map Cd.dt)) := by simp only [μ1, f, List.getElem?_concat_length]
  have kb : μ2[μ1.length]? = some (.lst [c2.dt]) := by simp only [μ2, List.getElem?_concat_length]
  have a := addM_at e1 s1 (seq_mut (K3 f _ ka)) (seq_mut kb) (by rw [List.length_map, List.length_replicate]; simp)
  have L : (List.replicate 99 c).map Cd.dt ++ [c2.dt] = (c :: (List.replicate 98 c ++ [c2])).map Cd.dt := by
    rw [List.replicate_succ]
    simp
  rw [L] at a
  let μ3 := μ2 ++ [MO.lst ((c :: (List.replicate 98 c ++ [c2])).map Cd.dt)]
  have K4 : Keeps μ2 μ3 := Keeps.app _ _
  have oc := ok c (List.mem_cons_self ..)
  have oc2 := ok c2 (List.mem_cons_of_mem _ (List.mem_cons_self ..))
  have mem1 : ∀ u, u ∈ c :: (List.replicate 98 c ++ [c2]) ↔ u ∈ [c, c2] := fun u => by
    simp only [List.mem_cons, List.mem_append, List.mem_replicate, List.mem_nil_iff, or_false]
    constructor
    · rintro (h | ⟨_, h⟩ | h)
      · exact .inl h
      · exact .inl h
      · exact .inr h
    · rintro (h | h)
      · exact .inl h
      · exact .inr (.inr h)
  have o2 : ∀ u ∈ [c, c2], CdOk u ∧ u.key = c.key := fun u hu => by
    simp only [List.mem_cons, List.mem_nil_iff, or_false] at hu
    rcases hu with rfl | rfl
    · exact ⟨oc.1, rfl⟩
    · exact ⟨oc2.1, oc2.2.trans oc.2.symm⟩
  have G1 := greatest_ok (Sq.mut (show μ3[μ2.length]? = some (.lst ((c :: (List.replicate 98 c ++ [c2])).map Cd.dt)) by simp [μ3])) (by rw [List.length_append, List.length_replicate, List.length_singleton]; decide) (fun u hu => o2 u ((mem1 u).mp hu))
  rw [mx_uniq c.key (fun u hu => (o2 u ((mem1 u).mp hu)).2) mem1] at G1
  have s2 := sl_at (lo := pNo) (hi := pSo (eC (.int 2))) (l := none) (h := some 2) (μ := μ3) h4 (K4 p _ (K3 p _ (K2 p _ kp))) rfl rfl
  rw [c02] at s2
  let μ4 := μ3 ++ [MO.lst ([c, c2].map Cd.dt)]
  have G2 := greatest_ok (Sq.mut (show μ4[μ3.length]? = some (.lst ([c, c2].map Cd.dt)) by simp [μ4])) (by rw [List.length_singleton]; decide) o2
  have om : CdOk (mx c [c2]) := by
    rcases mx_mem [c2] c with q | q
    · rw [q]; exact oc.1
    · exact (o2 _ (List.mem_cons_of_mem _ q)).1
  have N := asB_eq (ne_cards (fnX (aC a (a_nil _ _)) G1) (fnX (aC s2 (a_nil _ _)) G2) om om)
  rw [decide_eq_true rfl] at N
  exact ⟨μ4, N, K2.trans (K3.trans (K4.trans (Keeps.app _ _)))⟩
end Law

set_option Elab.async false
set_option linter.all false
set_option autoImplicit false
set_option maxRecDepth 100000
set_option maxHeartbeats 4000000
namespace Law
open PySem PySem.Spec PySem.Calls L2 G GL
variable {b m n p : Nat} {μ : List MO} {x y : D}
noncomputable abbrev refT : TF := tfNot (asB (eFn f__law_refusals_right [] (aCons (eVar 2) (aCons (eVar 4) (aCons (eBin ixD (eVar 3) (eC (.int 3))) (aNil))))))
noncomputable abbrev endB : BF := bThen (bIf hundT (bRet (eC (.bl false))) (bNil)) (bIf refT (bRet (eC (.bl false))) (bNil))
noncomputable abbrev partB : BF := bThen pairsB (bThen (bSet 6 (eBin ixD (eVar 4) (eC (.int 0)))) (bThen (bForP (iLM (eMut (nSl (eVar 4) (pSo (eC (.int 1))) (pNo)))) (nmG 7) topB) (bThen (bSet 8 (eFn f__law_take [] (aCons (eVar 2) (aCons (eCall lenD (aCons (eVar 4) (aNil))) (aNil))))) (bThen (bFor (iL somesF) (nmG 9) someB) endB))))
abbrev cardsF : EF := eFn f__law_cards [] (aCons (eVar 2) (aCons (eBin ixD (eVar 3) (eC (.int 2))) (aCons (eMut (nSl (eVar 3) (pNo) (pSo (eC (.int 2))))) (aNil))))
noncomputable abbrev cellB : BF := bThen (bSet 2 (eFn f__law_box [] (aCons (eFn f__law_cell [] (aCons (eVar 0) (aCons (eVar 1) (aNil)))) (aNil)))) (bThen (bSet 3 (eFn f__law_names [] (aCons (eVar 2) (aCons (eC (.int 4)) (aNil))))) (bThen (bSet 4 cardsF) partB))
theorem law_is : b_law = bThen (bFor (iR1 (aCons (eCall maxD (aCons (eC (.int 2)) (aCons (eCall minD (aCons (eCall lenD (aCons (eVar 0) (aNil))) (aCons (eC (.int 6)) (aNil)))) (aNil)))) (aNil))) (nmG 1) cellB) (bRet (eC (.bl true))) := rfl
theorem part_ok {q : Nat} {key kw : Str} {c : Cd} {cs : List Cd} {ws : List D} {δ : List SV} (B : Bx b n μ) (hn : n ≤ 300) (hbp : b < p) (hbq : b ≠ q) (kp : μ[p]? = some (.lst ((c :: cs).map Cd.dt))) (kq : μ[q]? = some (.lst ws)) (h3w : ws[3]? = some (.str kw)) (ok : AllOk key (c :: cs)) (l1 : 1 ≤ cs.length) (l2 : cs.length ≤ 5) (hk : NameS kw) (ks : kw ≠ key)
    (h2 : δ[2]? = some (.d (.mut b))) (h3 : δ[3]? = some (.d (.mut q))) (h4 : δ[4]? = some (.d (.mut p))) (hl : δ.length = 13) : ∃ δ' μ', partB δ μ = some (.nx δ' μ') ∧ δ'.length = 13 ∧ δ'[0]? = δ[0]? := by
  obtain ⟨δ1, μ1, e1, s1⟩ := pairs_ok ok kp h4 hl
  have kp1 := s1.mem _ _ kp
  have B1 := B.keeps s1.mem
  -- the top
  have f2 : eBin ixD (eVar 4) (eC (.int 0)) δ1 μ1 = some (c.dt, μ1) := ixe (var_at ((s1.old 4 (by decide)).trans h4)) (fy := eC (.int 0)) rfl (mut_ix (j := 0) kp1 rfl)
  let δ2 := δ1.set 6 (.d c.dt)
  have s2 : Sm13 5 δ μ δ2 μ1 := s1.set (by decide)
  let r := μ1.length
  let μ3 := μ1 ++ [MO.lst (cs.map Cd.dt)]
  have f3 : eMut (nSl (eVar 4) (pSo (eC (.int 1))) (pNo)) δ2 μ1 = some (.mut r, μ3) := by
    have := sl_at (lo := pSo (eC (.int 1))) (hi := pNo) (l := some 1) (h := none) ((s2.old 4 (by decide)).trans h4) kp1 rfl rfl
    rwa [cut_from1] at this
  have k3 : μ3[r]? = some (.lst (cs.map Cd.dt)) := by simp only [μ3, r, List.getElem?_concat_length]
  obtain ⟨δ3, e3, t6, s3⟩ := top_loop (P := fun μ => μ[r]? = some (.lst (cs.map Cd.dt))) k3 cs c δ2 (get_set (by have := s1.len; omega)) s2.len
  have F3 : bForP (iLM (eMut (nSl (eVar 4) (pSo (eC (.int 1))) (pNo)))) (nmG 7) topB δ2 μ1 = some (.nx δ3 μ3) := forPM_at f3 k3 e3
  have g3 : ∀ j, j < 5 → δ3[j]? = δ[j]? := fun j hj => (s3.old j (by omega)).trans (s2.old j hj)
  have K3 : Keeps μ1 μ3 := Keeps.app _ _
  have kp3 := K3 p _ kp1
  have B3 := B1.keeps K3
  -- the turn
  obtain ⟨d, μ4, e4, d0, d1, B4, dr4⟩ := take_x (i := 2) (δ := δ3) (w := (((c :: cs).map Cd.dt).length : Nat)) (fm := eCall lenD (aCons (eVar 4) aNil)) ((g3 2 (by decide)).trans h2) (len_var (k := p) ((g3 4 (by decide)).trans h4) kp3) B3 (by simp) (by simp; omega) (by omega)
  obtain ⟨j, rfl⟩ : ∃ j : Nat, d = (j : Nat) := ⟨d.toNat, by omega⟩
  have kp4 := dr4 p _ (by omega) kp3
  have kq4 := dr4 q _ (Ne.symm hbq) (K3 q _ (s1.mem _ _ kq))
  let δ4 := δ3.set 8 (.d (.int (j : Nat)))
  have g4 : ∀ i, i < 5 → δ4[i]? = δ[i]? := fun i hi => (get_ne rfl (by omega)).trans (g3 i hi)
  have l4 : δ4.length = 13 := by simp [δ4, s3.len]
  obtain ⟨δ5, μ5, e5, s5⟩ := somes_ok (δ := δ4) (d := j) ok kp4 (by omega) ((g4 4 (by decide)).trans h4) (get_set (by have := s3.len; omega)) (get_ne t6 (by decide)) l4
  have g5 : ∀ i, i < 5 → δ5[i]? = δ[i]? := fun i hi => (s5.old i (by omega)).trans (g4 i hi)
  have kp5 := s5.mem _ _ kp4
  have kq5 := s5.mem _ _ kq4
  have B5 := B4.keeps s5.mem
  -- a hundred
  obtain ⟨c2, cs2, rfl⟩ : ∃ c2 cs2, cs = c2 :: cs2 := cons_of l1
  obtain ⟨μ6, e6, K6⟩ := hund_ok (δ := δ5) ok kp5 ((g5 4 (by decide)).trans h4)
  have kp6 := K6 _ _ kp5
  have kq6 := K6 _ _ kq5
  obtain ⟨μ7, e7⟩ := refusals_ok (B5.keeps K6) (by omega) hbp kp6 ok (by omega) hk ks
  have i3 : eBin ixD (eVar 3) (eC (.int 3)) δ5 μ6 = some (.str kw, μ6) := ixe (var_at ((g5 3 (by decide)).trans h3)) (fy := eC (.int 3)) rfl (mut_ix (j := 3) kq6 h3w)
  have T7 := not_eq (b := true) (asB_eq (fnE (aC (var_at (μ := μ6) ((g5 2 (by decide)).trans h2)) (aC (var_at ((g5 4 (by decide)).trans h4)) (aC i3 (a_nil _ _)))) e7))
  refine ⟨δ5, μ7, ?_, s5.len, g5 0 (by decide)⟩
  refine (then_nx e1).trans ?_
  rw [then_set f2]
  refine (then_nx F3).trans ?_
  rw [then_set e4]
  exact (then_nx e5).trans ((then_nx (if_nx e6)).trans (if_nx T7))
theorem list13 {δ : List SV} (h : δ.length = 13) : ∃ a0 a1 a2 a3 a4 a5 a6 a7 a8 a9 a10 a11 a12, δ = [a0, a1, a2, a3, a4, a5, a6, a7, a8, a9, a10, a11, a12] := by
  match δ, h with
  | [a0, a1, a2, a3, a4, a5, a6, a7, a8, a9, a10, a11, a12], _ => exact ⟨_, _, _, _, _, _, _, _, _, _, _, _, _, rfl⟩
theorem cell_body {ns : List Int} (hl : ns.length ≤ 63) (k : Nat) (hk : k ≤ 1000) (μ : List MO) (a2 a3 a4 a5 a6 a7 a8 a9 a10 a11 a12 : SV) :
    ∃ δ' μ', cellB [.d (.scr ns), .d (.int (k : Nat)), a2, a3, a4, a5, a6, a7, a8, a9, a10, a11, a12] μ = some (.nx δ' μ') ∧ δ'[0]? = some (.d (.scr ns)) ∧ δ'.length = 13 := by
  let δ0 : List SV := [.d (.scr ns), .d (.int (k : Nat)), a2, a3, a4, a5, a6, a7, a8, a9, a10, a11, a12]
  obtain ⟨c, ec⟩ := cell_ok hl k hk μ
  obtain ⟨o, eb, hb⟩ := bag_ok c μ
  let b := μ.length
  let μ1 := μ ++ [o]
  have B1 : Bx b 0 μ1 := ⟨o, by simp [μ1, b], hb⟩
  have f1 : eFn f__law_box [] (aCons (eFn f__law_cell [] (aCons (eVar 0) (aCons (eVar 1) (aNil)))) (aNil)) δ0 μ = some (.mut b, μ1) := fnE (aC (fnE (aC (var_at (x := .scr ns) rfl) (aC (var_at (x := .int (k : Nat)) rfl) (a_nil _ _))) ec) (a_nil _ _)) eb
  let δ1 : List SV := δ0.set 2 (.d (.mut b))
  obtain ⟨q, w0, w1, w2, w3, μ2, e2, hq, k2, n0, n1, n2, n3, ne, B2⟩ := names_ok B1 (by decide)
  have f2 : eFn f__law_names [] (aCons (eVar 2) (aCons (eC (.int 4)) (aNil))) δ1 μ1 = some (.mut q, μ2) := fnE (aC (var_at (x := .mut b) rfl) (aC (f := eC (.int 4)) rfl (a_nil _ _))) e2
  let δ2 : List SV := δ1.set 3 (.d (.mut q))
  -- the cards
  have i2 : eBin ixD (eVar 3) (eC (.int 2)) δ2 μ2 = some (.str w2, μ2) := ixe (x := .mut q) (var_at rfl) (fy := eC (.int 2)) rfl (mut_ix (j := 2) k2 rfl)
  let r := μ2.length
  let μ3 := μ2 ++ [MO.lst [.str w0, .str w1]]
  have f3 : eMut (nSl (eVar 3) (pNo) (pSo (eC (.int 2)))) δ2 μ2 = some (.mut r, μ3) := sl_at (i := 3) (k := q) (lo := pNo) (hi := pSo (eC (.int 2))) (l := none) (h := some 2) rfl k2 rfl rfl
  have K3 : Keeps μ2 μ3 := Keeps.app _ _
  have k3 : μ3[r]? = some (.lst [.str w0, .str w1]) := by simp only [μ3, r, List.getElem?_concat_length]
  have lb := B2.lt
  obtain ⟨p, c0, cs, μ4, e4, lp, k4, ok, m1, m2, B4, d4⟩ := law_cards_ok (B2.keeps K3) (by decide) (show b ≠ r by omega) k3 n2 n0 n1
  have f4 : cardsF δ2 μ2 = some (.mut p, μ4) := fnE (aC (var_at (x := .mut b) rfl) (aC i2 (aC f3 (a_nil _ _)))) e4
  let δ3 : List SV := δ2.set 4 (.d (.mut p))
  have kq4 := d4 q _ (by omega) (K3 q _ k2)
  have l3 : μ3.length = μ2.length + 1 := by simp [μ3]
  obtain ⟨δ', μ', e, dl, z0⟩ := part_ok (δ := δ3) (kw := w3) B4 (by decide) (show b < p by omega) (show b ≠ q by omega) k4 kq4 rfl ok (by omega) m2 n3 ne rfl rfl rfl rfl
  refine ⟨δ', μ', ?_, z0, dl⟩
  rw [show cellB = bThen (bSet 2 _) (bThen (bSet 3 _) (bThen (bSet 4 cardsF) partB)) from rfl, then_set f1, then_set f2, then_set f4]
  exact e
theorem law_good (ns : List Int) (hl : ns.length ≤ 63) : ∃ μ, f_law [.scr ns] [] = some (.bl true, μ) := by
  let δ0 : List SV := startD 13 [.scr ns]
  let L : Nat := max 2 (min ns.length 6)
  have hL : L ≤ 6 := by omega
  have R : iR1 (aCons (eCall maxD (aCons (eC (.int 2)) (aCons (eCall minD (aCons (eCall lenD (aCons (eVar 0) (aNil))) (aCons (eC (.int 6)) (aNil)))) (aNil)))) (aNil)) δ0 [] = some (rangeD 0 L, []) := by
    have e1 : eCall lenD (aCons (eVar 0) aNil) δ0 [] = some (.int ns.length, []) := callE (aC (var_at (x := .scr ns) rfl) (a_nil _ _)) rfl
    have e2 : eCall minD (aCons (eCall lenD (aCons (eVar 0) aNil)) (aCons (eC (.int 6)) aNil)) δ0 [] = some (.int (min ns.length 6 : Nat), []) := by
      have := aC e1 (aC (f := eC (.int 6)) (δ := δ0) (μ := []) rfl (a_nil _ _))
      have z : (if (6 : Int) < (ns.length : Int) then (6 : Int) else (ns.length : Int)) = ((min ns.length 6 : Nat) : Int) := by split <;> omega
      exact callE this (by simp only [minD, z])
    have e3 : eCall maxD (aCons (eC (.int 2)) (aCons (eCall minD (aCons (eCall lenD (aCons (eVar 0) aNil)) (aCons (eC (.int 6)) aNil))) aNil)) δ0 [] = some (.int (L : Nat), []) := by
      have := aC (μ := []) (f := eC (.int 2)) (δ := δ0) rfl (aC e2 (a_nil _ _))
      have z : (if ((min ns.length 6 : Nat) : Int) > 2 then ((min ns.length 6 : Nat) : Int) else 2) = (L : Int) := by
        show _ = ((max 2 (min ns.length 6) : Nat) : Int)
        split <;> omega
      exact callE this (by simp only [maxD, z])
    have e4 := aC e3 (a_nil δ0 [])
    simp only [iR1, aThen, e4]
    rw [if_pos (by omega)]
    simp
  obtain ⟨δ1, μ1, F, _⟩ := for_two (J := fun δ => δ[0]? = some (.d (.scr ns)) ∧ δ.length = 13) (i := 1) (ds := rangeD 0 L) (body := cellB) (fun d hd δ μ J => by
    obtain ⟨k, hk, rfl⟩ := List.mem_map.mp hd
    rw [List.mem_range] at hk
    have k0 : (0 : Int) + (k : Nat) = (k : Nat) := by omega
    rw [k0]
    obtain ⟨a0, a1, a2, a3, a4, a5, a6, a7, a8, a9, a10, a11, a12, rfl⟩ := list13 J.2
    have h0 : a0 = .d (.scr ns) := by simpa using J.1
    subst h0
    obtain ⟨δ', μ', e, q1, q2⟩ := cell_body hl k (by omega) μ a2 a3 a4 a5 a6 a7 a8 a9 a10 a11 a12
    exact ⟨δ', μ', e, q1, q2⟩) δ0 [] ⟨rfl, rfl⟩
  refine ⟨μ1, run_of ?_⟩
  rw [law_is, then_for R F]
  rfl
end Law

set_option Elab.async false
set_option linter.all false
set_option autoImplicit false
set_option maxRecDepth 100000
set_option maxHeartbeats 4000000
namespace Law
open PySem PySem.Spec PySem.Calls L2 G
theorem b_law_at {K : PySem.W.Frag} {f : Addr} {kV dc pm cd ct : Value} {an : Option Addr} (F : Fun K "law" "law" s_law f (PySem.W.fnOf "law" "law" (defArgs s_law) (defBody s_law) (defScope s_law) .none kV dc pm an cd ct)) (s : Shared) (u : Value) : BindsTo s (PySem.W.fnOf "law" "law" (defArgs s_law) (defBody s_law) (defScope s_law) .none kV dc pm an cd ct) ⟨[u], []⟩ [("script", u)] := .of_eq rfl
theorem kit_self {K : PySem.W.Frag} {C : Addr} : PySem.W.kitOne K (.ref C) (.ref C) = some true := by
  unfold PySem.W.kitOne
  rw [if_pos (beq_self_eq_true _)]
theorem kit_cls {K : PySem.W.Frag} {C D : Addr} {b : Bool} (hd : PySem.W.hasDictIn K D = true) (ht : PySem.W.typeIn K (.ref D) = some (.type "type")) (hs : PySem.W.subIn K (.ref C) (.ref D) = some b) : PySem.W.kitCls K (.ref C) (.ref D) = some b := by
  obtain ⟨cd, hc, _⟩ := PySem.W.any_some hd
  unfold PySem.W.kitCls
  simp only [hc, ht]
  exact hs
theorem kit_no {K : PySem.W.Frag} {C D : Addr} (hd : PySem.W.hasDictIn K D = true) (ht : PySem.W.typeIn K (.ref D) = some (.type "type")) (hs : PySem.W.subIn K (.ref C) (.ref D) = some false) (hc : PySem.W.subIn K (.ref C) (.ref C) = some true) : PySem.W.kitOne K (.ref C) (.ref D) = some false := by
  have hne : ¬ ((Value.ref C == Value.ref D) = true) := fun z => by
    have e := beq_iff_eq.mp z
    cases e
    rw [hc] at hs
    cases hs
  unfold PySem.W.kitOne
  rw [if_neg hne]
  exact kit_cls hd ht hs
abbrev sBase : Stmt := inClass (top 1) 0
theorem scBase : FnScope ["self", "text"] ["self", "text"] (defScope sBase) := ⟨rfl, rfl, rfl, by decide +kernel, rfl, by decide +kernel, by decide +kernel⟩
theorem ok_base {P : Program} {w : World} {K : PySem.W.Frag} {mg : Str → Option Value} {base : Heap} {f : Addr} {fd : FuncData} (F : Fun K "__init__" "PeerError.__init__" sBase f fd) (hV : mg "ValueError" = none) (vV : PySem.W.findCls K (.type "ValueError") (.type "type") "__init__" = some (.val (.builtin "ValueError.__init__"))) : FnG P w K mg base 1 f fd 2 ["self", "text"] (spV K) :=
  initV_ok F scBase rfl rfl fun cdv A outer s H => pss_one (ps_expr (pe_veT rfl hV vV (pa_cons (pv 0) (pa_cons (pv 1) pa_nil))))
abbrev sNoNumber : Stmt := inClass (top 2) 0
theorem sc_sNoNumber : FnScope ["self", "found"] ["self", "found"] (defScope sNoNumber) := ⟨rfl, rfl, rfl, by decide +kernel, rfl, by decide +kernel, by decide +kernel⟩
theorem ok_sNoNumber {P : Program} {w : World} {K : PySem.W.Frag} {mg : Str → Option Value} {base : Heap} {f fB CB C : Addr} {fd fdB : FuncData} (F : Fun K "__init__" "NoNumber.__init__" sNoNumber f fd) (hB : mg "PeerError" = some (.ref CB)) (c : CFn K CB "__init__" fB) (GB : FnG P w K mg base 1 fB fdB 2 ["self", "text"] (spV K)) (bB : Binds K fdB ["self", "text"] []) (T : OexC K C) (hno : PySem.W.findIn K (.ref C) "found" = some none) : FnG P w K mg base 2 f fd 2 ["self", "found"] (spX C "found" "no number") :=
  initX_ok (CB := CB) F sc_sNoNumber rfl rfl T hno fun cdv A outer s H hgd hr => pss_cons (ps_expr (pe_clsfn (pe_glob rfl hB rfl) c GB hgd hr bB (pa_cons (pv 0) (pa_cons pe_str pa_nil)))) (pss_one (ps_setX (pv 0) (pv 1)))
abbrev sNoList : Stmt := inClass (top 3) 0
theorem sc_sNoList : FnScope ["self", "found"] ["self", "found"] (defScope sNoList) := ⟨rfl, rfl, rfl, by decide +kernel, rfl, by decide +kernel, by decide +kernel⟩
theorem ok_sNoList {P : Program} {w : World} {K : PySem.W.Frag} {mg : Str → Option Value} {base : Heap} {f fB CB C : Addr} {fd fdB : FuncData} (F : Fun K "__init__" "NoList.__init__" sNoList f fd) (hB : mg "PeerError" = some (.ref CB)) (c : CFn K CB "__init__" fB) (GB : FnG P w K mg base 1 fB fdB 2 ["self", "text"] (spV K)) (bB : Binds K fdB ["self", "text"] []) (T : OexC K C) (hno : PySem.W.findIn K (.ref C) "found" = some none) : FnG P w K mg base 2 f fd 2 ["self", "found"] (spX C "found" "no list") :=
  initX_ok (CB := CB) F sc_sNoList rfl rfl T hno fun cdv A outer s H hgd hr => pss_cons (ps_expr (pe_clsfn (pe_glob rfl hB rfl) c GB hgd hr bB (pa_cons (pv 0) (pa_cons pe_str pa_nil)))) (pss_one (ps_setX (pv 0) (pv 1)))
abbrev sNoCard : Stmt := inClass (top 4) 0
theorem sc_sNoCard : FnScope ["self", "found"] ["self", "found"] (defScope sNoCard) := ⟨rfl, rfl, rfl, by decide +kernel, rfl, by decide +kernel, by decide +kernel⟩
theorem ok_sNoCard {P : Program} {w : World} {K : PySem.W.Frag} {mg : Str → Option Value} {base : Heap} {f fB CB C : Addr} {fd fdB : FuncData} (F : Fun K "__init__" "NoCard.__init__" sNoCard f fd) (hB : mg "PeerError" = some (.ref CB)) (c : CFn K CB "__init__" fB) (GB : FnG P w K mg base 1 fB fdB 2 ["self", "text"] (spV K)) (bB : Binds K fdB ["self", "text"] []) (T : OexC K C) (hno : PySem.W.findIn K (.ref C) "found" = some none) : FnG P w K mg base 2 f fd 2 ["self", "found"] (spX C "found" "no card") :=
  initX_ok (CB := CB) F sc_sNoCard rfl rfl T hno fun cdv A outer s H hgd hr => pss_cons (ps_expr (pe_clsfn (pe_glob rfl hB rfl) c GB hgd hr bB (pa_cons (pv 0) (pa_cons pe_str pa_nil)))) (pss_one (ps_setX (pv 0) (pv 1)))
abbrev sUnlike : Stmt := inClass (top 5) 0
theorem sc_sUnlike : FnScope ["self", "found"] ["self", "found"] (defScope sUnlike) := ⟨rfl, rfl, rfl, by decide +kernel, rfl, by decide +kernel, by decide +kernel⟩
theorem ok_sUnlike {P : Program} {w : World} {K : PySem.W.Frag} {mg : Str → Option Value} {base : Heap} {f fB CB C : Addr} {fd fdB : FuncData} (F : Fun K "__init__" "Unlike.__init__" sUnlike f fd) (hB : mg "PeerError" = some (.ref CB)) (c : CFn K CB "__init__" fB) (GB : FnG P w K mg base 1 fB fdB 2 ["self", "text"] (spV K)) (bB : Binds K fdB ["self", "text"] []) (T : OexC K C) (hno : PySem.W.findIn K (.ref C) "found" = some none) : FnG P w K mg base 2 f fd 2 ["self", "found"] (spX C "found" "unlike") :=
  initX_ok (CB := CB) F sc_sUnlike rfl rfl T hno fun cdv A outer s H hgd hr => pss_cons (ps_expr (pe_clsfn (pe_glob rfl hB rfl) c GB hgd hr bB (pa_cons (pv 0) (pa_cons pe_str pa_nil)))) (pss_one (ps_setX (pv 0) (pv 1)))
theorem all_mk {P : Program} {w : World} {K : PySem.W.Frag} {h : Heap} {mg : Str → Option Value} {fa : Addr} (X : K.In h) (G : h.Ns mainGlobals mg) (hfa : mg "law" = some (.ref fa))
    {A_is_number : Addr} (a_is_number : PySem.W.nsIn K mainGlobals "is_number" = some (some (.ref A_is_number)))
    {oc_is_number kV_is_number dc_is_number pm_is_number cd_is_number ct_is_number : Value} {od_is_number an_is_number : Option Addr} {sl_is_number : Array (Option Value)}
    (l_is_number : K.lookup A_is_number = some ⟨oc_is_number, od_is_number, .func (PySem.W.fnOf "is_number" "is_number" (defArgs s_is_number) (defBody s_is_number) (defScope s_is_number) .none kV_is_number dc_is_number pm_is_number an_is_number cd_is_number ct_is_number), sl_is_number⟩) (c_is_number : PySem.W.codeIn K cd_is_number "is_number" = true) (k_is_number : PySem.W.keepIn K (.ref A_is_number) = true)
    {A_is_list : Addr} (a_is_list : PySem.W.nsIn K mainGlobals "is_list" = some (some (.ref A_is_list)))
    {oc_is_list kV_is_list dc_is_list pm_is_list cd_is_list ct_is_list : Value} {od_is_list an_is_list : Option Addr} {sl_is_list : Array (Option Value)}
    (l_is_list : K.lookup A_is_list = some ⟨oc_is_list, od_is_list, .func (PySem.W.fnOf "is_list" "is_list" (defArgs s_is_list) (defBody s_is_list) (defScope s_is_list) .none kV_is_list dc_is_list pm_is_list an_is_list cd_is_list ct_is_list), sl_is_list⟩) (c_is_list : PySem.W.codeIn K cd_is_list "is_list" = true) (k_is_list : PySem.W.keepIn K (.ref A_is_list) = true)
    {A_is_name : Addr} (a_is_name : PySem.W.nsIn K mainGlobals "is_name" = some (some (.ref A_is_name)))
    {oc_is_name kV_is_name dc_is_name pm_is_name cd_is_name ct_is_name : Value} {od_is_name an_is_name : Option Addr} {sl_is_name : Array (Option Value)}
    (l_is_name : K.lookup A_is_name = some ⟨oc_is_name, od_is_name, .func (PySem.W.fnOf "is_name" "is_name" (defArgs s_is_name) (defBody s_is_name) (defScope s_is_name) .none kV_is_name dc_is_name pm_is_name an_is_name cd_is_name ct_is_name), sl_is_name⟩) (c_is_name : PySem.W.codeIn K cd_is_name "is_name" = true) (k_is_name : PySem.W.keepIn K (.ref A_is_name) = true)
    {A_rank : Addr} (a_rank : PySem.W.nsIn K mainGlobals "rank" = some (some (.ref A_rank)))
    {oc_rank kV_rank dc_rank pm_rank cd_rank ct_rank : Value} {od_rank an_rank : Option Addr} {sl_rank : Array (Option Value)}
    (l_rank : K.lookup A_rank = some ⟨oc_rank, od_rank, .func (PySem.W.fnOf "rank" "rank" (defArgs s_rank) (defBody s_rank) (defScope s_rank) .none kV_rank dc_rank pm_rank an_rank cd_rank ct_rank), sl_rank⟩) (c_rank : PySem.W.codeIn K cd_rank "rank" = true) (k_rank : PySem.W.keepIn K (.ref A_rank) = true)
    {A__law_cell : Addr} (a__law_cell : PySem.W.nsIn K mainGlobals "_law_cell" = some (some (.ref A__law_cell)))
    {oc__law_cell kV__law_cell dc__law_cell pm__law_cell cd__law_cell ct__law_cell : Value} {od__law_cell an__law_cell : Option Addr} {sl__law_cell : Array (Option Value)}
    (l__law_cell : K.lookup A__law_cell = some ⟨oc__law_cell, od__law_cell, .func (PySem.W.fnOf "_law_cell" "_law_cell" (defArgs s__law_cell) (defBody s__law_cell) (defScope s__law_cell) .none kV__law_cell dc__law_cell pm__law_cell an__law_cell cd__law_cell ct__law_cell), sl__law_cell⟩) (c__law_cell : PySem.W.codeIn K cd__law_cell "_law_cell" = true) (k__law_cell : PySem.W.keepIn K (.ref A__law_cell) = true)
    {A__law_box : Addr} (a__law_box : PySem.W.nsIn K mainGlobals "_law_box" = some (some (.ref A__law_box)))
    {oc__law_box kV__law_box dc__law_box pm__law_box cd__law_box ct__law_box : Value} {od__law_box an__law_box : Option Addr} {sl__law_box : Array (Option Value)}
    (l__law_box : K.lookup A__law_box = some ⟨oc__law_box, od__law_box, .func (PySem.W.fnOf "_law_box" "_law_box" (defArgs s__law_box) (defBody s__law_box) (defScope s__law_box) .none kV__law_box dc__law_box pm__law_box an__law_box cd__law_box ct__law_box), sl__law_box⟩) (c__law_box : PySem.W.codeIn K cd__law_box "_law_box" = true) (k__law_box : PySem.W.keepIn K (.ref A__law_box) = true)
    {A__law_take : Addr} (a__law_take : PySem.W.nsIn K mainGlobals "_law_take" = some (some (.ref A__law_take)))
    {oc__law_take kV__law_take dc__law_take pm__law_take cd__law_take ct__law_take : Value} {od__law_take an__law_take : Option Addr} {sl__law_take : Array (Option Value)}
    (l__law_take : K.lookup A__law_take = some ⟨oc__law_take, od__law_take, .func (PySem.W.fnOf "_law_take" "_law_take" (defArgs s__law_take) (defBody s__law_take) (defScope s__law_take) .none kV__law_take dc__law_take pm__law_take an__law_take cd__law_take ct__law_take), sl__law_take⟩) (c__law_take : PySem.W.codeIn K cd__law_take "_law_take" = true) (k__law_take : PySem.W.keepIn K (.ref A__law_take) = true)
    {A__law_cut : Addr} (a__law_cut : PySem.W.nsIn K mainGlobals "_law_cut" = some (some (.ref A__law_cut)))
    {oc__law_cut kV__law_cut dc__law_cut pm__law_cut cd__law_cut ct__law_cut : Value} {od__law_cut an__law_cut : Option Addr} {sl__law_cut : Array (Option Value)}
    (l__law_cut : K.lookup A__law_cut = some ⟨oc__law_cut, od__law_cut, .func (PySem.W.fnOf "_law_cut" "_law_cut" (defArgs s__law_cut) (defBody s__law_cut) (defScope s__law_cut) .none kV__law_cut dc__law_cut pm__law_cut an__law_cut cd__law_cut ct__law_cut), sl__law_cut⟩) (c__law_cut : PySem.W.codeIn K cd__law_cut "_law_cut" = true) (k__law_cut : PySem.W.keepIn K (.ref A__law_cut) = true)
    {A__law_mark : Addr} (a__law_mark : PySem.W.nsIn K mainGlobals "_law_mark" = some (some (.ref A__law_mark)))
    {oc__law_mark kV__law_mark dc__law_mark pm__law_mark cd__law_mark ct__law_mark : Value} {od__law_mark an__law_mark : Option Addr} {sl__law_mark : Array (Option Value)}
    (l__law_mark : K.lookup A__law_mark = some ⟨oc__law_mark, od__law_mark, .func (PySem.W.fnOf "_law_mark" "_law_mark" (defArgs s__law_mark) (defBody s__law_mark) (defScope s__law_mark) .none kV__law_mark dc__law_mark pm__law_mark an__law_mark cd__law_mark ct__law_mark), sl__law_mark⟩) (c__law_mark : PySem.W.codeIn K cd__law_mark "_law_mark" = true) (k__law_mark : PySem.W.keepIn K (.ref A__law_mark) = true)
    {A__law_grown : Addr} (a__law_grown : PySem.W.nsIn K mainGlobals "_law_grown" = some (some (.ref A__law_grown)))
    {oc__law_grown kV__law_grown dc__law_grown pm__law_grown cd__law_grown ct__law_grown : Value} {od__law_grown an__law_grown : Option Addr} {sl__law_grown : Array (Option Value)}
    (l__law_grown : K.lookup A__law_grown = some ⟨oc__law_grown, od__law_grown, .func (PySem.W.fnOf "_law_grown" "_law_grown" (defArgs s__law_grown) (defBody s__law_grown) (defScope s__law_grown) .none kV__law_grown dc__law_grown pm__law_grown an__law_grown cd__law_grown ct__law_grown), sl__law_grown⟩) (c__law_grown : PySem.W.codeIn K cd__law_grown "_law_grown" = true) (k__law_grown : PySem.W.keepIn K (.ref A__law_grown) = true)
    {A__law_ahead : Addr} (a__law_ahead : PySem.W.nsIn K mainGlobals "_law_ahead" = some (some (.ref A__law_ahead)))
    {oc__law_ahead kV__law_ahead dc__law_ahead pm__law_ahead cd__law_ahead ct__law_ahead : Value} {od__law_ahead an__law_ahead : Option Addr} {sl__law_ahead : Array (Option Value)}
    (l__law_ahead : K.lookup A__law_ahead = some ⟨oc__law_ahead, od__law_ahead, .func (PySem.W.fnOf "_law_ahead" "_law_ahead" (defArgs s__law_ahead) (defBody s__law_ahead) (defScope s__law_ahead) .none kV__law_ahead dc__law_ahead pm__law_ahead an__law_ahead cd__law_ahead ct__law_ahead), sl__law_ahead⟩) (c__law_ahead : PySem.W.codeIn K cd__law_ahead "_law_ahead" = true) (k__law_ahead : PySem.W.keepIn K (.ref A__law_ahead) = true)
    {A_is_mark : Addr} (a_is_mark : PySem.W.nsIn K mainGlobals "is_mark" = some (some (.ref A_is_mark)))
    {oc_is_mark kV_is_mark dc_is_mark pm_is_mark cd_is_mark ct_is_mark : Value} {od_is_mark an_is_mark : Option Addr} {sl_is_mark : Array (Option Value)}
    (l_is_mark : K.lookup A_is_mark = some ⟨oc_is_mark, od_is_mark, .func (PySem.W.fnOf "is_mark" "is_mark" (defArgs s_is_mark) (defBody s_is_mark) (defScope s_is_mark) .none kV_is_mark dc_is_mark pm_is_mark an_is_mark cd_is_mark ct_is_mark), sl_is_mark⟩) (c_is_mark : PySem.W.codeIn K cd_is_mark "is_mark" = true) (k_is_mark : PySem.W.keepIn K (.ref A_is_mark) = true)
    {A__law_text : Addr} (a__law_text : PySem.W.nsIn K mainGlobals "_law_text" = some (some (.ref A__law_text)))
    {oc__law_text kV__law_text dc__law_text pm__law_text cd__law_text ct__law_text : Value} {od__law_text an__law_text : Option Addr} {sl__law_text : Array (Option Value)}
    (l__law_text : K.lookup A__law_text = some ⟨oc__law_text, od__law_text, .func (PySem.W.fnOf "_law_text" "_law_text" (defArgs s__law_text) (defBody s__law_text) (defScope s__law_text) .none kV__law_text dc__law_text pm__law_text an__law_text cd__law_text ct__law_text), sl__law_text⟩) (c__law_text : PySem.W.codeIn K cd__law_text "_law_text" = true) (k__law_text : PySem.W.keepIn K (.ref A__law_text) = true)
    {A__law_marks : Addr} (a__law_marks : PySem.W.nsIn K mainGlobals "_law_marks" = some (some (.ref A__law_marks)))
    {oc__law_marks kV__law_marks dc__law_marks pm__law_marks cd__law_marks ct__law_marks : Value} {od__law_marks an__law_marks : Option Addr} {sl__law_marks : Array (Option Value)}
    (l__law_marks : K.lookup A__law_marks = some ⟨oc__law_marks, od__law_marks, .func (PySem.W.fnOf "_law_marks" "_law_marks" (defArgs s__law_marks) (defBody s__law_marks) (defScope s__law_marks) .none kV__law_marks dc__law_marks pm__law_marks an__law_marks cd__law_marks ct__law_marks), sl__law_marks⟩) (c__law_marks : PySem.W.codeIn K cd__law_marks "_law_marks" = true) (k__law_marks : PySem.W.keepIn K (.ref A__law_marks) = true)
    {A__law_names : Addr} (a__law_names : PySem.W.nsIn K mainGlobals "_law_names" = some (some (.ref A__law_names)))
    {oc__law_names kV__law_names dc__law_names pm__law_names cd__law_names ct__law_names : Value} {od__law_names an__law_names : Option Addr} {sl__law_names : Array (Option Value)}
    (l__law_names : K.lookup A__law_names = some ⟨oc__law_names, od__law_names, .func (PySem.W.fnOf "_law_names" "_law_names" (defArgs s__law_names) (defBody s__law_names) (defScope s__law_names) .none kV__law_names dc__law_names pm__law_names an__law_names cd__law_names ct__law_names), sl__law_names⟩) (c__law_names : PySem.W.codeIn K cd__law_names "_law_names" = true) (k__law_names : PySem.W.keepIn K (.ref A__law_names) = true)
    {A__law_thing : Addr} (a__law_thing : PySem.W.nsIn K mainGlobals "_law_thing" = some (some (.ref A__law_thing)))
    {oc__law_thing kV__law_thing dc__law_thing pm__law_thing cd__law_thing ct__law_thing : Value} {od__law_thing an__law_thing : Option Addr} {sl__law_thing : Array (Option Value)}
    (l__law_thing : K.lookup A__law_thing = some ⟨oc__law_thing, od__law_thing, .func (PySem.W.fnOf "_law_thing" "_law_thing" (defArgs s__law_thing) (defBody s__law_thing) (defScope s__law_thing) .none kV__law_thing dc__law_thing pm__law_thing an__law_thing cd__law_thing ct__law_thing), sl__law_thing⟩) (c__law_thing : PySem.W.codeIn K cd__law_thing "_law_thing" = true) (k__law_thing : PySem.W.keepIn K (.ref A__law_thing) = true)
    {A_is_marks : Addr} (a_is_marks : PySem.W.nsIn K mainGlobals "is_marks" = some (some (.ref A_is_marks)))
    {oc_is_marks kV_is_marks dc_is_marks pm_is_marks cd_is_marks ct_is_marks : Value} {od_is_marks an_is_marks : Option Addr} {sl_is_marks : Array (Option Value)}
    (l_is_marks : K.lookup A_is_marks = some ⟨oc_is_marks, od_is_marks, .func (PySem.W.fnOf "is_marks" "is_marks" (defArgs s_is_marks) (defBody s_is_marks) (defScope s_is_marks) .none kV_is_marks dc_is_marks pm_is_marks an_is_marks cd_is_marks ct_is_marks), sl_is_marks⟩) (c_is_marks : PySem.W.codeIn K cd_is_marks "is_marks" = true) (k_is_marks : PySem.W.keepIn K (.ref A_is_marks) = true)
    {A__law_cards : Addr} (a__law_cards : PySem.W.nsIn K mainGlobals "_law_cards" = some (some (.ref A__law_cards)))
    {oc__law_cards kV__law_cards dc__law_cards pm__law_cards cd__law_cards ct__law_cards : Value} {od__law_cards an__law_cards : Option Addr} {sl__law_cards : Array (Option Value)}
    (l__law_cards : K.lookup A__law_cards = some ⟨oc__law_cards, od__law_cards, .func (PySem.W.fnOf "_law_cards" "_law_cards" (defArgs s__law_cards) (defBody s__law_cards) (defScope s__law_cards) .none kV__law_cards dc__law_cards pm__law_cards an__law_cards cd__law_cards ct__law_cards), sl__law_cards⟩) (c__law_cards : PySem.W.codeIn K cd__law_cards "_law_cards" = true) (k__law_cards : PySem.W.keepIn K (.ref A__law_cards) = true)
    {A_need_number : Addr} (a_need_number : PySem.W.nsIn K mainGlobals "need_number" = some (some (.ref A_need_number)))
    {oc_need_number kV_need_number dc_need_number pm_need_number cd_need_number ct_need_number : Value} {od_need_number an_need_number : Option Addr} {sl_need_number : Array (Option Value)}
    (l_need_number : K.lookup A_need_number = some ⟨oc_need_number, od_need_number, .func (PySem.W.fnOf "need_number" "need_number" (defArgs s_need_number) (defBody s_need_number) (defScope s_need_number) .none kV_need_number dc_need_number pm_need_number an_need_number cd_need_number ct_need_number), sl_need_number⟩) (c_need_number : PySem.W.codeIn K cd_need_number "need_number" = true) (k_need_number : PySem.W.keepIn K (.ref A_need_number) = true)
    {A_is_whole : Addr} (a_is_whole : PySem.W.nsIn K mainGlobals "is_whole" = some (some (.ref A_is_whole)))
    {oc_is_whole kV_is_whole dc_is_whole pm_is_whole cd_is_whole ct_is_whole : Value} {od_is_whole an_is_whole : Option Addr} {sl_is_whole : Array (Option Value)}
    (l_is_whole : K.lookup A_is_whole = some ⟨oc_is_whole, od_is_whole, .func (PySem.W.fnOf "is_whole" "is_whole" (defArgs s_is_whole) (defBody s_is_whole) (defScope s_is_whole) .none kV_is_whole dc_is_whole pm_is_whole an_is_whole cd_is_whole ct_is_whole), sl_is_whole⟩) (c_is_whole : PySem.W.codeIn K cd_is_whole "is_whole" = true) (k_is_whole : PySem.W.keepIn K (.ref A_is_whole) = true)
    {A_is_card : Addr} (a_is_card : PySem.W.nsIn K mainGlobals "is_card" = some (some (.ref A_is_card)))
    {oc_is_card kV_is_card dc_is_card pm_is_card cd_is_card ct_is_card : Value} {od_is_card an_is_card : Option Addr} {sl_is_card : Array (Option Value)}
    (l_is_card : K.lookup A_is_card = some ⟨oc_is_card, od_is_card, .func (PySem.W.fnOf "is_card" "is_card" (defArgs s_is_card) (defBody s_is_card) (defScope s_is_card) .none kV_is_card dc_is_card pm_is_card an_is_card cd_is_card ct_is_card), sl_is_card⟩) (c_is_card : PySem.W.codeIn K cd_is_card "is_card" = true) (k_is_card : PySem.W.keepIn K (.ref A_is_card) = true)
    {A_need_card : Addr} (a_need_card : PySem.W.nsIn K mainGlobals "need_card" = some (some (.ref A_need_card)))
    {oc_need_card kV_need_card dc_need_card pm_need_card cd_need_card ct_need_card : Value} {od_need_card an_need_card : Option Addr} {sl_need_card : Array (Option Value)}
    (l_need_card : K.lookup A_need_card = some ⟨oc_need_card, od_need_card, .func (PySem.W.fnOf "need_card" "need_card" (defArgs s_need_card) (defBody s_need_card) (defScope s_need_card) .none kV_need_card dc_need_card pm_need_card an_need_card cd_need_card ct_need_card), sl_need_card⟩) (c_need_card : PySem.W.codeIn K cd_need_card "need_card" = true) (k_need_card : PySem.W.keepIn K (.ref A_need_card) = true)
    {A_is_ahead : Addr} (a_is_ahead : PySem.W.nsIn K mainGlobals "is_ahead" = some (some (.ref A_is_ahead)))
    {oc_is_ahead kV_is_ahead dc_is_ahead pm_is_ahead cd_is_ahead ct_is_ahead : Value} {od_is_ahead an_is_ahead : Option Addr} {sl_is_ahead : Array (Option Value)}
    (l_is_ahead : K.lookup A_is_ahead = some ⟨oc_is_ahead, od_is_ahead, .func (PySem.W.fnOf "is_ahead" "is_ahead" (defArgs s_is_ahead) (defBody s_is_ahead) (defScope s_is_ahead) .none kV_is_ahead dc_is_ahead pm_is_ahead an_is_ahead cd_is_ahead ct_is_ahead), sl_is_ahead⟩) (c_is_ahead : PySem.W.codeIn K cd_is_ahead "is_ahead" = true) (k_is_ahead : PySem.W.keepIn K (.ref A_is_ahead) = true)
    {A_greater : Addr} (a_greater : PySem.W.nsIn K mainGlobals "greater" = some (some (.ref A_greater)))
    {oc_greater kV_greater dc_greater pm_greater cd_greater ct_greater : Value} {od_greater an_greater : Option Addr} {sl_greater : Array (Option Value)}
    (l_greater : K.lookup A_greater = some ⟨oc_greater, od_greater, .func (PySem.W.fnOf "greater" "greater" (defArgs s_greater) (defBody s_greater) (defScope s_greater) .none kV_greater dc_greater pm_greater an_greater cd_greater ct_greater), sl_greater⟩) (c_greater : PySem.W.codeIn K cd_greater "greater" = true) (k_greater : PySem.W.keepIn K (.ref A_greater) = true)
    {A_greatest : Addr} (a_greatest : PySem.W.nsIn K mainGlobals "greatest" = some (some (.ref A_greatest)))
    {oc_greatest kV_greatest dc_greatest pm_greatest cd_greatest ct_greatest : Value} {od_greatest an_greatest : Option Addr} {sl_greatest : Array (Option Value)}
    (l_greatest : K.lookup A_greatest = some ⟨oc_greatest, od_greatest, .func (PySem.W.fnOf "greatest" "greatest" (defArgs s_greatest) (defBody s_greatest) (defScope s_greatest) .none kV_greatest dc_greatest pm_greatest an_greatest cd_greatest ct_greatest), sl_greatest⟩) (c_greatest : PySem.W.codeIn K cd_greatest "greatest" = true) (k_greatest : PySem.W.keepIn K (.ref A_greatest) = true)
    {A__law_pair_right : Addr} (a__law_pair_right : PySem.W.nsIn K mainGlobals "_law_pair_right" = some (some (.ref A__law_pair_right)))
    {oc__law_pair_right kV__law_pair_right dc__law_pair_right pm__law_pair_right cd__law_pair_right ct__law_pair_right : Value} {od__law_pair_right an__law_pair_right : Option Addr} {sl__law_pair_right : Array (Option Value)}
    (l__law_pair_right : K.lookup A__law_pair_right = some ⟨oc__law_pair_right, od__law_pair_right, .func (PySem.W.fnOf "_law_pair_right" "_law_pair_right" (defArgs s__law_pair_right) (defBody s__law_pair_right) (defScope s__law_pair_right) .none kV__law_pair_right dc__law_pair_right pm__law_pair_right an__law_pair_right cd__law_pair_right ct__law_pair_right), sl__law_pair_right⟩) (c__law_pair_right : PySem.W.codeIn K cd__law_pair_right "_law_pair_right" = true) (k__law_pair_right : PySem.W.keepIn K (.ref A__law_pair_right) = true)
    {A__law_answer : Addr} (a__law_answer : PySem.W.nsIn K mainGlobals "_law_answer" = some (some (.ref A__law_answer)))
    {oc__law_answer kV__law_answer dc__law_answer pm__law_answer cd__law_answer ct__law_answer : Value} {od__law_answer an__law_answer : Option Addr} {sl__law_answer : Array (Option Value)}
    (l__law_answer : K.lookup A__law_answer = some ⟨oc__law_answer, od__law_answer, .func (PySem.W.fnOf "_law_answer" "_law_answer" (defArgs s__law_answer) (defBody s__law_answer) (defScope s__law_answer) .none kV__law_answer dc__law_answer pm__law_answer an__law_answer cd__law_answer ct__law_answer), sl__law_answer⟩) (c__law_answer : PySem.W.codeIn K cd__law_answer "_law_answer" = true) (k__law_answer : PySem.W.keepIn K (.ref A__law_answer) = true)
    {A__law_no_list : Addr} (a__law_no_list : PySem.W.nsIn K mainGlobals "_law_no_list" = some (some (.ref A__law_no_list)))
    {oc__law_no_list kV__law_no_list dc__law_no_list pm__law_no_list cd__law_no_list ct__law_no_list : Value} {od__law_no_list an__law_no_list : Option Addr} {sl__law_no_list : Array (Option Value)}
    (l__law_no_list : K.lookup A__law_no_list = some ⟨oc__law_no_list, od__law_no_list, .func (PySem.W.fnOf "_law_no_list" "_law_no_list" (defArgs s__law_no_list) (defBody s__law_no_list) (defScope s__law_no_list) .none kV__law_no_list dc__law_no_list pm__law_no_list an__law_no_list cd__law_no_list ct__law_no_list), sl__law_no_list⟩) (c__law_no_list : PySem.W.codeIn K cd__law_no_list "_law_no_list" = true) (k__law_no_list : PySem.W.keepIn K (.ref A__law_no_list) = true)
    {A__law_bad_among : Addr} (a__law_bad_among : PySem.W.nsIn K mainGlobals "_law_bad_among" = some (some (.ref A__law_bad_among)))
    {oc__law_bad_among kV__law_bad_among dc__law_bad_among pm__law_bad_among cd__law_bad_among ct__law_bad_among : Value} {od__law_bad_among an__law_bad_among : Option Addr} {sl__law_bad_among : Array (Option Value)}
    (l__law_bad_among : K.lookup A__law_bad_among = some ⟨oc__law_bad_among, od__law_bad_among, .func (PySem.W.fnOf "_law_bad_among" "_law_bad_among" (defArgs s__law_bad_among) (defBody s__law_bad_among) (defScope s__law_bad_among) .none kV__law_bad_among dc__law_bad_among pm__law_bad_among an__law_bad_among cd__law_bad_among ct__law_bad_among), sl__law_bad_among⟩) (c__law_bad_among : PySem.W.codeIn K cd__law_bad_among "_law_bad_among" = true) (k__law_bad_among : PySem.W.keepIn K (.ref A__law_bad_among) = true)
    {A__law_refused : Addr} (a__law_refused : PySem.W.nsIn K mainGlobals "_law_refused" = some (some (.ref A__law_refused)))
    {oc__law_refused kV__law_refused dc__law_refused pm__law_refused cd__law_refused ct__law_refused : Value} {od__law_refused an__law_refused : Option Addr} {sl__law_refused : Array (Option Value)}
    (l__law_refused : K.lookup A__law_refused = some ⟨oc__law_refused, od__law_refused, .func (PySem.W.fnOf "_law_refused" "_law_refused" (defArgs s__law_refused) (defBody s__law_refused) (defScope s__law_refused) .none kV__law_refused dc__law_refused pm__law_refused an__law_refused cd__law_refused ct__law_refused), sl__law_refused⟩) (c__law_refused : PySem.W.codeIn K cd__law_refused "_law_refused" = true) (k__law_refused : PySem.W.keepIn K (.ref A__law_refused) = true)
    {A__law_first_bad_right : Addr} (a__law_first_bad_right : PySem.W.nsIn K mainGlobals "_law_first_bad_right" = some (some (.ref A__law_first_bad_right)))
    {oc__law_first_bad_right kV__law_first_bad_right dc__law_first_bad_right pm__law_first_bad_right cd__law_first_bad_right ct__law_first_bad_right : Value} {od__law_first_bad_right an__law_first_bad_right : Option Addr} {sl__law_first_bad_right : Array (Option Value)}
    (l__law_first_bad_right : K.lookup A__law_first_bad_right = some ⟨oc__law_first_bad_right, od__law_first_bad_right, .func (PySem.W.fnOf "_law_first_bad_right" "_law_first_bad_right" (defArgs s__law_first_bad_right) (defBody s__law_first_bad_right) (defScope s__law_first_bad_right) .none kV__law_first_bad_right dc__law_first_bad_right pm__law_first_bad_right an__law_first_bad_right cd__law_first_bad_right ct__law_first_bad_right), sl__law_first_bad_right⟩) (c__law_first_bad_right : PySem.W.codeIn K cd__law_first_bad_right "_law_first_bad_right" = true) (k__law_first_bad_right : PySem.W.keepIn K (.ref A__law_first_bad_right) = true)
    {A__law_refusals_right : Addr} (a__law_refusals_right : PySem.W.nsIn K mainGlobals "_law_refusals_right" = some (some (.ref A__law_refusals_right)))
    {oc__law_refusals_right kV__law_refusals_right dc__law_refusals_right pm__law_refusals_right cd__law_refusals_right ct__law_refusals_right : Value} {od__law_refusals_right an__law_refusals_right : Option Addr} {sl__law_refusals_right : Array (Option Value)}
    (l__law_refusals_right : K.lookup A__law_refusals_right = some ⟨oc__law_refusals_right, od__law_refusals_right, .func (PySem.W.fnOf "_law_refusals_right" "_law_refusals_right" (defArgs s__law_refusals_right) (defBody s__law_refusals_right) (defScope s__law_refusals_right) .none kV__law_refusals_right dc__law_refusals_right pm__law_refusals_right an__law_refusals_right cd__law_refusals_right ct__law_refusals_right), sl__law_refusals_right⟩) (c__law_refusals_right : PySem.W.codeIn K cd__law_refusals_right "_law_refusals_right" = true) (k__law_refusals_right : PySem.W.keepIn K (.ref A__law_refusals_right) = true)
    {A_law : Addr} (a_law : PySem.W.nsIn K mainGlobals "law" = some (some (.ref A_law)))
    {oc_law kV_law dc_law pm_law cd_law ct_law : Value} {od_law an_law : Option Addr} {sl_law : Array (Option Value)}
    (l_law : K.lookup A_law = some ⟨oc_law, od_law, .func (PySem.W.fnOf "law" "law" (defArgs s_law) (defBody s_law) (defScope s_law) .none kV_law dc_law pm_law an_law cd_law ct_law), sl_law⟩) (c_law : PySem.W.codeIn K cd_law "law" = true) (k_law : PySem.W.keepIn K (.ref A_law) = true)
    (z_all : PySem.W.nsIn K mainGlobals "all" = some none)
    (z_bool : PySem.W.nsIn K mainGlobals "bool" = some none)
    (z_dict : PySem.W.nsIn K mainGlobals "dict" = some none)
    (z_int : PySem.W.nsIn K mainGlobals "int" = some none)
    (z_isinstance : PySem.W.nsIn K mainGlobals "isinstance" = some none)
    (z_len : PySem.W.nsIn K mainGlobals "len" = some none)
    (z_list : PySem.W.nsIn K mainGlobals "list" = some none)
    (z_max : PySem.W.nsIn K mainGlobals "max" = some none)
    (z_min : PySem.W.nsIn K mainGlobals "min" = some none)
    (z_ord : PySem.W.nsIn K mainGlobals "ord" = some none)
    (z_range : PySem.W.nsIn K mainGlobals "range" = some none)
    (z_repr : PySem.W.nsIn K mainGlobals "repr" = some none)
    (z_str : PySem.W.nsIn K mainGlobals "str" = some none)
    (z_tuple : PySem.W.nsIn K mainGlobals "tuple" = some none)
    {t_MARK_LEFT : Tok} (v_MARK_LEFT : PySem.W.nsIn K mainGlobals "MARK_LEFT" = some (some (.int 251 t_MARK_LEFT)))
    {t_MOST_LETTERS : Tok} (v_MOST_LETTERS : PySem.W.nsIn K mainGlobals "MOST_LETTERS" = some (some (.int 8 t_MOST_LETTERS)))
    {t_MOST_NUMBER : Tok} (v_MOST_NUMBER : PySem.W.nsIn K mainGlobals "MOST_NUMBER" = some (some (.int 999999 t_MOST_NUMBER)))
    {t_MOST_PIECES : Tok} (v_MOST_PIECES : PySem.W.nsIn K mainGlobals "MOST_PIECES" = some (some (.int 8 t_MOST_PIECES)))
    {t_MOST_THINGS : Tok} (v_MOST_THINGS : PySem.W.nsIn K mainGlobals "MOST_THINGS" = some (some (.int 100 t_MOST_THINGS)))
    {C_PB A_PB : Addr} (a_PB : PySem.W.nsIn K mainGlobals "PeerError" = some (some (.ref C_PB)))
    {oc_PB kV_PB dc_PB pm_PB cd_PB ct_PB : Value} {od_PB an_PB : Option Addr} {sl_PB : Array (Option Value)}
    (l_PB : K.lookup A_PB = some ⟨oc_PB, od_PB, .func (PySem.W.fnOf "__init__" "PeerError.__init__" (defArgs sBase) (defBody sBase) (defScope sBase) .none kV_PB dc_PB pm_PB an_PB cd_PB ct_PB), sl_PB⟩) (c_PB : PySem.W.codeIn K cd_PB "PeerError.__init__" = true) (k_PB : PySem.W.keepIn K (.ref A_PB) = true)
    (g_PB : PySem.W.specialIn K (.ref C_PB) "__getattribute__" = some (some (.builtin "type.__getattribute__"))) (d_PB : PySem.W.readsIn K C_PB (.type "type") = true) (f_PB : PySem.W.findCls K (.ref C_PB) (.type "type") "__init__" = some (.val (.ref A_PB)))
    (z_VE : PySem.W.nsIn K mainGlobals "ValueError" = some none) (f_VE : PySem.W.findCls K (.type "ValueError") (.type "type") "__init__" = some (.val (.builtin "ValueError.__init__")))
    (ex_PB : PySem.W.subIn K (.ref C_PB) (.type "BaseException") = some true) (ty_PB : PySem.W.typeIn K (.ref C_PB) = some (.type "type")) (hd_PB : PySem.W.hasDictIn K C_PB = true)
    {A_X0 : Addr}
    {C_X0 N_X0 : Addr} {q_X0 : Str} {bs_X0 bm_X0 sub_X0 : List Value} {sn_X0 : List Str} {ab_X0 : Bool} {col_X0 : Option Bool} {dd_X0 : Option Addr} {m0_X0 m1_X0 m2_X0 m3_X0 m5_X0 : Option Value}
    (a_X0 : PySem.W.nsIn K mainGlobals "NoNumber" = some (some (.ref C_X0)))
    (x_X0 : K.lookup C_X0 = some (excClassObj "NoNumber" q_X0 C_X0 N_X0 bs_X0 bm_X0 true sn_X0 sub_X0 ab_X0 col_X0 dd_X0 m0_X0 m1_X0 m2_X0 m3_X0 m5_X0 "ValueError.__new__")) (r_X0 : PySem.HandSPX.refsVE bm_X0 = true)
    (i_X0 : PySem.W.findIn K (.ref C_X0) "__init__" = some (some (.ref A_X0))) (ti_X0 : PySem.W.typeIn K (.ref A_X0) = some (.type "function"))
    {oc_X0 kV_X0 dc_X0 pm_X0 cd_X0 ct_X0 : Value} {od_X0 an_X0 : Option Addr} {sl_X0 : Array (Option Value)}
    (l_X0 : K.lookup A_X0 = some ⟨oc_X0, od_X0, .func (PySem.W.fnOf "__init__" "NoNumber.__init__" (defArgs sNoNumber) (defBody sNoNumber) (defScope sNoNumber) .none kV_X0 dc_X0 pm_X0 an_X0 cd_X0 ct_X0), sl_X0⟩) (c_X0 : PySem.W.codeIn K cd_X0 "NoNumber.__init__" = true) (k_X0 : PySem.W.keepIn K (.ref A_X0) = true)
    (sa_X0 : PySem.W.findIn K (.ref C_X0) "__setattr__" = some (some (.builtin "object.__setattr__"))) (ex_X0 : PySem.W.subIn K (.ref C_X0) (.type "BaseException") = some true) (ty_X0 : PySem.W.typeIn K (.ref C_X0) = some (.type "type")) (kc_X0 : PySem.W.keepIn K (.ref C_X0) = true) (no_X0 : PySem.W.findIn K (.ref C_X0) "found" = some none) (hg_X0 : PySem.W.findIn K (.ref C_X0) "__getattribute__" = some (some (.builtin "BaseException.__getattribute__"))) (hk_X0 : PySem.W.findIn K (.ref C_X0) "__getattr__" = some none) (hd_X0 : PySem.W.hasDictIn K C_X0 = true) (ha_X0 : PySem.W.findIn K (.ref C_X0) "__class__" = some (some (.builtin "object.__class__"))) (hm_X0 : PySem.W.mroIn K C_X0 (.type "object") = some true)
    {A_X1 : Addr}
    {C_X1 N_X1 : Addr} {q_X1 : Str} {bs_X1 bm_X1 sub_X1 : List Value} {sn_X1 : List Str} {ab_X1 : Bool} {col_X1 : Option Bool} {dd_X1 : Option Addr} {m0_X1 m1_X1 m2_X1 m3_X1 m5_X1 : Option Value}
    (a_X1 : PySem.W.nsIn K mainGlobals "NoList" = some (some (.ref C_X1)))
    (x_X1 : K.lookup C_X1 = some (excClassObj "NoList" q_X1 C_X1 N_X1 bs_X1 bm_X1 true sn_X1 sub_X1 ab_X1 col_X1 dd_X1 m0_X1 m1_X1 m2_X1 m3_X1 m5_X1 "ValueError.__new__")) (r_X1 : PySem.HandSPX.refsVE bm_X1 = true)
    (i_X1 : PySem.W.findIn K (.ref C_X1) "__init__" = some (some (.ref A_X1))) (ti_X1 : PySem.W.typeIn K (.ref A_X1) = some (.type "function"))
    {oc_X1 kV_X1 dc_X1 pm_X1 cd_X1 ct_X1 : Value} {od_X1 an_X1 : Option Addr} {sl_X1 : Array (Option Value)}
    (l_X1 : K.lookup A_X1 = some ⟨oc_X1, od_X1, .func (PySem.W.fnOf "__init__" "NoList.__init__" (defArgs sNoList) (defBody sNoList) (defScope sNoList) .none kV_X1 dc_X1 pm_X1 an_X1 cd_X1 ct_X1), sl_X1⟩) (c_X1 : PySem.W.codeIn K cd_X1 "NoList.__init__" = true) (k_X1 : PySem.W.keepIn K (.ref A_X1) = true)
    (sa_X1 : PySem.W.findIn K (.ref C_X1) "__setattr__" = some (some (.builtin "object.__setattr__"))) (ex_X1 : PySem.W.subIn K (.ref C_X1) (.type "BaseException") = some true) (ty_X1 : PySem.W.typeIn K (.ref C_X1) = some (.type "type")) (kc_X1 : PySem.W.keepIn K (.ref C_X1) = true) (no_X1 : PySem.W.findIn K (.ref C_X1) "found" = some none) (hg_X1 : PySem.W.findIn K (.ref C_X1) "__getattribute__" = some (some (.builtin "BaseException.__getattribute__"))) (hk_X1 : PySem.W.findIn K (.ref C_X1) "__getattr__" = some none) (hd_X1 : PySem.W.hasDictIn K C_X1 = true) (ha_X1 : PySem.W.findIn K (.ref C_X1) "__class__" = some (some (.builtin "object.__class__"))) (hm_X1 : PySem.W.mroIn K C_X1 (.type "object") = some true)
    {A_X2 : Addr}
    {C_X2 N_X2 : Addr} {q_X2 : Str} {bs_X2 bm_X2 sub_X2 : List Value} {sn_X2 : List Str} {ab_X2 : Bool} {col_X2 : Option Bool} {dd_X2 : Option Addr} {m0_X2 m1_X2 m2_X2 m3_X2 m5_X2 : Option Value}
    (a_X2 : PySem.W.nsIn K mainGlobals "NoCard" = some (some (.ref C_X2)))
    (x_X2 : K.lookup C_X2 = some (excClassObj "NoCard" q_X2 C_X2 N_X2 bs_X2 bm_X2 true sn_X2 sub_X2 ab_X2 col_X2 dd_X2 m0_X2 m1_X2 m2_X2 m3_X2 m5_X2 "ValueError.__new__")) (r_X2 : PySem.HandSPX.refsVE bm_X2 = true)
    (i_X2 : PySem.W.findIn K (.ref C_X2) "__init__" = some (some (.ref A_X2))) (ti_X2 : PySem.W.typeIn K (.ref A_X2) = some (.type "function"))
    {oc_X2 kV_X2 dc_X2 pm_X2 cd_X2 ct_X2 : Value} {od_X2 an_X2 : Option Addr} {sl_X2 : Array (Option Value)}
    (l_X2 : K.lookup A_X2 = some ⟨oc_X2, od_X2, .func (PySem.W.fnOf "__init__" "NoCard.__init__" (defArgs sNoCard) (defBody sNoCard) (defScope sNoCard) .none kV_X2 dc_X2 pm_X2 an_X2 cd_X2 ct_X2), sl_X2⟩) (c_X2 : PySem.W.codeIn K cd_X2 "NoCard.__init__" = true) (k_X2 : PySem.W.keepIn K (.ref A_X2) = true)
    (sa_X2 : PySem.W.findIn K (.ref C_X2) "__setattr__" = some (some (.builtin "object.__setattr__"))) (ex_X2 : PySem.W.subIn K (.ref C_X2) (.type "BaseException") = some true) (ty_X2 : PySem.W.typeIn K (.ref C_X2) = some (.type "type")) (kc_X2 : PySem.W.keepIn K (.ref C_X2) = true) (no_X2 : PySem.W.findIn K (.ref C_X2) "found" = some none) (hg_X2 : PySem.W.findIn K (.ref C_X2) "__getattribute__" = some (some (.builtin "BaseException.__getattribute__"))) (hk_X2 : PySem.W.findIn K (.ref C_X2) "__getattr__" = some none) (hd_X2 : PySem.W.hasDictIn K C_X2 = true) (ha_X2 : PySem.W.findIn K (.ref C_X2) "__class__" = some (some (.builtin "object.__class__"))) (hm_X2 : PySem.W.mroIn K C_X2 (.type "object") = some true)
    {A_X3 : Addr}
    {C_X3 N_X3 : Addr} {q_X3 : Str} {bs_X3 bm_X3 sub_X3 : List Value} {sn_X3 : List Str} {ab_X3 : Bool} {col_X3 : Option Bool} {dd_X3 : Option Addr} {m0_X3 m1_X3 m2_X3 m3_X3 m5_X3 : Option Value}
    (a_X3 : PySem.W.nsIn K mainGlobals "Unlike" = some (some (.ref C_X3)))
    (x_X3 : K.lookup C_X3 = some (excClassObj "Unlike" q_X3 C_X3 N_X3 bs_X3 bm_X3 true sn_X3 sub_X3 ab_X3 col_X3 dd_X3 m0_X3 m1_X3 m2_X3 m3_X3 m5_X3 "ValueError.__new__")) (r_X3 : PySem.HandSPX.refsVE bm_X3 = true)
    (i_X3 : PySem.W.findIn K (.ref C_X3) "__init__" = some (some (.ref A_X3))) (ti_X3 : PySem.W.typeIn K (.ref A_X3) = some (.type "function"))
    {oc_X3 kV_X3 dc_X3 pm_X3 cd_X3 ct_X3 : Value} {od_X3 an_X3 : Option Addr} {sl_X3 : Array (Option Value)}
    (l_X3 : K.lookup A_X3 = some ⟨oc_X3, od_X3, .func (PySem.W.fnOf "__init__" "Unlike.__init__" (defArgs sUnlike) (defBody sUnlike) (defScope sUnlike) .none kV_X3 dc_X3 pm_X3 an_X3 cd_X3 ct_X3), sl_X3⟩) (c_X3 : PySem.W.codeIn K cd_X3 "Unlike.__init__" = true) (k_X3 : PySem.W.keepIn K (.ref A_X3) = true)
    (sa_X3 : PySem.W.findIn K (.ref C_X3) "__setattr__" = some (some (.builtin "object.__setattr__"))) (ex_X3 : PySem.W.subIn K (.ref C_X3) (.type "BaseException") = some true) (ty_X3 : PySem.W.typeIn K (.ref C_X3) = some (.type "type")) (kc_X3 : PySem.W.keepIn K (.ref C_X3) = true) (no_X3 : PySem.W.findIn K (.ref C_X3) "found" = some none) (hg_X3 : PySem.W.findIn K (.ref C_X3) "__getattribute__" = some (some (.builtin "BaseException.__getattribute__"))) (hk_X3 : PySem.W.findIn K (.ref C_X3) "__getattr__" = some none) (hd_X3 : PySem.W.hasDictIn K C_X3 = true) (ha_X3 : PySem.W.findIn K (.ref C_X3) "__class__" = some (some (.builtin "object.__class__"))) (hm_X3 : PySem.W.mroIn K C_X3 (.type "object") = some true)
    (hn : PySem.W.specialIn K (.builtin "object.__class__") "__get__" = some (some (.builtin "getset_descriptor.__get__"))) (ht : PySem.W.takesIn K (.builtin "object.__class__") = some true)
    (sb_0_0 : PySem.W.subIn K (.ref C_X0) (.ref C_X0) = some true)
    (sb_0_1 : PySem.W.subIn K (.ref C_X0) (.ref C_X1) = some false)
    (sb_0_2 : PySem.W.subIn K (.ref C_X0) (.ref C_X2) = some false)
    (sb_0_3 : PySem.W.subIn K (.ref C_X0) (.ref C_X3) = some false)
    (sb_0_4 : PySem.W.subIn K (.ref C_X0) (.ref C_PB) = some true)
    (sb_1_2 : PySem.W.subIn K (.ref C_X1) (.ref C_X2) = some false)
    (sb_1_3 : PySem.W.subIn K (.ref C_X1) (.ref C_X3) = some false)
    (sb_1_4 : PySem.W.subIn K (.ref C_X1) (.ref C_PB) = some true)
    (sb_2_1 : PySem.W.subIn K (.ref C_X2) (.ref C_X1) = some false)
    (sb_2_2 : PySem.W.subIn K (.ref C_X2) (.ref C_X2) = some true)
    (sb_2_3 : PySem.W.subIn K (.ref C_X2) (.ref C_X3) = some false)
    (sb_2_4 : PySem.W.subIn K (.ref C_X2) (.ref C_PB) = some true)
    (sb_3_1 : PySem.W.subIn K (.ref C_X3) (.ref C_X1) = some false)
    (sb_3_2 : PySem.W.subIn K (.ref C_X3) (.ref C_X2) = some false)
    (sb_3_3 : PySem.W.subIn K (.ref C_X3) (.ref C_X3) = some true)
    (sb_3_4 : PySem.W.subIn K (.ref C_X3) (.ref C_PB) = some true)
    : ∃ (fd : FuncData) (cl : Nat → Addr), (∀ (s : Shared) (u : Value), BindsTo s fd ⟨[u], []⟩ [("script", u)]) ∧ ∀ base : Heap, K.In base → base.Ns mainGlobals mg → FnG P w K mg base 14 fa fd 1 ["script"] (spF (gk K cl) 1 f_law) := by
  have e := hfa.symm.trans (PySem.W.mg_of X G a_law)
  cases e
  let cl : Nat → Addr := fun n => match n with | 0 => C_X0 | 1 => C_X1 | 2 => C_X2 | 3 => C_X3 | _ => C_PB
  have O_X0 : OexC K C_X0 := ⟨⟨_, _, _, _, _, _, _, _, _, _, _, _, _, _, _, x_X0, r_X0⟩, sa_X0, ex_X0, ty_X0, kc_X0⟩
  have E_X0 : L2.ExcC K C_X0 := ⟨hg_X0, hk_X0, ex_X0, hd_X0, ha_X0, hn, ht, hm_X0⟩
  have V_X0 : XfC K C_X0 := ⟨hg_X0, hk_X0, ex_X0, hd_X0⟩
  have O_X1 : OexC K C_X1 := ⟨⟨_, _, _, _, _, _, _, _, _, _, _, _, _, _, _, x_X1, r_X1⟩, sa_X1, ex_X1, ty_X1, kc_X1⟩
  have E_X1 : L2.ExcC K C_X1 := ⟨hg_X1, hk_X1, ex_X1, hd_X1, ha_X1, hn, ht, hm_X1⟩
  have V_X1 : XfC K C_X1 := ⟨hg_X1, hk_X1, ex_X1, hd_X1⟩
  have O_X2 : OexC K C_X2 := ⟨⟨_, _, _, _, _, _, _, _, _, _, _, _, _, _, _, x_X2, r_X2⟩, sa_X2, ex_X2, ty_X2, kc_X2⟩
  have E_X2 : L2.ExcC K C_X2 := ⟨hg_X2, hk_X2, ex_X2, hd_X2, ha_X2, hn, ht, hm_X2⟩
  have V_X2 : XfC K C_X2 := ⟨hg_X2, hk_X2, ex_X2, hd_X2⟩
  have O_X3 : OexC K C_X3 := ⟨⟨_, _, _, _, _, _, _, _, _, _, _, _, _, _, _, x_X3, r_X3⟩, sa_X3, ex_X3, ty_X3, kc_X3⟩
  have E_X3 : L2.ExcC K C_X3 := ⟨hg_X3, hk_X3, ex_X3, hd_X3, ha_X3, hn, ht, hm_X3⟩
  have V_X3 : XfC K C_X3 := ⟨hg_X3, hk_X3, ex_X3, hd_X3⟩
  have T : Txt K mg cl := {
    x_nm := fun C n e => by cases e
    x_exm := fun j C b e => by
      refine pairT_ok (R := fun C j b => PySem.W.exmOne K (.ref (cl C)) (.ref (cl j)) = some b) (fun p hp => by
        simp only [List.mem_cons, List.mem_nil_iff, or_false] at hp
        rcases hp with rfl | rfl | rfl | rfl | rfl | rfl
        · exact PySem.W.exm_ref ex_X2 hd_X2 ty_X2 sb_2_2
        · exact PySem.W.exm_ref ex_PB hd_PB ty_PB sb_0_4
        · exact PySem.W.exm_ref ex_PB hd_PB ty_PB sb_1_4
        · exact PySem.W.exm_ref ex_PB hd_PB ty_PB sb_2_4
        · exact PySem.W.exm_ref ex_PB hd_PB ty_PB sb_3_4
        · exact PySem.W.exm_ref ex_X3 hd_X3 ty_X3 sb_3_3) (fun p hp => by
        simp only [List.mem_cons, List.mem_nil_iff, or_false] at hp
        rcases hp with rfl | rfl | rfl | rfl | rfl | rfl
        · exact PySem.W.exm_ref ex_X2 hd_X2 ty_X2 sb_0_2
        · exact PySem.W.exm_ref ex_X2 hd_X2 ty_X2 sb_1_2
        · exact PySem.W.exm_ref ex_X2 hd_X2 ty_X2 sb_3_2
        · exact PySem.W.exm_ref ex_X3 hd_X3 ty_X3 sb_0_3
        · exact PySem.W.exm_ref ex_X3 hd_X3 ty_X3 sb_1_3
        · exact PySem.W.exm_ref ex_X3 hd_X3 ty_X3 sb_2_3) e
    x_is := fun C n b e => by
      refine pairT_ok (R := fun C n b => L2.ExcC K (cl C) ∧ PySem.W.kitOne K (.ref (cl C)) (.ref (cl n)) = some b) (fun p hp => by
        simp only [List.mem_cons, List.mem_nil_iff, or_false] at hp
        subst hp
        · exact ⟨E_X1, kit_self⟩) (fun p hp => by
        simp only [List.mem_cons, List.mem_nil_iff, or_false] at hp
        rcases hp with rfl | rfl | rfl
        · exact ⟨E_X0, kit_no hd_X1 ty_X1 sb_0_1 sb_0_0⟩
        · exact ⟨E_X2, kit_no hd_X1 ty_X1 sb_2_1 sb_2_2⟩
        · exact ⟨E_X3, kit_no hd_X1 ty_X1 sb_3_1 sb_3_3⟩) e
    x_fld_found := fun C e => by
      simp only [exFl_found, List.mem_cons, List.mem_nil_iff, or_false, decide_eq_true_eq] at e
      rcases e with rfl | rfl | rfl | rfl
      · exact ⟨V_X0, no_X0⟩
      · exact ⟨V_X1, no_X1⟩
      · exact ⟨V_X2, no_X2⟩
      · exact ⟨V_X3, no_X3⟩
    m_NoCard := PySem.W.mg_of X G a_X2
    m_NoList := PySem.W.mg_of X G a_X1
    m_PeerError := PySem.W.mg_of X G a_PB
    m_Unlike := PySem.W.mg_of X G a_X3
    n_all := PySem.W.mg_none_of X G z_all
    n_bool := PySem.W.mg_none_of X G z_bool
    n_dict := PySem.W.mg_none_of X G z_dict
    n_int := PySem.W.mg_none_of X G z_int
    n_isinstance := PySem.W.mg_none_of X G z_isinstance
    n_len := PySem.W.mg_none_of X G z_len
    n_list := PySem.W.mg_none_of X G z_list
    n_max := PySem.W.mg_none_of X G z_max
    n_min := PySem.W.mg_none_of X G z_min
    n_ord := PySem.W.mg_none_of X G z_ord
    n_range := PySem.W.mg_none_of X G z_range
    n_repr := PySem.W.mg_none_of X G z_repr
    n_str := PySem.W.mg_none_of X G z_str
    n_tuple := PySem.W.mg_none_of X G z_tuple
    c_MARK_LEFT := ⟨_, PySem.W.mg_of X G v_MARK_LEFT⟩
    c_MOST_LETTERS := ⟨_, PySem.W.mg_of X G v_MOST_LETTERS⟩
    c_MOST_NUMBER := ⟨_, PySem.W.mg_of X G v_MOST_NUMBER⟩
    c_MOST_PIECES := ⟨_, PySem.W.mg_of X G v_MOST_PIECES⟩
    c_MOST_THINGS := ⟨_, PySem.W.mg_of X G v_MOST_THINGS⟩ }
  have F_is_number := fun_mk (st := s_is_number) l_is_number c_is_number k_is_number
  have b_is_number := F_is_number.binds (ps := ["thing"]) fun _ _ _ _ _ _ us hl => match us, hl with | [_], _ => rfl
  have F_is_list := fun_mk (st := s_is_list) l_is_list c_is_list k_is_list
  have b_is_list := F_is_list.binds (ps := ["thing"]) fun _ _ _ _ _ _ us hl => match us, hl with | [_], _ => rfl
  have F_is_name := fun_mk (st := s_is_name) l_is_name c_is_name k_is_name
  have b_is_name := F_is_name.binds (ps := ["thing"]) fun _ _ _ _ _ _ us hl => match us, hl with | [_], _ => rfl
  have F_rank := fun_mk (st := s_rank) l_rank c_rank k_rank
  have b_rank := F_rank.binds (ps := ["card"]) fun _ _ _ _ _ _ us hl => match us, hl with | [_], _ => rfl
  have F__law_cell := fun_mk (st := s__law_cell) l__law_cell c__law_cell k__law_cell
  have b__law_cell := F__law_cell.binds (ps := ["script", "k"]) fun _ _ _ _ _ _ us hl => match us, hl with | [_, _], _ => rfl
  have F__law_box := fun_mk (st := s__law_box) l__law_box c__law_box k__law_box
  have b__law_box := F__law_box.binds (ps := ["cell"]) fun _ _ _ _ _ _ us hl => match us, hl with | [_], _ => rfl
  have F__law_take := fun_mk (st := s__law_take) l__law_take c__law_take k__law_take
  have b__law_take := F__law_take.binds (ps := ["box", "many"]) fun _ _ _ _ _ _ us hl => match us, hl with | [_, _], _ => rfl
  have F__law_cut := fun_mk (st := s__law_cut) l__law_cut c__law_cut k__law_cut
  have b__law_cut := F__law_cut.binds (ps := ["text"]) fun _ _ _ _ _ _ us hl => match us, hl with | [_], _ => rfl
  have F__law_mark := fun_mk (st := s__law_mark) l__law_mark c__law_mark k__law_mark
  have b__law_mark := F__law_mark.binds (ps := ["text"]) fun _ _ _ _ _ _ us hl => match us, hl with | [_], _ => rfl
  have F__law_grown := fun_mk (st := s__law_grown) l__law_grown c__law_grown k__law_grown
  have b__law_grown := F__law_grown.binds (ps := ["thing"]) fun _ _ _ _ _ _ us hl => match us, hl with | [_], _ => rfl
  have F__law_ahead := fun_mk (st := s__law_ahead) l__law_ahead c__law_ahead k__law_ahead
  have b__law_ahead := F__law_ahead.binds (ps := ["one", "other"]) fun _ _ _ _ _ _ us hl => match us, hl with | [_, _], _ => rfl
  have F_is_mark := fun_mk (st := s_is_mark) l_is_mark c_is_mark k_is_mark
  have b_is_mark := F_is_mark.binds (ps := ["thing"]) fun _ _ _ _ _ _ us hl => match us, hl with | [_], _ => rfl
  have F__law_text := fun_mk (st := s__law_text) l__law_text c__law_text k__law_text
  have b__law_text := F__law_text.binds (ps := ["box", "size"]) fun _ _ _ _ _ _ us hl => match us, hl with | [_, _], _ => rfl
  have F__law_marks := fun_mk (st := s__law_marks) l__law_marks c__law_marks k__law_marks
  have b__law_marks := F__law_marks.binds (ps := ["text"]) fun _ _ _ _ _ _ us hl => match us, hl with | [_], _ => rfl
  have F__law_names := fun_mk (st := s__law_names) l__law_names c__law_names k__law_names
  have b__law_names := F__law_names.binds (ps := ["box", "many"]) fun _ _ _ _ _ _ us hl => match us, hl with | [_, _], _ => rfl
  have F__law_thing := fun_mk (st := s__law_thing) l__law_thing c__law_thing k__law_thing
  have b__law_thing := F__law_thing.binds (ps := ["box"]) fun _ _ _ _ _ _ us hl => match us, hl with | [_], _ => rfl
  have F_is_marks := fun_mk (st := s_is_marks) l_is_marks c_is_marks k_is_marks
  have b_is_marks := F_is_marks.binds (ps := ["thing"]) fun _ _ _ _ _ _ us hl => match us, hl with | [_], _ => rfl
  have F__law_cards := fun_mk (st := s__law_cards) l__law_cards c__law_cards k__law_cards
  have b__law_cards := F__law_cards.binds (ps := ["box", "key", "names"]) fun _ _ _ _ _ _ us hl => match us, hl with | [_, _, _], _ => rfl
  have F_need_number := fun_mk (st := s_need_number) l_need_number c_need_number k_need_number
  have b_need_number := F_need_number.binds (ps := ["thing"]) fun _ _ _ _ _ _ us hl => match us, hl with | [_], _ => rfl
  have F_is_whole := fun_mk (st := s_is_whole) l_is_whole c_is_whole k_is_whole
  have b_is_whole := F_is_whole.binds (ps := ["thing", "low", "high"]) fun _ _ _ _ _ _ us hl => match us, hl with | [_, _, _], _ => rfl
  have F_is_card := fun_mk (st := s_is_card) l_is_card c_is_card k_is_card
  have b_is_card := F_is_card.binds (ps := ["thing"]) fun _ _ _ _ _ _ us hl => match us, hl with | [_], _ => rfl
  have F_need_card := fun_mk (st := s_need_card) l_need_card c_need_card k_need_card
  have b_need_card := F_need_card.binds (ps := ["thing"]) fun _ _ _ _ _ _ us hl => match us, hl with | [_], _ => rfl
  have F_is_ahead := fun_mk (st := s_is_ahead) l_is_ahead c_is_ahead k_is_ahead
  have b_is_ahead := F_is_ahead.binds (ps := ["one", "other"]) fun _ _ _ _ _ _ us hl => match us, hl with | [_, _], _ => rfl
  have F_greater := fun_mk (st := s_greater) l_greater c_greater k_greater
  have b_greater := F_greater.binds (ps := ["one", "other"]) fun _ _ _ _ _ _ us hl => match us, hl with | [_, _], _ => rfl
  have F_greatest := fun_mk (st := s_greatest) l_greatest c_greatest k_greatest
  have b_greatest := F_greatest.binds (ps := ["cards"]) fun _ _ _ _ _ _ us hl => match us, hl with | [_], _ => rfl
  have F__law_pair_right := fun_mk (st := s__law_pair_right) l__law_pair_right c__law_pair_right k__law_pair_right
  have b__law_pair_right := F__law_pair_right.binds (ps := ["one", "other"]) fun _ _ _ _ _ _ us hl => match us, hl with | [_, _], _ => rfl
  have F__law_answer := fun_mk (st := s__law_answer) l__law_answer c__law_answer k__law_answer
  have b__law_answer := F__law_answer.binds (ps := ["door", "one", "other"]) fun _ _ _ _ _ _ us hl => match us, hl with | [_, _, _], _ => rfl
  have F__law_no_list := fun_mk (st := s__law_no_list) l__law_no_list c__law_no_list k__law_no_list
  have b__law_no_list := F__law_no_list.binds (ps := ["thing"]) fun _ _ _ _ _ _ us hl => match us, hl with | [_], _ => rfl
  have F__law_bad_among := fun_mk (st := s__law_bad_among) l__law_bad_among c__law_bad_among k__law_bad_among
  have b__law_bad_among := F__law_bad_among.binds (ps := ["some", "word", "thing"]) fun _ _ _ _ _ _ us hl => match us, hl with | [_, _, _], _ => rfl
  have F__law_refused := fun_mk (st := s__law_refused) l__law_refused c__law_refused k__law_refused
  have b__law_refused := F__law_refused.binds (ps := ["door", "one", "other", "word", "thing"]) fun _ _ _ _ _ _ us hl => match us, hl with | [_, _, _, _, _], _ => rfl
  have F__law_first_bad_right := fun_mk (st := s__law_first_bad_right) l__law_first_bad_right c__law_first_bad_right k__law_first_bad_right
  have b__law_first_bad_right := F__law_first_bad_right.binds (ps := ["box", "cards", "odd", "strange"]) fun _ _ _ _ _ _ us hl => match us, hl with | [_, _, _, _], _ => rfl
  have F__law_refusals_right := fun_mk (st := s__law_refusals_right) l__law_refusals_right c__law_refusals_right k__law_refusals_right
  have b__law_refusals_right := F__law_refusals_right.binds (ps := ["box", "cards", "key"]) fun _ _ _ _ _ _ us hl => match us, hl with | [_, _, _], _ => rfl
  have F_law := fun_mk (st := s_law) l_law c_law k_law
  have b_law := F_law.binds (ps := ["script"]) fun _ _ _ _ _ _ us hl => match us, hl with | [_], _ => rfl
  have F_PB := fun_mk (st := sBase) l_PB c_PB k_PB
  have b_PB := F_PB.binds (ps := ["self", "text"]) fun _ _ _ _ _ _ us hl => match us, hl with | [_, _], _ => rfl
  have F_X0 := fun_mk (st := sNoNumber) l_X0 c_X0 k_X0
  have b_X0 := F_X0.binds (ps := ["self", "found"]) fun _ _ _ _ _ _ us hl => match us, hl with | [_, _], _ => rfl
  have F_X1 := fun_mk (st := sNoList) l_X1 c_X1 k_X1
  have b_X1 := F_X1.binds (ps := ["self", "found"]) fun _ _ _ _ _ _ us hl => match us, hl with | [_, _], _ => rfl
  have F_X2 := fun_mk (st := sNoCard) l_X2 c_X2 k_X2
  have b_X2 := F_X2.binds (ps := ["self", "found"]) fun _ _ _ _ _ _ us hl => match us, hl with | [_, _], _ => rfl
  have F_X3 := fun_mk (st := sUnlike) l_X3 c_X3 k_X3
  have b_X3 := F_X3.binds (ps := ["self", "found"]) fun _ _ _ _ _ _ us hl => match us, hl with | [_, _], _ => rfl
  refine ⟨_, cl, fun s u => b_law_at F_law s u, fun base _ _ => ?_⟩
  have G_PB : FnG P w K mg base 1 A_PB _ 2 ["self", "text"] (spV K) := ok_base F_PB (PySem.W.mg_none_of X G z_VE) f_VE
  have H_NoNumber : HasX P w K mg base cl 0 "NoNumber" "found" "no number" := { f := A_X0, fd := _, oex := O_X0, ini := i_X0, ti := ti_X0, ps := _, ok := ok_sNoNumber F_X0 (PySem.W.mg_of X G a_PB) ⟨g_PB, d_PB, f_PB, k_PB⟩ G_PB b_PB O_X0 no_X0, bd := b_X0, mg := PySem.W.mg_of X G a_X0 }
  have H_NoList : HasX P w K mg base cl 1 "NoList" "found" "no list" := { f := A_X1, fd := _, oex := O_X1, ini := i_X1, ti := ti_X1, ps := _, ok := ok_sNoList F_X1 (PySem.W.mg_of X G a_PB) ⟨g_PB, d_PB, f_PB, k_PB⟩ G_PB b_PB O_X1 no_X1, bd := b_X1, mg := PySem.W.mg_of X G a_X1 }
  have H_NoCard : HasX P w K mg base cl 2 "NoCard" "found" "no card" := { f := A_X2, fd := _, oex := O_X2, ini := i_X2, ti := ti_X2, ps := _, ok := ok_sNoCard F_X2 (PySem.W.mg_of X G a_PB) ⟨g_PB, d_PB, f_PB, k_PB⟩ G_PB b_PB O_X2 no_X2, bd := b_X2, mg := PySem.W.mg_of X G a_X2 }
  have H_Unlike : HasX P w K mg base cl 3 "Unlike" "found" "unlike" := { f := A_X3, fd := _, oex := O_X3, ini := i_X3, ti := ti_X3, ps := _, ok := ok_sUnlike F_X3 (PySem.W.mg_of X G a_PB) ⟨g_PB, d_PB, f_PB, k_PB⟩ G_PB b_PB O_X3 no_X3, bd := b_X3, mg := PySem.W.mg_of X G a_X3 }
  have H_is_number : HasF P w K mg base cl 1 "is_number" 1 ["thing"] f_is_number := { f := A_is_number, fd := _, ok := ok_is_number T  F_is_number, mg := PySem.W.mg_of X G a_is_number, kp := k_is_number, bd := b_is_number }
  have H_is_list : HasF P w K mg base cl 1 "is_list" 1 ["thing"] f_is_list := { f := A_is_list, fd := _, ok := ok_is_list T  F_is_list, mg := PySem.W.mg_of X G a_is_list, kp := k_is_list, bd := b_is_list }
  have H_is_name : HasF P w K mg base cl 1 "is_name" 1 ["thing"] f_is_name := { f := A_is_name, fd := _, ok := ok_is_name T  F_is_name, mg := PySem.W.mg_of X G a_is_name, kp := k_is_name, bd := b_is_name }
  have H_rank : HasF P w K mg base cl 1 "rank" 1 ["card"] f_rank := { f := A_rank, fd := _, ok := ok_rank T  F_rank, mg := PySem.W.mg_of X G a_rank, kp := k_rank, bd := b_rank }
  have H__law_cell : HasF P w K mg base cl 1 "_law_cell" 2 ["script", "k"] f__law_cell := { f := A__law_cell, fd := _, ok := ok__law_cell T  F__law_cell, mg := PySem.W.mg_of X G a__law_cell, kp := k__law_cell, bd := b__law_cell }
  have H__law_box : HasF P w K mg base cl 1 "_law_box" 1 ["cell"] f__law_box := { f := A__law_box, fd := _, ok := ok__law_box T  F__law_box, mg := PySem.W.mg_of X G a__law_box, kp := k__law_box, bd := b__law_box }
  have H__law_take : HasF P w K mg base cl 1 "_law_take" 2 ["box", "many"] f__law_take := { f := A__law_take, fd := _, ok := ok__law_take T  F__law_take, mg := PySem.W.mg_of X G a__law_take, kp := k__law_take, bd := b__law_take }
  have H__law_cut : HasF P w K mg base cl 1 "_law_cut" 1 ["text"] f__law_cut := { f := A__law_cut, fd := _, ok := ok__law_cut T  F__law_cut, mg := PySem.W.mg_of X G a__law_cut, kp := k__law_cut, bd := b__law_cut }
  have H__law_mark : HasF P w K mg base cl 1 "_law_mark" 1 ["text"] f__law_mark := { f := A__law_mark, fd := _, ok := ok__law_mark T  F__law_mark, mg := PySem.W.mg_of X G a__law_mark, kp := k__law_mark, bd := b__law_mark }
  have H__law_grown : HasF P w K mg base cl 1 "_law_grown" 1 ["thing"] f__law_grown := { f := A__law_grown, fd := _, ok := ok__law_grown T  F__law_grown, mg := PySem.W.mg_of X G a__law_grown, kp := k__law_grown, bd := b__law_grown }
  have HH__law_grown : HasH P w K mg base cl 1 "_law_grown" 1 ["thing"] f__law_grown := { f := A__law_grown, fd := _, ok := okH__law_grown T  F__law_grown, mg := PySem.W.mg_of X G a__law_grown, kp := k__law_grown, bd := b__law_grown }
  have H__law_ahead : HasF P w K mg base cl 1 "_law_ahead" 2 ["one", "other"] f__law_ahead := { f := A__law_ahead, fd := _, ok := ok__law_ahead T  F__law_ahead, mg := PySem.W.mg_of X G a__law_ahead, kp := k__law_ahead, bd := b__law_ahead }
  have H_is_mark : HasF P w K mg base cl 2 "is_mark" 1 ["thing"] f_is_mark := { f := A_is_mark, fd := _, ok := ok_is_mark T H_is_number F_is_mark, mg := PySem.W.mg_of X G a_is_mark, kp := k_is_mark, bd := b_is_mark }
  have H__law_text : HasF P w K mg base cl 2 "_law_text" 2 ["box", "size"] f__law_text := { f := A__law_text, fd := _, ok := ok__law_text T H__law_take F__law_text, mg := PySem.W.mg_of X G a__law_text, kp := k__law_text, bd := b__law_text }
  have H__law_marks : HasF P w K mg base cl 2 "_law_marks" 1 ["text"] f__law_marks := { f := A__law_marks, fd := _, ok := ok__law_marks T H__law_cut H__law_mark F__law_marks, mg := PySem.W.mg_of X G a__law_marks, kp := k__law_marks, bd := b__law_marks }
  have H__law_names : HasF P w K mg base cl 2 "_law_names" 2 ["box", "many"] f__law_names := { f := A__law_names, fd := _, ok := ok__law_names T H__law_take F__law_names, mg := PySem.W.mg_of X G a__law_names, kp := k__law_names, bd := b__law_names }
  have H__law_thing : HasF P w K mg base cl 2 "_law_thing" 1 ["box"] f__law_thing := { f := A__law_thing, fd := _, ok := ok__law_thing T H__law_take F__law_thing, mg := PySem.W.mg_of X G a__law_thing, kp := k__law_thing, bd := b__law_thing }
  have H_is_marks : HasF P w K mg base cl 3 "is_marks" 1 ["thing"] f_is_marks := { f := A_is_marks, fd := _, ok := ok_is_marks T H_is_mark F_is_marks, mg := PySem.W.mg_of X G a_is_marks, kp := k_is_marks, bd := b_is_marks }
  have H__law_cards : HasF P w K mg base cl 3 "_law_cards" 3 ["box", "key", "names"] f__law_cards := { f := A__law_cards, fd := _, ok := ok__law_cards T H__law_mark H__law_marks H__law_take H__law_text F__law_cards, mg := PySem.W.mg_of X G a__law_cards, kp := k__law_cards, bd := b__law_cards }
  have HX_need_number : HasFX P w K mg base cl 4 "need_number" 1 ["thing"] fx_need_number := { f := A_need_number, fd := _, ok := ok_need_number T H_is_number H_NoNumber F_need_number, mg := PySem.W.mg_of X G a_need_number, kp := k_need_number, bd := b_need_number }
  have HX_is_whole : HasFX P w K mg base cl 5 "is_whole" 3 ["thing", "low", "high"] fx_is_whole := { f := A_is_whole, fd := _, ok := ok_is_whole T H_is_number HX_need_number F_is_whole, mg := PySem.W.mg_of X G a_is_whole, kp := k_is_whole, bd := b_is_whole }
  have H_is_card : HasF P w K mg base cl 6 "is_card" 1 ["thing"] f_is_card := { f := A_is_card, fd := _, ok := ok_is_card T H_is_marks H_is_name HX_is_whole F_is_card, mg := PySem.W.mg_of X G a_is_card, kp := k_is_card, bd := b_is_card }
  have HX_need_card : HasFX P w K mg base cl 7 "need_card" 1 ["thing"] fx_need_card := { f := A_need_card, fd := _, ok := ok_need_card T H_is_card H_NoCard F_need_card, mg := PySem.W.mg_of X G a_need_card, kp := k_need_card, bd := b_need_card }
  have HX_is_ahead : HasFX P w K mg base cl 8 "is_ahead" 2 ["one", "other"] fx_is_ahead := { f := A_is_ahead, fd := _, ok := ok_is_ahead T H_rank HX_need_card H_Unlike F_is_ahead, mg := PySem.W.mg_of X G a_is_ahead, kp := k_is_ahead, bd := b_is_ahead }
  have HX_greater : HasFX P w K mg base cl 9 "greater" 2 ["one", "other"] fx_greater := { f := A_greater, fd := _, ok := ok_greater T HX_is_ahead F_greater, mg := PySem.W.mg_of X G a_greater, kp := k_greater, bd := b_greater }
  have HX_greatest : HasFX P w K mg base cl 10 "greatest" 1 ["cards"] fx_greatest := { f := A_greatest, fd := _, ok := ok_greatest T H_is_list HX_greater H_NoList F_greatest, mg := PySem.W.mg_of X G a_greatest, kp := k_greatest, bd := b_greatest }
  have H__law_pair_right : HasF P w K mg base cl 10 "_law_pair_right" 2 ["one", "other"] f__law_pair_right := { f := A__law_pair_right, fd := _, ok := ok__law_pair_right T H__law_ahead HX_greater HX_is_ahead F__law_pair_right, mg := PySem.W.mg_of X G a__law_pair_right, kp := k__law_pair_right, bd := b__law_pair_right }
  have HX__law_answer : HasFX P w K mg base cl 11 "_law_answer" 3 ["door", "one", "other"] fx__law_answer := { f := A__law_answer, fd := _, ok := ok__law_answer T HX_greater HX_greatest HX_is_ahead F__law_answer, mg := PySem.W.mg_of X G a__law_answer, kp := k__law_answer, bd := b__law_answer }
  have H__law_no_list : HasF P w K mg base cl 11 "_law_no_list" 1 ["thing"] f__law_no_list := { f := A__law_no_list, fd := _, ok := ok__law_no_list T HX_greatest HH__law_grown F__law_no_list, mg := PySem.W.mg_of X G a__law_no_list, kp := k__law_no_list, bd := b__law_no_list }
  have H__law_bad_among : HasF P w K mg base cl 11 "_law_bad_among" 3 ["some", "word", "thing"] f__law_bad_among := { f := A__law_bad_among, fd := _, ok := ok__law_bad_among T HX_greatest F__law_bad_among, mg := PySem.W.mg_of X G a__law_bad_among, kp := k__law_bad_among, bd := b__law_bad_among }
  have H__law_refused : HasF P w K mg base cl 12 "_law_refused" 5 ["door", "one", "other", "word", "thing"] f__law_refused := { f := A__law_refused, fd := _, ok := ok__law_refused T HX__law_answer HH__law_grown F__law_refused, mg := PySem.W.mg_of X G a__law_refused, kp := k__law_refused, bd := b__law_refused }
  have H__law_first_bad_right : HasF P w K mg base cl 12 "_law_first_bad_right" 4 ["box", "cards", "odd", "strange"] f__law_first_bad_right := { f := A__law_first_bad_right, fd := _, ok := ok__law_first_bad_right T H__law_bad_among H__law_take F__law_first_bad_right, mg := PySem.W.mg_of X G a__law_first_bad_right, kp := k__law_first_bad_right, bd := b__law_first_bad_right }
  have H__law_refusals_right : HasF P w K mg base cl 13 "_law_refusals_right" 3 ["box", "cards", "key"] f__law_refusals_right := { f := A__law_refusals_right, fd := _, ok := ok__law_refusals_right T H__law_bad_among H__law_first_bad_right H__law_no_list H__law_refused H__law_take H__law_thing F__law_refusals_right, mg := PySem.W.mg_of X G a__law_refusals_right, kp := k__law_refusals_right, bd := b__law_refusals_right }
  exact ok_law T H__law_ahead H__law_box H__law_cards H__law_cell H__law_names H__law_pair_right H__law_refusals_right H__law_take HX_greatest HX_is_ahead F_law
end Law

set_option Elab.async false
set_option linter.all false
set_option autoImplicit false
set_option maxRecDepth 100000
set_option maxHeartbeats 4000000

open PySem PySem.W PyProof.Rows in
set_option maxRecDepth 100000 in
set_option maxHeartbeats 0 in
theorem PySem.Challenge.cw_peersmeet_k14_whole_greater_cards_holds : PySem.Challenge.rw_peersmeet_k14_whole_greater_cards.Holds := by
  w_on; o_law; k_head; (case hw => w_witness2)
  k_fill
  refine G.law_end (l := PySem.Challenge.rw_peersmeet_k14_whole_greater_cards) (k := 14) (x := "script") (fn := Law.f_law) rfl rfl ⟨rfl, by decide, by decide⟩ (fun w h Y => PySem.W.kIn_of Y) ?F (fun ns hl _ => Law.law_good ns hl)
  case F =>
    intro w mg fa h KX G hmg
    refine' Law.all_mk KX G hmg ?a_is_number ?l_is_number ?c_is_number ?k_is_number ?a_is_list ?l_is_list ?c_is_list ?k_is_list ?a_is_name ?l_is_name ?c_is_name ?k_is_name ?a_rank ?l_rank ?c_rank ?k_rank ?a__law_cell ?l__law_cell ?c__law_cell ?k__law_cell ?a__law_box ?l__law_box ?c__law_box ?k__law_box ?a__law_take ?l__law_take ?c__law_take ?k__law_take ?a__law_cut ?l__law_cut ?c__law_cut ?k__law_cut ?a__law_mark ?l__law_mark ?c__law_mark ?k__law_mark ?a__law_grown ?l__law_grown ?c__law_grown ?k__law_grown ?a__law_ahead ?l__law_ahead ?c__law_ahead ?k__law_ahead ?a_is_mark ?l_is_mark ?c_is_mark ?k_is_mark ?a__law_text ?l__law_text ?c__law_text ?k__law_text ?a__law_marks ?l__law_marks ?c__law_marks ?k__law_marks ?a__law_names ?l__law_names ?c__law_names ?k__law_names ?a__law_thing ?l__law_thing ?c__law_thing ?k__law_thing ?a_is_marks ?l_is_marks ?c_is_marks ?k_is_marks ?a__law_cards ?l__law_cards ?c__law_cards ?k__law_cards ?a_need_number ?l_need_number ?c_need_number ?k_need_number ?a_is_whole ?l_is_whole ?c_is_whole ?k_is_whole ?a_is_card ?l_is_card ?c_is_card ?k_is_card ?a_need_card ?l_need_card ?c_need_card ?k_need_card ?a_is_ahead ?l_is_ahead ?c_is_ahead ?k_is_ahead ?a_greater ?l_greater ?c_greater ?k_greater ?a_greatest ?l_greatest ?c_greatest ?k_greatest ?a__law_pair_right ?l__law_pair_right ?c__law_pair_right ?k__law_pair_right ?a__law_answer ?l__law_answer ?c__law_answer ?k__law_answer ?a__law_no_list ?l__law_no_list ?c__law_no_list ?k__law_no_list ?a__law_bad_among ?l__law_bad_among ?c__law_bad_among ?k__law_bad_among ?a__law_refused ?l__law_refused ?c__law_refused ?k__law_refused ?a__law_first_bad_right ?l__law_first_bad_right ?c__law_first_bad_right ?k__law_first_bad_right ?a__law_refusals_right ?l__law_refusals_right ?c__law_refusals_right ?k__law_refusals_right ?a_law ?l_law ?c_law ?k_law ?z_all ?z_bool ?z_dict ?z_int ?z_isinstance ?z_len ?z_list ?z_max ?z_min ?z_ord ?z_range ?z_repr ?z_str ?z_tuple ?v_MARK_LEFT ?v_MOST_LETTERS ?v_MOST_NUMBER ?v_MOST_PIECES ?v_MOST_THINGS ?a_PB ?l_PB ?c_PB ?k_PB ?g_PB ?d_PB ?f_PB ?z_VE ?f_VE ?ex_PB ?ty_PB ?hd_PB ?a_X0 ?x_X0 ?r_X0 ?i_X0 ?ti_X0 ?l_X0 ?c_X0 ?k_X0 ?sa_X0 ?ex_X0 ?ty_X0 ?kc_X0 ?no_X0 ?hg_X0 ?hk_X0 ?hd_X0 ?ha_X0 ?hm_X0 ?a_X1 ?x_X1 ?r_X1 ?i_X1 ?ti_X1 ?l_X1 ?c_X1 ?k_X1 ?sa_X1 ?ex_X1 ?ty_X1 ?kc_X1 ?no_X1 ?hg_X1 ?hk_X1 ?hd_X1 ?ha_X1 ?hm_X1 ?a_X2 ?x_X2 ?r_X2 ?i_X2 ?ti_X2 ?l_X2 ?c_X2 ?k_X2 ?sa_X2 ?ex_X2 ?ty_X2 ?kc_X2 ?no_X2 ?hg_X2 ?hk_X2 ?hd_X2 ?ha_X2 ?hm_X2 ?a_X3 ?x_X3 ?r_X3 ?i_X3 ?ti_X3 ?l_X3 ?c_X3 ?k_X3 ?sa_X3 ?ex_X3 ?ty_X3 ?kc_X3 ?no_X3 ?hg_X3 ?hk_X3 ?hd_X3 ?ha_X3 ?hm_X3 ?hn ?ht ?sb_0_0 ?sb_0_1 ?sb_0_2 ?sb_0_3 ?sb_0_4 ?sb_1_2 ?sb_1_3 ?sb_1_4 ?sb_2_1 ?sb_2_2 ?sb_2_3 ?sb_2_4 ?sb_3_1 ?sb_3_2 ?sb_3_3 ?sb_3_4
    (case a_is_number => k_is)
    (case a_is_list => k_is)
    (case a_is_name => k_is)
    (case a_rank => k_is)
    (case a__law_cell => k_is)
    (case a__law_box => k_is)
    (case a__law_take => k_is)
    (case a__law_cut => k_is)
    (case a__law_mark => k_is)
    (case a__law_grown => k_is)
    (case a__law_ahead => k_is)
    (case a_is_mark => k_is)
    (case a__law_text => k_is)
    (case a__law_marks => k_is)
    (case a__law_names => k_is)
    (case a__law_thing => k_is)
    (case a_is_marks => k_is)
    (case a__law_cards => k_is)
    (case a_need_number => k_is)
    (case a_is_whole => k_is)
    (case a_is_card => k_is)
    (case a_need_card => k_is)
    (case a_is_ahead => k_is)
    (case a_greater => k_is)
    (case a_greatest => k_is)
    (case a__law_pair_right => k_is)
    (case a__law_answer => k_is)
    (case a__law_no_list => k_is)
    (case a__law_bad_among => k_is)
    (case a__law_refused => k_is)
    (case a__law_first_bad_right => k_is)
    (case a__law_refusals_right => k_is)
    (case a_law => k_is)
    (case a_PB => k_is)
    (case a_X0 => k_is)
    (case a_X1 => k_is)
    (case a_X2 => k_is)
    (case a_X3 => k_is)
    (case f_PB => k_is)
    (case x_X0 => k_is)
    (case i_X0 => k_is)
    (case x_X1 => k_is)
    (case i_X1 => k_is)
    (case x_X2 => k_is)
    (case i_X2 => k_is)
    (case x_X3 => k_is)
    (case i_X3 => k_is)
    (case l_is_number => k_is)
    (case c_is_number => k_is)
    (case k_is_number => k_is)
    (case l_is_list => k_is)
    (case c_is_list => k_is)
    (case k_is_list => k_is)
    (case l_is_name => k_is)
    (case c_is_name => k_is)
    (case k_is_name => k_is)
    (case l_rank => k_is)
    (case c_rank => k_is)
    (case k_rank => k_is)
    (case l__law_cell => k_is)
    (case c__law_cell => k_is)
    (case k__law_cell => k_is)
    (case l__law_box => k_is)
    (case c__law_box => k_is)
    (case k__law_box => k_is)
    (case l__law_take => k_is)
    (case c__law_take => k_is)
    (case k__law_take => k_is)
    (case l__law_cut => k_is)
    (case c__law_cut => k_is)
    (case k__law_cut => k_is)
    (case l__law_mark => k_is)
    (case c__law_mark => k_is)
    (case k__law_mark => k_is)
    (case l__law_grown => k_is)
    (case c__law_grown => k_is)
    (case k__law_grown => k_is)
    (case l__law_ahead => k_is)
    (case c__law_ahead => k_is)
    (case k__law_ahead => k_is)
    (case l_is_mark => k_is)
    (case c_is_mark => k_is)
    (case k_is_mark => k_is)
    (case l__law_text => k_is)
    (case c__law_text => k_is)
    (case k__law_text => k_is)
    (case l__law_marks => k_is)
    (case c__law_marks => k_is)
    (case k__law_marks => k_is)
    (case l__law_names => k_is)
    (case c__law_names => k_is)
    (case k__law_names => k_is)
    (case l__law_thing => k_is)
    (case c__law_thing => k_is)
    (case k__law_thing => k_is)
    (case l_is_marks => k_is)
    (case c_is_marks => k_is)
    (case k_is_marks => k_is)
    (case l__law_cards => k_is)
    (case c__law_cards => k_is)
    (case k__law_cards => k_is)
    (case l_need_number => k_is)
    (case c_need_number => k_is)
    (case k_need_number => k_is)
    (case l_is_whole => k_is)
    (case c_is_whole => k_is)
    (case k_is_whole => k_is)
    (case l_is_card => k_is)
    (case c_is_card => k_is)
    (case k_is_card => k_is)
    (case l_need_card => k_is)
    (case c_need_card => k_is)
    (case k_need_card => k_is)
    (case l_is_ahead => k_is)
    (case c_is_ahead => k_is)
    (case k_is_ahead => k_is)
    (case l_greater => k_is)
    (case c_greater => k_is)
    (case k_greater => k_is)
    (case l_greatest => k_is)
    (case c_greatest => k_is)
    (case k_greatest => k_is)
    (case l__law_pair_right => k_is)
    (case c__law_pair_right => k_is)
    (case k__law_pair_right => k_is)
    (case l__law_answer => k_is)
    (case c__law_answer => k_is)
    (case k__law_answer => k_is)
    (case l__law_no_list => k_is)
    (case c__law_no_list => k_is)
    (case k__law_no_list => k_is)
    (case l__law_bad_among => k_is)
    (case c__law_bad_among => k_is)
    (case k__law_bad_among => k_is)
    (case l__law_refused => k_is)
    (case c__law_refused => k_is)
    (case k__law_refused => k_is)
    (case l__law_first_bad_right => k_is)
    (case c__law_first_bad_right => k_is)
    (case k__law_first_bad_right => k_is)
    (case l__law_refusals_right => k_is)
    (case c__law_refusals_right => k_is)
    (case k__law_refusals_right => k_is)
    (case l_law => k_is)
    (case c_law => k_is)
    (case k_law => k_is)
    (case z_all => k_is)
    (case z_bool => k_is)
    (case z_dict => k_is)
    (case z_int => k_is)
    (case z_isinstance => k_is)
    (case z_len => k_is)
    (case z_list => k_is)
    (case z_max => k_is)
    (case z_min => k_is)
    (case z_ord => k_is)
    (case z_range => k_is)
    (case z_repr => k_is)
    (case z_str => k_is)
    (case z_tuple => k_is)
    (case v_MARK_LEFT => k_is)
    (case v_MOST_LETTERS => k_is)
    (case v_MOST_NUMBER => k_is)
    (case v_MOST_PIECES => k_is)
    (case v_MOST_THINGS => k_is)
    (case l_PB => k_is)
    (case c_PB => k_is)
    (case k_PB => k_is)
    (case g_PB => k_is)
    (case d_PB => k_is)
    (case z_VE => k_is)
    (case f_VE => k_is)
    (case ex_PB => k_is)
    (case ty_PB => k_is)
    (case hd_PB => k_is)
    (case r_X0 => decide +kernel)
    (case ti_X0 => k_is)
    (case l_X0 => k_is)
    (case c_X0 => k_is)
    (case k_X0 => k_is)
    (case sa_X0 => k_is)
    (case ex_X0 => k_is)
    (case ty_X0 => k_is)
    (case kc_X0 => k_is)
    (case no_X0 => k_is)
    (case hg_X0 => k_is)
    (case hk_X0 => k_is)
    (case hd_X0 => k_is)
    (case ha_X0 => k_is)
    (case hm_X0 => k_is)
    (case r_X1 => decide +kernel)
    (case ti_X1 => k_is)
    (case l_X1 => k_is)
    (case c_X1 => k_is)
    (case k_X1 => k_is)
    (case sa_X1 => k_is)
    (case ex_X1 => k_is)
    (case ty_X1 => k_is)
    (case kc_X1 => k_is)
    (case no_X1 => k_is)
    (case hg_X1 => k_is)
    (case hk_X1 => k_is)
    (case hd_X1 => k_is)
    (case ha_X1 => k_is)
    (case hm_X1 => k_is)
    (case r_X2 => decide +kernel)
    (case ti_X2 => k_is)
    (case l_X2 => k_is)
    (case c_X2 => k_is)
    (case k_X2 => k_is)
    (case sa_X2 => k_is)
    (case ex_X2 => k_is)
    (case ty_X2 => k_is)
    (case kc_X2 => k_is)
    (case no_X2 => k_is)
    (case hg_X2 => k_is)
    (case hk_X2 => k_is)
    (case hd_X2 => k_is)
    (case ha_X2 => k_is)
    (case hm_X2 => k_is)
    (case r_X3 => decide +kernel)
    (case ti_X3 => k_is)
    (case l_X3 => k_is)
    (case c_X3 => k_is)
    (case k_X3 => k_is)
    (case sa_X3 => k_is)
    (case ex_X3 => k_is)
    (case ty_X3 => k_is)
    (case kc_X3 => k_is)
    (case no_X3 => k_is)
    (case hg_X3 => k_is)
    (case hk_X3 => k_is)
    (case hd_X3 => k_is)
    (case ha_X3 => k_is)
    (case hm_X3 => k_is)
    (case hn => k_is)
    (case ht => k_is)
    (case sb_0_0 => k_is)
    (case sb_0_1 => k_is)
    (case sb_0_2 => k_is)
    (case sb_0_3 => k_is)
    (case sb_0_4 => k_is)
    (case sb_1_2 => k_is)
    (case sb_1_3 => k_is)
    (case sb_1_4 => k_is)
    (case sb_2_1 => k_is)
    (case sb_2_2 => k_is)
    (case sb_2_3 => k_is)
    (case sb_2_4 => k_is)
    (case sb_3_1 => k_is)
    (case sb_3_2 => k_is)
    (case sb_3_3 => k_is)
    (case sb_3_4 => k_is)


