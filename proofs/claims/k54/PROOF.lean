import PyProof.Rows.All
import Wide.All
import OpenK.AllK
import Wide.FinOn
import HandS.ForMost
import HandS.ExcInit
import HandS.ExcIs
import HandS.Wide
import HandS.Deep
import HandS.ExcValue
import HandS.ExcCtx
import HandS.HotCalls
import HandS.IsInst
import HandS.SortInts
import HandS.EndBits
import KE.KExcStr
import PyProof.ExcReprCall
import HandS.ExcOwn
import HandS.WordsExc
import HandS.ExcField
import KE.GoesEnumKw
import KE.KxIndex
import PyProof.ReprDict
import PyProof.Rows.ChunkLeaf
import HandS.Replace
import HandS.TupMul
import HandS.TupAny
import HandS.SetFor
import HandS.Flow
import HandS.Defaults
import HandS.Style
import KE.LtData
import PyProof.Rows.CountFlat
import HandS.More
import KE.KTryMore
import HandS.Text
import OpenK.KMore
import HandS.List
import KE.KRevSl
import PyProof.SliceStr2
import HandS.Iter
import KE.GoesMore
import HandS.WordsDict
import HandS.Conv
import KE.KDictSum
import KE.KDictList
import OpenK.KOps
import KE.KExcInit
import PyProof.ExcBaseAll.LookupError
import PyProof.ReprReads
import PyProof.ReprRoads
import PyProof.ReprBulk
import PyProof.P3Eq
import HandS.Codes
import PySem.Challenge.RW_peersmeet_k54_roads_bear_letters
set_option Elab.async false
set_option linter.all false
set_option autoImplicit false
set_option maxRecDepth 100000
set_option maxHeartbeats 2000000
namespace G
open PySem PySem.Spec PySem.Calls L2

/-- a tuple: tracked, or written -/
def Tp (K : PySem.W.Frag) (H : Hp) (a : Addr) (xs : List V) : Prop :=
  H a = some (.tup xs) ∨ ∃ (o : Obj) (its : Array Value) (n : Nat), K.lookup a = some o ∧ o.cls = .type "tuple" ∧ o.data = .seq its n ∧ its.size ≤ sizeLine ∧ Vals xs its.toList
theorem Tp.sq {K : PySem.W.Frag} {H : Hp} {a : Addr} {xs : List V} (h : Tp K H a xs) : SqT K H a xs := h.imp (fun h => .inl h) fun h => h
theorem Tp.of {K : PySem.W.Frag} {H : Hp} {a : Addr} {xs : List V} (h : H a = some (.tup xs)) : Tp K H a xs := .inl h
theorem Tp.same {K : PySem.W.Frag} {H H' : Hp} {a : Addr} {xs : List V} (e : Same H H') (h : Tp K H a xs) : Tp K H' a xs := h.imp (fun h => e _ _ h) fun h => h
/-! ### an exception as a value: its args at t, its own dict -/
abbrev excObj (C : Addr) (d : Option Addr) (t : Addr) : Obj := { cls := .ref C, dict := d, data := .fields #[.ref t, .none, .none, .none, .bool false, .none] }
def exoT (a C : Addr) (d : Option Addr) (t : Addr) : HO := .ext fun h => h.get? a = some (excObj C d t)
theorem exoT_ok {P : Program} {w : World} {H : Hp} {h : Heap} {a C t : Addr} {d : Option Addr} (e : h.get? a = some (excObj C d t)) : ObjOk P w H h a (exoT a C d t) := ⟨e, ⟨_, e⟩, fun _ _ p k => k _ p⟩
theorem exoT_at {P : Program} {w : World} {H : Hp} {h : Heap} {a C t : Addr} {d : Option Addr} (hok : HOk P w H h) (e : H a = some (exoT a C d t)) : h.get? a = some (excObj C d t) := (hok a _ e).1
/-! ### data -/
inductive D where
  | non | bl (b : Bool) | int (i : Int) | str (x : Str) | ty (n : String)
  | lst (xs : List D) | tup (xs : List D) | dct (ks : List Key) (xs : List D) | ins (C : Nat) (ns : List Str) (xs : List D) | mut (k : Nat) | scr (ns : List Int) | exc (C : Nat) (f msg : Str) (d : D) | cls (C : Nat)
structure Gm where
  K : PySem.W.Frag
  cl : Nat → Addr
  xp : Option (Addr × Obj)
mutual
def Has (Γ : Gm) (ms : List Addr) (F : Hp) (v : V) : D → Prop
  | .non => v = .non
  | .bl b => v = .bl b
  | .int i => v = .int i
  | .str x => v = .str x
  | .ty n => v = .ty n
  | .lst ds => ∃ a xs, v = .ref a ∧ F a = some (.lst xs) ∧ HasL Γ ms F xs ds
  | .tup ds => ∃ a xs, v = .ref a ∧ Tp Γ.K F a xs ∧ HasL Γ ms F xs ds
  | .dct ks ds => ∃ a xs, v = .ref a ∧ F a = some (.dK (ks.zip xs)) ∧ ks.length = xs.length ∧ HasL Γ ms F xs ds
  | .ins C ns ds => ∃ a dx xs, v = .ref a ∧ F a = some (.ins (Γ.cl C) dx (ns.zip xs)) ∧ ns.length = xs.length ∧ HasL Γ ms F xs ds
  | .mut k => ∃ a, v = .ref a ∧ ms[k]? = some a
  | .scr ns => ∃ a, v = .ref a ∧ SqL Γ.K F a (ns.map V.int)
  | .exc C f msg d => ∃ a t dx y, v = .ref a ∧ F a = some (exoT a (Γ.cl C) (some dx) t) ∧ F t = some (.tup [.str msg]) ∧ F dx = some (exd dx [(f, y)]) ∧ Has Γ ms F y d
  | .cls C => v = .ref (Γ.cl C)
def HasL (Γ : Gm) (ms : List Addr) (F : Hp) (vs : List V) : List D → Prop
  | [] => vs = []
  | d :: ds => ∃ w ws, vs = w :: ws ∧ Has Γ ms F w d ∧ HasL Γ ms F ws ds
end
section
variable {K : PySem.W.Frag} {cl : Nat → Addr} {x y : Option (Addr × Obj)} {ms : List Addr} {F : Hp}
mutual
theorem Has.xp : ∀ {v : V} {d : D}, Has ⟨K, cl, x⟩ ms F v d → Has ⟨K, cl, y⟩ ms F v d
  | v, .non, h => h
  | v, .bl b, h => h
  | v, .int i, h => h
  | v, .str x, h => h
  | v, .ty n, h => h
  | v, .lst ds, ⟨a, xs, hv, hs, hl⟩ => ⟨a, xs, hv, hs, HasL.xp hl⟩
  | v, .tup ds, ⟨a, xs, hv, hs, hl⟩ => ⟨a, xs, hv, hs, HasL.xp hl⟩
  | v, .dct ks ds, ⟨a, xs, hv, hs, hn, hl⟩ => ⟨a, xs, hv, hs, hn, HasL.xp hl⟩
  | v, .ins C ns ds, ⟨a, dx, xs, hv, hs, hn, hl⟩ => ⟨a, dx, xs, hv, hs, hn, HasL.xp hl⟩
  | v, .mut k, h => h
  | v, .scr ns, h => h
  | v, .exc C f msg d, ⟨a, t, dx, z, hv, h1, h2, h3, h4⟩ => ⟨a, t, dx, z, hv, h1, h2, h3, Has.xp h4⟩
  | v, .cls C, h => h
theorem HasL.xp : ∀ {vs : List V} {ds : List D}, HasL ⟨K, cl, x⟩ ms F vs ds → HasL ⟨K, cl, y⟩ ms F vs ds
  | vs, [], h => h
  | vs, d :: ds, ⟨w, ws, hv, h1, h2⟩ => ⟨w, ws, hv, Has.xp h1, HasL.xp h2⟩
end
end
theorem getP {α : Type} {l r : List α} {k : Nat} {a : α} (h : l[k]? = some a) : (l ++ r)[k]? = some a := by
  rw [List.getElem?_append_left (List.getElem?_eq_some_iff.mp h).1]
  exact h
section
variable {Γ : Gm} {ms : List Addr} {F F' : Hp}
mutual
theorem Has.mono {new : List Addr} (e : Same F F') : ∀ {v : V} {d : D}, Has Γ ms F v d → Has Γ (ms ++ new) F' v d
  | v, .non, h => h
  | v, .bl b, h => h
  | v, .int i, h => h
  | v, .str x, h => h
  | v, .ty n, h => h
  | v, .lst ds, ⟨a, xs, hv, hs, hl⟩ => ⟨a, xs, hv, e _ _ hs, HasL.mono e hl⟩
  | v, .tup ds, ⟨a, xs, hv, hs, hl⟩ => ⟨a, xs, hv, Tp.same e hs, HasL.mono e hl⟩
  | v, .dct ks ds, ⟨a, xs, hv, hs, hn, hl⟩ => ⟨a, xs, hv, e _ _ hs, hn, HasL.mono e hl⟩
  | v, .ins C ns ds, ⟨a, dx, xs, hv, hs, hn, hl⟩ => ⟨a, dx, xs, hv, e _ _ hs, hn, HasL.mono e hl⟩
  | v, .mut k, ⟨a, hv, hk⟩ => ⟨a, hv, getP hk⟩
  | v, .scr ns, ⟨a, hv, hk⟩ => ⟨a, hv, e.seq hk⟩
  | v, .exc C f msg d, ⟨a, t, dx, y, hv, h1, h2, h3, h4⟩ => ⟨a, t, dx, y, hv, e _ _ h1, e _ _ h2, e _ _ h3, Has.mono e h4⟩
  | v, .cls C, h => h
theorem HasL.mono {new : List Addr} (e : Same F F') : ∀ {vs : List V} {ds : List D}, HasL Γ ms F vs ds → HasL Γ (ms ++ new) F' vs ds
  | vs, [], h => h
  | vs, d :: ds, ⟨w, ws, hv, h1, h2⟩ => ⟨w, ws, hv, Has.mono e h1, HasL.mono e h2⟩
end
theorem HasL.length : ∀ {vs : List V} {ds : List D}, HasL Γ ms F vs ds → vs.length = ds.length
  | _, [], h => by cases h; rfl
  | _, d :: ds, ⟨w, ws, hv, h1, h2⟩ => by subst hv; simp [HasL.length h2]
theorem HasL.get : ∀ {vs : List V} {ds : List D} {i : Nat} {d : D}, HasL Γ ms F vs ds → ds[i]? = some d → ∃ v, vs[i]? = some v ∧ Has Γ ms F v d
  | _, [], i, d, h, e => by simp at e
  | _, d0 :: ds, 0, d, ⟨w, ws, hv, h1, h2⟩, e => by
    subst hv
    simp at e; subst e
    exact ⟨w, rfl, h1⟩
  | _, d0 :: ds, i + 1, d, ⟨w, ws, hv, h1, h2⟩, e => by
    subst hv
    obtain ⟨v, e1, e2⟩ := HasL.get (i := i) h2 (by simpa using e)
    exact ⟨v, by simpa using e1, e2⟩
theorem HasL.getV {vs : List V} {ds : List D} {i : Nat} {v : V} (h : HasL Γ ms F vs ds) (e : vs[i]? = some v) : ∃ d, ds[i]? = some d ∧ Has Γ ms F v d := by
  have h1 := (List.getElem?_eq_some_iff.mp e).1
  have h2 : i < ds.length := by rw [← h.length]; exact h1
  obtain ⟨v', e', q⟩ := h.get (i := i) (d := ds[i]) (List.getElem?_eq_getElem h2)
  rw [e] at e'; cases e'
  exact ⟨ds[i], List.getElem?_eq_getElem h2, q⟩
theorem HasL.append : ∀ {vs ws : List V} {ds es : List D}, HasL Γ ms F vs ds → HasL Γ ms F ws es → HasL Γ ms F (vs ++ ws) (ds ++ es)
  | _, ws, [], es, h, q => by cases h; exact q
  | _, ws, d :: ds, es, ⟨w, t, hv, h1, h2⟩, q => by subst hv; exact ⟨w, t ++ ws, rfl, h1, HasL.append h2 q⟩
theorem HasL.one {v : V} {d : D} (h : Has Γ ms F v d) : HasL Γ ms F [v] [d] := ⟨v, [], rfl, h, rfl⟩
theorem HasL.take : ∀ {vs : List V} {ds : List D} (n : Nat), HasL Γ ms F vs ds → HasL Γ ms F (vs.take n) (ds.take n)
  | vs, ds, 0, _ => by simp [HasL]
  | _, [], n + 1, h => by cases h; simp [HasL]
  | _, d :: ds, n + 1, ⟨w, t, hv, h1, h2⟩ => by subst hv; exact ⟨w, t.take n, by simp, h1, HasL.take n h2⟩
theorem HasL.drop : ∀ {vs : List V} {ds : List D} (n : Nat), HasL Γ ms F vs ds → HasL Γ ms F (vs.drop n) (ds.drop n)
  | vs, ds, 0, h => by simpa using h
  | _, [], n + 1, h => by cases h; simp [HasL]
  | _, d :: ds, n + 1, ⟨w, t, hv, h1, h2⟩ => by subst hv; exact HasL.drop n h2
theorem HasL.set {v : V} {d : D} (q : Has Γ ms F v d) : ∀ {vs : List V} {ds : List D} (n : Nat), HasL Γ ms F vs ds → HasL Γ ms F (vs.set n v) (ds.set n d)
  | _, [], n, h => by cases h; simp [HasL]
  | _, d :: ds, 0, ⟨w, t, hv, h1, h2⟩ => by subst hv; exact ⟨_, _, rfl, q, h2⟩
  | _, d :: ds, n + 1, ⟨w, t, hv, h1, h2⟩ => by subst hv; exact ⟨_, _, rfl, h1, HasL.set q n h2⟩
theorem HasL.rev : ∀ {vs : List V} {ds : List D}, HasL Γ ms F vs ds → HasL Γ ms F vs.reverse ds.reverse
  | _, [], h => by cases h; simp [HasL]
  | _, d :: ds, ⟨w, t, hv, h1, h2⟩ => by
    subst hv
    rw [List.reverse_cons, List.reverse_cons]
    exact (HasL.rev h2).append (HasL.one h1)
end

/-! ### mutable objects -/
inductive MO where
  | lst (xs : List D) | dct (ks : List Key) (xs : List D) | ins (C : Nat) (ns : List Str) (xs : List D) | dead
def MOk (Γ : Gm) (ms : List Addr) (F H : Hp) (a : Addr) : MO → Prop
  | .lst ds => ∃ xs, H a = some (.lst xs) ∧ HasL Γ ms F xs ds
  | .dct ks ds => ∃ xs, H a = some (.dK (ks.zip xs)) ∧ ks.length = xs.length ∧ HasL Γ ms F xs ds
  | .ins C ns ds => ∃ dx xs, H a = some (.ins (Γ.cl C) dx (ns.zip xs)) ∧ ns.length = xs.length ∧ HasL Γ ms F xs ds
  | .dead => ∃ o, H a = some o
theorem MOk.ex {Γ : Gm} {ms : List Addr} {F H : Hp} {a : Addr} : ∀ {o : MO}, MOk Γ ms F H a o → ∃ u, H a = some u
  | .lst _, ⟨_, h, _⟩ => ⟨_, h⟩
  | .dct _ _, ⟨_, h, _⟩ => ⟨_, h⟩
  | .ins _ _ _, ⟨_, _, h, _⟩ => ⟨_, h⟩
  | .dead, h => h
theorem MOk.mono {Γ : Gm} {ms new : List Addr} {F F' H H' : Hp} {a : Addr} (e : Same F F') (k : ∀ o, H a = some o → H' a = some o) : ∀ {o : MO}, MOk Γ ms F H a o → MOk Γ (ms ++ new) F' H' a o
  | .lst _, ⟨_, h, q⟩ => ⟨_, k _ h, q.mono e⟩
  | .dct _ _, ⟨_, h, n, q⟩ => ⟨_, k _ h, n, q.mono e⟩
  | .ins _ _ _, ⟨_, _, h, n, q⟩ => ⟨_, _, k _ h, n, q.mono e⟩
  | .dead, ⟨_, h⟩ => ⟨_, k _ h⟩
/-- the heap: what is frozen (F), and the mutable objects at ms -/
structure HR (Γ : Gm) (ms : List Addr) (F H : Hp) (μ : List MO) : Prop where
  sub : Same F H
  out : ∀ b ∈ ms, F b = none
  len : ms.length = μ.length
  nd : ms.Nodup
  obj : ∀ (k : Nat) (o : MO), μ[k]? = some o → ∃ a, ms[k]? = some a ∧ MOk Γ ms F H a o
theorem MOk.xp {K : PySem.W.Frag} {cl : Nat → Addr} {x y : Option (Addr × Obj)} {ms : List Addr} {F H : Hp} {a : Addr} : ∀ {o : MO}, MOk ⟨K, cl, x⟩ ms F H a o → MOk ⟨K, cl, y⟩ ms F H a o
  | .lst _, ⟨_, h, q⟩ => ⟨_, h, q.xp⟩
  | .dct _ _, ⟨_, h, n, q⟩ => ⟨_, h, n, q.xp⟩
  | .ins _ _ _, ⟨_, _, h, n, q⟩ => ⟨_, _, h, n, q.xp⟩
  | .dead, h => h
theorem HR.xp {K : PySem.W.Frag} {cl : Nat → Addr} {x y : Option (Addr × Obj)} {ms : List Addr} {F H : Hp} {μ : List MO} (h : HR ⟨K, cl, x⟩ ms F H μ) : HR ⟨K, cl, y⟩ ms F H μ :=
  ⟨h.sub, h.out, h.len, h.nd, fun k o e => let ⟨a, e1, m⟩ := h.obj k o e; ⟨a, e1, m.xp⟩⟩
structure Stp (ms ms' : List Addr) (F F' H H' : Hp) : Prop where
  new : ∃ new, ms' = ms ++ new ∧ ∀ b ∈ new, H b = none
  keep : ∀ b o, H b = some o → b ∉ ms → H' b = some o
  fsub : Same F F'
  fnew : ∀ b, F b = none → H b ≠ none → F' b = none
theorem Stp.refl (ms : List Addr) (F H : Hp) : Stp ms ms F F H H := ⟨⟨[], by simp, by simp⟩, fun _ _ h _ => h, Same.refl _, fun _ h _ => h⟩
theorem Stp.trans {m1 m2 m3 : List Addr} {F1 F2 F3 H1 H2 H3 : Hp} (a : Stp m1 m2 F1 F2 H1 H2) (b : Stp m2 m3 F2 F3 H2 H3) (live : ∀ b ∈ m1, H2 b ≠ none) : Stp m1 m3 F1 F3 H1 H3 := by
  obtain ⟨n1, e1, f1⟩ := a.new
  obtain ⟨n2, e2, f2⟩ := b.new
  subst e1; subst e2
  refine ⟨⟨n1 ++ n2, by simp, fun c hc => ?_⟩, fun c o h hn => ?_, a.fsub.trans b.fsub, fun c h hn => ?_⟩
  · rcases List.mem_append.mp hc with h | h
    · exact f1 c h
    · have q := f2 c h
      cases z : H1 c with
      | none => rfl
      | some o =>
        by_cases hm : c ∈ m1
        · exact absurd q (live c hm)
        · rw [a.keep c o z hm] at q; cases q
  · refine b.keep c o (a.keep c o h hn) fun z => ?_
    rcases List.mem_append.mp z with z | z
    · exact hn z
    · rw [f1 c z] at h; cases h
  · refine b.fnew c (a.fnew c h hn) ?_
    by_cases hm : c ∈ m1
    · exact live c hm
    · cases z : H1 c with
      | none => exact absurd z hn
      | some o => rw [a.keep c o z hm]; exact fun q => nomatch q
theorem HR.live {Γ : Gm} {ms : List Addr} {F H : Hp} {μ : List MO} (h : HR Γ ms F H μ) : ∀ b ∈ ms, H b ≠ none := by
  intro b hb
  obtain ⟨k, hk, e⟩ := List.getElem_of_mem hb
  have hk' : k < μ.length := by rw [← h.len]; exact hk
  obtain ⟨a, ea, m⟩ := h.obj k μ[k] (List.getElem?_eq_getElem hk')
  rw [List.getElem?_eq_getElem hk] at ea
  cases ea
  obtain ⟨u, hu⟩ := m.ex
  rw [← e, hu]
  exact fun q => nomatch q
/-- a new object, frozen at once -/
theorem HR.alloc {Γ : Gm} {ms : List Addr} {F H : Hp} {μ : List MO} {p : Addr} (h : HR Γ ms F H μ) (hp : H p = none) (o : HO) : HR Γ ms (upd F p o) (upd H p o) μ ∧ Stp ms ms F (upd F p o) H (upd H p o) := by
  have hF : F p = none := h.sub.free hp
  have sF : Same F (upd F p o) := fun b u e => by rw [upd_ne (ne_of_none e hF)]; exact e
  have sH : ∀ b u, H b = some u → upd H p o b = some u := fun b u e => by rw [upd_ne (ne_of_none e hp)]; exact e
  refine ⟨⟨fun b u e => ?_, fun b hb => ?_, h.len, h.nd, fun k u e => ?_⟩, ⟨⟨[], by simp, by simp⟩, fun b u e _ => sH b u e, sF, fun b e hn => ?_⟩⟩
  · by_cases hb : b = p
    · subst hb; rw [upd_same] at e ⊢; exact e
    · rw [upd_ne hb] at e ⊢; exact h.sub b u e
  · have hne : b ≠ p := fun z => h.live b hb (by rw [z]; exact hp)
    rw [upd_ne hne]; exact h.out b hb
  · obtain ⟨a, ea, m⟩ := h.obj k u e
    have m' := m.mono (new := []) sF (sH a)
    rw [List.append_nil] at m'
    exact ⟨a, ea, m'⟩
  · have hne : b ≠ p := fun z => hn (by rw [z]; exact hp)
    rw [upd_ne hne]; exact e
/-- a new object, mutable -/
theorem HR.push {Γ : Gm} {ms : List Addr} {F H : Hp} {μ : List MO} {p : Addr} (h : HR Γ ms F H μ) (hp : H p = none) {o : HO} {u : MO} (m : MOk Γ (ms ++ [p]) F (upd H p o) p u) :
    HR Γ (ms ++ [p]) F (upd H p o) (μ ++ [u]) ∧ Stp ms (ms ++ [p]) F F H (upd H p o) := by
  have hF : F p = none := h.sub.free hp
  have sH : ∀ b u, H b = some u → upd H p o b = some u := fun b u e => by rw [upd_ne (ne_of_none e hp)]; exact e
  refine ⟨⟨fun b u e => sH b u (h.sub b u e), fun b hb => ?_, by simp [h.len], ?_, fun k u' e => ?_⟩, ⟨⟨[p], rfl, fun b hb => by simp at hb; subst hb; exact hp⟩, fun b u e _ => sH b u e, Same.refl _, fun b e _ => e⟩⟩
  · rcases List.mem_append.mp hb with hb | hb
    · exact h.out b hb
    · simp at hb; subst hb; exact hF
  · refine List.nodup_append.mpr ⟨h.nd, by simp, fun b hb c hc => ?_⟩
    simp at hc; subst hc
    intro z; subst z
    exact h.live _ hb hp
  · by_cases hk : k < μ.length
    · rw [List.getElem?_append_left hk] at e
      obtain ⟨a, ea, m'⟩ := h.obj k u' e
      exact ⟨a, getP ea, m'.mono (Same.refl _) (sH a)⟩
    · have hk2 := (List.getElem?_eq_some_iff.mp e).1
      simp at hk2
      have : k = μ.length := by omega
      subst this
      simp at e; subst e
      refine ⟨p, ?_, m⟩
      rw [← h.len]; simp
/-- a mutable object changes -/
theorem HR.write {Γ : Gm} {ms : List Addr} {F H : Hp} {μ : List MO} {k : Nat} {a : Addr} (h : HR Γ ms F H μ) (ha : ms[k]? = some a) {o : HO} {u : MO} (m : MOk Γ ms F (upd H a o) a u) :
    HR Γ ms F (upd H a o) (μ.set k u) ∧ Stp ms ms F F H (upd H a o) := by
  have hm : a ∈ ms := List.mem_of_getElem? ha
  refine ⟨⟨fun b u e => ?_, h.out, by simp [h.len], h.nd, fun j u' e => ?_⟩, ⟨⟨[], by simp, by simp⟩, fun b u e hn => ?_, Same.refl _, fun b e _ => e⟩⟩
  · have hne : b ≠ a := fun z => by rw [z, h.out a hm] at e; cases e
    rw [upd_ne hne]; exact h.sub b u e
  · by_cases hj : j = k
    · subst hj
      have hk : j < μ.length := by rw [← h.len]; exact (List.getElem?_eq_some_iff.mp ha).1
      rw [List.getElem?_set_self hk] at e; cases e
      exact ⟨a, ha, m⟩
    · rw [List.getElem?_set_ne (Ne.symm hj)] at e
      obtain ⟨b, eb, m'⟩ := h.obj j u' e
      have hne : b ≠ a := fun z => by subst z; exact hj (nodup_ix' h.nd eb ha)
      have m2 := m'.mono (new := []) (H' := upd H a o) (Same.refl F) (fun o' q => by rw [upd_ne hne]; exact q)
      rw [List.append_nil] at m2
      exact ⟨b, eb, m2⟩
  · have hne : b ≠ a := fun z => hn (z ▸ hm)
    rw [upd_ne hne]; exact e
where nodup_ix' {ms : List Addr} (hN : ms.Nodup) {i j : Nat} {x : Addr} (a : ms[i]? = some x) (b : ms[j]? = some x) : i = j := nd_ix hN a b
end G

set_option Elab.async false
set_option linter.all false
set_option autoImplicit false
set_option maxRecDepth 100000
set_option maxHeartbeats 2000000
namespace G
open PySem PySem.Spec L2

/-! ### the def's own names -/
inductive SV where
  | no | d (x : D) | own (xs : List D) | xv (C : Nat) (f : Str) (x : D)
def SOk (Γ : Gm) (H0 : Hp) (ms : List Addr) (F H : Hp) (v : Option (Option V)) : SV → Prop
  | .no => True
  | .d x => ∃ u, v = some (some u) ∧ Has Γ ms F u x
  | .own ds => ∃ a xs, v = some (some (.ref a)) ∧ H a = some (.lst xs) ∧ HasL Γ ms F xs ds ∧ F a = none ∧ a ∉ ms ∧ H0 a = none
  | .xv C f x => ∃ a oe dx y, Γ.xp = some (a, oe) ∧ v = some (some (.ref a)) ∧ (Zc (.ref (Γ.cl C)) (some dx) oe ∧ ∃ vs, oe.data = .fields vs) ∧ F dx = some (exd dx [(f, y)]) ∧ Has Γ ms F y x
structure ER (Γ : Gm) (H0 : Hp) (ms : List Addr) (F H : Hp) (σ : St) (δ : List SV) : Prop where
  len : σ.length = δ.length
  ok : ∀ (i : Nat) (sv : SV), δ[i]? = some sv → SOk Γ H0 ms F H σ[i]? sv
  inj : ∀ (i j : Nat) (a : Addr) (ds es : List D), δ[i]? = some (.own ds) → δ[j]? = some (.own es) → σ[i]? = some (some (.ref a)) → σ[j]? = some (some (.ref a)) → i = j
structure Og where
  ms : List Addr
  F : Hp
  H : Hp
structure SR (Γ : Gm) (O : Og) (ms : List Addr) (F H : Hp) (σ : St) (δ : List SV) (μ : List MO) : Prop where
  hr : HR Γ ms F H μ
  er : ER Γ O.H ms F H σ δ
  st : Stp O.ms ms O.F F O.H H
section
variable {Γ : Gm} {O : Og} {ms ms' : List Addr} {F F' H H' H0 : Hp} {σ : St} {δ : List SV} {μ μ' : List MO}
theorem SOk.step {v : Option (Option V)} (s : Stp ms ms' F F' H H') : ∀ {sv : SV}, SOk Γ H0 ms F H v sv → SOk Γ H0 ms' F' H' v sv := by
  obtain ⟨new, rfl, fr⟩ := s.new
  intro sv h
  cases sv with
  | no => trivial
  | d x => obtain ⟨u, e, q⟩ := h; exact ⟨u, e, q.mono s.fsub⟩
  | xv C f x => obtain ⟨a, oe, dx, y, e1, e2, e3, e4, q⟩ := h; exact ⟨a, oe, dx, y, e1, e2, e3, s.fsub _ _ e4, q.mono s.fsub⟩
  | own ds =>
    obtain ⟨a, xs, e, ha, hl, hF, hm, h0⟩ := h
    have hn : a ∉ ms ++ new := fun z => by
      rcases List.mem_append.mp z with z | z
      · exact hm z
      · rw [fr a z] at ha; cases ha
    exact ⟨a, xs, e, s.keep a _ ha hm, hl.mono s.fsub, s.fnew a hF (by rw [ha]; exact fun q => nomatch q), hn, h0⟩
theorem ER.step (s : Stp ms ms' F F' H H') (h : ER Γ H0 ms F H σ δ) : ER Γ H0 ms' F' H' σ δ := ⟨h.len, fun i sv e => (h.ok i sv e).step s, h.inj⟩
theorem SR.step (h : SR Γ O ms F H σ δ μ) (r : HR Γ ms' F' H' μ') (s : Stp ms ms' F F' H H') : SR Γ O ms' F' H' σ δ μ' := by
  refine ⟨r, h.er.step s, h.st.trans s fun b hb => ?_⟩
  obtain ⟨new, e, _⟩ := h.st.new
  exact h.hr.live b (by rw [e]; exact List.mem_append_left _ hb)
theorem Has.step {v : V} {d : D} (h : Has Γ ms F v d) (s : Stp ms ms' F F' H H') : Has Γ ms' F' v d := by
  obtain ⟨new, rfl, fr⟩ := s.new
  exact h.mono s.fsub
theorem HasL.step {vs : List V} {ds : List D} (h : HasL Γ ms F vs ds) (s : Stp ms ms' F F' H H') : HasL Γ ms' F' vs ds := by
  obtain ⟨new, rfl, fr⟩ := s.new
  exact h.mono s.fsub
theorem Stp.trans' (a : Stp ms ms' F F' H H') {ms2 : List Addr} {F2 H2 : Hp} {μ1 : List MO} (r : HR Γ ms' F' H' μ1) (b : Stp ms' ms2 F' F2 H' H2) : Stp ms ms2 F F2 H H2 :=
  a.trans b fun c hc => r.live c (by obtain ⟨new, e, _⟩ := a.new; rw [e]; exact List.mem_append_left _ hc)
end

/-! ### expressions -/
abbrev EF := List SV → List MO → Option (D × List MO)
abbrev TF := List SV → List MO → Option (Bool × List MO)
abbrev AF := List SV → List MO → Option (List D × List MO)
/-- behind an expression -/
def Fin1 (Γ : Gm) (ms : List Addr) (F H : Hp) (d : D) (μ' : List MO) (Q : VK) : Prop :=
  ∀ v H' ms' F', HR Γ ms' F' H' μ' → Stp ms ms' F F' H H' → Has Γ ms' F' v d → Q v H'
def tE (Γ : Gm) (f : EF) : TE := fun σ H Q => ∃ O ms F δ μ d μ', SR Γ O ms F H σ δ μ ∧ f δ μ = some (d, μ') ∧ Fin1 Γ ms F H d μ' Q
def tT (Γ : Gm) (f : TF) : TT := fun σ H Q => ∃ O ms F δ μ d μ', SR Γ O ms F H σ δ μ ∧ f δ μ = some (d, μ') ∧
  ∀ H' ms' F', HR Γ ms' F' H' μ' → Stp ms ms' F F' H H' → Q d H'
def tA (Γ : Gm) (f : AF) : TA := fun σ H Q => ∃ O ms F δ μ d μ', SR Γ O ms F H σ δ μ ∧ f δ μ = some (d, μ') ∧
  ∀ vs H' ms' F', HR Γ ms' F' H' μ' → Stp ms ms' F F' H H' → HasL Γ ms' F' vs d → Q vs H'
/-- a list or a tuple, as it stands just now -/
inductive SK where
  | l | t
def SeqV (K : PySem.W.Frag) (H : Hp) (a : Addr) : SK → List V → Prop
  | .l, xs => H a = some (.lst xs)
  | .t, xs => Tp K H a xs
abbrev SF := List SV → List MO → Option ((SK × List D) × List MO)
def tQ (Γ : Gm) (f : SF) : TE := fun σ H Q => ∃ O ms F δ μ d μ', SR Γ O ms F H σ δ μ ∧ f δ μ = some (d, μ') ∧
  ∀ a xs H' ms' F', HR Γ ms' F' H' μ' → Stp ms ms' F F' H H' → SeqV Γ.K H' a d.1 xs → HasL Γ ms' F' xs d.2 → Q (.ref a) H'
abbrev gk (K : PySem.W.Frag) (cl : Nat → Addr) : Gm := ⟨K, cl, none⟩
abbrev gm (X : Cx) (cl : Nat → Addr) : Gm := ⟨X.K, cl, bif X.calm then none else X.pn.head?⟩
structure DE (X : Cx) (cl : Nat → Addr) (e : Expr) (f : EF) : Prop where
  p : PE X e (tE (gm X cl) f)
structure DT (X : Cx) (cl : Nat → Addr) (e : Expr) (f : TF) : Prop where
  p : PT X e (tT (gm X cl) f)
structure DW (X : Cx) (cl : Nat → Addr) (e : Expr) (f : TF) : Prop where
  p : PW X e (tT (gm X cl) f)
structure DA (X : Cx) (cl : Nat → Addr) (es : List Expr) (f : AF) : Prop where
  p : PA X es (tA (gm X cl) f)
structure DQ (X : Cx) (cl : Nat → Addr) (e : Expr) (f : SF) : Prop where
  p : PE X e (tQ (gm X cl) f)
section
variable {X : Cx} {cl : Nat → Addr} {e a b c : Expr} {es : List Expr} {fa fb fc : EF} {pos : Pos}
theorem _root_.L2.PE.weak {t t' : TE} (h : PE X e t) (k : ∀ σ H Q, t' σ H Q → t σ H Q) : PE X e t' := ⟨fun pins s σ H Q I q => h.run pins s σ H Q I (k σ H Q q)⟩
theorem _root_.L2.PT.weak {t t' : TT} (h : PT X e t) (k : ∀ σ H Q, t' σ H Q → t σ H Q) : PT X e t' := ⟨fun pins s σ H Q I q => h.run pins s σ H Q I (k σ H Q q)⟩
theorem _root_.L2.PW.weak {t t' : TT} (h : PW X e t) (k : ∀ σ H Q, t' σ H Q → t σ H Q) : PW X e t' := ⟨fun w pins s σ H Q I q => h.run w pins s σ H Q I (k σ H Q q)⟩
theorem _root_.L2.PA.weak {t t' : TA} (h : PA X es t) (k : ∀ σ H Q, t' σ H Q → t σ H Q) : PA X es t' := ⟨fun pos pins s σ H Q I q => h.run pos pins s σ H Q I (k σ H Q q)⟩
def eVar (i : Nat) : EF := fun δ μ => match δ[i]? with
  | some (.d x) => some (x, μ)
  | _ => none
theorem de_var {i : Nat} (h : PE X e (tVar i)) : DE X cl e (eVar i) := ⟨h.weak fun σ H Q ⟨O, ms, F, δ, μ, d, μ', R, ev, k⟩ => by
  unfold eVar at ev
  cases hd : δ[i]? with
  | none => rw [hd] at ev; cases ev
  | some sv =>
    rw [hd] at ev
    cases sv with
    | no => cases ev
    | own _ => cases ev
    | xv _ _ _ => cases ev
    | d x =>
      cases ev
      obtain ⟨u, eu, q⟩ := R.er.ok i _ hd
      exact ⟨u, eu, k u H ms F R.hr (Stp.refl _ _ _) q⟩⟩
def eC (d : D) : EF := fun _ μ => some (d, μ)
theorem de_c {v : V} {d : D} (h : PE X e (tC v)) (q : ∀ ms F, Has (gm X cl) ms F v d) : DE X cl e (eC d) := ⟨h.weak fun σ H Q ⟨O, ms, F, δ, μ, d', μ', R, ev, k⟩ => by
  cases ev
  exact k v H ms F R.hr (Stp.refl _ _ _) (q ms F)⟩
theorem de_int {i j pos} : DE X cl (.Constant (.int i) j pos) (eC (.int i)) := de_c pe_int fun _ _ => rfl
theorem de_bl {i j pos} : DE X cl (.Constant (.bool i) j pos) (eC (.bl i)) := de_c pe_bl fun _ _ => rfl
theorem de_non {j pos} : DE X cl (.Constant .none j pos) (eC .non) := de_c pe_non fun _ _ => rfl
theorem de_str {x j pos} : DE X cl (.Constant (.str x) j pos) (eC (.str x)) := de_c pe_str fun _ _ => rfl
/-- in a row -/
def eThen (fa : EF) {β : Type} (k : D → List SV → List MO → Option (β × List MO)) : List SV → List MO → Option (β × List MO) := fun δ μ => match fa δ μ with
  | some (d, μ1) => k d δ μ1
  | none => none
theorem eThen_some {β : Type} {k : D → List SV → List MO → Option (β × List MO)} {δ : List SV} {μ : List MO} {r : β × List MO} (h : eThen fa k δ μ = some r) : ∃ d μ1, fa δ μ = some (d, μ1) ∧ k d δ μ1 = some r := by
  unfold eThen at h
  split at h
  · exact ⟨_, _, by assumption, h⟩
  · cases h
theorem tE.seq {Γ : Gm} {O : Og} {ms : List Addr} {F H : Hp} {σ : St} {δ : List SV} {μ μ1 : List MO} {d : D} {Q : VK} (R : SR Γ O ms F H σ δ μ) (e : fa δ μ = some (d, μ1))
    (k : ∀ v H1 ms1 F1, SR Γ O ms1 F1 H1 σ δ μ1 → Stp ms ms1 F F1 H H1 → Has Γ ms1 F1 v d → Q v H1) : tE Γ fa σ H Q :=
  ⟨O, ms, F, δ, μ, d, μ1, R, e, fun v H1 ms1 F1 r s q => k v H1 ms1 F1 (R.step r s) s q⟩
/-- the operator's own rules, one or the other by the values -/
theorem _root_.L2.OpR.any {f : Value → Value → Sem Value} : OpR X f (fun x y H Q => ∃ r, OpR X f r ∧ r x y H Q) := by
  intro pins s σ H x y v u Q I rx ry ⟨r, ho, h⟩
  exact ho pins s σ H x y v u Q I rx ry h
def OpD (X : Cx) (cl : Nat → Addr) (f : Value → Value → Sem Value) (g : D → D → List MO → Option (D × List MO)) : Prop :=
  ∀ ms F H μ x y dx dy d μ' Q, HR (gm X cl) ms F H μ → Has (gm X cl) ms F x dx → Has (gm X cl) ms F y dy → g dx dy μ = some (d, μ') → Fin1 (gm X cl) ms F H d μ' Q → ∃ r, OpR X f r ∧ r x y H Q
def eBin (g : D → D → List MO → Option (D × List MO)) (fa fb : EF) : EF := eThen fa fun x => eThen fb fun y _ μ => g x y μ
theorem opD_run {f : Value → Value → Sem Value} {g : D → D → List MO → Option (D × List MO)} (ho : OpD X cl f g) {σ : St} {H : Hp} {Q : VK} (h : tE (gm X cl) (eBin g fa fb) σ H Q) : tOp (fun x y H Q => ∃ r, OpR X f r ∧ r x y H Q) (tE (gm X cl) fa) (tE (gm X cl) fb) σ H Q := by
  obtain ⟨O, ms, F, δ, μ, d, μ', R, ev, k⟩ := h
  obtain ⟨dx, μ1, e1, ev⟩ := eThen_some ev
  obtain ⟨dy, μ2, e2, ev⟩ := eThen_some ev
  refine tE.seq R e1 fun x H1 ms1 F1 R1 s1 q1 => tE.seq R1 e2 fun y H2 ms2 F2 R2 s2 q2 => ?_
  exact ho ms2 F2 H2 μ2 x y dx dy d μ' Q R2.hr (q1.step s2) q2 ev fun v H' ms' F' r s q => k v H' ms' F' r ((s1.trans' R1.hr s2).trans' R2.hr s) q
theorem de_bin {op : Operator} {g : D → D → List MO → Option (D × List MO)} (ho : OpD X cl (binaryOp op) g) (ha : DE X cl a fa) (hb : DE X cl b fb) : DE X cl (.BinOp a op b pos) (eBin g fa fb) :=
  ⟨(pe_op OpR.any ha.p hb.p).weak fun σ H Q h => opD_run ho h⟩
theorem de_cmp {op : CmpOp} {g : D → D → List MO → Option (D × List MO)} (ho : OpD X cl (compareOp op) g) (ha : DE X cl a fa) (hb : DE X cl b fb) (hm : behindInMarks op b = false := by first | exact nomark _ | rfl) : DE X cl (.Compare a [op] [b] pos) (eBin g fa fb) :=
  ⟨(pe_cmpR OpR.any ha.p hb.p hm).weak fun σ H Q h => opD_run ho h⟩
/-- a test -/
def asB (f : EF) : TF := fun δ μ => match f δ μ with
  | some (.bl b, μ1) => some (b, μ1)
  | _ => none
theorem asB_some {f : EF} {δ : List SV} {μ : List MO} {b : Bool} {μ1 : List MO} (h : asB f δ μ = some (b, μ1)) : f δ μ = some (.bl b, μ1) := by
  unfold asB at h
  split at h
  · cases h; assumption
  · cases h
theorem dt_cmp {op : CmpOp} {g : D → D → List MO → Option (D × List MO)} (ho : OpD X cl (compareOp op) g) (ha : DE X cl a fa) (hb : DE X cl b fb) (hm : behindInMarks op b = false := by first | exact nomark _ | rfl) : DT X cl (.Compare a [op] [b] pos) (asB (eBin g fa fb)) :=
  ⟨(pt_cmpR OpR.any ha.p hb.p hm).weak fun σ H Q ⟨O, ms, F, δ, μ, d, μ', R, ev, k⟩ =>
    opD_run ho ⟨O, ms, F, δ, μ, .bl d, μ', R, asB_some ev, fun v H' ms' F' r s q => ⟨d, q, k H' ms' F' r s⟩⟩⟩
theorem dt_val {f : EF} (h : DE X cl e f) (he : ∀ whole, isTrue e X.env whole = (do let v ← whole; standAt e.pos; holding [v] (truthy v)) := by intro _; rfl) : DT X cl e (asB f) :=
  ⟨(pt_val h.p he).weak fun σ H Q ⟨O, ms, F, δ, μ, d, μ', R, ev, k⟩ => ⟨O, ms, F, δ, μ, .bl d, μ', R, asB_some ev, fun v H' ms' F' r s q => ⟨d, q, k H' ms' F' r s⟩⟩⟩
def tThen (fa : TF) {β : Type} (k : Bool → List SV → List MO → Option (β × List MO)) : List SV → List MO → Option (β × List MO) := fun δ μ => match fa δ μ with
  | some (d, μ1) => k d δ μ1
  | none => none
theorem tThen_some {fa : TF} {β : Type} {k : Bool → List SV → List MO → Option (β × List MO)} {δ : List SV} {μ : List MO} {r : β × List MO} (h : tThen fa k δ μ = some r) : ∃ d μ1, fa δ μ = some (d, μ1) ∧ k d δ μ1 = some r := by
  unfold tThen at h
  split at h
  · exact ⟨_, _, by assumption, h⟩
  · cases h
theorem tT.seq {fa : TF} {Γ : Gm} {O : Og} {ms : List Addr} {F H : Hp} {σ : St} {δ : List SV} {μ μ1 : List MO} {d : Bool} {Q : Bool → Hp → Prop} (R : SR Γ O ms F H σ δ μ) (e : fa δ μ = some (d, μ1))
    (k : ∀ H1 ms1 F1, SR Γ O ms1 F1 H1 σ δ μ1 → Stp ms ms1 F F1 H H1 → Q d H1) : tT Γ fa σ H Q :=
  ⟨O, ms, F, δ, μ, d, μ1, R, e, fun H1 ms1 F1 r s => k H1 ms1 F1 (R.step r s) s⟩
def tfNot (f : TF) : TF := tThen f fun b _ μ => some (!b, μ)
def tfAnd (f g : TF) : TF := tThen f fun b δ μ => if b = true then g δ μ else some (false, μ)
def tfOr (f g : TF) : TF := tThen f fun b δ μ => if b = true then some (true, μ) else g δ μ
variable {ta tb : TF} {rest : List Expr}
theorem dt_not (ha : DT X cl a ta) : DT X cl (.UnaryOp .Not a pos) (tfNot ta) := ⟨(pt_not ha.p).weak fun σ H Q ⟨O, ms, F, δ, μ, d, μ', R, ev, k⟩ => by
  obtain ⟨d1, μ1, e1, ev⟩ := tThen_some ev
  cases ev
  exact tT.seq R e1 fun H1 ms1 F1 R1 s1 => k H1 ms1 F1 R1.hr s1⟩
theorem dw_and1 (ha : DT X cl a ta) : DW X cl (.BoolOp .And [a] pos) ta := ⟨pw_and1 ha.p⟩
theorem dw_or1 (ha : DT X cl a ta) : DW X cl (.BoolOp .Or [a] pos) ta := ⟨pw_or1 ha.p⟩
theorem dw_and (ha : DT X cl a ta) (hb : DW X cl (.BoolOp .And (b :: rest) pos) tb) : DW X cl (.BoolOp .And (a :: b :: rest) pos) (tfAnd ta tb) := ⟨(pw_and ha.p hb.p).weak fun σ H Q ⟨O, ms, F, δ, μ, d, μ', R, ev, k⟩ => by
  obtain ⟨d1, μ1, e1, ev⟩ := tThen_some ev
  refine tT.seq R e1 fun H1 ms1 F1 R1 s1 => ?_
  cases d1 with
  | false => cases ev; exact k H1 ms1 F1 R1.hr s1
  | true => exact tT.seq R1 ev fun H2 ms2 F2 R2 s2 => k H2 ms2 F2 R2.hr (s1.trans' R1.hr s2)⟩
theorem dw_or (ha : DT X cl a ta) (hb : DW X cl (.BoolOp .Or (b :: rest) pos) tb) : DW X cl (.BoolOp .Or (a :: b :: rest) pos) (tfOr ta tb) := ⟨(pw_or ha.p hb.p).weak fun σ H Q ⟨O, ms, F, δ, μ, d, μ', R, ev, k⟩ => by
  obtain ⟨d1, μ1, e1, ev⟩ := tThen_some ev
  refine tT.seq R e1 fun H1 ms1 F1 R1 s1 => ?_
  cases d1 with
  | true => cases ev; exact k H1 ms1 F1 R1.hr s1
  | false => exact tT.seq R1 ev fun H2 ms2 F2 R2 s2 => k H2 ms2 F2 R2.hr (s1.trans' R1.hr s2)⟩
theorem dt_w (h : DW X cl a ta) : DT X cl a ta := ⟨h.p.pt⟩
def eIf (t : TF) (fa fb : EF) : EF := tThen t fun c δ μ => if c = true then fa δ μ else fb δ μ
theorem de_if (hc : DT X cl c ta) (ha : DE X cl a fa) (hb : DE X cl b fb) : DE X cl (.IfExp c a b pos) (eIf ta fa fb) := ⟨(pe_ifExp hc.p ha.p hb.p).weak fun σ H Q ⟨O, ms, F, δ, μ, d, μ', R, ev, k⟩ => by
  obtain ⟨d1, μ1, e1, ev⟩ := tThen_some ev
  refine tT.seq R e1 fun H1 ms1 F1 R1 s1 => ?_
  cases d1 with
  | true => exact tE.seq R1 ev fun v H2 ms2 F2 R2 s2 q => k v H2 ms2 F2 R2.hr (s1.trans' R1.hr s2) q
  | false => exact tE.seq R1 ev fun v H2 ms2 F2 R2 s2 q => k v H2 ms2 F2 R2.hr (s1.trans' R1.hr s2) q⟩
/-- a boolean and, or as a value: all but the last are truths -/
def eAndV (fa fb : EF) : EF := eThen fa fun x δ μ => match x with
  | .bl true => fb δ μ
  | .bl false => some (.bl false, μ)
  | _ => none
def eOrV (fa fb : EF) : EF := eThen fa fun x δ μ => match x with
  | .bl false => fb δ μ
  | .bl true => some (.bl true, μ)
  | _ => none
def eNotV (fa : EF) : EF := eThen fa fun x _ μ => match x with
  | .bl b => some (.bl (!b), μ)
  | _ => none
theorem de_one {op} (h : DE X cl a fa) : DE X cl (.BoolOp op [a] pos) fa := ⟨pe_one h.p⟩
theorem de_and (ha : DE X cl a fa) (hb : DE X cl (.BoolOp .And (b :: rest) pos) fb) : DE X cl (.BoolOp .And (a :: b :: rest) pos) (eAndV fa fb) := ⟨(pe_and ha.p hb.p).weak fun σ H Q ⟨O, ms, F, δ, μ, d, μ', R, ev, k⟩ => by
  obtain ⟨d1, μ1, e1, ev⟩ := eThen_some ev
  refine tE.seq R e1 fun v H1 ms1 F1 R1 s1 q1 => ?_
  split at ev
  · exact ⟨true, q1, by rw [if_pos rfl]; exact tE.seq R1 ev fun v H2 ms2 F2 R2 s2 q => k v H2 ms2 F2 R2.hr (s1.trans' R1.hr s2) q⟩
  · cases ev; exact ⟨false, q1, by rw [if_neg Bool.false_ne_true]; exact k _ H1 ms1 F1 R1.hr s1 rfl⟩
  · cases ev⟩
theorem de_or (ha : DE X cl a fa) (hb : DE X cl (.BoolOp .Or (b :: rest) pos) fb) : DE X cl (.BoolOp .Or (a :: b :: rest) pos) (eOrV fa fb) := ⟨(pe_or ha.p hb.p).weak fun σ H Q ⟨O, ms, F, δ, μ, d, μ', R, ev, k⟩ => by
  obtain ⟨d1, μ1, e1, ev⟩ := eThen_some ev
  refine tE.seq R e1 fun v H1 ms1 F1 R1 s1 q1 => ?_
  split at ev
  · exact ⟨false, q1, by rw [if_neg Bool.false_ne_true]; exact tE.seq R1 ev fun v H2 ms2 F2 R2 s2 q => k v H2 ms2 F2 R2.hr (s1.trans' R1.hr s2) q⟩
  · cases ev; exact ⟨true, q1, by rw [if_pos rfl]; exact k _ H1 ms1 F1 R1.hr s1 rfl⟩
  · cases ev⟩
theorem de_not (ha : DE X cl a fa) : DE X cl (.UnaryOp .Not a pos) (eNotV fa) := ⟨(pe_not ha.p).weak fun σ H Q ⟨O, ms, F, δ, μ, d, μ', R, ev, k⟩ => by
  obtain ⟨d1, μ1, e1, ev⟩ := eThen_some ev
  refine tE.seq R e1 fun v H1 ms1 F1 R1 s1 q1 => ?_
  split at ev
  · cases ev; exact ⟨_, q1, k _ H1 ms1 F1 R1.hr s1 rfl⟩
  · cases ev⟩

/-! ### argument lists, displays -/
def aNil : AF := fun _ μ => some ([], μ)
def aCons (f : EF) (r : AF) : AF := eThen f fun x δ μ => match r δ μ with
  | some (xs, μ1) => some (x :: xs, μ1)
  | none => none
variable {r : AF} {f : EF}
theorem da_nil : DA X cl [] aNil := ⟨pa_nil.weak fun σ H Q ⟨O, ms, F, δ, μ, d, μ', R, ev, k⟩ => by cases ev; exact k [] H ms F R.hr (Stp.refl _ _ _) rfl⟩
theorem da_cons (ha : DE X cl e f) (hr : DA X cl es r) (hs : starEach (e :: es) X.env = (false, eval e X.env) :: starEach es X.env := by rfl) : DA X cl (e :: es) (aCons f r) := ⟨(pa_cons ha.p hr.p hs).weak fun σ H Q ⟨O, ms, F, δ, μ, d, μ', R, ev, k⟩ => by
  obtain ⟨d1, μ1, e1, ev⟩ := eThen_some ev
  refine tE.seq R e1 fun v H1 ms1 F1 R1 s1 q1 => ?_
  split at ev
  · rename_i xs μ2 e2
    cases ev
    exact ⟨O, ms1, F1, δ, μ1, xs, _, R1, e2, fun vs H2 ms2 F2 r2 s2 q2 => k (v :: vs) H2 ms2 F2 r2 (s1.trans' R1.hr s2) ⟨v, vs, rfl, q1.step s2, q2⟩⟩
  · cases ev⟩
theorem Fin1.lst {Γ : Gm} {ms : List Addr} {F H : Hp} {ds : List D} {μ : List MO} {Q : VK} {vs : List V} {p : Addr} (h : Fin1 Γ ms F H (.lst ds) μ Q) (r : HR Γ ms F H μ) (q : HasL Γ ms F vs ds) (hp : H p = none) : Q (.ref p) (upd H p (.lst vs)) := by
  obtain ⟨r', s⟩ := r.alloc hp (.lst vs)
  exact h _ _ ms _ r' s ⟨p, vs, rfl, upd_same, q.step s⟩
theorem Fin1.tup {Γ : Gm} {ms : List Addr} {F H : Hp} {ds : List D} {μ : List MO} {Q : VK} {vs : List V} {p : Addr} (h : Fin1 Γ ms F H (.tup ds) μ Q) (r : HR Γ ms F H μ) (q : HasL Γ ms F vs ds) (hp : H p = none) : Q (.ref p) (upd H p (.tup vs)) := by
  obtain ⟨r', s⟩ := r.alloc hp (.tup vs)
  exact h _ _ ms _ r' s ⟨p, vs, rfl, Tp.of upd_same, q.step s⟩
/-- a list that may change -/
theorem Fin1.mut {Γ : Gm} {ms : List Addr} {F H : Hp} {ds : List D} {μ : List MO} {Q : VK} {vs : List V} {p : Addr} (h : Fin1 Γ ms F H (.mut μ.length) (μ ++ [.lst ds]) Q) (r : HR Γ ms F H μ) (q : HasL Γ ms F vs ds) (hp : H p = none) : Q (.ref p) (upd H p (.lst vs)) := by
  obtain ⟨r', s⟩ := r.push (u := .lst ds) hp ⟨vs, upd_same, q.mono (Same.refl _)⟩
  exact h _ _ _ _ r' s ⟨p, rfl, by rw [← r.len]; simp⟩
def eLst (r : AF) : EF := fun δ μ => match r δ μ with
  | some (xs, μ1) => if xs.length ≤ 1000000 then some (.lst xs, μ1) else none
  | none => none
def eTup (r : AF) : EF := fun δ μ => match r δ μ with
  | some (xs, μ1) => if xs.length ≤ 1000000 then some (.tup xs, μ1) else none
  | none => none
def eLstM (r : AF) : EF := fun δ μ => match r δ μ with
  | some (xs, μ1) => if xs.length ≤ 1000000 then some (.mut μ1.length, μ1 ++ [.lst xs]) else none
  | none => none
theorem million {n : Nat} (h : n ≤ 1000000) : n ≤ sizeLine := by rw [sizeLine_eq]; omega
theorem de_lst (h : DA X cl es r) : DE X cl (.List es pos) (eLst r) := ⟨(pe_lst h.p).weak fun σ H Q ⟨O, ms, F, δ, μ, d, μ', R, ev, k⟩ => by
  unfold eLst at ev
  split at ev
  · rename_i xs μ1 e1
    split at ev
    · rename_i hz
      cases ev
      refine ⟨O, ms, F, δ, μ, xs, _, R, e1, fun vs H1 ms1 F1 r1 s1 q1 => ⟨by rw [q1.length]; exact million hz, fun p hp => ?_⟩⟩
      exact Fin1.lst (fun v H' ms' F' r s q => k v H' ms' F' r (s1.trans' r1 s) q) r1 q1 hp
    · cases ev
  · cases ev⟩
theorem de_lstM (h : DA X cl es r) : DE X cl (.List es pos) (eLstM r) := ⟨(pe_lst h.p).weak fun σ H Q ⟨O, ms, F, δ, μ, d, μ', R, ev, k⟩ => by
  unfold eLstM at ev
  split at ev
  · rename_i xs μ1 e1
    split at ev
    · rename_i hz
      cases ev
      refine ⟨O, ms, F, δ, μ, xs, _, R, e1, fun vs H1 ms1 F1 r1 s1 q1 => ⟨by rw [q1.length]; exact million hz, fun p hp => ?_⟩⟩
      exact Fin1.mut (fun v H' ms' F' r s q => k v H' ms' F' r (s1.trans' r1 s) q) r1 q1 hp
    · cases ev
  · cases ev⟩
theorem de_tup {x1} (h : DA X cl es r) : DE X cl (.Tuple es x1 pos) (eTup r) := ⟨(pe_tup h.p).weak fun σ H Q ⟨O, ms, F, δ, μ, d, μ', R, ev, k⟩ => by
  unfold eTup at ev
  split at ev
  · rename_i xs μ1 e1
    split at ev
    · rename_i hz
      cases ev
      refine ⟨O, ms, F, δ, μ, xs, _, R, e1, fun vs H1 ms1 F1 r1 s1 q1 => ⟨by rw [q1.length]; exact million hz, fun p hp => ?_⟩⟩
      exact Fin1.tup (fun v H' ms' F' r s q => k v H' ms' F' r (s1.trans' r1 s) q) r1 q1 hp
    · cases ev
  · cases ev⟩
end
end G

set_option Elab.async false
set_option linter.all false
set_option autoImplicit false
set_option maxRecDepth 100000
set_option maxHeartbeats 2000000
namespace G
open PySem PySem.Spec L2

/-! ### new lists -/
abbrev NF := List SV → List MO → Option (List D × List MO)
def FinN (Γ : Gm) (ms : List Addr) (F H : Hp) (ds : List D) (μ' : List MO) (Q : VK) : Prop :=
  ∀ vs H' ms' F' p, HR Γ ms' F' H' μ' → Stp ms ms' F F' H H' → HasL Γ ms' F' vs ds → H' p = some (.lst vs) → H p = none → p ∉ ms' → F' p = none → Q (.ref p) H'
def tN (Γ : Gm) (f : NF) : TE := fun σ H Q => ∃ O ms F δ μ d μ', SR Γ O ms F H σ δ μ ∧ f δ μ = some (d, μ') ∧ FinN Γ ms F H d μ' Q
structure DN (X : Cx) (cl : Nat → Addr) (e : Expr) (f : NF) : Prop where
  p : PE X e (tN (gm X cl) f)
section
variable {Γ : Gm} {ms : List Addr} {F H : Hp} {μ : List MO} {p : Addr}
theorem HR.extra (h : HR Γ ms F H μ) (hp : H p = none) (o : HO) : HR Γ ms F (upd H p o) μ ∧ Stp ms ms F F H (upd H p o) := by
  have sH : ∀ b u, H b = some u → upd H p o b = some u := fun b u e => by rw [upd_ne (ne_of_none e hp)]; exact e
  refine ⟨⟨fun b u e => sH b u (h.sub b u e), h.out, h.len, h.nd, fun k u e => ?_⟩, ⟨⟨[], by simp, by simp⟩, fun b u e _ => sH b u e, Same.refl _, fun b e _ => e⟩⟩
  obtain ⟨a, ea, m⟩ := h.obj k u e
  have m' := m.mono (new := []) (Same.refl F) (sH a)
  rw [List.append_nil] at m'
  exact ⟨a, ea, m'⟩
theorem HR.freeze (h : HR Γ ms F H μ) {o : HO} (hp : H p = some o) (hm : p ∉ ms) (hF : F p = none) : HR Γ ms (upd F p o) H μ := by
  have sF : Same F (upd F p o) := fun b u e => by rw [upd_ne (ne_of_none e hF)]; exact e
  refine ⟨fun b u e => ?_, fun b hb => ?_, h.len, h.nd, fun k u e => ?_⟩
  · by_cases hb : b = p
    · subst hb; rw [upd_same] at e; rw [hp]; exact e
    · rw [upd_ne hb] at e; exact h.sub b u e
  · have hne : b ≠ p := fun z => hm (by rw [← z]; exact hb)
    rw [upd_ne hne]; exact h.out b hb
  · obtain ⟨a, ea, m⟩ := h.obj k u e
    have m' := m.mono (new := []) (H' := H) sF (fun o' q => q)
    rw [List.append_nil] at m'
    exact ⟨a, ea, m'⟩
theorem HR.fresh_not (h : HR Γ ms F H μ) (hp : H p = none) : p ∉ ms ∧ F p = none := ⟨fun z => h.live p z hp, h.sub.free hp⟩
end
section
variable {Γ : Gm} {ms : List Addr} {F H : Hp} {μ : List MO} {Q : VK} {ds : List D}
/-- the new list is laid now -/
theorem FinN.here (k : FinN Γ ms F H ds μ Q) {vs : List V} (r : HR Γ ms F H μ) (q : HasL Γ ms F vs ds) {p : Addr} (hp : H p = none) : Q (.ref p) (upd H p (.lst vs)) := by
  obtain ⟨r', s⟩ := r.extra hp (.lst vs)
  exact k vs _ ms F p r' s q upd_same hp (r.fresh_not hp).1 (r.fresh_not hp).2
theorem FinN.step {ms' : List Addr} {F' H' : Hp} {μ1 μ2 : List MO} (k : FinN Γ ms F H ds μ2 Q) (r : HR Γ ms' F' H' μ1) (s : Stp ms ms' F F' H H') (old : ∀ p, H' p = none → H p = none) : FinN Γ ms' F' H' ds μ2 Q :=
  fun vs H2 ms2 F2 p r2 s2 q hp h0 hm hF => k vs H2 ms2 F2 p r2 (s.trans' r s2) q hp (old p h0) hm hF
theorem Stp.old {ms ms' : List Addr} {F F' H H' : Hp} {μ' : List MO} (s : Stp ms ms' F F' H H') (r : HR Γ ms' F' H' μ') : ∀ p, H' p = none → H p = none := fun p h => by
  cases z : H p with
  | none => rfl
  | some o =>
    by_cases hm : p ∈ ms
    · obtain ⟨new, e, _⟩ := s.new
      exact absurd h (r.live p (by rw [e]; exact List.mem_append_left _ hm))
    · rw [s.keep p o z hm] at h; cases h
theorem FinN.step' {ms' : List Addr} {F' H' : Hp} {μ1 μ2 : List MO} (k : FinN Γ ms F H ds μ2 Q) (r : HR Γ ms' F' H' μ1) (s : Stp ms ms' F F' H H') : FinN Γ ms' F' H' ds μ2 Q := k.step r s (s.old r)
theorem Fin1.step {d : D} {ms' : List Addr} {F' H' : Hp} {μ1 μ2 : List MO} (k : Fin1 Γ ms F H d μ2 Q) (r : HR Γ ms' F' H' μ1) (s : Stp ms ms' F F' H H') : Fin1 Γ ms' F' H' d μ2 Q :=
  fun v H2 ms2 F2 r2 s2 q => k v H2 ms2 F2 r2 (s.trans' r s2) q
theorem FinN.of1 {μ' : List MO} (k : Fin1 Γ ms F H (.lst ds) μ' Q) : FinN Γ ms F H ds μ' Q := fun vs H' ms' F' p r s q hp h0 hm hF => by
  have r2 := r.freeze hp hm hF
  have sF : Same F' (upd F' p (.lst vs)) := fun b u e => by rw [upd_ne (ne_of_none e hF)]; exact e
  refine k _ H' ms' (upd F' p (.lst vs)) r2 ⟨s.new, s.keep, s.fsub.trans sF, fun b e hn => ?_⟩ ⟨p, vs, rfl, upd_same, ?_⟩
  · have hne : b ≠ p := fun z => hn (by rw [z]; exact h0)
    rw [upd_ne hne]; exact s.fnew b e hn
  · have q2 := q.mono (new := []) sF
    rw [List.append_nil] at q2; exact q2
theorem FinN.ofM {μ' : List MO} (k : Fin1 Γ ms F H (.mut μ'.length) (μ' ++ [.lst ds]) Q) : FinN Γ ms F H ds μ' Q := fun vs H' ms' F' p r s q hp h0 hm hF => by
  obtain ⟨new, e, fr⟩ := s.new
  refine k _ H' (ms' ++ [p]) F' ⟨r.sub, fun b hb => ?_, by simp [r.len], ?_, fun j u' e => ?_⟩ ⟨⟨new ++ [p], by rw [e]; simp, fun b hb => ?_⟩, s.keep, s.fsub, s.fnew⟩ ⟨p, rfl, by rw [← r.len]; simp⟩
  · rcases List.mem_append.mp hb with hb | hb
    · exact r.out b hb
    · simp at hb; subst hb; exact hF
  · refine List.nodup_append.mpr ⟨r.nd, by simp, fun b hb c hc => ?_⟩
    simp at hc; subst hc
    exact fun z => hm (z ▸ hb)
  · by_cases hk : j < μ'.length
    · rw [List.getElem?_append_left hk] at e
      obtain ⟨a, ea, m'⟩ := r.obj j u' e
      exact ⟨a, getP ea, m'.mono (Same.refl _) fun o q => q⟩
    · have hk2 := (List.getElem?_eq_some_iff.mp e).1
      simp at hk2
      have : j = μ'.length := by omega
      subst this
      simp at e; subst e
      exact ⟨p, by rw [← r.len]; simp, vs, hp, q.mono (Same.refl _)⟩
  · rcases List.mem_append.mp hb with hb | hb
    · exact fr b hb
    · simp at hb; subst hb; exact h0
end
section
variable {X : Cx} {cl : Nat → Addr} {e a b c : Expr} {es : List Expr} {fa fb fc : EF} {pos : Pos} {r : AF} {n : NF}
def eFrz (n : NF) : EF := fun δ μ => match n δ μ with
  | some (ds, μ1) => some (.lst ds, μ1)
  | none => none
def eMut (n : NF) : EF := fun δ μ => match n δ μ with
  | some (ds, μ1) => some (.mut μ1.length, μ1 ++ [.lst ds])
  | none => none
theorem de_frz (h : DN X cl e n) : DE X cl e (eFrz n) := ⟨h.p.weak fun σ H Q ⟨O, ms, F, δ, μ, d, μ', R, ev, k⟩ => by
  unfold eFrz at ev
  split at ev
  · rename_i ds μ1 e1
    cases ev
    exact ⟨O, ms, F, δ, μ, ds, _, R, e1, FinN.of1 k⟩
  · cases ev⟩
theorem de_mut (h : DN X cl e n) : DE X cl e (eMut n) := ⟨h.p.weak fun σ H Q ⟨O, ms, F, δ, μ, d, μ', R, ev, k⟩ => by
  unfold eMut at ev
  split at ev
  · rename_i ds μ1 e1
    cases ev
    exact ⟨O, ms, F, δ, μ, ds, _, R, e1, FinN.ofM k⟩
  · cases ev⟩
def nLst (r : AF) : NF := fun δ μ => match r δ μ with
  | some (xs, μ1) => if xs.length ≤ 1000000 then some (xs, μ1) else none
  | none => none
theorem dn_lst (h : DA X cl es r) : DN X cl (.List es pos) (nLst r) := ⟨(pe_lst h.p).weak fun σ H Q ⟨O, ms, F, δ, μ, d, μ', R, ev, k⟩ => by
  unfold nLst at ev
  split at ev
  · rename_i xs μ1 e1
    split at ev
    · rename_i hz
      cases ev
      exact ⟨O, ms, F, δ, μ, _, _, R, e1, fun vs H1 ms1 F1 r1 s1 q1 => ⟨by rw [q1.length]; exact million hz, fun p hp => (k.step' r1 s1).here r1 q1 hp⟩⟩
    · cases ev
  · cases ev⟩

/-! ### a list or tuple that is read -/
def seqD (μ : List MO) : D → Option (SK × List D)
  | .lst ds => some (.l, ds)
  | .tup ds => some (.t, ds)
  | .mut k => match μ[k]? with
    | some (.lst ds) => some (.l, ds)
    | _ => none
  | _ => none
theorem seqD_ok {Γ : Gm} {ms : List Addr} {F H : Hp} {μ : List MO} {v : V} {d : D} {k : SK} {ds : List D} (r : HR Γ ms F H μ) (h : Has Γ ms F v d) (e : seqD μ d = some (k, ds)) : ∃ a xs, v = .ref a ∧ SeqV Γ.K H a k xs ∧ HasL Γ ms F xs ds := by
  unfold seqD at e
  split at e
  · cases e
    obtain ⟨a, xs, hv, hs, hl⟩ := h
    exact ⟨a, xs, hv, r.sub _ _ hs, hl⟩
  · cases e
    obtain ⟨a, xs, hv, hs, hl⟩ := h
    exact ⟨a, xs, hv, Tp.same r.sub hs, hl⟩
  · split at e
    · rename_i k' ds' hk
      cases e
      obtain ⟨a, hv, hm⟩ := h
      obtain ⟨a', ha', xs, hx, hl⟩ := r.obj _ _ hk
      rw [hm] at ha'; cases ha'
      exact ⟨a, xs, hv, hx, hl⟩
    · cases e
  · cases e
def qE (f : EF) : SF := eThen f fun d _ μ => match seqD μ d with
  | some x => some (x, μ)
  | none => none
theorem dq_e {f : EF} (h : DE X cl e f) : DQ X cl e (qE f) := ⟨h.p.weak fun σ H Q ⟨O, ms, F, δ, μ, d, μ', R, ev, k⟩ => by
  obtain ⟨d1, μ1, e1, ev⟩ := eThen_some ev
  refine tE.seq R e1 fun v H1 ms1 F1 R1 s1 q1 => ?_
  split at ev
  · rename_i x hx
    cases ev
    obtain ⟨a, xs, rfl, hs, hl⟩ := seqD_ok R1.hr q1 hx
    exact k a xs H1 ms1 F1 R1.hr s1 hs hl
  · cases ev⟩
/-- an own list of the def's -/
def qO (i : Nat) : SF := fun δ μ => match δ[i]? with
  | some (.own xs) => some ((.l, xs), μ)
  | _ => none
theorem dq_o {i : Nat} (h : PE X e (tVar i)) : DQ X cl e (qO i) := ⟨h.weak fun σ H Q ⟨O, ms, F, δ, μ, d, μ', R, ev, k⟩ => by
  unfold qO at ev
  split at ev
  · rename_i xs hd
    cases ev
    obtain ⟨a, vs, ea, ha, hl, _⟩ := R.er.ok i _ hd
    exact ⟨_, ea, k a vs H ms F R.hr (Stp.refl _ _ _) ha hl⟩
  · cases ev⟩
theorem tQ.seq {fq : SF} {Γ : Gm} {O : Og} {ms : List Addr} {F H : Hp} {σ : L2.St} {δ : List SV} {μ μ1 : List MO} {d : SK × List D} {Q : VK} (R : SR Γ O ms F H σ δ μ) (e : fq δ μ = some (d, μ1))
    (k : ∀ a xs H1 ms1 F1, SR Γ O ms1 F1 H1 σ δ μ1 → Stp ms ms1 F F1 H H1 → SeqV Γ.K H1 a d.1 xs → HasL Γ ms1 F1 xs d.2 → Q (.ref a) H1) : tQ Γ fq σ H Q :=
  ⟨O, ms, F, δ, μ, d, μ1, R, e, fun a xs H1 ms1 F1 r s q l => k a xs H1 ms1 F1 (R.step r s) s q l⟩
theorem SeqV.or {K : PySem.W.Frag} {H : Hp} {a : Addr} {k : SK} {xs : List V} (h : SeqV K H a k xs) : SqL K H a xs ∨ SqT K H a xs := by
  cases k with
  | l => exact .inl (SqL.of h)
  | t => exact .inr h.sq

/-! ### one argument: built-ins over a value -/
def CallD (X : Cx) (cl : Nat → Addr) (f : Value) (g : List D → List MO → Option (D × List MO)) : Prop :=
  ∀ ms F H μ vs ds d μ' Q, HR (gm X cl) ms F H μ → HasL (gm X cl) ms F vs ds → g ds μ = some (d, μ') → Fin1 (gm X cl) ms F H d μ' Q → ∃ r, CallR X f r ∧ r vs H Q
theorem _root_.L2.CallR.any' {f : Value} : CallR X f (fun vs H Q => ∃ r, CallR X f r ∧ r vs H Q) := by
  intro pins s σ H vs us Q I r ⟨rr, ho, h⟩
  exact ho pins s σ H vs us Q I r h
def aThen (r : AF) {β : Type} (k : List D → List SV → List MO → Option (β × List MO)) : List SV → List MO → Option (β × List MO) := fun δ μ => match r δ μ with
  | some (d, μ1) => k d δ μ1
  | none => none
theorem aThen_some {β : Type} {k : List D → List SV → List MO → Option (β × List MO)} {δ : List SV} {μ : List MO} {x : β × List MO} (h : aThen r k δ μ = some x) : ∃ d μ1, r δ μ = some (d, μ1) ∧ k d δ μ1 = some x := by
  unfold aThen at h
  split at h
  · exact ⟨_, _, by assumption, h⟩
  · cases h
theorem tA.seq {Γ : Gm} {O : Og} {ms : List Addr} {F H : Hp} {σ : L2.St} {δ : List SV} {μ μ1 : List MO} {d : List D} {Q : List V → Hp → Prop} (R : SR Γ O ms F H σ δ μ) (e : r δ μ = some (d, μ1))
    (k : ∀ v H1 ms1 F1, SR Γ O ms1 F1 H1 σ δ μ1 → Stp ms ms1 F F1 H H1 → HasL Γ ms1 F1 v d → Q v H1) : tA Γ r σ H Q :=
  ⟨O, ms, F, δ, μ, d, μ1, R, e, fun v H1 ms1 F1 r s q => k v H1 ms1 F1 (R.step r s) s q⟩
def eCall (g : List D → List MO → Option (D × List MO)) (r : AF) : EF := aThen r fun ds _ μ => g ds μ
theorem callD_run {f : Value} {g : List D → List MO → Option (D × List MO)} (hc : CallD X cl f g) {σ : L2.St} {H : Hp} {Q : VK} (h : tE (gm X cl) (eCall g r) σ H Q) : tCB (fun vs H Q => ∃ r, CallR X f r ∧ r vs H Q) (tA (gm X cl) r) σ H Q := by
  obtain ⟨O, ms, F, δ, μ, d, μ', R, ev, k⟩ := h
  obtain ⟨ds, μ1, e1, ev⟩ := aThen_some ev
  refine tA.seq R e1 fun v H1 ms1 F1 R1 s1 q1 => ?_
  exact hc ms1 F1 H1 μ1 v ds d μ' Q R1.hr q1 ev fun v H' ms' F' r s q => k v H' ms' F' r (s1.trans' R1.hr s) q
theorem de_callB {id : String} {x : Str} {p : Pos} {g : List D → List MO → Option (D × List MO)} (hc : CallD X cl (.builtin id) g) (hg : Gl X x) (hm : X.mg x = none) (hv : bootBuiltins x = some (.builtin id)) (ha : DA X cl (e :: es) r) (hn : x ≠ "__name__" := by decide) (hdb : (x == ("__debug__" : Str)) = false := by decide)
    (he : starEach (e :: es) X.env = (false, eval e X.env) :: starEach es X.env := by rfl) (hpl : (backTo pos (starEach es X.env)).any (·.1) = false := by rfl) : DE X cl (.Call (.Name x p) (e :: es) [] pos) (eCall g r) :=
  ⟨(pe_callB CallR.any' hg hm hv ha.p hn hdb he hpl).weak fun σ H Q h => callD_run hc h⟩
theorem de_callT {T : String} {x : Str} {p : Pos} {g : List D → List MO → Option (D × List MO)} (hc : CallD X cl (.type T) g) (hg : Gl X x) (hm : X.mg x = none) (hv : bootBuiltins x = some (.type T)) (ha : DA X cl (e :: es) r) (hn : x ≠ "__name__" := by decide) (hdb : (x == ("__debug__" : Str)) = false := by decide)
    (he : starEach (e :: es) X.env = (false, eval e X.env) :: starEach es X.env := by rfl) (hpl : (backTo pos (starEach es X.env)).any (·.1) = false := by rfl) : DE X cl (.Call (.Name x p) (e :: es) [] pos) (eCall g r) :=
  ⟨(pe_callTy CallR.any' hg hm hv ha.p hn hdb he hpl).weak fun σ H Q h => callD_run hc h⟩
/-- f(xs): one list or tuple, read -/
def CallQ (X : Cx) (cl : Nat → Addr) (f : Value) (g : SK × List D → List MO → Option (D × List MO)) : Prop :=
  ∀ ms F H μ a xs dq d μ' Q, HR (gm X cl) ms F H μ → SeqV X.K H a dq.1 xs → HasL (gm X cl) ms F xs dq.2 → g dq μ = some (d, μ') → Fin1 (gm X cl) ms F H d μ' Q → ∃ r, CallR X f r ∧ r [.ref a] H Q
def qThen (r : SF) {β : Type} (k : SK × List D → List SV → List MO → Option (β × List MO)) : List SV → List MO → Option (β × List MO) := fun δ μ => match r δ μ with
  | some (d, μ1) => k d δ μ1
  | none => none
theorem qThen_some {q : SF} {β : Type} {k : SK × List D → List SV → List MO → Option (β × List MO)} {δ : List SV} {μ : List MO} {x : β × List MO} (h : qThen q k δ μ = some x) : ∃ d μ1, q δ μ = some (d, μ1) ∧ k d δ μ1 = some x := by
  unfold qThen at h
  split at h
  · exact ⟨_, _, by assumption, h⟩
  · cases h
def eCallQ (g : SK × List D → List MO → Option (D × List MO)) (q : SF) : EF := qThen q fun ds _ μ => g ds μ
theorem callQ_run {f : Value} {q : SF} {g : SK × List D → List MO → Option (D × List MO)} (hc : CallQ X cl f g) {σ : L2.St} {H : Hp} {Q : VK} (h : tE (gm X cl) (eCallQ g q) σ H Q) : tCB (fun vs H Q => ∃ r, CallR X f r ∧ r vs H Q) (tCons (tQ (gm X cl) q) tNil) σ H Q := by
  obtain ⟨O, ms, F, δ, μ, d, μ', R, ev, k⟩ := h
  obtain ⟨dq, μ1, e1, ev⟩ := qThen_some ev
  show tQ (gm X cl) q σ H fun x H1 => ∃ r, CallR X f r ∧ r [x] H1 Q
  refine tQ.seq R e1 fun a xs H1 ms1 F1 R1 s1 q1 l1 => ?_
  exact hc ms1 F1 H1 μ1 a xs dq d μ' Q R1.hr q1 l1 ev fun v H' ms' F' r s q => k v H' ms' F' r (s1.trans' R1.hr s) q
theorem de_callQ {id : String} {x : Str} {p : Pos} {q : SF} {g : SK × List D → List MO → Option (D × List MO)} (hc : CallQ X cl (.builtin id) g) (hg : Gl X x) (hm : X.mg x = none) (hv : bootBuiltins x = some (.builtin id)) (ha : DQ X cl e q) (hn : x ≠ "__name__" := by decide) (hdb : (x == ("__debug__" : Str)) = false := by decide)
    (he : starEach [e] X.env = (false, eval e X.env) :: starEach [] X.env := by rfl) (hpl : (backTo pos (starEach [] X.env)).any (·.1) = false := by rfl) : DE X cl (.Call (.Name x p) [e] [] pos) (eCallQ g q) :=
  ⟨(pe_callB CallR.any' hg hm hv (pa_cons ha.p pa_nil he) hn hdb he hpl).weak fun σ H Q h => callQ_run hc h⟩
end
end G

set_option Elab.async false
set_option linter.all false
set_option autoImplicit false
set_option maxRecDepth 100000
set_option maxHeartbeats 2000000
namespace G
open PySem PySem.Spec L2

/-! ### statements -/
inductive Out where
  | nx (δ : List SV) (μ : List MO) | rt (d : D) (μ : List MO) | bk (δ : List SV) (μ : List MO) | ct (δ : List SV) (μ : List MO) | xc (C : Nat) (f msg : Str) (d : D) (δ : List SV) (μ : List MO)
abbrev BF := List SV → List MO → Option Out
structure Ext (ms ms' : List Addr) (F F' : Hp) : Prop where
  new : ∃ new, ms' = ms ++ new
  fsub : Same F F'
theorem Ext.refl (ms : List Addr) (F : Hp) : Ext ms ms F F := ⟨⟨[], by simp⟩, Same.refl _⟩
theorem Ext.trans {m1 m2 m3 : List Addr} {F1 F2 F3 : Hp} (a : Ext m1 m2 F1 F2) (b : Ext m2 m3 F2 F3) : Ext m1 m3 F1 F3 := by
  obtain ⟨n1, e1⟩ := a.new
  obtain ⟨n2, e2⟩ := b.new
  exact ⟨⟨n1 ++ n2, by rw [e2, e1, List.append_assoc]⟩, a.fsub.trans b.fsub⟩
theorem Stp.ext {ms ms' : List Addr} {F F' H H' : Hp} (s : Stp ms ms' F F' H H') : Ext ms ms' F F' := ⟨let ⟨n, e, _⟩ := s.new; ⟨n, e⟩, s.fsub⟩
/-- all that the context takes of an exception -/
def W0 (X : Cx) : WX × Hp := (fun cls d σ H => ∀ u s', L2N.XE X (fun c' d' σ' H' => c' = cls ∧ d' = d ∧ σ' = σ ∧ H' = H) u s' → X.xe u s', X.H_0)
theorem takesW {X : Cx} : L2N.Takes X (W0 X).1 := fun u s' ⟨a, B, sI, pins, σ, H, cls, d, e, I, nb, up, sky, na, os, ag, w⟩ => w u s' ⟨a, B, sI, pins, σ, H, cls, d, e, I, nb, up, sky, na, os, ag, rfl, rfl, rfl, rfl⟩
def EndOk (Γ : Gm) (W : WX × Hp) (O : Og) (ms : List Addr) (F : Hp) (D : Ends) : Out → Prop
  | .xc C f msg d δ' μ' => ∀ σ' H' ms' F' dx y, SR Γ O ms' F' H' σ' δ' μ' → Ext ms ms' F F' → F' dx = some (exd dx [(f, y)]) → Has Γ ms' F' y d → W.1 (.ref (Γ.cl C)) (some dx) σ' H'
  | .nx δ' μ' => ∀ σ' H' ms' F', SR Γ O ms' F' H' σ' δ' μ' → Ext ms ms' F F' → D.nx σ' H'
  | .bk δ' μ' => ∀ σ' H' ms' F', SR Γ O ms' F' H' σ' δ' μ' → Ext ms ms' F F' → D.bk σ' H'
  | .ct δ' μ' => ∀ σ' H' ms' F', SR Γ O ms' F' H' σ' δ' μ' → Ext ms ms' F F' → D.ct σ' H'
  | .rt d μ' => ∀ v H' ms' F', HR Γ ms' F' H' μ' → Stp O.ms ms' O.F F' O.H H' → Has Γ ms' F' v d → D.rt v H'
def tS (Γ : Gm) (W : WX × Hp) (f : BF) : TS := fun D σ H => ∃ O ms F δ μ o, SR Γ O ms F H σ δ μ ∧ f δ μ = some o ∧ O.H = W.2 ∧ EndOk Γ W O ms F D o
theorem EndOk.step {Γ : Gm} {W : WX × Hp} {O : Og} {ms ms' : List Addr} {F F' : Hp} {D : Ends} {o : Out} (h : EndOk Γ W O ms F D o) (e : Ext ms ms' F F') : EndOk Γ W O ms' F' D o := by
  cases o with
  | nx δ μ => exact fun σ' H' m2 F2 R x => h σ' H' m2 F2 R (e.trans x)
  | bk δ μ => exact fun σ' H' m2 F2 R x => h σ' H' m2 F2 R (e.trans x)
  | ct δ μ => exact fun σ' H' m2 F2 R x => h σ' H' m2 F2 R (e.trans x)
  | rt d μ => exact h
  | xc C f msg d δ μ => exact fun σ' H' m2 F2 dx y R x => h σ' H' m2 F2 dx y R (e.trans x)
structure DS (X : Cx) (cl : Nat → Addr) (s : Stmt) (f : BF) : Prop where
  p : PS X s (tS (gm X cl) (W0 X) f)
structure DB (X : Cx) (cl : Nat → Addr) (s : List Stmt) (f : BF) : Prop where
  p : PSs X s (tS (gm X cl) (W0 X) f)
theorem _root_.L2.PS.weak {X : Cx} {s : Stmt} {t t' : TS} (h : PS X s t) (k : ∀ D σ H, t' D σ H → t D σ H) : PS X s t' := ⟨fun pins st σ H D I q => h.run pins st σ H D I (k D σ H q)⟩
theorem _root_.L2.PSs.weak {X : Cx} {s : List Stmt} {t t' : TS} (h : PSs X s t) (k : ∀ D σ H, t' D σ H → t D σ H) : PSs X s t' := ⟨fun pins st σ H D I q => h.run pins st σ H D I (k D σ H q)⟩
section
variable {Γ : Gm} {O : Og} {ms : List Addr} {F H : Hp} {σ : L2.St} {δ : List SV} {μ : List MO}
theorem SR.set (R : SR Γ O ms F H σ δ μ) {v : V} {d : D} (q : Has Γ ms F v d) (i : Nat) : SR Γ O ms F H (σ.set i (some v)) (δ.set i (.d d)) μ := by
  refine ⟨R.hr, ⟨by simp [R.er.len], fun j sv e => ?_, fun j k a ds es e1 e2 f1 f2 => ?_⟩, R.st⟩
  · by_cases hj : i = j
    · subst hj
      have hi : i < δ.length := by
        have := (List.getElem?_eq_some_iff.mp e).1
        simpa using this
      rw [List.getElem?_set_self hi] at e; cases e
      rw [List.getElem?_set_self (by rw [R.er.len]; exact hi)]
      exact ⟨v, rfl, q⟩
    · rw [List.getElem?_set_ne hj] at e
      rw [List.getElem?_set_ne hj]
      exact R.er.ok j sv e
  · have n1 : i ≠ j := fun z => by
      subst z
      have hi : i < δ.length := by
        have := (List.getElem?_eq_some_iff.mp e1).1
        simpa using this
      rw [List.getElem?_set_self hi] at e1; cases e1
    have n2 : i ≠ k := fun z => by
      subst z
      have hi : i < δ.length := by
        have := (List.getElem?_eq_some_iff.mp e2).1
        simpa using this
      rw [List.getElem?_set_self hi] at e2; cases e2
    rw [List.getElem?_set_ne n1] at e1 f1
    rw [List.getElem?_set_ne n2] at e2 f2
    exact R.er.inj j k a ds es e1 e2 f1 f2
/-- a name is forgotten -/
theorem SR.drop (R : SR Γ O ms F H σ δ μ) (i : Nat) (u : Option V) : SR Γ O ms F H (σ.set i u) (δ.set i .no) μ := by
  refine ⟨R.hr, ⟨by simp [R.er.len], fun j sv e => ?_, fun j k a ds es e1 e2 f1 f2 => ?_⟩, R.st⟩
  · by_cases hj : i = j
    · subst hj
      have hi : i < δ.length := by
        have := (List.getElem?_eq_some_iff.mp e).1
        simpa using this
      rw [List.getElem?_set_self hi] at e; cases e
      trivial
    · rw [List.getElem?_set_ne hj] at e
      rw [List.getElem?_set_ne hj]
      exact R.er.ok j sv e
  · have n1 : i ≠ j := fun z => by
      subst z
      have hi : i < δ.length := by
        have := (List.getElem?_eq_some_iff.mp e1).1
        simpa using this
      rw [List.getElem?_set_self hi] at e1; cases e1
    have n2 : i ≠ k := fun z => by
      subst z
      have hi : i < δ.length := by
        have := (List.getElem?_eq_some_iff.mp e2).1
        simpa using this
      rw [List.getElem?_set_self hi] at e2; cases e2
    rw [List.getElem?_set_ne n1] at e1 f1
    rw [List.getElem?_set_ne n2] at e2 f2
    exact R.er.inj j k a ds es e1 e2 f1 f2
/-- a new list becomes a name's own -/
theorem SR.own (R : SR Γ O ms F H σ δ μ) {p : Addr} {vs : List V} {ds : List D} (hp : H p = some (.lst vs)) (q : HasL Γ ms F vs ds) (hF : F p = none) (hm : p ∉ ms) (h0 : O.H p = none) (hnew : ∀ (j : Nat) (es : List D), δ[j]? = some (.own es) → σ[j]? ≠ some (some (.ref p))) (i : Nat) :
    SR Γ O ms F H (σ.set i (some (.ref p))) (δ.set i (.own ds)) μ := by
  refine ⟨R.hr, ⟨by simp [R.er.len], fun j sv e => ?_, fun j k a ds' es e1 e2 f1 f2 => ?_⟩, R.st⟩
  · by_cases hj : i = j
    · subst hj
      have hi : i < δ.length := by
        have := (List.getElem?_eq_some_iff.mp e).1
        simpa using this
      rw [List.getElem?_set_self hi] at e; cases e
      rw [List.getElem?_set_self (by rw [R.er.len]; exact hi)]
      exact ⟨p, vs, rfl, hp, q, hF, hm, h0⟩
    · rw [List.getElem?_set_ne hj] at e
      rw [List.getElem?_set_ne hj]
      exact R.er.ok j sv e
  · have at_i : ∀ (j : Nat) (es : List D), i = j → (δ.set i (SV.own ds))[j]? = some (.own es) → (σ.set i (some (V.ref p)))[j]? = some (some (.ref a)) → a = p := fun j es z e f => by
      subst z
      have hi : i < σ.length := by
        have := (List.getElem?_eq_some_iff.mp f).1
        simpa using this
      rw [List.getElem?_set_self hi] at f; cases f; rfl
    by_cases n1 : i = j
    · by_cases n2 : i = k
      · omega
      · have := at_i j _ n1 e1 f1
        subst this
        rw [List.getElem?_set_ne n2] at e2 f2
        exact absurd f2 (hnew k _ e2)
    · by_cases n2 : i = k
      · have := at_i k _ n2 e2 f2
        subst this
        rw [List.getElem?_set_ne n1] at e1 f1
        exact absurd f1 (hnew j _ e1)
      · rw [List.getElem?_set_ne n1] at e1 f1
        rw [List.getElem?_set_ne n2] at e2 f2
        exact R.er.inj j k a _ _ e1 e2 f1 f2
/-- an own list changes -/
theorem SR.ownSet (R : SR Γ O ms F H σ δ μ) {i : Nat} {a : Addr} {ds es : List D} {vs ws : List V} (hd : δ[i]? = some (.own ds)) (hs : σ[i]? = some (some (.ref a))) (ha : H a = some (.lst vs)) (q : HasL Γ ms F ws es) :
    SR Γ O ms F (upd H a (.lst ws)) σ (δ.set i (.own es)) μ := by
  obtain ⟨a', xs', e1, h1, l1, hF, hm, h0⟩ := R.er.ok i _ hd
  rw [hs] at e1; cases e1
  have keep : ∀ b, b ≠ a → upd H a (.lst ws) b = H b := fun b hb => upd_ne hb
  have hr : HR Γ ms F (upd H a (.lst ws)) μ := by
    refine ⟨fun b u e => ?_, R.hr.out, R.hr.len, R.hr.nd, fun k u e => ?_⟩
    · rw [keep b (fun z => by rw [z, hF] at e; cases e)]; exact R.hr.sub b u e
    · obtain ⟨b, eb, m⟩ := R.hr.obj k u e
      have hb : b ≠ a := fun z => hm (z ▸ List.mem_of_getElem? eb)
      have m' := m.mono (new := []) (H' := upd H a (.lst ws)) (Same.refl F) (fun o q => by rw [keep b hb]; exact q)
      rw [List.append_nil] at m'
      exact ⟨b, eb, m'⟩
  refine ⟨hr, ⟨by simp [R.er.len], fun j sv e => ?_, fun j k c ds' es' e1 e2 f1 f2 => ?_⟩, ⟨R.st.new, fun b o e hb => ?_, R.st.fsub, R.st.fnew⟩⟩
  · by_cases hj : i = j
    · subst hj
      have hi : i < δ.length := (List.getElem?_eq_some_iff.mp hd).1
      rw [List.getElem?_set_self hi] at e; cases e
      exact ⟨a, ws, hs, upd_same, q, hF, hm, h0⟩
    · rw [List.getElem?_set_ne hj] at e
      have o := R.er.ok j sv e
      cases sv with
      | no => trivial
      | d x => exact o
      | xv C f x => exact o
      | own zs =>
        obtain ⟨c, xs, ec, hc, lc, r⟩ := o
        have hne : c ≠ a := fun z => by subst z; exact hj (R.er.inj i j c _ _ hd e hs ec)
        exact ⟨c, xs, ec, by rw [keep c hne]; exact hc, lc, r⟩
  · have own_at : ∀ (j : Nat) (es' : List D), (δ.set i (SV.own es))[j]? = some (.own es') → ∃ es2, δ[j]? = some (.own es2) := fun j es' e => by
      by_cases hj : i = j
      · subst hj; exact ⟨_, hd⟩
      · rw [List.getElem?_set_ne hj] at e; exact ⟨_, e⟩
    obtain ⟨x1, y1⟩ := own_at j _ e1
    obtain ⟨x2, y2⟩ := own_at k _ e2
    exact R.er.inj j k c _ _ y1 y2 f1 f2
  · have hne : b ≠ a := fun z => by rw [z, h0] at e; cases e
    rw [keep b hne]; exact R.st.keep b o e hb
/-- an own list is frozen -/
theorem SR.ownFreeze (R : SR Γ O ms F H σ δ μ) {i : Nat} {ds : List D} (hd : δ[i]? = some (.own ds)) : ∃ F', SR Γ O ms F' H σ (δ.set i (.d (.lst ds))) μ ∧ Same F F' := by
  obtain ⟨a, xs, e1, h1, l1, hF, hm, h0⟩ := R.er.ok i _ hd
  have sF : Same F (upd F a (.lst xs)) := fun b u e => by rw [upd_ne (ne_of_none e hF)]; exact e
  refine ⟨upd F a (.lst xs), ⟨R.hr.freeze h1 hm hF, ⟨by simp [R.er.len], fun j sv e => ?_, fun j k c ds' es' e1 e2 f1 f2 => ?_⟩, ⟨R.st.new, R.st.keep, R.st.fsub.trans sF, fun b e hn => ?_⟩⟩, sF⟩
  · by_cases hj : i = j
    · subst hj
      have hi : i < δ.length := (List.getElem?_eq_some_iff.mp hd).1
      rw [List.getElem?_set_self hi] at e; cases e
      have q2 := l1.mono (new := []) sF
      rw [List.append_nil] at q2
      exact ⟨_, e1, a, xs, rfl, upd_same, q2⟩
    · rw [List.getElem?_set_ne hj] at e
      have o := R.er.ok j sv e
      cases sv with
      | no => trivial
      | d x =>
        obtain ⟨u, eu, q⟩ := o
        have q2 := q.mono (new := []) sF
        rw [List.append_nil] at q2
        exact ⟨u, eu, q2⟩
      | xv C f x =>
        obtain ⟨c, oe, dx, y, z1, z2, z3, z4, q⟩ := o
        have q2 := q.mono (new := []) sF
        rw [List.append_nil] at q2
        exact ⟨c, oe, dx, y, z1, z2, z3, sF _ _ z4, q2⟩
      | own zs =>
        obtain ⟨c, xs', ec, hc, lc, r1, r2, r3⟩ := o
        have hne : c ≠ a := fun z => by subst z; exact hj (R.er.inj i j c _ _ hd e e1 ec)
        have q2 := lc.mono (new := []) sF
        rw [List.append_nil] at q2
        exact ⟨c, xs', ec, hc, q2, by rw [upd_ne hne]; exact r1, r2, r3⟩
  · have n : ∀ (j : Nat) (es' : List D), (δ.set i (SV.d (.lst ds)))[j]? = some (.own es') → δ[j]? = some (.own es') := fun j es' e => by
      by_cases hj : i = j
      · subst hj
        have hi : i < δ.length := (List.getElem?_eq_some_iff.mp hd).1
        rw [List.getElem?_set_self hi] at e; cases e
      · rw [List.getElem?_set_ne hj] at e; exact e
    exact R.er.inj j k c _ _ (n j _ e1) (n k _ e2) f1 f2
  · have hne : b ≠ a := fun z => hn (by rw [z]; exact h0)
    rw [upd_ne hne]; exact R.st.fnew b e hn
theorem SR.old0 (R : SR Γ O ms F H σ δ μ) {p : Addr} (h : H p = none) : O.H p = none := R.st.old R.hr p h
theorem SR.notOwn (R : SR Γ O ms F H σ δ μ) {p : Addr} (h : H p = none) (j : Nat) (es : List D) (e : δ[j]? = some (.own es)) : σ[j]? ≠ some (some (.ref p)) := fun z => by
  obtain ⟨a, xs, e1, h1, _⟩ := R.er.ok j _ e
  rw [z] at e1; cases e1
  rw [h] at h1; cases h1
end
section
variable {X : Cx} {cl : Nat → Addr} {e a b c : Expr} {es : List Expr} {fe fa fb : EF} {pos : Pos} {r : AF} {n : NF} {st : Stmt} {sts : List Stmt} {f g : BF}
def bNil : BF := fun δ μ => some (.nx δ μ)
theorem db_nil : DB X cl [] bNil := ⟨pss_nil.weak fun D σ H ⟨O, ms, F, δ, μ, o, R, ev, hO, k⟩ => by cases ev; exact k σ H ms F R (Ext.refl _ _)⟩
def bThen (f g : BF) : BF := fun δ μ => match f δ μ with
  | some (.nx δ1 μ1) => g δ1 μ1
  | o => o
theorem db_one (h : DS X cl st f) : DB X cl [st] f := ⟨pss_one h.p⟩
theorem db_cons (h1 : DS X cl st f) (h2 : DB X cl sts g) : DB X cl (st :: sts) (bThen f g) := ⟨(pss_cons h1.p h2.p).weak fun D σ H ⟨O, ms, F, δ, μ, o, R, ev, hO, k⟩ => by
  unfold bThen at ev
  split at ev
  · rename_i δ1 μ1 e1
    exact ⟨O, ms, F, δ, μ, _, R, e1, hO, fun σ' H' ms' F' R' x => ⟨O, ms', F', δ1, μ1, o, R', ev, hO, k.step x⟩⟩
  · rename_i o' hno
    refine ⟨O, ms, F, δ, μ, o, R, ev, hO, ?_⟩
    cases o with
    | nx δ1 μ1 => exact absurd ev (hno δ1 μ1)
    | rt d μ1 => exact k
    | bk d μ1 => exact k
    | ct d μ1 => exact k
    | xc _ _ _ _ _ _ => exact k⟩
theorem ds_pass : DS X cl (.Pass pos) bNil := ⟨ps_pass.weak fun D σ H ⟨O, ms, F, δ, μ, o, R, ev, hO, k⟩ => by cases ev; exact k σ H ms F R (Ext.refl _ _)⟩
def bBrk : BF := fun δ μ => some (.bk δ μ)
def bCnt : BF := fun δ μ => some (.ct δ μ)
theorem ds_brk : DS X cl (.Break pos) bBrk := ⟨ps_break.weak fun D σ H ⟨O, ms, F, δ, μ, o, R, ev, hO, k⟩ => by cases ev; exact k σ H ms F R (Ext.refl _ _)⟩
theorem ds_cnt : DS X cl (.Continue pos) bCnt := ⟨ps_continue.weak fun D σ H ⟨O, ms, F, δ, μ, o, R, ev, hO, k⟩ => by cases ev; exact k σ H ms F R (Ext.refl _ _)⟩
/-- a statement that isn't reached -/
def bNever : BF := fun _ _ => none
theorem ds_never : DS X cl st bNever := ⟨ps_never.weak fun D σ H ⟨O, ms, F, δ, μ, o, R, ev, hO, k⟩ => by cases ev⟩
theorem db_never : DB X cl sts bNever := ⟨pss_never.weak fun D σ H ⟨O, ms, F, δ, μ, o, R, ev, hO, k⟩ => by cases ev⟩
def bExpr (f : EF) : BF := fun δ μ => match f δ μ with
  | some (_, μ1) => some (.nx δ μ1)
  | none => none
theorem ds_expr (h : DE X cl e fe) (hs : swapsWith e none pos.line X.env = pure false := by rfl) : DS X cl (.Expr e pos) (bExpr fe) := ⟨(ps_expr h.p hs).weak fun D σ H ⟨O, ms, F, δ, μ, o, R, ev, hO, k⟩ => by
  unfold bExpr at ev
  split at ev
  · rename_i d μ1 e1
    cases ev
    exact tE.seq R e1 fun v H1 ms1 F1 R1 s1 q1 => k σ H1 ms1 F1 R1 s1.ext
  · cases ev⟩
def bRet (f : EF) : BF := fun δ μ => match f δ μ with
  | some (d, μ1) => some (.rt d μ1)
  | none => none
theorem ds_ret (h : DE X cl e fe) : DS X cl (.Return (some e) pos) (bRet fe) := ⟨(ps_ret h.p).weak fun D σ H ⟨O, ms, F, δ, μ, o, R, ev, hO, k⟩ => by
  unfold bRet at ev
  split at ev
  · rename_i d μ1 e1
    cases ev
    exact tE.seq R e1 fun v H1 ms1 F1 R1 s1 q1 => k v H1 ms1 F1 R1.hr R1.st q1
  · cases ev⟩
def bRetN : BF := fun _ μ => some (.rt .non μ)
theorem ds_retN : DS X cl (.Return none pos) bRetN := ⟨ps_retN.weak fun D σ H ⟨O, ms, F, δ, μ, o, R, ev, hO, k⟩ => by cases ev; exact k .non H ms F R.hr R.st rfl⟩
def bSet (i : Nat) (f : EF) : BF := fun δ μ => match f δ μ with
  | some (d, μ1) => some (.nx (δ.set i (.d d)) μ1)
  | none => none
theorem ds_set {i : Nat} {x : Str} {pos' : Pos} (hN : X.N.Nodup) (hi : X.N[i]? = some x) (hx : Loc X.env.scope x) (h : DE X cl e fe) (hs : swapsWith e (some (.Name x pos')) pos.line X.env = pure false := by rfl) (hf : X.fn x = true ∨ X.env.scope.names.lookup x = some .local := by first | exact .inl rfl | exact .inr rfl | assumption) :
    DS X cl (.Assign [.Name x pos'] e pos) (bSet i fe) := ⟨(ps_set hN hi hx h.p hs hf).weak fun D σ H ⟨O, ms, F, δ, μ, o, R, ev, hO, k⟩ => by
  unfold bSet at ev
  split at ev
  · rename_i d μ1 e1
    cases ev
    exact tE.seq R e1 fun v H1 ms1 F1 R1 s1 q1 => k _ H1 ms1 F1 (R1.set q1 i) s1.ext
  · cases ev⟩
/-- x = [..], x's own list -/
def bOwn (i : Nat) (f : NF) : BF := fun δ μ => match f δ μ with
  | some (d, μ1) => some (.nx (δ.set i (.own d)) μ1)
  | none => none
theorem ds_own {i : Nat} {x : Str} {pos' : Pos} (hN : X.N.Nodup) (hi : X.N[i]? = some x) (hx : Loc X.env.scope x) (h : DN X cl e n) (hs : swapsWith e (some (.Name x pos')) pos.line X.env = pure false := by rfl) (hf : X.fn x = true ∨ X.env.scope.names.lookup x = some .local := by first | exact .inl rfl | exact .inr rfl | assumption) :
    DS X cl (.Assign [.Name x pos'] e pos) (bOwn i n) := ⟨(ps_set hN hi hx h.p hs hf).weak fun D σ H ⟨O, ms, F, δ, μ, o, R, ev, hO, k⟩ => by
  unfold bOwn at ev
  split at ev
  · rename_i d μ1 e1
    cases ev
    refine ⟨O, ms, F, δ, μ, d, _, R, e1, fun vs H1 ms1 F1 p r1 s1 q1 hp h0 hm hF => ?_⟩
    exact k _ H1 ms1 F1 ((R.step r1 s1).own hp q1 hF hm (R.old0 h0) (fun j es e => R.notOwn h0 j es e) i) s1.ext
  · cases ev⟩
/-- ahead of a statement an own list is frozen -/
def bFrz (i : Nat) (f : BF) : BF := fun δ μ => match δ[i]? with
  | some (.own xs) => f (δ.set i (.d (.lst xs))) μ
  | _ => none
theorem ds_frz (i : Nat) (h : DS X cl st f) : DS X cl st (bFrz i f) := ⟨h.p.weak fun D σ H ⟨O, ms, F, δ, μ, o, R, ev, hO, k⟩ => by
  unfold bFrz at ev
  split at ev
  · rename_i xs hd
    obtain ⟨F', R', sF⟩ := R.ownFreeze hd
    exact ⟨O, ms, F', _, μ, o, R', ev, hO, k.step ⟨⟨[], by simp⟩, sF⟩⟩
  · cases ev⟩
theorem db_frz (i : Nat) (h : DB X cl sts f) : DB X cl sts (bFrz i f) := ⟨h.p.weak fun D σ H ⟨O, ms, F, δ, μ, o, R, ev, hO, k⟩ => by
  unfold bFrz at ev
  split at ev
  · rename_i xs hd
    obtain ⟨F', R', sF⟩ := R.ownFreeze hd
    exact ⟨O, ms, F', _, μ, o, R', ev, hO, k.step ⟨⟨[], by simp⟩, sF⟩⟩
  · cases ev⟩
def bIf (t : TF) (f g : BF) : BF := fun δ μ => match t δ μ with
  | some (c, μ1) => if c = true then f δ μ1 else g δ μ1
  | none => none
theorem ds_if {c : Expr} {ta : TF} {sa sb : List Stmt} (hc : DT X cl c ta) (ha : DB X cl sa f) (hb : DB X cl sb g) : DS X cl (.If c sa sb pos) (bIf ta f g) := ⟨(ps_if hc.p ha.p hb.p).weak fun D σ H ⟨O, ms, F, δ, μ, o, R, ev, hO, k⟩ => by
  unfold bIf at ev
  split at ev
  · rename_i c1 μ1 e1
    refine tT.seq R e1 fun H1 ms1 F1 R1 s1 => ?_
    cases c1 with
    | true => exact ⟨O, ms1, F1, δ, μ1, o, R1, ev, hO, k.step s1.ext⟩
    | false => exact ⟨O, ms1, F1, δ, μ1, o, R1, ev, hO, k.step s1.ext⟩
  · cases ev⟩
/-- x.append(e), x's own list -/
def bApp (i : Nat) (f : EF) : BF := fun δ μ => match f δ μ with
  | some (d, μ1) => match δ[i]? with
    | some (.own xs) => if xs.length < 1000000 then some (.nx (δ.set i (.own (xs ++ [d]))) μ1) else none
    | _ => none
  | none => none
theorem ds_app {i : Nat} {x : Str} {p1 p2 : Pos} (hx : PE X (.Name x p1) (tVar i)) (h : DE X cl e fe) (he : starEach (e :: []) X.env = (false, eval e X.env) :: starEach [] X.env := by rfl) (hpl : (backTo p2 (starEach [] X.env)).any (·.1) = false := by rfl) {apos : Pos}
    (hs : swapsWith (.Call (.Attribute (.Name x p1) "append" apos) [e] [] p2) none pos.line X.env = pure false := by rfl) (hb : PE X (.Call (.Attribute (.Name x p1) "append" apos) [e] [] p2) (tBM X.K "list" rAppend (tVar i) (tCons (tE (gm X cl) fe) tNil)) := by assumption) :
    DS X cl (.Expr (.Call (.Attribute (.Name x p1) "append" apos) [e] [] p2) pos) (bApp i fe) := ⟨(ps_expr hb hs).weak fun D σ H ⟨O, ms, F, δ, μ, o, R, ev, hO, k⟩ => by
  unfold bApp at ev
  split at ev
  · rename_i d μ1 e1
    split at ev
    · rename_i xs hd
      split at ev
      · rename_i hz
        cases ev
        obtain ⟨a, vs, ea, ha, hl, _⟩ := R.er.ok i _ hd
        refine ⟨_, ea, .inl ⟨rfl, _, .inl (.inl ha)⟩, ?_⟩
        refine tE.seq R e1 fun v H1 ms1 F1 R1 s1 q1 => ?_
        obtain ⟨a', vs1, ea', ha1, hl1, hr'⟩ := R1.er.ok i _ hd
        rw [ea] at ea'; cases ea'
        refine ⟨a, vs1, v, rfl, rfl, ha1, ?_, k σ _ ms1 F1 (R1.ownSet hd ea ha1 (hl1.append (HasL.one q1))) s1.ext⟩
        rw [hl1.length, sizeLine_eq]; omega
      · cases ev
    · cases ev
  · cases ev⟩
end
end G

set_option Elab.async false
set_option linter.all false
set_option autoImplicit false
set_option maxRecDepth 100000
set_option maxHeartbeats 2000000
namespace G
open PySem PySem.Spec L2

/-! ### targets -/
abbrev GF := D → List SV → Option (List SV)
abbrev GFs := List D → List SV → Option (List SV)
def tG (Γ : Gm) (g : GF) (ix : List Nat) : TG := fun v σ H Q => ∃ O ms F δ μ d δ', SR Γ O ms F H σ δ μ ∧ Has Γ ms F v d ∧ g d δ = some δ' ∧ ∀ σ', SR Γ O ms F H σ' δ' μ → σ'.length = σ.length → (∀ j, j ∉ ix → σ'[j]? = σ[j]?) → Q σ' H
def tGs (Γ : Gm) (g : GFs) (ix : List Nat) : TGs := fun v σ H Q => ∃ O ms F δ μ d δ', SR Γ O ms F H σ δ μ ∧ HasL Γ ms F v d ∧ g d δ = some δ' ∧ ∀ σ', SR Γ O ms F H σ' δ' μ → σ'.length = σ.length → (∀ j, j ∉ ix → σ'[j]? = σ[j]?) → Q σ' H
structure DG (X : Cx) (cl : Nat → Addr) (e : Expr) (g : GF) (ix : List Nat) : Prop where
  p : PG X e (tG (gm X cl) g ix)
structure DGs (X : Cx) (cl : Nat → Addr) (e : List Expr) (g : GFs) (ix : List Nat) : Prop where
  p : PGs X e (tGs (gm X cl) g ix)
theorem _root_.L2.PG.weak {X : Cx} {e : Expr} {t t' : TG} (h : PG X e t) (k : ∀ v σ H Q, t' v σ H Q → t v σ H Q) : PG X e t' := ⟨fun pins s σ H v u Q I r q => h.run pins s σ H v u Q I r (k v σ H Q q)⟩
theorem _root_.L2.PGs.weak {X : Cx} {e : List Expr} {t t' : TGs} (h : PGs X e t) (k : ∀ v σ H Q, t' v σ H Q → t v σ H Q) : PGs X e t' := ⟨fun pins s σ H v u Q I r q => h.run pins s σ H v u Q I r (k v σ H Q q)⟩
section
variable {X : Cx} {cl : Nat → Addr} {e : Expr} {es : List Expr} {g : GF} {gs : GFs} {pos : Pos} {ix iy : List Nat}
def nmG (i : Nat) : GF := fun d δ => some (δ.set i (.d d))
theorem dg_name {i : Nat} {x : Str} (hN : X.N.Nodup) (hi : X.N[i]? = some x) (hx : Loc X.env.scope x) (hf : X.fn x = true ∨ X.env.scope.names.lookup x = some .local := by first | exact .inl rfl | exact .inr rfl | assumption) : DG X cl (.Name x pos) (nmG i) [i] :=
  ⟨(pg_name hN hi hx hf).weak fun v σ H Q ⟨O, ms, F, δ, μ, d, δ', R, q, ev, k⟩ => by cases ev; exact k _ (R.set q i) (by simp) (fun j hj => List.getElem?_set_ne (by simp at hj; omega))⟩
def nilG : GFs := fun ds δ => match ds with
  | [] => some δ
  | _ => none
def consG (g : GF) (r : GFs) : GFs := fun ds δ => match ds with
  | d :: t => match g d δ with
    | some δ1 => r t δ1
    | none => none
  | [] => none
def tupG (n : Nat) (r : GFs) : GF := fun d δ => match d with
  | .tup ds => if ds.length = n then r ds δ else none
  | _ => none
theorem dgs_nil : DGs X cl [] nilG [] := ⟨pgs_nil.weak fun v σ H Q ⟨O, ms, F, δ, μ, d, δ', R, q, ev, k⟩ => by
  cases d with
  | nil => cases ev; cases q; exact ⟨rfl, k σ R rfl fun _ _ => rfl⟩
  | cons _ _ => cases ev⟩
theorem dgs_cons (h1 : DG X cl e g ix) (h2 : DGs X cl es gs iy) (hs : (assignEach (e :: es) X.env).map (·.2) = assign e X.env :: (assignEach es X.env).map (·.2) := by rfl) : DGs X cl (e :: es) (consG g gs) (ix ++ iy) := ⟨(pgs_cons h1.p h2.p hs).weak fun v σ H Q ⟨O, ms, F, δ, μ, d, δ', R, q, ev, k⟩ => by
  cases d with
  | nil => cases ev
  | cons d ds =>
    obtain ⟨w, ws, rfl, q1, q2⟩ := q
    unfold consG at ev
    dsimp only at ev
    split at ev
    · rename_i δ1 e1
      exact ⟨w, ws, rfl, O, ms, F, δ, μ, d, δ1, R, q1, e1, fun σ' R' l' a' => ⟨O, ms, F, δ1, μ, ds, δ', R', q2, ev, fun σ2 R2 l2 a2 => k σ2 R2 (l2.trans l') fun j hj => (a2 j fun z => hj (List.mem_append_right _ z)).trans (a' j fun z => hj (List.mem_append_left _ z))⟩⟩
    · cases ev⟩
theorem dg_tup {k : Nat} {n : Nat} (hc : X.calm = true) (h : DGs X cl es gs ix) (hn : (assignEach es X.env).length = n := by rfl) (hst : (assignEach es X.env).findIdx? (·.1) = none := by rfl) : DG X cl (.Tuple es k pos) (tupG n gs) ix :=
  ⟨(pg_tup hc h.p hn hst).weak fun v σ H Q ⟨O, ms, F, δ, μ, d, δ', R, q, ev, k⟩ => by
  unfold tupG at ev
  split at ev
  · split at ev
    · rename_i ds hl
      obtain ⟨a, xs, rfl, hs, l⟩ := q
      exact ⟨a, xs, rfl, (Tp.same R.hr.sub hs).sq, by rw [l.length]; exact hl, O, ms, F, δ, μ, ds, δ', R, l, ev, k⟩
    · cases ev
  · cases ev⟩
end

/-! ### what a loop walks -/
structure Yld (Γ : Gm) (J : It) (ds : List D) (ms0 : List Addr) (F0 : Hp) : Prop where
  go : ∀ ms F H μ i, HR Γ ms F H μ → Ext ms0 ms F0 F → i < ds.length → J.go i H
  stop : ∀ ms F H μ i, HR Γ ms F H μ → Ext ms0 ms F0 F → ds.length ≤ i → J.stop i H
  yld : ∀ ms F H μ i d x H', HR Γ ms F H μ → Ext ms0 ms F0 F → ds[i]? = some d → J.yld i H x H' → ∃ ms' F', HR Γ ms' F' H' μ ∧ Stp ms ms' F F' H H' ∧ Has Γ ms' F' x d
abbrev IF := List SV → List MO → Option (List D × List MO)
def tI (Γ : Gm) (f : IF) : TI := fun σ H R => ∃ O ms F δ μ ds μ1, SR Γ O ms F H σ δ μ ∧ f δ μ = some (ds, μ1) ∧
  ∀ J H1 ms1 F1, HR Γ ms1 F1 H1 μ1 → Stp ms ms1 F F1 H H1 → Yld Γ J ds ms1 F1 → R J H1
structure DI (X : Cx) (cl : Nat → Addr) (tg e : Expr) (f : IF) : Prop where
  p : PI X tg e (tI (gm X cl) f)
theorem _root_.L2.PI.weak {X : Cx} {tg e : Expr} {t t' : TI} (h : PI X tg e t) (k : ∀ σ H R, t' σ H R → t σ H R) : PI X tg e t' := ⟨fun pins s σ H R I q => h.run pins s σ H R I (k σ H R q)⟩
theorem Has.ext {Γ : Gm} {ms ms' : List Addr} {F F' : Hp} {v : V} {d : D} (h : Has Γ ms F v d) (e : Ext ms ms' F F') : Has Γ ms' F' v d := by
  obtain ⟨n, rfl⟩ := e.new
  exact h.mono e.fsub
theorem HasL.ext {Γ : Gm} {ms ms' : List Addr} {F F' : Hp} {v : List V} {d : List D} (h : HasL Γ ms F v d) (e : Ext ms ms' F F') : HasL Γ ms' F' v d := by
  obtain ⟨n, rfl⟩ := e.new
  exact h.mono e.fsub
theorem HasL.bound {Γ : Gm} {ms : List Addr} {F : Hp} {v : List V} {d : List D} (h : HasL Γ ms F v d) {i : Nat} (hi : i < d.length) : ∃ x, v[i]? = some x := ⟨v[i]'(by rw [h.length]; exact hi), List.getElem?_eq_getElem _⟩
theorem yld_list {Γ : Gm} {ms0 : List Addr} {F0 : Hp} {a : Addr} {xs : List V} {ds : List D} (hs : F0 a = some (.lst xs)) (hl : HasL Γ ms0 F0 xs ds) : Yld Γ (Itl Γ.K a) ds ms0 F0 where
  go := fun ms F H μ i r e hi => let ⟨x, hx⟩ := hl.bound hi; ⟨xs, x, SqL.of (r.sub _ _ (e.fsub _ _ hs)), hx⟩
  stop := fun ms F H μ i r e hi => ⟨xs, SqL.of (r.sub _ _ (e.fsub _ _ hs)), by rw [hl.length]; exact hi⟩
  yld := fun ms F H μ i d x H' r e hd y => by
    obtain ⟨rfl, y⟩ := y
    obtain ⟨v, hv, q⟩ := hl.get hd
    have := y xs (SqL.of (r.sub _ _ (e.fsub _ _ hs)))
    rw [hv] at this; cases this
    exact ⟨ms, F, r, Stp.refl _ _ _, q.ext e⟩
theorem yld_tup {Γ : Gm} {ms0 : List Addr} {F0 : Hp} {a : Addr} {xs : List V} {ds : List D} (hs : Tp Γ.K F0 a xs) (hl : HasL Γ ms0 F0 xs ds) : Yld Γ (Itt Γ.K a) ds ms0 F0 where
  go := fun ms F H μ i r e hi => let ⟨x, hx⟩ := hl.bound hi; ⟨xs, x, (Tp.same r.sub (Tp.same e.fsub hs)).sq, hx⟩
  stop := fun ms F H μ i r e hi => ⟨xs, (Tp.same r.sub (Tp.same e.fsub hs)).sq, by rw [hl.length]; exact hi⟩
  yld := fun ms F H μ i d x H' r e hd y => by
    obtain ⟨rfl, y⟩ := y
    obtain ⟨v, hv, q⟩ := hl.get hd
    have := y xs ((Tp.same r.sub (Tp.same e.fsub hs)).sq)
    rw [hv] at this; cases this
    exact ⟨ms, F, r, Stp.refl _ _ _, q.ext e⟩
def rangeD (lo : Int) (n : Nat) : List D := (List.range n).map fun i => .int (lo + (i : Nat))
theorem rangeD_length (lo : Int) (n : Nat) : (rangeD lo n).length = n := by simp [rangeD]
theorem rangeD_get {lo : Int} {n i : Nat} {d : D} (h : (rangeD lo n)[i]? = some d) : d = .int (lo + (i : Nat)) := by
  unfold rangeD at h
  rw [List.getElem?_map] at h
  cases e : (List.range n)[i]? with
  | none => rw [e] at h; cases h
  | some j =>
    rw [e] at h
    have hi := (List.getElem?_eq_some_iff.mp e)
    obtain ⟨h1, h2⟩ := hi
    simp at h2
    subst h2
    cases h; rfl
theorem yld_range {Γ : Gm} {ms0 : List Addr} {F0 : Hp} (lo : Int) (n : Nat) : Yld Γ (Itr lo n) (rangeD lo n) ms0 F0 where
  go := fun ms F H μ i r e hi => by rw [rangeD_length] at hi; exact hi
  stop := fun ms F H μ i r e hi => by rw [rangeD_length] at hi; exact hi
  yld := fun ms F H μ i d x H' r e hd y => by
    obtain ⟨rfl, rfl⟩ := y
    rw [rangeD_get hd]
    exact ⟨ms, F, r, Stp.refl _ _ _, rfl⟩
def signsD (x : Str) : List D := x.cps.toList.map fun c => .str ⟨#[c]⟩
theorem yld_str {Γ : Gm} {ms0 : List Addr} {F0 : Hp} (x : Str) : Yld Γ (Its x) (signsD x) ms0 F0 where
  go := fun ms F H μ i r e hi => by
    show i < x.cps.size
    simpa [signsD] using hi
  stop := fun ms F H μ i r e hi => by
    show x.cps.size ≤ i
    simpa [signsD] using hi
  yld := fun ms F H μ i d x' H' r e hd y => by
    obtain ⟨rfl, c, hc, rfl⟩ := y
    unfold signsD at hd
    rw [List.getElem?_map, Array.getElem?_toList, hc] at hd
    cases hd
    exact ⟨ms, F, r, Stp.refl _ _ _, rfl⟩
def enumD (ds : List D) : List D := ds.mapIdx fun i d => .tup [.int (i : Nat), d]
theorem enumD_get {ds : List D} {i : Nat} {d : D} (h : (enumD ds)[i]? = some d) : ∃ x, ds[i]? = some x ∧ d = .tup [.int (i : Nat), x] := by
  unfold enumD at h
  rw [List.getElem?_mapIdx] at h
  cases e : ds[i]? with
  | none => rw [e] at h; cases h
  | some x => rw [e] at h; cases h; exact ⟨x, rfl, rfl⟩
theorem yld_enum {Γ : Gm} {ms0 : List Addr} {F0 : Hp} {a : Addr} {xs : List V} {ds : List D} (hs : F0 a = some (.lst xs)) (hl : HasL Γ ms0 F0 xs ds) : Yld Γ (Ite Γ.K a) (enumD ds) ms0 F0 where
  go := fun ms F H μ i r e hi => let ⟨x, hx⟩ := hl.bound (by simpa [enumD] using hi); ⟨xs, x, SqL.of (r.sub _ _ (e.fsub _ _ hs)), hx⟩
  stop := fun ms F H μ i r e hi => ⟨xs, SqL.of (r.sub _ _ (e.fsub _ _ hs)), by rw [hl.length]; simpa [enumD] using hi⟩
  yld := fun ms F H μ i d x' H' r e hd y => by
    obtain ⟨T, x, rfl, hT, rfl, y⟩ := y
    obtain ⟨dx, hx, rfl⟩ := enumD_get hd
    obtain ⟨v, hv, q⟩ := hl.get hx
    have := y xs (SqL.of (r.sub _ _ (e.fsub _ _ hs)))
    rw [hv] at this; cases this
    obtain ⟨r', s⟩ := r.alloc hT (.tup [.int (i : Nat), x])
    exact ⟨ms, _, r', s, T, _, rfl, Tp.of upd_same, _, _, rfl, rfl, _, _, rfl, (q.ext e).step s, rfl⟩
def zipD (as bs : List D) : List D := (as.zip bs).map fun p => .tup [p.1, p.2]
theorem zipD_get {as bs : List D} {i : Nat} {d : D} (h : (zipD as bs)[i]? = some d) : ∃ x y, as[i]? = some x ∧ bs[i]? = some y ∧ d = .tup [x, y] := by
  unfold zipD at h
  rw [List.getElem?_map] at h
  cases e : (as.zip bs)[i]? with
  | none => rw [e] at h; cases h
  | some p =>
    rw [e] at h; cases h
    rw [List.getElem?_zip_eq_some] at e
    exact ⟨p.1, p.2, e.1, e.2, rfl⟩
theorem yld_zip {Γ : Gm} {ms0 : List Addr} {F0 : Hp} {a b : Addr} {xs ys : List V} {ds es : List D} (hs : F0 a = some (.lst xs)) (hl : HasL Γ ms0 F0 xs ds) (ht : F0 b = some (.lst ys)) (hm : HasL Γ ms0 F0 ys es) : Yld Γ (Itz Γ.K a b) (zipD ds es) ms0 F0 where
  go := fun ms F H μ i r e hi => by
    have hi' : i < ds.length ∧ i < es.length := by simp [zipD] at hi; omega
    obtain ⟨x, hx⟩ := hl.bound hi'.1
    obtain ⟨y, hy⟩ := hm.bound hi'.2
    exact ⟨xs, ys, x, y, SqL.of (r.sub _ _ (e.fsub _ _ hs)), SqL.of (r.sub _ _ (e.fsub _ _ ht)), hx, hy⟩
  stop := fun ms F H μ i r e hi => ⟨xs, ys, SqL.of (r.sub _ _ (e.fsub _ _ hs)), SqL.of (r.sub _ _ (e.fsub _ _ ht)), by rw [hl.length, hm.length]; simp [zipD] at hi; omega⟩
  yld := fun ms F H μ i d x' H' r e hd y => by
    obtain ⟨T, x, z, rfl, hT, rfl, y1, y2⟩ := y
    obtain ⟨dx, dy, hx, hy, rfl⟩ := zipD_get hd
    obtain ⟨v, hv, q⟩ := hl.get hx
    obtain ⟨w, hw, q'⟩ := hm.get hy
    have := y1 xs (SqL.of (r.sub _ _ (e.fsub _ _ hs)))
    rw [hv] at this; cases this
    have := y2 ys (SqL.of (r.sub _ _ (e.fsub _ _ ht)))
    rw [hw] at this; cases this
    obtain ⟨r', s⟩ := r.alloc hT (.tup [x, z])
    exact ⟨ms, _, r', s, T, _, rfl, Tp.of upd_same, _, _, rfl, (q.ext e).step s, _, _, rfl, (q'.ext e).step s, rfl⟩
section
variable {X : Cx} {cl : Nat → Addr} {tg e a b c : Expr} {es : List Expr} {fe fa fb : EF} {pos : Pos} {r : AF} {n : NF} {st : Stmt} {sts : List Stmt} {f g : BF} {ix : List Nat}
def iL (f : EF) : IF := eThen f fun d _ μ => match d with
  | .lst ds => some (ds, μ)
  | _ => none
def iT (f : EF) : IF := eThen f fun d _ μ => match d with
  | .tup ds => some (ds, μ)
  | _ => none
def iS (f : EF) : IF := eThen f fun d _ μ => match d with
  | .str x => some (signsD x, μ)
  | _ => none
theorem di_list (h : DE X cl e fe) : DI X cl tg e (iL fe) := ⟨(pi_list h.p).weak fun σ H R ⟨O, ms, F, δ, μ, ds, μ', S, ev, k⟩ => by
  obtain ⟨d1, μ1, e1, ev⟩ := eThen_some ev
  refine tE.seq S e1 fun v H1 ms1 F1 R1 s1 q1 => ?_
  split at ev
  · cases ev
    obtain ⟨a, xs, rfl, hs, hl⟩ := q1
    exact ⟨a, rfl, ⟨xs, SqL.of (R1.hr.sub _ _ hs)⟩, k _ H1 ms1 F1 R1.hr s1 (yld_list (Γ := gm X cl) hs hl)⟩
  · cases ev⟩
theorem di_tup (h : DE X cl e fe) : DI X cl tg e (iT fe) := ⟨(pi_tup h.p).weak fun σ H R ⟨O, ms, F, δ, μ, ds, μ', S, ev, k⟩ => by
  obtain ⟨d1, μ1, e1, ev⟩ := eThen_some ev
  refine tE.seq S e1 fun v H1 ms1 F1 R1 s1 q1 => ?_
  split at ev
  · cases ev
    obtain ⟨a, xs, rfl, hs, hl⟩ := q1
    exact ⟨a, rfl, ⟨xs, (Tp.same R1.hr.sub hs).sq⟩, k _ H1 ms1 F1 R1.hr s1 (yld_tup (Γ := gm X cl) hs hl)⟩
  · cases ev⟩
theorem di_str (h : DE X cl e fe) : DI X cl tg e (iS fe) := ⟨(pi_str h.p).weak fun σ H R ⟨O, ms, F, δ, μ, ds, μ', S, ev, k⟩ => by
  obtain ⟨d1, μ1, e1, ev⟩ := eThen_some ev
  refine tE.seq S e1 fun v H1 ms1 F1 R1 s1 q1 => ?_
  split at ev
  · cases ev
    exact ⟨_, q1, k _ H1 ms1 F1 R1.hr s1 (yld_str _)⟩
  · cases ev⟩
def iR1 (r : AF) : IF := aThen r fun ds _ μ => match ds with
  | [.int n] => if -(2 ^ 62) ≤ n ∧ n < 2 ^ 62 then some (rangeD 0 n.toNat, μ) else none
  | _ => none
def iR2 (r : AF) : IF := aThen r fun ds _ μ => match ds with
  | [.int m, .int n] => if (-(2 ^ 62) ≤ m ∧ m < 2 ^ 62) ∧ (-(2 ^ 62) ≤ n ∧ n < 2 ^ 62) then some (rangeD m (n - m).toNat, μ) else none
  | _ => none
theorem HasL.one' {Γ : Gm} {ms : List Addr} {F : Hp} {vs : List V} {d : D} (h : HasL Γ ms F vs [d]) : ∃ v, vs = [v] ∧ Has Γ ms F v d := by
  obtain ⟨v, ws, rfl, h1, h2⟩ := h
  cases h2
  exact ⟨v, rfl, h1⟩
theorem HasL.two' {Γ : Gm} {ms : List Addr} {F : Hp} {vs : List V} {d e : D} (h : HasL Γ ms F vs [d, e]) : ∃ v w, vs = [v, w] ∧ Has Γ ms F v d ∧ Has Γ ms F w e := by
  obtain ⟨v, ws, rfl, h1, h2⟩ := h
  obtain ⟨w, rfl, h3⟩ := h2.one'
  exact ⟨v, w, rfl, h1, h3⟩
theorem di_range1 {p : Pos} (hg : Gl X "range") (hm : X.mg "range" = none) (ha : DA X cl [a] r) (hs : starEach [a] X.env = [(false, eval a X.env)] := by rfl) : DI X cl tg (.Call (.Name "range" p) [a] [] pos) (iR1 r) := ⟨(pi_range1 hg hm ha.p hs).weak fun σ H R ⟨O, ms, F, δ, μ, ds, μ', S, ev, k⟩ => by
  obtain ⟨d1, μ1, e1, ev⟩ := aThen_some ev
  refine tA.seq S e1 fun v H1 ms1 F1 R1 s1 q1 => ?_
  split at ev
  · split at ev
    · rename_i hz
      cases ev
      obtain ⟨v, rfl, hv⟩ := q1.one'
      exact ⟨_, by rw [hv], hz.1, hz.2, k _ H1 ms1 F1 R1.hr s1 (yld_range _ _)⟩
    · cases ev
  · cases ev⟩
theorem di_range2 {p : Pos} (hg : Gl X "range") (hm : X.mg "range" = none) (ha : DA X cl [a, b] r) (hs : starEach [a, b] X.env = [(false, eval a X.env), (false, eval b X.env)] := by rfl) (hs2 : starEach [b] X.env = [(false, eval b X.env)] := by rfl) : DI X cl tg (.Call (.Name "range" p) [a, b] [] pos) (iR2 r) := ⟨(pi_range2 hg hm ha.p hs hs2).weak fun σ H R ⟨O, ms, F, δ, μ, ds, μ', S, ev, k⟩ => by
  obtain ⟨d1, μ1, e1, ev⟩ := aThen_some ev
  refine tA.seq S e1 fun v H1 ms1 F1 R1 s1 q1 => ?_
  split at ev
  · split at ev
    · rename_i hz
      cases ev
      obtain ⟨v, w, rfl, hv, hw⟩ := q1.two'
      exact ⟨_, _, by rw [hv, hw], ⟨hz.1.1, hz.1.2, hz.2.1, hz.2.2⟩, k _ H1 ms1 F1 R1.hr s1 (yld_range _ _)⟩
    · cases ev
  · cases ev⟩
def iE (r : AF) : IF := aThen r fun ds _ μ => match ds with
  | [.lst xs] => some (enumD xs, μ)
  | _ => none
def iZ (r : AF) : IF := aThen r fun ds _ μ => match ds with
  | [.lst xs, .lst ys] => some (zipD xs ys, μ)
  | _ => none
theorem di_enum {p tpos : Pos} {elts : List Expr} {kk : Nat} (hg : Gl X "enumerate") (hm : X.mg "enumerate" = none) (ha : DA X cl [e] r) (hs : starEach [e] X.env = [(false, eval e X.env)] := by rfl) : DI X cl (.Tuple elts kk tpos) (.Call (.Name "enumerate" p) [e] [] pos) (iE r) := ⟨(pi_enum hg hm ha.p hs).weak fun σ H R ⟨O, ms, F, δ, μ, ds, μ', S, ev, k⟩ => by
  obtain ⟨d1, μ1, e1, ev⟩ := aThen_some ev
  refine tA.seq S e1 fun v H1 ms1 F1 R1 s1 q1 => ?_
  split at ev
  · cases ev
    obtain ⟨v, rfl, a, xs, rfl, hs, hl⟩ := q1.one'
    exact ⟨a, xs, rfl, SqL.of (R1.hr.sub _ _ hs), k _ H1 ms1 F1 R1.hr s1 (yld_enum (Γ := gm X cl) hs hl)⟩
  · cases ev⟩
theorem di_zip {p tpos : Pos} {elts : List Expr} {kk : Nat} (hg : Gl X "zip") (hm : X.mg "zip" = none) (ha : DA X cl [a, b] r) (hs : starEach [a, b] X.env = (false, eval a X.env) :: starEach [b] X.env := by rfl) (hpl : (backTo pos (starEach [b] X.env)).any (·.1) = false := by rfl) : DI X cl (.Tuple elts kk tpos) (.Call (.Name "zip" p) [a, b] [] pos) (iZ r) := ⟨(pi_zip hg hm ha.p hs hpl).weak fun σ H R ⟨O, ms, F, δ, μ, ds, μ', S, ev, k⟩ => by
  obtain ⟨d1, μ1, e1, ev⟩ := aThen_some ev
  refine tA.seq S e1 fun v H1 ms1 F1 R1 s1 q1 => ?_
  split at ev
  · cases ev
    obtain ⟨v, w, rfl, ⟨a, xs, rfl, hs, hl⟩, b', ys, rfl, ht, hm'⟩ := q1.two'
    exact ⟨a, b', xs, ys, rfl, SqL.of (R1.hr.sub _ _ hs), SqL.of (R1.hr.sub _ _ ht), k _ H1 ms1 F1 R1.hr s1 (yld_zip (Γ := gm X cl) hs hl ht hm')⟩
  · cases ev⟩

/-! ### for -/
def forLoop (g : GF) (body : BF) : List D → List SV → List MO → Option Out
  | [], δ, μ => some (.nx δ μ)
  | d :: ds, δ, μ => match g d δ with
    | none => none
    | some δ1 => match body δ1 μ with
      | some (.nx δ2 μ2) => forLoop g body ds δ2 μ2
      | some (.ct δ2 μ2) => forLoop g body ds δ2 μ2
      | some (.bk δ2 μ2) => some (.nx δ2 μ2)
      | some (.rt d μ2) => some (.rt d μ2)
      | some (.xc C f m d δ2 μ2) => some (.xc C f m d δ2 μ2)
      | none => none
def bFor (i : IF) (g : GF) (body : BF) : BF := fun δ μ => match i δ μ with
  | some (ds, μ1) => forLoop g body ds δ μ1
  | none => none
theorem ds_for {iter : Expr} {body : List Stmt} {fi : IF} {tgt : GF} {bd : BF} (hp : PassesOwn (model X.prog X.w) X.A X.env X.xe) (hc : X.calm = true) (hi : DI X cl tg iter fi) (hg : DG X cl tg tgt ix) (hb : DB X cl body bd)
    (hs : ∀ x, foldedSetIterable iter X.env x = pure x := by intro _; rfl) : DS X cl (.For tg iter body [] pos) (bFor fi tgt bd) := ⟨(ps_for hp hc hi.p hg.p hb.p hs).weak fun D σ H ⟨O, ms, F, δ, μ, o, R, ev, hO, k⟩ => by
  unfold bFor at ev
  split at ev
  · rename_i ds μ1 e1
    refine ⟨O, ms, F, δ, μ, ds, μ1, R, e1, fun J H1 ms1 F1 r1 s1 Y => ?_⟩
    let P : Nat → L2.St → Hp → Prop := fun i σ H => ∃ ms F δ μ, SR (gm X cl) O ms F H σ δ μ ∧ Ext ms1 ms F1 F ∧ forLoop tgt bd (ds.drop i) δ μ = some o
    have k1 := k.step s1.ext
    refine ⟨fun i m σ H => m = ds.length - i ∧ i ≤ ds.length ∧ P i σ H, ⟨_, rfl, Nat.zero_le _, ms1, F1, δ, μ1, R.step r1 s1, Ext.refl _ _, by simpa using ev⟩, ?_⟩
    rintro i m σ2 H2 ⟨rfl, hi, ms2, F2, δ2, μ2, R2, x2, ev2⟩
    by_cases hlt : i < ds.length
    · have hd : ds[i]? = some ds[i] := List.getElem?_eq_getElem hlt
      rw [List.drop_eq_getElem_cons hlt] at ev2
      unfold forLoop at ev2
      refine .inr ⟨Y.go ms2 F2 H2 μ2 i R2.hr x2 hlt, P (i + 1), fun σ' H' p' => ⟨_, by omega, rfl, hlt, p'⟩, fun x H' y => ?_⟩
      obtain ⟨ms3, F3, r3, s3, q3⟩ := Y.yld ms2 F2 H2 μ2 i _ x H' R2.hr x2 hd y
      split at ev2
      · cases ev2
      · rename_i δ3 eg
        refine ⟨O, ms3, F3, δ2, μ2, _, δ3, R2.step r3 s3, q3, eg, fun σ4 R4 _ _ => ?_⟩
        have x3 : Ext ms1 ms3 F1 F3 := x2.trans s3.ext
        split at ev2
        · rename_i δ5 μ5 eb
          exact ⟨O, ms3, F3, δ3, μ2, _, R4, eb, hO, fun σ' H' m F' R' x => ⟨m, F', _, _, R', x3.trans x, ev2⟩⟩
        · rename_i δ5 μ5 eb
          exact ⟨O, ms3, F3, δ3, μ2, _, R4, eb, hO, fun σ' H' m F' R' x => ⟨m, F', _, _, R', x3.trans x, ev2⟩⟩
        · rename_i δ5 μ5 eb
          cases ev2
          exact ⟨O, ms3, F3, δ3, μ2, _, R4, eb, hO, fun σ' H' m F' R' x => k1 σ' H' m F' R' (x3.trans x)⟩
        · rename_i d5 μ5 eb
          cases ev2
          exact ⟨O, ms3, F3, δ3, μ2, _, R4, eb, hO, k1⟩
        · rename_i eb
          cases ev2
          exact ⟨O, ms3, F3, δ3, μ2, _, R4, eb, hO, k1.step x3⟩
        · cases ev2
    · have : i = ds.length := by omega
      subst this
      rw [List.drop_length] at ev2
      cases ev2
      exact .inl ⟨Y.stop ms2 F2 H2 μ2 _ R2.hr x2 (Nat.le_refl _), k1 σ2 H2 ms2 F2 R2 x2⟩
  · cases ev⟩
/-! ### while -/
def whileLoop (t : TF) (body : BF) : Nat → BF
  | 0 => fun _ _ => none
  | n + 1 => fun δ μ => match t δ μ with
    | none => none
    | some (false, μ1) => some (.nx δ μ1)
    | some (true, μ1) => match body δ μ1 with
      | some (.nx δ2 μ2) => whileLoop t body n δ2 μ2
      | some (.ct δ2 μ2) => whileLoop t body n δ2 μ2
      | some (.bk δ2 μ2) => some (.nx δ2 μ2)
      | some (.rt d μ2) => some (.rt d μ2)
      | some (.xc C f m d δ2 μ2) => some (.xc C f m d δ2 μ2)
      | none => none
theorem ds_while {c : Expr} {body : List Stmt} {tc : TF} {bd : BF} (fuel : Nat) (hp : PassesOwn (model X.prog X.w) X.A X.env X.xe) (hc : DT X cl c tc) (hb : DB X cl body bd) : DS X cl (.While c body [] pos) (whileLoop tc bd fuel) := ⟨(ps_while hp hc.p hb.p).weak fun D σ H ⟨O, ms, F, δ, μ, o, R, ev, hO, k⟩ => by
  let P : Nat → L2.St → Hp → Prop := fun m σ H => ∃ ms2 F2 δ μ, SR (gm X cl) O ms2 F2 H σ δ μ ∧ Ext ms ms2 F F2 ∧ whileLoop tc bd m δ μ = some o
  refine ⟨P, ⟨fuel, ms, F, δ, μ, R, Ext.refl _ _, ev⟩, ?_⟩
  rintro m σ2 H2 ⟨ms2, F2, δ2, μ2, R2, x2, ev2⟩
  cases m with
  | zero => cases ev2
  | succ m =>
    unfold whileLoop at ev2
    split at ev2
    · cases ev2
    · rename_i μ3 et
      cases ev2
      refine tT.seq R2 et fun H3 ms3 F3 R3 s3 => ?_
      exact k σ2 H3 ms3 F3 R3 (x2.trans s3.ext)
    · rename_i μ3 et
      refine tT.seq R2 et fun H3 ms3 F3 R3 s3 => ?_
      have x3 : Ext ms ms3 F F3 := x2.trans s3.ext
      refine ⟨P m, fun σ' H' p => ⟨m, Nat.lt_succ_self _, p⟩, ?_⟩
      split at ev2
      · rename_i δ5 μ5 eb
        exact ⟨O, ms3, F3, δ2, μ3, _, R3, eb, hO, fun σ' H' m' F' R' x => ⟨m', F', _, _, R', x3.trans x, ev2⟩⟩
      · rename_i δ5 μ5 eb
        exact ⟨O, ms3, F3, δ2, μ3, _, R3, eb, hO, fun σ' H' m' F' R' x => ⟨m', F', _, _, R', x3.trans x, ev2⟩⟩
      · rename_i δ5 μ5 eb
        cases ev2
        exact ⟨O, ms3, F3, δ2, μ3, _, R3, eb, hO, fun σ' H' m' F' R' x => k σ' H' m' F' R' (x3.trans x)⟩
      · rename_i d5 μ5 eb
        cases ev2
        exact ⟨O, ms3, F3, δ2, μ3, _, R3, eb, hO, k⟩
      · rename_i eb
        cases ev2
        exact ⟨O, ms3, F3, δ2, μ3, _, R3, eb, hO, k.step x3⟩
      · cases ev2⟩
/-- a, b = e (e a tuple) -/
def bAsg (f : EF) (g : GF) : BF := fun δ μ => match f δ μ with
  | some (d, μ1) => match g d δ with
    | some δ1 => some (.nx δ1 μ1)
    | none => none
  | none => none
theorem ds_asg {tg e : Expr} {tgt : GF} (he : DE X cl e fe) (hg : DG X cl tg tgt ix) (hs : swapsWithSole [tg] e pos.line X.env = pure false := by rfl) (hw : swappedStores [tg] e X.env = pure none := by rfl) (h1 : (assignEach [tg] X.env).map (·.2) = [assign tg X.env] := by rfl) : DS X cl (.Assign [tg] e pos) (bAsg fe tgt) := ⟨(ps_asg he.p hg.p hs hw h1).weak fun D σ H ⟨O, ms, F, δ, μ, o, R, ev, hO, k⟩ => by
  unfold bAsg at ev
  split at ev
  · rename_i d μ1 e1
    split at ev
    · rename_i δ1 eg
      cases ev
      refine tE.seq R e1 fun v H1 ms1 F1 R1 s1 q1 => ?_
      exact ⟨O, ms1, F1, δ, μ1, d, δ1, R1, q1, eg, fun σ' R' _ _ => k σ' H1 ms1 F1 R' s1.ext⟩
    · cases ev
  · cases ev⟩
/-- a, b = e1, e2 -/
def bPar (i j : Nat) (r : AF) : BF := fun δ μ => match r δ μ with
  | some ([x, y], μ1) => some (.nx ((δ.set i (.d x)).set j (.d y)) μ1)
  | _ => none
theorem ds_par {i j : Nat} {x y : Str} {px py pt : Pos} {kt k2 pt2} (hc : X.calm = true) (hN : X.N.Nodup) (hi : X.N[i]? = some x) (hj : X.N[j]? = some y) (hij : i ≠ j)
    (hx : X.env.scope.names.lookup x = some .local) (hy : X.env.scope.names.lookup y = some .local) (ha : DA X cl [a, b] r)
    (hw : swappedStores [.Tuple [.Name x px, .Name y py] kt pt] (.Tuple [a, b] k2 pt2) X.env = pure (some [x, y]))
    (hs : swapsWithSole [.Tuple [.Name x px, .Name y py] kt pt] (.Tuple [a, b] k2 pt2) pos.line X.env = pure false := by rfl) :
    DS X cl (.Assign [.Tuple [.Name x px, .Name y py] kt pt] (.Tuple [a, b] k2 pt2) pos) (bPar i j r) := ⟨(ps_par hc hN hi hj hij hx hy ha.p hw hs).weak fun D σ H ⟨O, ms, F, δ, μ, o, R, ev, hO, k⟩ => by
  unfold bPar at ev
  split at ev
  · rename_i d1 d2 μ1 e1
    cases ev
    refine tA.seq R e1 fun vs H1 ms1 F1 R1 s1 q1 => ?_
    obtain ⟨v, w, rfl, hv, hw⟩ := q1.two'
    exact ⟨v, w, rfl, k _ H1 ms1 F1 ((R1.set hv i).set hw j) s1.ext⟩
  · cases ev⟩
end
end G

set_option Elab.async false
set_option linter.all false
set_option autoImplicit false
set_option maxRecDepth 100000
set_option maxHeartbeats 2000000
namespace G
open PySem PySem.Spec PySem.Calls L2

/-! ### list comprehensions -/
def wipeD (δ : List SV) : List Nat → List SV
  | [] => δ
  | v :: vs => (wipeD δ vs).set v .no
section
variable {Γ : Gm} {O : Og} {ms : List Addr} {F H : Hp} {σ : L2.St} {δ : List SV} {μ : List MO}
theorem SR.wipe (R : SR Γ O ms F H σ δ μ) : ∀ vs : List Nat, SR Γ O ms F H (L2.wipe σ vs) (wipeD δ vs) μ
  | [] => R
  | v :: vs => (SR.wipe R vs).drop v none
theorem wipe_in {σ : L2.St} {i : Nat} (hi : i < σ.length) : ∀ {vs : List Nat}, i ∈ vs → (L2.wipe σ vs)[i]? = some none
  | [], h => nomatch h
  | v :: vs, h => by
    unfold L2.wipe
    by_cases hv : v = i
    · subst hv
      rw [List.getElem?_set_self (by rw [wipe_length]; exact hi)]
    · rw [List.getElem?_set_ne hv]
      rcases List.mem_cons.mp h with z | z
      · exact absurd z.symm hv
      · exact wipe_in hi z
theorem wipe_eq {σ σ' : L2.St} {vs ix : List Nat} (hl : σ'.length = (L2.wipe σ vs).length) (ha : ∀ j, j ∉ ix → σ'[j]? = (L2.wipe σ vs)[j]?) (hx : ∀ j ∈ ix, j ∈ vs) : L2.wipe σ' vs = L2.wipe σ vs := by
  rw [wipe_length] at hl
  apply List.ext_getElem?
  intro j
  by_cases hj : j ∈ vs
  · by_cases hlt : j < σ.length
    · rw [wipe_in hlt hj, wipe_in (by omega) hj]
    · rw [List.getElem?_eq_none (by rw [wipe_length]; omega), List.getElem?_eq_none (by rw [wipe_length]; omega)]
  · rw [wipe_out hj, wipe_out hj, ha j (fun z => hj (hx j z)), wipe_out hj]
theorem HR.other (h : HR Γ ms F H μ) {p : Addr} (hm : p ∉ ms) (hF : F p = none) (o : HO) : HR Γ ms F (upd H p o) μ := by
  refine ⟨fun b u e => ?_, h.out, h.len, h.nd, fun k u e => ?_⟩
  · have hne : b ≠ p := fun z => by rw [z, hF] at e; cases e
    rw [upd_ne hne]; exact h.sub b u e
  · obtain ⟨a, ea, m⟩ := h.obj k u e
    have hne : a ≠ p := fun z => hm (by rw [← z]; exact List.mem_of_getElem? ea)
    have m' := m.mono (new := []) (H' := upd H p o) (Same.refl F) (fun o' q => by rw [upd_ne hne]; exact q)
    rw [List.append_nil] at m'
    exact ⟨a, ea, m'⟩
end
def lcLoop (g : GF) (tt : TF) (te : EF) (δ : List SV) : List D → List MO → Option (List D × List MO)
  | [], μ => some ([], μ)
  | d :: ds, μ => match g d δ with
    | none => none
    | some δ1 => match tt δ1 μ with
      | none => none
      | some (false, μ1) => lcLoop g tt te δ ds μ1
      | some (true, μ1) => match te δ1 μ1 with
        | none => none
        | some (y, μ2) => match lcLoop g tt te δ ds μ2 with
          | some (ys, μ3) => some (y :: ys, μ3)
          | none => none
def nLc (i : IF) (g : GF) (tt : TF) (te : EF) (vs : List Nat) : NF := fun δ μ => match i δ μ with
  | some (ds, μ1) => if ds.length ≤ 1000000 then lcLoop g tt te (wipeD δ vs) ds μ1 else none
  | none => none
structure DTs (X : Cx) (cl : Nat → Addr) (es : List Expr) (f : TF) : Prop where
  p : PTs X es (tT (gm X cl) f)
theorem _root_.L2.PTs.weak {X : Cx} {es : List Expr} {t t' : TT} (h : PTs X es t) (k : ∀ σ H Q, t' σ H Q → t σ H Q) : PTs X es t' := ⟨fun pins s σ H Q I q => h.run pins s σ H Q I (k σ H Q q)⟩
def tYesD : TF := fun _ μ => some (true, μ)
theorem dts_nil {X : Cx} {cl : Nat → Addr} : DTs X cl [] tYesD := ⟨pts_nil.weak fun σ H Q ⟨O, ms, F, δ, μ, d, μ', R, ev, k⟩ => by cases ev; exact k H ms F R.hr (Stp.refl _ _ _)⟩
theorem dts_one {X : Cx} {cl : Nat → Addr} {c : Expr} {t : TF} (h : DT X cl c t) : DTs X cl [c] t := ⟨pts_one h.p⟩
section
variable {X : Cx} {cl : Nat → Addr}
theorem lc_run {fi : IF} {g : GF} {tt : TF} {te : EF} {ix vs : List Nat} {Γ : Gm} {σ : L2.St} {H : Hp} {Q : VK} (hix : ∀ j ∈ ix, j ∈ vs) (h : tN Γ (nLc fi g tt te vs) σ H Q) : tLc (tI Γ fi) (tG Γ g ix) (tT Γ tt) (tE Γ te) vs σ H Q := by
  obtain ⟨O, ms, F, δ, μ, dz, μ', R, ev, k⟩ := h
  unfold nLc at ev
  split at ev
  · rename_i ds μ1 e1
    split at ev
    · rename_i hz
      refine ⟨O, ms, F, δ, μ, ds, μ1, R, e1, fun J H1 ms1 F1 r1 s1 Y D0 hD0 => ?_⟩
      have R1 := R.step r1 s1
      let P : Nat → Hp → Prop := fun i H => ∃ ms F μ acc accV ys, HR Γ ms F H μ ∧ Stp ms1 ms F1 F H1 H ∧ H D0 = some (.lst accV) ∧ HasL Γ ms F accV acc ∧ D0 ∉ ms ∧ F D0 = none ∧ acc.length ≤ i ∧ lcLoop g tt te (wipeD δ vs) (ds.drop i) μ = some (ys, μ') ∧ acc ++ ys = dz
      obtain ⟨r0, s0⟩ := r1.extra hD0 (.lst [])
      refine ⟨fun i m H => m = ds.length - i ∧ i ≤ ds.length ∧ P i H, ⟨_, rfl, Nat.zero_le _, ms1, F1, μ1, [], [], dz, r0, s0, upd_same, rfl, (r1.fresh_not hD0).1, (r1.fresh_not hD0).2, Nat.le_refl _, by simpa using ev, rfl⟩, ?_⟩
      rintro i m H2 ⟨rfl, hi, ms2, F2, μ2, acc, accV, ys, r2, s2, hD2, hl2, hm2, hF2, hai, ev2, et⟩
      by_cases hlt : i < ds.length
      · have hd : ds[i]? = some ds[i] := List.getElem?_eq_getElem hlt
        rw [List.drop_eq_getElem_cons hlt] at ev2
        unfold lcLoop at ev2
        refine .inr ⟨Y.go ms2 F2 H2 μ2 i r2 s2.ext hlt, P (i + 1), fun H' p' => ⟨_, by omega, rfl, hlt, p'⟩, fun x H' y => ?_⟩
        obtain ⟨ms3, F3, r3, s3, q3⟩ := Y.yld ms2 F2 H2 μ2 i _ x H' r2 s2.ext hd y
        split at ev2
        · cases ev2
        · rename_i δ3 eg
          have s13 := s2.trans' r2 s3
          have R3 := (R1.step r3 s13).wipe vs
          have hD3 : H' D0 = some (.lst accV) := s3.keep D0 _ hD2 hm2
          have notin : ∀ {msa msb : List Addr} {Fa Fb Ha Hb : Hp}, Stp msa msb Fa Fb Ha Hb → D0 ∉ msa → Ha D0 = some (.lst accV) → D0 ∉ msb := fun {msa msb Fa Fb Ha Hb} s hn hD z => by
            obtain ⟨new, e, fr⟩ := s.new
            rw [e] at z
            rcases List.mem_append.mp z with z | z
            · exact hn z
            · rw [fr D0 z] at hD; cases hD
          have hm3 := notin s3 hm2 hD2
          have hF3 : F3 D0 = none := s3.fnew D0 hF2 (by rw [hD2]; exact fun q => nomatch q)
          refine ⟨O, ms3, F3, _, μ2, _, δ3, R3, q3, eg, fun σ4 R4 l4 a4 => ⟨wipe_eq l4 a4 hix, ?_⟩⟩
          split at ev2
          · cases ev2
          · rename_i μ5 etst
            refine tT.seq R4 etst fun H5 ms5 F5 R5 s5 => ?_
            refine iteF ?_
            exact ⟨ms5, F5, _, acc, accV, ys, R5.hr, s13.trans' r3 s5, s5.keep D0 _ hD3 hm3, (hl2.step s3).step s5, notin s5 hm3 hD3, s5.fnew D0 hF3 (by rw [hD3]; exact fun q => nomatch q), by omega, ev2, et⟩
          · rename_i μ5 etst
            refine tT.seq R4 etst fun H5 ms5 F5 R5 s5 => ?_
            refine iteT ?_
            have hD5 := s5.keep D0 _ hD3 hm3
            have hm5 := notin s5 hm3 hD3
            have hF5 : F5 D0 = none := s5.fnew D0 hF3 (by rw [hD3]; exact fun q => nomatch q)
            split at ev2
            · cases ev2
            · rename_i y μ6 ee
              refine tE.seq R5 ee fun v H6 ms6 F6 R6 s6 q6 => ?_
              split at ev2
              · rename_i ys' μ7 el
                cases ev2
                have hD6 := s6.keep D0 _ hD5 hm5
                have hm6 := notin s6 hm5 hD5
                have hF6 : F6 D0 = none := s6.fnew D0 hF5 (by rw [hD5]; exact fun q => nomatch q)
                have s16 : Stp ms1 ms6 F1 F6 H1 H6 := (s13.trans' r3 s5).trans' R5.hr s6
                have hacc : HasL Γ ms6 F6 accV acc := ((hl2.step s3).step s5).step s6
                refine ⟨accV, hD6, by rw [hacc.length, sizeLine_eq]; omega, ms6, F6, _, acc ++ [y], accV ++ [v], ys', R6.hr.other hm6 hF6 _, ⟨s16.new, fun b o e hn => ?_, s16.fsub, s16.fnew⟩, upd_same, hacc.append (HasL.one q6), hm6, hF6, by simp; omega, el, by rw [← et]; simp⟩
                have hne : b ≠ D0 := fun z => by rw [z, hD0] at e; cases e
                rw [upd_ne hne]; exact s16.keep b o e hn
              · cases ev2
      · have : i = ds.length := by omega
        subst this
        rw [List.drop_length] at ev2
        cases ev2
        have et' : acc = dz := by rw [← et]; simp
        subst et'
        refine .inl ⟨Y.stop ms2 F2 H2 _ _ r2 s2.ext (Nat.le_refl _), k accV H2 ms2 F2 D0 r2 (s1.trans' r1 s2) hl2 hD2 (s1.old r1 D0 hD0) hm2 hF2⟩
    · cases ev
  · cases ev
theorem gmB {s : Shared} {H : Hp} {scope : Scope} {fp : List Addr} (hc : X.calm = true) (cl : Nat → Addr) (e : Env) : gm (X.blk s H scope e fp) cl = gm X cl := by
  show Gm.mk X.K cl (bif X.calm then none else none) = Gm.mk X.K cl (bif X.calm then none else X.pn.head?)
  rw [hc]; rfl
theorem dn_lc {elt tg iter : Expr} {ifs : List Expr} {scope : Scope} {own : List (Str × Nat)} {pos : Pos} {fi : IF} {g : GF} {tt : TF} {te : EF} {ix : List Nat} (hc : X.calm = true) (hN : X.N.Nodup) (hi : DI X cl tg iter fi) (ok : BlkOk X.N X.env.scope scope own)
    (hg : ∀ (s : Shared) (H : Hp) (C : Addr) (cls : List (Str × Addr)) (fp : List Addr), DG (X.blk s H scope (compEnvC scope cls C X.env) fp) cl tg g ix) (ht : ∀ (s : Shared) (H : Hp) (C : Addr) (cls : List (Str × Addr)) (fp : List Addr), DTs (X.blk s H scope (compEnvC scope cls C X.env) fp) cl ifs tt)
    (he : ∀ (s : Shared) (H : Hp) (C : Addr) (cls : List (Str × Addr)) (fp : List Addr), DE (X.blk s H scope (compEnvC scope cls C X.env) fp) cl elt te) (hix : ∀ j ∈ ix, j ∈ own.map (·.2) := by decide) (hs : ∀ x, foldedSetIterable iter X.env x = pure x := by intro _; rfl) :
    DN X cl (.ListComp elt [⟨tg, iter, ifs, 0⟩] scope pos) (nLc fi g tt te (own.map (·.2))) := ⟨(pe_lc hc hN hi.p ok (g := tG (gm X cl) g ix) (tt := tT (gm X cl) tt) (te := tE (gm X cl) te) (fun s H C cls fp => gmB hc _ _ ▸ (hg s H C cls fp).p) (fun s H C cls fp => gmB hc _ _ ▸ (ht s H C cls fp).p) (fun s H C cls fp => gmB hc _ _ ▸ (he s H C cls fp).p) hs).weak fun σ H Q h => lc_run hix h⟩
/-- name = [..] on one line -/
theorem bSet_frz {Γ : Gm} {W : WX × Hp} {i : Nat} {n : NF} {D : Ends} {σ : L2.St} {H : Hp} (h : tS Γ W (bSet i (eFrz n)) D σ H) : tN Γ n σ H fun x H1 => D.nx (σ.set i (some x)) H1 := by
  obtain ⟨O, ms, F, δ, μ, o, R, ev, hO, k⟩ := h
  unfold bSet eFrz at ev
  cases en : n δ μ with
  | none => rw [en] at ev; cases ev
  | some q =>
    obtain ⟨ds, μ1⟩ := q
    rw [en] at ev
    cases ev
    refine ⟨O, ms, F, δ, μ, ds, μ1, R, en, FinN.of1 fun v H1 ms1 F1 r1 s1 q1 => ?_⟩
    exact k _ H1 ms1 F1 ((R.step r1 s1).set q1 i) s1.ext
theorem bOwn_run {Γ : Gm} {W : WX × Hp} {i : Nat} {n : NF} {D : Ends} {σ : L2.St} {H : Hp} (h : tS Γ W (bOwn i n) D σ H) : tN Γ n σ H fun x H1 => D.nx (σ.set i (some x)) H1 := by
  obtain ⟨O, ms, F, δ, μ, o, R, ev, hO, k⟩ := h
  unfold bOwn at ev
  split at ev
  · rename_i d μ1 e1
    cases ev
    refine ⟨O, ms, F, δ, μ, d, _, R, e1, fun vs H1 ms1 F1 p r1 s1 q1 hp h0 hm hF => ?_⟩
    exact k _ H1 ms1 F1 ((R.step r1 s1).own hp q1 hF hm (R.old0 h0) (fun j es e => R.notOwn h0 j es e) i) s1.ext
  · cases ev
section
variable {i : Nat} {y : Str} {py : Pos} {elt tg iter : Expr} {ifs : List Expr} {scope : Scope} {own : List (Str × Nat)} {pos spos : Pos} {fi : IF} {g : GF} {tt : TF} {te : EF} {ix : List Nat}
theorem ds_lc (hc : X.calm = true) (hN : X.N.Nodup) (hy : X.N[i]? = some y) (hyl : X.env.scope.names.lookup y = some .local) (hsw : swapsWith (.ListComp elt [⟨tg, iter, ifs, 0⟩] scope pos) (some (.Name y py)) spos.line X.env = pure true) (hi : DI X cl tg iter fi) (ok : BlkOk X.N X.env.scope scope own)
    (hg : ∀ (s : Shared) (H : Hp) (C : Addr) (cls : List (Str × Addr)) (fp : List Addr), DG (X.blk s H scope (compEnvC scope cls C X.env) fp) cl tg g ix) (ht : ∀ (s : Shared) (H : Hp) (C : Addr) (cls : List (Str × Addr)) (fp : List Addr), DTs (X.blk s H scope (compEnvC scope cls C X.env) fp) cl ifs tt)
    (he : ∀ (s : Shared) (H : Hp) (C : Addr) (cls : List (Str × Addr)) (fp : List Addr), DE (X.blk s H scope (compEnvC scope cls C X.env) fp) cl elt te) (hix : ∀ j ∈ ix, j ∈ own.map (·.2) := by decide) (hs : ∀ x, foldedSetIterable iter X.env x = pure x := by intro _; rfl) :
    DS X cl (.Assign [.Name y py] (.ListComp elt [⟨tg, iter, ifs, 0⟩] scope pos) spos) (bSet i (eFrz (nLc fi g tt te (own.map (·.2))))) :=
  ⟨(ps_setLc hc hN hy hyl hsw hi.p ok (g := tG (gm X cl) g ix) (tt := tT (gm X cl) tt) (te := tE (gm X cl) te) (fun s H C cls fp => gmB hc _ _ ▸ (hg s H C cls fp).p) (fun s H C cls fp => gmB hc _ _ ▸ (ht s H C cls fp).p) (fun s H C cls fp => gmB hc _ _ ▸ (he s H C cls fp).p) hs).weak fun D σ H h => lc_run hix (bSet_frz h)⟩
theorem ds_lcO (hc : X.calm = true) (hN : X.N.Nodup) (hy : X.N[i]? = some y) (hyl : X.env.scope.names.lookup y = some .local) (hsw : swapsWith (.ListComp elt [⟨tg, iter, ifs, 0⟩] scope pos) (some (.Name y py)) spos.line X.env = pure true) (hi : DI X cl tg iter fi) (ok : BlkOk X.N X.env.scope scope own)
    (hg : ∀ (s : Shared) (H : Hp) (C : Addr) (cls : List (Str × Addr)) (fp : List Addr), DG (X.blk s H scope (compEnvC scope cls C X.env) fp) cl tg g ix) (ht : ∀ (s : Shared) (H : Hp) (C : Addr) (cls : List (Str × Addr)) (fp : List Addr), DTs (X.blk s H scope (compEnvC scope cls C X.env) fp) cl ifs tt)
    (he : ∀ (s : Shared) (H : Hp) (C : Addr) (cls : List (Str × Addr)) (fp : List Addr), DE (X.blk s H scope (compEnvC scope cls C X.env) fp) cl elt te) (hix : ∀ j ∈ ix, j ∈ own.map (·.2) := by decide) (hs : ∀ x, foldedSetIterable iter X.env x = pure x := by intro _; rfl) :
    DS X cl (.Assign [.Name y py] (.ListComp elt [⟨tg, iter, ifs, 0⟩] scope pos) spos) (bOwn i (nLc fi g tt te (own.map (·.2)))) :=
  ⟨(ps_setLc hc hN hy hyl hsw hi.p ok (g := tG (gm X cl) g ix) (tt := tT (gm X cl) tt) (te := tE (gm X cl) te) (fun s H C cls fp => gmB hc _ _ ▸ (hg s H C cls fp).p) (fun s H C cls fp => gmB hc _ _ ▸ (ht s H C cls fp).p) (fun s H C cls fp => gmB hc _ _ ▸ (he s H C cls fp).p) hs).weak fun D σ H h => lc_run hix (bOwn_run h)⟩
end
end

/-! ### defs -/
abbrev FF := List D → List MO → Option (D × List MO)
def spF (Γ : Gm) (n : Nat) (fn : FF) : Sp := fun vs H Q E => ∃ ms F ds μ d μ', HR Γ ms F H μ ∧ HasL Γ ms F vs ds ∧ ds.length = n ∧ fn ds μ = some (d, μ') ∧ Fin1 Γ ms F H d μ' Q
def startD (n : Nat) (ds : List D) : List SV := ds.map SV.d ++ List.replicate (n - ds.length) SV.no
def runB (n : Nat) (body : BF) : FF := fun ds μ => match body (startD n ds) μ with
  | some (.nx _ μ') => some (.non, μ')
  | some (.rt d μ') => some (d, μ')
  | _ => none
theorem SR.start {Γ : Gm} {ms : List Addr} {F H : Hp} {vs : List V} {ds : List D} {μ : List MO} {N : List Str} (r : HR Γ ms F H μ) (q : HasL Γ ms F vs ds) : SR Γ ⟨ms, F, H⟩ ms F H (L2.start N vs) (startD N.length ds) μ := by
  refine ⟨r, ⟨by simp [L2.start, startD, q.length], fun i sv e => ?_, fun i j a xs ys e1 e2 f1 f2 => ?_⟩, Stp.refl _ _ _⟩
  · unfold startD at e
    by_cases hi : i < ds.length
    · rw [List.getElem?_append_left (by simpa using hi), List.getElem?_map, List.getElem?_eq_getElem hi] at e
      cases e
      obtain ⟨v, hv, h⟩ := q.get (List.getElem?_eq_getElem hi)
      refine ⟨v, ?_, h⟩
      unfold L2.start
      rw [List.getElem?_append_left (by simp [q.length]; exact hi), List.getElem?_map, hv]
      rfl
    · rw [List.getElem?_append_right (by simpa using Nat.le_of_not_lt hi)] at e
      have := List.mem_of_getElem? e
      rw [List.mem_replicate] at this
      rw [this.2]; trivial
  · exfalso
    unfold startD at e1
    by_cases hi : i < ds.length
    · rw [List.getElem?_append_left (by simpa using hi), List.getElem?_map, List.getElem?_eq_getElem hi] at e1
      cases e1
    · rw [List.getElem?_append_right (by simpa using Nat.le_of_not_lt hi)] at e1
      have := List.mem_of_getElem? e1
      rw [List.mem_replicate] at this
      cases this.2
/-- a def, called where no repr is under way -/
structure FnG (P : Program) (w : World) (K : PySem.W.Frag) (mg : Str → Option Value) (base : Heap) (k : Nat) (f : Addr) (fd : FuncData) (n : Nat) (ps : List Str) (sp : Sp) : Prop where
  len : ∀ vs H Q E, sp vs H Q E → vs.length = n
  pl : ps.length = n
  go : ∀ {A : Around} {outer : List Env} {s : Shared} {H : Hp} {args : Args} {us : List Value} {vs : List V} {Q : VK}, A.guards = some [] → Room k A → Env0 P w K mg base A outer s H →
    BindsTo s fd args (ps.zip us) → Vals vs us → sp vs H Q E0 → codeAny (model P w) A (.call (.ref f) args) (CR CX0 outer P w H s Q E0) s
section
variable {P : Program} {w : World} {K : PySem.W.Frag} {mg : Str → Option Value} {base : Heap} {cl : Nat → Addr}
theorem fnG_of {x qual : Str} {st : Stmt} {f : Addr} {fd : FuncData} {N ps : List Str} {k n : Nat} {sp : Sp} (F : Fun K x qual st f fd) (S : FnScope N ps (defScope st)) (hn : ps.length = n)
    (len : ∀ vs H Q E, sp vs H Q E → vs.length = n)
    (body : ∀ (cdv : Value) (A : Around) (outer : List Env) (s : Shared) (H : Hp) (vs : List V) (Q : VK), (A.deeper (PyProof.Rows.envOfC qual (defScope st) s.heap.objs.size f cdv)).guards = some [] →
      Room k (A.deeper (PyProof.Rows.envOfC qual (defScope st) s.heap.objs.size f cdv)) → sp vs H Q E0 →
      ∃ t, PSs (cxOf CX0 P w K mg base N qual (defScope st) f cdv A outer s H E0).nox (defBody st) t ∧ t { nx := fun _ H' => Q .non H', rt := Q } (L2.start N vs) H) : FnG P w K mg base (k + 1) f fd n ps sp := by
  obtain ⟨oc, od, kV, doc, pm, an, cdv, ct, osl, rfl, lk, hcd⟩ := F.ex
  refine ⟨len, hn, ?_⟩
  intro A outer s H args us vs Q hg hr e0 hb rv hsp
  have hl : vs.length = ps.length := (len _ _ _ _ hsp).trans hn.symm
  have old : ∀ b o, base.get? b = some o → s.heap.get? b = some o := fun b o e => (e0.bs b o e).1
  have kin := e0.mod.kin.keeps old
  have kinds : ∀ y ∈ ps.zip us, (defScope st).names.lookup y.1 = some .local ∨
      ((defScope st).names.lookup y.1 = some .cell ∧ ((cellsFrom (s.heap.objs.size + 1) (defScope st).names []).lookup y.1).isSome = true) := by
    rintro ⟨z, v⟩ hy
    rcases S.par z (List.of_mem_zip hy).1 with c | c
    · exact Or.inl c
    · exact Or.inr ⟨c, PySem.W.cellsFrom_some _ _ _ (Or.inl c)⟩
  refine codeAny_call_function hr.depth (kin _ _ lk) rfl S.co S.gen rfl
    (PySem.W.codeRec_of kin hcd) (hb _ _ _ _ ?_)
  refine wpAny_newFunctionEnv_cells S.kind kinds fun env he s1 ic => ?_
  subst he
  refine ⟨(e0.mod.nolimit.keeps old).keeps ic.toInCall.keep, codeAny_func ?_⟩
  obtain ⟨t, ht, hq⟩ := body cdv A outer s H vs Q hg (hr.deeper _) hsp
  have inv := inv_start (CX := CX0) (E := E0) S hr.hd e0 hl rv ic
  refine wpAny_mono (ht.nox.run [] s1 _ H _ inv hq) (fun fl s' hs => ?_) fun _ _ hs => hs
  cases fl with
  | next => obtain ⟨σ', H', J, q⟩ := hs; exact ⟨V.non, H', J.os, J.bare, J.base, J.hok, rfl, q⟩
  | ret u => obtain ⟨v, σ', H', J, r, q⟩ := hs; exact ⟨v, H', J.os, J.bare, J.base, J.hok, r, q⟩
  | brk => obtain ⟨_, _, _, q⟩ := hs; exact q.elim
  | cont => obtain ⟨_, _, _, q⟩ := hs; exact q.elim
theorem fn_ok {x qual : Str} {st : Stmt} {f : Addr} {fd : FuncData} {N ps : List Str} {k n : Nat} {body : BF} (F : Fun K x qual st f fd) (S : FnScope N ps (defScope st)) (hn : ps.length = n)
    (hB : ∀ (cdv : Value) (A : Around) (outer : List Env) (s : Shared) (H : Hp), (A.deeper (PyProof.Rows.envOfC qual (defScope st) s.heap.objs.size f cdv)).guards = some [] → Room k (A.deeper (PyProof.Rows.envOfC qual (defScope st) s.heap.objs.size f cdv)) →
      DB (cxOf CX0 P w K mg base N qual (defScope st) f cdv A outer s H E0).nox cl (defBody st) body) : FnG P w K mg base (k + 1) f fd n ps (spF (gk K cl) n (runB N.length body)) := by
  refine fnG_of F S hn (fun vs H Q E h => ?_) fun cdv A outer s H vs Q hg hr h => ⟨tS (gk K cl) (W0 (cxOf CX0 P w K mg base N qual (defScope st) f cdv A outer s H E0).nox) body, ?_, ?_⟩
  · obtain ⟨ms, F, ds, μ, d, μ', r, q, hl, _⟩ := h
    rw [q.length]; exact hl
  · exact (hB cdv A outer s H hg hr).p
  · obtain ⟨ms, F, ds, μ, d, μ', r, q, hl, ev, k⟩ := h
    unfold runB at ev
    split at ev
    · rename_i δ' μ2 e
      cases ev
      exact ⟨⟨ms, F, H⟩, ms, F, _, μ, _, SR.start r q, e, rfl, fun σ' H' ms' F' R' x => k .non H' ms' F' R'.hr R'.st rfl⟩
    · rename_i d' μ2 e
      cases ev
      exact ⟨⟨ms, F, H⟩, ms, F, _, μ, _, SR.start r q, e, rfl, fun v H' ms' F' r' s' q' => k v H' ms' F' r' s' q'⟩
    · cases ev
end
section
variable {X : Cx} {cl : Nat → Addr} {e : Expr} {es : List Expr} {pos p : Pos} {r : AF} {k n : Nat} {f : Addr} {fd : FuncData} {ps : List Str} {fn : FF} {dvs : List V} {ds : List Value} {dds : List D} {x : Str}
theorem runG {sp : Sp} {pins : List (Addr × Obj)} {σ : L2.St} {H : Hp} {s : Shared} {Q : VK} {us : List Value} {vs : List V} (Gf : FnG X.prog X.w X.K X.mg X.base k f fd n ps sp) (hgd : X.A.guards = some []) (hr : Room k X.A)
    (hb : Binds X.K fd ps ds) (hd : Vals dvs ds) (I : Inv X pins σ H s) (rv : Vals vs us) (h : sp (vs ++ dvs) H Q E0) : wpAny (model X.prog X.w) X.A (call (.ref f) us) (EP X pins σ Q) X.xe s := by
  have rr : Vals (vs ++ dvs) (us ++ ds) := rv.append hd
  have hl : (us ++ ds).length = ps.length := by rw [← rr.length, Gf.pl]; exact Gf.len _ _ _ _ h
  refine wpAny_call (codeAny_mono (Gf.go hgd hr I.env0 (hb s us I.kIn hl) rr h) fun z s' hq => ?_)
  cases z with
  | error _ => exact (show False from hq).elim
  | ok fl =>
    cases fl with
    | ret u => exact I.after hq
    | next => exact (show False from hq).elim
    | brk => exact (show False from hq).elim
    | cont => exact (show False from hq).elim
def eFn (fn : FF) (dds : List D) (r : AF) : EF := aThen r fun xs _ μ => fn (xs ++ dds) μ
theorem pe_callG {sp : Sp} {t : TA} (Gf : FnG X.prog X.w X.K X.mg X.base k f fd n ps sp) (hgd : X.A.guards = some []) (hr : Room k X.A) (hg : Gl X x) (hm : X.mg x = some (.ref f)) (hk : PySem.W.keepIn X.K (.ref f) = true) (hb : Binds X.K fd ps ds) (hd : Vals dvs ds)
    (ha : PA X (e :: es) t) (hdb : (x == ("__debug__" : Str)) = false := by decide) (he : starEach (e :: es) X.env = (false, eval e X.env) :: starEach es X.env := by rfl) (hpl : (backTo pos (starEach es X.env)).any (·.1) = false := by rfl) :
    PE X (.Call (.Name x p) (e :: es) [] pos) (tCall sp dvs E0 t) := by
  constructor
  intro pins s σ H Q I h
  refine wpAny_Call_Name_kw (ld_glob I hg hm ?_ hdb)
  refine PySem.W.callWith_K (h₀ := X.base) I.ok.mod.kin hk ?_ he hpl
  refine thn (ha.run pos pins s σ H _ I h) ?_
  rintro us s1 ⟨vs, H1, I1, rv, q⟩
  exact ⟨I1.kIn, runG Gf hgd hr hb hd I1 rv q⟩
theorem de_call (Gf : FnG X.prog X.w X.K X.mg X.base k f fd n ps (spF (gk X.K cl) n fn)) (hgd : X.A.guards = some []) (hr : Room k X.A) (hg : Gl X x) (hm : X.mg x = some (.ref f)) (hk : PySem.W.keepIn X.K (.ref f) = true) (hb : Binds X.K fd ps ds) (hd : Vals dvs ds) (hdd : ∀ ms F, HasL (gk X.K cl) ms F dvs dds)
    (hn : (e :: es).length + dds.length = n)
    (ha : DA X cl (e :: es) r) (hra : ∀ δ μ xs μ1, r δ μ = some (xs, μ1) → xs.length = (e :: es).length) (hdb : (x == ("__debug__" : Str)) = false := by decide) (he : starEach (e :: es) X.env = (false, eval e X.env) :: starEach es X.env := by rfl) (hpl : (backTo pos (starEach es X.env)).any (·.1) = false := by rfl) :
    DE X cl (.Call (.Name x p) (e :: es) [] pos) (eFn fn dds r) := ⟨(pe_callG Gf hgd hr hg hm hk hb hd ha.p hdb he hpl).weak fun σ H Q ⟨O, ms, F, δ, μ, d, μ', R, ev, k⟩ => by
  obtain ⟨xs, μ1, e1, ev⟩ := aThen_some ev
  refine tA.seq R e1 fun vs H1 ms1 F1 R1 s1 q1 => ?_
  exact ⟨ms1, F1, xs ++ dds, μ1, d, μ', R1.hr.xp, q1.xp.append (hdd ms1 F1), by rw [List.length_append, hra _ _ _ _ e1]; exact hn, ev, fun v H' ms' F' r s q => k v H' ms' F' r.xp (s1.trans' R1.hr s) q.xp⟩⟩
end
theorem aNil_len : ∀ δ μ xs μ1, aNil δ μ = some (xs, μ1) → xs.length = 0 := fun δ μ xs μ1 h => by cases h; rfl
theorem aCons_len {f : EF} {r : AF} {n : Nat} (hr : ∀ δ μ xs μ1, r δ μ = some (xs, μ1) → xs.length = n) : ∀ δ μ xs μ1, aCons f r δ μ = some (xs, μ1) → xs.length = n + 1 := fun δ μ xs μ1 h => by
  obtain ⟨d, μ2, e1, h⟩ := eThen_some h
  split at h
  · rename_i ys μ3 e2
    cases h
    simp [hr _ _ _ _ e2]
  · cases h
end G

set_option Elab.async false
set_option linter.all false
set_option autoImplicit false
set_option maxRecDepth 100000
set_option maxHeartbeats 2000000
namespace G
open PySem PySem.Spec L2

section
variable {X : Cx} {cl : Nat → Addr}
/-! ### data as the library's own -/
def toPyL (f : D → Option PyData) : List D → Option (List PyData)
  | [] => some []
  | d :: ds => match f d, toPyL f ds with
    | some p, some ps => some (p :: ps)
    | _, _ => none
def toPy (μ : List MO) : Nat → D → Option PyData
  | 0, _ => none
  | n + 1, d => match d with
    | .non => some .none
    | .bl b => some (.bool b)
    | .int i => some (.int i)
    | .str x => some (.str x)
    | .lst ds => (toPyL (toPy μ n) ds).map .list
    | .tup ds => (toPyL (toPy μ n) ds).map .tuple
    | .mut k => match μ[k]? with
      | some (.lst ds) => (toPyL (toPy μ n) ds).map .list
      | _ => none
    | _ => none
theorem dpAll_of {Γ : Gm} {ms : List Addr} {F H : Hp} {f : D → Option PyData} (h : ∀ v d p, f d = some p → Has Γ ms F v d → Dp Γ.K H v p) : ∀ {vs : List V} {ds : List D} {ps : List PyData}, toPyL f ds = some ps → HasL Γ ms F vs ds → DpAll Γ.K H vs ps
  | vs, [], ps, e, q => by cases e; cases q; exact .nil
  | vs, d :: ds, ps, e, ⟨w, ws, hv, q1, q2⟩ => by
    subst hv
    unfold toPyL at e
    split at e
    · rename_i p ps' e1 e2
      cases e
      exact .cons (h w d p e1 q1) (dpAll_of h e2 q2)
    · cases e
theorem dp_of {Γ : Gm} {ms : List Addr} {F H : Hp} {μ : List MO} (r : HR Γ ms F H μ) : ∀ (n : Nat) (v : V) (d : D) (p : PyData), toPy μ n d = some p → Has Γ ms F v d → Dp Γ.K H v p
  | 0, _, _, _, e, _ => by cases e
  | n + 1, v, d, p, e, q => by
    unfold toPy at e
    cases d with
    | non => cases e; rw [show v = .non from q]; exact .non
    | bl b => cases e; rw [show v = .bl b from q]; exact .bl b
    | int b => cases e; rw [show v = .int b from q]; exact .int b
    | str b => cases e; rw [show v = .str b from q]; exact .str b
    | ty _ => cases e
    | dct _ _ => cases e
    | ins _ _ _ => cases e
    | scr _ => cases e
    | exc _ _ _ _ => cases e
    | cls _ => cases e
    | lst ds =>
      dsimp only at e
      cases e1 : toPyL (toPy μ n) ds with
      | none => rw [e1] at e; cases e
      | some ps =>
        rw [e1] at e; cases e
        obtain ⟨a, xs, rfl, hs, hl⟩ := q
        exact .lst (SqL.of (r.sub _ _ hs)) (dpAll_of (dp_of r n) e1 hl)
    | tup ds =>
      dsimp only at e
      cases e1 : toPyL (toPy μ n) ds with
      | none => rw [e1] at e; cases e
      | some ps =>
        rw [e1] at e; cases e
        obtain ⟨a, xs, rfl, hs, hl⟩ := q
        exact .tup (Tp.same r.sub hs).sq (dpAll_of (dp_of r n) e1 hl)
    | «mut» k =>
      dsimp only at e
      split at e
      · rename_i ds hk
        cases e1 : toPyL (toPy μ n) ds with
        | none => rw [e1] at e; cases e
        | some ps =>
          rw [e1] at e; cases e
          obtain ⟨a, rfl, hm⟩ := q
          obtain ⟨a', ha', xs, hx, hl⟩ := r.obj _ _ hk
          rw [hm] at ha'; cases ha'
          exact .lst (SqL.of hx) (dpAll_of (dp_of r n) e1 hl)
      · cases e
/-- how deep data is looked at -/
abbrev DEEP : Nat := 16
def shp (p : PyData) : Bool := SeqAt.shaped p
/-! ### operators -/
abbrev G2 := D → D → List MO → Option (D × List MO)
theorem Fin1.imm {Γ : Gm} {ms : List Addr} {F H : Hp} {d : D} {μ : List MO} {Q : VK} (k : Fin1 Γ ms F H d μ Q) (r : HR Γ ms F H μ) {v : V} (h : Has Γ ms F v d) : Q v H := k v H ms F r (Stp.refl _ _ _) h
theorem op_addB : OpR X (binaryOp .Add) (fun x y H Q => ∃ (b : Bool) (j : Int), x = .bl b ∧ y = .int j ∧ Q (.int ((if b = true then (1 : Int) else 0) + j)) H) := by
  intro pins s σ H x y v u Q I rx ry h
  obtain ⟨b, j, rfl, rfl, q⟩ := h
  cases rx
  obtain ⟨t, rfl⟩ := ry
  exact PySem.IntBool.add_bool_int ⟨.int _, H, I.tok _, ⟨_, rfl⟩, q⟩
def addD : G2 := fun x y μ => match x, y with
  | .int i, .int j => some (.int (i + j), μ)
  | .bl b, .int j => some (.int ((if b = true then (1 : Int) else 0) + j), μ)
  | .str a, .str b => if a.length + b.length ≤ 1000000 then some (.str (a ++ b), μ) else none
  | .lst a, .lst b => if a.length + b.length ≤ 1000000 then some (.lst (a ++ b), μ) else none
  | _, _ => none
theorem opd_add : OpD X cl (binaryOp .Add) addD := by
  intro ms F H μ x y dx dy d μ' Q r hx hy ev k
  unfold addD at ev
  split at ev
  · cases ev; exact ⟨_, op_add, _, _, hx, hy, k.imm r rfl⟩
  · cases ev; exact ⟨_, op_addB, _, _, hx, hy, k.imm r rfl⟩
  · split at ev
    · rename_i hz; cases ev; exact ⟨_, op_add_str, _, _, hx, hy, million hz, k.imm r rfl⟩
    · cases ev
  · split at ev
    · rename_i hz
      cases ev
      obtain ⟨a, xs, rfl, ha, la⟩ := hx
      obtain ⟨b, ys, rfl, hb, lb⟩ := hy
      exact ⟨_, op_cat, a, b, xs, ys, rfl, rfl, r.sub _ _ ha, r.sub _ _ hb, by rw [la.length, lb.length]; exact million hz, fun p hp => k.lst r (la.append lb) hp⟩
    · cases ev
  · cases ev
def subD : G2 := fun x y μ => match x, y with
  | .int i, .int j => some (.int (i - j), μ)
  | _, _ => none
theorem opd_sub : OpD X cl (binaryOp .Sub) subD := by
  intro ms F H μ x y dx dy d μ' Q r hx hy ev k
  unfold subD at ev
  split at ev
  · cases ev; exact ⟨_, op_sub, _, _, hx, hy, k.imm r rfl⟩
  · cases ev
def mulD : G2 := fun x y μ => match x, y with
  | .int i, .int j => if i.natAbs.log2 + j.natAbs.log2 < 1000000 then some (.int (i * j), μ) else none
  | _, _ => none
theorem opd_mul : OpD X cl (binaryOp .Mult) mulD := by
  intro ms F H μ x y dx dy d μ' Q r hx hy ev k
  unfold mulD at ev
  split at ev
  · split at ev
    · rename_i hz; cases ev; exact ⟨_, op_mulW, _, _, hx, hy, hz, k.imm r rfl⟩
    · cases ev
  · cases ev
def fdivD : G2 := fun x y μ => match x, y with
  | .int i, .int j => if 0 < j ∧ j.natAbs.log2 < 9000 then some (.int (i / j), μ) else none
  | _, _ => none
theorem opd_fdiv : OpD X cl (binaryOp .FloorDiv) fdivD := by
  intro ms F H μ x y dx dy d μ' Q r hx hy ev k
  unfold fdivD at ev
  split at ev
  · split at ev
    · rename_i hz; cases ev; exact ⟨_, op_fdivW, _, _, hx, hy, hz, k.imm r rfl⟩
    · cases ev
  · cases ev
def modD : G2 := fun x y μ => match x, y with
  | .int i, .int j => if 0 < j then some (.int (i % j), μ) else none
  | _, _ => none
theorem opd_mod : OpD X cl (binaryOp .Mod) modD := by
  intro ms F H μ x y dx dy d μ' Q r hx hy ev k
  unfold modD at ev
  split at ev
  · split at ev
    · rename_i hz; cases ev; exact ⟨_, op_mod, _, _, hx, hy, hz, k.imm r rfl⟩
    · cases ev
  · cases ev
def powD : G2 := fun x y μ => match x, y with
  | .int i, .int j => if 0 ≤ j ∧ j ≤ 1000000 ∧ i.natAbs < 2 ^ 64 then some (.int (i ^ j.toNat), μ) else none
  | _, _ => none
theorem opd_pow : OpD X cl (binaryOp .Pow) powD := by
  intro ms F H μ x y dx dy d μ' Q r hx hy ev k
  unfold powD at ev
  split at ev
  · split at ev
    · rename_i hz; cases ev; exact ⟨_, op_pow, _, _, hx, hy, hz, k.imm r rfl⟩
    · cases ev
  · cases ev
/-- comparisons of order -/
def ltD : G2 := fun x y μ => match x, y with
  | .int i, .int j => some (.bl (decide (i < j)), μ)
  | .str a, .str b => some (.bl (decide (a.cps.toList < b.cps.toList)), μ)
  | _, _ => none
theorem opd_lt : OpD X cl (compareOp .Lt) ltD := by
  intro ms F H μ x y dx dy d μ' Q r hx hy ev k
  unfold ltD at ev
  split at ev
  · cases ev; exact ⟨_, op_lt, _, _, hx, hy, k.imm r rfl⟩
  · cases ev; exact ⟨_, op_lt_str, _, _, hx, hy, k.imm r rfl⟩
  · cases ev
def leD : G2 := fun x y μ => match x, y with
  | .int i, .int j => some (.bl (decide (i ≤ j)), μ)
  | .str a, .str b => some (.bl (!decide (b.cps.toList < a.cps.toList)), μ)
  | _, _ => none
theorem opd_le : OpD X cl (compareOp .LtE) leD := by
  intro ms F H μ x y dx dy d μ' Q r hx hy ev k
  unfold leD at ev
  split at ev
  · cases ev; exact ⟨_, op_le, _, _, hx, hy, k.imm r rfl⟩
  · cases ev; exact ⟨_, op_le_str, _, _, hx, hy, k.imm r rfl⟩
  · cases ev
def gtD : G2 := fun x y μ => match x, y with
  | .int i, .int j => some (.bl (decide (j < i)), μ)
  | _, _ => none
theorem opd_gt : OpD X cl (compareOp .Gt) gtD := by
  intro ms F H μ x y dx dy d μ' Q r hx hy ev k
  unfold gtD at ev
  split at ev
  · cases ev; exact ⟨_, op_gt, _, _, hx, hy, k.imm r rfl⟩
  · cases ev
def geD : G2 := fun x y μ => match x, y with
  | .int i, .int j => some (.bl (decide (j ≤ i)), μ)
  | _, _ => none
theorem opd_ge : OpD X cl (compareOp .GtE) geD := by
  intro ms F H μ x y dx dy d μ' Q r hx hy ev k
  unfold geD at ev
  split at ev
  · cases ev; exact ⟨_, op_ge, _, _, hx, hy, k.imm r rfl⟩
  · cases ev
/-- == and != -/
def eqP (x y : D) (μ : List MO) : Option Bool := match toPy μ DEEP x, toPy μ DEEP y with
  | some p, some q => if shp p = true ∧ shp q = true then some (PyData.eqv p q) else none
  | _, _ => none
def eqD : G2 := fun x y μ => match x, y with
  | .str a, .str b => some (.bl (decide (a = b)), μ)
  | x, y => match eqP x y μ with
    | some b => some (.bl b, μ)
    | none => none
def neD : G2 := fun x y μ => match x, y with
  | .str a, .str b => some (.bl (!decide (a = b)), μ)
  | x, y => match eqP x y μ with
    | some b => some (.bl (!b), μ)
    | none => none
theorem eqP_some {x y : D} {μ : List MO} {b : Bool} (h : eqP x y μ = some b) : ∃ p q, toPy μ DEEP x = some p ∧ toPy μ DEEP y = some q ∧ SeqAt.shaped p = true ∧ SeqAt.shaped q = true ∧ b = PyData.eqv p q := by
  unfold eqP at h
  split at h
  · rename_i p q e1 e2
    split at h
    · rename_i hz; cases h; exact ⟨p, q, e1, e2, hz.1, hz.2, rfl⟩
    · cases h
  · cases h
theorem opd_eq (hu : X.A.units + 64 < cLine) : OpD X cl (compareOp .Eq) eqD := by
  intro ms F H μ x y dx dy d μ' Q r hx hy ev k
  unfold eqD at ev
  split at ev
  · rename_i a b
    cases ev
    obtain rfl : x = .str a := hx
    obtain rfl : y = .str b := hy
    exact ⟨_, op_eq, rfl, by simpa using k.imm r (v := .bl _) rfl⟩
  · split at ev
    · rename_i b hb
      cases ev
      obtain ⟨p, q, e1, e2, s1, s2, rfl⟩ := eqP_some hb
      exact ⟨_, op_eqD hu, p, q, dp_of r _ _ _ _ e1 hx, dp_of r _ _ _ _ e2 hy, s1, s2, k.imm r rfl⟩
    · cases ev
theorem opd_ne (hu : X.A.units + 64 < cLine) : OpD X cl (compareOp .NotEq) neD := by
  intro ms F H μ x y dx dy d μ' Q r hx hy ev k
  unfold neD at ev
  split at ev
  · rename_i a b
    cases ev
    obtain rfl : x = .str a := hx
    obtain rfl : y = .str b := hy
    exact ⟨_, op_ne, rfl, by simpa using k.imm r (v := .bl _) rfl⟩
  · split at ev
    · rename_i b hb
      cases ev
      obtain ⟨p, q, e1, e2, s1, s2, rfl⟩ := eqP_some hb
      exact ⟨_, op_neD hu, p, q, dp_of r _ _ _ _ e1 hx, dp_of r _ _ _ _ e2 hy, s1, s2, k.imm r rfl⟩
    · cases ev
/-- one sign in a text; in a list or a tuple -/
def inP (x y : D) (μ : List MO) : Option Bool := match y with
  | .str z => match x with
    | .str w => match w.cps.toList with
      | [c] => some (decide (c ∈ z.cps.toList))
      | _ => none
    | _ => none
  | y => match toPy μ DEEP x, toPy μ DEEP y with
    | some p, some (.list ps) => if shp p = true ∧ shp (.list ps) = true then some (ps.any fun z => PyData.eqv z p) else none
    | _, _ => none
def inD : G2 := fun x y μ => match inP x y μ with
  | some b => some (.bl b, μ)
  | none => none
def ninD : G2 := fun x y μ => match inP x y μ with
  | some b => some (.bl (!b), μ)
  | none => none
theorem one_sign {w : Str} {c : Nat} (h : w.cps.toList = [c]) : w = ⟨#[c]⟩ := by
  obtain ⟨a⟩ := w
  have : a = #[c] := by
    apply Array.ext'
    simpa using h
  rw [this]
theorem inP_some {X : Cx} (hu : X.A.units + 65 < cLine) {ms : List Addr} {F H : Hp} {μ : List MO} {x y : V} {dx dy : D} {b : Bool} (r : HR (gm X cl) ms F H μ) (hx : Has (gm X cl) ms F x dx) (hy : Has (gm X cl) ms F y dy) (h : inP dx dy μ = some b) (Q : VK) :
    (Q (.bl b) H → ∃ r, OpR X (compareOp .In) r ∧ r x y H Q) ∧ (Q (.bl (!b)) H → ∃ r, OpR X (compareOp .NotIn) r ∧ r x y H Q) := by
  unfold inP at h
  split at h
  · split at h
    · split at h
      · rename_i c hc
        cases h
        rw [one_sign hc] at hx
        exact ⟨fun q => ⟨_, op_in_sign, c, _, hx, hy, q⟩, fun q => ⟨_, op_notIn_sign, c, _, hx, hy, q⟩⟩
      · cases h
    · cases h
  · split at h
    · rename_i p ps e1 e2
      split at h
      · rename_i hz
        cases h
        exact ⟨fun q => ⟨_, op_inD hu, p, ps, dp_of r _ _ _ _ e1 hx, dp_of r _ _ _ _ e2 hy, hz.1, hz.2, q⟩, fun q => ⟨_, op_notInD hu, p, ps, dp_of r _ _ _ _ e1 hx, dp_of r _ _ _ _ e2 hy, hz.1, hz.2, q⟩⟩
      · cases h
    · cases h
theorem opd_in (hu : X.A.units + 65 < cLine) : OpD X cl (compareOp .In) inD := by
  intro ms F H μ x y dx dy d μ' Q r hx hy ev k
  unfold inD at ev
  split at ev
  · rename_i b hb; cases ev; exact (inP_some hu r hx hy hb Q).1 (k.imm r rfl)
  · cases ev
theorem opd_nin (hu : X.A.units + 65 < cLine) : OpD X cl (compareOp .NotIn) ninD := by
  intro ms F H μ x y dx dy d μ' Q r hx hy ev k
  unfold ninD at ev
  split at ev
  · rename_i b hb; cases ev; exact (inP_some hu r hx hy hb Q).2 (k.imm r rfl)
  · cases ev
/-- is None -/
def isND : G2 := fun x y μ => match y with
  | .non => some (.bl (match x with | .non => true | _ => false), μ)
  | _ => none
/-! ### a chain of two comparisons -/
variable {a b c e : Expr} {fa fb fc : EF} {pos : Pos}
def eChain (g g' : G2) (fa fb fc : EF) : EF := eThen fa fun x => eThen fb fun y δ μ => match g x y μ with
  | some (.bl true, μ1) => eThen fc (fun z _ μ => g' y z μ) δ μ1
  | some (.bl false, μ1) => some (.bl false, μ1)
  | _ => none
end
end G

set_option Elab.async false
set_option linter.all false
set_option autoImplicit false
set_option maxRecDepth 100000
set_option maxHeartbeats 2000000
namespace G
open PySem PySem.Spec PySem.Calls L2
section
variable {X : Cx} {cl : Nat → Addr} {a b c e o i : Expr} {es : List Expr} {fe fa fb fc fo fi : EF} {pos p p1 p2 apos : Pos} {r : AF}
/-! ### chains -/
theorem chain_run {op op' : Value → Value → Sem Value} {g g' : G2} (ho : OpD X cl op g) (ho' : OpD X cl op' g') {σ : L2.St} {H : Hp} {Q : VK} (h : tE (gm X cl) (eChain g g' fa fb fc) σ H Q) :
    tChain (fun x y H Q => ∃ r, OpR X op r ∧ r x y H Q) (fun x y H Q => ∃ r, OpR X op' r ∧ r x y H Q) (tE (gm X cl) fa) (tE (gm X cl) fb) (tE (gm X cl) fc) σ H Q := by
  obtain ⟨O, ms, F, δ, μ, d, μ', R, ev, k⟩ := h
  obtain ⟨dx, μ1, e1, ev⟩ := eThen_some ev
  obtain ⟨dy, μ2, e2, ev⟩ := eThen_some ev
  refine tE.seq R e1 fun x H1 ms1 F1 R1 s1 q1 => tE.seq R1 e2 fun y H2 ms2 F2 R2 s2 q2 => ?_
  have s12 := s1.trans' R1.hr s2
  split at ev
  · rename_i μ3 eg
    refine ho ms2 F2 H2 μ2 x y dx dy _ μ3 _ R2.hr (q1.step s2) q2 eg fun v H3 ms3 F3 r3 s3 q3 => ⟨true, q3, ?_⟩
    rw [if_pos rfl]
    obtain ⟨dz, μ4, e4, ev⟩ := eThen_some ev
    have R3 := R2.step r3 s3
    refine tE.seq R3 e4 fun z H4 ms4 F4 R4 s4 q4 => ?_
    exact ho' ms4 F4 H4 μ4 y z dy dz d μ' Q R4.hr ((q2.step s3).step s4) q4 ev fun v H' ms' F' r s q => k v H' ms' F' r (((s12.trans' R2.hr s3).trans' r3 s4).trans' R4.hr s) q
  · rename_i μ3 eg
    cases ev
    refine ho ms2 F2 H2 μ2 x y dx dy _ _ _ R2.hr (q1.step s2) q2 eg fun v H3 ms3 F3 r3 s3 q3 => ⟨false, q3, ?_⟩
    rw [if_neg Bool.false_ne_true]
    exact k _ H3 ms3 F3 r3 (s12.trans' R2.hr s3) rfl
  · cases ev
theorem de_chain {op op' : CmpOp} {g g' : G2} (ho : OpD X cl (compareOp op) g) (ho' : OpD X cl (compareOp op') g') (ha : DE X cl a fa) (hb : DE X cl b fb) (hc : DE X cl c fc) (hm : lastMarks [op, op'] [b, c] = false := by with_unfolding_all rfl) :
    DE X cl (.Compare a [op, op'] [b, c] pos) (eChain g g' fa fb fc) := ⟨(pe_chain OpR.any OpR.any ha.p hb.p hc.p hm).weak fun σ H Q h => chain_run ho ho' h⟩
theorem dt_chain {op op' : CmpOp} {g g' : G2} (ho : OpD X cl (compareOp op) g) (ho' : OpD X cl (compareOp op') g') (ha : DE X cl a fa) (hb : DE X cl b fb) (hc : DE X cl c fc) (hm : lastMarks [op, op'] [b, c] = false := by with_unfolding_all rfl) :
    DT X cl (.Compare a [op, op'] [b, c] pos) (asB (eChain g g' fa fb fc)) := ⟨(pt_chain OpR.any OpR.any ha.p hb.p hc.p hm).weak fun σ H Q ⟨O, ms, F, δ, μ, d, μ', R, ev, k⟩ => 
    chain_run ho ho' ⟨O, ms, F, δ, μ, .bl d, μ', R, asB_some ev, fun v H' ms' F' r s q => ⟨d, q, k H' ms' F' r s⟩⟩⟩
/-! ### is None -/
def isNone : D → Bool
  | .non => true
  | _ => false
theorem has_non {Γ : Gm} {ms : List Addr} {F : Hp} {v : V} : ∀ {d : D}, Has Γ ms F v d → decide (v = .non) = isNone d
  | .non, h => by rw [show v = .non from h]; rfl
  | .bl b, h => by rw [show v = .bl b from h]; rfl
  | .int b, h => by rw [show v = .int b from h]; rfl
  | .str b, h => by rw [show v = .str b from h]; rfl
  | .ty b, h => by rw [show v = .ty b from h]; rfl
  | .lst _, ⟨_, _, h, _⟩ => by rw [h]; rfl
  | .tup _, ⟨_, _, h, _⟩ => by rw [h]; rfl
  | .dct _ _, ⟨_, _, h, _⟩ => by rw [h]; rfl
  | .ins _ _ _, ⟨_, _, _, h, _⟩ => by rw [h]; rfl
  | .mut _, ⟨_, h, _⟩ => by rw [h]; rfl
  | .scr _, ⟨_, h, _⟩ => by rw [h]; rfl
  | .exc _ _ _ _, ⟨_, _, _, _, h, _⟩ => by rw [h]; rfl
  | .cls _, h => by rw [show v = .ref _ from h]; rfl
def eIsN (f : EF) : EF := eThen f fun d _ μ => some (.bl (isNone d), μ)
def eNotN (f : EF) : EF := eThen f fun d _ μ => some (.bl (!isNone d), μ)
theorem de_isN {j p'} (ha : DE X cl a fa) : DE X cl (.Compare a [.Is] [.Constant .none j p'] pos) (eIsN fa) := ⟨(pe_cmp (pc_isN ha.p)).weak fun σ H Q ⟨O, ms, F, δ, μ, d, μ', R, ev, k⟩ => by
  obtain ⟨d1, μ1, e1, ev⟩ := eThen_some ev
  cases ev
  refine tE.seq R e1 fun v H1 ms1 F1 R1 s1 q1 => ?_
  have := has_non q1
  rw [this]
  exact k _ H1 ms1 F1 R1.hr s1 rfl⟩
theorem de_notN {j p'} (ha : DE X cl a fa) : DE X cl (.Compare a [.IsNot] [.Constant .none j p'] pos) (eNotN fa) := ⟨(pe_cmp (pc_notN ha.p)).weak fun σ H Q ⟨O, ms, F, δ, μ, d, μ', R, ev, k⟩ => by
  obtain ⟨d1, μ1, e1, ev⟩ := eThen_some ev
  cases ev
  refine tE.seq R e1 fun v H1 ms1 F1 R1 s1 q1 => ?_
  have := has_non q1
  rw [this]
  exact k _ H1 ms1 F1 R1.hr s1 rfl⟩
/-! ### a test by truth -/
def truD (μ : List MO) : D → Option Bool
  | .non => some false
  | .bl b => some b
  | .int i => some (i != 0)
  | .str x => if x.length ≤ 1000000 then some ((x.length : Int) != 0) else none
  | .lst xs => some (!xs.isEmpty)
  | .tup xs => some (!xs.isEmpty)
  | .dct ks xs => some (!ks.isEmpty)
  | .mut k => match μ[k]? with
    | some (.lst xs) => some (!xs.isEmpty)
    | some (.dct ks xs) => some (!ks.isEmpty)
    | _ => none
  | _ => none
theorem HasL.isE {Γ : Gm} {ms : List Addr} {F : Hp} {vs : List V} {ds : List D} (h : HasL Γ ms F vs ds) : vs.isEmpty = ds.isEmpty := by
  cases ds with
  | nil => cases h; rfl
  | cons _ _ => obtain ⟨_, _, rfl, _⟩ := h; rfl
theorem zip_isE {α β : Type} {ks : List α} {xs : List β} (h : ks.length = xs.length) : (ks.zip xs).isEmpty = ks.isEmpty := by
  cases ks with
  | nil => rfl
  | cons _ _ => cases xs with
    | nil => simp at h
    | cons _ _ => rfl
theorem truD_ok {Γ : Gm} {ms : List Addr} {F H : Hp} {μ : List MO} {v : V} {d : D} {b : Bool} (r : HR Γ ms F H μ) (h : Has Γ ms F v d) (e : truD μ d = some b) : TruV Γ.K v H b := by
  unfold truD at e
  split at e
  · cases e; rw [show v = .non from h]; exact rfl
  · cases e; rw [show v = .bl b from h]; exact rfl
  · cases e; rename_i i; rw [show v = .int i from h]; exact rfl
  · split at e
    · rename_i x hz; cases e; rw [show v = .str x from h]; exact ⟨million hz, rfl⟩
    · cases e
  · cases e; obtain ⟨a, xs, rfl, hs, hl⟩ := h; exact .inl ⟨xs, SqL.of (r.sub _ _ hs), by rw [hl.isE]⟩
  · cases e; obtain ⟨a, xs, rfl, hs, hl⟩ := h; exact .inr (.inl ⟨xs, (Tp.same r.sub hs).sq, by rw [hl.isE]⟩)
  · cases e; obtain ⟨a, xs, rfl, hs, hn, hl⟩ := h; exact .inr (.inr ⟨_, r.sub _ _ hs, by rw [zip_isE hn]⟩)
  · split at e
    · rename_i k xs hk
      cases e
      obtain ⟨a, rfl, hm⟩ := h
      obtain ⟨a', ha', ys, hx, hl⟩ := r.obj _ _ hk
      rw [hm] at ha'; cases ha'
      exact .inl ⟨ys, SqL.of hx, by rw [hl.isE]⟩
    · rename_i k ks xs hk
      cases e
      obtain ⟨a, rfl, hm⟩ := h
      obtain ⟨a', ha', ys, hx, hn, hl⟩ := r.obj _ _ hk
      rw [hm] at ha'; cases ha'
      exact .inr (.inr ⟨_, hx, by rw [zip_isE hn]⟩)
    · cases e
  · cases e
def tTru (f : EF) : TF := eThen f fun d _ μ => match truD μ d with
  | some b => some (b, μ)
  | none => none
theorem dt_tru (h : DE X cl a fa) (he : ∀ whole, isTrue a X.env whole = (do let v ← whole; standAt a.pos; holding [v] (truthy v)) := by intro _; rfl) : DT X cl a (tTru fa) := ⟨(pt_truth h.p he).weak fun σ H Q ⟨O, ms, F, δ, μ, d, μ', R, ev, k⟩ => by
  obtain ⟨d1, μ1, e1, ev⟩ := eThen_some ev
  refine tE.seq R e1 fun v H1 ms1 F1 R1 s1 q1 => ?_
  split at ev
  · rename_i b hb; cases ev; exact ⟨_, truD_ok R1.hr q1 hb, k H1 ms1 F1 R1.hr s1⟩
  · cases ev⟩
/-! ### subscripts -/
theorem _root_.L2.IxR.any : IxR X (fun x y H Q => ∃ r, IxR X r ∧ r x y H Q) := by
  intro value slice pins s σ H x y v u Q I rx ry ⟨r, ho, h⟩ hs
  exact ho value slice pins s σ H x y v u Q I rx ry h hs
def ixD : G2 := fun x y μ => match y with
  | .int j => match x with
    | .str z => if z.length ≤ 1000000 then match atI z.cps.toList j with
      | some c => some (.str ⟨#[c]⟩, μ)
      | none => none else none
    | .scr ns => match atI ns j with
      | some n => some (.int n, μ)
      | none => none
    | x => match seqD μ x with
      | some (_, ds) => match atI ds j with
        | some d => some (d, μ)
        | none => none
      | none => none
  | _ => none
theorem HasL.atI {Γ : Gm} {ms : List Addr} {F : Hp} {vs : List V} {ds : List D} {j : Int} {d : D} (h : HasL Γ ms F vs ds) (e : L2.atI ds j = some d) : ∃ v, L2.atI vs j = some v ∧ Has Γ ms F v d := by
  unfold L2.atI at e ⊢
  rw [h.length]
  cases e1 : ixN ds.length j with
  | none => rw [e1] at e; cases e
  | some m =>
    rw [e1] at e
    exact h.get (i := m) e
theorem ixD_ok {ms : List Addr} {F H : Hp} {μ : List MO} {x y : V} {dx dy d : D} {μ' : List MO} {Q : VK} (r : HR (gm X cl) ms F H μ) (hx : Has (gm X cl) ms F x dx) (hy : Has (gm X cl) ms F y dy) (ev : ixD dx dy μ = some (d, μ')) (k : Fin1 (gm X cl) ms F H d μ' Q) : ∃ r, IxR X r ∧ r x y H Q := by
  unfold ixD at ev
  split at ev
  · rename_i j
    split at ev
    · split at ev
      · rename_i z hz
        split at ev
        · rename_i c hc
          cases ev
          exact ⟨_, ix_str, z, j, c, hx, hy, million hz, hc, k.imm r rfl⟩
        · cases ev
      · cases ev
    · split at ev
      · rename_i ns _ n hn
        cases ev
        obtain ⟨a, rfl, hs⟩ := hx
        refine ⟨_, ix_list, a, _, j, .int n, rfl, hy, hs.imp (fun h => ?_) (fun h => h), ?_, k.imm r rfl⟩
        · rcases h with h | ⟨o, h⟩
          · exact .inl (r.sub _ _ h)
          · exact .inr ⟨o, r.sub _ _ h⟩
        · unfold L2.atI at hn ⊢
          rw [List.length_map]
          cases e1 : ixN ns.length j with
          | none => rw [e1] at hn; cases hn
          | some m =>
            rw [e1] at hn
            have hn' : ns[m]? = some n := hn
            show (ns.map V.int)[m]? = some (V.int n)
            rw [List.getElem?_map, hn']; rfl
      · cases ev
    · split at ev
      · rename_i sk ds hq
        split at ev
        · rename_i d' hd
          cases ev
          obtain ⟨a, xs, rfl, hs, hl⟩ := seqD_ok r hx hq
          obtain ⟨v, hv, q⟩ := hl.atI hd
          cases sk with
          | l => exact ⟨_, ix_list, a, xs, j, v, rfl, hy, SqL.of hs, hv, k.imm r q⟩
          | t => exact ⟨_, ix_tup, a, xs, j, v, rfl, hy, hs.sq, hv, k.imm r q⟩
        · cases ev
      · cases ev
  · cases ev
theorem de_ix (ha : DE X cl a fa) (hb : DE X cl b fb) (hs : PlainIx b) : DE X cl (.Subscript a b pos) (eBin ixD fa fb) := ⟨(pe_ix IxR.any ha.p hb.p hs).weak fun σ H Q ⟨O, ms, F, δ, μ, d, μ', R, ev, k⟩ => by
  obtain ⟨dx, μ1, e1, ev⟩ := eThen_some ev
  obtain ⟨dy, μ2, e2, ev⟩ := eThen_some ev
  refine tE.seq R e1 fun x H1 ms1 F1 R1 s1 q1 => tE.seq R1 e2 fun y H2 ms2 F2 R2 s2 q2 => ?_
  exact ixD_ok R2.hr (q1.step s2) q2 ev (k.step R2.hr (s1.trans' R1.hr s2))⟩
/-- x[i], x's own list -/
def eIxO (i : Nat) (f : EF) : EF := fun δ μ => match f δ μ with
  | some (.int j, μ1) => match δ[i]? with
    | some (.own xs) => match atI xs j with
      | some d => some (d, μ1)
      | none => none
    | _ => none
  | _ => none
theorem de_ixO {i : Nat} (ha : PE X a (tVar i)) (hb : DE X cl b fb) (hs : PlainIx b) : DE X cl (.Subscript a b pos) (eIxO i fb) := ⟨(pe_ix ix_list ha hb.p hs).weak fun σ H Q ⟨O, ms, F, δ, μ, d, μ', R, ev, k⟩ => by
  unfold eIxO at ev
  split at ev
  · rename_i j μ1 e1
    split at ev
    · rename_i xs hd
      split at ev
      · rename_i d' ed
        cases ev
        obtain ⟨a', vs, ea, ha', hl, _⟩ := R.er.ok i _ hd
        refine ⟨_, ea, ?_⟩
        refine tE.seq R e1 fun y H1 ms1 F1 R1 s1 q1 => ?_
        obtain ⟨a2, vs2, ea2, ha2, hl2, _⟩ := R1.er.ok i _ hd
        rw [ea] at ea2; cases ea2
        obtain ⟨v, hv, q⟩ := hl2.atI ed
        exact ⟨a', vs2, j, v, rfl, q1, SqL.of ha2, hv, k v H1 ms1 F1 R1.hr s1 q⟩
      · cases ev
    · cases ev
  · cases ev⟩
/-! ### slices -/
abbrev PF := List SV → List MO → Option (Option Int × List MO)
def tP (Γ : Gm) (f : PF) : TO := fun σ H Q => ∃ O ms F δ μ d μ', SR Γ O ms F H σ δ μ ∧ f δ μ = some (d, μ') ∧ ∀ H' ms' F', HR Γ ms' F' H' μ' → Stp ms ms' F F' H H' → Q d H'
structure DP (X : Cx) (cl : Nat → Addr) (e : Option Expr) (f : PF) : Prop where
  p : PO X e (tP (gm X cl) f)
theorem _root_.L2.PO.weak {X : Cx} {e : Option Expr} {t t' : TO} (h : PO X e t) (k : ∀ σ H Q, t' σ H Q → t σ H Q) : PO X e t' := ⟨fun pins s σ H Q I q => h.run pins s σ H Q I (k σ H Q q)⟩
def pNo : PF := fun _ μ => some (none, μ)
def pSo (f : EF) : PF := eThen f fun d _ μ => match d with
  | .int i => some (some i, μ)
  | _ => none
theorem dp_no : DP X cl none pNo := ⟨po_none.weak fun σ H Q ⟨O, ms, F, δ, μ, d, μ', R, ev, k⟩ => by cases ev; exact k H ms F R.hr (Stp.refl _ _ _)⟩
theorem dp_so (h : DE X cl e fe) : DP X cl (some e) (pSo fe) := ⟨(po_some h.p).weak fun σ H Q ⟨O, ms, F, δ, μ, d, μ', R, ev, k⟩ => by
  obtain ⟨d1, μ1, e1, ev⟩ := eThen_some ev
  refine tE.seq R e1 fun v H1 ms1 F1 R1 s1 q1 => ?_
  split at ev
  · cases ev; exact ⟨_, q1, k H1 ms1 F1 R1.hr s1⟩
  · cases ev⟩
theorem tP.seq {f : PF} {Γ : Gm} {O : Og} {ms : List Addr} {F H : Hp} {σ : L2.St} {δ : List SV} {μ μ1 : List MO} {d : Option Int} {Q : Option Int → Hp → Prop} (R : SR Γ O ms F H σ δ μ) (e : f δ μ = some (d, μ1))
    (k : ∀ H1 ms1 F1, SR Γ O ms1 F1 H1 σ δ μ1 → Stp ms ms1 F F1 H H1 → Q d H1) : tP Γ f σ H Q := ⟨O, ms, F, δ, μ, d, μ1, R, e, fun H1 ms1 F1 r s => k H1 ms1 F1 (R.step r s) s⟩
def cutL (xs : List D) (lo hi : Option Int) : List D := (xs.drop (HT.sIx xs.length 0 lo)).take (HT.sIx xs.length xs.length hi - HT.sIx xs.length 0 lo)
/-- a text's slice -/
def eSlS (f : EF) (lo hi : PF) : EF := eThen f fun x δ μ => match x with
  | .str z => if z.length ≤ 1000000 then match lo δ μ with
    | some (l, μ1) => match hi δ μ1 with
      | some (h, μ2) => some (.str (cutS z l h), μ2)
      | none => none
    | none => none else none
  | _ => none
theorem de_slS {lo hi : Option Expr} {fl fh : PF} (ha : DE X cl a fa) (hl : DP X cl lo fl) (hh : DP X cl hi fh) : DE X cl (.Subscript a (.Slice lo hi none p2) pos) (eSlS fa fl fh) := ⟨(pe_slice sl_str ha.p hl.p hh.p).weak fun σ H Q ⟨O, ms, F, δ, μ, d, μ', R, ev, k⟩ => by
  obtain ⟨d1, μ1, e1, ev⟩ := eThen_some ev
  refine tE.seq R e1 fun v H1 ms1 F1 R1 s1 q1 => ?_
  split at ev
  · split at ev
    · rename_i z hz
      split at ev
      · rename_i l μ2 el
        split at ev
        · rename_i h μ3 eh
          cases ev
          refine tP.seq R1 el fun H2 ms2 F2 R2 s2 => tP.seq R2 eh fun H3 ms3 F3 R3 s3 => ?_
          exact ⟨z, q1, million hz, k _ H3 ms3 F3 R3.hr ((s1.trans' R1.hr s2).trans' R2.hr s3) rfl⟩
        · cases ev
      · cases ev
    · cases ev
  · cases ev⟩
theorem HasL.cut {Γ : Gm} {ms : List Addr} {F : Hp} {vs : List V} {ds : List D} (h : HasL Γ ms F vs ds) (lo hi : Option Int) : HasL Γ ms F (cutV vs lo hi) (cutL ds lo hi) := by
  unfold cutV cutL
  rw [h.length]
  exact (h.drop _).take _
/-- a list's slice: a new list -/
def nSl (f : EF) (lo hi : PF) : NF := eThen f fun x δ μ => match lo δ μ with
  | some (l, μ1) => match hi δ μ1 with
    | some (h, μ2) => match seqD μ2 x with
      | some (.l, ds) => some (cutL ds l h, μ2)
      | _ => none
    | none => none
  | none => none
theorem dn_sl {lo hi : Option Expr} {fl fh : PF} (ha : DE X cl a fa) (hl : DP X cl lo fl) (hh : DP X cl hi fh) : DN X cl (.Subscript a (.Slice lo hi none p2) pos) (nSl fa fl fh) := ⟨(pe_slice sl_list ha.p hl.p hh.p).weak fun σ H Q ⟨O, ms, F, δ, μ, d, μ', R, ev, k⟩ => by
  obtain ⟨d1, μ1, e1, ev⟩ := eThen_some ev
  refine tE.seq R e1 fun v H1 ms1 F1 R1 s1 q1 => ?_
  split at ev
  · rename_i l μ2 el
    split at ev
    · rename_i h μ3 eh
      split at ev
      · rename_i ds hq
        cases ev
        refine tP.seq R1 el fun H2 ms2 F2 R2 s2 => tP.seq R2 eh fun H3 ms3 F3 R3 s3 => ?_
        obtain ⟨a', xs, rfl, hs, hl'⟩ := seqD_ok R3.hr ((q1.step s2).step s3) hq
        have s13 := (s1.trans' R1.hr s2).trans' R2.hr s3
        exact ⟨a', xs, rfl, SqL.of hs, fun p hp => (k.step' R3.hr s13).here R3.hr (hl'.cut l h) hp⟩
      · cases ev
    · cases ev
  · cases ev⟩
end
end G

set_option Elab.async false
set_option linter.all false
set_option autoImplicit false
set_option maxRecDepth 100000
set_option maxHeartbeats 2000000
namespace G
open PySem PySem.Spec PySem.Calls L2
section
variable {X : Cx} {cl : Nat → Addr} {a b c e o i : Expr} {es : List Expr} {fe fa fb fc fo fi : EF} {pos p p1 p2 apos : Pos} {r : AF}
abbrev G1 := List D → List MO → Option (D × List MO)
/-! ### len -/
def lenD : G1 := fun ds μ => match ds with
  | [x] => match x with
    | .str z => if z.length ≤ 1000000 then some (.int z.length, μ) else none
    | .scr ns => some (.int ns.length, μ)
    | x => match seqD μ x with
      | some (_, xs) => some (.int xs.length, μ)
      | none => none
  | _ => none
theorem cd_len : CallD X cl (.builtin "len") lenD := by
  intro ms F H μ vs ds d μ' Q r hv ev k
  unfold lenD at ev
  split at ev
  · rename_i x
    obtain ⟨v, rfl, h⟩ := hv.one'
    split at ev
    · split at ev
      · rename_i z hz; cases ev; exact ⟨_, call_len_str, z, by rw [show v = .str z from h], million hz, k.imm r rfl⟩
      · cases ev
    · rename_i ns
      cases ev
      obtain ⟨a, rfl, hs⟩ := h
      refine ⟨_, call_len_seq, a, _, rfl, .inl (hs.imp (fun h => ?_) fun h => h), by rw [List.length_map]; exact k.imm r rfl⟩
      rcases h with h | ⟨o, h⟩
      · exact .inl (r.sub _ _ h)
      · exact .inr ⟨o, r.sub _ _ h⟩
    · split at ev
      · rename_i sk xs hq
        cases ev
        obtain ⟨a, ys, rfl, hs, hl⟩ := seqD_ok r h hq
        exact ⟨_, call_len_seq, a, ys, rfl, hs.or, by rw [hl.length]; exact k.imm r rfl⟩
      · cases ev
  · cases ev
def lenQ : SK × List D → List MO → Option (D × List MO) := fun dq μ => some (.int dq.2.length, μ)
theorem cq_len : CallQ X cl (.builtin "len") lenQ := by
  intro ms F H μ a xs dq d μ' Q r hs hl ev k
  cases ev
  exact ⟨_, call_len_seq, a, xs, rfl, hs.or, by rw [hl.length]; exact k.imm r rfl⟩
/-! ### numbers -/
def maxD : G1 := fun ds μ => match ds with
  | [.int i, .int j] => some (.int (if j > i then j else i), μ)
  | _ => none
theorem cd_max (hc : X.calm = true) : CallD X cl (.builtin "max") maxD := by
  intro ms F H μ vs ds d μ' Q r hv ev k
  unfold maxD at ev
  split at ev
  · cases ev; obtain ⟨v, w, rfl, h1, h2⟩ := hv.two'; exact ⟨_, call_max2 hc, _, _, by rw [h1, h2], k.imm r rfl⟩
  · cases ev
def minD : G1 := fun ds μ => match ds with
  | [.int i, .int j] => some (.int (if j < i then j else i), μ)
  | _ => none
theorem cd_min (hc : X.calm = true) : CallD X cl (.builtin "min") minD := by
  intro ms F H μ vs ds d μ' Q r hv ev k
  unfold minD at ev
  split at ev
  · cases ev; obtain ⟨v, w, rfl, h1, h2⟩ := hv.two'; exact ⟨_, call_min2 hc, _, _, by rw [h1, h2], k.imm r rfl⟩
  · cases ev
def absD : G1 := fun ds μ => match ds with
  | [.int i] => some (.int (if i < 0 then -i else i), μ)
  | _ => none
theorem cd_abs : CallD X cl (.builtin "abs") absD := by
  intro ms F H μ vs ds d μ' Q r hv ev k
  unfold absD at ev
  split at ev
  · cases ev; obtain ⟨v, rfl, h⟩ := hv.one'; exact ⟨_, call_abs, _, by rw [h], k.imm r rfl⟩
  · cases ev
def intD : G1 := fun ds μ => match ds with
  | [.int i] => some (.int i, μ)
  | [.bl b] => some (.int (if b then 1 else 0), μ)
  | _ => none
theorem cd_int : CallD X cl (.type "int") intD := by
  intro ms F H μ vs ds d μ' Q r hv ev k
  unfold intD at ev
  split at ev
  · cases ev; obtain ⟨v, rfl, h⟩ := hv.one'; exact ⟨_, call_int1, .inl ⟨_, by rw [h], k.imm r rfl⟩⟩
  · cases ev; obtain ⟨v, rfl, h⟩ := hv.one'; exact ⟨_, call_int1, .inr ⟨_, by rw [h], k.imm r rfl⟩⟩
  · cases ev
def strD : G1 := fun ds μ => match ds with
  | [.int i] => if i.natAbs.log2 < 1920 then some (.str (toString i), μ) else none
  | _ => none
theorem cd_str : CallD X cl (.type "str") strD := by
  intro ms F H μ vs ds d μ' Q r hv ev k
  unfold strD at ev
  split at ev
  · split at ev
    · rename_i i hz; cases ev; obtain ⟨v, rfl, h⟩ := hv.one'; exact ⟨_, call_str_int, _, by rw [h], hz, k.imm r rfl⟩
    · cases ev
  · cases ev
def ordD : G1 := fun ds μ => match ds with
  | [.str x] => if x.length = 1 then some (.int (x.cps.getD 0 0 : Nat), μ) else none
  | _ => none
theorem cd_ord : CallD X cl (.builtin "ord") ordD := by
  intro ms F H μ vs ds d μ' Q r hv ev k
  unfold ordD at ev
  split at ev
  · split at ev
    · rename_i i hz; cases ev; obtain ⟨v, rfl, h⟩ := hv.one'; exact ⟨_, call_ord, _, by rw [h], hz, k.imm r rfl⟩
    · cases ev
  · cases ev
/-! ### all, any of truths -/
def blsD : List D → Option (List Bool)
  | [] => some []
  | .bl b :: ds => match blsD ds with
    | some bs => some (b :: bs)
    | none => none
  | _ => none
theorem blsD_ok {Γ : Gm} {ms : List Addr} {F : Hp} : ∀ {ds : List D} {bs : List Bool} {vs : List V}, blsD ds = some bs → HasL Γ ms F vs ds → vs = bs.map V.bl
  | [], bs, vs, e, h => by cases e; cases h; rfl
  | d :: ds, bs, vs, e, ⟨w, ws, hv, h1, h2⟩ => by
    subst hv
    cases d with
    | bl b =>
      unfold blsD at e
      split at e
      · rename_i bs' e'
        cases e
        rw [show w = .bl b from h1, blsD_ok e' h2]; rfl
      · cases e
    | _ => cases e
def allD : G1 := fun ds μ => match ds with
  | [.lst xs] => match blsD xs with
    | some bs => some (.bl (bs.all id), μ)
    | none => none
  | _ => none
theorem cd_all (hc : X.calm = true) : CallD X cl (.builtin "all") allD := by
  intro ms F H μ vs ds d μ' Q r hv ev k
  unfold allD at ev
  split at ev
  · split at ev
    · rename_i xs bs hb
      cases ev
      obtain ⟨v, rfl, a, ys, rfl, hs, hl⟩ := hv.one'
      exact ⟨_, cr_all hc, a, bs, rfl, by rw [← blsD_ok hb hl]; exact SqL.of (r.sub _ _ hs), k.imm r rfl⟩
    · cases ev
  · cases ev
def anyD : G1 := fun ds μ => match ds with
  | [.lst xs] => match blsD xs with
    | some bs => some (.bl (bs.any id), μ)
    | none => none
  | _ => none
theorem cd_any (hc : X.calm = true) : CallD X cl (.builtin "any") anyD := by
  intro ms F H μ vs ds d μ' Q r hv ev k
  unfold anyD at ev
  split at ev
  · split at ev
    · rename_i xs bs hb
      cases ev
      obtain ⟨v, rfl, a, ys, rfl, hs, hl⟩ := hv.one'
      exact ⟨_, cr_any hc, a, bs, rfl, by rw [← blsD_ok hb hl]; exact SqL.of (r.sub _ _ hs), k.imm r rfl⟩
    · cases ev
  · cases ev
/-! ### isinstance by built-in types -/
def typeD (μ : List MO) : D → Option String
  | .non => some "NoneType"
  | .bl _ => some "bool"
  | .int _ => some "int"
  | .str _ => some "str"
  | .lst _ => some "list"
  | .tup _ => some "tuple"
  | .dct _ _ => some "dict"
  | .mut k => match μ[k]? with
    | some (.lst _) => some "list"
    | some (.dct _ _) => some "dict"
    | _ => none
  | _ => none
theorem typeD_ok {Γ : Gm} {ms : List Addr} {F H : Hp} {μ : List MO} {v : V} {d : D} {n : String} (r : HR Γ ms F H μ) (h : Has Γ ms F v d) (e : typeD μ d = some n) : TyX Γ.K H v (.type n) := by
  unfold typeD at e
  split at e
  · cases e; rw [show v = .non from h]; exact .base .non
  · cases e; rename_i b; rw [show v = .bl b from h]; exact .base (.bl b)
  · cases e; rename_i b; rw [show v = .int b from h]; exact .base (.int b)
  · cases e; rename_i b; rw [show v = .str b from h]; exact .base (.str b)
  · cases e; obtain ⟨a, xs, rfl, hs, hl⟩ := h; exact .base (.lst (r.sub _ _ hs))
  · cases e; obtain ⟨a, xs, rfl, hs, hl⟩ := h
    rcases hs with hs | ⟨o, its, n, hk, hc, _⟩
    · exact .base (.tup (r.sub _ _ hs))
    · exact .kTuple hk hc
  · cases e; obtain ⟨a, xs, rfl, hs, hn, hl⟩ := h; exact .base (.dK (r.sub _ _ hs))
  · split at e
    · rename_i k xs hk
      cases e
      obtain ⟨a, rfl, hm⟩ := h
      obtain ⟨a', ha', ys, hx, hl⟩ := r.obj _ _ hk
      rw [hm] at ha'; cases ha'
      exact .base (.lst hx)
    · rename_i k ks xs hk
      cases e
      obtain ⟨a, rfl, hm⟩ := h
      obtain ⟨a', ha', ys, hx, hn, hl⟩ := r.obj _ _ hk
      rw [hm] at ha'; cases ha'
      exact .base (.dK hx)
    · cases e
  · cases e
def isiAny (n : String) : List D → Option Bool
  | [] => some false
  | .ty T :: r => match kitB n T with
    | some true => some true
    | some false => isiAny n r
    | none => none
  | _ => none
def isiD : G1 := fun ds μ => match ds with
  | [x, .ty T] => match typeD μ x with
    | some n => match kitB n T with
      | some b => some (.bl b, μ)
      | none => none
    | none => none
  | [x, .tup ts] => match typeD μ x with
    | some n => match isiAny n ts with
      | some b => some (.bl b, μ)
      | none => none
    | none => none
  | _ => none
end
end G

set_option Elab.async false
set_option linter.all false
set_option autoImplicit false
set_option maxRecDepth 100000
set_option maxHeartbeats 2000000
namespace G
open PySem PySem.Spec PySem.Calls L2
section
variable {X : Cx} {cl : Nat → Addr} {a b c e o i : Expr} {es : List Expr} {fe fa fb fc fo fi : EF} {pos p p1 p2 apos cpos : Pos} {r : AF}
def tysD : List D → Option (List String)
  | [] => some []
  | .ty T :: ds => match tysD ds with
    | some Ts => some (T :: Ts)
    | none => none
  | _ => none
theorem tysD_ok {Γ : Gm} {ms : List Addr} {F : Hp} : ∀ {ds : List D} {Ts : List String} {vs : List V}, tysD ds = some Ts → HasL Γ ms F vs ds → vs = Ts.map V.ty
  | [], bs, vs, e, h => by cases e; cases h; rfl
  | d :: ds, bs, vs, e, ⟨w, ws, hv, h1, h2⟩ => by
    subst hv
    cases d with
    | ty b =>
      unfold tysD at e
      split at e
      · rename_i bs' e'
        cases e
        rw [show w = .ty b from h1, tysD_ok e' h2]; rfl
      · cases e
    | _ => cases e
def kitAnyB (n : String) : List String → Option Bool
  | [] => some false
  | T :: r => match kitB n T with
    | some true => some true
    | some false => kitAnyB n r
    | none => none
theorem kitAnyB_ok {K : PySem.W.Frag} {n : String} : ∀ {Ts : List String} {b : Bool}, kitAnyB n Ts = some b → PySem.W.kitAny K (.type n) (Ts.map Value.type) = some b
  | [], b, h => by cases h; rfl
  | T :: Ts, b, h => by
    unfold kitAnyB at h
    show PySem.W.kitAny K (.type n) (Value.type T :: Ts.map Value.type) = some b
    unfold PySem.W.kitAny
    split at h
    · rename_i hk; cases h; rw [kit_ty hk]
    · rename_i hk; rw [kit_ty hk]; exact kitAnyB_ok h
    · cases h
theorem pairTy : ∀ Ts : List String, Paired ClsV (Ts.map V.ty) (Ts.map Value.type)
  | [] => .nil
  | T :: Ts => .cons (.ty T) (pairTy Ts)
def isiP (μ : List MO) (x t : D) : Option Bool := match typeD μ x with
  | none => none
  | some n => match t with
    | .ty T => kitB n T
    | .tup ts => match tysD ts with
      | some Ts => kitAnyB n Ts
      | none => none
    | _ => none
def isiG : G1 := fun ds μ => match ds with
  | [x, t] => match isiP μ x t with
    | some b => some (.bl b, μ)
    | none => none
  | _ => none
theorem cd_isi (noK : ∀ (a : Addr) (xs : List V) (H : Hp), True) : CallD X cl (.builtin "isinstance") isiG := by
  intro ms F H μ vs ds d μ' Q r hv ev k
  unfold isiG at ev
  split at ev
  · rename_i x t
    split at ev
    · rename_i b hb
      cases ev
      obtain ⟨v, w, rfl, hx, ht⟩ := hv.two'
      unfold isiP at hb
      split at hb
      · cases hb
      · rename_i n hn
        have ty := typeD_ok r hx hn
        split at hb
        · rename_i T
          rw [show w = .ty T from ht]
          exact ⟨_, call_isi, v, .ty T, .type n, .type T, b, rfl, .ty T, ty, kit_ty hb, k.imm r rfl⟩
        · rename_i ts
          split at hb
          · rename_i Ts hT
            obtain ⟨tp, xs, rfl, hs, hl⟩ := ht
            have e := tysD_ok hT hl
            subst e
            rcases hs with hs | ⟨ob, its, m, hk, hc, hd, hz, rv⟩
            · exact ⟨_, call_isiT, v, tp, _, .type n, _, b, rfl, r.sub _ _ hs, pairTy Ts, ty, kitAnyB_ok hb, k.imm r rfl⟩
            · have e2 := ClsV.all (pairTy Ts) rv
              obtain ⟨oc, od, dt, sl⟩ := ob
              dsimp only at hc hd
              subst hc; subst hd
              refine ⟨_, call_isiK, v, tp, od, Ts.map Value.type, m, sl, .type n, b, rfl, ?_, ty, kitAnyB_ok hb, k.imm r rfl⟩
              rw [hk, ← e2]
          · cases hb
        · cases hb
    · cases ev
  · cases ev
/-! ### methods of built-in values -/
def tyB (T : String) (μ : List MO) : D → Bool
  | .str _ => T == "str"
  | .lst _ => T == "list"
  | .dct _ _ => T == "dict"
  | .mut k => match μ[k]? with
    | some (.lst _) => T == "list"
    | some (.dct _ _) => T == "dict"
    | _ => false
  | _ => false
theorem tyB_ok {Γ : Gm} {ms : List Addr} {F H : Hp} {μ : List MO} {v : V} {d : D} {T : String} (r : HR Γ ms F H μ) (h : Has Γ ms F v d) (e : tyB T μ d = true) : tyV Γ.K T v H := by
  unfold tyB at e
  split at e
  · rename_i x; rw [show v = .str x from h]; exact (beq_iff_eq.mp e)
  · obtain ⟨a, xs, rfl, hs, hl⟩ := h; exact .inl ⟨beq_iff_eq.mp e, xs, SqL.of (r.sub _ _ hs)⟩
  · obtain ⟨a, xs, rfl, hs, hn, hl⟩ := h; exact .inr (.inr (.inl ⟨beq_iff_eq.mp e, .inl ⟨_, r.sub _ _ hs⟩⟩))
  · obtain ⟨a, rfl, hm⟩ := h
    split at e
    · rename_i xs hk
      obtain ⟨a', ha', ys, hx, hl⟩ := r.obj _ _ hk
      rw [hm] at ha'; cases ha'
      exact .inl ⟨beq_iff_eq.mp e, ys, SqL.of hx⟩
    · rename_i ks xs hk
      obtain ⟨a', ha', ys, hx, hn, hl⟩ := r.obj _ _ hk
      rw [hm] at ha'; cases ha'
      exact .inr (.inr (.inl ⟨beq_iff_eq.mp e, .inl ⟨_, hx⟩⟩))
    · cases e
  · cases e
theorem _root_.L2.MtR.any' {id : String} : MtR X id (fun x vs H Q => ∃ r, MtR X id r ∧ r x vs H Q) := by
  intro pins s σ H x vs v us Q I rx rv ⟨rr, ho, h⟩
  exact ho pins s σ H x vs v us Q I rx rv h
def MtD (X : Cx) (cl : Nat → Addr) (id : String) (g : D → G1) : Prop :=
  ∀ ms F H μ x vs dx ds d μ' Q, HR (gm X cl) ms F H μ → Has (gm X cl) ms F x dx → HasL (gm X cl) ms F vs ds → g dx ds μ = some (d, μ') → Fin1 (gm X cl) ms F H d μ' Q → ∃ r, MtR X id r ∧ r x vs H Q
def eMt (T : String) (g : D → G1) (fo : EF) (r : AF) : EF := eThen fo fun x δ μ => if tyB T μ x = true then aThen r (fun ds _ μ => g x ds μ) δ μ else none
theorem de_bm {name : Str} {T id : String} {g : D → G1} (pa : PlainAttrs T) (slot : Slot T name id) (hty : typeOf (.builtin id) = pure (.type "method_descriptor")) (hm : MtD X cl id g) (ho : DE X cl o fo) (ha : DA X cl (e :: es) r)
    (hbase : attributeBase o name X.env (eval o X.env) = eval o X.env := by rfl)
    (hfew : ((backTo cpos (starEach (e :: es) X.env)).all (fun x => !x.1) && (backToKw cpos (keywordEach [] X.env)).all (fun x => x.1.isSome)
      && decide ((e :: es).length + ([] : List Keyword).length + (if ([] : List Keyword).isEmpty then 0 else 1) < 30)) = true := by rfl)
    (hline : (apos.endLine == cpos.line) = true := by rfl) (hs : starEach (e :: es) X.env = (false, eval e X.env) :: starEach es X.env := by rfl) (hplain : (backTo cpos (starEach es X.env)).any (·.1) = false := by rfl) :
    DE X cl (.Call (.Attribute o name apos) (e :: es) [] cpos) (eMt T g fo r) := ⟨(pe_bm pa slot hty MtR.any' ho.p ha.p hbase hfew hline hs hplain).weak fun σ H Q ⟨O, ms, F, δ, μ, d, μ', R, ev, k⟩ => by
  obtain ⟨dx, μ1, e1, ev⟩ := eThen_some ev
  split at ev
  · rename_i ht
    refine tE.seq R e1 fun x H1 ms1 F1 R1 s1 q1 => ⟨tyB_ok R1.hr q1 ht, ?_⟩
    obtain ⟨ds, μ2, e2, ev⟩ := aThen_some ev
    refine tA.seq R1 e2 fun vs H2 ms2 F2 R2 s2 q2 => ?_
    exact hm ms2 F2 H2 μ2 x vs dx ds d μ' Q R2.hr (q1.step s2) q2 ev (k.step R2.hr (s1.trans' R1.hr s2))
  · cases ev⟩
theorem de_bm0 {name : Str} {T id : String} {g : D → G1} (pa : PlainAttrs T) (slot : Slot T name id) (hty : typeOf (.builtin id) = pure (.type "method_descriptor")) (hm : MtD X cl id g) (ho : DE X cl o fo)
    (hbase : attributeBase o name X.env (eval o X.env) = eval o X.env := by rfl) (hline : (apos.endLine == cpos.line) = true := by rfl) : DE X cl (.Call (.Attribute o name apos) [] [] cpos) (eMt T g fo aNil) := ⟨(pe_bm0 pa slot hty MtR.any' ho.p hbase hline).weak fun σ H Q ⟨O, ms, F, δ, μ, d, μ', R, ev, k⟩ => by
  obtain ⟨dx, μ1, e1, ev⟩ := eThen_some ev
  split at ev
  · rename_i ht
    refine tE.seq R e1 fun x H1 ms1 F1 R1 s1 q1 => ⟨tyB_ok R1.hr q1 ht, ?_⟩
    exact hm ms1 F1 H1 μ1 x [] dx [] d μ' Q R1.hr q1 rfl ev (k.step R1.hr s1)
  · cases ev⟩
def strsD : List D → Option (List Str)
  | [] => some []
  | .str T :: ds => match strsD ds with
    | some Ts => some (T :: Ts)
    | none => none
  | _ => none
theorem strsD_ok {Γ : Gm} {ms : List Addr} {F : Hp} : ∀ {ds : List D} {Ts : List Str} {vs : List V}, strsD ds = some Ts → HasL Γ ms F vs ds → vs = Ts.map V.str
  | [], bs, vs, e, h => by cases e; cases h; rfl
  | d :: ds, bs, vs, e, ⟨w, ws, hv, h1, h2⟩ => by
    subst hv
    cases d with
    | str b =>
      unfold strsD at e
      split at e
      · rename_i bs' e'
        cases e
        rw [show w = .str b from h1, strsD_ok e' h2]; rfl
      · cases e
    | _ => cases e
def joinD : D → G1 := fun x ds μ => match x, ds with
  | .str s, [y] => match seqD μ y with
    | some (_, ys) => match strsD ys with
      | some zs => if (zs.map (·.length)).sum + zs.length * s.length ≤ 1000000 then some (.str (Txt.join s zs), μ) else none
      | none => none
    | none => none
  | _, _ => none
theorem md_join : MtD X cl "str.join" joinD := by
  intro ms F H μ x vs dx ds d μ' Q r hx hv ev k
  unfold joinD at ev
  split at ev
  · rename_i s y
    split at ev
    · rename_i sk ys hq
      split at ev
      · rename_i zs hz
        split at ev
        · rename_i hl
          cases ev
          obtain ⟨v, rfl, hy⟩ := hv.one'
          obtain ⟨a, xs, rfl, hs, hl'⟩ := seqD_ok r hy hq
          have e := strsD_ok hz hl'
          subst e
          exact ⟨_, mt_join, s, a, zs, hx, rfl, hs.or, by omega, k.imm r rfl⟩
        · cases ev
      · cases ev
    · cases ev
  · cases ev
theorem mut_lst {Γ : Gm} {ms : List Addr} {F H : Hp} {μ : List MO} {k : Nat} {v : V} {xs : List D} (r : HR Γ ms F H μ) (h : Has Γ ms F v (.mut k)) (e : μ[k]? = some (.lst xs)) : ∃ a vs, v = .ref a ∧ ms[k]? = some a ∧ H a = some (.lst vs) ∧ HasL Γ ms F vs xs := by
  obtain ⟨a, rfl, hm⟩ := h
  obtain ⟨a', ha', ys, hx, hl⟩ := r.obj _ _ e
  rw [hm] at ha'; cases ha'
  exact ⟨a, ys, rfl, hm, hx, hl⟩
theorem Fin1.wr {Γ : Gm} {ms : List Addr} {F H : Hp} {d : D} {μ : List MO} {Q : VK} {k : Nat} {a : Addr} {vs : List V} {xs : List D} (kk : Fin1 Γ ms F H d (μ.set k (.lst xs)) Q) (r : HR Γ ms F H μ) (ha : ms[k]? = some a) (hl : HasL Γ ms F vs xs) {v : V} (h : Has Γ ms F v d) : Q v (upd H a (.lst vs)) := by
  obtain ⟨r', s⟩ := r.write ha (u := .lst xs) (o := .lst vs) ⟨vs, upd_same, hl⟩
  exact kk v _ ms F r' s h
def appendD : D → G1 := fun x ds μ => match x, ds with
  | .mut k, [d] => match μ[k]? with
    | some (.lst xs) => if xs.length < 1000000 then some (.non, μ.set k (.lst (xs ++ [d]))) else none
    | _ => none
  | _, _ => none
theorem md_append : MtD X cl "list.append" appendD := by
  intro ms F H μ x vs dx ds d μ' Q r hx hv ev k
  unfold appendD at ev
  split at ev
  · rename_i j dd
    split at ev
    · rename_i xs hk
      split at ev
      · rename_i hz
        cases ev
        obtain ⟨v, rfl, hy⟩ := hv.one'
        obtain ⟨a, ws, rfl, hm, ha, hl⟩ := mut_lst r hx hk
        exact ⟨_, mt_append, a, ws, v, rfl, rfl, ha, by rw [hl.length, sizeLine_eq]; omega, k.wr r hm (hl.append (HasL.one hy)) rfl⟩
      · cases ev
    · cases ev
  · cases ev
def reverseD : D → G1 := fun x ds μ => match x, ds with
  | .mut k, [] => match μ[k]? with
    | some (.lst xs) => some (.non, μ.set k (.lst xs.reverse))
    | _ => none
  | _, _ => none
theorem md_reverse : MtD X cl "list.reverse" reverseD := by
  intro ms F H μ x vs dx ds d μ' Q r hx hv ev k
  unfold reverseD at ev
  split at ev
  · split at ev
    · rename_i xs hk
      cases ev
      cases hv
      obtain ⟨a, ws, rfl, hm, ha, hl⟩ := mut_lst r hx hk
      exact ⟨_, mt_reverse, a, ws, rfl, rfl, ha, k.wr r hm hl.rev rfl⟩
    · cases ev
  · cases ev
def clearD : D → G1 := fun x ds μ => match x, ds with
  | .mut k, [] => match μ[k]? with
    | some (.lst xs) => some (.non, μ.set k (.lst []))
    | _ => none
  | _, _ => none
theorem md_clear : MtD X cl "list.clear" clearD := by
  intro ms F H μ x vs dx ds d μ' Q r hx hv ev k
  unfold clearD at ev
  split at ev
  · split at ev
    · rename_i xs hk
      cases ev
      cases hv
      obtain ⟨a, ws, rfl, hm, ha, hl⟩ := mut_lst r hx hk
      exact ⟨_, mt_clear, a, ws, rfl, rfl, ha, k.wr r hm rfl rfl⟩
    · cases ev
  · cases ev
/-! ### o[i] = e -/
def bSt (fe fo fi : EF) : BF := fun δ μ => match fe δ μ with
  | some (d, μ1) => match fo δ μ1 with
    | some (.mut k, μ2) => match fi δ μ2 with
      | some (.int j, μ3) => match μ3[k]? with
        | some (.lst xs) => match ixN xs.length j with
          | some m => some (.nx δ (μ3.set k (.lst (xs.set m d))))
          | none => none
        | _ => none
      | _ => none
    | _ => none
  | none => none
theorem ds_st {sp : Pos} (he : DE X cl e fe) (ho : DE X cl o fo) (hi : DE X cl i fi) (hs : swapsWithSole [.Subscript o i sp] e pos.line X.env = pure false := by rfl) (hw : swappedStores [.Subscript o i sp] e X.env = pure none := by rfl) (h1 : (assignEach [.Subscript o i sp] X.env).map (·.2) = [assign (.Subscript o i sp) X.env] := by rfl)
    (hg : PG X (.Subscript o i sp) (gSub (tE (gm X cl) fo) (tE (gm X cl) fi) rSetL)) :
    DS X cl (.Assign [.Subscript o i sp] e pos) (bSt fe fo fi) := ⟨(ps_asg he.p hg hs hw h1).weak fun D σ H ⟨O, ms, F, δ, μ, oo, R, ev, hO, k⟩ => by
  unfold bSt at ev
  split at ev
  · rename_i d μ1 e1
    split at ev
    · rename_i kk μ2 e2
      split at ev
      · rename_i j μ3 e3
        split at ev
        · rename_i xs hk
          split at ev
          · rename_i m hm
            cases ev
            refine tE.seq R e1 fun v H1 ms1 F1 R1 s1 q1 => tE.seq R1 e2 fun ov H2 ms2 F2 R2 s2 q2 => tE.seq R2 e3 fun iv H3 ms3 F3 R3 s3 q3 => ?_
            obtain ⟨a, ws, rfl, hma, ha, hl⟩ := mut_lst R3.hr (q2.step s3) hk
            refine ⟨a, ws, j, m, rfl, q3, ha, by rw [hl.length]; exact hm, ?_⟩
            obtain ⟨r', s⟩ := R3.hr.write hma (u := .lst (xs.set m d)) (o := .lst (ws.set m v)) ⟨_, upd_same, HasL.set ((q1.step s2).step s3) m hl⟩
            exact k σ _ ms3 F3 (R3.step r' s) (((s1.trans' R1.hr s2).trans' R2.hr s3).ext)
          · cases ev
        · cases ev
      · cases ev
    · cases ev
  · cases ev⟩
end
end G

set_option Elab.async false
set_option linter.all false
set_option autoImplicit false
set_option maxRecDepth 100000
set_option maxHeartbeats 2000000
namespace G
open PySem PySem.Spec PySem.Calls L2
/-- the heap at the law's call: the script alone, frozen -/
def scrH (a : Addr) (vs : List Value) (ns : List Int) : Hp := fun b => if b = a then some (.frz { cls := .type "list", data := .seq vs.toArray } (.lst (ns.map V.int))) else none
theorem scrH_only (a : Addr) (vs : List Value) (ns : List Int) (b : Addr) : scrH a vs ns b = none ∨ ∃ o xs, scrH a vs ns b = some (.frz o (.lst xs)) := by
  unfold scrH
  split
  · exact Or.inr ⟨_, _, rfl⟩
  · exact Or.inl rfl
/-- the call, over an abstract heap that tracks the script at most -/
theorem call_over {P : Program} {w : World} {K : PySem.W.Frag} {mg mb : Str → Option Value} {k : Nat} {fa a : Addr} {fd : FuncData} {x : Str} {sp : Sp} {s : Shared} {vs : List Value} {H : Hp}
    (kin : K.In s.heap) (gns : s.heap.Ns mainGlobals mg) (bns : s.heap.Ns builtinsNs mb) (boot : ∀ x : Str, x ≠ "__name__" → mb x = bootBuiltins x) (lim : s.heap.NoLimit) (nog : s.gens = #[])
    (scr : s.heap.get? a = some { cls := .type "list", data := .seq vs.toArray }) (room : Room k callerA) (hok : HOk P w H s.heap)
    (onlyF : ∀ b, H b = none ∨ ∃ o xs, H b = some (.frz o (.lst xs))) (onlyA : ∀ b, H b ≠ none → b = a) (kfree : H a ≠ none → K.lookup a = none)
    (F : ∀ base : Heap, K.In base → base.Ns mainGlobals mg → FnG P w K mg base k fa fd 1 [x] sp) (hb : ∀ (s : Shared) (u : Value), BindsTo s fd ⟨[u], []⟩ [(x, u)])
    (hsp : sp [.ref a] H (fun v _ => v = .bl true) E0) :
    codeAny (model P w) callerA (.call (.ref fa) ⟨[.ref a], []⟩) (fun r s' => r = .ok (.ret (.bool true)) ∧ OldK s.heap s'.heap ∧ s'.os = s.os ∧ PyProof.Rows.AllBare s'.gens) s := by
  have low : ∀ {b : Addr} {o : Obj}, s.heap.get? b = some o → H b = none → (hidT s.heap H).get? b = some o := fun {b o} e n => hidT_get e n
  have untr : ∀ b, (∀ o, s.heap.get? b = some o → ∀ es ep, o.data = .dict es ep → H b = none) := fun b o e es ep d => by
    cases q : H b with
    | none => rfl
    | some u =>
      obtain rfl := onlyA b (by rw [q]; exact fun z => nomatch z)
      rw [scr] at e
      cases e
      exact absurd d (fun z => nomatch z)
  have nsl : ∀ {b : Addr} {m : Str → Option Value}, s.heap.Ns b m → (hidT s.heap H).Ns b m := by
    rintro b m ⟨o, es, ep, e, d, r⟩
    exact ⟨o, es, ep, low e (untr b o e es ep d), d, r⟩
  have kb : K.In (hidT s.heap H) := by
    intro b o e
    refine low (kin b o e) ?_
    cases q : H b with
    | none => rfl
    | some u =>
      obtain rfl := onlyA b (by rw [q]; exact fun z => nomatch z)
      rw [kfree (by rw [q]; exact fun z => nomatch z)] at e
      exact nomatch e
  obtain ⟨mc, l1, l2⟩ := lim
  have modl : Mod K mg (hidT s.heap H) := ⟨kb, nsl gns, ⟨mb, nsl bns, boot⟩, ⟨mc, nsl l1, l2⟩⟩
  have env : Env0 P w K mg (hidT s.heap H) callerA [] s H :=
    ⟨rfl, modl, fun b o e => of_hidT e, Nat.le_of_eq (hidT_size _ _), trivial, fun b hm => absurd (show b ∈ ([] : List Addr) from hm) (by simp), hok, .of_eq nog⟩
  refine codeAny_mono ((F _ kb (nsl gns)).go (us := [.ref a]) (vs := [V.ref a]) rfl room env (hb s (.ref a)) (.cons rfl .nil) hsp) fun r s' h => ?_
  cases r with
  | error _ => exact (show False from h).elim
  | ok fl =>
    cases fl with
    | next => exact (show False from h).elim
    | brk => exact (show False from h).elim
    | cont => exact (show False from h).elim
    | ret u =>
      obtain ⟨v, H', os, bare, un, hok', rv, q⟩ := h
      subst q
      obtain rfl : u = Value.bool true := rv
      refine ⟨rfl, .of_keep fun b o e => ?_, os, bare⟩
      rcases onlyF b with z | ⟨ob, xs, z⟩
      · exact un.keep b o e z (fun m => by cases m) (fun m => by cases m)
      · obtain ⟨e1, _⟩ := hok b _ z
        obtain ⟨e2, _⟩ := hok' b _ (un.frzs b ob _ z)
        rw [e] at e1
        cases e1
        exact e2
/-- what a law's def promises: over a script it hands back True -/
def spLawD (K : PySem.W.Frag) (cl : Nat → Addr) (fn : FF) : Sp := spF (gk K cl) 1 fn
theorem law_end {l : PySem.W.OpenLaw} {k : Nat} {q : Program} {loose : List Str} {XP : (Str → Option Value) → Heap → Prop} {YP : World → Heap → Prop} {d : DefRec} {K : Params → PySem.W.Frag} {x : Str} {fn : FF}
    (hn : l.most = some 63) (hdf : d.params.defaults = []) (room : Room k callerA) (hY : ∀ (w : World) (h : Heap), YP w h → (K w.params).In h)
    (F : ∀ (w : World) (mg : Str → Option Value) (fa : Addr) (h : Heap), (K w.params).In h → h.Ns mainGlobals mg → mg d.name = some (.ref fa) →
      ∃ (fd : FuncData) (cl : Nat → Addr), (∀ (s : Shared) (u : Value), BindsTo s fd ⟨[u], []⟩ [(x, u)]) ∧
        ∀ base : Heap, (K w.params).In base → base.Ns mainGlobals mg → FnG l.prog w (K w.params) mg base k fa fd 1 [x] (spF (gk (K w.params) cl) 1 fn))
    (good : ∀ ns : List Int, ns.length ≤ 63 → (∀ z ∈ ns, Builtin.Int.intBits z ≤ 1048576) → ∃ μ, fn [.scr ns] [] = some (.bl true, μ)) :
    PySem.W.WalkO q loose XP YP l.row.toRowW d [] (fun f vs => PySem.call f vs) := by
  refine Att.attach_callB hn hdf ?_
  intro w s₀ s mg mb fa o pm cd doc a vs ns G Y ho hd hcd hmg hobj hints hlen hbits hg
  have kin := hY w _ Y
  obtain ⟨fd, cl, hb, hF⟩ := F w mg fa _ kin G.T.g hmg
  have rv := vals_ints hints
  have sz : ns.length ≤ sizeLine := Nat.le_trans hlen (by rw [sizeLine_eq]; decide)
  have sp : ∀ H : Hp, SqL (K w.params) H a (ns.map V.int) → spF (gk (K w.params) cl) 1 fn [.ref a] H (fun v _ => v = .bl true) E0 := fun H hs => by
    obtain ⟨μ, e⟩ := good ns hlen hbits
    exact ⟨[], H, [.scr ns], [], _, μ, ⟨Same.refl _, fun _ h => (by cases h), rfl, .nil, fun _ _ h => by simp at h⟩, ⟨_, _, rfl, ⟨a, rfl, hs⟩, rfl⟩, rfl, e, fun v H' ms' F' _ _ h => h⟩
  cases hk : (K w.params).lookup a with
  | some o2 =>
    have e := kin a o2 hk
    rw [hobj] at e
    cases e
    exact call_over (H := fun _ => none) kin G.T.g G.T.b G.T.builtins G.T.nolimit hg hobj room (fun b u z => nomatch z) (fun _ => .inl rfl) (fun b z => absurd rfl z) (fun z => absurd rfl z) hF hb
      (sp _ (.inr ⟨_, _, _, hk, rfl, rfl, rfl, by rw [List.size_toArray, hints.length]; exact sz, by simpa using rv⟩))
  | none =>
    refine call_over (H := scrH a vs ns) kin G.T.g G.T.b G.T.builtins G.T.nolimit hg hobj room ?_ (scrH_only a vs ns) ?_ (fun _ => hk) hF hb (sp _ (.inl (.inr ⟨_, if_pos rfl⟩)))
    · intro b u z
      unfold scrH at z
      split at z
      · rename_i hba
        subst hba
        cases z
        exact ⟨hobj, by rw [List.length_map]; exact sz, vs, _, rv, hobj⟩
      · cases z
    · intro b z
      unfold scrH at z
      split at z
      · assumption
      · exact absurd rfl z
end G

set_option Elab.async false
set_option linter.all false
set_option autoImplicit false
set_option maxRecDepth 100000
set_option maxHeartbeats 2000000
namespace G
open PySem PySem.Spec PySem.Calls L2
section
variable {X : Cx} {cl : Nat → Addr} {a b c e o i : Expr} {es : List Expr} {fe fa fb fc fo fi : EF} {pos p p1 p2 apos cpos : Pos} {r : AF}
theorem de_gint {x : Str} {v : Int} (hg : Gl X x) (h : ∃ t, X.mg x = some (.int v t)) (hd : (x == ("__debug__" : Str)) = false := by decide) : DE X cl (.Name x pos) (eC (.int v)) := by
  obtain ⟨t, h⟩ := h
  exact de_c (v := .int v) (pe_glob hg h ⟨_, rfl⟩ hd) fun _ _ => rfl
theorem de_gstr {x : Str} {v : Str} (hg : Gl X x) (h : ∃ t, X.mg x = some (.str v t)) (hd : (x == ("__debug__" : Str)) = false := by decide) : DE X cl (.Name x pos) (eC (.str v)) := by
  obtain ⟨t, h⟩ := h
  exact de_c (v := .str v) (pe_glob hg h ⟨_, rfl⟩ hd) fun _ _ => rfl
def eNeg (f : EF) : EF := eThen f fun d _ μ => match d with
  | .int i => some (.int (-i), μ)
  | _ => none
theorem de_neg (h : DE X cl a fa) : DE X cl (.UnaryOp .USub a pos) (eNeg fa) := ⟨(pe_un un_neg h.p).weak fun σ H Q ⟨O, ms, F, δ, μ, d, μ', R, ev, k⟩ => by
  obtain ⟨d1, μ1, e1, ev⟩ := eThen_some ev
  refine tE.seq R e1 fun v H1 ms1 F1 R1 s1 q1 => ?_
  split at ev
  · cases ev; exact ⟨_, q1, k _ H1 ms1 F1 R1.hr s1 rfl⟩
  · cases ev⟩
/-- a comparison with None, as a test -/
theorem dt_isN {j p'} (ha : DE X cl a fa) : DT X cl (.Compare a [.Is] [.Constant .none j p'] pos) (asB (eIsN fa)) := ⟨(pt_cmp (pc_isN ha.p)).weak fun σ H Q ⟨O, ms, F, δ, μ, d, μ', R, ev, k⟩ => by
  obtain ⟨d1, μ1, e1, ev⟩ := eThen_some (asB_some ev)
  cases ev
  refine tE.seq R e1 fun v H1 ms1 F1 R1 s1 q1 => ?_
  have := has_non q1
  refine ⟨_, rfl, ?_⟩
  rw [this]
  exact k H1 ms1 F1 R1.hr s1⟩
theorem dt_notN {j p'} (ha : DE X cl a fa) : DT X cl (.Compare a [.IsNot] [.Constant .none j p'] pos) (asB (eNotN fa)) := ⟨(pt_cmp (pc_notN ha.p)).weak fun σ H Q ⟨O, ms, F, δ, μ, d, μ', R, ev, k⟩ => by
  obtain ⟨d1, μ1, e1, ev⟩ := eThen_some (asB_some ev)
  cases ev
  refine tE.seq R e1 fun v H1 ms1 F1 R1 s1 q1 => ?_
  have := has_non q1
  refine ⟨_, rfl, ?_⟩
  rw [this]
  exact k H1 ms1 F1 R1.hr s1⟩
theorem _root_.L2.Room.un65 {k : Nat} {A : Around} (r : Room k A) : A.units + 65 < cLine := by have := r.un; omega
end
/-- a def of the text, with its promise -/
structure HasF (P : Program) (w : World) (K : PySem.W.Frag) (mg : Str → Option Value) (base : Heap) (cl : Nat → Addr) (k : Nat) (x : Str) (n : Nat) (ps : List Str) (fn : FF) where
  f : Addr
  fd : FuncData
  ok : FnG P w K mg base k f fd n ps (spF (gk K cl) n fn)
  mg : mg x = some (.ref f)
  kp : PySem.W.keepIn K (.ref f) = true
  bd : Binds K fd ps []
end G

set_option Elab.async false
set_option linter.all false
set_option autoImplicit false
set_option maxRecDepth 100000
set_option maxHeartbeats 2000000
namespace G
open PySem PySem.Spec PySem.Calls L2
/-! ### an exception as a value: its args at t, its own dict -/
section
open PySem.W PyProof.Rows
variable {prog : Program} {w : World} {A : Around} {E : Value → Shared → Prop} {s : Shared} {K : Frag} {x C : Addr} {ox od : Obj}
/-- exc.__class__, whatever its own dict holds -/
theorem exc_cls {Q : Option Value → Shared → Prop} (T : ExcC K C) (X : K.In s.heap) (I : InstAt s.heap x ox C (some od)) (h : Q (some (.ref C)) { s with toks := s.toks + 1 }) : wpAny (model prog w) A (getAttr? (.ref x) "__class__") Q E s := by
  have isome : (clsIn K C).isSome := by
    obtain ⟨cd, hc, _⟩ := any_some T.hd
    rw [hc]
    rfl
  have found : findObj K C (some od) "__class__" = some (.bind (.builtin "getset_descriptor.__get__") (.builtin "object.__class__")) := findObj_data isome T.ha T.hn T.ht
  obtain ⟨hp, g, d, t, os⟩ := s
  have ty := I.type (M := model prog w)
  have look1 := looks_findIn (M := model prog w) X T.hg
  have look2 := looks_findIn (M := model prog w) X T.hk
  have look3 := looks_find (M := model prog w) X I found
  have base : Looks (model prog w) hp (isInstance (.ref x) (.type "BaseException")) true := ty.andThen (looks_subIn X T.hs)
  have unlike : (Value.builtin "BaseException.__getattribute__" == Value.builtin "object.__getattribute__") = false := by decide +kernel
  have first : (onTheHeap (Value.ref C) && Value.builtin "BaseException.__getattribute__" == Value.builtin "object.__getattribute__") = false := by
    rw [unlike]
    rfl
  unfold getAttr? getAttrBy? getAttrBy
  refine wpAny_bind (wpAny_mkText (wpAny_bind (wpAny_attempt (wpAny_holding ?_))))
  refine wpAny_bind (ty.at (wpAny_bind (look1.at ?_)))
  dsimp only
  rw [first, if_neg Bool.false_ne_true]
  unfold getAttrByItsOwn hookBefore
  refine wpAny_bind ?_
  rw [if_pos (show onTheHeap (Value.ref C) = true from rfl)]
  refine look2.at (wpAny_bind (wpAny_attempt (wpAny_holding ?_)))
  unfold callGetattribute
  rw [show (false && onTheHeap (Value.builtin "BaseException.__getattribute__")) = false from rfl, if_neg Bool.false_ne_true]
  unfold boundAndCalled
  rw [PySem.F.excAttr_ValueError.ga.bind (.ref x)]
  refine wpAny_bind (wpAny_pure ?_)
  show wpAny _ _ (call (.builtin "BaseException.__getattribute__") [.ref x, .str "__class__" t]) _ _ _
  refine wpAny_call ?_
  refine codeAny_call_builtin PySem.F.excAttr_ValueError.ga.plain PySem.F.entry_bexc_ga ?_
  refine @check_slot (model prog w) _ _ ⟨hp, g, d, t + 1, os⟩ "BaseException.__getattribute__" "BaseException" "__getattribute__" (.ref x)
    [.str "__class__" t] [] _ (by decide +kernel) (by decide +kernel) base (PySem.F.args_bexc_ga (.ref x) (.str "__class__" t)) ?_
  unfold Builtin.«object.__getattribute__»
  refine wpAny_bind (wpAny_of_eq (a := ((Value.ref x : Value), [Value.str "__class__" t])) ?_ ?_)
  · first | rfl | (simp only [slotArgs]; rfl)
  refine wpAny_bind (wpAny_pure (wpAny_bind (ty.at ?_)))
  refine wpAny_bind (look3.at ?_)
  show wpAny _ _ (holding [Value.builtin "object.__class__"] (call (.builtin "getset_descriptor.__get__") [.builtin "object.__class__", .ref x, .ref C]) >>= ret) _ _ _
  refine wpAny_bind (wpAny_holding (wpAny_call ?_))
  refine class_get (s := ⟨hp, g, d, t + 1, os⟩) (ox := ox) (od := some od) X I T.hm ?_
  refine wpAny_pure ?_
  show wpAny _ _ (handedOut (.ref C)) _ _ _
  rw [handedOut_of (v := .ref C) rfl]
  first
    | exact wpAny_pure (wpAny_pure h)
    | exact wpAny_pure h
    | exact wpAny_pure (wpAny_bind (wpAny_pure (wpAny_pure h)))
theorem exc_head {h : Heap} {M : Model} (T : ExcC K C) (X : K.In h) : Looks M h (isType (.ref C)) true := by
  obtain ⟨cd, hc, _⟩ := any_some T.hd
  unfold clsIn at hc
  split at hc
  · rename_i c' d' cd' sl' lk
    intro A' Q' E' s' old q
    unfold isType loadHead
    exact wpAny_bind (wpAny_loadPart (old _ _ (X _ _ lk)) (wpAny_pure q))
  · cases hc
theorem kitx_exc (T : ExcC K C) : KitX K (.ref x) (.ref C) fun h => ∃ ox od, InstAt h x ox C (some od) where
  ty := fun _ _ _ ⟨_, _, I⟩ => I.type
  it := fun M h X _ => exc_head T X
  ne := fun h tp dd its n sl X htp => by
    obtain ⟨cd, hc, _⟩ := any_some T.hd
    cases hb : (Value.ref C == Value.ref tp) with
    | false => rfl
    | true =>
      obtain rfl : C = tp := Value.ref.inj (beq_iff_eq.mp hb)
      unfold clsIn at hc
      split at hc
      · rename_i c' d' cd' sl' lk
        have both := (X _ _ lk).symm.trans htp
        cases both
      · cases hc
  ca := fun X ⟨_, _, I⟩ k => exc_cls T X I k
end
/-- the exception at a, with its dict at dx -/
def ExcAt (Γ : Gm) (F : Hp) (C : Nat) (a dx t : Addr) (fs : List (Str × V)) : Prop := F a = some (exoT a (Γ.cl C) (some dx) t) ∧ F dx = some (exd dx fs)
theorem instAt_exc {P : Program} {w : World} {H : Hp} {h : Heap} {a C dx t : Addr} {fs : List (Str × V)} (hok : HOk P w H h) (e : H a = some (exoT a C (some dx) t)) (ed : H dx = some (exd dx fs)) : ∃ ox od, PySem.W.InstAt h a ox C (some od) := by
  have h1 := exoT_at hok e
  obtain ⟨od, h2⟩ := (hok dx _ ed).2.1
  exact ⟨_, od, h1, rfl, rfl, h2⟩
/-- isinstance(exc, T), (T1, T2) -/
def rIsX (K : PySem.W.Frag) : List V → Hp → VK → Prop := fun xs H Q => ∃ (a C dx t : Addr) (fs : List (Str × V)) (c : V) (u : Value) (b : Bool), xs = [.ref a, c] ∧ H a = some (exoT a C (some dx) t) ∧ H dx = some (exd dx fs) ∧ ExcC K C ∧ ClsV c u ∧ PySem.W.kitOne K (.ref C) u = some b ∧ Q (.bl b) H
theorem call_isX {X : Cx} : CallR X (.builtin "isinstance") (rIsX X.K) := by
  intro pins s σ H xs us Q I r h
  obtain ⟨a, C, dx, t, fs, c, u, b, rfl, ha, hd, T, k, e, q⟩ := h
  obtain ⟨u1, u2, rfl, r1, r2⟩ := vals2 r
  obtain rfl := k.eq r2
  obtain rfl : u1 = Value.ref a := r1
  obtain ⟨ox, od, J⟩ := instAt_exc I.hok ha hd
  exact PySem.W.kia_one (kitx_exc T) I.kIn ⟨ox, od, J⟩ e (fun z => nomatch z) fun tk => ⟨.bl b, H, I.tok tk, rfl, q⟩
end G

set_option Elab.async false
set_option linter.all false
set_option autoImplicit false
set_option maxRecDepth 100000
set_option maxHeartbeats 2000000
namespace G
open PySem PySem.Spec PySem.Calls L2
/-! ### C.m(..), C an own class, m a def of it -/
structure CFn (K : PySem.W.Frag) (C : Addr) (m : Str) (f : Addr) : Prop where
  ga : PySem.W.specialIn K (.ref C) "__getattribute__" = some (some (.builtin "type.__getattribute__"))
  rd : PySem.W.readsIn K C (.type "type") = true
  fc : PySem.W.findCls K (.ref C) (.type "type") m = some (.val (.ref f))
  kp : PySem.W.keepIn K (.ref f) = true
section
variable {X : Cx} {o e : Expr} {es : List Expr} {to te : TE} {t : TA} {m : Str} {pos apos p : Pos} {k n : Nat} {C f : Addr} {fd : FuncData} {ps : List Str} {sp : Sp}
theorem pe_clsfn {pl : Sem Bool} (ho : PE X o to) (c : CFn X.K C m f) (Gf : FnG X.prog X.w X.K X.mg X.base k f fd n ps sp) (hgd : X.A.guards = some []) (hr : Room k X.A) (hb : Binds X.K fd ps []) (ha : PA X (e :: es) t)
    (hst : starEach (e :: es) X.env = (false, eval e X.env) :: starEach es X.env := by rfl) (hpl : (backTo pos (starEach es X.env)).any (·.1) = false := by rfl)
    (ht : eval (.Call (.Attribute o m apos) (e :: es) [] pos) X.env = (do
      let ov ← eval o X.env
      standAt apos.atName
      let (f, first) ← holding [ov] (getMethod ov m pl)
      callWith pos f first (backTo pos (starEach (e :: es) X.env)) (backToKw pos (keywordEach [] X.env))) := by rfl) :
    PE X (.Call (.Attribute o m apos) (e :: es) [] pos) (fun σ H Q => to σ H fun x H1 => x = .ref C ∧ t σ H1 fun vs H2 => sp vs H2 Q E0) := by
  constructor
  intro pins s σ H Q I h
  refine PySem.W.methodCall_KW (pl := pl) (thn (ho.run pins s σ H _ I h) ?_) ht
  rintro u s1 ⟨x, H1, I1, rx, rfl, q⟩
  obtain rfl : u = Value.ref C := rx
  refine PySem.W.method_cls I1.kIn c.ga (PySem.W.cls_value I1.kIn c.rd c.fc rfl ?_)
  refine PySem.W.callWith_K (first := []) (h₀ := X.base) I1.ok.mod.kin c.kp (thn (ha.run pos pins _ σ H1 _ (I1.tok _) q) ?_) hst hpl
  rintro us s2 ⟨vs, H2, I2, r, q2⟩
  exact ⟨I2.kIn, runG (dvs := []) (ds := []) Gf hgd hr hb .nil I2 r (by rw [List.append_nil]; exact q2)⟩
end
/-! ### ValueError.__init__(exc, ..): its args are laid anew, and told -/
section
open PySem.W PyProof.Rows PySem.HandSPX
variable {prog : Program} {w : World} {A : Around} {R : Result → Shared → Prop} {hp : Heap} {g : Array GenState} {d : Drawn} {tk : Nat} {os : OsState}
theorem init_args {B newId initId : String} {bmB bm bs : List Value} {C N nm q : _} {hdct : Bool} {sn sub ab col dd k0 k1 k2 k3 k5 : _} (F : ExcBaseFacts B newId initId bmB) (hT : ∀ X : String, bm.contains (.type X) = bmB.contains (.type X)) {e t0 : Addr} {rest : List Value}
    (hC : hp.get? C = some (excClassObj nm q C N bs bm hdct sn sub ab col dd k0 k1 k2 k3 k5 newId)) (he : hp.get? e = some (excO C t0)) (hrest : rest.length ≤ sizeLine)
    (after : ∀ h', (∀ b o, b ≠ e → (hp.push (kdv_tup rest)).get? b = some o → h'.get? b = some o) → h'.get? e = some (excO C hp.objs.size) → R (.ok (.ret .none)) ⟨h', g, d, tk, os⟩) :
    codeAny (model prog w) A (.call (.builtin initId) ⟨.ref e :: rest, []⟩) R ⟨hp, g, d, tk, os⟩ := by
  refine codeAny_call_builtin F.init.plain F.initEntry ?_
  refine check_init_own F hT hC he rfl ?_
  wp_walk
  refine after _ (fun b o hb ho => ?_) ?_
  · rw [Heap.get?_update_other _ _ (Ne.symm hb)]
    exact ho
  · rw [Heap.get?_update_self _ (Heap.get?_push_of_some _ he) rfl]
    rfl
end
section
variable {X : Cx} {pins : List (Addr × Obj)} {σ : L2.St} {H : Hp} {s : Shared} {a C dx t0 : Addr} {f : Str} {y : V} {u : Value} {fs : List (Str × V)} {E : Value → Shared → Prop} {A : Around}
theorem veinit_ok {us : List Value} {ws : List V} {Q : Value → Shared → Prop} (T : OexC X.K C) (I : Inv X pins σ H s) (e : H a = some (exoT a C none t0)) (rv : Vals ws us) (hl : us.length ≤ sizeLine)
    (h : ∀ t s', H t = none → Inv X pins σ (upd (upd H t (.tup ws)) a (exoT a C none t)) s' → Q .none s') :
    wpAny (model X.prog X.w) A (call (.builtin "ValueError.__init__") (.ref a :: us)) Q E s := by
  obtain ⟨nm, q, N, bs, bm, sn, sub, ab, col, dd, k0, k1, k2, k3, k5, hC, hbm⟩ := T.cls
  have ho := exoT_at I.hok e
  obtain ⟨hp, g, d, tk, os⟩ := s
  refine wpAny_call (init_args PySem.F.excBase_ValueError (fun Y => PySem.HandSPX.refsVE_contains Y bm hbm) (I.kIn _ _ hC) ho hl fun h' k hx => ?_)
  have fresh : H hp.objs.size = none := I.hok.fresh (Nat.le_refl _)
  have wl : ws.length ≤ sizeLine := by rw [rv.length]; exact hl
  have J := I.laid (t' := tk) (a := hp.objs.size) (o := .tup ws) (h' := hp.push (PySem.W.kdv_tup us)) (fun b o q => Heap.get?_push_of_some _ q) (Nat.le_refl _) ⟨wl, us, rv, ⟨_, Heap.get?_push_size _ rfl, rfl, _, rfl⟩⟩
  have ne : a ≠ hp.objs.size := ne_of_none e fresh
  have ha : upd H hp.objs.size (.tup ws) a = some (exoT a C none t0) := by rw [upd_ne ne]; exact e
  have J2 := J.write (t' := tk) (x := a) (e := a) (o := exoT a C none hp.objs.size) (h' := h') (by rw [ha]; exact True.intro) (.inl rfl) k ⟨_, hx⟩ (exoT_ok hx)
  exact h _ _ fresh J2
/-- exc.f = y, the first one -/
theorem excset_ok {Q : Unit → Shared → Prop} (T : OexC X.K C) (I : Inv X pins σ H s) (e : H a = some (exoT a C none t0)) (hno : PySem.W.findIn X.K (.ref C) f = some none) (ry : RelV y u)
    (h : ∀ dx s', H dx = none → dx ≠ a → Inv X pins σ (upd (upd H dx (exd dx [(f, y)])) a (exoT a C (some dx) t0)) s' → Q () s') : wpAny (model X.prog X.w) A (setAttr (.ref a) f u) Q E s := by
  obtain ⟨nm, q, N, bs, bm, sn, sub, ab, col, dd, k0, k1, k2, k3, k5, hC, hbm⟩ := T.cls
  have look : PySem.W.clsIn X.K C = some { name := nm, bases := bs, mro := .ref C :: bm, ns := N, qualname := q, hasDict := true, slotNames := sn, subclasses := sub, abstract := ab, collection := col, hasDel := false } := by
    unfold PySem.W.clsIn
    rw [hC] <;> rfl
  have ho := exoT_at I.hok e
  obtain ⟨hp, g, d, tk, os⟩ := s
  refine PySem.W.set_plain I.kIn (ox := excObj C none t0) (od := none) ⟨ho, rfl, rfl, trivial⟩ T.sa ?_
  refine PySem.HandSPX.exc_osa I.kIn ho look (show PySem.HandSPX.refsVE (.ref C :: bm) = true from hbm) rfl hno ?_
  intro h' tk' dx keep dn dne hx hn
  have fresh : H dx = none := I.hok.fresh dn
  have young : ∀ {b : Addr} {ob : Obj}, hp.get? b = some ob → b ≠ dx := fun {b ob} z => Nat.ne_of_lt (Nat.lt_of_lt_of_le (Heap.lt_size z) dn)
  have other : ∀ {b : Addr}, H b = none → b ≠ a := fun {b} z w => by
    rw [w, e] at z
    exact nomatch z
  have notIt : ∀ {b : Addr} {o : HO}, H b = some o → (∀ φ, o ≠ .ext φ) → b ≠ a := fun {b o} z w v => by
    subst v
    rw [e] at z
    exact w _ (Option.some.inj z).symm
  have same : ∀ {b : Addr}, b ≠ a → b ≠ dx → upd (upd H dx (exd dx [(f, y)])) a (exoT a C (some dx) t0) b = H b := fun {b} z w => by rw [upd_ne z, upd_ne w]
  have un : Un X.fs [] H (upd (upd H dx (exd dx [(f, y)])) a (exoT a C (some dx) t0)) hp h' := by
    refine ⟨fun b ob z n _ _ => keep b ob (other n) z, fun b ob z n _ _ => ⟨ob.slots, keep b ob (other n) z⟩, fun b ob z n _ => ?_, fun b ob z _ => ?_, fun b xs z => ?_, fun b ob v z => ?_, fun b ps z => ⟨#[], ?_⟩⟩
    · rw [same (other n) (young z)]
      exact n
    · by_cases hb : b = a
      · subst hb
        exact ⟨_, hx⟩
      · exact ⟨ob, keep b ob hb z⟩
    · rw [same (notIt z fun φ w => nomatch w) (ne_of_none z fresh)]
      exact z
    · rw [same (notIt z fun φ w => nomatch w) (ne_of_none z fresh)]
      exact z
    · rw [same (notIt z fun φ w => nomatch w) (ne_of_none z fresh), z]
      simp
  refine h dx _ fresh dne (I.un (t' := tk') un ?_)
  intro b o z
  by_cases hb : b = a
  · subst hb
    rw [upd_same] at z
    cases z
    exact exoT_ok hx
  · rw [upd_ne hb] at z
    by_cases hd : b = dx
    · subst hd
      rw [upd_same] at z
      cases z
      exact exd_ok hn (relO_put (fs := []) ry fun _ => True.intro)
    · rw [upd_ne hd] at z
      have ownNe : ∀ {c : Addr}, H c = some (.own b) → c ≠ a := fun {c} w => notIt w fun φ v => nomatch v
      refine (I.hok b o z).stay (fun c v hc w => keep c v ?_ w) (fun c hc => ?_) fun c xs hc => ?_
      · rcases hc with rfl | hc
        · exact hb
        · exact ownNe hc
      · rw [same (ownNe hc) (ne_of_none hc fresh)]
        exact hc
      · rw [same (notIt hc fun φ v => nomatch v) (ne_of_none hc fresh)]
        exact hc
end
/-! ### the readings of the two __init__ -/
def tVeT (K : PySem.W.Frag) (ta : TA) : TE := fun σ H Q => ta σ H fun vs H1 => ∃ (a C t0 : Addr) (ws : List V), vs = .ref a :: ws ∧ ws.length ≤ 1000 ∧ OexC K C ∧ H1 a = some (exoT a C none t0) ∧ ∀ t, H1 t = none → Q .non (upd (upd H1 t (.tup ws)) a (exoT a C none t))
def tSetX (K : PySem.W.Frag) (f : Str) (to te : TE) : TS := fun D σ H => te σ H fun y H1 => to σ H1 fun x H2 => ∃ a C t0 : Addr, x = .ref a ∧ OexC K C ∧ PySem.W.findIn K (.ref C) f = some none ∧ H2 a = some (exoT a C none t0) ∧
  ∀ dx, H2 dx = none → dx ≠ a → D.nx σ (upd (upd H2 dx (exd dx [(f, y)])) a (exoT a C (some dx) t0))
section
variable {X : Cx} {o e : Expr} {es : List Expr} {to te : TE} {ta : TA} {f : Str} {p p' p1 p2 pos : Pos}
theorem pe_veT {pl : Sem Bool} (hg : Gl X "ValueError") (hm : X.mg "ValueError" = none) (vV : PySem.W.findCls X.K (.type "ValueError") (.type "type") "__init__" = some (.val (.builtin "ValueError.__init__"))) (ha : PA X (e :: es) ta)
    (hc : eval (.Call (.Attribute (.Name "ValueError" p1) "__init__" p2) (e :: es) [] pos) X.env = (do
      let ov ← eval (.Name "ValueError" p1) X.env
      standAt p2.atName
      let (f, first) ← holding [ov] (getMethod ov "__init__" pl)
      callWith pos f first (backTo pos (starEach (e :: es) X.env)) (backToKw pos (keywordEach [] X.env))) := by rfl)
    (he : starEach (e :: es) X.env = (false, eval e X.env) :: starEach es X.env := by rfl) (hpl : (backTo pos (starEach es X.env)).any (·.1) = false := by rfl) :
    PE X (.Call (.Attribute (.Name "ValueError" p1) "__init__" p2) (e :: es) [] pos) (tVeT X.K ta) := by
  constructor
  intro pins s σ H Q I h
  refine PySem.W.methodCall_KW (ld_blt I hg hm PyProof.Rows.Boot.«ValueError» ?_ (by decide) (by decide)) hc
  obtain ⟨m, fr⟩ := I.fr
  refine PySem.W.method_type fr I.ok.mod.kin PySem.OEX.typ_VE (by decide +kernel) vV (by decide +kernel) ?_
  refine PyProof.Rows.callWith_method1 (thn (ha.run pos pins _ σ H _ (I.tok _) h) ?_) he hpl
  rintro us s1 ⟨vs, H1, I1, r1, a, C, t0, ws, rfl, hl, T, ea, q⟩
  cases r1 with
  | @cons _ u0 _ ur ra rw' =>
    obtain rfl : u0 = Value.ref a := ra
    refine veinit_ok T I1 ea rw' (by rw [← rw'.length, sizeLine_eq]; omega) fun t s' ht J => ?_
    exact ⟨.non, _, J, rfl, q t ht⟩
theorem ps_setX (ho : PE X o to) (he : PE X e te) (hs : swapsWith e (some (.Attribute o f p')) pos.line X.env = pure false := by rfl) : PS X (.Assign [.Attribute o f p'] e pos) (tSetX X.K f to te) := by
  constructor
  intro pins s σ H D I h
  refine plainObj_wpAny_Assign_Attribute (thn (he.run pins s σ H _ I h) ?_) hs
  rintro v s1 ⟨y, H1, I1, r1, q1⟩
  refine thn (ho.run pins s1 σ H1 _ I1 q1) ?_
  rintro u s2 ⟨x, H2, I2, r2, a, C, t0, rfl, T, hno, ea, q⟩
  obtain rfl : u = Value.ref a := r2
  exact excset_ok T I2 ea hno r1 fun dx s' n ne J => ⟨σ, _, J, q dx n ne⟩
end
end G

set_option Elab.async false
set_option linter.all false
set_option autoImplicit false
set_option maxRecDepth 100000
set_option maxHeartbeats 2000000
namespace G
open PySem PySem.Spec PySem.Calls L2
theorem make_guards {A : Around} {C : Addr} {us : List Value} {kw : List (Str × Value)} (h : A.guards = some []) : (A.under (.builtin "type.__call__" ⟨.ref C :: us, kw⟩)).guards = some [] := by
  have q : (Code.builtin "type.__call__" ⟨.ref C :: us, kw⟩).isGuard = false := by
    show guardIds.contains "type.__call__" = false
    decide +kernel
  simp [Around.under, Code.guards, q, pushGuards, h]
/-- what __init__(self, f) of an own exception does, its args being the one text msg -/
def spX (C : Addr) (f : Str) (msg : Str) : Sp := fun vs H Q _ => ∃ (a : Addr) (y : V) (t0 : Addr), vs = [.ref a, y] ∧ H a = some (exoT a C none t0) ∧
  ∀ t dx, H t = none → H dx = none → t ≠ dx → Q .non (upd (upd (upd H t (.tup [.str msg])) dx (exd dx [(f, y)])) a (exoT a C (some dx) t))
section
variable {X : Cx} {e : Expr} {ta : TA} {f x : Str} {msg : Str} {p pos : Pos} {C fI : Addr} {k : Nat} {fd : FuncData} {ps : List Str}
def tExc (C : Addr) (f msg : Str) (ta : TA) : TE := fun σ H Q => ta σ H fun vs H1 => ∃ y, vs = [y] ∧ ∀ a t dx, H1 a = none → H1 t = none → H1 dx = none → t ≠ a → dx ≠ a → t ≠ dx →
  Q (.ref a) (upd (upd (upd H1 t (.tup [.str msg])) dx (exd dx [(f, y)])) a (exoT a C (some dx) t))
theorem pe_exc (T : OexC X.K C) (iC : PySem.W.findIn X.K (.ref C) "__init__" = some (some (.ref fI))) (tI : PySem.W.typeIn X.K (.ref fI) = some (.type "function"))
    (Gf : FnG X.prog X.w X.K X.mg X.base k fI fd 2 ps (spX C f msg)) (hgd : X.A.guards = some []) (hr : Room (k + 1) X.A) (hb : Binds X.K fd ps []) (hg : Gl X x) (hm : X.mg x = some (.ref C)) (ha : PA X [e] ta)
    (hdb : (x == ("__debug__" : Str)) = false := by decide) (he : starEach (e :: []) X.env = (false, eval e X.env) :: starEach [] X.env := by rfl) (hpl : (backTo pos (starEach [] X.env)).any (·.1) = false := by rfl) :
    PE X (.Call (.Name x p) [e] [] pos) (tExc C f msg ta) := by
  constructor
  intro pins s σ H Q I h
  obtain ⟨nm, q, N, bs, bm, sn, sub, ab, col, dd, k0, k1, k2, k3, k5, hC, hbm⟩ := T.cls
  refine wpAny_Call_Name_kw (ld_glob I hg hm ?_ hdb)
  refine PySem.W.callWith_K (h₀ := X.base) I.ok.mod.kin T.kC (thn (ha.run pos pins s σ H _ I h) ?_) he hpl
  rintro us s1 ⟨vs, H1, I1, r1, y, rfl, q1⟩
  refine ⟨I1.kIn, ?_⟩
  show wpAny _ _ (call (.ref C) us) _ _ _
  obtain ⟨hp, g, dr, tk, os⟩ := s1
  obtain ⟨u, rfl, ry⟩ := vals1 r1
  have f1 : H1 (hp.objs.size + 1) = none := I1.hok.fresh (Nat.le_succ _)
  have keep : ∀ b o, hp.get? b = some o → ((hp.push (PySem.W.kdv_tup [u])).push (PySem.HandSPX.excO C hp.objs.size)).get? b = some o :=
    fun b o z => Heap.get?_push_of_some _ (Heap.get?_push_of_some _ z)
  have it : ((hp.push (PySem.W.kdv_tup [u])).push (PySem.HandSPX.excO C hp.objs.size)).get? (hp.objs.size + 1) = some (excObj C none hp.objs.size) := by heap_get
  have I2 := I1.laid (t' := tk) (a := hp.objs.size + 1) (o := exoT (hp.objs.size + 1) C none hp.objs.size) (h' := (hp.push (PySem.W.kdv_tup [u])).push (PySem.HandSPX.excO C hp.objs.size)) keep (Nat.le_succ _) (exoT_ok it)
  have spq : spX C f msg [.ref (hp.objs.size + 1), y] (upd H1 (hp.objs.size + 1) (exoT (hp.objs.size + 1) C none hp.objs.size)) (fun v H2 => v = .non ∧ Q (.ref (hp.objs.size + 1)) H2) E0 := by
    refine ⟨_, _, _, rfl, upd_same, fun t dx ht hdx ne => ⟨rfl, ?_⟩⟩
    have nt : t ≠ hp.objs.size + 1 := fun z => by rw [z, upd_same] at ht; exact nomatch ht
    have nd : dx ≠ hp.objs.size + 1 := fun z => by rw [z, upd_same] at hdx; exact nomatch hdx
    rw [upd_ne nt] at ht
    rw [upd_ne nd] at hdx
    have z := q1 (hp.objs.size + 1) t dx f1 ht hdx nt nd ne
    have eq : upd (upd (upd (upd H1 (hp.objs.size + 1) (exoT (hp.objs.size + 1) C none hp.objs.size)) t (.tup [.str msg])) dx (exd dx [(f, y)])) (hp.objs.size + 1) (exoT (hp.objs.size + 1) C (some dx) t) =
        upd (upd (upd H1 t (.tup [.str msg])) dx (exd dx [(f, y)])) (hp.objs.size + 1) (exoT (hp.objs.size + 1) C (some dx) t) := by
      funext b
      by_cases h1 : b = hp.objs.size + 1
      · rw [h1, upd_same, upd_same]
      · rw [upd_ne h1, upd_ne h1]
        unfold upd
        simp only [h1, if_false]
    rw [eq]
    exact z
  have r2 : Vals [V.ref (hp.objs.size + 1), y] [Value.ref (hp.objs.size + 1), u] := .cons rfl (.cons ry .nil)
  have one : [u].length ≤ sizeLine := by rw [sizeLine_eq]; exact (by decide : 1 ≤ 16777216)
  refine wpAny_call (PySem.HandSPX.call_own PySem.F.excBase_ValueError (fun Y => PySem.HandSPX.refsVE_contains Y bm hbm) (I1.kIn _ _ hC) (PySem.W.looks_findIn I1.kIn iC) (fun self => PySem.W.bind_fn I1.kIn self tI) one ?_)
  have bnd := hb ⟨(hp.push (PySem.W.kdv_tup [u])).push (PySem.HandSPX.excO C hp.objs.size), g, dr, tk, os⟩ [Value.ref (hp.objs.size + 1), u] I2.kIn (by rw [Gf.pl]; rfl)
  rw [List.append_nil] at bnd
  refine codeAny_mono (Gf.go (make_guards hgd) (hr.make C [u] []) (I2.env0.make C [u] []) bnd r2 spq) ?_
  intro r s' hq
  cases r with
  | error _ => exact (show False from hq).elim
  | ok fl =>
    cases fl with
    | ret v =>
      obtain ⟨w, H2, I3, rv, rfl, q3⟩ := I2.after hq
      exact ⟨rv, ⟨V.ref (hp.objs.size + 1), H2, I3, rfl, q3⟩⟩
    | next => exact (show False from hq).elim
    | brk => exact (show False from hq).elim
    | cont => exact (show False from hq).elim
end
end G

set_option Elab.async false
set_option linter.all false
set_option autoImplicit false
set_option maxRecDepth 100000
set_option maxHeartbeats 2000000
namespace G
open PySem PySem.Spec PySem.Calls
open Builtin Builtin.Str Builtin.BaseException Builtin.Exceptions
/-! ### repr of an own exception with one text -/
/-- the last part of the class's name -/
def exN (nm : Str) : Str := Str.ofString ((nm.toString.cutAt '.').getLastD "")
def exShown (nm m : Str) : Str := exN nm ++ Str.ofString "(" ++ reprText m ++ Str.ofString ")"
section
variable {prog : Program} {w : World} {A : Around} {E : Value → Shared → Prop} {s : Shared} {K : PySem.W.Frag} {C e t0 : Addr} {m : Str} {tk : Tok} {oC : Obj} {cd : ClassData}
theorem nameWhole_C {Q : String → Shared → Prop} {M : Model} (x : PySem.ExcC K C e t0 s.heap) (hC : s.heap.get? C = some oC) (hd : oC.data = .cls cd) (q : Q cd.name.toString s) : wpAny M A (typeNameOfWhole (.ref e)) Q E s := by
  unfold typeNameOfWhole shownTypeOf
  refine wpAny_bind (wpAny_bind (x.LT.here ?_))
  rw [if_neg (show ¬ ((Value.ref C == Value.type "builtin_function_or_method") = true) from fun z => nomatch (beq_iff_eq.mp z))]
  refine wpAny_pure ?_
  show wpAny M A (do return (← classData C).name.toString) Q E s
  unfold classData
  refine wpAny_bind (wpAny_bind (wpAny_load hC ?_))
  rw [hd]
  exact wpAny_pure (wpAny_pure q)
theorem bexcReprAt_C (b : Nat) {Q : Fin → Shared → Prop} (x : PySem.ExcC K C e t0 s.heap) (ht : s.heap.TupAt t0 [.str m tk]) (hC : s.heap.get? C = some oC) (hd : oC.data = .cls cd)
    (hq : Q (.done (.ret (.str (exShown cd.name m) (s.toks + 1)))) { s with toks := s.toks + 1 + 1 }) (hsz : b + (exShown cd.name m).length ≤ sizeLine) : wpAny (model prog w) A (Builtin.bexcReprAt b ⟨[.ref e], []⟩) Q E s := by
  have e1 : b + (Str.ofString ((cd.name.toString.cutAt '.').getLastD "") ++ Str.ofString "(" ++ reprText m ++ Str.ofString ")").length ≤ sizeLine := hsz
  have hsz2 : (Str.ofString ((cd.name.toString.cutAt '.').getLastD "") ++ Str.ofString "(" ++ reprText m ++ Str.ofString ")").length ≤ sizeLine := Nat.le_trans (Nat.le_add_left _ b) e1
  have eP : (Str.ofString "(").length = 1 := by rw [ofString_length]; rfl
  rw [strLen_append, strLen_append, strLen_append, eP] at e1
  have hsz1 : (reprText m).length ≤ sizeLine := by omega
  have hpile : b + ((Str.ofString ((cd.name.toString.cutAt '.').getLastD "")).length + 1) ≤ sizeLine := by omega
  unfold Builtin.bexcReprAt
  repeat (first | with_reducible refine nameWhole_C x hC hd ?_ | with_reducible refine PySem.bexcArgs_C x ht ?_ | rw [pyReprUnder_leaf (v := .str m tk) hpile (by intro a; nofun)] | with_reducible refine wpAny_pyRepr_str ?_ | wp_step)
  exact hq
theorem reprK_exc {h₀ : Heap} {o : Obj} {vs : Array Value} (X : K.In h₀) (ho : h₀.get? e = some o) (hc : o.cls = .ref C) (hv : o.data = .fields vs) (h0 : vs[0]? = some (.ref t0)) (ht : h₀.TupAt t0 [.str m tk]) (hC : h₀.get? C = some oC) (hd : oC.data = .cls cd)
    (hs : PySem.W.findIn K (.ref C) "__repr__" = some (some (.builtin "BaseException.__repr__"))) (hB : PySem.W.subIn K (.ref C) (.type "BaseException") = some true) (as : List Addr) (d : Nat) : ReprK prog w as h₀ d (.ref e) (exShown cd.name m) := by
  intro base hsz A g E s Q hg hcl hu hk hQ
  have Xs : K.In s.heap := fun b ob z => hk _ _ (X b ob z)
  have x : PySem.ExcC K C e t0 s.heap := ⟨Xs, o, vs, hk _ _ ho, hc, hv, h0⟩
  have ht' : s.heap.TupAt t0 [.str m tk] := by
    obtain ⟨ot, k, h1, h2⟩ := ht
    exact ⟨ot, k, hk _ _ h1, h2⟩
  have hf : PySem.W.Looks (model prog w) s.heap (typeLookup (.ref C) "__repr__") (some (.builtin "BaseException.__repr__")) := PySem.W.looks_findIn Xs hs
  refine wpAny_pyReprUnder_ref (by omega) ?_
  unfold pyReprObjUnder pyReprObjBy
  refine wpAny_bind (wpAny_cRoomFor (by omega) ?_)
  refine wpAny_bind ?_
  unfold specialOf
  refine wpAny_bind (x.LT.here (hf.here ?_))
  simp only [callSpecialIfBoundBy?, bindSpecialIfBound?]
  refine wpAny_bind (wpAny_holding (wpAny_bind (wpAny_bind ?_)))
  unfold specialOf
  refine wpAny_bind (x.LT.here (hf.here ?_))
  simp only [F.excStr_ValueError.repr.bind]
  have tw : reprUnder? (.builtin "BaseException.__repr__") = some (.builtin "BaseException.__repr__.under") := rfl
  have fin : wpAny (model prog w) A (call (.builtin "BaseException.__repr__.under") [.ref e, rawInt base]) (fun v s' => wpAny (model prog w) A (do if ← isInstance v (.type "str") then pure v else raiseError "TypeError" s!"__repr__ returned non-string (type {← typeNameOf v})") (fun v s' => ∃ y u, v = .str y u ∧ Q y s') E s') E s := by
    refine wpAny_call (codeAny_call_builtin F.plain_bexc_repr_under F.entry_bexc_repr_under ?_)
    rw [F.check_bexc_repr_under]
    refine wpAny_pure ?_
    rw [show Builtin.«BaseException.__repr__.under» ⟨[.ref e, rawInt base], []⟩ = (do checkBuiltinCall "BaseException.__repr__" ⟨[.ref e], []⟩; Builtin.bexcReprAt base ⟨[.ref e], []⟩) from reprTwin_eq _ _ _ _]
    refine wpAny_bind (@PySem.W.check_slot (model prog w) _ _ _ "BaseException.__repr__" "BaseException" "__repr__" (.ref e) [] [] _ (by decide +kernel) (by decide +kernel) (x.LI hB) (F.args_bexc_repr _) ?_)
    refine bexcReprAt_C base x ht' (hk _ _ hC) hd ?_ hsz
    show wpAny _ _ _ _ _ _
    refine wpAny_bind (wpAny_isInstance (T := "str") (b := true) rfl isSubtype_str_str (wpAny_pure ⟨_, _, rfl, ?_⟩))
    exact hQ s.heap _ fun _ _ z => z
  have fin2 : wpAny (model prog w) A ((match reprUnder? (.builtin "BaseException.__repr__"), [Value.ref e] with
      | some twin, [self] => call twin [self, rawInt base]
      | _, _ => call (.builtin "BaseException.__repr__") ([Value.ref e] ++ [])) >>= fun v => pure (some v)) (fun r s' => wpAny (model prog w) A (match r with
      | some r => (do if ← isInstance r (.type "str") then pure r else raiseError "TypeError" s!"__repr__ returned non-string (type {← typeNameOf r})")
      | none => unsupported "repr:special-get-raises") (fun v s' => ∃ y u, v = .str y u ∧ Q y s') E s') E s := by
    rw [tw]
    exact wpAny_bind (wpAny_mono fin (fun v s' h' => wpAny_pure h') fun _ _ h' => h')
  refine wpAny_bind (wpAny_askSetting (wpAny_ite ?_))
  split
  · exact wpAny_bind (wpAny_pure (wpAny_pure fin2))
  · exact wpAny_tryCatch (wpAny_bind (wpAny_pure (wpAny_pure fin2)))
end
end G

set_option Elab.async false
set_option linter.all false
set_option autoImplicit false
set_option maxRecDepth 100000
set_option maxHeartbeats 2000000
namespace G
open PySem PySem.Spec PySem.Calls L2
/-- the class's own name, and that it is told by BaseException's repr -/
structure RxC (K : PySem.W.Frag) (C : Addr) (nm : Str) : Prop where
  lk : ∃ o cd, K.lookup C = some o ∧ o.data = .cls cd ∧ cd.name = nm
  rp : PySem.W.findIn K (.ref C) "__repr__" = some (some (.builtin "BaseException.__repr__"))
  ex : PySem.W.subIn K (.ref C) (.type "BaseException") = some true
/-- the text of a value that stands for itself -/
def lfT : V → Option Str
  | .non => some (PyData.shown .none)
  | .bl b => some (PyData.shown (.bool b))
  | .int i => if i.natAbs.log2 < 1920 then some (PyData.shown (.int i)) else none
  | .str x => some (PyData.shown (.str x))
  | _ => none
def enT : List (Key × V) → Option (List Str)
  | [] => some []
  | kv :: r => match lfT (kV kv.1), lfT kv.2, enT r with
    | some a, some b, some ts => some ((a ++ ": " ++ b) :: ts)
    | _, _, _ => none
inductive ShI (K : PySem.W.Frag) (H : Hp) : V → Str → Prop
  | data {v : V} {p : PyData} : Dp K H v p → p.showable = true → p.hasDict = false → p.depth ≤ 60 → ShI K H v p.shown
  | exc {a C dx t : Addr} {m nm : Str} : H a = some (exoT a C (some dx) t) → H t = some (.tup [.str m]) → RxC K C nm → ShI K H (.ref a) (exShown nm m)
  | dct {a : Addr} {kvs : List (Key × V)} {ts : List Str} : H a = some (.dK kvs) → enT kvs = some ts → ShI K H (.ref a) (dictText ts)
inductive ShL (K : PySem.W.Frag) (H : Hp) : List V → List Str → Prop
  | nil : ShL K H [] []
  | cons {v : V} {t : Str} {vs : List V} {ts : List Str} : ShI K H v t → ShL K H vs ts → ShL K H (v :: vs) (t :: ts)
/-- what is known of an address that repr walks through, below the value u -/
def Below (h : Heap) (u : Value) (b : Addr) : Prop := (∃ p q as bs, Reads h u q as ∧ Reads h (.ref b) p bs ∧ p.depth ≤ q.depth) ∨ ∃ o, h.get? b = some o ∧ o.cls ≠ .type "list"
section
variable {X : Cx} {pins : List (Addr × Obj)} {σ : L2.St} {H : Hp} {s : Shared}
theorem lf_reprK {v : V} {u : Value} {t : Str} (e : lfT v = some t) (r : RelV v u) (hz : t.length ≤ sizeLine) (h₀ : Heap) (as : List Addr) (d : Nat) : ReprK X.prog X.w as h₀ d u t := by
  cases v with
  | non => cases e; cases r; exact .of_is (by simp only [PyData.shown]; exact ReprIs.none) _ _ _
  | bl b => cases e; cases r; exact .of_is (by simp only [PyData.shown]; exact ReprIs.bool b) _ _ _
  | int i =>
    dsimp only [lfT] at e
    split at e
    · rename_i hi
      cases e
      obtain ⟨tk, rfl⟩ := r
      exact .of_is (by simp only [PyData.shown]; exact ReprIs.int tk hi) _ _ _
    · cases e
  | str x =>
    cases e
    obtain ⟨tk, rfl⟩ := r
    exact .of_is (by simp only [PyData.shown]; exact ReprIs.str x tk (by simpa only [PyData.shown] using hz)) _ _ _
  | _ => cases e
theorem dictText_mem {ps : List Str} {p : Str} (h : p ∈ ps) : p.length ≤ (dictText ps).length := dictText_mem_le h
theorem en_reprK {h₀ : Heap} (as : List Addr) (d : Nat) : ∀ {kvs : List (Key × V)} {vs : List (Key × Value)} {es : List DictEntry} {ts : List Str}, enT kvs = some ts → KV kvs vs → Pairs (mixKind X.prog X.w) es vs → (∀ t ∈ ts, t.length ≤ sizeLine) → ReprEntriesK X.prog X.w as h₀ d es ts
  | [], _, es, ts, e, r, q, _ => by
    cases e
    cases r
    cases q
    exact .nil
  | kv :: kvs, _, es, ts, e, r, q, hz => by
    cases r with
    | @cons _ p _ ps h1 r =>
      cases q with
      | @cons en _ es' _ hk hv q =>
        unfold enT at e
        split at e
        · rename_i a b ts' e1 e2 e3
          cases e
          obtain ⟨hk1, hr⟩ := h1
          have lz := hz _ (List.mem_cons_self ..)
          rw [strLen_append, strLen_append] at lz
          have rk : RelV (kV kv.1) en.key := by
            rw [hk1]
            rcases keyIs_shape (k := p.1) (v := en.key) hk with ⟨i, t, e1, e2⟩ | ⟨x, t, e1, e2⟩
            · rw [e1, e2]; exact ⟨t, rfl⟩
            · rw [e1, e2]; exact ⟨t, rfl⟩
          exact .cons (lf_reprK e1 rk (by omega) _ _ _) (lf_reprK e2 (by rw [hv]; exact hr) (by omega) _ _ _) (en_reprK as d e3 r q fun t ht => hz t (List.mem_cons_of_mem _ ht))
        · cases e
theorem sh_reprK {v : V} {u : Value} {t : Str} (I : Inv X pins σ H s) (e : ShI X.K H v t) (r : RelV v u) (hz : t.length ≤ sizeLine) : ∃ bs n, n ≤ 60 ∧ (∀ b ∈ bs, Below s.heap u b) ∧ ReprK X.prog X.w bs s.heap n u t := by
  cases e with
  | @data _ p hd hs hn hz6 =>
    obtain ⟨as, rd⟩ := Dp.reads I p v u hd r
    obtain ⟨bs, hb, k⟩ := ReprK.of_reads (prog := X.prog) (w := X.w) rd hs (PyData.noDict_hsm hn) hz
    refine ⟨bs, p.depth, hz6, fun b hm => ?_, k⟩
    obtain ⟨d', as', r', hd'⟩ := hb b hm
    exact .inl ⟨d', p, _, _, rd, r', hd'⟩
  | @exc a C dx t m nm ha ht R =>
    obtain rfl : u = Value.ref a := r
    have ho := exoT_at I.hok ha
    obtain ⟨o, cd, lk, hcd, rfl⟩ := R.lk
    obtain ⟨its, rv, ⟨ot, hto, hc, n, hd⟩, _⟩ := I.tuple (.inl (.inl ht))
    obtain ⟨u1, rfl, tk, rfl⟩ := vals1 rv
    exact ⟨[], 0, by omega, fun b hb => by simp at hb, reprK_exc (K := X.K) I.kIn ho rfl rfl rfl ⟨ot, n, hto, hc, hd⟩ (I.kIn _ _ lk) hcd R.rp R.ex [] 0⟩
  | @dct a kvs ts ha et =>
    obtain rfl : u = Value.ref a := r
    obtain ⟨_, hsys, vs, rk, o, es, ep, ho, hx, hd, hK, hP, _⟩ := dk_of I.hok ha
    refine ⟨[a], 1, by omega, fun b hb => ?_, ReprK.dict ho hx.1 hd hsys (by simp) (en_reprK [] 0 et rk hP fun t ht => Nat.le_trans (dictText_mem ht) hz)⟩
    simp at hb
    subst hb
    exact .inr ⟨o, ho, by rw [hx.1]; decide⟩
end
end G

set_option Elab.async false
set_option linter.all false
set_option autoImplicit false
set_option maxRecDepth 100000
set_option maxHeartbeats 2000000
namespace G
open PySem PySem.Spec PySem.Calls L2
section
variable {X : Cx} {pins : List (Addr × Obj)} {σ : L2.St} {H : Hp} {s : Shared}
theorem shL_reprK (I : Inv X pins σ H s) : ∀ {vs : List V} {us : List Value} {ts : List Str}, ShL X.K H vs ts → Vals vs us → (∀ t ∈ ts, t.length ≤ sizeLine) →
    ∃ bs n, n ≤ 60 ∧ (∀ b ∈ bs, ∃ (i : Nat) (u : Value), us[i]? = some u ∧ Below s.heap u b) ∧ ReprAllK X.prog X.w bs s.heap n us ts
  | _, _, _, .nil, r, _ => by
    cases r
    exact ⟨[], 0, by omega, fun b hb => by simp at hb, .nil⟩
  | _, _, _, .cons h hl, r, hz => by
    cases r with
    | @cons _ u _ us r1 r2 =>
      obtain ⟨b1, n1, z1, k1, q1⟩ := sh_reprK I h r1 (hz _ (List.mem_cons_self ..))
      obtain ⟨b2, n2, z2, k2, q2⟩ := shL_reprK I hl r2 fun t ht => hz t (List.mem_cons_of_mem _ ht)
      refine ⟨b1 ++ b2, max n1 n2, by omega, fun b hb => ?_, .cons ((q1.more fun b hb => List.mem_append_left _ hb).level_le (Nat.le_max_left _ _)) (q2.more_le (fun b hb => List.mem_append_right _ hb) (Nat.le_max_right _ _))⟩
      rcases List.mem_append.mp hb with hb | hb
      · exact ⟨0, u, rfl, k1 b hb⟩
      · obtain ⟨i, u', e, q⟩ := k2 b hb
        exact ⟨i + 1, u', by simpa using e, q⟩
theorem ShL.len {K : PySem.W.Frag} {H : Hp} : ∀ {vs : List V} {ts : List Str}, ShL K H vs ts → ts.length = vs.length
  | _, _, .nil => rfl
  | _, _, .cons _ h => by simp [h.len]
theorem readsAll_at {h : Heap} : ∀ {us : List Value} {ps : List PyData} {as : List Addr} {i : Nat} {u : Value}, ReadsAll h us ps as → us[i]? = some u → ∃ p bs, Reads h u p bs ∧ p.depth ≤ PyData.depthAll ps
  | _, _, _, i, u, .nil, e => by simp at e
  | _, _, _, 0, u, .cons (d := d) (ds := ds) r rs, e => by
    simp at e; subst e
    exact ⟨d, _, r, by simp only [PyData.depthAll]; exact Nat.le_max_left _ _⟩
  | _, _, _, i + 1, u, .cons (d := d) (ds := ds) r rs, e => by
    obtain ⟨p, bs, q, z⟩ := readsAll_at (i := i) rs (by simpa using e)
    exact ⟨p, bs, q, Nat.le_trans z (by simp only [PyData.depthAll]; exact Nat.le_max_right _ _)⟩
/-- a list's own address isn't below it -/
theorem below_ne {h : Heap} {a : Addr} {o : Obj} {us : List Value} {n i : Nat} {u : Value} {b : Addr} (ho : h.get? a = some o) (hc : o.cls = .type "list") (hd : o.data = .seq us.toArray n) (e : us[i]? = some u) (q : Below h u b) : b ≠ a := by
  intro z
  subst z
  rcases q with ⟨p, q, as, bs, r1, r2, hdp⟩ | ⟨o', ho', hn⟩
  · cases r2 with
    | @list _ o2 vs2 n2 xs as2 h1 h2 h3 h4 =>
      rw [ho] at h1; cases h1
      rw [hd] at h3; cases h3
      obtain ⟨p', bs', r', hz⟩ := readsAll_at h4 (show us.toArray.toList[i]? = some u by simpa using e)
      obtain ⟨e1, _⟩ := PyProof.Rows.reads_det (fun _ _ e _ => e) r1 r'
      rw [e1] at hz
      simp only [PyData.depth] at hdp
      omega
    | @tuple _ o2 vs2 n2 xs as2 h1 h2 h3 h4 =>
      rw [ho] at h1; cases h1
      rw [hc] at h2; injection h2 with z; exact absurd z (by decide)
    | @dict _ o2 es n2 kvs as2 bs2 h1 h2 h3 h4 h5 =>
      rw [ho] at h1; cases h1
      rw [hc] at h2; injection h2 with z; exact absurd z (by decide)
  · rw [ho] at ho'; cases ho'
    exact hn hc
def rRepr (K : PySem.W.Frag) : List V → Hp → VK → Prop := fun xs H Q => ∃ v t, xs = [v] ∧ t.length ≤ sizeLine ∧ Q (.str t) H ∧
  ((∃ p, Dp K H v p ∧ p.showable = true ∧ p.hasDict = false ∧ p.depth ≤ 60 ∧ t = p.shown) ∨ ∃ a y vs ts, v = .ref a ∧ SqL K H a (y :: vs) ∧ ShL K H (y :: vs) ts ∧ t = listText ts)
theorem call_repr (hgd : X.A.guards = some []) (hu : X.A.units + 64 < cLine) : CallR X (.builtin "repr") (rRepr X.K) := by
  intro pins s σ H xs us Q I r h
  obtain ⟨v, t, rfl, hz, q, h⟩ := h
  obtain ⟨u, rfl, ru⟩ := vals1 r
  have back : ∀ {h' : Heap} {tk' : Nat} {z : Tok}, (∀ b o, s.heap.get? b = some o → h'.get? b = some o) → EP X pins σ Q (.str t z) { s with heap := h', toks := tk' } := fun k => ⟨.str t, H, I.kept k, ⟨_, rfl⟩, q⟩
  have back0 : ∀ {z : Tok}, EP X pins σ Q (.str t z) { s with toks := s.toks + 1 } := fun {z} => ⟨.str t, H, I.tok _, ⟨_, rfl⟩, q⟩
  rcases h with ⟨p, hd, hs, hn, hz6, rfl⟩ | ⟨a, y, vs, ts, rfl, hl, hsh, rfl⟩
  · obtain ⟨as, rd⟩ := Dp.reads I p v u hd ru
    cases rd with
    | none => exact PySem.P.repr_of_none (by simpa only [PyData.shown] using back0)
    | bool b => exact PySem.P.repr_of_bool (by simpa only [PyData.shown] using back0)
    | int i tk => exact PySem.P.repr_of_int (by simpa [PyData.showable] using hs) (by simpa only [PyData.shown] using back0)
    | str x tk => exact PySem.P.repr_of_str (by simpa only [PyData.shown] using back0) (by simpa only [PyData.shown] using hz)
    | list h1 h2 h3 h4 => exact repr_of_reads' (Reads.list h1 h2 h3 h4) hs (PyData.noDict_hsm hn) hgd (by omega) (fun _ _ e => e) (fun h' z tk k => back k) hz
    | tuple h1 h2 h3 h4 => exact repr_of_reads' (Reads.tuple h1 h2 h3 h4) hs (PyData.noDict_hsm hn) hgd (by omega) (fun _ _ e => e) (fun h' z tk k => back k) hz
    | dict h1 h2 h3 h4 h5 => exact repr_of_reads' (Reads.dict h1 h2 h3 h4 h5) hs (PyData.noDict_hsm hn) hgd (by omega) (fun _ _ e => e) (fun h' z tk k => back k) hz
  · obtain rfl : u = Value.ref a := ru
    obtain ⟨its, rv, ⟨o, n, ho, hc, _, hd⟩, _⟩ := I.list hl
    obtain ⟨bs, m, hm, hb, hk⟩ := shL_reprK I hsh rv fun t ht => Nat.le_trans (listText_mem_le ht) hz
    cases rv with
    | @cons _ x _ l r1 r2 =>
      have hna : a ∉ bs := fun z => by
        obtain ⟨i, u, e, q⟩ := hb a z
        exact below_ne ho hc hd e q rfl
      refine call_repr_slot (by omega) ⟨o, ho, hc⟩ F.slot_list_repr.toG (call_list_reprK (as := bs) (h₀ := s.heap) (d := m) ho hc hd hna (by simpa using hk.length_eq) (fun i y e => hk.item i y (by simpa using e)) hgd (fun b _ => Clear.nil b) (by show X.A.units + 1 + (m + 1) < cLine; omega) (fun _ _ e => e) (fun h' z tk k => ⟨_, _, rfl, back k⟩) hz)
end
/-! ### repr, by data -/
def lfD : D → Option Str
  | .non => some (PyData.shown .none)
  | .bl b => some (PyData.shown (.bool b))
  | .int i => if i.natAbs.log2 < 1920 then some (PyData.shown (.int i)) else none
  | .str x => some (PyData.shown (.str x))
  | _ => none
def enD : List Key → List D → Option (List Str)
  | [], [] => some []
  | k :: ks, d :: ds => match lfT (kV k), lfD d, enD ks ds with
    | some a, some b, some ts => some ((a ++ ": " ++ b) :: ts)
    | _, _, _ => none
  | _, _ => none
def okP (p : PyData) : Bool := p.showable && !p.hasDict && decide (p.depth ≤ 60)
def dtD (μ : List MO) (d : D) : Option Str := match toPy μ DEEP d with
  | some p => if okP p = true then some p.shown else none
  | none => none
def itD (nm : Nat → Option Str) (μ : List MO) : D → Option Str
  | .exc C f m d => (nm C).map fun n => exShown n m
  | .dct ks ds => (enD ks ds).map dictText
  | d => dtD μ d
def itL (nm : Nat → Option Str) (μ : List MO) : List D → Option (List Str)
  | [] => some []
  | d :: ds => match itD nm μ d, itL nm μ ds with
    | some t, some ts => some (t :: ts)
    | _, _ => none
def tx (nm : Nat → Option Str) (μ : List MO) (d : D) : Option Str := match toPy μ DEEP d with
  | some p => if okP p = true then some p.shown else none
  | none => match d with
    | .lst (d :: ds) => (itL nm μ (d :: ds)).map listText
    | _ => none
def reprD (nm : Nat → Option Str) : List D → List MO → Option (D × List MO)
  | [d], μ => match tx nm μ d with
    | some t => if t.length ≤ 1000000 then some (.str t, μ) else none
    | none => none
  | _, _ => none
section
variable {X : Cx} {cl : Nat → Addr} {nm : Nat → Option Str}
theorem lf_has {Γ : Gm} {ms : List Addr} {F : Hp} {v : V} : ∀ {d : D} {t : Str}, lfD d = some t → Has Γ ms F v d → lfT v = some t
  | .non, t, e, h => by rw [show v = .non from h]; exact e
  | .bl b, t, e, h => by rw [show v = .bl b from h]; exact e
  | .int b, t, e, h => by rw [show v = .int b from h]; exact e
  | .str b, t, e, h => by rw [show v = .str b from h]; exact e
theorem en_has {Γ : Gm} {ms : List Addr} {F : Hp} : ∀ {ks : List Key} {vs : List V} {ds : List D} {ts : List Str}, enD ks ds = some ts → HasL Γ ms F vs ds → enT (ks.zip vs) = some ts
  | [], _, [], ts, e, h => by
    cases e; cases h; rfl
  | k :: ks, _, d :: ds, ts, e, ⟨w, ws, hv, h1, h2⟩ => by
    subst hv
    unfold enD at e
    split at e
    · rename_i a b ts' e1 e2 e3
      cases e
      show enT ((k, w) :: ks.zip ws) = _
      unfold enT
      rw [e1, lf_has e2 h1, en_has e3 h2]
    · cases e
  | [], _, d :: ds, ts, e, _ => by cases e
  | k :: ks, _, [], ts, e, _ => by cases e
theorem it_has {ms : List Addr} {F H : Hp} {μ : List MO} (hn : ∀ C n, nm C = some n → RxC X.K (cl C) n) (r : HR (gm X cl) ms F H μ) {v : V} {d : D} {t : Str} (e : itD nm μ d = some t) (h : Has (gm X cl) ms F v d) : ShI X.K H v t := by
  have data : ∀ {d : D}, Has (gm X cl) ms F v d → dtD μ d = some t → ShI X.K H v t := fun {d} h e => by
    unfold dtD at e
    split at e
    · rename_i p hp
      split at e
      · rename_i ok
        cases e
        simp only [okP, Bool.and_eq_true, Bool.not_eq_true', decide_eq_true_eq] at ok
        exact .data (dp_of r DEEP v d p hp h) ok.1.1 ok.1.2 ok.2
      · cases e
    · cases e
  cases d with
  | exc C f m d =>
    obtain ⟨n, e1, rfl⟩ := Option.map_eq_some_iff.mp e
    obtain ⟨a, tt, dx, y, rfl, h1, h2, h3, h4⟩ := h
    exact .exc (r.sub _ _ h1) (r.sub _ _ h2) (hn C n e1)
  | dct ks ds =>
    obtain ⟨ts, e1, rfl⟩ := Option.map_eq_some_iff.mp e
    obtain ⟨a, xs, rfl, h1, h2, h3⟩ := h
    exact .dct (r.sub _ _ h1) (en_has e1 h3)
  | _ => exact data h e
theorem itL_has {ms : List Addr} {F H : Hp} {μ : List MO} (hn : ∀ C n, nm C = some n → RxC X.K (cl C) n) (r : HR (gm X cl) ms F H μ) : ∀ {vs : List V} {ds : List D} {ts : List Str}, itL nm μ ds = some ts → HasL (gm X cl) ms F vs ds → ShL X.K H vs ts
  | _, [], ts, e, h => by cases e; cases h; exact .nil
  | _, d :: ds, ts, e, ⟨w, ws, hv, h1, h2⟩ => by
    subst hv
    unfold itL at e
    split at e
    · rename_i t ts' e1 e2
      cases e
      exact .cons (it_has hn r e1 h1) (itL_has hn r e2 h2)
    · cases e
theorem cd_repr (hn : ∀ C n, nm C = some n → RxC X.K (cl C) n) (hgd : X.A.guards = some []) (hu : X.A.units + 64 < cLine) : CallD X cl (.builtin "repr") (reprD nm) := by
  intro ms F H μ vs ds d μ' Q r hv ev k
  unfold reprD at ev
  split at ev
  · rename_i d0
    obtain ⟨v, rfl, h⟩ := hv.one'
    split at ev
    · rename_i t et
      split at ev
      · rename_i hz
        cases ev
        refine ⟨_, call_repr hgd hu, v, t, rfl, million hz, k.imm r rfl, ?_⟩
        unfold tx at et
        split at et
        · rename_i p hp
          split at et
          · rename_i ok
            cases et
            simp only [okP, Bool.and_eq_true, Bool.not_eq_true', decide_eq_true_eq] at ok
            exact .inl ⟨p, dp_of r DEEP v d0 p hp h, ok.1.1, ok.1.2, ok.2, rfl⟩
          · cases et
        · split at et
          · obtain ⟨ts, e1, rfl⟩ := Option.map_eq_some_iff.mp et
            obtain ⟨a, xs, rfl, hs, hl⟩ := h
            have q := itL_has hn r e1 hl
            obtain ⟨y, ys, rfl, _, _⟩ := hl
            exact .inr ⟨a, y, ys, ts, rfl, SqL.of (r.sub _ _ hs), q, rfl⟩
          · cases et
      · cases ev
    · cases ev
  · cases ev
end
end G

set_option Elab.async false
set_option linter.all false
set_option autoImplicit false
set_option maxRecDepth 100000
set_option maxHeartbeats 2000000
namespace G
open PySem PySem.Spec PySem.Calls L2
section
variable {P : Program} {w : World} {K : PySem.W.Frag} {mg : Str → Option Value} {base : Heap} {cl : Nat → Addr}
/-! ### the two __init__ -/
/-- the base's: the exception's args are the one text -/
def spV (K : PySem.W.Frag) : Sp := fun vs H Q _ => ∃ (a C t0 : Addr) (m : Str), vs = [.ref a, .str m] ∧ OexC K C ∧ H a = some (exoT a C none t0) ∧ ∀ t, H t = none → Q .non (upd (upd H t (.tup [.str m])) a (exoT a C none t))
abbrev tVe (K : PySem.W.Frag) : TE := tVeT K (tCons (tVar 0) (tCons (tVar 1) tNil))
theorem initV_ok {x qual : Str} {st : Stmt} {f : Addr} {fd : FuncData} {N ps : List Str} (F : Fun K x qual st f fd) (S : FnScope N ps (defScope st)) (hn : ps.length = 2) (hN : N.length = 2)
    (hB : ∀ (cdv : Value) (A : Around) (outer : List Env) (s : Shared) (H : Hp), PSs (cxOf CX0 P w K mg base N qual (defScope st) f cdv A outer s H E0).nox (defBody st) (tDrop (tVe K))) : FnG P w K mg base 1 f fd 2 ps (spV K) := by
  refine fnG_of F S hn (fun vs H Q E h => by obtain ⟨_, _, _, _, rfl, _⟩ := h; rfl) fun cdv A outer s H vs Q hg hr h => ⟨_, hB cdv A outer s H, ?_⟩
  obtain ⟨a, C, t0, m, rfl, T, ha, q⟩ := h
  have e : L2.start N [V.ref a, .str m] = [some (.ref a), some (.str m)] := by unfold L2.start; rw [hN]; rfl
  rw [e]
  refine ⟨.ref a, rfl, .str m, rfl, ?_⟩
  exact ⟨a, C, t0, [.str m], rfl, (show 1 ≤ 1000 by decide), T, ha, fun t ht => q t ht⟩
abbrev tIx (K : PySem.W.Frag) (CB : Addr) (msg f : Str) : TS := tSeq (tDrop (fun σ H Q => tC (.ref CB) σ H fun x H1 => x = .ref CB ∧ tCons (tVar 0) (tCons (tC (.str msg)) tNil) σ H1 fun vs H2 => spV K vs H2 Q E0)) (tSetX K f (tVar 0) (tVar 1))
theorem initX_ok {x qual msg fl : Str} {st : Stmt} {f CB C : Addr} {fd : FuncData} {N ps : List Str} {k : Nat} (F : Fun K x qual st f fd) (S : FnScope N ps (defScope st)) (hn : ps.length = 2) (hN : N.length = 2) (T : OexC K C) (hno : PySem.W.findIn K (.ref C) fl = some none)
    (hB : ∀ (cdv : Value) (A : Around) (outer : List Env) (s : Shared) (H : Hp), (A.deeper (PyProof.Rows.envOfC qual (defScope st) s.heap.objs.size f cdv)).guards = some [] → Room k (A.deeper (PyProof.Rows.envOfC qual (defScope st) s.heap.objs.size f cdv)) →
      PSs (cxOf CX0 P w K mg base N qual (defScope st) f cdv A outer s H E0).nox (defBody st) (tIx K CB msg fl)) : FnG P w K mg base (k + 1) f fd 2 ps (spX C fl msg) := by
  refine fnG_of F S hn (fun vs H Q E h => by obtain ⟨_, _, _, rfl, _⟩ := h; rfl) fun cdv A outer s H vs Q hg hr h => ⟨_, hB cdv A outer s H hg hr, ?_⟩
  obtain ⟨a, y, t0, rfl, ha, q⟩ := h
  have e : L2.start N [V.ref a, y] = [some (.ref a), some y] := by unfold L2.start; rw [hN]; rfl
  rw [e]
  refine ⟨rfl, .ref a, rfl, a, C, t0, msg, rfl, T, ha, fun t ht => ?_⟩
  refine ⟨y, rfl, .ref a, rfl, a, C, t, rfl, T, hno, upd_same, fun dx hdx hne => ?_⟩
  have nd : dx ≠ t := fun z => by
    subst z
    rw [upd_ne hne, upd_same] at hdx
    exact nomatch hdx
  have hdx' : H dx = none := by
    rw [upd_ne hne, upd_ne nd] at hdx
    exact hdx
  have z := q t dx ht hdx' (Ne.symm nd)
  have eq : upd (upd (upd (upd H t (.tup [.str msg])) a (exoT a C none t)) dx (exd dx [(fl, y)])) a (exoT a C (some dx) t) = upd (upd (upd H t (.tup [.str msg])) dx (exd dx [(fl, y)])) a (exoT a C (some dx) t) := by
    funext b
    by_cases h1 : b = a
    · rw [h1, upd_same, upd_same]
    · rw [upd_ne h1, upd_ne h1]
      unfold upd
      simp only [h1, if_false]
  rw [eq]
  exact z
end
section
variable {X : Cx} {cl : Nat → Addr} {e : Expr} {es : List Expr} {r : AF} {pos : Pos}
/-! ### C(e) as data -/
def eExc (C : Nat) (f msg : Str) (r : AF) : EF := fun δ μ => match r δ μ with
  | some ([d], μ1) => some (.exc C f msg d, μ1)
  | _ => none
theorem de_exc {C : Nat} {f msg : Str} (h : PE X e (tExc (cl C) f msg (tA (gm X cl) r))) : DE X cl e (eExc C f msg r) := ⟨h.weak fun σ H Q ⟨O, ms, F, δ, μ, d, μ', R, ev, k⟩ => by
  unfold eExc at ev
  split at ev
  · rename_i d0 μ1 e1
    cases ev
    refine ⟨O, ms, F, δ, μ, [d0], _, R, e1, fun vs H1 ms1 F1 r1 s1 q1 => ?_⟩
    obtain ⟨y, rfl, hy⟩ := q1.one'
    refine ⟨y, rfl, fun a t dx ha ht hdx nt nd ntd => ?_⟩
    obtain ⟨r2, s2⟩ := r1.alloc ht (.tup [.str msg])
    have hdx2 : upd H1 t (.tup [.str msg]) dx = none := by rw [upd_ne (Ne.symm ntd)]; exact hdx
    obtain ⟨r3, s3⟩ := r2.alloc hdx2 (exd dx [(f, y)])
    have ha3 : upd (upd H1 t (.tup [.str msg])) dx (exd dx [(f, y)]) a = none := by rw [upd_ne (Ne.symm nd), upd_ne (Ne.symm nt)]; exact ha
    obtain ⟨r4, s4⟩ := r3.alloc ha3 (exoT a (cl C) (some dx) t)
    have sall := ((s1.trans' r1 s2).trans' r2 s3).trans' r3 s4
    refine k _ _ ms1 _ r4 sall ⟨a, t, dx, y, rfl, upd_same, ?_, ?_, ?_⟩
    · rw [upd_ne nt, upd_ne ntd, upd_same]
    · rw [upd_ne nd, upd_same]
    · exact ((hy.step s2).step s3).step s4
  · cases ev⟩
/-! ### dict displays, of at most one pair -/
def eDct0 : EF := fun _ μ => some (.dct [] [], μ)
theorem de_dct0 : DE X cl (.Dict [] [] pos) eDct0 := ⟨pe_dnewK.weak fun σ H Q ⟨O, ms, F, δ, μ, d, μ', R, ev, k⟩ => by
  cases ev
  intro p hp
  obtain ⟨r', s'⟩ := R.hr.alloc hp (.dK [])
  exact k _ _ ms _ r' s' ⟨p, [], rfl, upd_same, rfl, rfl⟩⟩
def eDct1 (x : Str) (d : D) : EF := fun _ μ => some (.dct [.inr x] [d], μ)
theorem de_dct1 {x : Str} {j : _} {p : Pos} {v : V} {d : D} (h : PE X e (tC v)) (hv : ∀ ms F, Has (gm X cl) ms F v d) : DE X cl (.Dict [some (.Constant (.str x) j p)] [e] pos) (eDct1 x d) :=
  ⟨(pe_disp (pps_cons pe_str h pps_nil) rfl rfl (fun z => nomatch z) (show 1 ≤ 15 by decide)).weak fun σ H Q ⟨O, ms, F, δ, μ, d', μ', R, ev, k⟩ => by
  cases ev
  intro p hp
  refine ⟨upd_same, [(.inr x, v)], rfl, (show 1 ≤ 15 by decide), ?_⟩
  obtain ⟨r', s'⟩ := R.hr.alloc hp (.dK [(.inr x, v)])
  have eq : upd (upd H p (.dK [])) p (.dK (mergeK [] [(Sum.inr x, v)])) = upd H p (.dK [(.inr x, v)]) := by
    funext b
    unfold upd
    by_cases hb : b = p
    · rw [if_pos hb, if_pos hb]; rfl
    · rw [if_neg hb, if_neg hb, if_neg hb]
  rw [eq]
  exact k _ _ ms _ r' s' ⟨p, [v], rfl, upd_same, rfl, v, [], rfl, hv _ _, rfl⟩⟩
/-! ### isinstance, of own exceptions too -/
def isiH (kit : Nat → String → Option Bool) : G1 := fun ds μ => match ds with
  | [.exc C _ _ _, .ty T] => (kit C T).map fun b => (.bl b, μ)
  | _ => isiG ds μ
theorem cd_isiH {kit : Nat → String → Option Bool} (hk : ∀ C T b, kit C T = some b → L2.ExcC X.K (cl C) ∧ PySem.W.kitOne X.K (.ref (cl C)) (.type T) = some b) : CallD X cl (.builtin "isinstance") (isiH kit) := by
  intro ms F H μ vs ds d μ' Q r hv ev k
  unfold isiH at ev
  split at ev
  · rename_i C f m d0 T
    obtain ⟨b, eb, e⟩ := Option.map_eq_some_iff.mp ev
    cases e
    obtain ⟨v, c, rfl, hx, ht⟩ := hv.two'
    obtain ⟨a, t, dx, y, rfl, h1, h2, h3, h4⟩ := hx
    rw [show c = .ty T from ht]
    obtain ⟨E1, E2⟩ := hk C T b eb
    exact ⟨_, call_isX, a, cl C, dx, t, _, .ty T, .type T, b, rfl, r.sub _ _ h1, r.sub _ _ h3, E1, .ty T, E2, k.imm r rfl⟩
  · exact cd_isi (fun _ _ _ => trivial) ms F H μ vs ds d μ' Q r hv ev k
end
end G

set_option Elab.async false
set_option linter.all false
set_option autoImplicit false
set_option maxRecDepth 100000
set_option maxHeartbeats 2000000
namespace G
open PySem PySem.Spec PySem.Calls L2
/-- an own exception with one field, behind PeerError's __init__ -/
structure HasX (P : Program) (w : World) (K : PySem.W.Frag) (mg : Str → Option Value) (base : Heap) (cl : Nat → Addr) (C : Nat) (x fl msg : Str) where
  f : Addr
  fd : FuncData
  oex : OexC K (cl C)
  ini : PySem.W.findIn K (.ref (cl C)) "__init__" = some (some (.ref f))
  ti : PySem.W.typeIn K (.ref f) = some (.type "function")
  ps : List Str
  ok : FnG P w K mg base 2 f fd 2 ps (spX (cl C) fl msg)
  bd : Binds K fd ps []
  mg : mg x = some (.ref (cl C))
section
variable {X : Cx} {cl : Nat → Addr} {e : Expr} {r : AF} {pos p : Pos} {x fl msg : Str} {C : Nat}
theorem de_excX (T : HasX X.prog X.w X.K X.mg X.base cl C x fl msg) (hgd : X.A.guards = some []) (hr : Room 3 X.A) (hg : Gl X x) (ha : DA X cl [e] r)
    (hdb : (x == ("__debug__" : Str)) = false := by decide) (he : starEach (e :: []) X.env = (false, eval e X.env) :: starEach [] X.env := by rfl) (hpl : (backTo pos (starEach [] X.env)).any (·.1) = false := by rfl) :
    DE X cl (.Call (.Name x p) [e] [] pos) (eExc C fl msg r) := de_exc (pe_exc T.oex T.ini T.ti T.ok hgd hr T.bd hg T.mg ha.p hdb he hpl)
end
end G

set_option Elab.async false
set_option linter.all false
set_option autoImplicit false
set_option maxRecDepth 100000
set_option maxHeartbeats 2000000
namespace G
open PySem PySem.Spec PySem.Calls L2
/-! ### own functions that may raise -/
inductive Rs where
  | ok (d : D) (μ : List MO) | ex (C : Nat) (f msg : Str) (d : D) (μ : List MO)
abbrev XF := List D → List MO → Option Rs
def runX (n : Nat) (body : BF) : XF := fun ds μ => match body (startD n ds) μ with
  | some (.nx _ μ') => some (.ok .non μ')
  | some (.rt d μ') => some (.ok d μ')
  | some (.xc C f msg d _ μ') => some (.ex C f msg d μ')
  | _ => none
def RsOk (Γ : Gm) (ms : List Addr) (F H : Hp) (Q : VK) (E : XK) : Rs → Prop
  | .ok d μ' => Fin1 Γ ms F H d μ' Q
  | .ex C f msg d μ' => ∀ dx y H' ms' F', HR Γ ms' F' H' μ' → Stp ms ms' F F' H H' → F' dx = some (exd dx [(f, y)]) → Has Γ ms' F' y d → E (.ref (Γ.cl C)) (some dx) H'
def spXF (Γ : Gm) (n : Nat) (fn : XF) : Sp := fun vs H Q E => ∃ ms F ds μ r, HR Γ ms F H μ ∧ HasL Γ ms F vs ds ∧ ds.length = n ∧ fn ds μ = some r ∧ RsOk Γ ms F H Q E r
structure FnX (P : Program) (w : World) (K : PySem.W.Frag) (mg : Str → Option Value) (base : Heap) (k : Nat) (f : Addr) (fd : FuncData) (n : Nat) (ps : List Str) (sp : Sp) : Prop where
  len : ∀ vs H Q E, sp vs H Q E → vs.length = n
  pl : ps.length = n
  go : ∀ {A : Around} {outer : List Env} {s : Shared} {H : Hp} {args : Args} {us : List Value} {vs : List V} {Q : VK} {E : XK}, A.guards = some [] → Room k A → Env0 P w K mg base A outer s H →
    BindsTo s fd args (ps.zip us) → Vals vs us → sp vs H Q E → codeAny (model P w) A (.call (.ref f) args) (CR (L2N.CX P w) outer P w H s Q E) s
/-- what is taken, is taken -/
theorem W0.of {X : Cx} {W : WX} (t : L2N.Takes X W) {cls : Value} {d : Option Addr} {σ : L2.St} {H : Hp} (h : W cls d σ H) : (W0 X).1 cls d σ H := fun u s' ⟨a, B, sI, pins, σ', H', cls', d', e, I, nb, up, sky, na, os, ag, h1, h2, h3, h4⟩ => by
  subst h1; subst h2; subst h3; subst h4
  exact t u s' ⟨a, B, sI, pins, _, _, _, _, e, I, nb, up, sky, na, os, ag, h⟩
section
variable {P : Program} {w : World} {K : PySem.W.Frag} {mg : Str → Option Value} {base : Heap} {cl : Nat → Addr}
theorem fnX_of {x qual : Str} {st : Stmt} {f : Addr} {fd : FuncData} {N ps : List Str} {k n : Nat} {sp : Sp} (F : Fun K x qual st f fd) (S : FnScope N ps (defScope st)) (hn : ps.length = n)
    (len : ∀ vs H Q E, sp vs H Q E → vs.length = n)
    (body : ∀ (cdv : Value) (A : Around) (outer : List Env) (s : Shared) (H : Hp) (vs : List V) (Q : VK) (E : XK), (A.deeper (PyProof.Rows.envOfC qual (defScope st) s.heap.objs.size f cdv)).guards = some [] →
      Room k (A.deeper (PyProof.Rows.envOfC qual (defScope st) s.heap.objs.size f cdv)) → sp vs H Q E →
      ∃ t, PSs (cxOf (L2N.CX P w) P w K mg base N qual (defScope st) f cdv A outer s H E) (defBody st) t ∧ t { nx := fun _ H' => Q .non H', rt := Q } (L2.start N vs) H) : FnX P w K mg base (k + 1) f fd n ps sp := by
  obtain ⟨oc, od, kV, doc, pm, an, cdv, ct, osl, rfl, lk, hcd⟩ := F.ex
  refine ⟨len, hn, ?_⟩
  intro A outer s H args us vs Q E hg hr e0 hb rv hsp
  have hl : vs.length = ps.length := (len _ _ _ _ hsp).trans hn.symm
  have old : ∀ b o, base.get? b = some o → s.heap.get? b = some o := fun b o e => (e0.bs b o e).1
  have kin := e0.mod.kin.keeps old
  have kinds : ∀ y ∈ ps.zip us, (defScope st).names.lookup y.1 = some .local ∨
      ((defScope st).names.lookup y.1 = some .cell ∧ ((cellsFrom (s.heap.objs.size + 1) (defScope st).names []).lookup y.1).isSome = true) := by
    rintro ⟨z, v⟩ hy
    rcases S.par z (List.of_mem_zip hy).1 with c | c
    · exact Or.inl c
    · exact Or.inr ⟨c, PySem.W.cellsFrom_some _ _ _ (Or.inl c)⟩
  refine codeAny_call_function hr.depth (kin _ _ lk) rfl S.co S.gen rfl
    (PySem.W.codeRec_of kin hcd) (hb _ _ _ _ ?_)
  refine wpAny_newFunctionEnv_cells S.kind kinds fun env he s1 ic => ?_
  subst he
  refine ⟨(e0.mod.nolimit.keeps old).keeps ic.toInCall.keep, codeAny_func ?_⟩
  obtain ⟨t, ht, hq⟩ := body cdv A outer s H vs Q E hg (hr.deeper _) hsp
  have inv := inv_start (CX := L2N.CX P w) (E := E) S hr.hd e0 hl rv ic
  refine wpAny_mono (ht.run [] s1 _ H _ inv hq) (fun fl s' hs => ?_) fun _ _ hs => hs
  cases fl with
  | next => obtain ⟨σ', H', J, q⟩ := hs; exact ⟨V.non, H', J.os, J.bare, J.base, J.hok, rfl, q⟩
  | ret u => obtain ⟨v, σ', H', J, r, q⟩ := hs; exact ⟨v, H', J.os, J.bare, J.base, J.hok, r, q⟩
  | brk => obtain ⟨_, _, _, q⟩ := hs; exact q.elim
  | cont => obtain ⟨_, _, _, q⟩ := hs; exact q.elim
theorem fnX_ok {x qual : Str} {st : Stmt} {f : Addr} {fd : FuncData} {N ps : List Str} {k n : Nat} {body : BF} (F : Fun K x qual st f fd) (S : FnScope N ps (defScope st)) (hn : ps.length = n)
    (hB : ∀ (cdv : Value) (A : Around) (outer : List Env) (s : Shared) (H : Hp) (E : XK), (A.deeper (PyProof.Rows.envOfC qual (defScope st) s.heap.objs.size f cdv)).guards = some [] → Room k (A.deeper (PyProof.Rows.envOfC qual (defScope st) s.heap.objs.size f cdv)) →
      DB (cxOf (L2N.CX P w) P w K mg base N qual (defScope st) f cdv A outer s H E) cl (defBody st) body) : FnX P w K mg base (k + 1) f fd n ps (spXF (gk K cl) n (runX N.length body)) := by
  refine fnX_of F S hn (fun vs H Q E h => ?_) fun cdv A outer s H vs Q E hg hr h => ⟨tS (gk K cl) (W0 (cxOf (L2N.CX P w) P w K mg base N qual (defScope st) f cdv A outer s H E)) body, ?_, ?_⟩
  · obtain ⟨ms, F, ds, μ, r', r, q, hl, _⟩ := h
    rw [q.length]; exact hl
  · exact (hB cdv A outer s H E hg hr).p
  · obtain ⟨ms, F, ds, μ, r', r, q, hl, ev, k⟩ := h
    unfold runX at ev
    split at ev
    · rename_i δ' μ2 e
      cases ev
      exact ⟨⟨ms, F, H⟩, ms, F, _, μ, _, SR.start r q, e, rfl, fun σ' H' ms' F' R' x => k .non H' ms' F' R'.hr R'.st rfl⟩
    · rename_i d' μ2 e
      cases ev
      exact ⟨⟨ms, F, H⟩, ms, F, _, μ, _, SR.start r q, e, rfl, fun v H' ms' F' r' s' q' => k v H' ms' F' r' s' q'⟩
    · rename_i C f' msg d' δ' μ2 e
      cases ev
      exact ⟨⟨ms, F, H⟩, ms, F, _, μ, _, SR.start r q, e, rfl, fun σ' H' ms' F' dx y R' x hd hy => W0.of (L2N.takes_of rfl rfl rfl rfl) (k dx y H' ms' F' R'.hr R'.st hd hy)⟩
    · cases ev
end
section
variable {X : Cx} {cl : Nat → Addr} {e : Expr} {es : List Expr} {pos p pos' : Pos} {r : AF} {k n : Nat} {f : Addr} {fd : FuncData} {ps : List Str} {fn : XF} {x : Str}
theorem runFX {sp : Sp} {pins : List (Addr × Obj)} {σ : L2.St} {H : Hp} {s : Shared} {Q : VK} {us : List Value} {vs : List V} (Gf : FnX X.prog X.w X.K X.mg X.base k f fd n ps sp) (hgd : X.A.guards = some []) (hr : Room k X.A)
    (hb : Binds X.K fd ps []) (I : Inv X pins σ H s) (rv : Vals vs us) (h : sp vs H Q (WE (W0 X).1 σ)) : wpAny (model X.prog X.w) X.A (call (.ref f) us) (EP X pins σ Q) X.xe s := by
  have hl : us.length = ps.length := by rw [← rv.length, Gf.pl]; exact Gf.len _ _ _ _ h
  have b := hb s us I.kIn (by rw [List.append_nil]; exact hl)
  rw [List.append_nil] at b
  refine wpAny_call (codeAny_mono (Gf.go hgd hr I.env0 b rv h) fun z s' hq => ?_)
  cases z with
  | error e => exact L2N.passAt takesW σ pins H s e s' I hq
  | ok fl =>
    cases fl with
    | ret u => exact I.after hq
    | next => exact (show False from hq).elim
    | brk => exact (show False from hq).elim
    | cont => exact (show False from hq).elim
theorem pe_callFX {sp : Sp} {t : TA} (Gf : FnX X.prog X.w X.K X.mg X.base k f fd n ps sp) (hgd : X.A.guards = some []) (hr : Room k X.A) (hg : Gl X x) (hm : X.mg x = some (.ref f)) (hk : PySem.W.keepIn X.K (.ref f) = true) (hb : Binds X.K fd ps [])
    (ha : PA X (e :: es) t) (hdb : (x == ("__debug__" : Str)) = false := by decide) (he : starEach (e :: es) X.env = (false, eval e X.env) :: starEach es X.env := by rfl) (hpl : (backTo pos (starEach es X.env)).any (·.1) = false := by rfl) :
    PE X (.Call (.Name x p) (e :: es) [] pos) (tCallS sp (WE (W0 X).1) t) := by
  refine ⟨fun pins s σ H Q I h => ?_⟩
  refine wpAny_Call_Name_kw (ld_glob I hg hm ?_ hdb)
  refine PySem.W.callWith_K (h₀ := X.base) I.ok.mod.kin hk (thn (ha.run pos pins s σ H _ I h) fun us s1 ⟨vs, H1, I1, r, q⟩ => ⟨I1.kIn, ?_⟩) he hpl
  exact runFX Gf hgd hr hb I1 r q
/-- f(..), by itself -/
def bCallX (fn : XF) (r : AF) : BF := fun δ μ => match r δ μ with
  | some (xs, μ1) => match fn xs μ1 with
    | some (.ok _ μ2) => some (.nx δ μ2)
    | some (.ex C f msg d μ2) => some (.xc C f msg d δ μ2)
    | none => none
  | none => none
theorem ds_callX (Gf : FnX X.prog X.w X.K X.mg X.base k f fd n ps (spXF (gk X.K cl) n fn)) (hgd : X.A.guards = some []) (hr : Room k X.A) (hg : Gl X x) (hm : X.mg x = some (.ref f)) (hk : PySem.W.keepIn X.K (.ref f) = true) (hb : Binds X.K fd ps [])
    (ha : DA X cl (e :: es) r) (hlen : ∀ δ μ xs μ1, r δ μ = some (xs, μ1) → xs.length = n) (hdb : (x == ("__debug__" : Str)) = false := by decide) (he : starEach (e :: es) X.env = (false, eval e X.env) :: starEach es X.env := by rfl) (hpl : (backTo pos (starEach es X.env)).any (·.1) = false := by rfl)
    (hs : swapsWith (.Call (.Name x p) (e :: es) [] pos) none pos'.line X.env = pure false := by rfl) : DS X cl (.Expr (.Call (.Name x p) (e :: es) [] pos) pos') (bCallX fn r) :=
  ⟨(ps_expr (pe_callFX Gf hgd hr hg hm hk hb ha.p hdb he hpl) hs).weak fun D σ H ⟨O, ms, F, δ, μ, o, R, ev, hO, kk⟩ => by
  unfold bCallX at ev
  split at ev
  · rename_i xs μ1 e1
    refine ⟨O, ms, F, δ, μ, xs, μ1, R, e1, fun vs H1 ms1 F1 r1 s1 q1 => ?_⟩
    have R1 := R.step r1 s1
    have k1 := kk.step s1.ext
    split at ev
    · rename_i d μ2 e2
      cases ev
      exact ⟨ms1, F1, xs, μ1, _, r1.xp, q1.xp, hlen _ _ _ _ e1, e2, fun v H' ms' F' r' s' _ => k1 σ H' ms' F' (R1.step r'.xp s') s'.ext⟩
    · rename_i C f' msg d μ2 e2
      cases ev
      exact ⟨ms1, F1, xs, μ1, _, r1.xp, q1.xp, hlen _ _ _ _ e1, e2, fun dx y H' ms' F' r' s' hd hy => k1 σ H' ms' F' dx y (R1.step r'.xp s') s'.ext hd hy.xp⟩
    · cases ev
  · cases ev⟩
end
end G

set_option Elab.async false
set_option linter.all false
set_option autoImplicit false
set_option maxRecDepth 100000
set_option maxHeartbeats 2000000
namespace G
open PySem PySem.Spec PySem.Calls L2
/-! ### raise C(e), C an own exception of one field -/
theorem SR.young {Γ : Gm} {O : Og} {ms : List Addr} {F H : Hp} {σ : L2.St} {δ : List SV} {μ : List MO} (R : SR Γ O ms F H σ δ μ) {a : Addr} (h : H a = none) : O.H a = none := by
  cases z : O.H a with
  | none => rfl
  | some o =>
    obtain ⟨new, e, _⟩ := R.st.new
    by_cases hm : a ∈ O.ms
    · exact absurd h (R.hr.live a (by rw [e]; exact List.mem_append_left _ hm))
    · rw [R.st.keep a o z hm] at h; exact nomatch h
section
variable {X : Cx} {cl : Nat → Addr} {e : Expr} {es : List Expr} {ta : TA} {f x fl : Str} {msg : Str} {p pos pos' : Pos} {C fI : Addr} {k : Nat} {fd : FuncData} {ps : List Str} {r : AF}
theorem pmk_exc (hx : X.ex = []) (T : OexC X.K C) (he : PE X e (tExc C f msg ta)) :
    L2N.PMk X e (fun σ H Q => tExc C f msg ta σ H fun v H2 => ∃ a dx t, v = .ref a ∧ H2 a = some (exoT a C (some dx) t) ∧ Fr0 X.H_0 a ∧ Q (.ref C) (some dx) (delH H2 a)) := by
  intro pins s σ H Q I h
  refine wpAny_mono (he.run pins s σ H _ I h) (fun u s1 hu => ?_) fun _ _ x => x
  obtain ⟨v, H1, I1, r1, a, dx, t, rfl, ha, h0, q⟩ := hu
  cases r1
  have ho := exoT_at I1.hok ha
  obtain ⟨G, gs, ga, J⟩ := I1.untrack ha h0 hx
  exact ⟨a, _, _, { s1 with heap := G }, delH H1 a, .ref C, some dx, rfl, J, gs, ga, ho, ⟨rfl, rfl, fun vs e => by cases e; rfl⟩, rfl, rfl, delH_same, rfl, I1.bare, raises_own T.exC T.tyC, q⟩
def bRaise (C : Nat) (f msg : Str) (r : AF) : BF := fun δ μ => match r δ μ with
  | some ([d], μ1) => some (.xc C f msg d δ μ1)
  | _ => none
theorem ds_raise {C : Nat} (T : HasX X.prog X.w X.K X.mg X.base cl C x fl msg) (hgd : X.A.guards = some []) (hr : Room 3 X.A) (hx : X.ex = []) (hc : X.calm = true) (hg : Gl X x) (ha : DA X cl [e] r)
    (hdb : (x == ("__debug__" : Str)) = false := by decide) (he : starEach (e :: []) X.env = (false, eval e X.env) :: starEach [] X.env := by rfl) (hpl : (backTo pos' (starEach [] X.env)).any (·.1) = false := by rfl) :
    DS X cl (.Raise (some (.Call (.Name x p) [e] [] pos')) none pos) (bRaise C fl msg r) :=
  ⟨(L2N.ps_raise hc takesW (pmk_exc hx T.oex (pe_exc T.oex T.ini T.ti T.ok hgd hr T.bd hg T.mg ha.p hdb he hpl))).weak fun D σ H ⟨O, ms, F, δ, μ, o, R, ev, hO, kk⟩ => by
  unfold bRaise at ev
  split at ev
  · rename_i d μ1 e1
    cases ev
    refine ⟨O, ms, F, δ, μ, [d], μ1, R, e1, fun vs H1 ms1 F1 r1 s1 q1 => ?_⟩
    obtain ⟨y, rfl, hy⟩ := q1.one'
    have R1 := R.step r1 s1
    refine ⟨y, rfl, fun a t dx ha ht hdx nt nd ntd => ?_⟩
    obtain ⟨r2, s2⟩ := r1.alloc ht (.tup [.str msg])
    have hdx2 : upd H1 t (.tup [.str msg]) dx = none := by rw [upd_ne (Ne.symm ntd)]; exact hdx
    obtain ⟨r3, s3⟩ := r2.alloc hdx2 (exd dx [(fl, y)])
    have ha3 : upd (upd H1 t (.tup [.str msg])) dx (exd dx [(fl, y)]) a = none := by rw [upd_ne (Ne.symm nd), upd_ne (Ne.symm nt)]; exact ha
    refine ⟨a, dx, t, rfl, upd_same, fr0_none ?_, ?_⟩
    · have := R1.young ha
      rw [hO] at this
      exact this
    · rw [delH_new ha3]
      exact kk σ _ ms1 _ dx y (R1.step r3 (s2.trans' r2 s3)) ((s1.trans' r1 s2).trans' r2 s3).ext upd_same ((hy.step s2).step s3)
  · cases ev⟩
end
end G

set_option Elab.async false
set_option linter.all false
set_option autoImplicit false
set_option maxRecDepth 100000
set_option maxHeartbeats 2000000
namespace G
open PySem PySem.Spec PySem.Calls L2
section
variable {X : Cx} {cl : Nat → Addr} {e : Expr} {es : List Expr} {pos p pos' : Pos} {r : AF} {k n : Nat} {f : Addr} {fd : FuncData} {ps : List Str} {fn : XF} {x : Str}
/-! ### return f(..), y = f(..), f one that may raise -/
def bRetX (fn : XF) (r : AF) : BF := fun δ μ => match r δ μ with
  | some (xs, μ1) => match fn xs μ1 with
    | some (.ok d μ2) => some (.rt d μ2)
    | some (.ex C f msg d μ2) => some (.xc C f msg d δ μ2)
    | none => none
  | none => none
theorem ds_retX (Gf : FnX X.prog X.w X.K X.mg X.base k f fd n ps (spXF (gk X.K cl) n fn)) (hgd : X.A.guards = some []) (hr : Room k X.A) (hg : Gl X x) (hm : X.mg x = some (.ref f)) (hk : PySem.W.keepIn X.K (.ref f) = true) (hb : Binds X.K fd ps [])
    (ha : DA X cl (e :: es) r) (hlen : ∀ δ μ xs μ1, r δ μ = some (xs, μ1) → xs.length = n) (hdb : (x == ("__debug__" : Str)) = false := by decide) (he : starEach (e :: es) X.env = (false, eval e X.env) :: starEach es X.env := by rfl) (hpl : (backTo pos (starEach es X.env)).any (·.1) = false := by rfl) :
    DS X cl (.Return (some (.Call (.Name x p) (e :: es) [] pos)) pos') (bRetX fn r) :=
  ⟨(ps_ret (pe_callFX Gf hgd hr hg hm hk hb ha.p hdb he hpl)).weak fun D σ H ⟨O, ms, F, δ, μ, o, R, ev, hO, kk⟩ => by
  unfold bRetX at ev
  split at ev
  · rename_i xs μ1 e1
    refine ⟨O, ms, F, δ, μ, xs, μ1, R, e1, fun vs H1 ms1 F1 r1 s1 q1 => ?_⟩
    have R1 := R.step r1 s1
    have k1 := kk.step s1.ext
    split at ev
    · rename_i d μ2 e2
      cases ev
      exact ⟨ms1, F1, xs, μ1, _, r1.xp, q1.xp, hlen _ _ _ _ e1, e2, fun v H' ms' F' r' s' q' => k1 v H' ms' F' r'.xp (R1.step r'.xp s').st q'.xp⟩
    · rename_i C f' msg d μ2 e2
      cases ev
      exact ⟨ms1, F1, xs, μ1, _, r1.xp, q1.xp, hlen _ _ _ _ e1, e2, fun dx y H' ms' F' r' s' hd hy => k1 σ H' ms' F' dx y (R1.step r'.xp s') s'.ext hd hy.xp⟩
    · cases ev
  · cases ev⟩
def bSetX (i : Nat) (fn : XF) (r : AF) : BF := fun δ μ => match r δ μ with
  | some (xs, μ1) => match fn xs μ1 with
    | some (.ok d μ2) => some (.nx (δ.set i (.d d)) μ2)
    | some (.ex C f msg d μ2) => some (.xc C f msg d δ μ2)
    | none => none
  | none => none
theorem ds_setX {i : Nat} {y : Str} {p' : Pos} (hN : X.N.Nodup) (hi : X.N[i]? = some y) (hy : Loc X.env.scope y) (Gf : FnX X.prog X.w X.K X.mg X.base k f fd n ps (spXF (gk X.K cl) n fn)) (hgd : X.A.guards = some []) (hr : Room k X.A) (hg : Gl X x) (hm : X.mg x = some (.ref f)) (hk : PySem.W.keepIn X.K (.ref f) = true) (hb : Binds X.K fd ps [])
    (ha : DA X cl (e :: es) r) (hlen : ∀ δ μ xs μ1, r δ μ = some (xs, μ1) → xs.length = n) (hdb : (x == ("__debug__" : Str)) = false := by decide) (he : starEach (e :: es) X.env = (false, eval e X.env) :: starEach es X.env := by rfl) (hpl : (backTo pos (starEach es X.env)).any (·.1) = false := by rfl)
    (hs : swapsWith (.Call (.Name x p) (e :: es) [] pos) (some (.Name y p')) pos'.line X.env = pure false := by rfl) (hf : X.fn y = true ∨ X.env.scope.names.lookup y = some .local := by first | exact .inl rfl | exact .inr rfl | assumption) :
    DS X cl (.Assign [.Name y p'] (.Call (.Name x p) (e :: es) [] pos) pos') (bSetX i fn r) :=
  ⟨(ps_set hN hi hy (pe_callFX Gf hgd hr hg hm hk hb ha.p hdb he hpl) hs hf).weak fun D σ H ⟨O, ms, F, δ, μ, o, R, ev, hO, kk⟩ => by
  unfold bSetX at ev
  split at ev
  · rename_i xs μ1 e1
    refine ⟨O, ms, F, δ, μ, xs, μ1, R, e1, fun vs H1 ms1 F1 r1 s1 q1 => ?_⟩
    have R1 := R.step r1 s1
    have k1 := kk.step s1.ext
    split at ev
    · rename_i d μ2 e2
      cases ev
      exact ⟨ms1, F1, xs, μ1, _, r1.xp, q1.xp, hlen _ _ _ _ e1, e2, fun v H' ms' F' r' s' q' => k1 _ H' ms' F' ((R1.step r'.xp s').set q'.xp i) s'.ext⟩
    · rename_i C f' msg d μ2 e2
      cases ev
      exact ⟨ms1, F1, xs, μ1, _, r1.xp, q1.xp, hlen _ _ _ _ e1, e2, fun dx y H' ms' F' r' s' hd hy => k1 σ H' ms' F' dx y (R1.step r'.xp s') s'.ext hd hy.xp⟩
    · cases ev
  · cases ev⟩
/-! ### a weaker wish -/
theorem EndOk.imp {Γ : Gm} {W W' : WX × Hp} {O : Og} {ms : List Addr} {F : Hp} {D : Ends} {o : Out} (h : EndOk Γ W O ms F D o) (w : ∀ c d σ H, W.1 c d σ H → W'.1 c d σ H) : EndOk Γ W' O ms F D o := by
  cases o with
  | xc C f msg d δ μ => exact fun σ' H' m2 F2 dx y R x hd hy => w _ _ _ _ (h σ' H' m2 F2 dx y R x hd hy)
  | _ => exact h
end
end G

set_option Elab.async false
set_option linter.all false
set_option autoImplicit false
set_option maxRecDepth 100000
set_option maxHeartbeats 2000000
namespace G
open PySem PySem.Spec PySem.Calls L2 PyProof.Rows
/-! ### an exception that has come to a try of the def -/
/-- s: the state in which the exception at a waits to be asked for; g: the state without it -/
structure Waits (X : Cx) (pins : List (Addr × Obj)) (σ : L2.St) (H : Hp) (a : Addr) (cls : Value) (d : Option Addr) (B : Heap) (g s : Shared) : Prop where
  inv : Inv X pins σ H g
  low : ∀ b o, g.heap.get? b = some o → b ∉ frs X.stack → B.get? b = some o
  up : g.heap.UpToSlots s.heap
  fly : HandSPX.FlyingZ B (X.env :: X.outer) a (L2N.Zn cls d) s.heap
  na : H a = none
  os : s.os = g.os
  ag : AllBare s.gens
section
variable {X : Cx} {pins : List (Addr × Obj)} {σ : L2.St} {H : Hp} {a : Addr} {cls : Value} {d : Option Addr} {B : Heap} {g s : Shared}
theorem Waits.here (w : Waits X pins σ H a cls d B g s) : Inv X pins σ H s := w.inv.landed w.low w.fly.1 w.up w.os w.ag
/-- an object with fields that a frame of ours can't be -/
theorem frame_not {l : List Env} {h : Heap} {o : Obj} {vs : Array Value} (ff : h.FunFrames B l) (e : h.get? a = some o) (q : o.data = .fields vs) : a ∉ frs l := by
  intro hm
  obtain ⟨_, u, eu, nf⟩ := ff.mem hm
  cases e.symm.trans eu
  exact nf vs q
/-- the suite's state: the exception is pinned -/
theorem Waits.pinned (w : Waits X pins σ H a cls d B g s) (hf : X.env.frame = some X.env.locals) : ∃ oe, L2N.Zn cls d oe ∧ (∃ vs, oe.data = .fields vs) ∧ L2H.HotC (X.suite a ((a, oe) :: (X.pn ++ pins))) ∧ s.heap.get? a = some oe ∧ Inv (X.suite a ((a, oe) :: (X.pn ++ pins))) [] σ H s := by
  obtain ⟨oe, vs, he, hz, hd⟩ := w.fly.there
  have nfr : a ∉ frs (X.env :: X.outer) := frame_not w.fly.2.2.1 he hd
  have out : ∀ env ∈ X.env :: X.outer, env.frame ≠ some a := fun env hm z => nfr (List.mem_filterMap.mpr ⟨env, hm, z⟩)
  have nL : a ≠ X.env.locals := fun z => out X.env List.mem_cons_self (by rw [hf, z])
  have nF : a ∉ X.fs := fun hm => by
    obtain ⟨env, h1, h2⟩ := List.mem_filterMap.mp hm
    exact out env (List.mem_cons_of_mem _ h1) h2
  exact ⟨oe, hz, ⟨vs, hd⟩, ⟨(a, oe), ⟨rfl, vs, hd, hz.2.2 vs hd⟩, List.mem_cons_self⟩, he, w.here.suite he hd w.na nL nF⟩
/-- it goes on its way, asked for by none -/
theorem Waits.on {W : WX} (w : Waits X pins σ H a cls d B g s) (hs : X.stack = X.env :: X.outer) (hf : X.env.frame = some X.env.locals) (tk : L2N.Takes X W) (q : W cls d σ H) {Q : Flow → Shared → Prop} :
    wpAny (model X.prog X.w) X.A (handleBy (.ref a) X.env []) Q X.xe s := by
  refine wpAny_handleBy_nil ?_
  obtain ⟨_, _, _, oe, vs, T, _, _, he, _, hd, h1, _⟩ := id w.fly
  have notNone : ¬ ((Value.ref T == Value.none) = true) := by simp
  have last : wpAny (model X.prog X.w) X.A (setFlight (.ref a) X.env.frame) (fun _ s2 => wpAny (model X.prog X.w) X.A (throw (.ref a) : Sem Flow) Q X.xe s2) X.xe s := by
    rw [hf]
    refine HandSPX.setFlight_upZ w.fly fun h2 held up2 => wpAny_throw (tk _ _ ⟨a, B, g, pins, σ, H, cls, d, rfl, w.inv, w.low, w.up.trans up2, .inr (.inr ?_), w.na, w.os, w.ag, q⟩)
    rw [hs]; exact held
  unfold PySem.passOn
  refine wpAny_bind (wpAny_field he hd h1 ?_)
  rw [if_neg notNone]
  first
    | exact wpAny_bind (wpAny_pure (wpAny_bind last))
    | exact wpAny_bind last
end
/-! ### try: .. except C as n: .. except D: .. -/
abbrev TsX := Addr → Value → Option Addr → TS
def offN (i : Nat) (D : Ends) : Ends := { nx := fun σ' H' => D.nx (σ'.set i none) H', rt := D.rt, bk := fun σ' H' => D.bk (σ'.set i none) H', ct := fun σ' H' => D.ct (σ'.set i none) H' }
/-- what the clauses wish of an exception, one behind the other -/
def wMA (K : PySem.W.Frag) (Wout : WX) (D : Ends) : List (Value × Option Nat × TsX) → WX
  | [] => Wout
  | (c, oi, ts) :: r => fun cls d σ H => ∃ b, PySem.W.exmOne K cls c = some b ∧
      (b = true → ∀ a, H a = none → match oi with
        | none => ts a cls d D σ H
        | some i => ts a cls d (offN i D) (σ.set i (some (.ref a))) H) ∧ (b = false → wMA K Wout D r cls d σ H)
inductive HdsA (X : Cx) : List ExceptHandler → List (Value × Option Nat × TsX) → Prop
  | nil : HdsA X [] []
  | cons {x : Str} {c : Value} {ts : TsX} {b₀ : Stmt} {suite : List Stmt} {np pos' : Pos} {hds : List ExceptHandler} {l : List (Value × Option Nat × TsX)} {on : Option Str} {oi : Option Nat} (hc : Names X x c)
      (hn : match on, oi with
        | none, none => True
        | some n, some i => X.N[i]? = some n ∧ X.env.kindOf n = some .local
        | _, _ => False)
      (hsu : ∀ (a : Addr) (oe : Obj) (cls : Value) (d : Option Addr) (pn : List (Addr × Obj)), L2N.Zn cls d oe → (∃ vs, oe.data = .fields vs) → L2H.HotC (X.suite a ((a, oe) :: pn)) → PSs (X.suite a ((a, oe) :: pn)) (b₀ :: suite) (ts a cls d)) (r : HdsA X hds l) :
      HdsA X (.ExceptHandler (some (.Name x np)) on (b₀ :: suite) pos' :: hds) ((c, oi, ts) :: l)
section
variable {X : Cx} {body : List Stmt} {h₀ : ExceptHandler} {hds : List ExceptHandler} {l : List (Value × Option Nat × TsX)} {pos : Pos} {tb : WX → TS} {Wout : WX} {pins : List (Addr × Obj)} {σ : L2.St} {H : Hp} {a : Addr} {cls : Value} {d : Option Addr} {B : Heap} {g s : Shared}
/-- the class of a clause is looked up -/
theorem clause_class {x : Str} {c : Value} {p : Pos} {Y : Cx} {pins : List (Addr × Obj)} {Q : Value → Shared → Prop} {E : Value → Shared → Prop} (hc : Names Y x c) (I : Inv Y pins σ H s) (q : Q c s) : wpAny (model Y.prog Y.w) Y.A (eval (.Name x p) Y.env) Q E s := by
  obtain ⟨h1, h2, h3 | ⟨h3, h4, h5⟩⟩ := hc
  · exact ld_glob I h1 h3 q h2
  · exact ld_blt I h1 h3 h4 q h5 h2
/-- a suite's ways out, back in the def -/
theorem suite_out {oe : Obj} {D : Ends} {f : Flow} (ok : X.Ok) (q : SP (X.suite a ((a, oe) :: (X.pn ++ pins))) [] D f s) : SP X pins D f s := by
  cases f with
  | ret u => obtain ⟨v, σ1, H1, J, r, z⟩ := q; exact ⟨v, σ1, H1, J.unsuite ok, r, z⟩
  | next => obtain ⟨σ1, H1, J, z⟩ := q; exact ⟨σ1, H1, J.unsuite ok, z⟩
  | brk => obtain ⟨σ1, H1, J, z⟩ := q; exact ⟨σ1, H1, J.unsuite ok, z⟩
  | cont => obtain ⟨σ1, H1, J, z⟩ := q; exact ⟨σ1, H1, J.unsuite ok, z⟩
theorem clauses_run (hs : X.stack = X.env :: X.outer) (hf : X.env.frame = some X.env.locals) (hN : X.N.Nodup) (tk : L2N.Takes X Wout) {D : Ends} :
    ∀ {hds : List ExceptHandler} {l : List (Value × Option Nat × TsX)}, HdsA X hds l → Waits X pins σ H a cls d B g s → wMA X.K Wout D l cls d σ H → wpAny (model X.prog X.w) X.A (handleBy (.ref a) X.env hds) (SP X pins D) X.xe s := by
  intro hds l hk w
  induction hk with
  | nil => exact fun q => w.on hs hf tk q
  | @cons x c ts b₀ suite np pos' hds' l' on oi hc hn hsu r ih =>
    rintro ⟨b, hb, yes, no⟩
    obtain ⟨oe, hz, _, _, he, S⟩ := w.pinned hf
    refine wpAny_handleBy_cons (codeAny_handlers_test ?_) (by intro z; cases z)
    have cl0 : PySem.W.Looks (model X.prog X.w) s.heap (typeOf (.ref a)) cls := fun _ _ _ _ k q => wpAny_typeOf_ref (k _ _ he) (by rw [hz.1]; exact q)
    refine clause_class (Y := X.suite a ((a, oe) :: (X.pn ++ pins))) hc S ((PySem.W.exm_one (M := model X.prog X.w) w.here.kIn cl0 hb).here ?_)
    cases b with
    | false => exact ih (no rfl)
    | true =>
      have y := yes rfl a w.na
      match on, oi, hn with
      | none, none, _ =>
        refine codeAny_handlers_suite (HandSPX.lands_againZ w.fly fun h' fl' up' => ?_)
        have w' : Waits X pins σ H a cls d B g { s with heap := h' } := ⟨w.inv, w.low, w.up.trans up', fl', w.na, w.os, w.ag⟩
        obtain ⟨oe', hz', hv', hot', _, S'⟩ := w'.pinned hf
        exact wpAny_mono ((hsu a oe' cls d _ hz' hv' hot').run [] _ _ H D S' y) (fun f s2 q => suite_out w.inv.ok q) fun _ _ z => z.elim
      | some n, some i, ⟨hi, hl⟩ =>
        refine codeAny_handlers_suite_as (HandSPX.lands_againZ w.fly fun h' fl' up' => ?_)
        have w' : Waits X pins σ H a cls d B g { s with heap := h' } := ⟨w.inv, w.low, w.up.trans up', fl', w.na, w.os, w.ag⟩
        obtain ⟨oe', hz', hv', hot', _, S'⟩ := w'.pinned hf
        refine store_ok (X := X.suite a ((a, oe') :: (X.pn ++ pins))) (v := .ref a) S' hN hi (.inl hl) rfl (fun s2 S2 => ?_) (.inr hl)
        refine wpAny_mono ((hsu a oe' cls d _ hz' hv' hot').run [] _ _ H (offN i D) S2 y) (fun f s3 q => ?_) fun _ _ z => z.elim
        have q' := suite_out (pins := pins) w.inv.ok q
        cases f with
        | ret u => obtain ⟨v, σ4, H4, J, rv, z⟩ := q'; exact gone_ok J hN hi hl fun s4 J4 => ⟨v, _, H4, J4, rv, z⟩
        | next => obtain ⟨σ4, H4, J, z⟩ := q'; exact gone_ok J hN hi hl fun s4 J4 => ⟨_, H4, J4, z⟩
        | brk => obtain ⟨σ4, H4, J, z⟩ := q'; exact gone_ok J hN hi hl fun s4 J4 => ⟨_, H4, J4, z⟩
        | cont => obtain ⟨σ4, H4, J, z⟩ := q'; exact gone_ok J hN hi hl fun s4 J4 => ⟨_, H4, J4, z⟩
theorem ps_try_ma (hs : X.stack = X.env :: X.outer) (hf : X.env.frame = some X.env.locals) (hN : X.N.Nodup) (tk : L2N.Takes X Wout)
    (hb : ∀ (W : WX) (pn : List (Addr × Obj)) (xe : Value → Shared → Prop), L2N.Takes (X.tr pn xe) W → PassesOwn (model X.prog X.w) X.A X.env xe → PSs (X.tr pn xe) body (tb W))
    (hh : HdsA X (h₀ :: hds) l) : PS X (.Try body (h₀ :: hds) [] [] pos) (fun D σ H => tb (wMA X.K Wout D l) D σ H) := by
  constructor
  intro pins s σ H D I h
  have frames : X.A.frames = some (X.env :: X.outer) := by rw [I.ok.frames, hs]
  refine wpAny_Try_except (wpAny_mono ((hb (wMA X.K Wout D l) (X.pn ++ pins) _ ?taken PassesOwn.looking).run [] s σ H D (I.toTry _) h) (fun f s1 q => ?_) fun _ _ z => z)
  case taken =>
    rintro _ s1 ⟨a, B, g, _, σ1, H1, cls, d, rfl, J, low, up, sky, na, os, ag, q⟩
    rw [show (X.tr (X.pn ++ pins) _).stack = X.env :: X.outer from hs] at sky
    exact L2N.Sky.land L2N.Zn.steady frames hf sky fun h2 fl up2 => clauses_run hs hf hN tk hh ⟨J.ofTry I.ok, low, up.trans up2, fl, na, os, ag⟩ q
  cases f with
  | next => obtain ⟨σ1, H1, J, z⟩ := q; exact wpAny_execs_nil ⟨σ1, H1, J.ofTry I.ok, z⟩
  | ret u => obtain ⟨v, σ1, H1, J, r, z⟩ := q; exact ⟨v, σ1, H1, J.ofTry I.ok, r, z⟩
  | brk => obtain ⟨σ1, H1, J, z⟩ := q; exact ⟨σ1, H1, J.ofTry I.ok, z⟩
  | cont => obtain ⟨σ1, H1, J, z⟩ := q; exact ⟨σ1, H1, J.ofTry I.ok, z⟩
end
end G

set_option Elab.async false
set_option linter.all false
set_option autoImplicit false
set_option maxRecDepth 100000
set_option maxHeartbeats 2000000
namespace G
open PySem PySem.Spec PySem.Calls L2
abbrev XT := Nat → Option Bool
def offX (δ : List SV) : List SV := δ.map fun s => match s with
  | .xv _ _ _ => .no
  | s => s
def unX : Option Nat → List SV → List SV
  | none, δ => offX δ
  | some i, δ => (offX δ).set i .no
def offOut (oi : Option Nat) : Option Out → Option Out
  | some (.nx δ μ) => some (.nx (unX oi δ) μ)
  | some (.bk δ μ) => some (.bk (unX oi δ) μ)
  | some (.ct δ μ) => some (.ct (unX oi δ) μ)
  | some (.rt d μ) => some (.rt d μ)
  | _ => none
def inX (C : Nat) (f : Str) (d : D) : Option Nat → List SV → List SV
  | none, δ => δ
  | some i, δ => δ.set i (.xv C f d)
/-- the clauses, one behind the other -/
def handle : List (XT × Option Nat × BF) → Nat → Str → Str → D → BF
  | [], C, f, m, d => fun δ μ => some (.xc C f m d δ μ)
  | (t, oi, h) :: r, C, f, m, d => fun δ μ => match t C with
    | some true => offOut oi (h (inX C f d oi δ) μ)
    | some false => handle r C f m d δ μ
    | none => none
def bTry (bd : BF) (hs : List (XT × Option Nat × BF)) : BF := fun δ μ => match bd δ μ with
  | some (.xc C f m d δ' μ') => handle hs C f m d δ' μ'
  | o => o
section
variable {K : PySem.W.Frag} {cl : Nat → Addr} {x y : Option (Addr × Obj)} {O : Og} {ms : List Addr} {F H : Hp} {σ : L2.St} {δ : List SV} {μ : List MO}
theorem SR.toX (R : SR ⟨K, cl, none⟩ O ms F H σ δ μ) : SR ⟨K, cl, x⟩ O ms F H σ δ μ := by
  refine ⟨R.hr.xp, ⟨R.er.len, fun i sv e => ?_, R.er.inj⟩, R.st⟩
  have o := R.er.ok i sv e
  cases sv with
  | no => trivial
  | d x => obtain ⟨u, e, q⟩ := o; exact ⟨u, e, q.xp⟩
  | own ds => obtain ⟨a, xs, e, h1, h2, h3⟩ := o; exact ⟨a, xs, e, h1, h2.xp, h3⟩
  | xv C f x => obtain ⟨a, oe, dx, y, e, _⟩ := o; cases e
theorem offX_get {δ : List SV} {i : Nat} {sv : SV} (e : (offX δ)[i]? = some sv) : (sv = .no) ∨ (δ[i]? = some sv ∧ ∀ C f x, sv ≠ .xv C f x) := by
  unfold offX at e
  rw [List.getElem?_map] at e
  cases z : δ[i]? with
  | none => rw [z] at e; cases e
  | some s =>
    rw [z] at e
    cases s with
    | no => cases e; exact .inl rfl
    | d x => cases e; exact .inr ⟨rfl, fun _ _ _ z => nomatch z⟩
    | own x => cases e; exact .inr ⟨rfl, fun _ _ _ z => nomatch z⟩
    | xv C f x => cases e; exact .inl rfl
theorem SR.offX (R : SR ⟨K, cl, x⟩ O ms F H σ δ μ) : SR ⟨K, cl, y⟩ O ms F H σ (G.offX δ) μ := by
  refine ⟨R.hr.xp, ⟨by simp [G.offX, R.er.len], fun i sv e => ?_, fun i j a ds es e1 e2 f1 f2 => ?_⟩, R.st⟩
  · rcases offX_get e with rfl | ⟨e, nx⟩
    · trivial
    · have o := R.er.ok i sv e
      cases sv with
      | no => trivial
      | d x => obtain ⟨u, e, q⟩ := o; exact ⟨u, e, q.xp⟩
      | own ds => obtain ⟨a, xs, e, h1, h2, h3⟩ := o; exact ⟨a, xs, e, h1, h2.xp, h3⟩
      | xv C f x => exact absurd rfl (nx C f x)
  · rcases offX_get e1 with z | ⟨e1, _⟩
    · cases z
    · rcases offX_get e2 with z | ⟨e2, _⟩
      · cases z
      · exact R.er.inj i j a ds es e1 e2 f1 f2
theorem SR.setX {a : Addr} {oe : Obj} {dx : Addr} {C : Nat} {f : Str} {d : D} {v : V} (R : SR ⟨K, cl, some (a, oe)⟩ O ms F H σ δ μ) (z : Zc (.ref (cl C)) (some dx) oe ∧ ∃ vs, oe.data = .fields vs) (hd : F dx = some (exd dx [(f, v)])) (q : Has ⟨K, cl, some (a, oe)⟩ ms F v d) (i : Nat) :
    SR ⟨K, cl, some (a, oe)⟩ O ms F H (σ.set i (some (.ref a))) (δ.set i (.xv C f d)) μ := by
  have R1 := R.drop i (some (.ref a))
  refine ⟨R1.hr, ⟨by simpa using R1.er.len, fun j sv e => ?_, fun j k c ds es e1 e2 f1 f2 => ?_⟩, R1.st⟩
  · by_cases hj : i = j
    · subst hj
      have hi : i < δ.length := by
        have := (List.getElem?_eq_some_iff.mp e).1
        simpa using this
      rw [List.getElem?_set_self hi] at e; cases e
      rw [List.getElem?_set_self (by rw [R.er.len]; exact hi)]
      exact ⟨a, oe, dx, v, rfl, rfl, z, hd, q⟩
    · refine R1.er.ok j sv ?_
      rw [List.getElem?_set_ne hj] at e ⊢
      exact e
  · have n1 : i ≠ j := fun z => by
      subst z
      have hi : i < δ.length := by
        have := (List.getElem?_eq_some_iff.mp e1).1
        simpa using this
      rw [List.getElem?_set_self hi] at e1; cases e1
    have n2 : i ≠ k := fun z => by
      subst z
      have hi : i < δ.length := by
        have := (List.getElem?_eq_some_iff.mp e2).1
        simpa using this
      rw [List.getElem?_set_self hi] at e2; cases e2
    rw [List.getElem?_set_ne n1] at e1 f1
    rw [List.getElem?_set_ne n2] at e2 f2
    exact R.er.inj j k c ds es e1 e2 f1 f2
end
def tsOf (K : PySem.W.Frag) (H0 : Hp) (cl : Nat → Addr) (h : BF) : TsX := fun a cls d D σ H => ∀ oe, L2N.Zn cls d oe → (∃ vs, oe.data = .fields vs) → tS ⟨K, cl, some (a, oe)⟩ (fun _ _ _ _ => False, H0) h D σ H
inductive HdsD (X : Cx) (cl : Nat → Addr) : List ExceptHandler → List (XT × Option Nat × BF) → List (Value × Option Nat × TsX) → Prop
  | nil : HdsD X cl [] [] []
  | cons {x : Str} {c : Value} {b₀ : Stmt} {suite : List Stmt} {np pos' : Pos} {hds : List ExceptHandler} {l : List (XT × Option Nat × BF)} {lA : List (Value × Option Nat × TsX)} {on : Option Str} {oi : Option Nat} {t : XT} {h : BF} (hc : Names X x c)
      (hn : match on, oi with
        | none, none => True
        | some n, some i => X.N[i]? = some n ∧ X.env.kindOf n = some .local
        | _, _ => False)
      (ht : ∀ C b, t C = some b → PySem.W.exmOne X.K (.ref (cl C)) c = some b)
      (hsu : ∀ (a : Addr) (oe : Obj) (pn : List (Addr × Obj)), L2H.HotC (X.suite a ((a, oe) :: pn)) → DB (X.suite a ((a, oe) :: pn)) cl (b₀ :: suite) h) (r : HdsD X cl hds l lA) :
      HdsD X cl (.ExceptHandler (some (.Name x np)) on (b₀ :: suite) pos' :: hds) ((t, oi, h) :: l) ((c, oi, tsOf X.K X.H_0 cl h) :: lA)
section
variable {X : Cx} {cl : Nat → Addr}
theorem HdsD.toA : ∀ {hds : List ExceptHandler} {l : List (XT × Option Nat × BF)} {lA : List (Value × Option Nat × TsX)}, HdsD X cl hds l lA → HdsA X hds lA
  | _, _, _, .nil => .nil
  | _, _, _, .cons hc hn ht hsu r => .cons hc hn (fun a oe cls d pn hz hv hot => (hsu a oe pn hot).p.weak fun D σ H q => by
      obtain ⟨O, ms, F, δ, μ, o, R, ev, hO, k⟩ := q oe hz hv
      exact ⟨O, ms, F, δ, μ, o, R, ev, hO, k.imp fun _ _ _ _ z => z.elim⟩) r.toA
theorem handle_run (hc : X.calm = true) : ∀ {hds : List ExceptHandler} {l : List (XT × Option Nat × BF)} {lA : List (Value × Option Nat × TsX)}, HdsD X cl hds l lA →
    ∀ {C : Nat} {f m : Str} {d : D} {O : Og} {ms : List Addr} {F H : Hp} {σ : L2.St} {δ : List SV} {μ : List MO} {o : Out} {E : Ends} {dx : Addr} {y : V}, handle l C f m d δ μ = some o → SR (gm X cl) O ms F H σ δ μ → O.H = X.H_0 → EndOk (gm X cl) (W0 X) O ms F E o →
      F dx = some (exd dx [(f, y)]) → Has (gm X cl) ms F y d → wMA X.K (W0 X).1 E lA (.ref (cl C)) (some dx) σ H := by
  have gX : gm X cl = ⟨X.K, cl, none⟩ := by show Gm.mk X.K cl (bif X.calm then none else X.pn.head?) = _; rw [hc]; rfl
  intro hds l lA hk
  induction hk with
  | nil =>
    intro C f m d O ms F H σ δ μ o D dx y ev R hO k hd hy
    cases ev
    exact k σ H ms F dx y R (Ext.refl _ _) hd hy
  | @cons x c b₀ suite np pos' hds l lA on oi t h hcn hn ht hsu r ih =>
    intro C f m d O ms F H σ δ μ o D dx y ev R hO k hd hy
    unfold handle at ev
    split at ev
    · rename_i etc
      refine ⟨true, ht C true etc, fun _ a ha => ?_, fun z => nomatch z⟩
      rw [gX] at R hy k
      cases oi with
      | none =>
        intro oe hz hv
        have e0 : ∃ o', h δ μ = some o' := by
          cases z : h δ μ with
          | none => simp only [inX, z, offOut] at ev; cases ev
          | some o' => exact ⟨o', rfl⟩
        obtain ⟨o', eh⟩ := e0
        simp only [inX, eh] at ev
        refine ⟨O, ms, F, δ, μ, o', R.toX, eh, hO, ?_⟩
        cases o' with
        | nx δ2 μ2 => cases ev; exact fun σ' H' ms' F' R' x => k σ' H' ms' F' R'.offX x
        | bk δ2 μ2 => cases ev; exact fun σ' H' ms' F' R' x => k σ' H' ms' F' R'.offX x
        | ct δ2 μ2 => cases ev; exact fun σ' H' ms' F' R' x => k σ' H' ms' F' R'.offX x
        | rt d2 μ2 => cases ev; exact fun v H' ms' F' r s q => k v H' ms' F' r.xp s q.xp
        | xc _ _ _ _ _ _ => cases ev
      | some i =>
        intro oe hz hv
        have e0 : ∃ o', h (δ.set i (.xv C f d)) μ = some o' := by
          cases z : h (δ.set i (.xv C f d)) μ with
          | none => simp only [inX, z, offOut] at ev; cases ev
          | some o' => exact ⟨o', rfl⟩
        obtain ⟨o', eh⟩ := e0
        simp only [inX, eh] at ev
        refine ⟨O, ms, F, _, μ, o', (R.toX (x := some (a, oe))).setX ⟨hz.zc, hv⟩ hd hy.xp i, eh, hO, ?_⟩
        cases o' with
        | nx δ2 μ2 => cases ev; exact fun σ' H' ms' F' R' x => k (σ'.set i none) H' ms' F' (R'.offX.drop i none) x
        | bk δ2 μ2 => cases ev; exact fun σ' H' ms' F' R' x => k (σ'.set i none) H' ms' F' (R'.offX.drop i none) x
        | ct δ2 μ2 => cases ev; exact fun σ' H' ms' F' R' x => k (σ'.set i none) H' ms' F' (R'.offX.drop i none) x
        | rt d2 μ2 => cases ev; exact fun v H' ms' F' r s q => k v H' ms' F' r.xp s q.xp
        | xc _ _ _ _ _ _ => cases ev
    · rename_i etc
      exact ⟨false, ht C false etc, (fun z => nomatch z), fun _ => ih ev R hO k hd hy⟩
    · cases ev
theorem ds_try {body : List Stmt} {h₀ : ExceptHandler} {hds : List ExceptHandler} {pos : Pos} {bd : BF} {l : List (XT × Option Nat × BF)} {lA : List (Value × Option Nat × TsX)} (hc : X.calm = true) (hs : X.stack = X.env :: X.outer) (hf : X.env.frame = some X.env.locals) (hN : X.N.Nodup)
    (hb : ∀ (pn : List (Addr × Obj)) (xe : Value → Shared → Prop), PassesOwn (model X.prog X.w) X.A X.env xe → DB (X.tr pn xe) cl body bd) (hh : HdsD X cl (h₀ :: hds) l lA) :
    DS X cl (.Try body (h₀ :: hds) [] [] pos) (bTry bd l) := by
  have gX : ∀ pn xe, gm (X.tr pn xe) cl = gm X cl := fun pn xe => by
    show Gm.mk X.K cl (bif X.calm then none else pn.head?) = Gm.mk X.K cl (bif X.calm then none else X.pn.head?)
    rw [hc]; rfl
  refine ⟨(ps_try_ma (tb := fun W => tS (gm X cl) (W, X.H_0) bd) hs hf hN takesW (fun W pn xe tk hp => ?_) hh.toA).weak fun D σ H ⟨O, ms, F, δ, μ, o, R, ev, hO, k⟩ => ?_⟩
  · have p := (hb pn xe hp).p
    rw [gX] at p
    refine p.weak fun D σ H ⟨O, ms, F, δ, μ, o, R, ev, hO, k⟩ => ⟨O, ms, F, δ, μ, o, R, ev, hO, k.imp fun c d σ H w => W0.of tk w⟩
  · unfold bTry at ev
    split at ev
    · rename_i C f m d δ' μ' e1
      refine ⟨O, ms, F, δ, μ, _, R, e1, hO, fun σ' H' ms' F' dx y R' x hd hy => ?_⟩
      exact handle_run hc hh ev R' hO (k.step x) hd hy
    · rename_i hno
      refine ⟨O, ms, F, δ, μ, o, R, ev, hO, ?_⟩
      cases o with
      | xc C f m d δ' μ' => exact absurd ev (hno C f m d δ' μ')
      | nx _ _ => exact k
      | bk _ _ => exact k
      | ct _ _ => exact k
      | rt _ _ => exact k
end
end G

set_option Elab.async false
set_option linter.all false
set_option autoImplicit false
set_option maxRecDepth 100000
set_option maxHeartbeats 4000000
namespace G
open PySem PySem.Spec PySem.Calls L2 PyProof.Rows L2H HotX
/-! ### a text's signs, walked while an exception is handled -/
section
variable {prog : Program} {w : World} {A : Around} {E : Value → Shared → Prop} {s : Shared}
theorem next_ascii_end_hot {it x1 : Addr} {x : Str} {t : Tok} {i : Nat} {Q : Option Value → Shared → Prop} (hot : HotAt A x1 s.heap) (hni : x1 ≠ it)
    (hit : s.heap.IsStrIter it "str_ascii_iterator" x t i) (hx : x.cps[i]? = none)
    (hQ : ∀ h', (∀ b o, b ≠ it → s.heap.get? b = some o → h'.get? b = some o) → Q none { s with heap := h' }) : wpAny (model prog w) A (pyNext (.ref it)) Q E s := by
  obtain ⟨o, ho, hc, hd⟩ := id hit
  obtain ⟨hh, o1, vs1, h1, d1, c1⟩ := hot
  unfold pyNext
  refine wpAny_bind (wpAny_attempt (wpAny_callSpecial?_slot (name := Str.ofString "__next__") hit.typeIs F.slot_str_ascii_iterator_next
    (wpAny_call_entry F.slot_str_ascii_iterator_next hit.typeIs F.entry_str_ascii_iterator_next ?_ (F.args_str_ascii_iterator_next_1 _))))
  show wpAny _ _ (field (.ref it) 0 >>= _) _ _ s
  refine wpAny_bind (wpAny_field ho hd (x := .str x t) rfl ?_)
  show wpAny _ _ (field (.ref it) 1 >>= _) _ _ s
  refine wpAny_bind (wpAny_field ho hd (x := .int i 0) rfl ?_)
  simp only [Int.toNat_natCast, hx]
  refine wpAny_bind (wpAny_rule (wpAny_bind (wpAny_setField ho hd (by simp) (wpAny_bind (wpAny_letGo ?_)))))
  have k0 : ∀ b u, b ≠ it → s.heap.get? b = some u → (s.heap.update it (Obj.mapFields (·.setIfInBounds 0 Value.none))).get? b = some u := fun b u hb e => (Heap.get?_update_other _ _ (Ne.symm hb)).trans e
  have h1' := k0 x1 o1 hni h1
  show wpAny _ _ (newExc (.type "StopIteration") [] >>= _) _ _ _
  refine wpAny_bind ?_
  simp only [newExc, newTuple]
  refine wpAny_bind (wpAny_newObj_type ?_ (by size_fits))
  refine wpAny_bind (m := firstArgMember _ _) (wpAny_of_eq (a := Value.none) (by first | rfl | (simp only [firstArgMember]; rfl)) ?_)
  refine wpAny_newObj_type ?_ (by size_fits)
  refine raiseNew_hot ⟨hh, o1, vs1, Heap.get?_push_of_some _ (Heap.get?_push_of_some _ h1'), d1, c1⟩ (Nat.ne_of_lt (Heap.lt_size (Heap.get?_push_of_some _ h1'))) (Heap.get?_push_size _ rfl) rfl (by first | (simp; done) | (simp; omega) | (simp only [Array.size_append]; simp; omega)) ?_
  refine wpAny_bind (wpAny_isInstance (T := "StopIteration") (b := true) ⟨_, Heap.get?_update_self _ (Heap.get?_push_size _ rfl) rfl, rfl⟩ isSubtype_stop ?_)
  refine wpAny_pure (hQ _ fun b u hb e => ?_)
  rw [Heap.get?_update_other _ _ (Nat.ne_of_gt (Heap.lt_size (Heap.get?_push_of_some _ (k0 b u hb e))))]
  exact Heap.get?_push_of_some _ (Heap.get?_push_of_some _ (k0 b u hb e))
theorem next_wide_end_hot {it x1 : Addr} {x : Str} {t : Tok} {i : Nat} {Q : Option Value → Shared → Prop} (hot : HotAt A x1 s.heap) (hni : x1 ≠ it)
    (hit : s.heap.IsStrIter it "str_iterator" x t i) (hx : x.cps[i]? = none)
    (hQ : ∀ h', (∀ b o, b ≠ it → s.heap.get? b = some o → h'.get? b = some o) → Q none { s with heap := h' }) : wpAny (model prog w) A (pyNext (.ref it)) Q E s := by
  obtain ⟨o, ho, hc, hd⟩ := id hit
  obtain ⟨hh, o1, vs1, h1, d1, c1⟩ := hot
  unfold pyNext
  refine wpAny_bind (wpAny_attempt (wpAny_callSpecial?_slot (name := Str.ofString "__next__") hit.typeIs F.slot_str_iterator_next
    (wpAny_call_entry F.slot_str_iterator_next hit.typeIs F.entry_str_iterator_next ?_ (F.args_str_iterator_next_1 _))))
  show wpAny _ _ (field (.ref it) 0 >>= _) _ _ s
  refine wpAny_bind (wpAny_field ho hd (x := .str x t) rfl ?_)
  show wpAny _ _ (field (.ref it) 1 >>= _) _ _ s
  refine wpAny_bind (wpAny_field ho hd (x := .int i 0) rfl ?_)
  simp only [Int.toNat_natCast, hx]
  refine wpAny_bind (wpAny_rule (wpAny_bind (wpAny_setField ho hd (by simp) (wpAny_bind (wpAny_letGo ?_)))))
  have k0 : ∀ b u, b ≠ it → s.heap.get? b = some u → (s.heap.update it (Obj.mapFields (·.setIfInBounds 0 Value.none))).get? b = some u := fun b u hb e => (Heap.get?_update_other _ _ (Ne.symm hb)).trans e
  have h1' := k0 x1 o1 hni h1
  show wpAny _ _ (newExc (.type "StopIteration") [] >>= _) _ _ _
  refine wpAny_bind ?_
  simp only [newExc, newTuple]
  refine wpAny_bind (wpAny_newObj_type ?_ (by size_fits))
  refine wpAny_bind (m := firstArgMember _ _) (wpAny_of_eq (a := Value.none) (by first | rfl | (simp only [firstArgMember]; rfl)) ?_)
  refine wpAny_newObj_type ?_ (by size_fits)
  refine raiseNew_hot ⟨hh, o1, vs1, Heap.get?_push_of_some _ (Heap.get?_push_of_some _ h1'), d1, c1⟩ (Nat.ne_of_lt (Heap.lt_size (Heap.get?_push_of_some _ h1'))) (Heap.get?_push_size _ rfl) rfl (by first | (simp; done) | (simp; omega) | (simp only [Array.size_append]; simp; omega)) ?_
  refine wpAny_bind (wpAny_isInstance (T := "StopIteration") (b := true) ⟨_, Heap.get?_update_self _ (Heap.get?_push_size _ rfl) rfl, rfl⟩ isSubtype_stop ?_)
  refine wpAny_pure (hQ _ fun b u hb e => ?_)
  rw [Heap.get?_update_other _ _ (Nat.ne_of_gt (Heap.lt_size (Heap.get?_push_of_some _ (k0 b u hb e))))]
  exact Heap.get?_push_of_some _ (Heap.get?_push_of_some _ (k0 b u hb e))
end
theorem hot_ne {X : Cx} {pins : List (Addr × Obj)} {σ : L2.St} {H : Hp} {s : Shared} (c : HotC X) (I : Inv X pins σ H s) {b : Addr} (f : FpOk X pins H b) : ∃ x1, HotAt X.A x1 s.heap ∧ x1 ≠ b := by
  obtain ⟨p, ⟨hh, v1, e1, c1⟩, hp⟩ := c
  exact ⟨p.1, ⟨hh, p.2, v1, (I.pin p (List.mem_append_left _ hp)).1, e1, c1⟩, f.2.2.2.2.2 p (List.mem_append_left _ hp)⟩
theorem turn_strH {P : Program} {w : World} {K : PySem.W.Frag} {tg : Expr} (it : Addr) (x : Str) (t : Tok) (ty : String) (hty : ty = "str_ascii_iterator" ∨ ty = "str_iterator") :
    TurnH P w K tg (Its x) [it] it (fun i h => h.IsStrIter it ty x t i) where
  mem := by simp
  obj := (turn_str (P := P) (w := w) (K := K) (tg := tg) it x t ty hty).obj
  keep := (turn_str (P := P) (w := w) (K := K) (tg := tg) it x t ty hty).keep
  item := by
    intro X hP hw hK hc i pins s σ H E I hf st hg
    subst hP hw hK
    obtain ⟨f0, f1, f2, f3, f4, f5⟩ := hf it (by simp)
    have hno : ["enumerate", "zip", "dict_itemiterator", "dict_reverseitemiterator", "odict_iterator", "itertools.zip_longest", "itertools.pairwise"].contains ty = false := by
      rcases hty with e | e
      · rw [e]; decide
      · rw [e]; decide
    have hx : x.cps[i]? = some x.cps[i] := Array.getElem?_eq_getElem hg
    have go : ∀ h' : Heap, h'.IsStrIter it ty x t (i + 1) → Heap.SameBut it s.heap h' → ∃ u, (some (Value.str ⟨#[x.cps[i]]⟩ s.toks)) = some u ∧ wpAny (model X.prog X.w) X.A (letOwnedTupleGo tg (.ref it) u) (fun _ s2 => ∃ x' H', Inv X pins σ H' s2 ∧ RelV x' u ∧ (Its x).yld i H x' H' ∧ s2.heap.IsStrIter it ty x t (i + 1) ∧ ∀ b ∈ [it], H' b = none) E { s with heap := h', toks := s.toks + 1 } := by
      intro h' st' sb
      have I1 : Inv X pins σ H { s with heap := h', toks := s.toks + 1 } := I.turned (fun b o hb e => (sb.2 b hb).trans e) f0 f1 f3 f4 f5
      obtain ⟨oi, e, cc, dd⟩ := id st'
      exact ⟨_, rfl, go_of (s := { s with heap := h', toks := s.toks + 1 }) e cc dd hno ⟨.str ⟨#[x.cps[i]]⟩, H, I1, ⟨s.toks, rfl⟩, ⟨rfl, x.cps[i], hx, rfl⟩, st', fun b hb => (hf b hb).1⟩⟩
    rcases hty with e | e
    · subst e; exact wpAny_pyNext_ascii_item st hx fun h' st' sb => go h' st' sb
    · subst e; exact wpAny_pyNext_wide_item st hx fun h' st' sb => go h' st' sb
  done := by
    intro X hP hw hK hc i pins s σ H E I hf st hg
    subst hP hw hK
    obtain ⟨x1, hot, hn⟩ := hot_ne hc I (hf it (by simp))
    obtain ⟨f0, f1, f2, f3, f4, f5⟩ := hf it (by simp)
    have hx : x.cps[i]? = none := Array.getElem?_eq_none hg
    rcases hty with e | e
    · rw [e] at st
      exact next_ascii_end_hot hot hn st hx fun h' eb => ⟨rfl, I.turned (t' := s.toks) (fun b o hb e => eb b o hb e) f0 f1 f3 f4 f5⟩
    · rw [e] at st
      exact next_wide_end_hot hot hn st hx fun h' eb => ⟨rfl, I.turned (t' := s.toks) (fun b o hb e => eb b o hb e) f0 f1 f3 f4 f5⟩
  self := (turn_str (P := P) (w := w) (K := K) (tg := tg) it x t ty hty).self
theorem pi_strH {X : Cx} {tg e : Expr} {te : TE} (he : PE X e te) : PIH X tg e (iStr te) := by
  refine ⟨fun pins s σ H R I h => ?_⟩
  refine thn (he.run pins s σ H _ I h) fun v s1 ⟨y, H1, I1, r1, x, ex, q⟩ => ?_
  subst ex
  obtain ⟨t, rfl⟩ := r1
  have one : ∀ (o : Obj) (ty : String), ty = "str_ascii_iterator" ∨ ty = "str_iterator" → (s1.heap.push o).IsStrIter s1.heap.objs.size ty x t 0 → PIEH X pins σ tg R (.ref s1.heap.objs.size) { s1 with heap := s1.heap.push o, toks := s1.toks } := fun o ty hty st => by
    refine ⟨s1.heap.objs.size, [s1.heap.objs.size], _, Its x, H1, rfl, I1.kept fun b ob e => Heap.get?_push_of_some _ e, turn_strH _ x t ty hty, st, fun b hb => ?_, q⟩
    have e : b = s1.heap.objs.size := by simpa using hb
    subst e
    exact I1.fpOk (Nat.le_refl _) (I1.hok.fresh (Nat.le_refl _))
  cases ha : x.cps.all (· < 128)
  · exact wpAny_pyIter_wide ha (one _ "str_iterator" (.inr rfl) ⟨_, Heap.get?_push_size _ rfl, rfl, rfl⟩)
  · exact wpAny_pyIter_ascii ha (one _ "str_ascii_iterator" (.inl rfl) ⟨_, Heap.get?_push_size _ rfl, rfl, rfl⟩)
/-! ### a comprehension there -/
abbrev _root_.L2.Cx.blkH (X : Cx) (s : Shared) (H : Hp) (scope : Scope) (cenv : Env) (fp : List Addr) : Cx := { X.blk s H scope cenv fp with pn := X.pn }
section
variable {X : Cx} {pins : List (Addr × Obj)} {σ : L2.St} {H : Hp} {s : Shared}
/-- a block's context bears what the def's bears -/
theorem blk_hot {scope : Scope} {own : List (Str × Nat)} {fp : List Addr} (I : Inv X pins σ H s) (ok : BlkOk X.N X.env.scope scope own) (hN : X.N.Nodup) (hfp : ∀ b ∈ fp, FpOk X pins H b ∧ b < s.heap.objs.size) :
    Inv (X.blkH s H scope (compEnvC scope (cellsFrom (s.heap.objs.size + 1) scope.names (cloFrom X.env.cells scope.names [])) s.heap.objs.size X.env) fp) [] (wipe σ (own.map (·.2))) H { s with heap := pushCells (s.heap.push { cls := .type "dict", data := .dict #[] }) scope.names } := by
  have J := block_start I ok hN hfp
  have o := J.ok
  refine ⟨⟨o.mod, o.kind, o.glob, o.blt, o.above, o.inj, o.has, o.cab, o.hd, o.frames, o.stk, o.exf, o.bs, o.bsz, o.noex, o.exfs, o.funs, o.frf⟩, J.os, J.bare, J.base, J.loc, J.cell, J.free, J.freeC, ?_, J.hok, J.len⟩
  intro p hp
  rw [List.append_nil] at hp
  obtain ⟨e, n, nl, nf, nc⟩ := I.pin p (List.mem_append_left _ hp)
  refine ⟨pushCells_keeps _ _ _ _ (Heap.get?_push_of_some _ e), n, Nat.ne_of_lt (Heap.lt_size e), fun hm => ?_, nc⟩
  rcases List.mem_cons.mp (I.stkSub p.1 hm) with z | z
  · exact nl z
  · exact nf z
variable {elt tg iter : Expr} {ifs : List Expr} {scope : Scope} {pos : Pos} {g : TG} {tt : TT} {te : TE} {vs : List Nat} {Q : VK}
/-- the block's loop, in the block's own context Y -/
theorem hot_loop {Y : Cx} {it D : Addr} {fp : List Addr} {tn : Nat → Heap → Prop} {J : It} {R : Result → Shared → Prop} {W : Nat → Nat → Hp → Prop} {m : Nat} (hY : Y.ex = fp) (hot : HotC Y) (apart : ∀ b ∈ fp, ∀ p ∈ Y.pn, p.1 ≠ b) (T : TurnH Y.prog Y.w Y.K tg J fp it tn)
    (pg : PG Y tg g) (pt : PTs Y ifs tt) (pe : PE Y elt te) (hx : Y.xe = fun _ _ => False)
    (turn : ∀ i m H, W i m H → (J.stop i H ∧ Q (.ref D) H) ∨ (J.go i H ∧ ∃ Nx : Hp → Prop, (∀ H', Nx H' → ∃ m', m' < m ∧ W (i + 1) m' H') ∧ ∀ x H', J.yld i H x H' → g x (wipe σ vs) H' fun σ2 H2 => wipe σ2 vs = wipe σ vs ∧ tt σ2 H2 fun b H3 =>
      if b = true then te σ2 H3 fun y H4 => ∃ acc, H4 D = some (.lst acc) ∧ acc.length < sizeLine ∧ Nx (upd H4 D (.lst (acc ++ [y]))) else Nx H3))
    (out : ∀ s' H', Inv Y [] (wipe σ vs) H' s' → Q (.ref D) H' → R (.ok .next) s') (I : Inv Y [] (wipe σ vs) H s) (st : tn 0 s.heap) (fr : ∀ b ∈ fp, H b = none) (w : W 0 m H) :
    codeAny (model Y.prog Y.w) Y.A (.compLoop (.ListComp elt [⟨tg, iter, ifs, 0⟩] scope pos) 0 (.ref it) (.ref D) Y.env) R s := by
  have free : ∀ {σ' : L2.St} {H' : Hp} {s' : Shared}, Inv Y [] σ' H' s' → (∀ b ∈ fp, H' b = none) → ∀ b ∈ fp, FpOk Y [] H' b := by
    intro σ' H' s' I' n b hb
    have hb' : b ∈ Y.ex := by rw [hY]; exact hb
    exact ⟨n b hb, (I'.ok.exf b hb').1, I'.ok.exfs b hb', .inl hb', fun x c e => (I'.ok.exf b hb').2 x c e, fun p hp => apart b hb p (by simpa using hp)⟩
  refine compLoop_any (fun k s' => ∃ i H', Inv Y [] (wipe σ vs) H' s' ∧ tn i s'.heap ∧ (∀ b ∈ fp, H' b = none) ∧ W i k H') ?_ m ⟨0, H, I, st, fr, w⟩
  rintro k s1 ⟨i, H1, I1, st1, fr1, w1⟩
  have nev : ∀ {α : Type} {t : Sem α} {P P' : α → Shared → Prop} {E : Value → Shared → Prop} {s' : Shared}, wpAny (model Y.prog Y.w) Y.A t P Y.xe s' → (∀ a z, P a z → P' a z) → wpAny (model Y.prog Y.w) Y.A t P' E s' := fun q k => by
    rw [hx] at q
    exact thnF q k
  rcases turn i k H1 w1 with ⟨stop, q⟩ | ⟨go, Nx, less, step⟩
  · refine thnF (T.done Y rfl rfl rfl hot i [] s1 _ H1 (fun _ _ => False) I1 (free I1 fr1) st1 stop) fun r s2 hr => ?_
    rw [hr.1]
    exact out s2 H1 hr.2 q
  refine thnF (T.item Y rfl rfl rfl hot i [] s1 _ H1 (fun _ _ => False) I1 (free I1 fr1) st1 go) fun r s2 hr => ?_
  obtain ⟨u, rfl, h2⟩ := hr
  refine thnF h2 fun _ s3 ⟨x, H3, I3, rx, y3, st3, fr3⟩ => ?_
  -- the iterator's objects are pinned while the item is worked on
  have P3 := I3.pinned (free I3 fr3) (T.obj _ _ st3)
  have back : ∀ {s' : Shared} {σ' : L2.St} {H' : Hp}, Inv Y ([] ++ pinsAt fp s3.heap) σ' H' s' → wipe σ' vs = wipe σ vs → Nx H' → ∃ k', k' < k ∧ ∃ i H', Inv Y [] (wipe σ vs) H' s' ∧ tn i s'.heap ∧ (∀ b ∈ fp, H' b = none) ∧ W i k' H' := by
    intro s' σ' H' I' ew nx
    obtain ⟨k', lt, w'⟩ := less H' nx
    have at_ : ∀ b ∈ fp, ∀ o, s3.heap.get? b = some o → s'.heap.get? b = some o ∧ H' b = none := fun b hb o e => by
      have z := I'.pin (b, o) (List.mem_append_right _ (List.mem_append_right _ (mem_pinsAt hb e)))
      exact ⟨z.1, z.2.1⟩
    refine ⟨k', lt, i + 1, H', (I'.unpinned (pins := [])).weak (by rw [← ew, wipe_length]) fun j v e => ?_, T.keep _ _ _ st3 fun b hb o e => (at_ b hb o e).1, fun b hb => ?_, w'⟩
    · rw [← ew] at e
      exact (wipe_some e).1
    · obtain ⟨o, e, _⟩ := T.obj _ _ st3 b hb
      exact (at_ b hb o e).2
  refine nev (pg.run _ s3 _ H3 x u _ P3 rx (step x H3 y3)) fun _ s4 ⟨σ4, H4, I4, ew, q4⟩ => ?_
  refine nev (pt.run _ s4 σ4 H4 _ I4 q4) fun b s5 ⟨H5, I5, q5⟩ => ?_
  cases b with
  | false =>
    simp only [Bool.false_eq_true, if_false] at q5 ⊢
    exact back I5 ew q5
  | true =>
    simp only [if_true] at q5 ⊢
    refine nev (pe.run _ s5 σ4 H5 _ I5 q5) fun z s6 ⟨yv, H6, I6, rz, acc, hD, hz, nx⟩ => ?_
    exact app_ok I6 hD hz rz fun s7 I7 => back I7 ew nx
/-- [elt for tg in iter if ..] where an exception is handled -/
theorem pe_lcH {own : List (Str × Nat)} {wi : TI} (hot : HotC X) (hN : X.N.Nodup) (hi : PIH X tg iter wi) (ok : BlkOk X.N X.env.scope scope own)
    (hg : ∀ (s : Shared) (H : Hp) (C : Addr) (cl : List (Str × Addr)) (fp : List Addr), PG (X.blkH s H scope (compEnvC scope cl C X.env) fp) tg g) (ht : ∀ (s : Shared) (H : Hp) (C : Addr) (cl : List (Str × Addr)) (fp : List Addr), PTs (X.blkH s H scope (compEnvC scope cl C X.env) fp) ifs tt)
    (he : ∀ (s : Shared) (H : Hp) (C : Addr) (cl : List (Str × Addr)) (fp : List Addr), PE (X.blkH s H scope (compEnvC scope cl C X.env) fp) elt te) (hs : ∀ x, foldedSetIterable iter X.env x = pure x := by intro _; rfl) :
    PE X (.ListComp elt [⟨tg, iter, ifs, 0⟩] scope pos) (tLc wi g tt te (own.map (·.2))) := by
  constructor
  intro pins s σ H Q I h
  rw [eval_ListComp]
  have captured : ∀ y ∈ scope.names, y.2 = .free → ∃ c, X.env.cells.lookup y.1 = some c := fun y hy e => I.ok.has _ (ok.free y hy e)
  refine wpAny_comprehension_free rfl hs (closure_ok captured) ok.kind (fun y hy e => by rw [ok.uniq y hy, e]) (thn (hi.run pins s σ H _ I h) fun _ s1 q1 => thn q1 fun itv s2 q2 => ?_)
  obtain ⟨it, fp, tn, J, H2, rfl, I2, T, st2, fp2, q⟩ := q2
  refine wpAny_newObj_type (newEnv_comp ?_) (by show 0 ≤ sizeLine; decide)
  have fresh : H2 s2.heap.objs.size = none := I2.hok.fresh (Nat.le_refl _)
  obtain ⟨W, ⟨m, w⟩, turn⟩ := q s2.heap.objs.size fresh
  let L : Obj := { cls := .type "list", data := .seq ([] : List Value).toArray }
  have grown : ∀ b o, s2.heap.get? b = some o → (s2.heap.push L).get? b = some o := fun b o e => Heap.get?_push_of_some _ e
  have I3 : Inv X pins σ (upd H2 s2.heap.objs.size (.lst [])) { s2 with heap := s2.heap.push L } := I2.laid (t' := s2.toks) grown (Nat.le_refl _) ⟨Nat.zero_le _, [], 0, .nil, Heap.get?_push_size _ rfl⟩
  have fp3 : ∀ b ∈ fp, FpOk X pins (upd H2 s2.heap.objs.size (.lst [])) b ∧ b < (s2.heap.push L).objs.size := fun b hb => by
    obtain ⟨o, e, _⟩ := T.obj _ _ st2 b hb
    have lt := Heap.lt_size e
    refine ⟨⟨?_, (fp2 b hb).2⟩, by rw [Heap.size_push]; exact Nat.lt_succ_of_lt lt⟩
    rw [upd_ne (Nat.ne_of_lt lt)]
    exact (fp2 b hb).1
  have I4 := blk_hot I3 ok hN fp3
  have st4 : tn 0 (pushCells ((s2.heap.push L).push { cls := .type "dict", data := .dict #[] }) scope.names) := T.keep _ _ _ st2 fun b _ o e => pushCells_keeps _ _ _ _ (Heap.get?_push_of_some _ (grown b o e))
  have loop := hot_loop (Y := X.blkH { s2 with heap := s2.heap.push L } (upd H2 s2.heap.objs.size (.lst [])) scope (compEnvC scope (cellsFrom ((s2.heap.push L).objs.size + 1) scope.names (cloFrom X.env.cells scope.names [])) (s2.heap.push L).objs.size X.env) fp) (iter := iter) (scope := scope) (pos := pos)
    (R := compPost (model X.prog X.w) X.A X.xe none (EP X pins σ Q) (.ref s2.heap.objs.size) (s2.heap.push L).objs.size) rfl hot (fun b hb p hp => (fp3 b hb).1.2.2.2.2.2 p (List.mem_append_left _ hp)) T (hg _ _ _ _ _) (ht _ _ _ _ _) (he _ _ _ _ _) rfl turn
    (fun s5 H5 I5 q5 => ?_) I4 st4 (fun b hb => (fp3 b hb).1.1) w
  · exact codeAny_compStart_list loop (T.self X.A 0 _ _ _ st4 loop)
  · have I6 : Inv X pins σ H5 s5 := I3.call' (ch := fp) I5.os I5.base I5.hok I5.bare fun b hb => ⟨(fp3 b hb).1.2.2.2.1, (fp3 b hb).1.2.1, (fp3 b hb).1.2.2.2.2.1, (fp3 b hb).1.2.2.2.2.2⟩
    have nC : H5 (s2.heap.push L).objs.size = none := I5.free
    obtain ⟨mm, hn, _⟩ := I5.loc
    obtain ⟨f0, f1, f2, f3, f4, f5⟩ := I3.fpOk (H' := H5) (Nat.le_refl _) nC
    exact ⟨mm, hn, fun h6 sb => ⟨.ref s2.heap.objs.size, H5, I6.turned (t' := s5.toks) (fun b o hb e => (sb.2 b hb).trans e) f0 f1 f3 f4 f5, rfl, q5⟩⟩
end
end G

set_option Elab.async false
set_option linter.all false
set_option autoImplicit false
set_option maxRecDepth 100000
set_option maxHeartbeats 2000000
namespace G
open PySem PySem.Spec PySem.Calls L2
section
variable {X : Cx} {cl : Nat → Addr} {a b c e o : Expr} {es : List Expr} {fe fa fb fc : EF} {pos p pos' : Pos} {r : AF}
/-! ### the caught exception, by its slot -/
theorem xv_at {Γ : Gm} {O : Og} {ms : List Addr} {F H : Hp} {σ : L2.St} {δ : List SV} {μ : List MO} {i C : Nat} {f : Str} {d : D} (R : SR Γ O ms F H σ δ μ) (e : δ[i]? = some (.xv C f d)) :
    ∃ a oe dx y, Γ.xp = some (a, oe) ∧ σ[i]? = some (some (.ref a)) ∧ Zc (.ref (Γ.cl C)) (some dx) oe ∧ (∃ vs, oe.data = .fields vs) ∧ F dx = some (exd dx [(f, y)]) ∧ Has Γ ms F y d := by
  obtain ⟨a, oe, dx, y, e1, e2, e3, e4, e5⟩ := R.er.ok i _ e
  exact ⟨a, oe, dx, y, e1, e2, e3.1, e3.2, e4, e5⟩
theorem xp_pin {a : Addr} {oe : Obj} (h : (gm X cl).xp = some (a, oe)) : (a, oe) ∈ X.pn := by
  have h : (bif X.calm then none else X.pn.head?) = some (a, oe) := h
  cases hc : X.calm with
  | true => rw [hc] at h; cases h
  | false => rw [hc] at h; exact List.mem_of_head? h
/-- err.f -/
def eXf (i : Nat) (n : Str) (okC : Nat → Bool) : EF := fun δ μ => match δ[i]? with
  | some (.xv C f d) => if f = n ∧ okC C = true then some (d, μ) else none
  | _ => none
theorem de_xf {i : Nat} {n : Str} {okC : Nat → Bool} (hv : PE X e (tVar i)) (hok : ∀ C, okC C = true → XfC X.K (cl C) ∧ PySem.W.findIn X.K (.ref (cl C)) n = some none) (hb : attributeBase e n X.env (eval e X.env) = eval e X.env := by rfl) :
    DE X cl (.Attribute e n pos) (eXf i n okC) := by
  constructor
  constructor
  rintro pins s σ H Q I ⟨O, ms, F, δ, μ, d, μ', R, ev, k⟩
  unfold eXf at ev
  split at ev
  · rename_i C f d' hd
    split at ev
    · rename_i hcond
      obtain ⟨rfl, hC⟩ := hcond
      cases ev
      obtain ⟨a, oe, dx, y, e1, e2, e3, ⟨vs, e3'⟩, e4, e5⟩ := xv_at R hd
      obtain ⟨T, hno⟩ := hok C hC
      refine attr_of hb (thn (hv.run pins s σ H (fun v H1 => v = .ref a ∧ H1 = H) I ⟨_, e2, rfl, rfl⟩) fun u s1 ⟨x, H1, I1, rx, ex, eH⟩ => ?_)
      subst ex; subst eH
      obtain rfl : u = Value.ref a := rx
      obtain ⟨ha, _⟩ := I1.pin (a, oe) (List.mem_append_left _ (xp_pin e1))
      obtain ⟨mA, hns, hr⟩ := exd_at I1.hok (R.hr.sub _ _ e4)
      obtain ⟨od, ho, hl⟩ := lookIn_ns hns
      obtain ⟨u, hu, ru⟩ := RelO.some_of (v := y) (o := mA f) (by have := hr f; simpa using this)
      have J : PySem.W.InstAt s1.heap a oe (cl C) (some od) := ⟨ha, e3.1, by unfold PySem.W.notCls; rw [e3'] <;> rfl, by rw [e3.2]; exact ho⟩
      exact HandSPX.exc_get I1.kIn J T.ga T.gg T.exC (PySem.W.findObj_own T.hdC hno rfl (by rw [hl, hu])) (handed_of ru) ⟨y, H1, I1.tok _, ru, k y H1 ms F R.hr (Stp.refl _ _ _) e5⟩
    · cases ev
  · cases ev
/-- isinstance(err, C), isinstance(err, (C, D)) -/
def eXis (i : Nat) (kit : Nat → D → Option Bool) (fc : EF) : EF := fun δ μ => match δ[i]? with
  | some (.xv C f d) => match fc δ μ with
    | some (dc, μ1) => match kit C dc with
      | some b => some (.bl b, μ1)
      | none => none
    | none => none
  | _ => none
def clsD : List D → Option (List Nat)
  | [] => some []
  | .cls n :: ds => match clsD ds with
    | some ns => some (n :: ns)
    | none => none
  | _ => none
theorem clsD_ok {Γ : Gm} {ms : List Addr} {F : Hp} : ∀ {ds : List D} {ns : List Nat} {vs : List V}, clsD ds = some ns → HasL Γ ms F vs ds → vs = ns.map fun n => V.ref (Γ.cl n)
  | [], bs, vs, e, h => by cases e; cases h; rfl
  | d :: ds, bs, vs, e, ⟨w, ws, hv, h1, h2⟩ => by
    subst hv
    cases d with
    | cls b =>
      unfold clsD at e
      split at e
      · rename_i bs' e'
        cases e
        rw [show w = .ref (Γ.cl b) from h1, clsD_ok e' h2]; rfl
      · cases e
    | _ => cases e
theorem pairCls (cl : Nat → Addr) : ∀ ns : List Nat, Paired ClsV (ns.map fun n => V.ref (cl n)) (ns.map fun n => Value.ref (cl n))
  | [] => .nil
  | n :: ns => .cons (.own (cl n)) (pairCls cl ns)
def kitOr (kit : Nat → Nat → Option Bool) (C : Nat) : List Nat → Option Bool
  | [] => some false
  | n :: ns => match kit C n with
    | some true => some true
    | some false => kitOr kit C ns
    | none => none
theorem kitOr_ok {K : PySem.W.Frag} {kit : Nat → Nat → Option Bool} {C : Nat} (hk : ∀ n b, kit C n = some b → PySem.W.kitOne K (.ref (cl C)) (.ref (cl n)) = some b) : ∀ {ns : List Nat} {b : Bool}, kitOr kit C ns = some b → PySem.W.kitAny K (.ref (cl C)) (ns.map fun n => Value.ref (cl n)) = some b
  | [], b, h => by cases h; rfl
  | n :: ns, b, h => by
    unfold kitOr at h
    show PySem.W.kitAny K (.ref (cl C)) (Value.ref (cl n) :: ns.map _) = some b
    unfold PySem.W.kitAny
    split at h
    · rename_i e; cases h; rw [hk n _ e]
    · rename_i e; rw [hk n _ e]; exact kitOr_ok hk h
    · cases h
/-- of a class, or of a tuple of them -/
def kitX (kit : Nat → Nat → Option Bool) (C : Nat) : D → Option Bool
  | .cls n => kit C n
  | .tup ds => match clsD ds with
    | some (n :: ns) => kitOr kit C (n :: ns)
    | _ => none
  | _ => none
theorem de_xis {i : Nat} {kit : Nat → Nat → Option Bool} (hg : Gl X "isinstance") (hm : X.mg "isinstance" = none) (hv : PE X e (tVar i)) (hc : DE X cl c fc)
    (hk : ∀ C n b, kit C n = some b → L2.ExcC X.K (cl C) ∧ PySem.W.kitOne X.K (.ref (cl C)) (.ref (cl n)) = some b)
    (he : starEach (e :: [c]) X.env = (false, eval e X.env) :: starEach [c] X.env := by rfl) (he2 : starEach (c :: []) X.env = (false, eval c X.env) :: starEach [] X.env := by rfl) (hpl : (backTo pos (starEach [c] X.env)).any (·.1) = false := by rfl) :
    DE X cl (.Call (.Name "isinstance" p) [e, c] [] pos) (eXis i (kitX kit) fc) := by
  -- the rule of the call, over this context's pin
  have rule : CallR X (.builtin "isinstance") (fun xs H Q => ∃ (a : Addr) (oe : Obj) (C : Nat) (dx : Addr) (fs : List (Str × V)) (w : V) (bb : Bool), (a, oe) ∈ X.pn ∧ xs = [.ref a, w] ∧ Zc (.ref (cl C)) (some dx) oe ∧ (∃ vs, oe.data = .fields vs) ∧ H dx = some (exd dx fs) ∧ L2.ExcC X.K (cl C) ∧
      ((∃ n, w = .ref (cl n) ∧ PySem.W.kitOne X.K (.ref (cl C)) (.ref (cl n)) = some bb) ∨ (∃ (tp : Addr) (ns : List Nat), w = .ref tp ∧ Tp X.K H tp (ns.map fun n => V.ref (cl n)) ∧ PySem.W.kitAny X.K (.ref (cl C)) (ns.map fun n => Value.ref (cl n)) = some bb)) ∧ Q (.bl bb) H) := by
    intro pins s σ H xs us Q I rv h
    obtain ⟨a, oe, C, dx, fs, w, bb, hp, rfl, hz, ⟨vs, hf⟩, hd, T, hw, q⟩ := h
    obtain ⟨u1, u2, rfl, r1, r2⟩ := vals2 rv
    obtain rfl : u1 = Value.ref a := r1
    obtain ⟨hget, _⟩ := I.pin (a, oe) (List.mem_append_left _ hp)
    obtain ⟨od, h2⟩ := (I.hok dx _ hd).2.1
    have J : ∃ ox od, PySem.W.InstAt s.heap a ox (cl C) (some od) := ⟨oe, od, hget, hz.1, by unfold PySem.W.notCls; rw [hf] <;> rfl, by rw [hz.2]; exact h2⟩
    rcases hw with ⟨n, rfl, e⟩ | ⟨tp, ns, rfl, ht, e⟩
    · obtain rfl : u2 = Value.ref (cl n) := r2
      exact PySem.W.kia_one (kitx_exc T) I.kIn J e (fun z => nomatch z) fun tk => ⟨.bl bb, H, I.tok tk, rfl, q⟩
    · obtain rfl : u2 = Value.ref tp := r2
      have done : ∀ {ob : Obj} {its : List Value} {n : Nat}, s.heap.get? tp = some ob → ob.cls = .type "tuple" → ob.data = .seq its.toArray n → Vals (ns.map fun n => V.ref (cl n)) its → wpAny (model X.prog X.w) X.A (call (.builtin "isinstance") [.ref a, .ref tp]) (EP X pins σ Q) X.xe s := fun {ob its n} h1 h3 h4 rvs => by
        have e3 := ClsV.all (pairCls cl ns) rvs
        subst e3
        obtain ⟨oc, od', dt, sl⟩ := ob
        dsimp only at h3 h4
        subst h3; subst h4
        exact PySem.W.kia_tup (kitx_exc T) I.kIn J h1 e (fun z => nomatch z) fun tk => ⟨.bl bb, H, I.tok tk, rfl, q⟩
      rcases ht with ht | ⟨ob, its, n, hl, hcl, hd2, _, rvs⟩
      · obtain ⟨_, its, rvs, ob, h1, h3, n, h4⟩ := I.hok tp _ ht
        exact done h1 h3 h4 rvs
      · exact done (I.kIn _ _ hl) hcl (by rw [hd2]) (by simpa using rvs)
  refine ⟨(pe_callB rule hg hm (by decide +kernel) (pa_cons hv (pa_cons hc.p pa_nil he2) he) (by decide) (by decide) he hpl).weak fun σ H Q ⟨O, ms, F, δ, μ, d, μ', R, ev, k⟩ => ?_⟩
  unfold eXis at ev
  split at ev
  · rename_i C f d' hd
    split at ev
    · rename_i dc μ1 e1
      split at ev
      · rename_i bb hkit
        cases ev
        obtain ⟨a, oe, dx, y, x1, x2, x3, x3', x4, x5⟩ := xv_at R hd
        refine ⟨_, x2, ?_⟩
        refine tE.seq R e1 fun w H1 ms1 F1 R1 s1 q1 => ?_
        have hdx := R1.hr.sub _ _ (s1.fsub _ _ x4)
        refine ⟨a, oe, C, dx, _, w, bb, xp_pin x1, rfl, x3, x3', hdx, ?_⟩
        unfold kitX at hkit
        split at hkit
        · rename_i n
          obtain ⟨T, e⟩ := hk C n bb hkit
          exact ⟨T, .inl ⟨n, q1, e⟩, k _ H1 ms1 F1 R1.hr s1 rfl⟩
        · rename_i ds
          split at hkit
          · rename_i n0 ns hns
            obtain ⟨tp, xs, rfl, hs, hl⟩ := q1
            have e := clsD_ok hns hl
            subst e
            have any : PySem.W.kitAny X.K (.ref (cl C)) ((n0 :: ns).map fun n => Value.ref (cl n)) = some bb := kitOr_ok (fun n b h => (hk C n b h).2) hkit
            have T : L2.ExcC X.K (cl C) := by
              unfold kitOr at hkit
              split at hkit
              · rename_i z; exact (hk C n0 _ z).1
              · rename_i z; exact (hk C n0 _ z).1
              · cases hkit
            exact ⟨T, .inr ⟨tp, n0 :: ns, rfl, Tp.same R1.hr.sub hs, any⟩, k _ H1 ms1 F1 R1.hr s1 rfl⟩
          · cases hkit
        · cases hkit
      · cases ev
    · cases ev
  · cases ev
end
end G

set_option Elab.async false
set_option linter.all false
set_option autoImplicit false
set_option maxRecDepth 100000
set_option maxHeartbeats 2000000
namespace G
open PySem PySem.Spec PySem.Calls L2 L2H
/-! ### own functions, called where an exception is handled -/
theorem _root_.L2H.RoomH.un65 {k : Nat} {A : Around} (r : RoomH k A) : A.units + 65 < cLine := by have := r.un; omega
theorem _root_.L2H.RoomH.units {k : Nat} {A : Around} (r : RoomH k A) : A.units + 64 < cLine := by have := r.un; omega
theorem roomH_suite {X : Cx} {k : Nat} {a : Addr} {pn : List (Addr × Obj)} (r : Room k X.A) : RoomH k (X.suite a pn).A := ⟨r.dp, r.un⟩
theorem pass0A {X : Cx} {E : L2.St → XK} : ∀ σ, PassesAt CX0 X σ (E σ) := fun _ _ _ _ _ _ _ h => h.elim
section
variable {P : Program} {w : World} {K : PySem.W.Frag} {mg : Str → Option Value} {base : Heap} {cl : Nat → Addr}
theorem fnH_ok {x qual : Str} {st : Stmt} {f : Addr} {fd : FuncData} {N ps : List Str} {k n : Nat} {body : BF} (F : Fun K x qual st f fd) (S : FnScope N ps (defScope st)) (hn : ps.length = n)
    (hB : ∀ (cdv : Value) (A : Around) (outer : List Env) (s : Shared) (H : Hp) (E : XK) (p : Addr × Obj), HotC (cxH CX0 P w K mg base N qual (defScope st) f cdv A outer s H E p) → RoomH k (A.deeper (PyProof.Rows.envOfC qual (defScope st) s.heap.objs.size f cdv)) →
      DB (cxH CX0 P w K mg base N qual (defScope st) f cdv A outer s H E p) cl (defBody st) body) : FnH P w K mg base CX0 (k + 1) f fd ps (spF (gk K cl) n (runB N.length body)) := by
  obtain ⟨oc, od, kV, doc, pm, an, cdv, ct, osl, rfl, lk, hcd⟩ := F.ex
  refine fn_ofH lk hcd S (fun vs H Q E h => ?_) fun A outer s H vs Q E p hot hr h => ?_
  · obtain ⟨ms, F, ds, μ, d, μ', r, q, hl, _⟩ := h
    rw [q.length, hl, hn]
  · have hotC : HotC (cxH CX0 P w K mg base N qual (defScope st) f cdv A outer s H E p) := ⟨p, hot, List.mem_cons_self⟩
    refine ⟨tS ⟨K, cl, some p⟩ (W0 (cxH CX0 P w K mg base N qual (defScope st) f cdv A outer s H E p)) body, (hB cdv A outer s H E p hotC hr).p, ?_⟩
    obtain ⟨ms, F, ds, μ, d, μ', r, q, hl, ev, k⟩ := h
    have st0 : SR ⟨K, cl, some p⟩ ⟨ms, F, H⟩ ms F H (L2.start N vs) (startD N.length ds) μ := SR.start r.xp q.xp
    unfold runB at ev
    split at ev
    · rename_i δ' μ2 e
      cases ev
      exact ⟨⟨ms, F, H⟩, ms, F, _, μ, _, st0, e, rfl, fun σ' H' ms' F' R' x => k .non H' ms' F' R'.hr.xp R'.st rfl⟩
    · rename_i d' μ2 e
      cases ev
      exact ⟨⟨ms, F, H⟩, ms, F, _, μ, _, st0, e, rfl, fun v H' ms' F' r' s' q' => k v H' ms' F' r'.xp s' q'.xp⟩
    · cases ev
end
section
variable {X : Cx} {cl : Nat → Addr} {e : Expr} {es : List Expr} {pos p : Pos} {r : AF} {k n : Nat} {f : Addr} {fd : FuncData} {ps : List Str} {fn : FF} {x : Str}
theorem de_callH (Gf : FnH X.prog X.w X.K X.mg X.base CX0 k f fd ps (spF (gk X.K cl) n fn)) (hot : HotC X) (hr : RoomH k X.A) (hg : Gl X x) (hm : X.mg x = some (.ref f)) (hk : PySem.W.keepIn X.K (.ref f) = true) (hb : Binds X.K fd ps [])
    (hn : (e :: es).length = n)
    (ha : DA X cl (e :: es) r) (hra : ∀ δ μ xs μ1, r δ μ = some (xs, μ1) → xs.length = (e :: es).length) (hdb : (x == ("__debug__" : Str)) = false := by decide) (he : starEach (e :: es) X.env = (false, eval e X.env) :: starEach es X.env := by rfl) (hpl : (backTo pos (starEach es X.env)).any (·.1) = false := by rfl) :
    DE X cl (.Call (.Name x p) (e :: es) [] pos) (eFn fn [] r) := ⟨(pe_callH (E := fun _ => E0) Gf hr hot hg hm hk hb (fun σ => pass0A (E := fun _ => E0) σ) ha.p hdb he hpl).weak fun σ H Q ⟨O, ms, F, δ, μ, d, μ', R, ev, k⟩ => by
  obtain ⟨xs, μ1, e1, ev⟩ := aThen_some ev
  refine tA.seq R e1 fun vs H1 ms1 F1 R1 s1 q1 => ?_
  refine ⟨ms1, F1, xs, μ1, d, μ', R1.hr.xp, q1.xp, by rw [hra _ _ _ _ e1]; exact hn, by rw [List.append_nil] at ev; exact ev, fun v H' ms' F' r s q => k v H' ms' F' r.xp (s1.trans' R1.hr s) q.xp⟩⟩
/-! ### a comprehension there -/
structure DIH (X : Cx) (cl : Nat → Addr) (tg e : Expr) (f : IF) : Prop where
  p : PIH X tg e (tI (gm X cl) f)
theorem _root_.L2H.PIH.weak {X : Cx} {tg e : Expr} {t t' : TI} (h : PIH X tg e t) (k : ∀ σ H R, t' σ H R → t σ H R) : PIH X tg e t' := ⟨fun pins s σ H R I q => h.run pins s σ H R I (k σ H R q)⟩
theorem dih_str {tg : Expr} {fe : EF} (h : DE X cl e fe) : DIH X cl tg e (iS fe) := ⟨(pi_strH h.p).weak fun σ H R ⟨O, ms, F, δ, μ, ds, μ', S, ev, k⟩ => by
  obtain ⟨d1, μ1, e1, ev⟩ := eThen_some ev
  refine tE.seq S e1 fun v H1 ms1 F1 R1 s1 q1 => ?_
  split at ev
  · cases ev
    exact ⟨_, q1, k _ H1 ms1 F1 R1.hr s1 (yld_str _)⟩
  · cases ev⟩
theorem dn_lcH {elt tg iter : Expr} {ifs : List Expr} {scope : Scope} {own : List (Str × Nat)} {pos : Pos} {fi : IF} {g : GF} {tt : TF} {te : EF} {ix : List Nat} (hot : HotC X) (hN : X.N.Nodup) (hi : DIH X cl tg iter fi) (ok : BlkOk X.N X.env.scope scope own)
    (hg : ∀ (s : Shared) (H : Hp) (C : Addr) (cls : List (Str × Addr)) (fp : List Addr), DG (X.blkH s H scope (compEnvC scope cls C X.env) fp) cl tg g ix) (ht : ∀ (s : Shared) (H : Hp) (C : Addr) (cls : List (Str × Addr)) (fp : List Addr), DTs (X.blkH s H scope (compEnvC scope cls C X.env) fp) cl ifs tt)
    (he : ∀ (s : Shared) (H : Hp) (C : Addr) (cls : List (Str × Addr)) (fp : List Addr), DE (X.blkH s H scope (compEnvC scope cls C X.env) fp) cl elt te) (hix : ∀ j ∈ ix, j ∈ own.map (·.2) := by decide) (hs : ∀ x, foldedSetIterable iter X.env x = pure x := by intro _; rfl) :
    DN X cl (.ListComp elt [⟨tg, iter, ifs, 0⟩] scope pos) (nLc fi g tt te (own.map (·.2))) := ⟨(pe_lcH hot hN hi.p ok (g := tG (gm X cl) g ix) (tt := tT (gm X cl) tt) (te := tE (gm X cl) te) (fun s H C cls fp => (hg s H C cls fp).p) (fun s H C cls fp => (ht s H C cls fp).p) (fun s H C cls fp => (he s H C cls fp).p) hs).weak fun σ H Q h => lc_run hix h⟩
/-- an own class as a value -/
theorem de_cls {C : Nat} (hg : Gl X x) (h : X.mg x = some (.ref (cl C))) (hd : (x == ("__debug__" : Str)) = false := by decide) : DE X cl (.Name x pos) (eC (.cls C)) := de_c (v := .ref (cl C)) (pe_glob hg h rfl hd) fun _ _ => rfl
end
end G

set_option Elab.async false
set_option linter.all false
set_option autoImplicit false
set_option maxRecDepth 100000
set_option maxHeartbeats 2000000
namespace G
open PySem PySem.Spec PySem.Calls L2 PyProof.Rows
/-! ### enumerate of a list or a tuple, from a count on -/
def SqX (K : PySem.W.Frag) : Bool → Hp → Addr → List V → Prop
  | false => SqL K
  | true => SqT K
def ItX (h : Heap) : Bool → Addr → Addr → Nat → Prop
  | false => h.IsListIter
  | true => h.IsTupleIter
section
variable {X : Cx} {pins : List (Addr × Obj)} {σ : L2.St} {H : Hp} {s : Shared} {a e it : Addr} {i : Nat} {xs : List V} {t : Bool} {c : Int}
theorem ItX.at {h h' : Heap} (x : ItX h t it a i) (k : ∀ o, h.get? it = some o → h'.get? it = some o) : ItX h' t it a i := by
  cases t with
  | false => exact Heap.IsListIter.at x k
  | true => exact Heap.IsTupleIter.at x k
theorem ItX.obj {h : Heap} (x : ItX h t it a i) : ∃ o vs, h.get? it = some o ∧ o.data = .fields vs := by
  cases t with
  | false => obtain ⟨o, ho, _, hd⟩ := x; exact ⟨o, _, ho, hd⟩
  | true => obtain ⟨o, ho, _, hd⟩ := x; exact ⟨o, _, ho, hd⟩
theorem seqX_inj {ys : List V} (I : Inv X pins σ H s) (h : SqX X.K t H a xs) (g : SqX X.K t H a ys) : xs = ys := by
  cases t with
  | false => exact I.list_inj h g
  | true => exact I.tuple_inj h g
theorem seqX_at (I : Inv X pins σ H s) (q : SqX X.K t H a xs) : ∃ its : List Value, Vals xs its ∧ (∃ o n, s.heap.get? a = some o ∧ o.data = .seq its.toArray n) ∧
    (∀ {A : Around} {it : Addr}, A.handled = none → a ≠ it → Draws X.prog X.w A it [it, a] its.toArray.size (fun i v => its.toArray[i]? = some v) (fun i h => ItX h t it a i ∧ ∃ o n, h.get? a = some o ∧ s.heap.get? a = some o ∧ o.data = .seq its.toArray n)) ∧
    Begins (.ref a) { cls := .type (if t then "tuple_iterator" else "list_iterator"), data := .fields #[.ref a, .int 0 0] } (fun h => ∀ o, s.heap.get? a = some o → h.get? a = some o) := by
  cases t with
  | false =>
    obtain ⟨its, rv, p, hz⟩ := I.list q
    have hl := p.isList
    obtain ⟨o, ho, ex, n, hd⟩ := id hl
    refine ⟨its, rv, ⟨o, n, ho, hd⟩, fun {A it} hh hne => ?_, ?_⟩
    · have D := Draws.list (prog := X.prog) (w := X.w) (A := A) hh it a hne its.toArray
      have up : ∀ i h, (ItX h false it a i ∧ ∃ o n, h.get? a = some o ∧ s.heap.get? a = some o ∧ o.data = .seq its.toArray n) → h.IsListIter it a i ∧ h.IsList a its.toArray := fun i h z => by
        obtain ⟨z1, o', n', z2, z3, z4⟩ := z
        rw [ho] at z3; cases z3
        exact ⟨z1, o, z2, ex, n', z4⟩
      have dn : ∀ i h, h.IsListIter it a i → (∀ o, s.heap.get? a = some o → h.get? a = some o) → ItX h false it a i ∧ ∃ o n, h.get? a = some o ∧ s.heap.get? a = some o ∧ o.data = .seq its.toArray n := fun i h z k => ⟨z, o, n, k o ho, ho, hd⟩
      refine ⟨fun i h z => D.live i h (up i h z), fun i h h' z k => ⟨?_, ?_⟩, fun i s2 Q E hi z hQ => ?_, fun s2 Q E z hE => D.done s2 Q E (up _ _ z) hE⟩
      · exact ItX.at z.1 fun o e => k it (by simp) o e
      · obtain ⟨o', n', z2, z3, z4⟩ := z.2
        exact ⟨o', n', k a (by simp) _ z2, z3, z4⟩
      · refine D.item i s2 Q E hi (up _ _ z) fun x h' tk px st' sb => hQ x h' tk px ⟨st'.1, ?_⟩ sb
        obtain ⟨o', n', z2, z3, z4⟩ := z.2
        exact ⟨o', n', (sb.2 a hne).trans z2, z3, z4⟩
    · have B := begins_list a its.toArray
      exact ⟨fun prog w A E s2 Q k q => B.iter prog w A E s2 Q ⟨o, k o ho, ex, n, hd⟩ q, fun h h' z k o e => k a o (z o e), B.free⟩
  | true =>
    obtain ⟨its, rv, p, hz⟩ := I.tuple q
    obtain ⟨o, ho, ex, n, hd⟩ := id p
    refine ⟨its, rv, ⟨o, n, ho, hd⟩, fun {A it} hh hne => ?_, ?_⟩
    · have D := Draws.tuple (prog := X.prog) (w := X.w) (A := A) hh it a hne its.toArray
      have up : ∀ i h, (ItX h true it a i ∧ ∃ o n, h.get? a = some o ∧ s.heap.get? a = some o ∧ o.data = .seq its.toArray n) → h.IsTupleIter it a i ∧ h.IsTuple a its.toArray := fun i h z => by
        obtain ⟨z1, o', n', z2, z3, z4⟩ := z
        rw [ho] at z3; cases z3
        exact ⟨z1, o, z2, ex, n', z4⟩
      refine ⟨fun i h z => D.live i h (up i h z), fun i h h' z k => ⟨?_, ?_⟩, fun i s2 Q E hi z hQ => ?_, fun s2 Q E z hE => D.done s2 Q E (up _ _ z) hE⟩
      · exact ItX.at z.1 fun o e => k it (by simp) o e
      · obtain ⟨o', n', z2, z3, z4⟩ := z.2
        exact ⟨o', n', k a (by simp) _ z2, z3, z4⟩
      · refine D.item i s2 Q E hi (up _ _ z) fun x h' tk px st' sb => hQ x h' tk px ⟨st'.1, ?_⟩ sb
        obtain ⟨o', n', z2, z3, z4⟩ := z.2
        exact ⟨o', n', (sb.2 a hne).trans z2, z3, z4⟩
    · have B := begins_tuple a its.toArray
      exact ⟨fun prog w A E s2 Q k q => B.iter prog w A E s2 Q ⟨o, k o ho, ex, n, hd⟩ q, fun h h' z k o e => k a o (z o e), B.free⟩
end
/-- the sequence at a as it stands at each turn, each item in a new pair behind its count -/
def IteS (K : PySem.W.Frag) (t : Bool) (a : Addr) (c : Int) : It :=
  ⟨fun i H => ∃ xs x, SqX K t H a xs ∧ xs[i]? = some x, fun i H v H' => ∃ T x, v = .ref T ∧ H T = none ∧ H' = upd H T (.tup [.int (c + (i : Nat)), x]) ∧ ∀ xs, SqX K t H a xs → xs[i]? = some x, fun i H => ∃ xs, SqX K t H a xs ∧ xs.length = i⟩
theorem turn_enumS {P : Program} {w : World} {K : PySem.W.Frag} {elts : List Expr} {kk : Nat} {tpos : Pos} (t : Bool) (a e it : Addr) (c : Int) :
    Turn P w K (.Tuple elts kk tpos) (IteS K t a c) [e, it] e (fun i h => (∃ old, IsEnum h e it (c + ((i : Nat) : Int)) old) ∧ ItX h t it a i ∧ e ≠ it) where
  mem := by simp
  obj := fun i h st b hb => by
    obtain ⟨⟨old, he⟩, hi, _⟩ := st
    obtain ⟨o, vs, ho, hd⟩ := hi.obj
    rcases (show b = e ∨ b = it by simpa using hb) with rfl | rfl
    · exact ⟨_, he, fun v q => nomatch q⟩
    · exact ⟨o, ho, fun v q => by rw [hd] at q; cases q⟩
  keep := fun i h h' st k => let ⟨⟨old, he⟩, hi, hne⟩ := st; ⟨⟨old, k e (by simp) _ he⟩, hi.at fun o q => k it (by simp) o q, hne⟩
  item := by
    rintro X rfl rfl rfl hc i pins s σ H E I hf ⟨⟨old, he⟩, hit, hne⟩ ⟨xs, x, hq, hx⟩
    obtain ⟨its, rv, ⟨oa, na, hoa, hda⟩, D, _⟩ := seqX_at I hq
    obtain ⟨oi, vi, hoi, hdi⟩ := hit.obj
    obtain ⟨u, hu, ru⟩ := rv.get hx
    have ai : a ≠ it := fun z => by rw [z, hoi] at hoa; cases hoa; rw [hdi] at hda; cases hda
    have ea : e ≠ a := fun z => by rw [← z] at hoa; cases he.symm.trans hoa; cases hda
    have hlt : i < its.toArray.size := by
      have := (List.getElem?_eq_some_iff.mp hu).1
      simpa using this
    have hel : e < s.heap.objs.size := Heap.lt_size he
    have hil : it < s.heap.objs.size := Heap.lt_size hoi
    refine wpAny_pyNext_enum_itemC (D (A := X.A.in1) (I.ok.hd hc) ai) he ⟨hit, oa, na, hoa, hoa, hda⟩ hlt hne (by simp [hne, ea]) fun x' h' tk px ho st' hT hsz hk => ?_
    have ex : x' = u := by
      have px' : its[i]? = some x' := by simpa using px
      rw [hu] at px'
      exact (Option.some.inj px').symm
    subst ex
    refine ⟨_, rfl, wpAny_letOwnedTupleGo_enum (s := { s with heap := h', toks := tk + 1 }) ho fun h'' he' sb => ?_⟩
    have hT2 : h''.get? s.heap.objs.size = some { cls := .type "tuple", data := .seq #[.int (c + (i : Int)) tk, x'] } := (sb.2 _ (Nat.ne_of_gt hel)).trans hT
    have new : ObjOk X.prog X.w (upd H s.heap.objs.size (.tup [.int (c + (i : Nat)), x])) h'' s.heap.objs.size (.tup [.int (c + (i : Nat)), x]) :=
      ⟨by show 2 ≤ sizeLine; decide, [.int (c + (i : Int)) tk, x'], .cons ⟨_, rfl⟩ (.cons ru .nil), ⟨_, hT2, rfl, _, rfl⟩⟩
    have I1 : Inv X pins σ (upd H s.heap.objs.size (.tup [.int (c + (i : Nat)), x])) { s with heap := h'', toks := tk + 1 } :=
      I.turnedNew (ch := [e, it]) (fun b ob hb q => (sb.2 b (fun z => hb (by simp [z]))).trans (hk b ob (fun z => hb (by simp [z])) (fun z => hb (by simp [z])) q)) hf (Nat.le_refl _) new
    refine ⟨.ref s.heap.objs.size, _, I1, rfl, ⟨_, x, rfl, I.hok.fresh (Nat.le_refl _), rfl, fun ys hy => by rw [seqX_inj I hy hq]; exact hx⟩, ⟨⟨x', ?_⟩, st'.1.at fun o q => (sb.2 it (Ne.symm hne)).trans q, hne⟩, fun b hb => ?_⟩
    · have e1 : c + ((i + 1 : Nat) : Int) = c + (i : Int) + 1 := by omega
      rw [e1]; exact he'
    · have hb' : b < s.heap.objs.size := by
        rcases (show b = e ∨ b = it by simpa using hb) with rfl | rfl
        · exact hel
        · exact hil
      rw [upd_ne (Nat.ne_of_lt hb')]
      exact (hf b hb).1
  done := by
    rintro X rfl rfl rfl hc i pins s σ H E I hf ⟨⟨old, he⟩, hit, hne⟩ ⟨xs, hq, hx⟩
    obtain ⟨its, rv, ⟨oa, na, hoa, hda⟩, D, _⟩ := seqX_at I hq
    obtain ⟨oi, vi, hoi, hdi⟩ := hit.obj
    have ai : a ≠ it := fun z => by rw [z, hoi] at hoa; cases hoa; rw [hdi] at hda; cases hda
    obtain ⟨f0, f1, f2, f3, f4, f5⟩ := hf it (by simp)
    have hn : its.toArray.size = i := by rw [List.size_toArray, ← rv.length]; exact hx
    exact wpAny_pyNext_enum_endD (D (A := X.A.in1) (I.ok.hd hc) ai) he (by rw [hn]; exact ⟨hit, oa, na, hoa, hoa, hda⟩) fun h' eb => ⟨rfl, I.turned (t' := s.toks) (fun b o hb q => eb b o hb q) f0 f1 f3 f4 f5⟩
  self := fun A i s Q E st h => let ⟨⟨_, he⟩, _⟩ := st; wpAny_pyIter_enum he h
def iEnS (K : PySem.W.Frag) (c : Int) (ta : TA) : TI := fun σ H R => ta σ H fun vs H1 => ∃ t a xs, vs = [.ref a] ∧ SqX K t H1 a xs ∧ R (IteS K t a c) H1
def iEnK (K : PySem.W.Frag) (ta tk : TA) : TI := fun σ H R => ta σ H fun vs H1 => tk σ H1 fun zs H2 => ∃ t a xs c, vs = [.ref a] ∧ zs = [.int c] ∧ -(2 ^ 63) ≤ c ∧ c < 2 ^ 63 ∧ SqX K t H2 a xs ∧ R (IteS K t a c) H2
/-- the enumeration's two objects are there -/
theorem enum_there {X : Cx} {pins : List (Addr × Obj)} {σ : L2.St} {H : Hp} {s : Shared} {R : It → Hp → Prop} {elts : List Expr} {kk : Nat} {tpos : Pos} {t : Bool} {a : Addr} {c : Int} {h' : Heap} {o : Obj} {E : Value → Shared → Prop} (I : Inv X pins σ H s)
    (ho : o = { cls := .type (if t then "tuple_iterator" else "list_iterator"), data := .fields #[.ref a, .int 0 0] }) (he : IsEnum h' (s.heap.objs.size + 1) s.heap.objs.size c .none) (hi : h'.get? s.heap.objs.size = some o) (hk : ∀ b o, s.heap.get? b = some o → h'.get? b = some o) (q : R (IteS X.K t a c) H) :
    wpAny (model X.prog X.w) X.A (pyIter (.ref (s.heap.objs.size + 1))) (PIE X pins σ (.Tuple elts kk tpos) R) E { s with heap := h' } := by
  refine wpAny_pyIter_enum he ?_
  have I2 : Inv X pins σ H { s with heap := h' } := I.kept (t' := s.toks) hk
  refine ⟨s.heap.objs.size + 1, [s.heap.objs.size + 1, s.heap.objs.size], _, _, H, rfl, I2, turn_enumS t a (s.heap.objs.size + 1) s.heap.objs.size c, ⟨⟨.none, by simpa using he⟩, ?_, Nat.succ_ne_self _⟩, fun b hb => ?_, q⟩
  · subst ho
    cases t with
    | false => exact ⟨_, hi, rfl, rfl⟩
    | true => exact ⟨_, hi, rfl, rfl⟩
  · have hle : s.heap.objs.size ≤ b := by
      rcases (show b = s.heap.objs.size + 1 ∨ b = s.heap.objs.size by simpa using hb) with rfl | rfl
      · exact Nat.le_add_right _ _
      · exact Nat.le_refl _
    exact I.fpOk hle (I.hok.fresh hle)
/-- enumerate(v) of what begins a walk -/
theorem enum_new0 {v : Value} {o : Obj} {W : Heap → Prop} (B : Begins v o W) :
    Meets (Builtin.«enumerate.__new__» ⟨[.type "enumerate", v], []⟩) (fun _ R s => W s.heap ∧
      R (.ok (.ret (.ref (s.heap.push o).objs.size))) { s with heap := (s.heap.push o).push { cls := .type "enumerate", data := .fields #[.none, .bool false, .ref s.heap.objs.size, rawInt 0, .none, .none] } }) :=
  .of_wp fun prog w A R s h => by
    obtain ⟨hp, gs, dr, tk, os⟩ := s
    obtain ⟨h1, h⟩ := h
    have known := sub_enumerate
    have walk : ∀ {A' : Around} {E : Value → Shared → Prop} {Q : Value → Shared → Prop}, Q (.ref hp.objs.size) ⟨hp.push o, gs, dr, tk, os⟩ → wpAny (model prog w) A' (pyIter v) Q E ⟨hp, gs, dr, tk, os⟩ :=
      fun z => B.iter prog w _ _ ⟨hp, gs, dr, tk, os⟩ _ h1 z
    wp_walk using walk
    refine wpAny_stack_any fun st => wpAny_pure ?_
    split
    · rename_i cc _ _ _ _ _
      cases (cc == Value.type "enumerate") <;> (wp_walk using walk; exact ⟨_, rfl, h⟩)
    · wp_walk using walk
      exact ⟨_, rfl, h⟩
theorem enum_begins0 {prog : Program} {w : World} {A : Around} {E : Value → Shared → Prop} {s : Shared} {v : Value} {o : Obj} {W : Heap → Prop} {Q : Value → Shared → Prop} (B : Begins v o W) (h1 : W s.heap)
    (h : ∀ h', IsEnum h' (s.heap.objs.size + 1) s.heap.objs.size 0 .none → h'.get? s.heap.objs.size = some o → (∀ b o, s.heap.get? b = some o → h'.get? b = some o) → Q (.ref (s.heap.objs.size + 1)) { s with heap := h' }) :
    wpAny (model prog w) A (call (.type "enumerate") [v]) Q E s := by
  refine callType_new F.called_enumerate (by decide) (F.typeCall_enumerate_1 _) (F.newCall_enumerate_1 _) (fun obj => F.args_object_init_2 obj _) F.entry_enumerate_new (enum_new0 B) ⟨h1, ?_⟩
  have hz : (s.heap.push o).objs.size = s.heap.objs.size + 1 := Heap.size_push ..
  show _ ∧ _
  rw [hz]
  have it : IsEnum ((s.heap.push o).push { cls := .type "enumerate", data := .fields #[.none, .bool false, .ref s.heap.objs.size, rawInt 0, .none, .none] }) (s.heap.objs.size + 1) s.heap.objs.size 0 .none := by
    have q := Heap.get?_push_size (s.heap.push o) (o := { cls := .type "enumerate", data := .fields #[.none, .bool false, .ref s.heap.objs.size, rawInt 0, .none, .none] }) rfl
    rw [hz] at q
    exact q
  exact ⟨⟨_, it, rfl⟩, h _ it (Heap.get?_push_of_some _ (Heap.get?_push_size _ B.free)) fun b u x => Heap.get?_push_of_some _ (Heap.get?_push_of_some _ x)⟩
section
variable {X : Cx} {e k : Expr} {ta tk : TA} {p pos tpos kp : Pos} {elts : List Expr} {kk : Nat}
theorem pi_enumS (hg : Gl X "enumerate") (hm : X.mg "enumerate" = none) (ha : PA X [e] ta) (hs : starEach [e] X.env = [(false, eval e X.env)] := by rfl) :
    PI X (.Tuple elts kk tpos) (.Call (.Name "enumerate" p) [e] [] pos) (iEnS X.K 0 ta) := by
  constructor
  intro pins s σ H R I h
  refine Call_ (ld_blt I hg hm boot_enumerate (PyProof.Rows.callWith_type1 (thn (ha.run pos pins s σ H _ I h) fun us s1 ⟨vs, H1, I1, r1, t, a, xs, ev, q1, q2⟩ => ?_) hs rfl))
  subst ev
  obtain ⟨u, rfl, ru⟩ := vals1 r1
  obtain rfl : u = Value.ref a := ru
  obtain ⟨its, rv, _, _, B⟩ := seqX_at I1 q1
  exact enum_begins0 B (fun o e => e) fun h2 en hi hk => enum_there I1 rfl en hi hk q2
theorem pi_enumK (hg : Gl X "enumerate") (hm : X.mg "enumerate" = none) (ha : PA X [e] ta) (hk : PK X [⟨some "start", k, kp⟩] tk) (hs : starEach [e] X.env = (false, eval e X.env) :: starEach [] X.env := by rfl)
    (hall : (backToKw pos (keywordEach [⟨some "start", k, kp⟩] X.env)).all (·.1.isSome) = true := by rfl) (hpl : ((backTo pos (starEach [e] X.env)).any (·.1) || (backToKw pos (keywordEach [⟨some "start", k, kp⟩] X.env)).any (·.1.isNone)) = false := by rfl)
    (hks : (backToKw pos (keywordEach [⟨some "start", k, kp⟩] X.env)).filterMap (·.1) = [Str.ofString "start"] := by rfl) :
    PI X (.Tuple elts kk tpos) (.Call (.Name "enumerate" p) [e] [⟨some "start", k, kp⟩] pos) (iEnK X.K ta tk) := by
  constructor
  intro pins s σ H R I h
  refine wpAny_Call_Name_kw (ld_blt I hg hm boot_enumerate ?_)
  refine PySem.W.callWith_of (P := fun _ => True) hpl (fun h _ => ⟨.machine, .inr (.inl rfl), fun A Q E s _ q => wpAny_pure q⟩) (evalArgs_kw2 hall (thn (ha.run pos pins s σ H _ I h) fun us s1 ⟨vs, H1, I1, r1, q1⟩ => thn (hk.run pos pins s1 σ H1 _ I1 q1) fun ws s2 ⟨zs, H2, I2, r2, t, a, xs, c, ev, ez, lo, hi, q2, q3⟩ => ⟨trivial, ?_⟩) hs)
  subst ev; subst ez
  obtain ⟨u, rfl, ru⟩ := vals1 r1
  obtain rfl : u = Value.ref a := ru
  obtain ⟨z, rfl, tz, rfl⟩ := vals1 r2
  rw [hks]
  obtain ⟨its, rv, _, _, B⟩ := seqX_at I2 q2
  exact enum_begins_start B (fun o e => e) lo hi fun h2 en hi' _ hk => enum_there I2 rfl en hi' hk q3
end
end G

set_option Elab.async false
set_option linter.all false
set_option autoImplicit false
set_option maxRecDepth 100000
set_option maxHeartbeats 2000000
namespace G
open PySem PySem.Spec PySem.Calls L2 PyProof.Rows
section
variable {X : Cx} {cl : Nat → Addr}
/-! ### lists that change: +, * -/
theorem Fin1.mutS {Γ : Gm} {ms : List Addr} {F H : Hp} {ds : List D} {μ : List MO} {Q : VK} {vs : List V} {p : Addr} (h : Fin1 Γ ms F H (.mut μ.length) (μ ++ [.lst ds]) Q) (r : HR Γ ms F H μ) (q : HasL Γ ms F vs ds) (hp : H p = none) : Q (.ref p) (upd H p (.lst vs)) := h.mut r q hp
def addM : G2 := fun x y μ => match seqD μ x, seqD μ y with
  | some (.l, a), some (.l, b) => if a.length + b.length ≤ 1000000 then some (.mut μ.length, μ ++ [.lst (a ++ b)]) else none
  | _, _ => addD x y μ
theorem opd_addM : OpD X cl (binaryOp .Add) addM := by
  intro ms F H μ x y dx dy d μ' Q r hx hy ev k
  unfold addM at ev
  split at ev
  · rename_i a b ea eb
    split at ev
    · rename_i hz
      cases ev
      obtain ⟨p, xs, rfl, ha, la⟩ := seqD_ok r hx ea
      obtain ⟨q, ys, rfl, hb, lb⟩ := seqD_ok r hy eb
      exact ⟨_, op_cat, p, q, xs, ys, rfl, rfl, ha, hb, by rw [la.length, lb.length]; exact million hz, fun c hc => k.mut r (la.append lb) hc⟩
    · cases ev
  · exact opd_add ms F H μ x y dx dy d μ' Q r hx hy ev k
theorem op_mulStr : OpR X (binaryOp .Mult) (fun x y H Q => ∃ s k, x = .str s ∧ y = .int k ∧ s.length ≤ 16 ∧ -(2 ^ 63) ≤ k ∧ k ≤ 1048576 ∧ Q (.str (Txt.mul s k)) H) := by
  intro pins s σ H x y v u Q I rx ry h
  obtain ⟨z, k, rfl, rfl, hz, h1, h2, q⟩ := h
  obtain ⟨t, rfl⟩ := rx
  obtain ⟨t', rfl⟩ := ry
  exact PySem.W.KXi.mul rfl hz h1 h2 fun t' k' _ _ => ⟨.str _, H, I.tok _, ⟨_, rfl⟩, q⟩
theorem HasL.flat {Γ : Gm} {ms : List Addr} {F : Hp} {vs : List V} {ds : List D} (h : HasL Γ ms F vs ds) : ∀ n : Nat, HasL Γ ms F (List.replicate n vs).flatten (List.replicate n ds).flatten
  | 0 => rfl
  | n + 1 => by
    rw [List.replicate_succ, List.replicate_succ, List.flatten_cons, List.flatten_cons]
    exact h.append (HasL.flat h n)
def mulM : G2 := fun x y μ => match seqD μ x, y with
  | some (.l, a), .int k => if -(2 ^ 63) ≤ k ∧ k < 2 ^ 63 ∧ a.length * k.toNat ≤ 1000000 then some (.mut μ.length, μ ++ [.lst (List.replicate k.toNat a).flatten]) else none
  | _, y => match x, y with
    | .str z, .int k => if z.length ≤ 16 ∧ -(2 ^ 63) ≤ k ∧ k ≤ 1048576 then some (.str (Txt.mul z k), μ) else none
    | x, y => mulD x y μ
theorem opd_mulM : OpD X cl (binaryOp .Mult) mulM := by
  intro ms F H μ x y dx dy d μ' Q r hx hy ev k
  unfold mulM at ev
  split at ev
  · rename_i a j ea
    split at ev
    · rename_i hz
      cases ev
      obtain ⟨p, xs, rfl, ha, la⟩ := seqD_ok r hx ea
      exact ⟨_, op_rep, p, j, xs, rfl, hy, ha, hz.1, hz.2.1, by rw [la.length]; exact million hz.2.2, fun c hc => k.mut r (la.flat _) hc⟩
    · cases ev
  · split at ev
    · split at ev
      · rename_i hz; cases ev; exact ⟨_, op_mulStr, _, _, hx, hy, hz.1, hz.2.1, hz.2.2, k.imm r rfl⟩
      · cases ev
    · exact opd_mul ms F H μ x y _ _ d μ' Q r hx hy ev k
/-! ### tuple(..), list(..) -/
def tupM : G1 := fun ds μ => match ds with
  | [.tup xs] => some (.tup xs, μ)
  | [x] => match seqD μ x with
    | some (.l, xs) => some (.tup xs, μ)
    | _ => none
  | _ => none
theorem cd_tupM : CallD X cl (.type "tuple") tupM := by
  intro ms F H μ vs ds d μ' Q r hv ev k
  unfold tupM at ev
  split at ev
  · cases ev
    obtain ⟨v, rfl, a, ys, rfl, hs, hl⟩ := hv.one'
    exact ⟨_, call_tuple_of, a, ys, rfl, .inr ⟨(Tp.same r.sub hs).sq, k.imm r ⟨a, ys, rfl, hs, hl⟩⟩⟩
  · obtain ⟨v, rfl, h⟩ := hv.one'
    split at ev
    · rename_i xs hq
      cases ev
      obtain ⟨a, ys, rfl, hs, hl⟩ := seqD_ok r h hq
      exact ⟨_, call_tuple_of, a, ys, rfl, .inl ⟨SqL.of hs, fun p hp => k.tup r hl hp⟩⟩
    · cases ev
  · cases ev
/-- list(..): a new list that may change -/
def lstM : G1 := fun ds μ => match ds with
  | [x] => match seqD μ x with
    | some (_, xs) => some (.mut μ.length, μ ++ [.lst xs])
    | _ => none
  | _ => none
theorem cd_lstM : CallD X cl (.type "list") lstM := by
  intro ms F H μ vs ds d μ' Q r hv ev k
  unfold lstM at ev
  split at ev
  · obtain ⟨v, rfl, h⟩ := hv.one'
    split at ev
    · rename_i sk xs hq
      cases ev
      obtain ⟨a, ys, rfl, hs, hl⟩ := seqD_ok r h hq
      exact ⟨_, call_list_of, a, ys, rfl, hs.or, fun p hp => k.mut r hl hp⟩
    · cases ev
  · cases ev
/-! ### dicts that change -/
theorem HR.adopt {Γ : Gm} {ms : List Addr} {F H : Hp} {μ : List MO} (r : HR Γ ms F H μ) {p : Addr} (hm : p ∉ ms) (hF : F p = none) {u : MO} (m : MOk Γ ms F H p u) : HR Γ (ms ++ [p]) F H (μ ++ [u]) := by
  refine ⟨r.sub, fun b hb => ?_, by simp [r.len], ?_, fun j u' e => ?_⟩
  · rcases List.mem_append.mp hb with hb | hb
    · exact r.out b hb
    · simp at hb; subst hb; exact hF
  · refine List.nodup_append.mpr ⟨r.nd, by simp, fun b hb c hc => ?_⟩
    simp at hc; subst hc
    exact fun z => hm (z ▸ hb)
  · by_cases hk : j < μ.length
    · rw [List.getElem?_append_left hk] at e
      obtain ⟨a, ea, m'⟩ := r.obj j u' e
      exact ⟨a, getP ea, m'.mono (Same.refl _) fun o q => q⟩
    · have hk2 := (List.getElem?_eq_some_iff.mp e).1
      simp at hk2
      have : j = μ.length := by omega
      subst this
      simp at e; subst e
      exact ⟨p, by rw [← r.len]; simp, m.mono (Same.refl _) fun o q => q⟩
def eDctM0 : EF := fun _ μ => some (.mut μ.length, μ ++ [.dct [] []])
theorem de_dctM0 {pos : Pos} : DE X cl (.Dict [] [] pos) eDctM0 := ⟨pe_dnewK.weak fun σ H Q ⟨O, ms, F, δ, μ, d, μ', R, ev, k⟩ => by
  cases ev
  intro p hp
  obtain ⟨r', s⟩ := R.hr.push (o := .dK []) (u := .dct [] []) hp ⟨[], upd_same, rfl, rfl⟩
  exact k _ _ _ _ r' s ⟨p, rfl, by rw [← R.hr.len]; simp⟩⟩
/-- {k: e} -/
def eDctM1 (k : Key) (f : EF) : EF := fun δ μ => match f δ μ with
  | some (d, μ1) => some (.mut μ1.length, μ1 ++ [.dct [k] [d]])
  | none => none
theorem Stp.notin {ms ms' : List Addr} {F F' H H' : Hp} {p : Addr} (s : Stp ms ms' F F' H H') (hn : p ∉ ms) (hp : H p ≠ none) : p ∉ ms' := fun z => by
  obtain ⟨new, e, fr⟩ := s.new
  rw [e] at z
  rcases List.mem_append.mp z with z | z
  · exact hn z
  · exact hp (fr p z)
theorem de_dctM1 {x : Str} {kp : Pos} {jj : Nat} {e : Expr} {f : EF} {pos : Pos} (h : DE X cl e f) : DE X cl (.Dict [some (.Constant (.str x) jj kp)] [e] pos) (eDctM1 (.inr x) f) :=
  ⟨(pe_disp (pps_cons pe_str h.p pps_nil) rfl rfl (by simp) (by show (1 : Nat) ≤ 15; decide)).weak fun σ H Q ⟨O, ms, F, δ, μ, d, μ', R, ev, k⟩ => by
  unfold eDctM1 at ev
  split at ev
  · rename_i d1 μ1 e1
    cases ev
    intro p hp
    obtain ⟨hm0, hF0⟩ := R.hr.fresh_not hp
    obtain ⟨r0, s0⟩ := R.hr.extra hp (.dK [])
    refine tE.seq (R.step r0 s0) e1 fun v H1 ms1 F1 R1 s1 q1 => ?_
    have hp1 : (upd H p (.dK [])) p ≠ none := by rw [upd_same]; exact fun z => nomatch z
    have hD1 : H1 p = some (.dK []) := s1.keep p _ upd_same hm0
    have hm1 := s1.notin hm0 hp1
    have hF1 : F1 p = none := s1.fnew p hF0 hp1
    refine ⟨hD1, [(.inr x, v)], rfl, by show (1 : Nat) ≤ 15; decide, ?_⟩
    have s01 := s0.trans' r0 s1
    have r2 : HR (gm X cl) ms1 F1 (upd H1 p (.dK (mergeK [] [(.inr x, v)]))) μ1 := R1.hr.other hm1 hF1 _
    have r3 := r2.adopt (u := .dct [.inr x] [d1]) hm1 hF1 ⟨[v], upd_same, rfl, HasL.one q1⟩
    obtain ⟨new, en, fr⟩ := s01.new
    refine k _ _ (ms1 ++ [p]) F1 r3 ⟨⟨new ++ [p], by rw [en]; simp, fun b hb => ?_⟩, fun b o eb hn => ?_, s01.fsub, s01.fnew⟩ ⟨p, rfl, by rw [← R1.hr.len]; simp⟩
    · rcases List.mem_append.mp hb with hb | hb
      · exact fr b hb
      · simp at hb; subst hb; exact hp
    · have hne : b ≠ p := fun z => by rw [z, hp] at eb; cases eb
      rw [upd_ne hne]; exact s01.keep b o eb hn
  · cases ev⟩
/-- d[k] = e -/
def putX (ks : List Key) (xs : List D) (k : Key) (d : D) : List Key × List D :=
  if (ks.any fun j => decide (j = k)) = true then (ks, (ks.zip xs).map fun p => if p.1 = k then d else p.2) else (ks ++ [k], xs ++ [d])
theorem putX_any (k : Key) : ∀ (ks : List Key) (vs : List V), ks.length = vs.length → ((ks.zip vs).any fun kv => decide (kv.1 = k)) = ks.any fun j => decide (j = k)
  | [], [], _ => rfl
  | j :: ks, v :: vs, h => by
    have := putX_any k ks vs (by simpa using h)
    simp only [List.zip_cons_cons, List.any_cons, this]
theorem putX_zip (k : Key) (v : V) : ∀ (ks : List Key) (vs : List V), ks.length = vs.length → ks.zip ((ks.zip vs).map fun p => if p.1 = k then v else p.2) = (ks.zip vs).map fun kv => if kv.1 = k then (kv.1, v) else kv
  | [], [], _ => rfl
  | j :: ks, w :: vs, h => by
    simp only [List.zip_cons_cons, List.map_cons]
    rw [putX_zip k v ks vs (by simpa using h)]
    by_cases e : j = k <;> simp [e]
theorem HasL.putm {Γ : Gm} {ms : List Addr} {F : Hp} {k : Key} {v : V} {d : D} (q : Has Γ ms F v d) : ∀ {ks : List Key} {vs : List V} {ds : List D}, HasL Γ ms F vs ds → HasL Γ ms F ((ks.zip vs).map fun p => if p.1 = k then v else p.2) ((ks.zip ds).map fun p => if p.1 = k then d else p.2)
  | [], vs, ds, h => by simp [HasL]
  | j :: ks, _, [], h => by cases h; simp [HasL]
  | j :: ks, _, e :: ds, ⟨w, ws, hv, h1, h2⟩ => by
    subst hv
    refine ⟨if j = k then v else w, _, rfl, ?_, HasL.putm q h2⟩
    by_cases ejk : j = k
    · simp only [ejk, if_true]; exact q
    · simp only [ejk, if_false]; exact h1
def keyD : D → Option Key
  | .int i => some (.inl i)
  | .str x => some (.inr x)
  | _ => none
theorem keyD_ok {Γ : Gm} {ms : List Addr} {F : Hp} {v : V} {d : D} {k : Key} (h : Has Γ ms F v d) (e : keyD d = some k) : v = kV k := by
  cases d <;> cases e <;> exact h
def bDPut (fd fk fv : EF) : BF := fun δ μ => match fv δ μ with
  | some (v, μ1) => match fd δ μ1 with
    | some (.mut j, μ2) => match fk δ μ2 with
      | some (kd, μ3) => match keyD kd, μ3[j]? with
        | some k, some (.dct ks xs) => if ks.length < 1000000 then some (.nx δ (μ3.set j (.dct (putX ks xs k v).1 (putX ks xs k v).2))) else none
        | _, _ => none
      | none => none
    | _ => none
  | none => none
theorem mut_dct {Γ : Gm} {ms : List Addr} {F H : Hp} {μ : List MO} {k : Nat} {v : V} {ks : List Key} {xs : List D} (r : HR Γ ms F H μ) (h : Has Γ ms F v (.mut k)) (e : μ[k]? = some (.dct ks xs)) : ∃ a vs, v = .ref a ∧ ms[k]? = some a ∧ H a = some (.dK (ks.zip vs)) ∧ ks.length = vs.length ∧ HasL Γ ms F vs xs := by
  obtain ⟨a, rfl, hm⟩ := h
  obtain ⟨a', ha', ys, hx, hn, hl⟩ := r.obj _ _ e
  rw [hm] at ha'; cases ha'
  exact ⟨a, ys, rfl, hm, hx, hn, hl⟩
theorem ds_dput {o i value : Expr} {pos pos' : Pos} {fd fk fv : EF} (hu : X.A.units + 1 < cLine) (ho : DE X cl o fd) (hi : DE X cl i fk) (hv : DE X cl value fv) (hs : swapsWith value (some (.Subscript o i pos')) pos.line X.env = pure false := by rfl) :
    DS X cl (.Assign [.Subscript o i pos'] value pos) (bDPut fd fk fv) := ⟨(ps_dput hu ho.p hi.p hv.p hs).weak fun D σ H ⟨O, ms, F, δ, μ, oo, R, ev, hO, k⟩ => by
  unfold bDPut at ev
  split at ev
  · rename_i d μ1 e1
    split at ev
    · rename_i j μ2 e2
      split at ev
      · rename_i kd μ3 e3
        split at ev
        · rename_i kk ks xs ek hk
          split at ev
          · rename_i hz
            cases ev
            refine tE.seq R e1 fun v H1 ms1 F1 R1 s1 q1 => tE.seq R1 e2 fun ov H2 ms2 F2 R2 s2 q2 => tE.seq R2 e3 fun iv H3 ms3 F3 R3 s3 q3 => ?_
            obtain ⟨a, ws, rfl, hma, ha, hn, hl⟩ := mut_dct R3.hr (q2.step s3) hk
            have zl : (ks.zip ws).length = ks.length := by rw [List.length_zip, hn]; simp
            refine ⟨a, _, rfl, .inl ⟨_, kk, ha, keyD_ok q3 ek, by rw [zl, sizeLine_eq]; omega, rfl⟩, ?_⟩
            have q1' := (q1.step s2).step s3
            have hp : ∃ us, putK (ks.zip ws) kk v = (putX ks xs kk d).1.zip us ∧ (putX ks xs kk d).1.length = us.length ∧ HasL (gm X cl) ms3 F3 us (putX ks xs kk d).2 := by
              unfold putK putX
              rw [putX_any kk ks ws hn]
              by_cases hmem : (ks.any fun j => decide (j = kk)) = true
              · rw [if_pos hmem, if_pos hmem]
                exact ⟨_, (putX_zip kk v ks ws hn).symm, by rw [List.length_map, zl], hl.putm q1'⟩
              · rw [if_neg hmem, if_neg hmem]
                exact ⟨ws ++ [v], by rw [List.zip_append hn]; rfl, by simp [hn], hl.append (HasL.one q1')⟩
            obtain ⟨us, ep, eu, hu'⟩ := hp
            rw [ep]
            obtain ⟨r', s⟩ := R3.hr.write hma (u := .dct (putX ks xs kk d).1 (putX ks xs kk d).2) (o := .dK ((putX ks xs kk d).1.zip us)) ⟨_, upd_same, eu, hu'⟩
            exact k σ _ ms3 F3 (R3.step r' s) (((s1.trans' R1.hr s2).trans' R2.hr s3).ext)
          · cases ev
        · cases ev
      · cases ev
    · cases ev
  · cases ev⟩
end
end G

set_option Elab.async false
set_option linter.all false
set_option autoImplicit false
set_option maxRecDepth 100000
set_option maxHeartbeats 2000000
namespace G
open PySem PySem.Spec PySem.Calls L2 PyProof.Rows
/-! ### repr of a dict -/
section
variable {X : Cx} {pins : List (Addr × Obj)} {σ : L2.St} {H : Hp} {s : Shared}
theorem call_reprDct (hgd : X.A.guards = some []) (hu : X.A.units + 64 < cLine) : CallR X (.builtin "repr") (fun xs H Q => ∃ a kvs ts, xs = [.ref a] ∧ H a = some (.dK kvs) ∧ enT kvs = some ts ∧ (dictText ts).length ≤ sizeLine ∧ Q (.str (dictText ts)) H) := by
  intro pins s σ H xs us Q I r h
  obtain ⟨a, kvs, ts, rfl, ha, et, hz, q⟩ := h
  obtain ⟨u, rfl, ru⟩ := vals1 r
  obtain rfl : u = Value.ref a := ru
  obtain ⟨_, hsys, vs, rk, o, es, ep, ho, hx, hd, hK, hP, _⟩ := dk_of I.hok ha
  refine call_repr_slot (by omega) ⟨o, ho, hx.1⟩ F.slot_dict_repr (call_dict_reprK (as := []) (h₀ := s.heap) (d := 0) ho hx.1 hd hsys (by simp) (en_reprK [] 0 et rk hP fun t ht => Nat.le_trans (dictText_mem ht) hz) hgd (fun b _ => Clear.nil b) (by show X.A.units + 1 + (0 + 1) < cLine; omega) (fun _ _ e => e) (fun h' z tk k => ⟨_, _, rfl, .str _, H, I.kept k, ⟨_, rfl⟩, q⟩) hz)
end
def txM (nm : Nat → Option Str) (μ : List MO) (d : D) : Option (Bool × Str) := match d with
  | .mut k => match μ[k]? with
    | some (.dct ks ds) => (enD ks ds).map fun ts => (true, dictText ts)
    | _ => (tx nm μ d).map fun t => (false, t)
  | .dct ks ds => (enD ks ds).map fun ts => (true, dictText ts)
  | d => (tx nm μ d).map fun t => (false, t)
def reprM (nm : Nat → Option Str) : List D → List MO → Option (D × List MO)
  | [d], μ => match txM nm μ d with
    | some t => if t.2.length ≤ 1000000 then some (.str t.2, μ) else none
    | none => none
  | _, _ => none
section
variable {X : Cx} {cl : Nat → Addr} {nm : Nat → Option Str}
theorem txM_dct {Γ : Gm} {ms : List Addr} {F H : Hp} {μ : List MO} {v : V} {d : D} {t : Str} (r : HR Γ ms F H μ) (h : Has Γ ms F v d) (e : txM nm μ d = some (true, t)) : ∃ a kvs ts, v = .ref a ∧ H a = some (.dK kvs) ∧ enT kvs = some ts ∧ t = dictText ts := by
  unfold txM at e
  split at e
  · split at e
    · rename_i k ks ds hk
      obtain ⟨ts, e1, e2⟩ := Option.map_eq_some_iff.mp e
      cases e2
      obtain ⟨a, vs, rfl, _, ha, hn, hl⟩ := mut_dct r h hk
      exact ⟨a, _, ts, rfl, ha, en_has e1 hl, rfl⟩
    · obtain ⟨ts, e1, e2⟩ := Option.map_eq_some_iff.mp e
      cases e2
  · obtain ⟨ts, e1, e2⟩ := Option.map_eq_some_iff.mp e
    cases e2
    obtain ⟨a, xs, rfl, h1, h2, h3⟩ := h
    exact ⟨a, _, ts, rfl, r.sub _ _ h1, en_has e1 h3, rfl⟩
  · obtain ⟨ts, e1, e2⟩ := Option.map_eq_some_iff.mp e
    cases e2
theorem txM_tx {μ : List MO} {d : D} {t : Str} (e : txM nm μ d = some (false, t)) : tx nm μ d = some t := by
  unfold txM at e
  split at e
  · split at e
    · obtain ⟨ts, e1, e2⟩ := Option.map_eq_some_iff.mp e
      cases e2
    · obtain ⟨ts, e1, e2⟩ := Option.map_eq_some_iff.mp e
      cases e2; exact e1
  · obtain ⟨ts, e1, e2⟩ := Option.map_eq_some_iff.mp e
    cases e2
  · obtain ⟨ts, e1, e2⟩ := Option.map_eq_some_iff.mp e
    cases e2; exact e1
theorem cd_reprM (hn : ∀ C n, nm C = some n → RxC X.K (cl C) n) (hgd : X.A.guards = some []) (hu : X.A.units + 64 < cLine) : CallD X cl (.builtin "repr") (reprM nm) := by
  intro ms F H μ vs ds d μ' Q r hv ev k
  unfold reprM at ev
  split at ev
  · rename_i d0
    split at ev
    · rename_i t et
      split at ev
      · rename_i hz
        cases ev
        obtain ⟨b, t⟩ := t
        cases b with
        | true =>
          obtain ⟨v, rfl, h⟩ := hv.one'
          obtain ⟨a, kvs, ts, rfl, ha, e1, rfl⟩ := txM_dct r h et
          exact ⟨_, call_reprDct hgd hu, a, kvs, ts, rfl, ha, e1, million hz, k.imm r rfl⟩
        | false =>
          refine cd_repr hn hgd hu ms F H μ vs [d0] (.str t) μ Q r hv ?_ k
          show (match tx nm μ d0 with
            | some t => if t.length ≤ 1000000 then some (D.str t, μ) else none
            | none => none) = _
          rw [txM_tx et]
          exact if_pos hz
      · cases ev
    · cases ev
  · cases ev
/-! ### range with a step -/
def rangeC (lo c : Int) (n : Nat) : List D := (List.range n).map fun i => .int (lo + (i : Nat) * c)
theorem rangeC_length (lo c : Int) (n : Nat) : (rangeC lo c n).length = n := by simp [rangeC]
theorem rangeC_get {lo c : Int} {n i : Nat} {d : D} (h : (rangeC lo c n)[i]? = some d) : d = .int (lo + (i : Nat) * c) := by
  unfold rangeC at h
  rw [List.getElem?_map] at h
  cases e : (List.range n)[i]? with
  | none => rw [e] at h; cases h
  | some j =>
    rw [e] at h
    obtain ⟨h1, h2⟩ := List.getElem?_eq_some_iff.mp e
    simp at h2
    subst h2
    cases h; rfl
theorem yld_rangeC {Γ : Gm} {ms0 : List Addr} {F0 : Hp} (lo c : Int) (n : Nat) : Yld Γ (Itc lo c n) (rangeC lo c n) ms0 F0 where
  go := fun ms F H μ i r e hi => by rw [rangeC_length] at hi; exact hi
  stop := fun ms F H μ i r e hi => by rw [rangeC_length] at hi; exact hi
  yld := fun ms F H μ i d x H' r e hd y => by
    obtain ⟨rfl, rfl⟩ := y
    rw [rangeC_get hd]
    exact ⟨ms, F, r, Stp.refl _ _ _, rfl⟩
def iR3 (r : AF) : IF := aThen r fun ds _ μ => match ds with
  | [.int i, .int j, .int c] => if c ≠ 0 ∧ c.natAbs < 1073741824 ∧ Builtin.Range.small i j c = true then some (rangeC i c (Builtin.Range.rangeSize i j c).toNat, μ) else none
  | _ => none
theorem di_range3 {tg a b c : Expr} {p pos : Pos} {r : AF} (hg : Gl X "range") (hm : X.mg "range" = none) (ha : DA X cl [a, b, c] r)
    (hs : starEach [a, b, c] X.env = (false, eval a X.env) :: starEach [b, c] X.env := by rfl) (hpl : (backTo pos (starEach [b, c] X.env)).any (·.1) = false := by rfl) :
    DI X cl tg (.Call (.Name "range" p) [a, b, c] [] pos) (iR3 r) := ⟨(pi_range3 hg hm ha.p hs hpl).weak fun σ H R ⟨O, ms, F, δ, μ, ds, μ', S, ev, k⟩ => by
  obtain ⟨d1, μ1, e1, ev⟩ := aThen_some ev
  refine tA.seq S e1 fun v H1 ms1 F1 R1 s1 q1 => ?_
  split at ev
  · split at ev
    · rename_i i j c hz
      cases ev
      obtain ⟨v, ws, rfl, hv, q2⟩ := q1
      obtain ⟨w, u, rfl, hw, hu⟩ := q2.two'
      exact ⟨i, j, c, _, by rw [show v = .int i from hv, show w = .int j from hw, show u = .int c from hu], ⟨hz.1, hz.2.1, hz.2.2, rangeSize_toNat i j c⟩, k _ H1 ms1 F1 R1.hr s1 (yld_rangeC _ _ _)⟩
    · cases ev
  · cases ev⟩
end
/-! ### what a loop walks, as long as it stays so -/
structure YldP (Γ : Gm) (J : It) (P : List MO → Prop) (ds : List D) (ms0 : List Addr) (F0 : Hp) : Prop where
  go : ∀ ms F H μ i, HR Γ ms F H μ → Ext ms0 ms F0 F → P μ → i < ds.length → J.go i H
  stop : ∀ ms F H μ, HR Γ ms F H μ → Ext ms0 ms F0 F → P μ → J.stop ds.length H
  yld : ∀ ms F H μ i d x H', HR Γ ms F H μ → Ext ms0 ms F0 F → P μ → ds[i]? = some d → J.yld i H x H' → ∃ ms' F', HR Γ ms' F' H' μ ∧ Stp ms ms' F F' H H' ∧ Has Γ ms' F' x d
structure Walk where
  ds : List D
  P : List MO → Prop
abbrev IFP := List SV → List MO → Option (Walk × List MO)
def tIP (Γ : Gm) (f : IFP) : TI := fun σ H R => ∃ O ms F δ μ ds μ1, SR Γ O ms F H σ δ μ ∧ f δ μ = some (ds, μ1) ∧
  ∀ J H1 ms1 F1, HR Γ ms1 F1 H1 μ1 → Stp ms ms1 F F1 H H1 → YldP Γ J ds.P ds.ds ms1 F1 → R J H1
structure DIP (X : Cx) (cl : Nat → Addr) (tg e : Expr) (f : IFP) : Prop where
  p : PI X tg e (tIP (gm X cl) f)
/-- a list or a tuple, and what keeps it as it is -/
def srcD (μ : List MO) : D → Option (Bool × List D × (List MO → Prop))
  | .lst ds => some (false, ds, fun _ => True)
  | .tup ds => some (true, ds, fun _ => True)
  | .mut k => match μ[k]? with
    | some (.lst ds) => some (false, ds, fun μ => μ[k]? = some (.lst ds))
    | _ => none
  | _ => none
theorem srcD_ok {Γ : Gm} {ms0 : List Addr} {F0 H0 : Hp} {μ0 : List MO} {v : V} {d : D} {t : Bool} {ds : List D} {P : List MO → Prop} (r0 : HR Γ ms0 F0 H0 μ0) (h : Has Γ ms0 F0 v d) (e : srcD μ0 d = some (t, ds, P)) :
    ∃ a, v = .ref a ∧ P μ0 ∧ ∀ ms F H μ, HR Γ ms F H μ → Ext ms0 ms F0 F → P μ → ∃ xs, SqX Γ.K t H a xs ∧ HasL Γ ms F xs ds := by
  unfold srcD at e
  split at e
  · cases e
    obtain ⟨a, xs, rfl, hs, hl⟩ := h
    exact ⟨a, rfl, trivial, fun ms F H μ r x _ => ⟨xs, SqL.of (r.sub _ _ (x.fsub _ _ hs)), hl.ext x⟩⟩
  · cases e
    obtain ⟨a, xs, rfl, hs, hl⟩ := h
    exact ⟨a, rfl, trivial, fun ms F H μ r x _ => ⟨xs, (Tp.same r.sub (Tp.same x.fsub hs)).sq, hl.ext x⟩⟩
  · split at e
    · rename_i k ds' hk
      cases e
      obtain ⟨a, rfl, hm⟩ := h
      refine ⟨a, rfl, hk, fun ms F H μ r x hp => ?_⟩
      obtain ⟨new, rfl⟩ := x.new
      obtain ⟨a', ha', xs, hx, hl⟩ := r.obj _ _ hp
      rw [getP hm] at ha'; cases ha'
      exact ⟨xs, SqL.of hx, hl⟩
    · cases e
  · cases e
def enumC (c : Int) (ds : List D) : List D := ds.mapIdx fun i d => .tup [.int (c + (i : Nat)), d]
theorem enumC_length (c : Int) (ds : List D) : (enumC c ds).length = ds.length := by simp [enumC]
theorem enumC_get {c : Int} {ds : List D} {i : Nat} {d : D} (h : (enumC c ds)[i]? = some d) : ∃ x, ds[i]? = some x ∧ d = .tup [.int (c + (i : Nat)), x] := by
  unfold enumC at h
  rw [List.getElem?_mapIdx] at h
  cases e : ds[i]? with
  | none => rw [e] at h; cases h
  | some x => rw [e] at h; cases h; exact ⟨x, rfl, rfl⟩
theorem yld_enumX {Γ : Gm} {ms0 : List Addr} {F0 : Hp} {a : Addr} {t : Bool} {c : Int} {ds : List D} {P : List MO → Prop} (src : ∀ ms F H μ, HR Γ ms F H μ → Ext ms0 ms F0 F → P μ → ∃ xs, SqX Γ.K t H a xs ∧ HasL Γ ms F xs ds) : YldP Γ (IteS Γ.K t a c) P (enumC c ds) ms0 F0 where
  go := fun ms F H μ i r e hp hi => by
    obtain ⟨xs, hs, hl⟩ := src ms F H μ r e hp
    obtain ⟨x, hx⟩ := hl.bound (by rw [enumC_length] at hi; exact hi)
    exact ⟨xs, x, hs, hx⟩
  stop := fun ms F H μ r e hp => by
    obtain ⟨xs, hs, hl⟩ := src ms F H μ r e hp
    exact ⟨xs, hs, by rw [hl.length, enumC_length]⟩
  yld := fun ms F H μ i d x' H' r e hp hd y => by
    obtain ⟨xs, hs, hl⟩ := src ms F H μ r e hp
    obtain ⟨T, x, rfl, hT, rfl, y⟩ := y
    obtain ⟨dx, hx, rfl⟩ := enumC_get hd
    obtain ⟨v, hv, q⟩ := hl.get hx
    have hx' := y xs hs
    rw [hv] at hx'; cases hx'
    obtain ⟨r', s⟩ := r.alloc hT (.tup [.int (c + (i : Nat)), x])
    exact ⟨ms, _, r', s, T, _, rfl, Tp.of upd_same, _, _, rfl, rfl, _, _, rfl, q.step s, rfl⟩
end G

set_option Elab.async false
set_option linter.all false
set_option autoImplicit false
set_option maxRecDepth 100000
set_option maxHeartbeats 2000000
namespace G
open PySem PySem.Spec PySem.Calls L2
section
variable {X : Cx} {cl : Nat → Addr} {tg e a b c : Expr} {es : List Expr} {fe fa fb : EF} {pos : Pos} {r : AF} {n : NF} {st : Stmt} {sts : List Stmt} {f g : BF} {ix : List Nat}
def iEX (r : AF) : IFP := aThen r fun ds _ μ => match ds with
  | [x] => match srcD μ x with
    | some (_, xs, P) => some (⟨enumC 0 xs, P⟩, μ)
    | none => none
  | _ => none
theorem di_enumX {p tpos : Pos} {elts : List Expr} {kk : Nat} (hg : Gl X "enumerate") (hm : X.mg "enumerate" = none) (ha : DA X cl [e] r) (hs : starEach [e] X.env = [(false, eval e X.env)] := by rfl) : DIP X cl (.Tuple elts kk tpos) (.Call (.Name "enumerate" p) [e] [] pos) (iEX r) := ⟨(pi_enumS hg hm ha.p hs).weak fun σ H R ⟨O, ms, F, δ, μ, w, μ', S, ev, k⟩ => by
  obtain ⟨d1, μ1, e1, ev⟩ := aThen_some ev
  refine tA.seq S e1 fun v H1 ms1 F1 R1 s1 q1 => ?_
  split at ev
  · split at ev
    · rename_i x t xs P hq
      cases ev
      obtain ⟨v, rfl, hv⟩ := q1.one'
      obtain ⟨a, rfl, hP, src⟩ := srcD_ok R1.hr hv hq
      obtain ⟨ys, hs, hl⟩ := src ms1 F1 H1 _ R1.hr (Ext.refl _ _) hP
      exact ⟨t, a, ys, rfl, hs, k _ H1 ms1 F1 R1.hr s1 (yld_enumX (Γ := gm X cl) src)⟩
    · cases ev
  · cases ev⟩
def iEXk (r : AF) (fk : EF) : IFP := aThen r fun ds δ μ => match ds with
  | [x] => match fk δ μ with
    | some (.int c, μ1) => if -(2 ^ 63) ≤ c ∧ c < 2 ^ 63 then (match srcD μ1 x with
      | some (_, xs, P) => some (⟨enumC c xs, P⟩, μ1)
      | none => none) else none
    | _ => none
  | _ => none
theorem di_enumXk {p tpos kp : Pos} {elts : List Expr} {kk : Nat} {k : Expr} {fk : EF} (hg : Gl X "enumerate") (hm : X.mg "enumerate" = none) (ha : DA X cl [e] r) (hk : DE X cl k fk) (hs : starEach [e] X.env = (false, eval e X.env) :: starEach [] X.env := by rfl)
    (hall : (backToKw pos (keywordEach [⟨some "start", k, kp⟩] X.env)).all (·.1.isSome) = true := by rfl) (hpl : ((backTo pos (starEach [e] X.env)).any (·.1) || (backToKw pos (keywordEach [⟨some "start", k, kp⟩] X.env)).any (·.1.isNone)) = false := by rfl)
    (hks : (backToKw pos (keywordEach [⟨some "start", k, kp⟩] X.env)).filterMap (·.1) = [Str.ofString "start"] := by rfl) :
    DIP X cl (.Tuple elts kk tpos) (.Call (.Name "enumerate" p) [e] [⟨some "start", k, kp⟩] pos) (iEXk r fk) := ⟨(pi_enumK hg hm ha.p (pk_cons hk.p pk_nil) hs hall hpl hks).weak fun σ H R ⟨O, ms, F, δ, μ, w, μ', S, ev, k⟩ => by
  obtain ⟨d1, μ1, e1, ev⟩ := aThen_some ev
  refine tA.seq S e1 fun v H1 ms1 F1 R1 s1 q1 => ?_
  split at ev
  · split at ev
    · rename_i x c μ2 ek
      split at ev
      · rename_i hz
        split at ev
        · rename_i t xs P hq
          cases ev
          refine tE.seq R1 ek fun kv H2 ms2 F2 R2 s2 q2 => ?_
          obtain ⟨v, rfl, hv⟩ := q1.one'
          obtain ⟨a, rfl, hP, src⟩ := srcD_ok R2.hr (hv.step s2) hq
          obtain ⟨ys, hs, hl⟩ := src ms2 F2 H2 _ R2.hr (Ext.refl _ _) hP
          exact ⟨t, a, ys, c, rfl, by rw [show kv = .int c from q2], hz.1, hz.2, hs, k _ H2 ms2 F2 R2.hr (s1.trans' R1.hr s2) (yld_enumX (Γ := gm X cl) src)⟩
        · cases ev
      · cases ev
    · cases ev
  · cases ev⟩
/-- a list that may change, as it stands -/
def iLM (f : EF) : IFP := eThen f fun d _ μ => match srcD μ d with
  | some (false, ds, P) => some (⟨ds, P⟩, μ)
  | _ => none
theorem yld_listM {Γ : Gm} {ms0 : List Addr} {F0 : Hp} {a : Addr} {ds : List D} {P : List MO → Prop} (src : ∀ ms F H μ, HR Γ ms F H μ → Ext ms0 ms F0 F → P μ → ∃ xs, SqX Γ.K false H a xs ∧ HasL Γ ms F xs ds) : YldP Γ (Itl Γ.K a) P ds ms0 F0 where
  go := fun ms F H μ i r e hp hi => by
    obtain ⟨xs, hs, hl⟩ := src ms F H μ r e hp
    obtain ⟨x, hx⟩ := hl.bound hi
    exact ⟨xs, x, hs, hx⟩
  stop := fun ms F H μ r e hp => by
    obtain ⟨xs, hs, hl⟩ := src ms F H μ r e hp
    exact ⟨xs, hs, by rw [hl.length]; exact Nat.le_refl _⟩
  yld := fun ms F H μ i d x H' r e hp hd y => by
    obtain ⟨rfl, y⟩ := y
    obtain ⟨xs, hs, hl⟩ := src ms F H' μ r e hp
    obtain ⟨v, hv, q⟩ := hl.get hd
    have := y xs hs
    rw [hv] at this; cases this
    exact ⟨ms, F, r, Stp.refl _ _ _, q⟩
theorem di_listM (h : DE X cl e fe) : DIP X cl tg e (iLM fe) := ⟨(pi_list h.p).weak fun σ H R ⟨O, ms, F, δ, μ, ds, μ', S, ev, k⟩ => by
  obtain ⟨d1, μ1, e1, ev⟩ := eThen_some ev
  refine tE.seq S e1 fun v H1 ms1 F1 R1 s1 q1 => ?_
  split at ev
  · rename_i xs P hq
    cases ev
    obtain ⟨a, rfl, hP, src⟩ := srcD_ok R1.hr q1 hq
    obtain ⟨ys, hs, hl⟩ := src ms1 F1 H1 _ R1.hr (Ext.refl _ _) hP
    exact ⟨a, rfl, ⟨ys, hs⟩, k _ H1 ms1 F1 R1.hr s1 (yld_listM (Γ := gm X cl) src)⟩
  · cases ev⟩
/-! ### for -/
open Classical in
noncomputable def forLoopP (P : List MO → Prop) (g : GF) (body : BF) : List D → List SV → List MO → Option Out
  | [], δ, μ => if P μ then some (.nx δ μ) else none
  | d :: ds, δ, μ => if P μ then (match g d δ with
    | none => none
    | some δ1 => match body δ1 μ with
      | some (.nx δ2 μ2) => forLoopP P g body ds δ2 μ2
      | some (.ct δ2 μ2) => forLoopP P g body ds δ2 μ2
      | some (.bk δ2 μ2) => some (.nx δ2 μ2)
      | some (.rt d μ2) => some (.rt d μ2)
      | some (.xc C f m d δ2 μ2) => some (.xc C f m d δ2 μ2)
      | none => none) else none
noncomputable def bForP (i : IFP) (g : GF) (body : BF) : BF := fun δ μ => match i δ μ with
  | some (w, μ1) => forLoopP w.P g body w.ds δ μ1
  | none => none
theorem ds_forP {iter : Expr} {body : List Stmt} {fi : IFP} {tgt : GF} {bd : BF} (hp : PassesOwn (model X.prog X.w) X.A X.env X.xe) (hc : X.calm = true) (hi : DIP X cl tg iter fi) (hg : DG X cl tg tgt ix) (hb : DB X cl body bd)
    (hs : ∀ x, foldedSetIterable iter X.env x = pure x := by intro _; rfl) : DS X cl (.For tg iter body [] pos) (bForP fi tgt bd) := ⟨(ps_for hp hc hi.p hg.p hb.p hs).weak fun D σ H ⟨O, ms, F, δ, μ, o, R, ev, hO, k⟩ => by
  unfold bForP at ev
  split at ev
  · rename_i wk μ1 e1
    obtain ⟨ds, Pm⟩ := wk
    refine ⟨O, ms, F, δ, μ, ⟨ds, Pm⟩, μ1, R, e1, fun J H1 ms1 F1 r1 s1 Y => ?_⟩
    let P : Nat → L2.St → Hp → Prop := fun i σ H => ∃ ms F δ μ, SR (gm X cl) O ms F H σ δ μ ∧ Ext ms1 ms F1 F ∧ forLoopP Pm tgt bd (ds.drop i) δ μ = some o
    have k1 := k.step s1.ext
    refine ⟨fun i m σ H => m = ds.length - i ∧ i ≤ ds.length ∧ P i σ H, ⟨_, rfl, Nat.zero_le _, ms1, F1, δ, μ1, R.step r1 s1, Ext.refl _ _, by simpa using ev⟩, ?_⟩
    rintro i m σ2 H2 ⟨rfl, hi, ms2, F2, δ2, μ2, R2, x2, ev2⟩
    by_cases hlt : i < ds.length
    · have hd : ds[i]? = some ds[i] := List.getElem?_eq_getElem hlt
      rw [List.drop_eq_getElem_cons hlt] at ev2
      unfold forLoopP at ev2
      by_cases hP : Pm μ2
      rotate_left
      · rw [if_neg hP] at ev2; cases ev2
      rw [if_pos hP] at ev2
      refine .inr ⟨Y.go ms2 F2 H2 μ2 i R2.hr x2 hP hlt, P (i + 1), fun σ' H' p' => ⟨_, by omega, rfl, hlt, p'⟩, fun x H' y => ?_⟩
      obtain ⟨ms3, F3, r3, s3, q3⟩ := Y.yld ms2 F2 H2 μ2 i _ x H' R2.hr x2 hP hd y
      split at ev2
      · cases ev2
      · rename_i δ3 eg
        refine ⟨O, ms3, F3, δ2, μ2, _, δ3, R2.step r3 s3, q3, eg, fun σ4 R4 _ _ => ?_⟩
        have x3 : Ext ms1 ms3 F1 F3 := x2.trans s3.ext
        split at ev2
        · rename_i δ5 μ5 eb
          exact ⟨O, ms3, F3, δ3, μ2, _, R4, eb, hO, fun σ' H' m F' R' x => ⟨m, F', _, _, R', x3.trans x, ev2⟩⟩
        · rename_i δ5 μ5 eb
          exact ⟨O, ms3, F3, δ3, μ2, _, R4, eb, hO, fun σ' H' m F' R' x => ⟨m, F', _, _, R', x3.trans x, ev2⟩⟩
        · rename_i δ5 μ5 eb
          cases ev2
          exact ⟨O, ms3, F3, δ3, μ2, _, R4, eb, hO, fun σ' H' m F' R' x => k1 σ' H' m F' R' (x3.trans x)⟩
        · rename_i d5 μ5 eb
          cases ev2
          exact ⟨O, ms3, F3, δ3, μ2, _, R4, eb, hO, k1⟩
        · rename_i eb
          cases ev2
          exact ⟨O, ms3, F3, δ3, μ2, _, R4, eb, hO, k1.step x3⟩
        · cases ev2
    · have : i = ds.length := by omega
      subst this
      rw [List.drop_length] at ev2
      unfold forLoopP at ev2
      by_cases hP : Pm μ2
      rotate_left
      · rw [if_neg hP] at ev2; cases ev2
      rw [if_pos hP] at ev2
      cases ev2
      exact .inl ⟨Y.stop ms2 F2 H2 μ2 R2.hr x2 hP, k1 σ2 H2 ms2 F2 R2 x2⟩
  · cases ev⟩
end
end G

set_option Elab.async false
set_option linter.all false
set_option autoImplicit false
set_option maxRecDepth 100000
set_option maxHeartbeats 2000000
namespace G
open PySem PySem.Spec PySem.Calls L2
/-- an own function that may raise -/
structure HasFX (P : Program) (w : World) (K : PySem.W.Frag) (mg : Str → Option Value) (base : Heap) (cl : Nat → Addr) (k : Nat) (x : Str) (n : Nat) (ps : List Str) (fn : XF) where
  f : Addr
  fd : FuncData
  ok : FnX P w K mg base k f fd n ps (spXF (gk K cl) n fn)
  mg : mg x = some (.ref f)
  kp : PySem.W.keepIn K (.ref f) = true
  bd : Binds K fd ps []
/-- an own function, called where an exception is handled -/
structure HasH (P : Program) (w : World) (K : PySem.W.Frag) (mg : Str → Option Value) (base : Heap) (cl : Nat → Addr) (k : Nat) (x : Str) (n : Nat) (ps : List Str) (fn : FF) where
  f : Addr
  fd : FuncData
  ok : L2H.FnH P w K mg base CX0 k f fd ps (spF (gk K cl) n fn)
  mg : mg x = some (.ref f)
  kp : PySem.W.keepIn K (.ref f) = true
  bd : Binds K fd ps []
/-- f(..) as a value, f one that may raise but doesn't here -/
def eFnX (fn : XF) (r : AF) : EF := aThen r fun xs _ μ => match fn xs μ with
  | some (.ok d μ2) => some (d, μ2)
  | _ => none
theorem de_callX {X : Cx} {cl : Nat → Addr} {e : Expr} {es : List Expr} {pos p : Pos} {r : AF} {k n : Nat} {f : Addr} {fd : FuncData} {ps : List Str} {fn : XF} {x : Str} (Gf : FnX X.prog X.w X.K X.mg X.base k f fd n ps (spXF (gk X.K cl) n fn)) (hgd : X.A.guards = some []) (hr : Room k X.A) (hg : Gl X x) (hm : X.mg x = some (.ref f)) (hk : PySem.W.keepIn X.K (.ref f) = true) (hb : Binds X.K fd ps [])
    (ha : DA X cl (e :: es) r) (hlen : ∀ δ μ xs μ1, r δ μ = some (xs, μ1) → xs.length = n) (hdb : (x == ("__debug__" : Str)) = false := by decide) (he : starEach (e :: es) X.env = (false, eval e X.env) :: starEach es X.env := by rfl) (hpl : (backTo pos (starEach es X.env)).any (·.1) = false := by rfl) :
    DE X cl (.Call (.Name x p) (e :: es) [] pos) (eFnX fn r) := ⟨(pe_callFX Gf hgd hr hg hm hk hb ha.p hdb he hpl).weak fun σ H Q ⟨O, ms, F, δ, μ, d, μ', R, ev, kk⟩ => by
  obtain ⟨xs, μ1, e1, ev⟩ := aThen_some ev
  refine ⟨O, ms, F, δ, μ, xs, μ1, R, e1, fun vs H1 ms1 F1 r1 s1 q1 => ?_⟩
  split at ev
  · rename_i d2 μ2 e2
    cases ev
    exact ⟨ms1, F1, xs, μ1, _, r1.xp, q1.xp, hlen _ _ _ _ e1, e2, fun v H' ms' F' r' s' q' => kk v H' ms' F' r'.xp (s1.trans' r1 s') q'.xp⟩
  · cases ev⟩
theorem un1 {A : Around} (h : A.units + 65 < cLine) : A.units + 1 < cLine := by omega
theorem _root_.L2H.RoomH.mono' {k j : Nat} {A : Around} (r : L2H.RoomH k A) (h : j ≤ k) : L2H.RoomH j A := ⟨by have := r.dp; omega, by have := r.un; omega⟩
/-- what a table of pairs tells -/
def pairT (yes no : List (Nat × Nat)) (i j : Nat) : Option Bool := if (i, j) ∈ yes then some true else if (i, j) ∈ no then some false else none
theorem pairT_ok {yes no : List (Nat × Nat)} {R : Nat → Nat → Bool → Prop} (hy : ∀ p ∈ yes, R p.1 p.2 true) (hn : ∀ p ∈ no, R p.1 p.2 false) {i j : Nat} {b : Bool} (e : pairT yes no i j = some b) : R i j b := by
  unfold pairT at e
  split at e
  · rename_i h; cases e; exact hy _ h
  · split at e
    · rename_i h; cases e; exact hn _ h
    · cases e
end G

set_option Elab.async false
set_option linter.all false
set_option autoImplicit false
set_option maxRecDepth 100000
set_option maxHeartbeats 4000000
namespace GL
open PySem PySem.Spec PySem.Calls L2 G
/-! readings, by plain Lean: what speaks of no law -/
theorem lc_map {i : Nat} {te : EF} {δ : List SV} {μ : List MO} {h : D → D} : ∀ {ds : List D}, (∀ d ∈ ds, te (δ.set i (.d d)) μ = some (h d, μ)) → lcLoop (nmG i) tYesD te δ ds μ = some (ds.map h, μ)
  | [], _ => rfl
  | d :: ds, q => by
    have e := q d (List.mem_cons_self ..)
    have r := lc_map (ds := ds) fun x hx => q x (List.mem_cons_of_mem _ hx)
    unfold lcLoop
    simp only [nmG, tYesD, e]
    rw [show lcLoop (nmG i) tYesD te δ ds μ = some (ds.map h, μ) from r]
    rfl
theorem lc_filter {i : Nat} {tt : TF} {te : EF} {δ : List SV} {μ : List MO} {p : D → Bool} : ∀ {ds : List D}, (∀ d ∈ ds, tt (δ.set i (.d d)) μ = some (p d, μ)) → (∀ d ∈ ds, te (δ.set i (.d d)) μ = some (d, μ)) → lcLoop (nmG i) tt te δ ds μ = some (ds.filter p, μ)
  | [], _, _ => rfl
  | d :: ds, q, q' => by
    have e := q d (List.mem_cons_self ..)
    have e' := q' d (List.mem_cons_self ..)
    have r := lc_filter (ds := ds) (fun x hx => q x (List.mem_cons_of_mem _ hx)) (fun x hx => q' x (List.mem_cons_of_mem _ hx))
    unfold lcLoop
    simp only [nmG, e]
    cases hp : p d with
    | false =>
      simp only
      rw [show lcLoop (nmG i) tt te δ ds μ = _ from r, List.filter_cons_of_neg (by simp [hp])]
    | true =>
      simp only [e']
      rw [show lcLoop (nmG i) tt te δ ds μ = _ from r, List.filter_cons_of_pos hp]
abbrev sg (c : Nat) : D := .str ⟨#[c]⟩
theorem lt_one (a b : Nat) : (([a] : List Nat) < [b]) ↔ a < b := by
  rw [List.cons_lt_cons_iff]
  simp
theorem le_lo (c k : Nat) (x : Str) (hx : x.cps.toList = [k]) (μ : List MO) : leD (.str x) (sg c) μ = some (.bl (decide (k ≤ c)), μ) := by
  simp [leD, hx, lt_one, ← Nat.not_lt]
theorem le_hi (c k : Nat) (x : Str) (hx : x.cps.toList = [k]) (μ : List MO) : leD (sg c) (.str x) μ = some (.bl (decide (c ≤ k)), μ) := by
  simp [leD, hx, lt_one, ← Nat.not_lt]
theorem bls_map (p : Nat → Bool) : ∀ cs : List Nat, blsD (cs.map fun c => D.bl (p c)) = some (cs.map p)
  | [] => rfl
  | c :: cs => by
    show blsD (D.bl (p c) :: cs.map _) = _
    unfold blsD
    rw [bls_map p cs]
    rfl
theorem all_id (p : Nat → Bool) (cs : List Nat) : (cs.map p).all id = cs.all p := by induction cs <;> simp_all
def inSp (c : Nat) : Bool := decide (32 ≤ c) && decide (c ≤ 126)
theorem cps_len (s : Str) : s.cps.toList.length = s.length := by simp [Str.length]
theorem ss : (" " : Str).cps.toList = [32] := by decide
theorem st : ("~" : Str).cps.toList = [126] := by decide
def onS (p : Nat → Bool) : D → Bool
  | .str x => p (x.cps.getD 0 0)
  | _ => false
theorem onS_sg (p : Nat → Bool) (c : Nat) : onS p (sg c) = p c := rfl
theorem map_signs (p : Nat → Bool) (s : Str) : (signsD s).map (fun d => D.bl (onS p d)) = s.cps.toList.map fun c => D.bl (p c) := by
  unfold signsD
  rw [List.map_map]
  rfl
theorem run_ask {n : Nat} {t : TF} {e : EF} {ds : List D} {μ μ1 μ2 : List MO} {b : Bool} {d : D} (ht : t (startD n ds) μ = some (b, μ1)) (he : b = false → e (startD n ds) μ1 = some (d, μ2)) (hb : b = true → d = .bl false ∧ μ2 = μ1) :
    runB n (bThen (bIf t (bRet (eC (.bl false))) bNil) (bRet e)) ds μ = some (d, μ2) := by
  cases b with
  | true =>
    obtain ⟨rfl, rfl⟩ := hb rfl
    simp [runB, bThen, bIf, ht, bRet, eC]
  | false =>
    simp [runB, bThen, bIf, ht, bRet, bNil, he rfl]
theorem run_ret {n : Nat} {e : EF} {ds : List D} {μ μ1 : List MO} {d : D} (he : e (startD n ds) μ = some (d, μ1)) : runB n (bRet e) ds μ = some (d, μ1) := by simp [runB, bRet, he]
theorem len_str (s : Str) (hl : s.length ≤ 100) (i : Nat) (δ : List SV) (μ : List MO) (h : δ[i]? = some (.d (.str s))) : eCall lenD (aCons (eVar i) aNil) δ μ = some (.int s.length, μ) := by
  simp [eCall, aThen, aCons, aNil, eVar, eThen, h, lenD, show s.length ≤ 1000000 by omega]
theorem asB_eq {f : EF} {δ : List SV} {μ μ1 : List MO} {b : Bool} (h : f δ μ = some (.bl b, μ1)) : asB f δ μ = some (b, μ1) := by simp [asB, h]
theorem not_eq {f : TF} {δ : List SV} {μ μ1 : List MO} {b : Bool} (h : f δ μ = some (b, μ1)) : tfNot f δ μ = some (!b, μ1) := by simp [tfNot, G.tThen, h]
theorem or_eq {f g : TF} {δ : List SV} {μ μ1 : List MO} {a b : Bool} (h : f δ μ = some (a, μ1)) (h2 : a = false → g δ μ1 = some (b, μ1)) : tfOr f g δ μ = some (a || b, μ1) := by
  cases a with
  | true => simp [tfOr, G.tThen, h]
  | false => simp [tfOr, G.tThen, h, h2 rfl]
theorem and_eq {f g : EF} {δ : List SV} {μ μ1 : List MO} {a b : Bool} (h : f δ μ = some (.bl a, μ1)) (h2 : a = true → g δ μ1 = some (.bl b, μ1)) : eAndV f g δ μ = some (.bl (a && b), μ1) := by
  cases a with
  | false => simp [eAndV, eThen, h]
  | true => simp [eAndV, eThen, h, h2 rfl]
theorem ch_le (a b c : Int) {fa fb fc : EF} {δ : List SV} {μ : List MO} (h1 : fa δ μ = some (.int a, μ)) (h2 : fb δ μ = some (.int b, μ)) (h3 : fc δ μ = some (.int c, μ)) : eChain leD leD fa fb fc δ μ = some (.bl (decide (a ≤ b) && decide (b ≤ c)), μ) := by
  by_cases q : a ≤ b <;> simp [eChain, eThen, h1, h2, h3, leD, q]
theorem ch_lt (a b c : Int) {fa fb fc : EF} {δ : List SV} {μ : List MO} (h1 : fa δ μ = some (.int a, μ)) (h2 : fb δ μ = some (.int b, μ)) (h3 : fc δ μ = some (.int c, μ)) : eChain ltD ltD fa fb fc δ μ = some (.bl (decide (a < b) && decide (b < c)), μ) := by
  by_cases q : a < b <;> simp [eChain, eThen, h1, h2, h3, ltD, q]
theorem signs_len (s : Str) : (signsD s).length = s.length := by simp [signsD, Str.length]
theorem all_eq {n : NF} {xs : List D} {bs : List Bool} {δ : List SV} {μ : List MO} (h : n δ μ = some (xs, μ)) (hb : blsD xs = some bs) : eCall allD (aCons (eFrz n) aNil) δ μ = some (.bl (bs.all id), μ) := by
  simp [eCall, aThen, aCons, aNil, eThen, eFrz, h, allD, hb]
theorem lc_str {i j : Nat} {p : Nat → Bool} {te : EF} {s : Str} {δ : List SV} {μ : List MO} (h : δ[i]? = some (.d (.str s))) (hl : s.length ≤ 100) (hj : j < δ.length) (q : ∀ (c : Nat) (δ' : List SV), δ'[j]? = some (.d (sg c)) → te δ' μ = some (.bl (p c), μ)) :
    nLc (iS (eVar i)) (nmG j) tYesD te [j] δ μ = some (s.cps.toList.map (fun c => D.bl (p c)), μ) := by
  have lc : lcLoop (nmG j) tYesD te (wipeD δ [j]) (signsD s) μ = some ((signsD s).map (fun d => D.bl (onS p d)), μ) := by
    refine lc_map fun d hd => ?_
    obtain ⟨c, hc, rfl⟩ := List.mem_map.mp hd
    refine q c _ ?_
    simp [wipeD, hj]
  rw [map_signs] at lc
  simp [nLc, iS, eThen, eVar, h, signs_len, show s.length ≤ 1000000 by omega, lc]
theorem dec_nat (a b : Nat) : decide ((a : Int) ≤ (b : Int)) = decide (a ≤ b) := by simp
theorem run_set {n i : Nat} {f e : EF} {ds : List D} {μ μ1 μ2 : List MO} {x d : D} (hf : f (startD n ds) μ = some (x, μ1)) (he : e ((startD n ds).set i (.d x)) μ1 = some (d, μ2)) : runB n (bThen (bSet i f) (bRet e)) ds μ = some (d, μ2) := by
  simp [runB, bThen, bSet, hf, bRet, he]
theorem lc_flt {i j : Nat} {p : Nat → Bool} {tt : TF} {s : Str} {δ : List SV} {μ : List MO} (h : δ[i]? = some (.d (.str s))) (hl : s.length ≤ 100) (hj : j < δ.length) (hi : i ≠ j) (q : ∀ (c : Nat) (δ' : List SV), δ'[j]? = some (.d (sg c)) → (∀ m, m ≠ j → δ'[m]? = δ[m]?) → tt δ' μ = some (p c, μ)) :
    nLc (iS (eVar i)) (nmG j) tt (eVar j) [j] δ μ = some ((s.cps.toList.filter p).map sg, μ) := by
  have lc : lcLoop (nmG j) tt (eVar j) (wipeD δ [j]) (signsD s) μ = some ((signsD s).filter (onS p), μ) := by
    refine lc_filter (fun d hd => ?_) fun d hd => ?_
    · obtain ⟨c, hc, rfl⟩ := List.mem_map.mp hd
      refine q c _ (by simp [wipeD, hj]) fun m hm => ?_
      rw [List.getElem?_set_ne (Ne.symm hm)]
      simp [wipeD, List.getElem?_set_ne (Ne.symm hm)]
    · obtain ⟨c, hc, rfl⟩ := List.mem_map.mp hd
      simp [eVar, wipeD, hj]
  have fm : (signsD s).filter (onS p) = (s.cps.toList.filter p).map sg := by
    unfold signsD
    rw [List.filter_map]
    rfl
  rw [fm] at lc
  simp [nLc, iS, eThen, eVar, h, signs_len, show s.length ≤ 1000000 by omega, lc]
theorem toPyL_sg (μ : List MO) (n : Nat) : ∀ cs : List Nat, toPyL (toPy μ (n + 1)) (cs.map sg) = some (cs.map fun c => PyData.str ⟨#[c]⟩)
  | [] => rfl
  | c :: cs => by
    show toPyL _ (sg c :: cs.map sg) = _
    unfold toPyL
    rw [toPyL_sg μ n cs]
    rfl
theorem canL_sg : ∀ cs : List Nat, (∀ c ∈ cs, c < 128) → PyData.canLayAll0 (cs.map fun c => PyData.str ⟨#[c]⟩) = true
  | [], _ => rfl
  | c :: cs, h => by
    have h1 := h c (List.mem_cons_self ..)
    simp only [List.map_cons, PyData.canLayAll0, PyData.canLay0, Bool.and_eq_true]
    exact ⟨by simp [PyData.strOk]; omega, canL_sg cs fun x hx => h x (List.mem_cons_of_mem _ hx)⟩
theorem depthL_sg : ∀ cs : List Nat, PyData.depthAll (cs.map fun c => PyData.str ⟨#[c]⟩) = 0
  | [] => rfl
  | c :: cs => by simp only [List.map_cons, PyData.depthAll, PyData.depth, depthL_sg cs]; rfl
theorem eq_nil (cs : List Nat) (h : ∀ c ∈ cs, c < 128) (μ : List MO) : eqD (.lst (cs.map sg)) (.lst []) μ = some (.bl cs.isEmpty, μ) := by
  have a1 : toPy μ DEEP (.lst (cs.map sg)) = some (.list (cs.map fun c => PyData.str ⟨#[c]⟩)) := by
    show (toPyL (toPy μ 15) (cs.map sg)).map _ = _
    rw [toPyL_sg]
    rfl
  have a2 : toPy μ DEEP (.lst []) = some (.list []) := rfl
  have a3 : shp (.list (cs.map fun c => PyData.str ⟨#[c]⟩)) = true := by
    simp only [shp, SeqAt.shaped, PyData.canLay0, canL_sg cs h, PyData.depth, depthL_sg]
    decide
  have a4 : shp (.list []) = true := by decide +kernel
  have a5 : PyData.eqv (.list (cs.map fun c => PyData.str ⟨#[c]⟩)) (.list []) = cs.isEmpty := by
    cases cs <;> simp [PyData.eqv, PyData.eqvAll]
  simp [eqD, eqP, a1, a2, a3, a4, a5]
theorem eqn_at {n : NF} {cs : List Nat} {δ : List SV} {μ : List MO} (h : n δ μ = some (cs.map sg, μ)) (hc : ∀ c ∈ cs, c < 128) : eBin eqD (eFrz n) (eFrz (nLst aNil)) δ μ = some (.bl cs.isEmpty, μ) := by
  have e := eq_nil cs hc μ
  simp [eBin, eThen, eFrz, h, nLst, aNil, e]
theorem flt_empty (p : Nat → Bool) (cs : List Nat) : (cs.filter fun c => !p c).isEmpty = cs.all p := by
  induction cs with
  | nil => rfl
  | cons c cs ih => cases h : p c <;> simp [h, ih]
theorem atI_of {α : Type} {xs : List α} {d : Int} (h0 : 0 ≤ d) (h1 : d < xs.length) : ∃ x, L2.atI xs d = some x ∧ x ∈ xs := by
  have hz : d.toNat < xs.length := by omega
  refine ⟨xs[d.toNat], ?_, List.getElem_mem hz⟩
  simp [L2.atI, L2.ixN, h0, h1, hz]
theorem ix_lst {xs : List D} {d : Int} {μ : List MO} (h0 : 0 ≤ d) (h1 : d < xs.length) : ∃ x, ixD (.lst xs) (.int d) μ = some (x, μ) ∧ x ∈ xs := by
  obtain ⟨x, e, m⟩ := atI_of h0 h1
  exact ⟨x, by simp [ixD, seqD, e], m⟩
theorem ix_str {s : Str} {d : Int} {μ : List MO} (hl : s.length ≤ 1000) (h0 : 0 ≤ d) (h1 : d < s.length) : ∃ c, ixD (.str s) (.int d) μ = some (sg c, μ) ∧ c ∈ s.cps.toList := by
  obtain ⟨x, e, m⟩ := atI_of (xs := s.cps.toList) h0 (by rw [cps_len]; exact h1)
  exact ⟨x, by simp [ixD, e, show s.length ≤ 1000000 by omega], m⟩
theorem ixe {fx fy : EF} {δ : List SV} {μ μ1 μ2 : List MO} {x y z : D} (h1 : fx δ μ = some (x, μ1)) (h2 : fy δ μ1 = some (y, μ2)) (h3 : ixD x y μ2 = some (z, μ2)) : eBin ixD fx fy δ μ = some (z, μ2) := by
  simp [eBin, eThen, h1, h2, h3]
theorem aC {f : EF} {r : AF} {δ : List SV} {μ μ1 μ2 : List MO} {x : D} {xs : List D} (h1 : f δ μ = some (x, μ1)) (h2 : r δ μ1 = some (xs, μ2)) : aCons f r δ μ = some (x :: xs, μ2) := by simp [aCons, eThen, h1, h2]
theorem frz {r : AF} {δ : List SV} {μ μ1 : List MO} {xs : List D} (h : r δ μ = some (xs, μ1)) (hl : xs.length ≤ 100) : eFrz (nLst r) δ μ = some (.lst xs, μ1) := by simp [eFrz, nLst, h, show xs.length ≤ 1000000 by omega]
theorem subE {fa fb : EF} {δ : List SV} {μ μ1 μ2 : List MO} {a b : Int} (h1 : fa δ μ = some (.int a, μ1)) (h2 : fb δ μ1 = some (.int b, μ2)) : eBin subD fa fb δ μ = some (.int (a - b), μ2) := by simp [eBin, eThen, h1, h2, subD]
theorem addE {fa fb : EF} {δ : List SV} {μ μ1 μ2 : List MO} {a b : Int} (h1 : fa δ μ = some (.int a, μ1)) (h2 : fb δ μ1 = some (.int b, μ2)) : eBin addD fa fb δ μ = some (.int (a + b), μ2) := by simp [eBin, eThen, h1, h2, addD]
theorem addS {fa fb : EF} {δ : List SV} {μ μ1 μ2 : List MO} {a b : Str} (h1 : fa δ μ = some (.str a, μ1)) (h2 : fb δ μ1 = some (.str b, μ2)) (hl : a.length + b.length ≤ 1000) : eBin addD fa fb δ μ = some (.str (a ++ b), μ2) := by simp [eBin, eThen, h1, h2, addD, show a.length + b.length ≤ 1000000 by omega]
theorem ret_eq {f : EF} {δ : List SV} {μ μ1 : List MO} {d : D} (h : f δ μ = some (d, μ1)) : bRet f δ μ = some (.rt d μ1) := by simp [bRet, h]
theorem if_t {t : TF} {fa fb : EF} {δ : List SV} {μ μ1 : List MO} {r : D × List MO} (ht : t δ μ = some (true, μ1)) (h : fa δ μ1 = some r) : eIf t fa fb δ μ = some r := by simp [eIf, G.tThen, ht, h]
theorem if_f {t : TF} {fa fb : EF} {δ : List SV} {μ μ1 : List MO} {r : D × List MO} (ht : t δ μ = some (false, μ1)) (h : fb δ μ1 = some r) : eIf t fa fb δ μ = some r := by simp [eIf, G.tThen, ht, h]
theorem then_set {i : Nat} {f : EF} {g : BF} {δ : List SV} {μ μ1 : List MO} {x : D} (h : f δ μ = some (x, μ1)) : bThen (bSet i f) g δ μ = g (δ.set i (.d x)) μ1 := by simp [bThen, bSet, h]
theorem run_of {n : Nat} {b : BF} {ds : List D} {μ μ1 : List MO} {d : D} (h : b (startD n ds) μ = some (.rt d μ1)) : runB n b ds μ = some (d, μ1) := by simp [runB, h]
theorem eq_int {fa fb : EF} {δ : List SV} {μ μ1 μ2 : List MO} {a b : Int} (h1 : fa δ μ = some (.int a, μ1)) (h2 : fb δ μ1 = some (.int b, μ2)) : eBin eqD fa fb δ μ = some (.bl (decide (a = b)), μ2) := by
  by_cases q : a = b <;> simp [eBin, eThen, h1, h2, eqD, eqP, toPy, shp, SeqAt.shaped, PyData.canLay0, PyData.depth, PyData.eqv, q]
theorem ask_ret {t : TF} {e : EF} {g : BF} {δ : List SV} {μ μ1 μ2 : List MO} {d : D} (h : t δ μ = some (true, μ1)) (h2 : e δ μ1 = some (d, μ2)) : bThen (bIf t (bRet e) bNil) g δ μ = some (.rt d μ2) := by simp [bThen, bIf, h, bRet, h2]
theorem ask_on {t : TF} {b : BF} {g : BF} {δ : List SV} {μ μ1 : List MO} (h : t δ μ = some (false, μ1)) : bThen (bIf t b bNil) g δ μ = g δ μ1 := by simp [bThen, bIf, h, bNil]
theorem cut_mem (z : Str) (lo hi : Option Int) : (∀ c ∈ (cutS z lo hi).cps.toList, c ∈ z.cps.toList) ∧ (cutS z lo hi).length ≤ z.length := by
  constructor
  · intro c hc
    have : c ∈ ((z.cps.toList.drop (HT.sIx z.length 0 lo)).take (HT.sIx z.length z.length hi - HT.sIx z.length 0 lo)) := by simpa [cutS] using hc
    exact List.mem_of_mem_drop (List.mem_of_mem_take this)
  · show ((z.cps.toList.drop (HT.sIx z.length 0 lo)).take (HT.sIx z.length z.length hi - HT.sIx z.length 0 lo)).toArray.size ≤ _
    rw [List.size_toArray, List.length_take, List.length_drop, cps_len]
    omega
theorem cut_len (z : Str) (lo hi : Option Int) : (cutS z lo hi).length = min (HT.sIx z.length z.length hi - HT.sIx z.length 0 lo) (z.length - HT.sIx z.length 0 lo) := by
  show ((z.cps.toList.drop (HT.sIx z.length 0 lo)).take (HT.sIx z.length z.length hi - HT.sIx z.length 0 lo)).toArray.size = _
  rw [List.size_toArray, List.length_take, List.length_drop, cps_len]
theorem slE {f : EF} {lo hi : PF} {δ : List SV} {μ : List MO} {z : Str} {l h : Option Int} (h1 : f δ μ = some (.str z, μ)) (h2 : lo δ μ = some (l, μ)) (h3 : hi δ μ = some (h, μ)) (hl : z.length ≤ 1000) : eSlS f lo hi δ μ = some (.str (cutS z l h), μ) := by
  simp [eSlS, eThen, h1, h2, h3, show z.length ≤ 1000000 by omega]
theorem soE {f : EF} {δ : List SV} {μ : List MO} {i : Int} (h : f δ μ = some (.int i, μ)) : pSo f δ μ = some (some i, μ) := by simp [pSo, eThen, h]
theorem joinL_one : ∀ cs : List Nat, TL.joinL [] (cs.map fun c => [c]) = cs
  | [] => rfl
  | [c] => rfl
  | c :: d :: r => by
    show [c] ++ ([] ++ TL.joinL [] ((d :: r).map fun c => [c])) = _
    rw [joinL_one (d :: r)]
    rfl
theorem join_sg (cs : List Nat) : (Txt.join "" (cs.map fun c => (⟨#[c]⟩ : Str))).cps.toList = cs := by
  rw [TL.join_eq]
  refine (TL.tl_join "" _).trans ?_
  rw [List.map_map]
  exact joinL_one cs
theorem strs_sg : ∀ cs : List Nat, strsD (cs.map sg) = some (cs.map fun c => (⟨#[c]⟩ : Str))
  | [] => rfl
  | c :: cs => by
    show strsD (sg c :: cs.map sg) = _
    unfold strsD
    rw [strs_sg cs]
    rfl
theorem sum_sg : ∀ cs : List Nat, ((cs.map fun c => (⟨#[c]⟩ : Str)).map (·.length)).sum = cs.length
  | [] => rfl
  | c :: cs => by
    rw [List.map_cons, List.map_cons, List.sum_cons, sum_sg cs, List.length_cons]
    show 1 + _ = _
    omega
theorem join_ok (cs : List Nat) (hl : cs.length ≤ 1000) (μ : List MO) : joinD (.str "") [.lst (cs.map sg)] μ = some (.str (Txt.join "" (cs.map fun c => (⟨#[c]⟩ : Str))), μ) := by
  have e0 : ("" : Str).length = 0 := rfl
  simp only [joinD, seqD, strs_sg, sum_sg, List.length_map, e0, Nat.mul_zero, Nat.add_zero]
  rw [if_pos (by omega)]
theorem join_len (cs : List Nat) : (Txt.join "" (cs.map fun c => (⟨#[c]⟩ : Str))).length = cs.length := by
  rw [← cps_len, join_sg]
theorem range_len (n : Nat) : (rangeD 0 n).length = n := by simp [rangeD]
theorem mtE {T : String} {g : D → G1} {fo : EF} {r : AF} {δ : List SV} {μ μ1 μ2 : List MO} {x : D} {ds : List D} {z : D × List MO} (h1 : fo δ μ = some (x, μ1)) (h2 : tyB T μ1 x = true) (h3 : r δ μ1 = some (ds, μ2)) (h4 : g x ds μ2 = some z) : eMt T g fo r δ μ = some z := by
  simp [eMt, eThen, h1, h2, aThen, h3, h4]
theorem frzE {n : NF} {δ : List SV} {μ μ1 : List MO} {xs : List D} (h : n δ μ = some (xs, μ1)) : eFrz n δ μ = some (.lst xs, μ1) := by simp [eFrz, h]
theorem fnE {fn : FF} {r : AF} {δ : List SV} {μ μ1 : List MO} {xs : List D} {z : D × List MO} (h : r δ μ = some (xs, μ1)) (h2 : fn xs μ1 = some z) : eFn fn [] r δ μ = some z := by simp [eFn, aThen, h, h2]
theorem then_for {it : IF} {g : GF} {body k : BF} {ds : List D} {δ δ' : List SV} {μ μ1 μ2 : List MO} (h : it δ μ = some (ds, μ1)) (h2 : forLoop g body ds δ μ1 = some (.nx δ' μ2)) : bThen (bFor it g body) k δ μ = k δ' μ2 := by simp [bThen, bFor, h, h2]
theorem for_eq {it : IF} {g : GF} {body : BF} {ds : List D} {δ : List SV} {μ μ1 : List MO} {o : Option Out} (h : it δ μ = some (ds, μ1)) (h2 : forLoop g body ds δ μ1 = o) : bFor it g body δ μ = o := by simp [bFor, h, h2]
theorem if_nx {t : TF} {b : BF} {δ : List SV} {μ μ1 : List MO} (h : t δ μ = some (false, μ1)) : bIf t b bNil δ μ = some (.nx δ μ1) := by simp [bIf, h, bNil]
theorem var_at {i : Nat} {x : D} {δ : List SV} {μ : List MO} (h : δ[i]? = some (.d x)) : eVar i δ μ = some (x, μ) := by simp [eVar, h]
theorem a_nil (δ : List SV) (μ : List MO) : aNil δ μ = some ([], μ) := rfl
theorem fn1 {fn : FF} {i : Nat} {x z : D} {δ : List SV} {μ : List MO} (h : δ[i]? = some (.d x)) (e : fn [x] μ = some (z, μ)) : eFn fn [] (aCons (eVar i) aNil) δ μ = some (z, μ) := fnE (aC (var_at h) (a_nil _ _)) e
theorem callE {g : G1} {r : AF} {δ : List SV} {μ μ1 : List MO} {xs : List D} {z : D × List MO} (h : r δ μ = some (xs, μ1)) (h2 : g xs μ1 = some z) : eCall g r δ μ = some z := by simp [eCall, aThen, h, h2]
theorem for_two {J : List SV → Prop} {i : Nat} {body : BF} : ∀ {ds : List D}, (∀ d ∈ ds, ∀ δ μ, J δ → ∃ δ' μ', body (δ.set i (.d d)) μ = some (.nx δ' μ') ∧ J δ') → ∀ δ μ, J δ → ∃ δ' μ', forLoop (nmG i) body ds δ μ = some (.nx δ' μ') ∧ J δ'
  | [], _, δ, μ, h => ⟨δ, μ, rfl, h⟩
  | d :: ds, q, δ, μ, h => by
    obtain ⟨δ1, μ1, e1, h1⟩ := q d (List.mem_cons_self ..) δ μ h
    obtain ⟨δ2, μ2, e2, h2⟩ := for_two (ds := ds) (fun x hx => q x (List.mem_cons_of_mem _ hx)) δ1 μ1 h1
    refine ⟨δ2, μ2, ?_, h2⟩
    unfold forLoop
    simp only [nmG, e1]
    exact e2
theorem ch_text (c i : Nat) (δ : List SV) (μ : List MO) (h : δ[i]? = some (.d (sg c))) : eChain leD leD (eC (.str " ")) (eVar i) (eC (.str "~")) δ μ = some (.bl (inSp c), μ) := by
  have e1 := le_lo c 32 " " ss μ
  have e2 := le_hi c 126 "~" st μ
  by_cases q : 32 ≤ c <;> simp [eChain, eThen, eC, eVar, h, e1, e2, inSp, q]
theorem ord_at (c i : Nat) (δ : List SV) (μ : List MO) (h : δ[i]? = some (.d (sg c))) : eBin neD (eCall ordD (aCons (eVar i) aNil)) (eC (.int 37)) δ μ = some (.bl (decide (c ≠ 37)), μ) := by
  by_cases q : c = 37 <;> simp [eBin, eThen, eCall, aThen, aCons, aNil, eVar, eC, h, ordD, Str.length, neD, eqP, toPy, shp, SeqAt.shaped, PyData.canLay0, PyData.depth, PyData.eqv, q] <;> omega
theorem eq_str {fa fb : EF} {δ : List SV} {μ μ1 μ2 : List MO} {a b : Str} (h1 : fa δ μ = some (.str a, μ1)) (h2 : fb δ μ1 = some (.str b, μ2)) : eBin eqD fa fb δ μ = some (.bl (decide (a = b)), μ2) := by simp [eBin, eThen, h1, h2, eqD]
theorem ne_str {fa fb : EF} {δ : List SV} {μ μ1 μ2 : List MO} {a b : Str} (h1 : fa δ μ = some (.str a, μ1)) (h2 : fb δ μ1 = some (.str b, μ2)) : eBin neD fa fb δ μ = some (.bl (!decide (a = b)), μ2) := by simp [eBin, eThen, h1, h2, neD]
theorem notV_eq {f : EF} {δ : List SV} {μ μ1 : List MO} {b : Bool} (h : f δ μ = some (.bl b, μ1)) : eNotV f δ μ = some (.bl (!b), μ1) := by simp [eNotV, eThen, h]
theorem tand_eq {f g : TF} {δ : List SV} {μ μ1 : List MO} {a b : Bool} (h : f δ μ = some (a, μ1)) (h2 : a = true → g δ μ1 = some (b, μ1)) : tfAnd f g δ μ = some (a && b, μ1) := by
  cases a with
  | false => simp [tfAnd, G.tThen, h]
  | true => simp [tfAnd, G.tThen, h, h2 rfl]
theorem orV_eq {f g : EF} {δ : List SV} {μ μ1 : List MO} {a b : Bool} (h : f δ μ = some (.bl a, μ1)) (h2 : a = false → g δ μ1 = some (.bl b, μ1)) : eOrV f g δ μ = some (.bl (a || b), μ1) := by
  cases a with
  | true => simp [eOrV, eThen, h]
  | false => simp [eOrV, eThen, h, h2 rfl]
theorem gtE {fa fb : EF} {δ : List SV} {μ μ1 μ2 : List MO} {a b : Int} (h1 : fa δ μ = some (.int a, μ1)) (h2 : fb δ μ1 = some (.int b, μ2)) : eBin gtD fa fb δ μ = some (.bl (decide (b < a)), μ2) := by simp [eBin, eThen, h1, h2, gtD]
theorem ltE {fa fb : EF} {δ : List SV} {μ μ1 μ2 : List MO} {a b : Int} (h1 : fa δ μ = some (.int a, μ1)) (h2 : fb δ μ1 = some (.int b, μ2)) : eBin ltD fa fb δ μ = some (.bl (decide (a < b)), μ2) := by simp [eBin, eThen, h1, h2, ltD]
theorem then_expr {f : EF} {g : BF} {δ : List SV} {μ μ1 : List MO} {x : D} (h : f δ μ = some (x, μ1)) : bThen (bExpr f) g δ μ = g δ μ1 := by simp [bThen, bExpr, h]
theorem then_nx {f g : BF} {δ δ1 : List SV} {μ μ1 : List MO} (h : f δ μ = some (.nx δ1 μ1)) : bThen f g δ μ = g δ1 μ1 := by simp [bThen, h]
theorem then_rt {f g : BF} {δ : List SV} {μ μ1 : List MO} {d : D} (h : f δ μ = some (.rt d μ1)) : bThen f g δ μ = some (.rt d μ1) := by simp [bThen, h]
theorem then_xc {f g : BF} {δ δ1 : List SV} {μ μ1 : List MO} {C : Nat} {x m : Str} {d : D} (h : f δ μ = some (.xc C x m d δ1 μ1)) : bThen f g δ μ = some (.xc C x m d δ1 μ1) := by simp [bThen, h]
theorem if_at {t : TF} {a b : BF} {δ : List SV} {μ μ1 : List MO} {c : Bool} (h : t δ μ = some (c, μ1)) : bIf t a b δ μ = if c = true then a δ μ1 else b δ μ1 := by simp [bIf, h]

end GL

set_option Elab.async false
set_option linter.all false
set_option autoImplicit false
set_option maxRecDepth 100000
set_option maxHeartbeats 2000000
namespace G
open PySem PySem.Spec PySem.Calls L2 PyProof.Rows
section
variable {X : Cx} {cl : Nat → Addr}
/-! ### text.index, list.pop -/
def indexS : D → G1 := fun x ds μ => match x, ds with
  | .str a, [.str b] => match Builtin.Str.occurrences a b 0 a.length 1 with
    | i :: _ => some (.int (i : Nat), μ)
    | [] => none
  | _, _ => none
theorem md_indexS : MtD X cl "str.index" indexS := by
  intro ms F H μ x vs dx ds d μ' Q r hx hv ev k
  unfold indexS at ev
  split at ev
  · split at ev
    · rename_i i rest ho
      cases ev
      obtain ⟨v, rfl, hb⟩ := hv.one'
      exact ⟨_, mt_sindex, _, _, i, rest, hx, by rw [hb], ho, k.imm r rfl⟩
    · cases ev
  · cases ev
theorem HasL.dropLast {Γ : Gm} {ms : List Addr} {F : Hp} {vs : List V} {ds : List D} (h : HasL Γ ms F vs ds) : HasL Γ ms F vs.dropLast ds.dropLast := by
  rw [List.dropLast_eq_take, List.dropLast_eq_take, h.length]
  exact h.take _
def popD : D → G1 := fun x ds μ => match x, ds with
  | .mut k, [] => match μ[k]? with
    | some (.lst xs) => match xs[xs.length - 1]? with
      | some y => some (y, μ.set k (.lst xs.dropLast))
      | none => none
    | _ => none
  | _, _ => none
theorem md_pop : MtD X cl "list.pop" popD := by
  intro ms F H μ x vs dx ds d μ' Q r hx hv ev k
  unfold popD at ev
  split at ev
  · split at ev
    · rename_i xs hk
      split at ev
      · rename_i y hy
        cases ev
        cases hv
        obtain ⟨a, ws, rfl, hm, ha, hl⟩ := mut_lst r hx hk
        obtain ⟨v, e, q⟩ := hl.get hy
        exact ⟨_, mt_pop, a, ws, v, rfl, rfl, ha, by rw [hl.length]; exact e, k.wr r hm hl.dropLast q⟩
      · cases ev
    · cases ev
  · cases ev
/-! ### tuples: +, slices, times -/
def addT : G2 := fun x y μ => match x, y with
  | .tup a, .tup b => if a.length + b.length ≤ 1000000 then some (.tup (a ++ b), μ) else none
  | x, y => addM x y μ
theorem opd_addT : OpD X cl (binaryOp .Add) addT := by
  intro ms F H μ x y dx dy d μ' Q r hx hy ev k
  unfold addT at ev
  split at ev
  · rename_i a b
    split at ev
    · rename_i hz
      cases ev
      obtain ⟨p, xs, rfl, hs, la⟩ := hx
      obtain ⟨q, ys, rfl, ht, lb⟩ := hy
      have nil : ∀ {Γ : Gm} {vs : List V} {ds : List D}, HasL Γ ms F vs ds → vs = [] → ds = [] := fun h e => by
        have := h.length
        rw [e] at this
        exact List.eq_nil_of_length_eq_zero this.symm
      refine ⟨_, op_catA, p, q, xs, ys, rfl, rfl, (Tp.same r.sub hs).sq, (Tp.same r.sub ht).sq, by rw [la.length, lb.length]; exact million hz, fun z => ?_, fun _ z => ?_, fun _ _ c hc => k.tup r (la.append lb) hc⟩
      · have := nil la z
        subst this
        exact k.imm r ⟨q, ys, rfl, ht, lb⟩
      · have := nil lb z
        subst this
        rw [List.append_nil] at k
        exact k.imm r ⟨p, xs, rfl, hs, la⟩
    · cases ev
  · exact opd_addM ms F H μ x y _ _ d μ' Q r hx hy ev k
/-- a tuple's slice -/
def eSlT (f : EF) (lo hi : PF) : EF := eThen f fun x δ μ => match lo δ μ with
  | some (l, μ1) => match hi δ μ1 with
    | some (h, μ2) => match x with
      | .tup xs => some (.tup (cutL xs l h), μ2)
      | _ => none
    | none => none
  | none => none
theorem cutL_whole {xs : List D} {l h : Option Int} (z : HT.sIx xs.length 0 l = 0 ∧ HT.sIx xs.length xs.length h = xs.length) : cutL xs l h = xs := by
  unfold cutL
  rw [z.1, z.2]
  simp
theorem de_slT {a : Expr} {fa : EF} {p2 pos : Pos} {lo hi : Option Expr} {fl fh : PF} (ha : DE X cl a fa) (hl : DP X cl lo fl) (hh : DP X cl hi fh) : DE X cl (.Subscript a (.Slice lo hi none p2) pos) (eSlT fa fl fh) := ⟨(pe_slice sl_tupA ha.p hl.p hh.p).weak fun σ H Q ⟨O, ms, F, δ, μ, d, μ', R, ev, k⟩ => by
  obtain ⟨d1, μ1, e1, ev⟩ := eThen_some ev
  refine tE.seq R e1 fun v H1 ms1 F1 R1 s1 q1 => ?_
  split at ev
  · rename_i l μ2 el
    split at ev
    · rename_i h μ3 eh
      split at ev
      · rename_i xs
        cases ev
        refine tP.seq R1 el fun H2 ms2 F2 R2 s2 => tP.seq R2 eh fun H3 ms3 F3 R3 s3 => ?_
        obtain ⟨a', ys, rfl, hs, hl'⟩ := (q1.step s2).step s3
        have s13 := (s1.trans' R1.hr s2).trans' R2.hr s3
        refine ⟨a', ys, rfl, (Tp.same R3.hr.sub hs).sq, fun z => ?_, fun _ p hp => ?_⟩
        · rw [hl'.length] at z
          rw [cutL_whole z] at k
          exact k _ H3 ms3 F3 R3.hr s13 ⟨a', ys, rfl, hs, hl'⟩
        · exact Fin1.tup (fun v H' ms' F' r s q => k v H' ms' F' r (s13.trans' R3.hr s) q) R3.hr (hl'.cut l h) hp
      · cases ev
    · cases ev
  · cases ev⟩
/-- a tuple times an int -/
def mulT : G2 := fun x y μ => match x, y with
  | .tup a, .int k => if a.isEmpty = false ∧ 2 ≤ k ∧ k ≤ 1000 ∧ a.length ≤ 1000 then some (.tup (List.replicate k.toNat a).flatten, μ) else none
  | x, y => mulM x y μ
theorem flatR {Γ : Gm} {ms : List Addr} {F : Hp} {vs : List V} {ds : List D} (h : HasL Γ ms F vs ds) (n : Nat) : HasL Γ ms F (List.replicate n vs).flatten (List.replicate n ds).flatten := h.flat n
theorem opd_mulT : OpD X cl (binaryOp .Mult) mulT := by
  intro ms F H μ x y dx dy d μ' Q r hx hy ev k
  unfold mulT at ev
  split at ev
  · rename_i a j
    split at ev
    · rename_i hz
      cases ev
      obtain ⟨p, xs, rfl, hs, la⟩ := hx
      refine ⟨_, op_repT, p, j, xs, rfl, hy, (Tp.same r.sub hs).sq, fun z => ?_, hz.2.1, hz.2.2.1, by rw [la.length]; exact hz.2.2.2, fun c hc => k.tup r (la.flat _) hc⟩
      subst z
      have := la.isE
      rw [hz.1] at this
      cases this
    · cases ev
  · exact opd_mulM ms F H μ x y _ _ d μ' Q r hx hy ev k
end
end G

set_option Elab.async false
set_option linter.all false
set_option autoImplicit false
set_option maxRecDepth 100000
set_option maxHeartbeats 2000000
namespace G
open PySem PySem.Spec PySem.Calls L2
/-! ### expressions that may raise -/
abbrev XEF := List SV → List MO → Option Rs
def XOk (Γ : Gm) (W : WX × Hp) (O : Og) (ms : List Addr) (F H : Hp) (σ : L2.St) (δ : List SV) (Q : VK) : Rs → Prop
  | .ok d μ' => Fin1 Γ ms F H d μ' Q
  | .ex C f msg d μ' => ∀ H' ms' F' dx y, SR Γ O ms' F' H' σ δ μ' → Stp ms ms' F F' H H' → F' dx = some (exd dx [(f, y)]) → Has Γ ms' F' y d → W.1 (.ref (Γ.cl C)) (some dx) σ H'
def tX (Γ : Gm) (W : WX × Hp) (g : XEF) : TE := fun σ H Q => ∃ O ms F δ μ r, SR Γ O ms F H σ δ μ ∧ g δ μ = some r ∧ O.H = W.2 ∧ XOk Γ W O ms F H σ δ Q r
structure DX (X : Cx) (cl : Nat → Addr) (e : Expr) (g : XEF) : Prop where
  p : PE X e (tX (gm X cl) (W0 X) g)
theorem XOk.step {Γ : Gm} {W : WX × Hp} {O : Og} {ms ms1 : List Addr} {F F1 H H1 : Hp} {σ : L2.St} {δ : List SV} {μ1 : List MO} {Q : VK} {r : Rs} (k : XOk Γ W O ms F H σ δ Q r) (r1 : HR Γ ms1 F1 H1 μ1) (s : Stp ms ms1 F F1 H H1) : XOk Γ W O ms1 F1 H1 σ δ Q r := by
  cases r with
  | ok d μ => exact Fin1.step k r1 s
  | ex C f msg d μ => exact fun H' ms' F' dx y R s' hd hy => k H' ms' F' dx y R (s.trans' r1 s') hd hy
section
variable {X : Cx} {cl : Nat → Addr} {a b c e : Expr} {es : List Expr} {pos p pos' : Pos} {r rk : AF} {k n : Nat} {f : Addr} {fd : FuncData} {ps ks : List Str} {fn : XF} {x : Str} {ga gb : XEF} {ta : TF}
/-- one that doesn't -/
def gE (fe : EF) : XEF := fun δ μ => match fe δ μ with
  | some (d, μ1) => some (.ok d μ1)
  | none => none
theorem dx_e {fe : EF} (h : DE X cl e fe) : DX X cl e (gE fe) := ⟨h.p.weak fun σ H Q ⟨O, ms, F, δ, μ, rr, R, ev, hO, kk⟩ => by
  unfold gE at ev
  split at ev
  · rename_i d μ1 e1
    cases ev
    exact ⟨O, ms, F, δ, μ, d, μ1, R, e1, kk⟩
  · cases ev⟩
/-- f(..) -/
def gCall (fn : XF) (r : AF) : XEF := fun δ μ => match r δ μ with
  | some (xs, μ1) => fn xs μ1
  | none => none
theorem dx_call (Gf : FnX X.prog X.w X.K X.mg X.base k f fd n ps (spXF (gk X.K cl) n fn)) (hgd : X.A.guards = some []) (hr : Room k X.A) (hg : Gl X x) (hm : X.mg x = some (.ref f)) (hk : PySem.W.keepIn X.K (.ref f) = true) (hb : Binds X.K fd ps [])
    (ha : DA X cl (e :: es) r) (hlen : ∀ δ μ xs μ1, r δ μ = some (xs, μ1) → xs.length = n) (hdb : (x == ("__debug__" : Str)) = false := by decide) (he : starEach (e :: es) X.env = (false, eval e X.env) :: starEach es X.env := by rfl) (hpl : (backTo pos (starEach es X.env)).any (·.1) = false := by rfl) :
    DX X cl (.Call (.Name x p) (e :: es) [] pos) (gCall fn r) := ⟨(pe_callFX Gf hgd hr hg hm hk hb ha.p hdb he hpl).weak fun σ H Q ⟨O, ms, F, δ, μ, rr, R, ev, hO, kk⟩ => by
  unfold gCall at ev
  split at ev
  · rename_i xs μ1 e1
    refine ⟨O, ms, F, δ, μ, xs, μ1, R, e1, fun vs H1 ms1 F1 r1 s1 q1 => ?_⟩
    have R1 := R.step r1 s1
    have k1 := kk.step r1 s1
    refine ⟨ms1, F1, xs, μ1, rr, r1.xp, q1.xp, hlen _ _ _ _ e1, ev, ?_⟩
    cases rr with
    | ok d μ2 => exact fun v H' ms' F' r' s' q' => k1 v H' ms' F' r'.xp s' q'.xp
    | ex C f' msg d μ2 => exact fun dx y H' ms' F' r' s' hd hy => k1 H' ms' F' dx y (R1.step r'.xp s') s' hd hy.xp
  · cases ev⟩
/-- f(.., k = v, ..), all parameters written -/
theorem runFXK {sp : Sp} {n0 : Nat} {g : List Value → List Value → List Value} {gV : List V → List V → List V} {pins : List (Addr × Obj)} {σ : L2.St} {H : Hp} {s : Shared} {Q : VK} {us ws : List Value} {vs zs : List V} (Gf : FnX X.prog X.w X.K X.mg X.base k f fd n ps sp) (hgd : X.A.guards = some []) (hr : Room k X.A)
    (hb : KBn X.K fd ps n0 ks g gV) (I : Inv X pins σ H s) (rv : Vals vs us) (rz : Vals zs ws) (l1 : vs.length = n0) (l2 : zs.length = ks.length) (h : sp (gV vs zs) H Q (WE (W0 X).1 σ)) : wpAny (model X.prog X.w) X.A (call (.ref f) us (ks.zip ws)) (EP X pins σ Q) X.xe s := by
  have r2 := hb.rel rv rz
  refine wpAny_call (codeAny_mono (Gf.go hgd hr I.env0 (hb.to s us ws I.kIn (rv.length.symm.trans l1) (rz.length.symm.trans l2)) r2 h) fun z s' hq => ?_)
  cases z with
  | error e => exact L2N.passAt takesW σ pins H s e s' I hq
  | ok fl =>
    cases fl with
    | ret u => exact I.after hq
    | next => exact (show False from hq).elim
    | brk => exact (show False from hq).elim
    | cont => exact (show False from hq).elim
def tCallXK (n0 m : Nat) (sp : Sp) (gV : List V → List V → List V) (W : WX) (t tk : TA) : TE := fun σ H Q => t σ H fun vs H1 => tk σ H1 fun zs H2 => vs.length = n0 ∧ zs.length = m ∧ sp (gV vs zs) H2 Q (WE W σ)
theorem pe_callFXK {sp : Sp} {n0 : Nat} {g : List Value → List Value → List Value} {gV : List V → List V → List V} {t tk : TA} {kws : List Keyword} (Gf : FnX X.prog X.w X.K X.mg X.base k f fd n ps sp) (hgd : X.A.guards = some []) (hr : Room k X.A) (hg : Gl X x) (hm : X.mg x = some (.ref f)) (hk : PySem.W.keepIn X.K (.ref f) = true) (hb : KBn X.K fd ps n0 ks g gV)
    (ha : PA X (e :: es) t) (hkw : PK X kws tk) (hall : (backToKw pos (keywordEach kws X.env)).all (·.1.isSome) = true := by rfl) (hks : (backToKw pos (keywordEach kws X.env)).filterMap (·.1) = ks := by rfl)
    (hdb : (x == ("__debug__" : Str)) = false := by decide) (he : starEach (e :: es) X.env = (false, eval e X.env) :: starEach es X.env := by rfl)
    (hpl : ((backTo pos (starEach (e :: es) X.env)).any (·.1) || (backToKw pos (keywordEach kws X.env)).any (·.1.isNone)) = false := by rfl) :
    PE X (.Call (.Name x p) (e :: es) kws pos) (tCallXK n0 ks.length sp gV (W0 X).1 t tk) := by
  refine ⟨fun pins s σ H Q I h => ?_⟩
  refine wpAny_Call_Name_kw (ld_glob I hg hm ?_ hdb)
  refine PySem.W.callWith_KW (h₀ := X.base) I.ok.mod.kin hk hall (thn (ha.run pos pins s σ H _ I h) fun us s1 ⟨vs, H1, I1, r, q⟩ => ?_) hpl he
  refine thn (hkw.run pos pins s1 σ H1 _ I1 q) fun ws s2 ⟨zs, H2, I2, rz, l1, l2, q2⟩ => ⟨I2.kIn, ?_⟩
  rw [hks]
  exact runFXK Gf hgd hr hb I2 r rz l1 l2 q2
/-- keywords' values -/
structure DK (X : Cx) (cl : Nat → Addr) (kws : List Keyword) (r : AF) : Prop where
  p : PK X kws (tA (gm X cl) r)
theorem dk_one {nm : Option Str} {kp : Pos} {fe : EF} (h : DE X cl e fe) : DK X cl [⟨nm, e, kp⟩] (aCons fe aNil) := by
  constructor
  have q := pk_cons (nm := nm) (kpos := kp) h.p (pk_nil (X := X))
  refine ⟨fun pos pins s σ H Q I hh => q.run pos pins s σ H Q I ?_⟩
  obtain ⟨O, ms, F, δ, μ, d, μ', R, ev, k⟩ := hh
  obtain ⟨d1, μ1, e1, ev⟩ := eThen_some ev
  dsimp only [aNil] at ev
  cases ev
  exact tE.seq R e1 fun v H1 ms1 F1 R1 s1 q1 => k [v] H1 ms1 F1 R1.hr s1 ⟨v, [], rfl, q1, rfl⟩
/-- the keywords' values behind the positional ones -/
def gCallK (fn : XF) (r rk : AF) : XEF := fun δ μ => match r δ μ with
  | some (xs, μ1) => match rk δ μ1 with
    | some (ys, μ2) => fn (xs ++ ys) μ2
    | none => none
  | none => none
theorem dx_callK {n0 : Nat} {g : List Value → List Value → List Value} {kws : List Keyword} (Gf : FnX X.prog X.w X.K X.mg X.base k f fd n ps (spXF (gk X.K cl) n fn)) (hgd : X.A.guards = some []) (hr : Room k X.A) (hg : Gl X x) (hm : X.mg x = some (.ref f)) (hk : PySem.W.keepIn X.K (.ref f) = true) (hb : KBn X.K fd ps n0 ks g (· ++ ·))
    (ha : DA X cl (e :: es) r) (hkw : DK X cl kws rk) (hl1 : ∀ δ μ xs μ1, r δ μ = some (xs, μ1) → xs.length = n0) (hl2 : ∀ δ μ ys μ2, rk δ μ = some (ys, μ2) → ys.length = ks.length) (hn : n0 + ks.length = n) (hall : (backToKw pos (keywordEach kws X.env)).all (·.1.isSome) = true := by rfl) (hks : (backToKw pos (keywordEach kws X.env)).filterMap (·.1) = ks := by rfl)
    (hdb : (x == ("__debug__" : Str)) = false := by decide) (he : starEach (e :: es) X.env = (false, eval e X.env) :: starEach es X.env := by rfl)
    (hpl : ((backTo pos (starEach (e :: es) X.env)).any (·.1) || (backToKw pos (keywordEach kws X.env)).any (·.1.isNone)) = false := by rfl) :
    DX X cl (.Call (.Name x p) (e :: es) kws pos) (gCallK fn r rk) := ⟨(pe_callFXK Gf hgd hr hg hm hk hb ha.p hkw.p hall hks hdb he hpl).weak fun σ H Q ⟨O, ms, F, δ, μ, rr, R, ev, hO, kk⟩ => by
  unfold gCallK at ev
  split at ev
  · rename_i xs μ1 e1
    split at ev
    · rename_i ys μ2 e2
      refine ⟨O, ms, F, δ, μ, xs, μ1, R, e1, fun vs H1 ms1 F1 r1 s1 q1 => ?_⟩
      have R1 := R.step r1 s1
      refine ⟨O, ms1, F1, δ, μ1, ys, μ2, R1, e2, fun zs H2 ms2 F2 r2 s2 q2 => ?_⟩
      have R2 := R1.step r2 s2
      have k2 := (kk.step r1 s1).step r2 s2
      refine ⟨by rw [q1.length]; exact hl1 _ _ _ _ e1, by rw [q2.length]; exact hl2 _ _ _ _ e2, ms2, F2, xs ++ ys, μ2, rr, r2.xp, (q1.step s2).xp.append q2.xp, by rw [List.length_append, hl1 _ _ _ _ e1, hl2 _ _ _ _ e2]; exact hn, ev, ?_⟩
      cases rr with
      | ok d μ3 => exact fun v H' ms' F' r' s' q' => k2 v H' ms' F' r'.xp s' q'.xp
      | ex C f' msg d μ3 => exact fun dx y H' ms' F' r' s' hd hy => k2 H' ms' F' dx y (R2.step r'.xp s') s' hd hy.xp
    · cases ev
  · cases ev⟩
/-- a if c else b -/
def gIf (t : TF) (ga gb : XEF) : XEF := fun δ μ => match t δ μ with
  | some (true, μ1) => ga δ μ1
  | some (false, μ1) => gb δ μ1
  | none => none
theorem dx_if (hc : DT X cl c ta) (ha : DX X cl a ga) (hb : DX X cl b gb) : DX X cl (.IfExp c a b pos) (gIf ta ga gb) := ⟨(pe_ifExp hc.p ha.p hb.p).weak fun σ H Q ⟨O, ms, F, δ, μ, rr, R, ev, hO, kk⟩ => by
  unfold gIf at ev
  split at ev
  · rename_i μ1 e1
    exact tT.seq R e1 fun H1 ms1 F1 R1 s1 => ⟨O, ms1, F1, δ, μ1, rr, R1, ev, hO, kk.step R1.hr s1⟩
  · rename_i μ1 e1
    exact tT.seq R e1 fun H1 ms1 F1 R1 s1 => ⟨O, ms1, F1, δ, μ1, rr, R1, ev, hO, kk.step R1.hr s1⟩
  · cases ev⟩
/-! the statements over them -/
def bSetG (i : Nat) (g : XEF) : BF := fun δ μ => match g δ μ with
  | some (.ok d μ2) => some (.nx (δ.set i (.d d)) μ2)
  | some (.ex C f msg d μ2) => some (.xc C f msg d δ μ2)
  | none => none
def bRetG (g : XEF) : BF := fun δ μ => match g δ μ with
  | some (.ok d μ2) => some (.rt d μ2)
  | some (.ex C f msg d μ2) => some (.xc C f msg d δ μ2)
  | none => none
def bExprG (g : XEF) : BF := fun δ μ => match g δ μ with
  | some (.ok _ μ2) => some (.nx δ μ2)
  | some (.ex C f msg d μ2) => some (.xc C f msg d δ μ2)
  | none => none
theorem ds_setG {i : Nat} {y : Str} {p' : Pos} {g : XEF} (hN : X.N.Nodup) (hi : X.N[i]? = some y) (hy : Loc X.env.scope y) (h : DX X cl e g)
    (hs : swapsWith e (some (.Name y p')) pos'.line X.env = pure false := by rfl) (hf : X.fn y = true ∨ X.env.scope.names.lookup y = some .local := by first | exact .inl rfl | exact .inr rfl | assumption) :
    DS X cl (.Assign [.Name y p'] e pos') (bSetG i g) := ⟨(ps_set hN hi hy h.p hs hf).weak fun D σ H ⟨O, ms, F, δ, μ, o, R, ev, hO, kk⟩ => by
  unfold bSetG at ev
  split at ev
  · rename_i d μ2 e2
    cases ev
    exact ⟨O, ms, F, δ, μ, _, R, e2, hO, fun v H' ms' F' r' s' q' => kk _ H' ms' F' ((R.step r' s').set q' i) s'.ext⟩
  · rename_i C f' msg d μ2 e2
    cases ev
    exact ⟨O, ms, F, δ, μ, _, R, e2, hO, fun H' ms' F' dx y R' s' hd hy => kk σ H' ms' F' dx y R' s'.ext hd hy⟩
  · cases ev⟩
theorem ds_retG {g : XEF} (h : DX X cl e g) : DS X cl (.Return (some e) pos') (bRetG g) := ⟨(ps_ret h.p).weak fun D σ H ⟨O, ms, F, δ, μ, o, R, ev, hO, kk⟩ => by
  unfold bRetG at ev
  split at ev
  · rename_i d μ2 e2
    cases ev
    exact ⟨O, ms, F, δ, μ, _, R, e2, hO, fun v H' ms' F' r' s' q' => kk v H' ms' F' r' (R.step r' s').st q'⟩
  · rename_i C f' msg d μ2 e2
    cases ev
    exact ⟨O, ms, F, δ, μ, _, R, e2, hO, fun H' ms' F' dx y R' s' hd hy => kk σ H' ms' F' dx y R' s'.ext hd hy⟩
  · cases ev⟩
theorem ds_exprG {g : XEF} (h : DX X cl e g) (hs : swapsWith e none pos'.line X.env = pure false := by rfl) : DS X cl (.Expr e pos') (bExprG g) := ⟨(ps_expr h.p hs).weak fun D σ H ⟨O, ms, F, δ, μ, o, R, ev, hO, kk⟩ => by
  unfold bExprG at ev
  split at ev
  · rename_i d μ2 e2
    cases ev
    exact ⟨O, ms, F, δ, μ, _, R, e2, hO, fun v H' ms' F' r' s' q' => kk σ H' ms' F' (R.step r' s') s'.ext⟩
  · rename_i C f' msg d μ2 e2
    cases ev
    exact ⟨O, ms, F, δ, μ, _, R, e2, hO, fun H' ms' F' dx y R' s' hd hy => kk σ H' ms' F' dx y R' s'.ext hd hy⟩
  · cases ev⟩
/-! ### x or y, x and y, by truth -/
def eOrT (fa fb : EF) : EF := eThen fa fun x δ μ => match truD μ x with
  | some true => some (x, μ)
  | some false => fb δ μ
  | none => none
def eAndT (fa fb : EF) : EF := eThen fa fun x δ μ => match truD μ x with
  | some true => fb δ μ
  | some false => some (x, μ)
  | none => none
variable {fa fb : EF} {rest : List Expr}
theorem de_orT (ha : DE X cl a fa) (hb : DE X cl (.BoolOp .Or (b :: rest) pos) fb) : DE X cl (.BoolOp .Or (a :: b :: rest) pos) (eOrT fa fb) := ⟨(pe_orT ha.p hb.p).weak fun σ H Q ⟨O, ms, F, δ, μ, d, μ', R, ev, k⟩ => by
  obtain ⟨d1, μ1, e1, ev⟩ := eThen_some ev
  refine tE.seq R e1 fun v H1 ms1 F1 R1 s1 q1 => ?_
  split at ev
  · rename_i ht
    cases ev
    exact ⟨true, truD_ok R1.hr q1 ht, by rw [if_pos rfl]; exact k v H1 ms1 F1 R1.hr s1 q1⟩
  · rename_i ht
    exact ⟨false, truD_ok R1.hr q1 ht, by rw [if_neg Bool.false_ne_true]; exact tE.seq R1 ev fun v H2 ms2 F2 R2 s2 q => k v H2 ms2 F2 R2.hr (s1.trans' R1.hr s2) q⟩
  · cases ev⟩
theorem de_andT (ha : DE X cl a fa) (hb : DE X cl (.BoolOp .And (b :: rest) pos) fb) : DE X cl (.BoolOp .And (a :: b :: rest) pos) (eAndT fa fb) := ⟨(pe_andT ha.p hb.p).weak fun σ H Q ⟨O, ms, F, δ, μ, d, μ', R, ev, k⟩ => by
  obtain ⟨d1, μ1, e1, ev⟩ := eThen_some ev
  refine tE.seq R e1 fun v H1 ms1 F1 R1 s1 q1 => ?_
  split at ev
  · rename_i ht
    exact ⟨true, truD_ok R1.hr q1 ht, by rw [if_pos rfl]; exact tE.seq R1 ev fun v H2 ms2 F2 R2 s2 q => k v H2 ms2 F2 R2.hr (s1.trans' R1.hr s2) q⟩
  · rename_i ht
    cases ev
    exact ⟨false, truD_ok R1.hr q1 ht, by rw [if_neg Bool.false_ne_true]; exact k v H1 ms1 F1 R1.hr s1 q1⟩
  · cases ev⟩
end
end G

set_option Elab.async false
set_option linter.all false
set_option autoImplicit false
set_option maxRecDepth 100000
set_option maxHeartbeats 2000000
namespace G
open PySem PySem.Spec PySem.Calls L2
section
variable {X : Cx} {cl : Nat → Addr} {e : Expr} {es : List Expr} {pos p : Pos} {r : AF} {k n : Nat} {f : Addr} {fd : FuncData} {ps : List Str} {fn : XF} {x : Str} {ds : List Value} {dvs : List V} {dds : List D}
/-! ### f(..), f one that may raise, its last parameters by their defaults -/
theorem runFXD {sp : Sp} {pins : List (Addr × Obj)} {σ : L2.St} {H : Hp} {s : Shared} {Q : VK} {us : List Value} {vs : List V} (Gf : FnX X.prog X.w X.K X.mg X.base k f fd n ps sp) (hgd : X.A.guards = some []) (hr : Room k X.A)
    (hb : Binds X.K fd ps ds) (hd : Vals dvs ds) (I : Inv X pins σ H s) (rv : Vals vs us) (h : sp (vs ++ dvs) H Q (WE (W0 X).1 σ)) : wpAny (model X.prog X.w) X.A (call (.ref f) us) (EP X pins σ Q) X.xe s := by
  have r2 := rv.append hd
  have hl : (us ++ ds).length = ps.length := by rw [← r2.length, Gf.pl]; exact Gf.len _ _ _ _ h
  refine wpAny_call (codeAny_mono (Gf.go hgd hr I.env0 (hb s us I.kIn hl) r2 h) fun z s' hq => ?_)
  cases z with
  | error e => exact L2N.passAt takesW σ pins H s e s' I hq
  | ok fl =>
    cases fl with
    | ret u => exact I.after hq
    | next => exact (show False from hq).elim
    | brk => exact (show False from hq).elim
    | cont => exact (show False from hq).elim
def tCallXD (sp : Sp) (dvs : List V) (W : WX) (t : TA) : TE := fun σ H Q => t σ H fun vs H1 => sp (vs ++ dvs) H1 Q (WE W σ)
theorem pe_callFXD {sp : Sp} {t : TA} (Gf : FnX X.prog X.w X.K X.mg X.base k f fd n ps sp) (hgd : X.A.guards = some []) (hr : Room k X.A) (hg : Gl X x) (hm : X.mg x = some (.ref f)) (hk : PySem.W.keepIn X.K (.ref f) = true) (hb : Binds X.K fd ps ds) (hd : Vals dvs ds)
    (ha : PA X (e :: es) t) (hdb : (x == ("__debug__" : Str)) = false := by decide) (he : starEach (e :: es) X.env = (false, eval e X.env) :: starEach es X.env := by rfl) (hpl : (backTo pos (starEach es X.env)).any (·.1) = false := by rfl) :
    PE X (.Call (.Name x p) (e :: es) [] pos) (tCallXD sp dvs (W0 X).1 t) := by
  refine ⟨fun pins s σ H Q I h => ?_⟩
  refine wpAny_Call_Name_kw (ld_glob I hg hm ?_ hdb)
  refine PySem.W.callWith_K (h₀ := X.base) I.ok.mod.kin hk (thn (ha.run pos pins s σ H _ I h) fun us s1 ⟨vs, H1, I1, r, q⟩ => ⟨I1.kIn, ?_⟩) he hpl
  exact runFXD Gf hgd hr hb hd I1 r q
def gCallD (fn : XF) (dds : List D) (r : AF) : XEF := fun δ μ => match r δ μ with
  | some (xs, μ1) => fn (xs ++ dds) μ1
  | none => none
theorem dx_callD (Gf : FnX X.prog X.w X.K X.mg X.base k f fd n ps (spXF (gk X.K cl) n fn)) (hgd : X.A.guards = some []) (hr : Room k X.A) (hg : Gl X x) (hm : X.mg x = some (.ref f)) (hk : PySem.W.keepIn X.K (.ref f) = true) (hb : Binds X.K fd ps ds) (hd : Vals dvs ds) (hdd : ∀ ms F, HasL (gk X.K cl) ms F dvs dds)
    (ha : DA X cl (e :: es) r) (hlen : ∀ δ μ xs μ1, r δ μ = some (xs, μ1) → (xs ++ dds).length = n) (hdb : (x == ("__debug__" : Str)) = false := by decide) (he : starEach (e :: es) X.env = (false, eval e X.env) :: starEach es X.env := by rfl) (hpl : (backTo pos (starEach es X.env)).any (·.1) = false := by rfl) :
    DX X cl (.Call (.Name x p) (e :: es) [] pos) (gCallD fn dds r) := ⟨(pe_callFXD Gf hgd hr hg hm hk hb hd ha.p hdb he hpl).weak fun σ H Q ⟨O, ms, F, δ, μ, rr, R, ev, hO, kk⟩ => by
  unfold gCallD at ev
  split at ev
  · rename_i xs μ1 e1
    refine ⟨O, ms, F, δ, μ, xs, μ1, R, e1, fun vs H1 ms1 F1 r1 s1 q1 => ?_⟩
    have R1 := R.step r1 s1
    have k1 := kk.step r1 s1
    refine ⟨ms1, F1, xs ++ dds, μ1, rr, r1.xp, q1.xp.append (hdd ms1 F1), hlen _ _ _ _ e1, ev, ?_⟩
    cases rr with
    | ok d μ2 => exact fun v H' ms' F' r' s' q' => k1 v H' ms' F' r'.xp s' q'.xp
    | ex C f' msg d μ2 => exact fun dx y H' ms' F' r' s' hd hy => k1 H' ms' F' dx y (R1.step r'.xp s') s' hd hy.xp
  · cases ev⟩
end
end G
namespace G
open PySem PySem.Spec PySem.Calls L2
/-- an own function that may raise, with keyword-only parameters that have defaults -/
structure HasFXD (P : Program) (w : World) (K : PySem.W.Frag) (mg : Str → Option Value) (base : Heap) (cl : Nat → Addr) (k : Nat) (x : Str) (n : Nat) (ps ks : List Str) (ds : List Value) (fn : XF) where
  f : Addr
  fd : FuncData
  ok : FnX P w K mg base k f fd n ps (spXF (gk K cl) n fn)
  mg : mg x = some (.ref f)
  kp : PySem.W.keepIn K (.ref f) = true
  bd : Binds K fd ps ds
  kb : KBn K fd ps (ps.length - ks.length) ks (· ++ ·) (· ++ ·)
end G
namespace G
open PySem PySem.Spec PySem.Calls L2 L2H
theorem roomH_of {X : Cx} {k : Nat} {a : Addr} {pn : List (Addr × Obj)} (hot : HotC (X.suite a pn)) (r : Room k X.A) : RoomH k (X.suite a pn).A := roomH_suite r
end G

set_option Elab.async false
set_option linter.all false
set_option autoImplicit false
set_option maxRecDepth 100000
set_option maxHeartbeats 2000000
namespace G
open PySem PySem.Spec PySem.Calls L2 PyProof.Rows HT
/-! ### a tuple's [::-1] -/
section
variable {prog : Program} {w : World} {A : Around} {E : Value → Shared → Prop} {s : Shared}
theorem places_rev (n : Nat) : Builtin.Slice.slicePlaces ((n : Int) - 1) (-1) (-1) = n := by
  unfold Builtin.Slice.slicePlaces
  have h1 : ¬ ((-1 : Int) > 0) := by decide
  have h2 : (-(-1) : Int) = 1 := by decide
  simp only [h1, if_false, h2, Int.ediv_one]
  split <;> omega
theorem applied_rev {sl : Addr} {vl vu vk : Value} {n : Nat} {Q : Int × Int × Nat → Shared → Prop} (hs : s.heap.IsSliceOf sl vl vu vk) (pl : IsPart vl none) (pu : IsPart vu none) (pk : IsPart vk (some (-1)))
    (h : Q ((n : Int) - 1, -1, n) s) : wpAny (model prog w) A (Builtin.Slice.sliceApplied (.ref sl) (pure (n : Int))) Q E s := by
  obtain ⟨os, hos, _, hds⟩ := hs
  unfold Builtin.Slice.sliceApplied Builtin.Slice.sliceFields
  refine wpAny_bind (wpAny_bind (wpAny_field hos hds (x := vl) rfl (wpAny_bind (wpAny_field hos hds (x := vu) rfl (wpAny_bind (wpAny_field hos hds (x := vk) rfl (wpAny_pure (wpAny_bind (slicePart_ pk ?_)))))))))
  show wpAny _ _ (if ((-1 : Int) == 0) = true then _ else _) _ _ s
  rw [if_neg (by decide)]
  refine wpAny_bind (slicePart_ pl (wpAny_bind (slicePart_ pu (wpAny_bind (wpAny_pure (wpAny_pure ?_))))))
  have e : Builtin.Slice.slicePlaces ((n : Int) - 1) (-1) (-1) = n := places_rev n
  show Q (((n : Int) - 1), (-1 : Int), Builtin.Slice.slicePlaces ((n : Int) - 1) (-1) (-1)) s
  rw [e]
  exact h
theorem fmap_congr {α β : Type} {f g : α → Option β} : ∀ {l : List α}, (∀ m ∈ l, f m = g m) → l.filterMap f = l.filterMap g
  | [], _ => rfl
  | a :: l, h => by
    have h1 := h a (List.mem_cons_self ..)
    have h2 := fmap_congr (l := l) fun m hm => h m (List.mem_cons_of_mem _ hm)
    simp only [List.filterMap_cons, h1, h2]
theorem picked_rev (xs : Array Value) : ((List.range xs.size).filterMap fun (m : Nat) => xs[((xs.size : Int) - 1 + (m : Int) * (-1)).toNat]?).toArray = xs.toList.reverse.toArray := by
  have e : ((List.range xs.size).filterMap fun (m : Nat) => xs[((xs.size : Int) - 1 + (m : Int) * (-1)).toNat]?) = ((List.range xs.size).map fun k => xs.size - 1 - k).filterMap (xs[·]?) := by
    rw [List.filterMap_map]
    refine fmap_congr fun m hm => ?_
    have lt := List.mem_range.mp hm
    have : ((xs.size : Int) - 1 + (m : Int) * (-1)).toNat = xs.size - 1 - m := by omega
    rw [this]
    rfl
  rw [e, PySem.W.krv_range, List.filterMap_reverse, PySem.W.krv_all]
theorem item_rev {t sl : Addr} {items : Array Value} {vl vu vk : Value} {Q : Value → Shared → Prop} (ht : IsTup s.heap t items) (hs : s.heap.IsSliceOf sl vl vu vk) (pl : IsPart vl none) (pu : IsPart vu none) (pk : IsPart vk (some (-1)))
    (hz : items.size ≤ sizeLine) (h : Q (.ref s.heap.objs.size) { s with heap := s.heap.push { cls := .type "tuple", data := .seq items.toList.reverse.toArray } }) : wpAny (model prog w) A (getItem (.ref t) (.ref sl)) Q E s := by
  have room : sizeOk (.seq items.toList.reverse.toArray) := by
    show items.toList.reverse.toArray.size ≤ sizeLine
    rw [List.size_toArray, List.length_reverse, Array.length_toList]
    exact hz
  have isSl : s.TypeIs (.ref sl) "slice" := let ⟨os, hos, hcs, _⟩ := hs; ⟨os, hos, hcs⟩
  unfold getItem
  try with_reducible refine wpAny_holding ?_
  first | refine wpAny_bind (wpAny_pure ?_) | skip
  refine wpAny_bind (wpAny_sequenceKey ht.typeIs (by decide) (wpAny_bind (wpAny_callSpecial?_slot (name := Str.ofString "__getitem__") ht.typeIs slot_tuple_getitem (wpAny_call_entry slot_tuple_getitem ht.typeIs entry_tuple_getitem ?_ (args_tuple_getitem _ _)))))
  show wpAny _ _ (Builtin.Tuple.tupleItemsOf (.ref t) >>= fun _ => _) _ _ s
  refine wpAny_bind (tupleItemsOf_ ht (wpAny_bind (wpAny_typeOf isSl ?_)))
  rw [if_pos (by decide)]
  refine wpAny_bind (applied_rev hs pl pu pk ?_)
  have no : ¬ (((((items.size : Int) - 1) == 0) && ((-1 : Int) == 1) && (items.size == items.size)) = true) := by simp
  show wpAny _ _ (if ((((items.size : Int) - 1) == 0) && ((-1 : Int) == 1) && (items.size == items.size)) = true then _ else _) _ _ s
  rw [if_neg no, picked_rev]
  first
    | exact wpAny_bind (m := Builtin.Tuple.tupleExact _) (wpAny_newObj_type (wpAny_pure ⟨_, rfl, wpAny_pure h⟩) room)
    | exact wpAny_bind (m := Builtin.Tuple.tupleExact _) (wpAny_newObj_type (wpAny_bind (wpAny_pure (wpAny_pure ⟨_, rfl, wpAny_pure h⟩))) room)
end
section
variable {X : Cx} {cl : Nat → Addr}
def tRevT (K : PySem.W.Frag) (te : TE) : TE := fun σ H Q => te σ H fun x H1 => ∃ a xs, x = .ref a ∧ SqT K H1 a xs ∧ ∀ p, H1 p = none → Q (.ref p) (upd H1 p (.tup xs.reverse))
theorem pe_revT {e : Expr} {te : TE} {k : Nat} {p1 p2 p3 pos : Pos} (he : PE X e te) : PE X (.Subscript e (.Slice none none (some (.UnaryOp .USub (.Constant (.int 1) k p1) p2)) p3) pos) (tRevT X.K te) := by
  constructor
  intro pins s σ H Q I h
  refine Subscript_ (thn (he.run pins s σ H _ I h) fun v s1 ⟨x, H1, I1, r1, a, xs, ex, hx, q⟩ => ?_)
  subst ex
  cases r1
  have step : PO X (some (.UnaryOp .USub (.Constant (.int 1) k p1) p2)) (tPart (tUn (rU fun i => .int (-i)) (tC (.int 1)))) := po_some (pe_un un_neg pe_int)
  refine wpAny_Slice (thn (po_none.run pins s1 σ H1 (fun o G => o = none ∧ G = H1) I1 ⟨rfl, rfl⟩) fun vl s2 ⟨l, H2, I2, pl, el, e2⟩ => ?_)
  subst el; subst e2
  refine thn (po_none.run pins s2 σ H2 (fun o G => o = none ∧ G = H2) I2 ⟨rfl, rfl⟩) fun vu s3 ⟨u, H3, I3, pu, eu, e3⟩ => ?_
  subst eu; subst e3
  refine thn (step.run pins s3 σ H3 (fun o G => o = some (-1) ∧ G = H3) I3 ⟨1, rfl, -1, rfl, rfl, rfl⟩) fun vk s4 ⟨o, H4, I4, pk, eo, e4⟩ => ?_
  subst eo; subst e4
  have I5 : Inv X pins σ H4 { s4 with heap := s4.heap.push { cls := .type "slice", data := .fields #[vl, vu, vk] } } := I4.kept (t' := s4.toks) fun b ob z => Heap.get?_push_of_some _ z
  obtain ⟨its, r, ht, hz⟩ := I5.tuple hx
  have hlen := r.length
  show wpAny (model X.prog X.w) X.A (subscriptTail e _ (.ref a) (.ref s4.heap.objs.size)) (EP X pins σ Q) X.xe _
  refine tail_any (ops := [.ref a, .ref s4.heap.objs.size]) ht.typeIs slot_tuple_getitem.lookup ?_ (by with_unfolding_all rfl)
  refine item_rev ht (Heap.IsSliceOf.new _ vl vu vk) pl pu pk (by rw [List.size_toArray]; omega) ?_
  refine ⟨.ref _, _, I5.laid (t' := s4.toks) (o := .tup xs.reverse) (fun b ob z => Heap.get?_push_of_some _ z) (Nat.le_refl _) ?_, rfl, q _ (I5.hok.fresh (Nat.le_refl _))⟩
  exact ⟨by rw [List.length_reverse]; exact hz, _, r.reverse, IsTup.new _ _⟩
/-- a tuple or a list, backwards; a list is a new one that may change -/
def eRevT (f : EF) : EF := eThen f fun x _ μ => match x with
  | .tup xs => some (.tup xs.reverse, μ)
  | _ => none
theorem de_revT {e : Expr} {fe : EF} {k : Nat} {p1 p2 p3 pos : Pos} (h : DE X cl e fe) : DE X cl (.Subscript e (.Slice none none (some (.UnaryOp .USub (.Constant (.int 1) k p1) p2)) p3) pos) (eRevT fe) := ⟨(pe_revT h.p).weak fun σ H Q ⟨O, ms, F, δ, μ, d, μ', R, ev, k⟩ => by
  obtain ⟨d1, μ1, e1, ev⟩ := eThen_some ev
  refine tE.seq R e1 fun v H1 ms1 F1 R1 s1 q1 => ?_
  split at ev
  · cases ev
    obtain ⟨a, xs, rfl, hs, hl⟩ := q1
    exact ⟨a, xs, rfl, (Tp.same R1.hr.sub hs).sq, fun p hp => Fin1.tup (fun v H' ms' F' r s q => k v H' ms' F' r (s1.trans' R1.hr s) q) R1.hr hl.rev hp⟩
  · cases ev⟩
end
end G
namespace G
open PySem PySem.Spec PySem.Calls L2
theorem ds_stL {X : Cx} {cl : Nat → Addr} {e o i : Expr} {fe fo fi : EF} {sp pos : Pos} (he : DE X cl e fe) (ho : DE X cl o fo) (hi : DE X cl i fi) (hs : swapsWithSole [.Subscript o i sp] e pos.line X.env = pure false := by rfl) (hw : swappedStores [.Subscript o i sp] e X.env = pure none := by rfl) (h1 : (assignEach [.Subscript o i sp] X.env).map (·.2) = [assign (.Subscript o i sp) X.env] := by rfl)
    (has : ∀ v, assign (.Subscript o i sp) X.env v = (do
      let ov ← holding [v] (eval o X.env)
      let iv ← holding [v, ov] (eval i X.env)
      standAt sp
      holding [v, ov, iv] (setItem ov iv v)
      release [v, ov, iv] []) := by intro _; rfl) :
    DS X cl (.Assign [.Subscript o i sp] e pos) (bSt fe fo fi) := ds_st he ho hi hs hw h1 (pg_sub ho.p hi.p set_list (ha := has))
end G

set_option Elab.async false
set_option linter.all false
set_option autoImplicit false
set_option maxRecDepth 100000
set_option maxHeartbeats 2000000
namespace G
open PySem PySem.Spec PySem.Calls L2
/-! ### what raises within an expression -/
abbrev RF := List SV → List MO → Option (Nat × Str × Str × D × List MO)
def tR (Γ : Gm) (W : WX × Hp) (g : RF) (σ : L2.St) (H : Hp) : Prop := ∃ O ms F δ μ C f msg d μ', SR Γ O ms F H σ δ μ ∧ g δ μ = some (C, f, msg, d, μ') ∧ O.H = W.2 ∧
  ∀ H' ms' F' dx y, SR Γ O ms' F' H' σ δ μ' → Stp ms ms' F F' H H' → F' dx = some (exd dx [(f, y)]) → Has Γ ms' F' y d → W.1 (.ref (Γ.cl C)) (some dx) σ H'
structure DR (X : Cx) (cl : Nat → Addr) (e : Expr) (g : RF) : Prop where
  p : PE X e (fun σ H _ => tR (gm X cl) (W0 X) g σ H)
structure DRA (X : Cx) (cl : Nat → Addr) (es : List Expr) (g : RF) : Prop where
  p : PA X es (fun σ H _ => tR (gm X cl) (W0 X) g σ H)
section
variable {X : Cx} {cl : Nat → Addr} {e : Expr} {es : List Expr} {pos p : Pos} {r : AF} {k n : Nat} {f : Addr} {fd : FuncData} {ps : List Str} {fn : XF} {x : Str} {fe : EF} {g : RF}
theorem pa_false : PA X es (fun _ _ _ => False) := ⟨fun _ _ _ _ _ _ _ h => h.elim⟩
def rCall (fn : XF) (r : AF) : RF := fun δ μ => match r δ μ with
  | some (xs, μ1) => match fn xs μ1 with
    | some (.ex C f m d μ2) => some (C, f, m, d, μ2)
    | _ => none
  | none => none
theorem dr_call (Gf : FnX X.prog X.w X.K X.mg X.base k f fd n ps (spXF (gk X.K cl) n fn)) (hgd : X.A.guards = some []) (hr : Room k X.A) (hg : Gl X x) (hm : X.mg x = some (.ref f)) (hk : PySem.W.keepIn X.K (.ref f) = true) (hb : Binds X.K fd ps [])
    (ha : DA X cl (e :: es) r) (hlen : ∀ δ μ xs μ1, r δ μ = some (xs, μ1) → xs.length = n) (hdb : (x == ("__debug__" : Str)) = false := by decide) (he : starEach (e :: es) X.env = (false, eval e X.env) :: starEach es X.env := by rfl) (hpl : (backTo pos (starEach es X.env)).any (·.1) = false := by rfl) :
    DR X cl (.Call (.Name x p) (e :: es) [] pos) (rCall fn r) := ⟨(pe_callFX Gf hgd hr hg hm hk hb ha.p hdb he hpl).weak fun σ H Q ⟨O, ms, F, δ, μ, C, f', msg, d, μ2, R, ev, hO, kk⟩ => by
  unfold rCall at ev
  split at ev
  · rename_i xs μ1 e1
    refine ⟨O, ms, F, δ, μ, xs, μ1, R, e1, fun vs H1 ms1 F1 r1 s1 q1 => ?_⟩
    have R1 := R.step r1 s1
    split at ev
    · rename_i C' f'' m' d' μ3 e2
      cases ev
      refine ⟨ms1, F1, xs, μ1, .ex C f' msg d μ2, r1.xp, q1.xp, hlen _ _ _ _ e1, e2, ?_⟩
      exact fun dx y H' ms' F' r' s' hd hy => kk H' ms' F' dx y (R1.step r'.xp s') (s1.trans' r1 s') hd hy.xp
    · cases ev
  · cases ev⟩
theorem dra_head (h : DR X cl e g) (hs : starEach (e :: es) X.env = (false, eval e X.env) :: starEach es X.env := by rfl) : DRA X cl (e :: es) g := ⟨(pa_cons h.p (pa_false (es := es)) hs).weak fun σ H Q h => h⟩
def rThen (fe : EF) (g : RF) : RF := fun δ μ => match fe δ μ with
  | some (_, μ1) => g δ μ1
  | none => none
theorem dra_tail (h : DE X cl e fe) (hr : DRA X cl es g) (hs : starEach (e :: es) X.env = (false, eval e X.env) :: starEach es X.env := by rfl) : DRA X cl (e :: es) (rThen fe g) := ⟨(pa_cons h.p hr.p hs).weak fun σ H Q ⟨O, ms, F, δ, μ, C, f', msg, d, μ2, R, ev, hO, kk⟩ => by
  unfold rThen at ev
  split at ev
  · rename_i d1 μ1 e1
    refine tE.seq R e1 fun v H1 ms1 F1 R1 s1 q1 => ?_
    exact ⟨O, ms1, F1, δ, μ1, C, f', msg, d, μ2, R1, ev, hO, fun H' ms' F' dx y R' s' hd hy => kk H' ms' F' dx y R' (s1.trans' R1.hr s') hd hy⟩
  · cases ev⟩
theorem dr_tup {x1} (h : DRA X cl es g) : DR X cl (.Tuple es x1 pos) g := ⟨(pe_tup h.p).weak fun _ _ _ h => h⟩
theorem dr_lst (h : DRA X cl es g) : DR X cl (.List es pos) g := ⟨(pe_lst h.p).weak fun _ _ _ h => h⟩
theorem dr_callT {T : String} (hg : Gl X x) (hm : X.mg x = none) (hv : bootBuiltins x = some (.type T)) (ha : DRA X cl (e :: es) g) (hn : x ≠ "__name__" := by decide) (hdb : (x == ("__debug__" : Str)) = false := by decide)
    (he : starEach (e :: es) X.env = (false, eval e X.env) :: starEach es X.env := by rfl) (hpl : (backTo pos (starEach es X.env)).any (·.1) = false := by rfl) : DR X cl (.Call (.Name x p) (e :: es) [] pos) g :=
  ⟨(pe_callTy CallR.any' hg hm hv ha.p hn hdb he hpl).weak fun σ H Q h => h⟩
theorem dr_callB {id : String} (hg : Gl X x) (hm : X.mg x = none) (hv : bootBuiltins x = some (.builtin id)) (ha : DRA X cl (e :: es) g) (hn : x ≠ "__name__" := by decide) (hdb : (x == ("__debug__" : Str)) = false := by decide)
    (he : starEach (e :: es) X.env = (false, eval e X.env) :: starEach es X.env := by rfl) (hpl : (backTo pos (starEach es X.env)).any (·.1) = false := by rfl) : DR X cl (.Call (.Name x p) (e :: es) [] pos) g :=
  ⟨(pe_callB CallR.any' hg hm hv ha.p hn hdb he hpl).weak fun σ H Q h => h⟩
theorem dr_lc {elt tg iter : Expr} {ifs : List Expr} {scope : Scope} {own : List (Str × Nat)} {pos : Pos} (hc : X.calm = true) (hN : X.N.Nodup) (hi : DR X cl iter g) (ok : BlkOk X.N X.env.scope scope own) (hs : ∀ x, foldedSetIterable iter X.env x = pure x := by intro _; rfl) :
    DR X cl (.ListComp elt [⟨tg, iter, ifs, 0⟩] scope pos) g :=
  ⟨(pe_lc hc hN (pi_list (tg := tg) hi.p) ok (g := fun _ _ _ _ => False) (tt := fun _ _ _ => False) (te := fun _ _ _ => False) (fun _ _ _ _ _ => ⟨fun _ _ _ _ _ _ _ _ _ h => h.elim⟩) (fun _ _ _ _ _ => ⟨fun _ _ _ _ _ _ h => h.elim⟩) (fun _ _ _ _ _ => ⟨fun _ _ _ _ _ _ h => h.elim⟩) hs).weak fun σ H Q h => h⟩
/-- the one or the other -/
def gTry (fe : EF) (g : RF) : XEF := fun δ μ => match fe δ μ with
  | some (d, μ1) => some (.ok d μ1)
  | none => match g δ μ with
    | some (C, f, m, d, μ1) => some (.ex C f m d μ1)
    | none => none
theorem dx_try (h : DE X cl e fe) (h2 : DR X cl e g) : DX X cl e (gTry fe g) := ⟨⟨fun pins s σ H Q I ⟨O, ms, F, δ, μ, rr, R, ev, hO, kk⟩ => by
  unfold gTry at ev
  split at ev
  · rename_i d μ1 e1
    cases ev
    exact h.p.run pins s σ H Q I ⟨O, ms, F, δ, μ, d, μ1, R, e1, kk⟩
  · split at ev
    · rename_i C f' m d μ1 e1
      cases ev
      exact h2.p.run pins s σ H Q I ⟨O, ms, F, δ, μ, C, f', m, d, μ1, R, e1, hO, kk⟩
    · cases ev⟩⟩
end
end G

set_option Elab.async false
set_option linter.all false
set_option autoImplicit false
set_option maxRecDepth 100000
set_option maxHeartbeats 2000000
namespace G
open PySem PySem.Spec PySem.Calls L2
section
variable {X : Cx} {cl : Nat → Addr}
/-! ### data that are alike: < -/
theorem op_ltAl (hu : X.A.units + 64 < cLine) : OpR X (compareOp .Lt) (fun x y H Q => ∃ d e, Dp X.K H x d ∧ Dp X.K H y e ∧ PySem.W.alike d e = true ∧ d ≠ .none ∧ d.depth ≤ 60 ∧ Q (.bl (PySem.W.dataLt d e)) H) := by
  intro pins s σ H x y v u Q I rx ry h
  obtain ⟨d, e, hd, he, ha, hn, hp, q⟩ := h
  obtain ⟨as, r1⟩ := Dp.reads I d x v hd rx
  obtain ⟨bs, r2⟩ := Dp.reads I e y u he ry
  exact PySem.W.rcLt_alike d e X.A s v u as bs r1 r2 ha hn (by omega) _ _ _ _ ⟨.bl _, H, I, rfl, q⟩
def ltT : G2 := fun x y μ => match toPy μ DEEP x, toPy μ DEEP y with
  | some (.tuple p), some q => if PySem.W.alike (.tuple p) q = true ∧ (PyData.tuple p).depth ≤ 60 then some (.bl (PySem.W.dataLt (.tuple p) q), μ) else none
  | _, _ => none
theorem opd_ltT (hu : X.A.units + 64 < cLine) : OpD X cl (compareOp .Lt) ltT := by
  intro ms F H μ x y dx dy d μ' Q r hx hy ev k
  unfold ltT at ev
  split at ev
  · rename_i p q e1 e2
    split at ev
    · rename_i hz
      cases ev
      exact ⟨_, op_ltAl hu, _, _, dp_of r _ _ _ _ e1 hx, dp_of r _ _ _ _ e2 hy, hz.1, (fun z => nomatch z), hz.2, k.imm r rfl⟩
    · cases ev
  · cases ev
/-! ### list.insert, text.upper, list.count of a truth -/
def insertD : D → G1 := fun x ds μ => match x, ds with
  | .mut k, [.int i, d] => match μ[k]? with
    | some (.lst xs) => if xs.length < 1000000 ∧ 0 ≤ i ∧ i ≤ 1000000 then some (.non, μ.set k (.lst (xs.take i.toNat ++ [d] ++ xs.drop i.toNat))) else none
    | _ => none
  | _, _ => none
theorem md_insert : MtD X cl "list.insert" insertD := by
  intro ms F H μ x vs dx ds d μ' Q r hx hv ev k
  unfold insertD at ev
  split at ev
  · rename_i j i dd
    split at ev
    · rename_i xs hk
      split at ev
      · rename_i hz
        cases ev
        obtain ⟨v1, v2, rfl, h1, h2⟩ := hv.two'
        obtain ⟨a, ws, rfl, hm, ha, hl⟩ := mut_lst r hx hk
        obtain rfl : v1 = .int i := h1
        exact ⟨_, mt_insert, a, ws, i, v2, rfl, rfl, ha, by rw [hl.length, sizeLine_eq]; omega, hz.2.1, by omega, k.wr r hm (((hl.take _).append (HasL.one h2)).append (hl.drop _)) rfl⟩
      · cases ev
    · cases ev
  · cases ev
def upperD : D → G1 := fun x ds μ => match x, ds with
  | .str a, [] => if a.length ≤ 1000000 then some (.str (Txt.upper a), μ) else none
  | _, _ => none
theorem md_upper : MtD X cl "str.upper" upperD := by
  intro ms F H μ x vs dx ds d μ' Q r hx hv ev k
  unfold upperD at ev
  split at ev
  · split at ev
    · rename_i hz
      cases ev
      cases hv
      exact ⟨_, mt_upper, _, hx, rfl, by omega, k.imm r rfl⟩
    · cases ev
  · cases ev
theorem bools_of : ∀ {bs : List Bool} {its : List Value}, Vals (bs.map V.bl) its → its = bs.map Value.bool
  | [], _, h => by cases h; rfl
  | b :: bs, _, h => by
    cases h with
    | cons h1 h2 =>
      cases h1
      rw [bools_of h2]
      rfl
theorem count_bools (k : Bool) : ∀ bs : List Bool, (bs.map Value.bool).countP (PyProof.Rows.isBoolOf k) = bs.count k
  | [] => rfl
  | b :: bs => by
    rw [List.map_cons, List.countP_cons, List.count_cons, count_bools k bs]
    rfl
theorem mt_countB : MtR X "list.count" (fun x xs H Q => ∃ (p : Addr) (bs : List Bool) (k : Bool), x = .ref p ∧ xs = [.bl k] ∧ SqL X.K H p (bs.map V.bl) ∧ Q (.int (bs.count k : Nat)) H) := by
  intro pins s σ H x xs v us Q I rx rxs h
  obtain ⟨p, bs, k, rfl, rfl, hs, q⟩ := h
  cases rx
  obtain ⟨u, rfl, ru⟩ := rxs.one
  cases ru
  obtain ⟨its, rv, ⟨⟨cls, dd, data, sl⟩, n, ho, hc, hdn, hd⟩, hlen⟩ := I.list hs
  simp only at hc hd
  subst hc hd
  have e := bools_of rv
  subst e
  refine call_meets PySem.F.slot_list_count ⟨_, ho, rfl⟩ PySem.F.entry_list_count (PySem.F.args_list_count_2 _ _)
    (SeqAt.list_countAt p (bs.map Value.bool).toArray n dd sl (.bool k) (PyProof.Rows.isBoolOf k)) ⟨ho, fun y hy => ?_, ?_⟩
  · obtain ⟨b, _, rfl⟩ := List.mem_map.mp (show y ∈ bs.map Value.bool from Array.mem_toList_iff.mpr hy)
    exact SeqAt.EqAt.bool_bool b k
  · have ec : (bs.map Value.bool).toArray.toList.countP (PyProof.Rows.isBoolOf k) = bs.count k := count_bools k bs
    refine ⟨.int (bs.count k : Nat), H, I.tok _, ⟨s.toks, ?_⟩, q⟩
    show Value.int (((bs.map Value.bool).toArray.toList.countP (PyProof.Rows.isBoolOf k) : Nat) : Int) s.toks = Value.int ((bs.count k : Nat) : Int) s.toks
    rw [ec]
def countB : D → G1 := fun x ds μ => match x, ds with
  | .lst xs, [.bl k] => match blsD xs with
    | some bs => some (.int (bs.count k : Nat), μ)
    | none => none
  | _, _ => none
theorem md_countB : MtD X cl "list.count" countB := by
  intro ms F H μ x vs dx ds d μ' Q r hx hv ev k
  unfold countB at ev
  split at ev
  · rename_i xs b
    split at ev
    · rename_i bs hb
      cases ev
      obtain ⟨v, rfl, h1⟩ := hv.one'
      obtain ⟨a, ys, rfl, hs, hl⟩ := hx
      obtain rfl : v = .bl b := h1
      exact ⟨_, mt_countB, a, bs, b, rfl, rfl, by rw [← blsD_ok hb hl]; exact SqL.of (r.sub _ _ hs), k.imm r rfl⟩
    · cases ev
  · cases ev
end
end G

set_option Elab.async false
set_option linter.all false
set_option autoImplicit false
set_option maxRecDepth 100000
set_option maxHeartbeats 2000000
namespace G
open PySem PySem.Spec PySem.Calls L2
section
variable {X : Cx} {cl : Nat → Addr} {e a b c tg : Expr} {pos : Pos} {fe : EF} {g : RF}
theorem pe_false : PE X e (fun _ _ _ => False) := ⟨fun _ _ _ _ _ _ h => h.elim⟩
/-- a if c else b, c raising -/
theorem dr_ifT (h : DR X cl c g) (he : ∀ whole, isTrue c X.env whole = (do let v ← whole; standAt c.pos; holding [v] (truthy v)) := by intro _; rfl) : DR X cl (.IfExp c a b pos) g :=
  ⟨(pe_ifExp (pt_val h.p he) (pe_false (e := a)) (pe_false (e := b))).weak fun _ _ _ h => h⟩
/-! ### for over a list or a tuple, by what it is -/
def iAM (f : EF) : IFP := eThen f fun d _ μ => match srcD μ d with
  | some (_, ds, P) => some (⟨ds, P⟩, μ)
  | _ => none
theorem yld_tupM {Γ : Gm} {ms0 : List Addr} {F0 : Hp} {a : Addr} {ds : List D} {P : List MO → Prop} (src : ∀ ms F H μ, HR Γ ms F H μ → Ext ms0 ms F0 F → P μ → ∃ xs, SqX Γ.K true H a xs ∧ HasL Γ ms F xs ds) : YldP Γ (Itt Γ.K a) P ds ms0 F0 where
  go := fun ms F H μ i r e hp hi => by
    obtain ⟨xs, hs, hl⟩ := src ms F H μ r e hp
    obtain ⟨x, hx⟩ := hl.bound hi
    exact ⟨xs, x, hs, hx⟩
  stop := fun ms F H μ r e hp => by
    obtain ⟨xs, hs, hl⟩ := src ms F H μ r e hp
    exact ⟨xs, hs, by rw [hl.length]; exact Nat.le_refl _⟩
  yld := fun ms F H μ i d x H' r e hp hd y => by
    obtain ⟨rfl, y⟩ := y
    obtain ⟨xs, hs, hl⟩ := src ms F H' μ r e hp
    obtain ⟨v, hv, q⟩ := hl.get hd
    have := y xs hs
    rw [hv] at this; cases this
    exact ⟨ms, F, r, Stp.refl _ _ _, q⟩
theorem di_anyM (h : DE X cl e fe) : DIP X cl tg e (iAM fe) := ⟨⟨fun pins s σ H R I ⟨O, ms, F, δ, μ, w, μ', S, ev, k⟩ => by
  obtain ⟨d1, μ1, e1, ev⟩ := eThen_some ev
  split at ev
  · rename_i t xs P hq
    cases ev
    cases t with
    | false =>
      refine (pi_list (tg := tg) h.p).run pins s σ H R I (tE.seq S e1 fun v H1 ms1 F1 R1 s1 q1 => ?_)
      obtain ⟨a, rfl, hP, src⟩ := srcD_ok R1.hr q1 hq
      obtain ⟨ys, hs, hl⟩ := src ms1 F1 H1 _ R1.hr (Ext.refl _ _) hP
      exact ⟨a, rfl, ⟨ys, hs⟩, k _ H1 ms1 F1 R1.hr s1 (yld_listM (Γ := gm X cl) src)⟩
    | true =>
      refine (pi_tup (tg := tg) h.p).run pins s σ H R I (tE.seq S e1 fun v H1 ms1 F1 R1 s1 q1 => ?_)
      obtain ⟨a, rfl, hP, src⟩ := srcD_ok R1.hr q1 hq
      obtain ⟨ys, hs, hl⟩ := src ms1 F1 H1 _ R1.hr (Ext.refl _ _) hP
      exact ⟨a, rfl, ⟨ys, hs⟩, k _ H1 ms1 F1 R1.hr s1 (yld_tupM (Γ := gm X cl) src)⟩
  · cases ev⟩⟩
/-! ### a list backwards -/
def nRevL (f : EF) : NF := fun δ μ => match f δ μ with
  | some (x, μ1) => match seqD μ1 x with
    | some (.l, xs) => some (xs.reverse, μ1)
    | _ => none
  | none => none
theorem dn_revL {k : Nat} {p1 p2 p3 : Pos} (h : DE X cl e fe) : DN X cl (.Subscript e (.Slice none none (some (.UnaryOp .USub (.Constant (.int 1) k p1) p2)) p3) pos) (nRevL fe) := ⟨(pe_revL h.p).weak fun σ H Q ⟨O, ms, F, δ, μ, d, μ', R, ev, k⟩ => by
  unfold nRevL at ev
  split at ev
  · rename_i x μ1 e1
    split at ev
    · rename_i xs hq
      cases ev
      refine tE.seq R e1 fun v H1 ms1 F1 R1 s1 q1 => ?_
      obtain ⟨a, ys, rfl, hs, hl⟩ := seqD_ok R1.hr q1 hq
      exact ⟨a, ys, rfl, SqL.of hs, fun p hp => (k.step' R1.hr s1).here R1.hr hl.rev hp⟩
    · cases ev
  · cases ev⟩
end
end G

set_option Elab.async false
set_option linter.all false
set_option autoImplicit false
set_option maxRecDepth 100000
set_option maxHeartbeats 2000000
namespace G
open PySem PySem.Spec PySem.Calls L2 PyProof.Rows
/-! ### clauses of several classes -/
theorem fly_keeps {B h h' : Heap} {l : List Env} {e : Addr} {Z : Obj → Prop} (k : ∀ b o, h.get? b = some o → h'.get? b = some o) (x : HandSPX.FlyingZ B l e Z h) : HandSPX.FlyingZ B l e Z h' := by
  obtain ⟨f1, f2, f3, oe, vs, T, oT, ts, he, hz, hd, h1, hn, hT, g1, g2, g3⟩ := x
  exact ⟨fun b o z => k b o (f1 b o z), f2, f3.of_keeps fun b o hb _ => ⟨o, k b o hb, rfl⟩, oe, vs, T, oT, ts, k _ _ he, hz, hd, h1, hn, hT, k _ _ g1, g2, g3⟩
theorem Waits.more {X : Cx} {pins : List (Addr × Obj)} {σ : L2.St} {H : Hp} {a : Addr} {cls : Value} {d : Option Addr} {B : Heap} {g s : Shared} {h' : Heap} (w : Waits X pins σ H a cls d B g s) (k : ∀ b o, s.heap.get? b = some o → h'.get? b = some o) : Waits X pins σ H a cls d B g { s with heap := h' } :=
  ⟨w.inv, w.low, w.up.trans (.of_keeps k), fly_keeps k w.fly, w.na, w.os, w.ag⟩
/-- a clause's test -/
def Tst (X : Cx) (e : Expr) (t : Value → Option Bool) : Prop := ∀ {pins : List (Addr × Obj)} {σ : L2.St} {H : Hp} {a : Addr} {cls : Value} {d : Option Addr} {B : Heap} {g s : Shared} {b : Bool} {Q : Bool → Shared → Prop} {E : Value → Shared → Prop}, Waits X pins σ H a cls d B g s → X.env.frame = some X.env.locals → t cls = some b →
  (∀ s', Waits X pins σ H a cls d B g s' → Q b s') → wpAny (model X.prog X.w) (X.A.mark (some (.ref a))) (eval e X.env) (fun c s1 => wpAny (model X.prog X.w) (X.A.mark (some (.ref a))) (excMatches (.ref a) c) Q E s1) E s
theorem clause_class' {X : Cx} {σ : L2.St} {H : Hp} {s : Shared} {x : Str} {c : Value} {p : Pos} {pins : List (Addr × Obj)} {Q : Value → Shared → Prop} {E : Value → Shared → Prop} (hc : Names X x c) (I : Inv X pins σ H s) (q : Q c s) : wpAny (model X.prog X.w) X.A (eval (.Name x p) X.env) Q E s := clause_class hc I q
theorem tst_one {X : Cx} {x : Str} {c : Value} {p : Pos} (hc : Names X x c) : Tst X (.Name x p) (fun cls => PySem.W.exmOne X.K cls c) := by
  intro pins σ H a cls d B g s b Q E w hf hb q
  obtain ⟨oe, hz, _, _, he, S⟩ := w.pinned hf
  have cl0 : PySem.W.Looks (model X.prog X.w) s.heap (typeOf (.ref a)) cls := fun _ _ _ _ k q => wpAny_typeOf_ref (k _ _ he) (by rw [hz.1]; exact q)
  exact clause_class (Y := X.suite a ((a, oe) :: (X.pn ++ pins))) hc S ((PySem.W.exm_one (M := model X.prog X.w) w.here.kIn cl0 hb).here (q s w))
theorem tst_two {X : Cx} {x1 x2 : Str} {c1 c2 : Value} {p1 p2 p : Pos} {kk : Nat} (h1 : Names X x1 c1) (h2 : Names X x2 c2) : Tst X (.Tuple [.Name x1 p1, .Name x2 p2] kk p) (fun cls => PySem.W.exmAny X.K cls [c1, c2]) := by
  intro pins σ H a cls d B g s b Q E w hf hb q
  obtain ⟨oe, hz, _, _, he, S⟩ := w.pinned hf
  have cl0 : PySem.W.Looks (model X.prog X.w) s.heap (typeOf (.ref a)) cls := fun _ _ _ _ k q => wpAny_typeOf_ref (k _ _ he) (by rw [hz.1]; exact q)
  have kp : ∀ q o, s.heap.get? q = some o → (s.heap.push { cls := .type "tuple", data := .seq [c1, c2].toArray }).get? q = some o := fun _ _ z => Heap.get?_push_of_some _ z
  refine wpAny_Tuple ?_
  refine wpAny_items_cons (clause_class (Y := X.suite a ((a, oe) :: (X.pn ++ pins))) h1 S ?_)
  refine wpAny_items_cons (clause_class (Y := X.suite a ((a, oe) :: (X.pn ++ pins))) h2 S ?_)
  refine wpAny_items_nil ⟨by size_fits, ?_⟩
  exact (PySem.W.exm_tup2 (M := model X.prog X.w) (w.here.kIn.keeps kp) (cl0.keeps kp) (Heap.get?_push_size s.heap rfl) hb).here (q _ (w.more kp))
theorem tst_three {X : Cx} {x1 x2 x3 : Str} {c1 c2 c3 : Value} {p1 p2 p3 p : Pos} {kk : Nat} (h1 : Names X x1 c1) (h2 : Names X x2 c2) (h3 : Names X x3 c3) : Tst X (.Tuple [.Name x1 p1, .Name x2 p2, .Name x3 p3] kk p) (fun cls => PySem.W.exmAny X.K cls [c1, c2, c3]) := by
  intro pins σ H a cls d B g s b Q E w hf hb q
  obtain ⟨oe, hz, _, _, he, S⟩ := w.pinned hf
  have cl0 : PySem.W.Looks (model X.prog X.w) s.heap (typeOf (.ref a)) cls := fun _ _ _ _ k q => wpAny_typeOf_ref (k _ _ he) (by rw [hz.1]; exact q)
  have kp : ∀ q o, s.heap.get? q = some o → (s.heap.push { cls := .type "tuple", data := .seq [c1, c2, c3].toArray }).get? q = some o := fun _ _ z => Heap.get?_push_of_some _ z
  refine wpAny_Tuple ?_
  refine wpAny_items_cons (clause_class (Y := X.suite a ((a, oe) :: (X.pn ++ pins))) h1 S ?_)
  refine wpAny_items_cons (clause_class (Y := X.suite a ((a, oe) :: (X.pn ++ pins))) h2 S ?_)
  refine wpAny_items_cons (clause_class (Y := X.suite a ((a, oe) :: (X.pn ++ pins))) h3 S ?_)
  refine wpAny_items_nil ⟨by size_fits, ?_⟩
  exact (PySem.W.exm_tup3 (M := model X.prog X.w) (w.here.kIn.keeps kp) (cl0.keeps kp) (Heap.get?_push_size s.heap rfl) hb).here (q _ (w.more kp))
/-- what the clauses wish of an exception, one behind the other -/
def wMT (Wout : WX) (D : Ends) : List ((Value → Option Bool) × Option Nat × TsX) → WX
  | [] => Wout
  | (c, oi, ts) :: r => fun cls d σ H => ∃ b, c cls = some b ∧
      (b = true → ∀ a, H a = none → match oi with
        | none => ts a cls d D σ H
        | some i => ts a cls d (offN i D) (σ.set i (some (.ref a))) H) ∧ (b = false → wMT Wout D r cls d σ H)
inductive HdsS (X : Cx) : List ExceptHandler → List ((Value → Option Bool) × Option Nat × TsX) → Prop
  | nil : HdsS X [] []
  | cons {e : Expr} {c : Value → Option Bool} {ts : TsX} {b₀ : Stmt} {suite : List Stmt} {pos' : Pos} {hds : List ExceptHandler} {l : List ((Value → Option Bool) × Option Nat × TsX)} {on : Option Str} {oi : Option Nat} (hc : Tst X e c)
      (hn : match on, oi with
        | none, none => True
        | some n, some i => X.N[i]? = some n ∧ X.env.kindOf n = some .local
        | _, _ => False)
      (hsu : ∀ (a : Addr) (oe : Obj) (cls : Value) (d : Option Addr) (pn : List (Addr × Obj)), L2N.Zn cls d oe → (∃ vs, oe.data = .fields vs) → L2H.HotC (X.suite a ((a, oe) :: pn)) → PSs (X.suite a ((a, oe) :: pn)) (b₀ :: suite) (ts a cls d)) (r : HdsS X hds l) :
      HdsS X (.ExceptHandler (some e) on (b₀ :: suite) pos' :: hds) ((c, oi, ts) :: l)
section
variable {X : Cx} {body : List Stmt} {h₀ : ExceptHandler} {hds : List ExceptHandler} {l : List ((Value → Option Bool) × Option Nat × TsX)} {pos : Pos} {tb : WX → TS} {Wout : WX} {pins : List (Addr × Obj)} {σ : L2.St} {H : Hp} {a : Addr} {cls : Value} {d : Option Addr} {B : Heap} {g s : Shared}
theorem clauses_runT (hs : X.stack = X.env :: X.outer) (hf : X.env.frame = some X.env.locals) (hN : X.N.Nodup) (tk : L2N.Takes X Wout) {D : Ends} :
    ∀ {hds : List ExceptHandler} {l : List ((Value → Option Bool) × Option Nat × TsX)}, HdsS X hds l → ∀ {s : Shared}, Waits X pins σ H a cls d B g s → wMT Wout D l cls d σ H → wpAny (model X.prog X.w) X.A (handleBy (.ref a) X.env hds) (SP X pins D) X.xe s := by
  intro hds l hk
  induction hk with
  | nil => exact fun w q => w.on hs hf tk q
  | @cons e c ts b₀ suite pos' hds' l' on oi hc hn hsu r ih =>
    rintro s w ⟨b, hb, yes, no⟩
    refine wpAny_handleBy_cons (codeAny_handlers_test (hc w hf hb fun s w => ?_)) (by intro z; cases z)
    cases b with
    | false => exact ih w (no rfl)
    | true =>
      have y := yes rfl a w.na
      match on, oi, hn with
      | none, none, _ =>
        refine codeAny_handlers_suite (HandSPX.lands_againZ w.fly fun h' fl' up' => ?_)
        have w' : Waits X pins σ H a cls d B g { s with heap := h' } := ⟨w.inv, w.low, w.up.trans up', fl', w.na, w.os, w.ag⟩
        obtain ⟨oe', hz', hv', hot', _, S'⟩ := w'.pinned hf
        exact wpAny_mono ((hsu a oe' cls d _ hz' hv' hot').run [] _ _ H D S' y) (fun f s2 q => suite_out w.inv.ok q) fun _ _ z => z.elim
      | some n, some i, ⟨hi, hl⟩ =>
        refine codeAny_handlers_suite_as (HandSPX.lands_againZ w.fly fun h' fl' up' => ?_)
        have w' : Waits X pins σ H a cls d B g { s with heap := h' } := ⟨w.inv, w.low, w.up.trans up', fl', w.na, w.os, w.ag⟩
        obtain ⟨oe', hz', hv', hot', _, S'⟩ := w'.pinned hf
        refine store_ok (X := X.suite a ((a, oe') :: (X.pn ++ pins))) (v := .ref a) S' hN hi (.inl hl) rfl (fun s2 S2 => ?_) (.inr hl)
        refine wpAny_mono ((hsu a oe' cls d _ hz' hv' hot').run [] _ _ H (offN i D) S2 y) (fun f s3 q => ?_) fun _ _ z => z.elim
        have q' := suite_out (pins := pins) w.inv.ok q
        cases f with
        | ret u => obtain ⟨v, σ4, H4, J, rv, z⟩ := q'; exact gone_ok J hN hi hl fun s4 J4 => ⟨v, _, H4, J4, rv, z⟩
        | next => obtain ⟨σ4, H4, J, z⟩ := q'; exact gone_ok J hN hi hl fun s4 J4 => ⟨_, H4, J4, z⟩
        | brk => obtain ⟨σ4, H4, J, z⟩ := q'; exact gone_ok J hN hi hl fun s4 J4 => ⟨_, H4, J4, z⟩
        | cont => obtain ⟨σ4, H4, J, z⟩ := q'; exact gone_ok J hN hi hl fun s4 J4 => ⟨_, H4, J4, z⟩
theorem ps_try_mt (hs : X.stack = X.env :: X.outer) (hf : X.env.frame = some X.env.locals) (hN : X.N.Nodup) (tk : L2N.Takes X Wout)
    (hb : ∀ (W : WX) (pn : List (Addr × Obj)) (xe : Value → Shared → Prop), L2N.Takes (X.tr pn xe) W → PassesOwn (model X.prog X.w) X.A X.env xe → PSs (X.tr pn xe) body (tb W))
    (hh : HdsS X (h₀ :: hds) l) : PS X (.Try body (h₀ :: hds) [] [] pos) (fun D σ H => tb (wMT Wout D l) D σ H) := by
  constructor
  intro pins s σ H D I h
  have frames : X.A.frames = some (X.env :: X.outer) := by rw [I.ok.frames, hs]
  refine wpAny_Try_except (wpAny_mono ((hb (wMT Wout D l) (X.pn ++ pins) _ ?taken PassesOwn.looking).run [] s σ H D (I.toTry _) h) (fun f s1 q => ?_) fun _ _ z => z)
  case taken =>
    rintro _ s1 ⟨a, B, g, _, σ1, H1, cls, d, rfl, J, low, up, sky, na, os, ag, q⟩
    rw [show (X.tr (X.pn ++ pins) _).stack = X.env :: X.outer from hs] at sky
    exact L2N.Sky.land L2N.Zn.steady frames hf sky fun h2 fl up2 => clauses_runT hs hf hN tk hh ⟨J.ofTry I.ok, low, up.trans up2, fl, na, os, ag⟩ q
  cases f with
  | next => obtain ⟨σ1, H1, J, z⟩ := q; exact wpAny_execs_nil ⟨σ1, H1, J.ofTry I.ok, z⟩
  | ret u => obtain ⟨v, σ1, H1, J, r, z⟩ := q; exact ⟨v, σ1, H1, J.ofTry I.ok, r, z⟩
  | brk => obtain ⟨σ1, H1, J, z⟩ := q; exact ⟨σ1, H1, J.ofTry I.ok, z⟩
  | cont => obtain ⟨σ1, H1, J, z⟩ := q; exact ⟨σ1, H1, J.ofTry I.ok, z⟩
end
inductive HdsT (X : Cx) (cl : Nat → Addr) : List ExceptHandler → List (XT × Option Nat × BF) → List ((Value → Option Bool) × Option Nat × TsX) → Prop
  | nil : HdsT X cl [] [] []
  | cons {e : Expr} {c : Value → Option Bool} {b₀ : Stmt} {suite : List Stmt} {pos' : Pos} {hds : List ExceptHandler} {l : List (XT × Option Nat × BF)} {lA : List ((Value → Option Bool) × Option Nat × TsX)} {on : Option Str} {oi : Option Nat} {t : XT} {h : BF} (hc : Tst X e c)
      (hn : match on, oi with
        | none, none => True
        | some n, some i => X.N[i]? = some n ∧ X.env.kindOf n = some .local
        | _, _ => False)
      (ht : ∀ C b, t C = some b → c (.ref (cl C)) = some b)
      (hsu : ∀ (a : Addr) (oe : Obj) (pn : List (Addr × Obj)), L2H.HotC (X.suite a ((a, oe) :: pn)) → DB (X.suite a ((a, oe) :: pn)) cl (b₀ :: suite) h) (r : HdsT X cl hds l lA) :
      HdsT X cl (.ExceptHandler (some e) on (b₀ :: suite) pos' :: hds) ((t, oi, h) :: l) ((c, oi, tsOf X.K X.H_0 cl h) :: lA)
section
variable {X : Cx} {cl : Nat → Addr}
theorem HdsT.toA : ∀ {hds : List ExceptHandler} {l : List (XT × Option Nat × BF)} {lA : List ((Value → Option Bool) × Option Nat × TsX)}, HdsT X cl hds l lA → HdsS X hds lA
  | _, _, _, .nil => .nil
  | _, _, _, .cons hc hn ht hsu r => .cons hc hn (fun a oe cls d pn hz hv hot => (hsu a oe pn hot).p.weak fun D σ H q => by
      obtain ⟨O, ms, F, δ, μ, o, R, ev, hO, k⟩ := q oe hz hv
      exact ⟨O, ms, F, δ, μ, o, R, ev, hO, k.imp fun _ _ _ _ z => z.elim⟩) r.toA
theorem handle_runT (hc : X.calm = true) : ∀ {hds : List ExceptHandler} {l : List (XT × Option Nat × BF)} {lA : List ((Value → Option Bool) × Option Nat × TsX)}, HdsT X cl hds l lA →
    ∀ {C : Nat} {f m : Str} {d : D} {O : Og} {ms : List Addr} {F H : Hp} {σ : L2.St} {δ : List SV} {μ : List MO} {o : Out} {E : Ends} {dx : Addr} {y : V}, handle l C f m d δ μ = some o → SR (gm X cl) O ms F H σ δ μ → O.H = X.H_0 → EndOk (gm X cl) (W0 X) O ms F E o →
      F dx = some (exd dx [(f, y)]) → Has (gm X cl) ms F y d → wMT (W0 X).1 E lA (.ref (cl C)) (some dx) σ H := by
  have gX : gm X cl = ⟨X.K, cl, none⟩ := by show Gm.mk X.K cl (bif X.calm then none else X.pn.head?) = _; rw [hc]; rfl
  intro hds l lA hk
  induction hk with
  | nil =>
    intro C f m d O ms F H σ δ μ o D dx y ev R hO k hd hy
    cases ev
    exact k σ H ms F dx y R (Ext.refl _ _) hd hy
  | @cons e c b₀ suite pos' hds l lA on oi t h hcn hn ht hsu r ih =>
    intro C f m d O ms F H σ δ μ o D dx y ev R hO k hd hy
    unfold handle at ev
    split at ev
    · rename_i etc
      refine ⟨true, ht C true etc, fun _ a ha => ?_, fun z => nomatch z⟩
      rw [gX] at R hy k
      cases oi with
      | none =>
        intro oe hz hv
        have e0 : ∃ o', h δ μ = some o' := by
          cases z : h δ μ with
          | none => simp only [inX, z, offOut] at ev; cases ev
          | some o' => exact ⟨o', rfl⟩
        obtain ⟨o', eh⟩ := e0
        simp only [inX, eh] at ev
        refine ⟨O, ms, F, δ, μ, o', R.toX, eh, hO, ?_⟩
        cases o' with
        | nx δ2 μ2 => cases ev; exact fun σ' H' ms' F' R' x => k σ' H' ms' F' R'.offX x
        | bk δ2 μ2 => cases ev; exact fun σ' H' ms' F' R' x => k σ' H' ms' F' R'.offX x
        | ct δ2 μ2 => cases ev; exact fun σ' H' ms' F' R' x => k σ' H' ms' F' R'.offX x
        | rt d2 μ2 => cases ev; exact fun v H' ms' F' r s q => k v H' ms' F' r.xp s q.xp
        | xc _ _ _ _ _ _ => cases ev
      | some i =>
        intro oe hz hv
        have e0 : ∃ o', h (δ.set i (.xv C f d)) μ = some o' := by
          cases z : h (δ.set i (.xv C f d)) μ with
          | none => simp only [inX, z, offOut] at ev; cases ev
          | some o' => exact ⟨o', rfl⟩
        obtain ⟨o', eh⟩ := e0
        simp only [inX, eh] at ev
        refine ⟨O, ms, F, _, μ, o', (R.toX (x := some (a, oe))).setX ⟨hz.zc, hv⟩ hd hy.xp i, eh, hO, ?_⟩
        cases o' with
        | nx δ2 μ2 => cases ev; exact fun σ' H' ms' F' R' x => k (σ'.set i none) H' ms' F' (R'.offX.drop i none) x
        | bk δ2 μ2 => cases ev; exact fun σ' H' ms' F' R' x => k (σ'.set i none) H' ms' F' (R'.offX.drop i none) x
        | ct δ2 μ2 => cases ev; exact fun σ' H' ms' F' R' x => k (σ'.set i none) H' ms' F' (R'.offX.drop i none) x
        | rt d2 μ2 => cases ev; exact fun v H' ms' F' r s q => k v H' ms' F' r.xp s q.xp
        | xc _ _ _ _ _ _ => cases ev
    · rename_i etc
      exact ⟨false, ht C false etc, (fun z => nomatch z), fun _ => ih ev R hO k hd hy⟩
    · cases ev
theorem ds_tryT {body : List Stmt} {h₀ : ExceptHandler} {hds : List ExceptHandler} {pos : Pos} {bd : BF} {l : List (XT × Option Nat × BF)} {lA : List ((Value → Option Bool) × Option Nat × TsX)} (hc : X.calm = true) (hs : X.stack = X.env :: X.outer) (hf : X.env.frame = some X.env.locals) (hN : X.N.Nodup)
    (hb : ∀ (pn : List (Addr × Obj)) (xe : Value → Shared → Prop), PassesOwn (model X.prog X.w) X.A X.env xe → DB (X.tr pn xe) cl body bd) (hh : HdsT X cl (h₀ :: hds) l lA) :
    DS X cl (.Try body (h₀ :: hds) [] [] pos) (bTry bd l) := by
  have gX : ∀ pn xe, gm (X.tr pn xe) cl = gm X cl := fun pn xe => by
    show Gm.mk X.K cl (bif X.calm then none else pn.head?) = Gm.mk X.K cl (bif X.calm then none else X.pn.head?)
    rw [hc]; rfl
  refine ⟨(ps_try_mt (tb := fun W => tS (gm X cl) (W, X.H_0) bd) hs hf hN takesW (fun W pn xe tk hp => ?_) hh.toA).weak fun D σ H ⟨O, ms, F, δ, μ, o, R, ev, hO, k⟩ => ?_⟩
  · have p := (hb pn xe hp).p
    rw [gX] at p
    refine p.weak fun D σ H ⟨O, ms, F, δ, μ, o, R, ev, hO, k⟩ => ⟨O, ms, F, δ, μ, o, R, ev, hO, k.imp fun c d σ H w => W0.of tk w⟩
  · unfold bTry at ev
    split at ev
    · rename_i C f m d δ' μ' e1
      refine ⟨O, ms, F, δ, μ, _, R, e1, hO, fun σ' H' ms' F' dx y R' x hd hy => ?_⟩
      exact handle_runT hc hh ev R' hO (k.step x) hd hy
    · rename_i hno
      refine ⟨O, ms, F, δ, μ, o, R, ev, hO, ?_⟩
      cases o with
      | xc C f m d δ' μ' => exact absurd ev (hno C f m d δ' μ')
      | nx _ _ => exact k
      | bk _ _ => exact k
      | ct _ _ => exact k
      | rt _ _ => exact k
end

/-- a clause of two classes, three -/
def xtOr (t u : XT) : XT := fun C => match t C, u C with
  | some a, some b => some (a || b)
  | _, _ => none
theorem xt_two {K : PySem.W.Frag} {cl : Nat → Addr} {t u : XT} {c e : Value} (h1 : ∀ C b, t C = some b → PySem.W.exmOne K (.ref (cl C)) c = some b) (h2 : ∀ C b, u C = some b → PySem.W.exmOne K (.ref (cl C)) e = some b) : ∀ C b, xtOr t u C = some b → PySem.W.exmAny K (.ref (cl C)) [c, e] = some b := by
  intro C b h
  unfold xtOr at h
  split at h
  · rename_i p q e1 e2
    cases h
    simp [PySem.W.exmAny, h1 C p e1, h2 C q e2]
  · cases h
theorem xt_three {K : PySem.W.Frag} {cl : Nat → Addr} {t u v : XT} {c e f : Value} (h1 : ∀ C b, t C = some b → PySem.W.exmOne K (.ref (cl C)) c = some b) (h2 : ∀ C b, u C = some b → PySem.W.exmOne K (.ref (cl C)) e = some b) (h3 : ∀ C b, v C = some b → PySem.W.exmOne K (.ref (cl C)) f = some b) : ∀ C b, xtOr t (xtOr u v) C = some b → PySem.W.exmAny K (.ref (cl C)) [c, e, f] = some b := by
  intro C b h
  unfold xtOr at h
  split at h
  · rename_i p q e1 e2
    cases h
    split at e2
    · rename_i p2 q2 e3 e4
      cases e2
      simp [PySem.W.exmAny, h1 C p e1, h2 C p2 e3, h3 C q2 e4]
    · cases e2
  · cases h
end G

set_option Elab.async false
set_option linter.all false
set_option autoImplicit false
set_option maxRecDepth 100000
set_option maxHeartbeats 2000000
namespace G
open PySem PySem.Spec PySem.Calls L2 L2H
/-! ### calls by name, in an expression -/
/-- f(.., k = v, ..) as a value: g puts the written ones and the defaults in the parameters' order -/
def eFnK (fn : XF) (g : List D → List D → List D) (r rk : AF) : EF := fun δ μ => match r δ μ with
  | some (xs, μ1) => match rk δ μ1 with
    | some (ys, μ2) => match fn (g xs ys) μ2 with
      | some (.ok d μ3) => some (d, μ3)
      | _ => none
    | none => none
  | none => none
section
variable {X : Cx} {cl : Nat → Addr} {a b c e : Expr} {es : List Expr} {pos p : Pos} {r rk : AF} {k n n0 : Nat} {f : Addr} {fd : FuncData} {ps ks : List Str} {fn : XF} {x : Str} {g : List Value → List Value → List Value} {gV : List V → List V → List V} {gD : List D → List D → List D} {kws : List Keyword}
theorem de_callXK (Gf : FnX X.prog X.w X.K X.mg X.base k f fd n ps (spXF (gk X.K cl) n fn)) (hgd : X.A.guards = some []) (hr : Room k X.A) (hg : Gl X x) (hm : X.mg x = some (.ref f)) (hk : PySem.W.keepIn X.K (.ref f) = true) (hb : KBn X.K fd ps n0 ks g gV)
    (hD : ∀ {Γ : Gm} {ms : List Addr} {F : Hp} {vs zs : List V} {xs ys : List D}, xs.length = n0 → ys.length = ks.length → HasL Γ ms F vs xs → HasL Γ ms F zs ys → HasL Γ ms F (gV vs zs) (gD xs ys) ∧ (gD xs ys).length = n)
    (ha : DA X cl (e :: es) r) (hkw : DK X cl kws rk) (hl1 : ∀ δ μ xs μ1, r δ μ = some (xs, μ1) → xs.length = n0) (hl2 : ∀ δ μ ys μ2, rk δ μ = some (ys, μ2) → ys.length = ks.length) (hall : (backToKw pos (keywordEach kws X.env)).all (·.1.isSome) = true := by rfl) (hks : (backToKw pos (keywordEach kws X.env)).filterMap (·.1) = ks := by rfl)
    (hdb : (x == ("__debug__" : Str)) = false := by decide) (he : starEach (e :: es) X.env = (false, eval e X.env) :: starEach es X.env := by rfl)
    (hpl : ((backTo pos (starEach (e :: es) X.env)).any (·.1) || (backToKw pos (keywordEach kws X.env)).any (·.1.isNone)) = false := by rfl) :
    DE X cl (.Call (.Name x p) (e :: es) kws pos) (eFnK fn gD r rk) := ⟨(pe_callFXK Gf hgd hr hg hm hk hb ha.p hkw.p hall hks hdb he hpl).weak fun σ H Q ⟨O, ms, F, δ, μ, d, μ', R, ev, kk⟩ => by
  unfold eFnK at ev
  split at ev
  · rename_i xs μ1 e1
    split at ev
    · rename_i ys μ2 e2
      split at ev
      · rename_i d3 μ3 e3
        cases ev
        refine ⟨O, ms, F, δ, μ, xs, μ1, R, e1, fun vs H1 ms1 F1 r1 s1 q1 => ?_⟩
        have R1 := R.step r1 s1
        refine ⟨O, ms1, F1, δ, μ1, ys, μ2, R1, e2, fun zs H2 ms2 F2 r2 s2 q2 => ?_⟩
        obtain ⟨q3, l3⟩ := hD (hl1 _ _ _ _ e1) (hl2 _ _ _ _ e2) (q1.step s2).xp q2.xp
        refine ⟨by rw [q1.length]; exact hl1 _ _ _ _ e1, by rw [q2.length]; exact hl2 _ _ _ _ e2, ms2, F2, gD xs ys, μ2, _, r2.xp, q3, l3, e3, fun v H' ms' F' r' s' q' => kk v H' ms' F' r'.xp (s1.trans' r1 (s2.trans' r2 s')) q'.xp⟩
      · cases ev
    · cases ev
  · cases ev⟩
/-- keywords' values: one more -/
theorem dk_cons {nm : Option Str} {kp : Pos} {fe : EF} {kws : List Keyword} {rk : AF} (h : DE X cl e fe) (t : DK X cl kws rk) : DK X cl (⟨nm, e, kp⟩ :: kws) (aCons fe rk) := by
  constructor
  have q := pk_cons (nm := nm) (kpos := kp) h.p t.p
  refine ⟨fun pos pins s σ H Q I hh => q.run pos pins s σ H Q I ?_⟩
  obtain ⟨O, ms, F, δ, μ, d, μ', R, ev, k⟩ := hh
  obtain ⟨d1, μ1, e1, ev⟩ := eThen_some ev
  split at ev
  · rename_i ds μ2 e2
    cases ev
    refine tE.seq R e1 fun v H1 ms1 F1 R1 s1 q1 => ⟨O, ms1, F1, δ, μ1, ds, _, R1, e2, fun vs H2 ms2 F2 r2 s2 q2 => ?_⟩
    exact k (v :: vs) H2 ms2 F2 r2 (s1.trans' R1.hr s2) ⟨v, vs, rfl, q1.step s2, q2⟩
  · cases ev
theorem dk_nil : DK X cl [] aNil := ⟨⟨fun pos pins s σ H Q I ⟨O, ms, F, δ, μ, d, μ', R, ev, k⟩ => (pk_nil (X := X)).run pos pins s σ H Q I (by cases ev; exact k [] H ms F R.hr (Stp.refl _ _ _) rfl)⟩⟩
/-- all by name -/
theorem pe_callFXK0 {sp : Sp} {tk : TA} (Gf : FnX X.prog X.w X.K X.mg X.base k f fd n ps sp) (hgd : X.A.guards = some []) (hr : Room k X.A) (hg : Gl X x) (hm : X.mg x = some (.ref f)) (hk : PySem.W.keepIn X.K (.ref f) = true) (hb : KBn X.K fd ps 0 ks g gV)
    (hkw : PK X kws tk) (hall : (backToKw pos (keywordEach kws X.env)).all (·.1.isSome) = true := by rfl) (hks : (backToKw pos (keywordEach kws X.env)).filterMap (·.1) = ks := by rfl)
    (hdb : (x == ("__debug__" : Str)) = false := by decide)
    (hpl : ((backTo pos (starEach [] X.env)).any (·.1) || (backToKw pos (keywordEach kws X.env)).any (·.1.isNone)) = false := by rfl) :
    PE X (.Call (.Name x p) [] kws pos) (fun σ H Q => tk σ H fun zs H2 => zs.length = ks.length ∧ sp (gV [] zs) H2 Q (WE (W0 X).1 σ)) := by
  refine ⟨fun pins s σ H Q I h => ?_⟩
  refine wpAny_Call_Name_kw (ld_glob I hg hm ?_ hdb)
  refine PySem.W.callWith_KW0 (h₀ := X.base) I.ok.mod.kin hk hall ?_ hpl
  refine thn (hkw.run pos pins s σ H _ I h) fun ws s2 ⟨zs, H2, I2, rz, l2, q2⟩ => ⟨I2.kIn, ?_⟩
  rw [hks]
  exact runFXK Gf hgd hr hb I2 .nil rz rfl l2 q2
def eFnK0 (fn : XF) (g : List D → List D) (rk : AF) : EF := fun δ μ => match rk δ μ with
  | some (ys, μ2) => match fn (g ys) μ2 with
    | some (.ok d μ3) => some (d, μ3)
    | _ => none
  | none => none
theorem de_callXK0 {gD : List D → List D} (Gf : FnX X.prog X.w X.K X.mg X.base k f fd n ps (spXF (gk X.K cl) n fn)) (hgd : X.A.guards = some []) (hr : Room k X.A) (hg : Gl X x) (hm : X.mg x = some (.ref f)) (hk : PySem.W.keepIn X.K (.ref f) = true) (hb : KBn X.K fd ps 0 ks g gV)
    (hD : ∀ {Γ : Gm} {ms : List Addr} {F : Hp} {zs : List V} {ys : List D}, ys.length = ks.length → HasL Γ ms F zs ys → HasL Γ ms F (gV [] zs) (gD ys) ∧ (gD ys).length = n)
    (hkw : DK X cl kws rk) (hl2 : ∀ δ μ ys μ2, rk δ μ = some (ys, μ2) → ys.length = ks.length) (hall : (backToKw pos (keywordEach kws X.env)).all (·.1.isSome) = true := by rfl) (hks : (backToKw pos (keywordEach kws X.env)).filterMap (·.1) = ks := by rfl)
    (hdb : (x == ("__debug__" : Str)) = false := by decide)
    (hpl : ((backTo pos (starEach [] X.env)).any (·.1) || (backToKw pos (keywordEach kws X.env)).any (·.1.isNone)) = false := by rfl) :
    DE X cl (.Call (.Name x p) [] kws pos) (eFnK0 fn gD rk) := ⟨(pe_callFXK0 Gf hgd hr hg hm hk hb hkw.p hall hks hdb hpl).weak fun σ H Q ⟨O, ms, F, δ, μ, d, μ', R, ev, kk⟩ => by
  unfold eFnK0 at ev
  split at ev
  · rename_i ys μ2 e2
    split at ev
    · rename_i d3 μ3 e3
      cases ev
      refine ⟨O, ms, F, δ, μ, ys, μ2, R, e2, fun zs H2 ms2 F2 r2 s2 q2 => ?_⟩
      obtain ⟨q3, l3⟩ := hD (hl2 _ _ _ _ e2) q2.xp
      exact ⟨by rw [q2.length]; exact hl2 _ _ _ _ e2, ms2, F2, gD ys, μ2, _, r2.xp, q3, l3, e3, fun v H' ms' F' r' s' q' => kk v H' ms' F' r'.xp (s2.trans' r2 s') q'.xp⟩
    · cases ev
  · cases ev⟩
/-- an own function that may raise, called by name -/
structure HasFK (P : Program) (w : World) (K : PySem.W.Frag) (mg : Str → Option Value) (base : Heap) (cl : Nat → Addr) (k : Nat) (x : Str) (n : Nat) (ps : List Str) (fn : XF) where
  f : Addr
  fd : FuncData
  ok : FnX P w K mg base k f fd n ps (spXF (gk K cl) n fn)
  mg : mg x = some (.ref f)
  kp : PySem.W.keepIn K (.ref f) = true
/-! ### a range, walked where an exception is handled -/
theorem dih_range1 {tg : Expr} (hg : Gl X "range") (hm : X.mg "range" = none) (ha : DA X cl [a] r) (hs : starEach [a] X.env = [(false, eval a X.env)] := by rfl) : DIH X cl tg (.Call (.Name "range" p) [a] [] pos) (iR1 r) := ⟨(pi_range1H hg hm ha.p hs).weak fun σ H R ⟨O, ms, F, δ, μ, ds, μ', S, ev, k⟩ => by
  obtain ⟨d1, μ1, e1, ev⟩ := aThen_some ev
  refine tA.seq S e1 fun v H1 ms1 F1 R1 s1 q1 => ?_
  split at ev
  · split at ev
    · rename_i hz
      cases ev
      obtain ⟨v, rfl, hv⟩ := q1.one'
      exact ⟨_, by rw [hv], hz.1, hz.2, k _ H1 ms1 F1 R1.hr s1 (yld_range _ _)⟩
    · cases ev
  · cases ev⟩
end
/-! ### a text's pieces -/
theorem strs_hasL {Γ : Gm} {ms : List Addr} {F : Hp} : ∀ ys : List Str, HasL Γ ms F (ys.map V.str) (ys.map D.str)
  | [] => rfl
  | y :: ys => ⟨.str y, ys.map V.str, rfl, rfl, strs_hasL ys⟩
def splitD : D → G1 := fun x ds μ => match x, ds with
  | .str a, [.str b] => if (b.length == 0) = false ∧ a.length ≤ 1000000 then some (.mut μ.length, μ ++ [.lst ((Txt.split a b).map D.str)]) else none
  | _, _ => none
section
variable {X : Cx} {cl : Nat → Addr}
theorem md_split : MtD X cl "str.split" splitD := by
  intro ms F H μ x vs dx ds d μ' Q r hx hv ev k
  unfold splitD at ev
  split at ev
  · rename_i a b
    split at ev
    · rename_i hz
      cases ev
      obtain ⟨v, rfl, hy⟩ := hv.one'
      cases hx
      cases hy
      exact ⟨_, mt_split, a, b, rfl, rfl, hz.1, by have := hz.2; rw [sizeLine_eq]; omega, fun p hp => k.mut r (strs_hasL _) hp⟩
    · cases ev
  · cases ev
end
end G

set_option Elab.async false
set_option linter.all false
set_option autoImplicit false
set_option maxRecDepth 100000
set_option maxHeartbeats 2000000
namespace G
open PySem PySem.Spec PySem.Calls L2 L2H PyProof.Rows
/-! ### sum([..]) of whole numbers -/
def intsD : List D → Option (List Int)
  | [] => some []
  | .int i :: ds => match intsD ds with
    | some is => some (i :: is)
    | none => none
  | _ => none
theorem intsD_ok {Γ : Gm} {ms : List Addr} {F : Hp} : ∀ {ds : List D} {is : List Int} {vs : List V}, intsD ds = some is → HasL Γ ms F vs ds → vs = is.map V.int
  | [], is, vs, e, h => by cases e; cases h; rfl
  | d :: ds, is, vs, e, ⟨w, ws, hv, h1, h2⟩ => by
    subst hv
    cases d with
    | int i =>
      unfold intsD at e
      split at e
      · rename_i is' e'
        cases e
        rw [show w = .int i from h1, intsD_ok e' h2]; rfl
      · cases e
    | _ => cases e
def sumD : G1 := fun ds μ => match ds with
  | [.lst xs] => match intsD xs with
    | some is => some (.int is.sum, μ)
    | none => none
  | _ => none
section
variable {X : Cx} {cl : Nat → Addr} {e : Expr} {fe : EF} {pos : Pos}
theorem cd_sum (hc : X.calm = true) : CallD X cl (.builtin "sum") sumD := by
  intro ms F H μ vs ds d μ' Q r hv ev k
  unfold sumD at ev
  split at ev
  · split at ev
    · rename_i xs is hb
      cases ev
      obtain ⟨v, rfl, a, ys, rfl, hs, hl⟩ := hv.one'
      exact ⟨_, cr_sum hc, a, is, rfl, by rw [← intsD_ok hb hl]; exact SqL.of (r.sub _ _ hs), k.imm r rfl⟩
    · cases ev
  · cases ev
/-! ### text[::-1] -/
def revStr (z : Str) : Str := ⟨z.cps.toList.reverse.toArray⟩
theorem rev_made (z : Str) (t : Tok) (k : Tok) : sliceMade z t none none (some (-1, k)) = Made.str (revStr z) := by
  have h : ¬ (((-1 : Int) == 1 && (slicePicked z none none (some (-1, k))).length == z.length) = true) := by
    simp
  unfold sliceMade
  show (if ((-1 : Int) == 1 && (slicePicked z none none (some (-1, k))).length == z.length) = true then _ else _) = _
  rw [if_neg h]
  have e : slicePicked z none none (some (-1, k)) = (List.range z.length).map fun j => z.length - 1 - j := by
    show sliceRange ((z.length : Int) - 1) (-1) (-1) = _
    exact PySem.W.krv_sliceRange z.length
  rw [e, PySem.W.krv_range, List.filterMap_reverse]
  have a := PySem.W.krv_all z.cps
  have l : z.cps.size = z.length := rfl
  rw [l] at a
  rw [a]
  rfl
def tRevS (te : TE) : TE := fun σ H Q => te σ H fun x H1 => ∃ z, x = .str z ∧ z.length ≤ sizeLine ∧ Q (.str (revStr z)) H1
theorem rev_len (z : Str) : (revStr z).length = z.length := by
  show z.cps.toList.reverse.toArray.size = z.cps.size
  simp
theorem pe_revS {te : TE} {k : Nat} {p1 p2 p3 : Pos} (he : PE X e te) : PE X (.Subscript e (.Slice none none (some (.UnaryOp .USub (.Constant (.int 1) k p1) p2)) p3) pos) (tRevS te) := by
  refine ⟨fun pins s σ H Q I h => ?_⟩
  refine Subscript_ (thn (he.run pins s σ H _ I h) fun v s1 ⟨x, H1, I1, r1, q1⟩ => ?_)
  obtain ⟨z, ex, hz, q⟩ := q1
  subst ex
  obtain ⟨t, rfl⟩ := r1
  have hst : PO X (some (.UnaryOp .USub (.Constant (.int 1) k p1) p2)) (tPart (tUn (rU fun i => .int (-i)) (tC (.int 1)))) := po_some (pe_un un_neg pe_int)
  refine wpAny_Slice (thn (po_none.run pins s1 σ H1 (fun o H2 => o = none ∧ H2 = H1) I1 ⟨rfl, rfl⟩) fun vl s2 ⟨l, H2, I2, pl, el, e2⟩ => ?_)
  subst el e2
  refine thn (po_none.run pins s2 σ H2 (fun o H3 => o = none ∧ H3 = H2) I2 ⟨rfl, rfl⟩) fun vu s3 ⟨u, H3, I3, pu, eu, e3⟩ => ?_
  subst eu e3
  refine thn (hst.run pins s3 σ H3 (fun o H4 => o = some (-1) ∧ H4 = H3) I3 ⟨1, rfl, -1, rfl, rfl, rfl⟩) fun vs s4 ⟨o, H4, I4, ps, eo, e4⟩ => ?_
  subst eo e4
  obtain ⟨l', rfl, hl'⟩ := IsPart.raw pl
  obtain ⟨u', rfl, hu'⟩ := IsPart.raw pu
  obtain ⟨st, rfl, hst'⟩ := IsPart.raw ps
  have I5 : Inv X pins σ H4 { s4 with heap := s4.heap.push { cls := .type "slice", data := .fields #[partValue l', partValue u', partValue st] } } := I4.kept (t' := s4.toks) fun b ob q => Heap.get?_push_of_some _ q
  have n1 : l' = none := by cases l' with | none => rfl | some _ => cases hl'
  have n2 : u' = none := by cases u' with | none => rfl | some _ => cases hu'
  obtain ⟨kt, rfl⟩ : ∃ kt, st = some (-1, kt) := by
    cases st with
    | none => cases hst'
    | some p =>
      obtain ⟨i, kt⟩ := p
      simp at hst'
      subst hst'
      exact ⟨kt, rfl⟩
  subst n1 n2
  show wpAny (model X.prog X.w) X.A (subscriptTail e (.Slice none none (some (.UnaryOp .USub (.Constant (.int 1) k p1) p2)) p3) (.str z t) (.ref s4.heap.objs.size)) (EP X pins σ Q) X.xe { s4 with heap := s4.heap.push { cls := .type "slice", data := .fields #[partValue none, partValue none, partValue (some (-1, kt))] } }
  refine tail_any (ops := [.str z t, .ref s4.heap.objs.size]) (typeIs_str _ _ _) (F.slot_str_getitem.lookup) ?_ (by with_unfolding_all rfl)
  refine wpAny_getItem_str_slice (l := none) (u := none) (st := some (-1, kt)) ⟨_, Heap.get?_push_size _ rfl, rfl, rfl⟩ (by rfl) ?_
  rw [rev_made]
  exact ⟨by rw [rev_len]; exact hz, .str _, H4, I5.tok _, ⟨_, rfl⟩, q⟩
def eRevS (fe : EF) : EF := eThen fe fun x _ μ => match x with
  | .str z => if z.length ≤ 1000000 then some (.str (revStr z), μ) else none
  | _ => none
theorem de_revS {k : Nat} {p1 p2 p3 : Pos} (h : DE X cl e fe) : DE X cl (.Subscript e (.Slice none none (some (.UnaryOp .USub (.Constant (.int 1) k p1) p2)) p3) pos) (eRevS fe) := ⟨(pe_revS h.p).weak fun σ H Q ⟨O, ms, F, δ, μ, d, μ', R, ev, kk⟩ => by
  obtain ⟨d1, μ1, e1, ev⟩ := eThen_some ev
  refine tE.seq R e1 fun v H1 ms1 F1 R1 s1 q1 => ?_
  split at ev
  · rename_i z
    split at ev
    · rename_i hz
      cases ev
      exact ⟨z, q1, by rw [sizeLine_eq]; omega, kk (.str (revStr z)) H1 ms1 F1 R1.hr s1 rfl⟩
    · cases ev
  · cases ev⟩
end
end G

set_option Elab.async false
set_option linter.all false
set_option autoImplicit false
set_option maxRecDepth 100000
set_option maxHeartbeats 2000000
namespace G
open PySem PySem.Spec PySem.Calls L2 L2H PyProof.Rows
/-! ### an own function of the exception that is handled -/
structure FnHE (P : Program) (w : World) (K : PySem.W.Frag) (mg : Str → Option Value) (base : Heap) (CX : CXT) (k : Nat) (f : Addr) (fd : FuncData) (ps : List Str) (sp : Addr × Obj → Sp) : Prop where
  len : ∀ p vs H Q E, sp p vs H Q E → vs.length = ps.length
  run : ∀ (A : Around) (outer : List Env) (s : Shared) (H : Hp) (args : Args) (us : List Value) (vs : List V) (Q : VK) (E : XK) (p : Addr × Obj), RoomH k A → Hot1 A p → PinOk outer H s p → Env0 P w K mg base A outer s H → BindsTo s fd args (ps.zip us) → Vals vs us → sp p vs H Q E →
    codeAny (model P w) A (.call (.ref f) args) (CR CX outer P w H s Q E) s
theorem fn_ofHE {CX : CXT} {P : Program} {w : World} {K : PySem.W.Frag} {mg : Str → Option Value} {base : Heap} {k : Nat} {f : Addr} {name qual : Str} {params : Arguments} {body : List Stmt} {scope : Scope} {dV kV doc pm cdv ct oc : Value} {an od : Option Addr}
    {osl : Array (Option Value)} {N ps : List Str} {sp : Addr × Obj → Sp} (lk : K.lookup f = some ⟨oc, od, .func (PySem.W.fnOf name qual params body scope dV kV doc pm an cdv ct), osl⟩) (hcd : PySem.W.codeIn K cdv qual = true) (S : FnScope N ps scope)
    (len : ∀ p vs H Q E, sp p vs H Q E → vs.length = ps.length)
    (hbody : ∀ (A : Around) (outer : List Env) (s : Shared) (H : Hp) (vs : List V) (Q : VK) (E : XK) (p : Addr × Obj), Hot1 A p → RoomH k (A.deeper (envOfC qual scope s.heap.objs.size f cdv)) → sp p vs H Q E →
      ∃ t, PSs (cxH CX P w K mg base N qual scope f cdv A outer s H E p) body t ∧ t { nx := fun _ H' => Q .non H', rt := Q } (L2.start N vs) H) :
    FnHE P w K mg base CX (k + 1) f (PySem.W.fnOf name qual params body scope dV kV doc pm an cdv ct) ps sp := by
  refine ⟨len, fun A outer s H args us vs Q E p hr hot hpin e0 hb r hsp => ?_⟩
  have hl := len _ _ _ _ _ hsp
  have KX : K.In s.heap := e0.mod.kin.keeps fun b o e => (e0.bs b o e).1
  have lim : s.heap.NoLimit := e0.mod.nolimit.keeps fun b o e => (e0.bs b o e).1
  have hkind : ∀ y ∈ ps.zip us, scope.names.lookup y.1 = some .local ∨ (scope.names.lookup y.1 = some .cell ∧ ((cellsFrom (s.heap.objs.size + 1) scope.names []).lookup y.1).isSome = true) := fun ⟨n, v⟩ hy => by
    rcases S.par n (List.of_mem_zip hy).1 with q | q
    · exact .inl q
    · exact .inr ⟨q, PySem.W.cellsFrom_some _ _ _ (.inl q)⟩
  refine codeAny_call_function hr.depth (KX _ _ lk) rfl S.co S.gen rfl (PySem.W.codeRec_of KX hcd) (hb _ _ _ _ ?_)
  refine wpAny_newFunctionEnv_cells S.kind hkind fun env he s1 x => ?_
  subst he
  refine ⟨lim.keeps x.toInCall.keep, codeAny_func ?_⟩
  obtain ⟨t, ht, hq⟩ := hbody A outer s H vs Q E p hot (hr.deeper _) hsp
  have I : Inv (cxH CX P w K mg base N qual scope f cdv A outer s H E p) [] (L2.start N vs) H s1 := inv_startH S hpin e0 hl r x
  refine wpAny_mono (ht.run [] s1 (L2.start N vs) H _ I hq) (fun fl s' hs => ?_) fun e s' hs => hs
  have fin : ∀ {σ' : L2.St} {H' : Hp} {v : V} {u : Value}, Inv (cxH CX P w K mg base N qual scope f cdv A outer s H E p) [] σ' H' s' → RelV v u → Q v H' → CE outer P w H s Q u s' :=
    fun {σ' H' v u} J rv q => ⟨v, H', J.os, J.bare, J.base, J.hok, rv, q⟩
  cases fl with
  | ret u =>
    obtain ⟨v, σ', H', J, rv, q⟩ := hs
    exact fin J rv q
  | next =>
    obtain ⟨σ', H', J, q⟩ := hs
    exact fin (v := V.non) (u := Value.none) J rfl q
  | brk =>
    obtain ⟨_, _, _, q⟩ := hs
    exact False.elim q
  | cont =>
    obtain ⟨_, _, _, q⟩ := hs
    exact False.elim q
/-- the slots of such a def at its entry: the exception stands in the first -/
def startE (n : Nat) (C : Nat) (m : Str) (d : D) : List SV := (startD n []).set 0 (.xv C m d)
abbrev EFn := Nat → Str → D → List MO → Option (D × List MO)
def runE (n : Nat) (body : BF) : EFn := fun C m d μ => match body (startE n C m d) μ with
  | some (.nx _ μ') => some (.non, μ')
  | some (.rt d' μ') => some (d', μ')
  | _ => none
def spE (K : PySem.W.Frag) (cl : Nat → Addr) (fn : EFn) : Addr × Obj → Sp := fun p vs H Q E => ∃ (C : Nat) (m : Str) (d : D) (dx : Addr) (v : V) (ms : List Addr) (F : Hp) (μ : List MO) (d' : D) (μ' : List MO), vs = [.ref p.1] ∧ (Zc (.ref (cl C)) (some dx) p.2 ∧ ∃ vs, p.2.data = .fields vs) ∧
  HR ⟨K, cl, none⟩ ms F H μ ∧ F dx = some (exd dx [(m, v)]) ∧ Has ⟨K, cl, none⟩ ms F v d ∧ fn C m d μ = some (d', μ') ∧ Fin1 ⟨K, cl, none⟩ ms F H d' μ' Q
section
variable {P : Program} {w : World} {K : PySem.W.Frag} {mg : Str → Option Value} {base : Heap} {cl : Nat → Addr}
theorem fnHE_ok {x qual y : Str} {st : Stmt} {f : Addr} {fd : FuncData} {N' : List Str} {k : Nat} {body : BF} (F : Fun K x qual st f fd) (S : FnScope (y :: N') [y] (defScope st))
    (hB : ∀ (cdv : Value) (A : Around) (outer : List Env) (s : Shared) (H : Hp) (E : XK) (p : Addr × Obj), HotC (cxH CX0 P w K mg base (y :: N') qual (defScope st) f cdv A outer s H E p) → RoomH k (A.deeper (envOfC qual (defScope st) s.heap.objs.size f cdv)) →
      DB (cxH CX0 P w K mg base (y :: N') qual (defScope st) f cdv A outer s H E p) cl (defBody st) body) : FnHE P w K mg base CX0 (k + 1) f fd [y] (spE K cl (runE (N'.length + 1) body)) := by
  obtain ⟨oc, od, kV, doc, pm, an, cdv, ct, osl, rfl, lk, hcd⟩ := F.ex
  refine fn_ofHE lk hcd S (fun p vs H Q E h => ?_) fun A outer s H vs Q E p hot hr h => ?_
  · obtain ⟨C, m, d, dx, v, ms, F, μ, d', μ', rfl, _⟩ := h
    rfl
  · have hotC : HotC (cxH CX0 P w K mg base (y :: N') qual (defScope st) f cdv A outer s H E p) := ⟨p, hot, List.mem_cons_self⟩
    refine ⟨tS ⟨K, cl, some p⟩ (W0 (cxH CX0 P w K mg base (y :: N') qual (defScope st) f cdv A outer s H E p)) body, (hB cdv A outer s H E p hotC hr).p, ?_⟩
    obtain ⟨C, m, d, dx, v, ms, F, μ, d', μ', rfl, hz, r, hd, hy, ev, k⟩ := h
    have R0 : SR ⟨K, cl, some p⟩ ⟨ms, F, H⟩ ms F H (L2.start (y :: N') []) (startD (y :: N').length []) μ := SR.start (vs := []) (ds := []) r.xp rfl
    have R1 := R0.setX (a := p.1) (oe := p.2) hz hd hy.xp 0
    have e0 : (L2.start (y :: N') []).set 0 (some (.ref p.1)) = L2.start (y :: N') [.ref p.1] := by simp [L2.start, List.replicate_succ]
    rw [e0] at R1
    unfold runE at ev
    split at ev
    · rename_i δ' μ2 e
      cases ev
      exact ⟨⟨ms, F, H⟩, ms, F, _, μ, _, R1, e, rfl, fun σ' H' ms' F' R' x => k .non H' ms' F' R'.hr.xp R'.st rfl⟩
    · rename_i d'' μ2 e
      cases ev
      exact ⟨⟨ms, F, H⟩, ms, F, _, μ, _, R1, e, rfl, fun v H' ms' F' r' s' q' => k v H' ms' F' r'.xp s' q'.xp⟩
    · cases ev
/-- its call: f(e), e the exception that this very suite handles -/
def eFnE (fn : EFn) (i : Nat) : EF := fun δ μ => match δ[i]? with
  | some (.xv C m d) => fn C m d μ
  | _ => none
end
section
variable {X : Cx} {cl : Nat → Addr} {e : Expr} {pos p : Pos} {k i : Nat} {f : Addr} {fd : FuncData} {y x : Str} {fn : EFn}
theorem pe_callHE {sp : Addr × Obj → Sp} {ps : List Str} {E : XK} (F : FnHE X.prog X.w X.K X.mg X.base CX0 k f fd ps sp) (hr : RoomH k X.A) (hc : HotC X) (hA : ∀ q, X.pn.head? = some q → X.A.handled = some (.ref q.1)) (hg : Gl X x) (hm : X.mg x = some (.ref f)) (hk : PySem.W.keepIn X.K (.ref f) = true) (hb : Binds X.K fd ps [])
    (hv : PE X e (tVar i)) (hdb : (x == ("__debug__" : Str)) = false := by decide) (he : starEach (e :: []) X.env = (false, eval e X.env) :: starEach [] X.env := by rfl) (hpl : (backTo pos (starEach [] X.env)).any (·.1) = false := by rfl) :
    PE X (.Call (.Name x p) [e] [] pos) (fun σ H Q => ∃ q, X.pn.head? = some q ∧ σ[i]? = some (some (.ref q.1)) ∧ sp q [.ref q.1] H Q E) := by
  refine ⟨fun pins s σ H Q I ⟨q, hq, hs, h⟩ => ?_⟩
  refine wpAny_Call_Name_kw (ld_glob I hg hm ?_ hdb)
  have ha : PA X [e] (tCons (tVar i) tNil) := pa_cons hv pa_nil he
  refine PySem.W.callWith_K (h₀ := X.base) I.ok.mod.kin hk (thn (ha.run pos pins s σ H (fun vs H1 => vs = [.ref q.1] ∧ H1 = H) I ⟨.ref q.1, hs, rfl, rfl⟩) fun us s1 ⟨vs, H1, I1, r, rv, rH⟩ => ⟨I1.kIn, ?_⟩) he hpl
  subst rv rH
  obtain ⟨p', hot, hp⟩ := hc
  have hp1 : p'.1 = q.1 := by
    have a := hot.1
    rw [hA q hq] at a
    simpa using (Option.some.inj a).symm
  have hqm : q ∈ X.pn := by
    cases z : X.pn with
    | nil => rw [z] at hq; cases hq
    | cons a l => rw [z] at hq; cases hq; exact List.mem_cons_self
  have P1 := I1.pin p' (List.mem_append_left _ hp)
  have P2 := I1.pin q (List.mem_append_left _ hqm)
  have hpq : p' = q := by
    have a := P1.1
    rw [hp1, P2.1] at a
    cases p'; cases q
    simp at hp1 a
    simp [hp1, a]
  subst hpq
  have hl : us.length = ps.length := by rw [← r.length]; exact F.len _ _ _ _ _ h
  have b := hb s1 us I1.kIn (by rw [List.append_nil]; exact hl)
  rw [List.append_nil] at b
  have hpin : PinOk X.stack H1 s1 p' := ⟨P1.1, P1.2.1, fun hm => (List.mem_cons.mp (I1.stkSub p'.1 hm)).elim P1.2.2.1 P1.2.2.2.1, P1.2.2.2.2⟩
  refine wpAny_call (codeAny_mono (F.run X.A X.stack s1 H1 ⟨us, []⟩ us _ Q E p' hr hot hpin I1.env0 b r h) fun r s' hq => ?_)
  cases r with
  | error e => exact (pass0A (X := X) (E := fun _ => E) σ) pins H1 s1 e s' I1 hq
  | ok fl =>
    cases fl with
    | ret u => exact I1.after hq
    | next => exact False.elim hq
    | brk => exact False.elim hq
    | cont => exact False.elim hq
theorem de_callHE {ps : List Str} (Fe : FnHE X.prog X.w X.K X.mg X.base CX0 k f fd ps (spE X.K cl fn)) (hot : HotC X) (hr : RoomH k X.A) (hA : ∀ q, X.pn.head? = some q → X.A.handled = some (.ref q.1)) (hg : Gl X x) (hm : X.mg x = some (.ref f)) (hk : PySem.W.keepIn X.K (.ref f) = true) (hb : Binds X.K fd ps [])
    (hv : PE X e (tVar i)) (hdb : (x == ("__debug__" : Str)) = false := by decide) (he : starEach (e :: []) X.env = (false, eval e X.env) :: starEach [] X.env := by rfl) (hpl : (backTo pos (starEach [] X.env)).any (·.1) = false := by rfl) :
    DE X cl (.Call (.Name x p) [e] [] pos) (eFnE fn i) := ⟨(pe_callHE (E := E0) Fe hr hot hA hg hm hk hb hv hdb he hpl).weak fun σ H Q ⟨O, ms, F, δ, μ, d, μ', R, ev, kk⟩ => by
  unfold eFnE at ev
  split at ev
  · rename_i C m d0 hi
    obtain ⟨a, oe, dx, v, ex, es, hz, hd, hy⟩ := R.er.ok i _ hi
    have hpn : X.pn.head? = some (a, oe) := by
      have z : (bif X.calm then none else X.pn.head?) = some (a, oe) := ex
      cases q : X.calm with
      | true => rw [q] at z; cases z
      | false => rw [q] at z; exact z
    exact ⟨(a, oe), hpn, es, C, m, d0, dx, v, ms, F, μ, d, μ', rfl, hz, R.hr.xp, hd, hy.xp, ev, fun v' H' ms' F' r s q => kk v' H' ms' F' r.xp s q.xp⟩
  · cases ev⟩
/-- such a def, as it stands -/
structure HasHE (P : Program) (w : World) (K : PySem.W.Frag) (mg : Str → Option Value) (base : Heap) (cl : Nat → Addr) (k : Nat) (x : Str) (ps : List Str) (fn : EFn) where
  f : Addr
  fd : FuncData
  ok : FnHE P w K mg base CX0 k f fd ps (spE K cl fn)
  mg : mg x = some (.ref f)
  kp : PySem.W.keepIn K (.ref f) = true
  bd : Binds K fd ps []
end
end G

set_option Elab.async false
set_option linter.all false
set_option autoImplicit false
set_option maxRecDepth 100000
set_option maxHeartbeats 4000000
namespace G
open PySem PySem.Spec PySem.Calls L2 PyProof.Rows L2H HotX
/-! ### zip(xs, ys), walked while an exception is handled -/
section
variable {prog : Program} {w : World} {A : Around} {E : Value → Shared → Prop} {s : Shared}
theorem nextOf_end_hot {it l x1 : Addr} {i : Nat} {items : Array Value} {Q : Value → Shared → Prop} (hot : HotAt A x1 s.heap) (hni : x1 ≠ it) (hit : s.heap.IsListIter it l i) (hl : s.heap.IsList l items) (hx : items[i]? = none)
    (hE : ∀ h' e, (∀ b o, b ≠ it → s.heap.get? b = some o → h'.get? b = some o) → (∃ o, h'.get? e = some o ∧ o.cls = .type "StopIteration") → E (.ref e) { s with heap := h' }) :
    wpAny (model prog w) A (Builtin.SmallTypes.nextOf (.ref it)) Q E s := by
  obtain ⟨o, ho, hc, hd⟩ := id hit
  obtain ⟨ol, hol, _, nl, hdl⟩ := hl
  obtain ⟨hh, o1, vs1, h1, d1, c1⟩ := hot
  unfold Builtin.SmallTypes.nextOf
  refine wpAny_bind (wpAny_callSpecial?_slot (name := Str.ofString "__next__") hit.typeIs slot_listiter_next
    (wpAny_call_entry slot_listiter_next hit.typeIs entry_listiter_next ?_ (args_listiter_next _)))
  show wpAny _ _ (field (.ref it) 0 >>= _) _ _ s
  refine wpAny_bind (wpAny_field ho hd (x := .ref l) rfl ?_)
  show wpAny _ _ (if (Value.ref l == Value.none) = true then _ else _) _ _ s
  rw [if_neg (show ¬ ((Value.ref l == Value.none) = true) from Bool.false_ne_true)]
  show wpAny _ _ (field (.ref it) 1 >>= _) _ _ s
  refine wpAny_bind (wpAny_field ho hd (x := .int i 0) rfl ?_)
  show wpAny _ _ (seqItems? (.ref l) >>= _) _ _ s
  refine wpAny_bind (wpAny_seqItems hol hdl ?_)
  simp only [Int.toNat_natCast, hx]
  refine wpAny_bind (wpAny_rule (wpAny_bind (wpAny_setField ho hd (by simp) ?_)))
  have k0 : ∀ b u, b ≠ it → s.heap.get? b = some u → (s.heap.update it (Obj.mapFields (·.setIfInBounds 0 Value.none))).get? b = some u := fun b u hb e => (Heap.get?_update_other _ _ (Ne.symm hb)).trans e
  have h1' := k0 x1 o1 hni h1
  show wpAny _ _ (newExc (.type "StopIteration") [] >>= _) _ _ _
  refine wpAny_bind ?_
  simp only [newExc, newTuple]
  refine wpAny_bind (wpAny_newObj_type ?_ (by size_fits))
  refine wpAny_bind (m := firstArgMember _ _) (wpAny_of_eq (a := Value.none) (by first | rfl | (simp only [firstArgMember]; rfl)) ?_)
  refine wpAny_newObj_type ?_ (by size_fits)
  refine raiseNew_hot ⟨hh, o1, vs1, Heap.get?_push_of_some _ (Heap.get?_push_of_some _ h1'), d1, c1⟩ (Nat.ne_of_lt (Heap.lt_size (Heap.get?_push_of_some _ h1'))) (Heap.get?_push_size _ rfl) rfl (by first | (simp; done) | (simp; omega) | (simp only [Array.size_append]; simp; omega)) ?_
  refine hE _ _ (fun b u hb e => ?_) ⟨_, Heap.get?_update_self _ (Heap.get?_push_size _ rfl) rfl, rfl⟩
  rw [Heap.get?_update_other _ _ (Nat.ne_of_gt (Heap.lt_size (Heap.get?_push_of_some _ (k0 b u hb e))))]
  exact Heap.get?_push_of_some _ (Heap.get?_push_of_some _ (k0 b u hb e))
theorem HotAt.go {A : Around} {x1 : Addr} {h h' : Heap} (hot : HotAt A x1 h) (k : ∀ o, h.get? x1 = some o → h'.get? x1 = some o) : HotAt A x1 h' := by
  obtain ⟨hh, o, vs, e, d, c⟩ := hot
  exact ⟨hh, o, vs, k o e, d, c⟩
theorem zip_end_hot {z TI TO i1 i2 l1 l2 x1 : Addr} {k1 k2 : Nat} {xs ys : Array Value} {a b : Value} {Q : Fin → Shared → Prop} (hot : HotAt A x1 s.heap) (n0 : x1 ≠ z) (nT : x1 ≠ TO) (n1 : x1 ≠ i1) (n2 : x1 ≠ i2) (D : ZipApart z TI TO i1 i2 l1 l2)
    (hz : IsZip s.heap z TI TO .none) (hTI : IsPair s.heap TI (.ref i1) (.ref i2)) (hTO : IsPair s.heap TO a b)
    (h1 : s.heap.IsListIter i1 l1 k1) (h2 : s.heap.IsListIter i2 l2 k2) (hl1 : s.heap.IsList l1 xs) (hl2 : s.heap.IsList l2 ys) (hend : xs[k1]? = none ∨ ys[k2]? = none)
    (hE : ∀ h' e, (∀ c o, c ≠ z → c ≠ TO → c ≠ i1 → c ≠ i2 → s.heap.get? c = some o → h'.get? c = some o) → (∃ o, h'.get? e = some o ∧ o.cls = .type "StopIteration") → E (.ref e) { s with heap := h' }) :
    wpAny (model prog w) A (Builtin.«zip.__next__» ⟨[.ref z], []⟩) Q E s := by
  show wpAny _ _ (field (.ref z) 2 >>= _) _ _ _
  refine wpAny_bind (wpAny_field hz rfl (x := .bool false) rfl ?_)
  show wpAny _ _ (field (.ref z) 3 >>= _) _ _ _
  refine wpAny_bind (wpAny_field hz rfl (x := .ref TI) rfl ?_)
  refine wpAny_bind (wpAny_seqItems hTI rfl ?_)
  show wpAny _ _ (Builtin.SmallTypes.ownedTupleIsFree (.ref z) >>= _) _ _ _
  refine wpAny_bind ?_
  unfold Builtin.SmallTypes.ownedTupleIsFree
  refine wpAny_bind (wpAny_field hz rfl (x := .none) rfl (wpAny_pure ?_))
  simp only [if_true]
  refine wpAny_bind (wpAny_rule ?_)
  refine wpAny_bind (wpAny_field hz rfl (x := .ref TO) rfl ?_)
  refine wpAny_bind (wpAny_setField_rec hz (by simp) fun h₁ hz₁ hs₁ => ?_)
  replace hz₁ : IsZip h₁ z TI TO .ellipsis := hz₁
  have hot₁ : HotAt A x1 h₁ := HotAt.go hot fun o e => hs₁.extBut _ _ n0 e
  refine wpAny_bind ?_
  simp only [List.zipIdx_cons, List.zipIdx_nil, List.forIn_cons, List.forIn_nil]
  refine wpAny_bind (wpAny_bind (wpAny_onRaise ?_))
  show wpAny _ _ (Builtin.SmallTypes.nextOf (.ref i1) >>= _) _ _ _
  cases hx : xs[k1]? with
  | none =>
    refine wpAny_bind (nextOf_end_hot hot₁ n1 (h1.extBut hs₁.extBut D.i1z) (hl1.extBut hs₁.extBut D.l1z) hx fun h₂ e hs₂ he => ?_)
    obtain ⟨oe, hoe, hce⟩ := he
    have hz₂ : IsZip h₂ z TI TO .ellipsis := hs₂ _ _ D.i1z.symm hz₁
    have hez : e ≠ z := fun x => by subst x; rw [hz₂] at hoe; cases hoe; simp at hce
    refine wpAny_setField_rec hz₂ (by simp) fun h₃ _ hs₃ => hE h₃ e (fun c o c1 _ c3 _ x => hs₃.extBut _ _ c1 (hs₂ _ _ c3 (hs₁.extBut _ _ c1 x))) ⟨oe, hs₃.extBut _ _ hez hoe, hce⟩
  | some x =>
    have hy : ys[k2]? = none := by rcases hend with h | h; rw [hx] at h; cases h; exact h
    refine wpAny_bind (wpAny_nextOf_list_item (h1.extBut hs₁.extBut D.i1z) (hl1.extBut hs₁.extBut D.l1z) hx fun h₂ h1₂ hs₂ => wpAny_pure ?_)
    have hTO₂ : IsPair h₂ TO a b := hs₂.extBut _ _ D.TOi1 (hs₁.extBut _ _ D.TOz hTO)
    refine wpAny_bind (wpAny_seqItems hTO₂ rfl ?_)
    refine wpAny_bind (wpAny_updateSeq_pair hTO₂ fun h₃ hTO₃ hs₃ => ?_)
    refine wpAny_bind (wpAny_letGo (wpAny_pure ?_))
    refine wpAny_bind (wpAny_bind (wpAny_onRaise ?_))
    show wpAny _ _ (Builtin.SmallTypes.nextOf (.ref i2) >>= _) _ _ _
    have hot₃ : HotAt A x1 h₃ := HotAt.go hot₁ fun o e => hs₃.extBut _ _ nT (hs₂.extBut _ _ n1 e)
    refine wpAny_bind (nextOf_end_hot hot₃ n2 (((h2.extBut hs₁.extBut D.i2z).extBut hs₂.extBut D.i12.symm).extBut hs₃.extBut D.TOi2.symm)
      (((hl2.extBut hs₁.extBut D.l2z).extBut hs₂.extBut D.l2i1).extBut hs₃.extBut D.l2TO) hy fun h₄ e hs₄ he => ?_)
    obtain ⟨oe, hoe, hce⟩ := he
    have hz₄ : IsZip h₄ z TI TO .ellipsis := hs₄ _ _ D.i2z.symm (hs₃.extBut _ _ D.TOz.symm (hs₂.extBut _ _ D.i1z.symm hz₁))
    have hez : e ≠ z := fun x => by subst x; rw [hz₄] at hoe; cases hoe; simp at hce
    refine wpAny_setField_rec hz₄ (by simp) fun h₅ _ hs₅ => hE h₅ e (fun c o c1 c2 c3 c4 x => hs₅.extBut _ _ c1 (hs₄ _ _ c4 (hs₃.extBut _ _ c2 (hs₂.extBut _ _ c3 (hs₁.extBut _ _ c1 x))))) ⟨oe, hs₅.extBut _ _ hez hoe, hce⟩
theorem pyNext_zip_end_hot {z TI TO i1 i2 l1 l2 x1 : Addr} {k1 k2 : Nat} {xs ys : Array Value} {a b : Value} {Q : Option Value → Shared → Prop} (hot : HotAt A x1 s.heap) (n0 : x1 ≠ z) (nT : x1 ≠ TO) (n1 : x1 ≠ i1) (n2 : x1 ≠ i2) (D : ZipApart z TI TO i1 i2 l1 l2)
    (hz : IsZip s.heap z TI TO .none) (hTI : IsPair s.heap TI (.ref i1) (.ref i2)) (hTO : IsPair s.heap TO a b)
    (h1 : s.heap.IsListIter i1 l1 k1) (h2 : s.heap.IsListIter i2 l2 k2) (hl1 : s.heap.IsList l1 xs) (hl2 : s.heap.IsList l2 ys) (hend : xs[k1]? = none ∨ ys[k2]? = none)
    (hQ : ∀ h', (∀ c o, c ≠ z → c ≠ TO → c ≠ i1 → c ≠ i2 → s.heap.get? c = some o → h'.get? c = some o) → Q none { s with heap := h' }) : wpAny (model prog w) A (pyNext (.ref z)) Q E s := by
  have hT : s.TypeIs (.ref z) "zip" := ⟨_, hz, rfl⟩
  unfold pyNext
  refine wpAny_bind (wpAny_attempt (wpAny_callSpecial?_slot (name := Str.ofString "__next__") hT F.slot_zip_next
    (wpAny_call_entry F.slot_zip_next hT F.entry_zip_next (zip_end_hot (HotAt.go hot fun _ e => e) n0 nT n1 n2 D hz hTI hTO h1 h2 hl1 hl2 hend fun h' e hk he => ?_) (F.args_zip_next_1 _))))
  obtain ⟨o, ho, hc⟩ := he
  refine wpAny_bind (wpAny_isInstance (T := "StopIteration") (b := true) ⟨o, ho, hc⟩ isSubtype_stop ?_)
  exact wpAny_pure (hQ _ hk)
end
theorem turn_zipH {P : Program} {w : World} {K : PySem.W.Frag} {elts : List Expr} {kk : Nat} {tpos : Pos} {a b z TI TO i1 i2 : Addr} (D : ZipApart z TI TO i1 i2 a b) :
    TurnH P w K (.Tuple elts kk tpos) (Itz K a b) [z, TI, TO, i1, i2] z (fun i h => IsZip h z TI TO .none ∧ IsPair h TI (.ref i1) (.ref i2) ∧ (∃ x y, IsPair h TO x y) ∧ h.IsListIter i1 a i ∧ h.IsListIter i2 b i) where
  mem := (turn_zip (P := P) (w := w) (K := K) (elts := elts) (kk := kk) (tpos := tpos) D).mem
  obj := (turn_zip (P := P) (w := w) (K := K) (elts := elts) (kk := kk) (tpos := tpos) D).obj
  keep := (turn_zip (P := P) (w := w) (K := K) (elts := elts) (kk := kk) (tpos := tpos) D).keep
  item := by
    intro X hP hw hK hc i pins s σ H E I hf st hg
    subst hP hw hK
    obtain ⟨hz, hTI, ⟨x0, y0, hTO⟩, h1, h2⟩ := st
    obtain ⟨xs, ys, x, y, hqx, hqy, hx, hy⟩ := hg
    obtain ⟨its, rv, p, _⟩ := I.list hqx
    obtain ⟨its2, rv2, p2, _⟩ := I.list hqy
    obtain ⟨u, hu, ru⟩ := rv.get hx
    obtain ⟨u2, hu2, ru2⟩ := rv2.get hy
    have hzl : z < s.heap.objs.size := Heap.lt_size hz
    refine wpAny_pyNext_zip_item D hz hTI hTO h1 h2 p.isList p2.isList (x := u) (y := u2) (by simpa using hu) (by simpa using hu2) fun h' z' TO' h1' h2' hT hsz hk => ?_
    refine ⟨_, rfl, wpAny_letOwnedTupleGo_zip (s := { s with heap := h' }) z' fun h'' z'' sb => ?_⟩
    have hT2 : h''.get? s.heap.objs.size = some { cls := .type "tuple", data := .seq #[u, u2] } := (sb.2 _ (Nat.ne_of_gt hzl)).trans hT
    have new : ObjOk X.prog X.w (upd H s.heap.objs.size (.tup [x, y])) h'' s.heap.objs.size (.tup [x, y]) :=
      ⟨by show 2 ≤ sizeLine; decide, [u, u2], .cons ru (.cons ru2 .nil), ⟨_, hT2, rfl, _, rfl⟩⟩
    have I1 : Inv X pins σ (upd H s.heap.objs.size (.tup [x, y])) { s with heap := h'' } :=
      I.turnedNew (t' := s.toks) (ch := [z, TI, TO, i1, i2]) (fun c o hb q => (sb.2 c (fun q' => hb (by simp [q']))).trans (hk c o (fun q' => hb (by simp [q'])) (fun q' => hb (by simp [q'])) (fun q' => hb (by simp [q'])) (fun q' => hb (by simp [q'])) q)) hf (Nat.le_refl _) new
    refine ⟨.ref s.heap.objs.size, _, I1, rfl, ⟨_, x, y, rfl, I.hok.fresh (Nat.le_refl _), rfl, fun l hl => by rw [I.list_inj hl hqx]; exact hx, fun l hl => by rw [I.list_inj hl hqy]; exact hy⟩, ⟨z'', (sb.2 _ D.TIz).trans (hk _ _ D.TIz D.TITO D.TIi1 D.TIi2 hTI), ⟨u, u2, (sb.2 _ D.TOz).trans TO'⟩, h1'.at fun o q => (sb.2 _ D.i1z).trans q, h2'.at fun o q => (sb.2 _ D.i2z).trans q⟩, fun c hcm => ?_⟩
    obtain ⟨o, e, _⟩ := (turn_zip (P := X.prog) (w := X.w) (K := X.K) (elts := elts) (kk := kk) (tpos := tpos) D).obj i s.heap ⟨hz, hTI, ⟨_, _, hTO⟩, h1, h2⟩ c hcm
    rw [upd_ne (Nat.ne_of_lt (Heap.lt_size e))]
    exact (hf c hcm).1
  done := by
    intro X hP hw hK hc i pins s σ H E I hf st hg
    subst hP hw hK
    obtain ⟨hz, hTI, ⟨x0, y0, hTO⟩, h1, h2⟩ := st
    obtain ⟨xs, ys, hqx, hqy, hend⟩ := hg
    obtain ⟨its, rv, p, _⟩ := I.list hqx
    obtain ⟨its2, rv2, p2, _⟩ := I.list hqy
    have l1 := rv.length
    have l2 := rv2.length
    have he : its.toArray[i]? = none ∨ its2.toArray[i]? = none := by
      rcases hend with q | q
      · exact .inl (by simp; omega)
      · exact .inr (by simp; omega)
    -- the exception's pin, out of the walk's way
    obtain ⟨p0, ⟨hh, v1, e1, c1⟩, hp⟩ := hc
    have hot : HotAt X.A p0.1 s.heap := ⟨hh, p0.2, v1, (I.pin p0 (List.mem_append_left _ hp)).1, e1, c1⟩
    have far : ∀ c ∈ [z, TI, TO, i1, i2], p0.1 ≠ c := fun c hc => (hf c hc).2.2.2.2.2 p0 (List.mem_append_left _ hp)
    exact pyNext_zip_end_hot hot (far z (by simp)) (far TO (by simp)) (far i1 (by simp)) (far i2 (by simp)) D hz hTI hTO h1 h2 p.isList p2.isList he fun h' hk => ⟨rfl, I.turnedL (t' := s.toks) (ch := [z, TI, TO, i1, i2]) (fun c o hb q =>
      hk c o (fun q' => hb (by simp [q'])) (fun q' => hb (by simp [q'])) (fun q' => hb (by simp [q'])) (fun q' => hb (by simp [q'])) q) hf⟩
  self := (turn_zip (P := P) (w := w) (K := K) (elts := elts) (kk := kk) (tpos := tpos) D).self
theorem pi_zipH {X : Cx} {e e2 : Expr} {ta : TA} {p pos tpos : Pos} {elts : List Expr} {kk : Nat} (hg : Gl X "zip") (hm : X.mg "zip" = none) (ha : PA X [e, e2] ta)
    (hs : starEach [e, e2] X.env = (false, eval e X.env) :: starEach [e2] X.env := by rfl) (hpl : (backTo pos (starEach [e2] X.env)).any (·.1) = false := by rfl) :
    PIH X (.Tuple elts kk tpos) (.Call (.Name "zip" p) [e, e2] [] pos) (iZip X.K ta) := by
  refine ⟨fun pins s σ H R I h => ?_⟩
  refine Call_ (ld_blt I hg hm PyProof.Rows.boot_zip (PyProof.Rows.callWith_type1 (thn (ha.run pos pins s σ H _ I h) fun us s1 ⟨vs, H1, I1, r1, q1⟩ => ?_) hs hpl))
  obtain ⟨a, b, xs, ys, ex, hqx, hqy, q⟩ := q1
  subst ex
  obtain ⟨u1, u2, rfl, r, r'⟩ := vals2 r1
  cases r
  cases r'
  obtain ⟨its, rv, p1, _⟩ := I1.list hqx
  obtain ⟨its2, rv2, p2, _⟩ := I1.list hqy
  refine call_zip_2 p1.isList p2.isList fun h' hz hTI hTO h1 h2 hsz hk => wpAny_pyIter_zip hz ?_
  have I2 : Inv X pins σ H1 { s1 with heap := h' } := I1.kept (t' := s1.toks) hk
  refine ⟨s1.heap.objs.size + 4, [s1.heap.objs.size + 4, s1.heap.objs.size + 2, s1.heap.objs.size + 3, s1.heap.objs.size, s1.heap.objs.size + 1], _, _, H1, rfl, I2, turn_zipH (PySem.W.ktu_apart s1.heap.objs.size a b p1.lt p2.lt), ⟨hz, hTI, ⟨_, _, hTO⟩, h1, h2⟩, fun c hcm => ?_, q⟩
  have hle : s1.heap.objs.size ≤ c := by
    simp only [List.mem_cons, List.mem_nil_iff, or_false] at hcm
    rcases hcm with q | q | q | q | q <;> rw [q] <;> first | exact Nat.le_refl _ | exact Nat.le_add_right _ _
  exact I1.fpOk hle (I1.hok.fresh hle)
theorem dih_zip {X : Cx} {cl : Nat → Addr} {a b : Expr} {r : AF} {p pos tpos : Pos} {elts : List Expr} {kk : Nat} (hg : Gl X "zip") (hm : X.mg "zip" = none) (ha : DA X cl [a, b] r) (hs : starEach [a, b] X.env = (false, eval a X.env) :: starEach [b] X.env := by rfl) (hpl : (backTo pos (starEach [b] X.env)).any (·.1) = false := by rfl) :
    DIH X cl (.Tuple elts kk tpos) (.Call (.Name "zip" p) [a, b] [] pos) (iZ r) := ⟨(pi_zipH hg hm ha.p hs hpl).weak fun σ H R ⟨O, ms, F, δ, μ, ds, μ', S, ev, k⟩ => by
  obtain ⟨d1, μ1, e1, ev⟩ := aThen_some ev
  refine tA.seq S e1 fun v H1 ms1 F1 R1 s1 q1 => ?_
  split at ev
  · cases ev
    obtain ⟨v, w, rfl, ⟨a, xs, rfl, hs, hl⟩, b', ys, rfl, ht, hm'⟩ := q1.two'
    exact ⟨a, b', xs, ys, rfl, SqL.of (R1.hr.sub _ _ hs), SqL.of (R1.hr.sub _ _ ht), k _ H1 ms1 F1 R1.hr s1 (yld_zip (Γ := gm X cl) hs hl ht hm')⟩
  · cases ev⟩
end G

set_option Elab.async false
set_option linter.all false
set_option autoImplicit false
set_option maxRecDepth 100000
set_option maxHeartbeats 4000000
namespace G
open PySem PySem.Spec PySem.Calls L2 PyProof.Rows L2H HotX
/-! ### (a, b) = a tuple, where an exception is handled -/
section
variable {prog : Program} {w : World} {A : Around} {E : Value → Shared → Prop} {s : Shared}
theorem tup_end_hot {it t x1 : Addr} {i : Nat} {items : Array Value} {Q : Option Value → Shared → Prop} (hot : HotAt A x1 s.heap) (hni : x1 ≠ it)
    (hit : IsTupIter s.heap it t i) (ht : IsTup s.heap t items) (hx : items[i]? = none)
    (hQ : ∀ h', Heap.ExtBut it s.heap h' → Q none { s with heap := h' }) : wpAny (model prog w) A (pyNext (.ref it)) Q E s := by
  obtain ⟨o, ho, hc, hd⟩ := id hit
  obtain ⟨ol, hol, _, nl, hdl⟩ := ht
  obtain ⟨hh, o1, vs1, h1, d1, c1⟩ := hot
  unfold pyNext
  refine wpAny_bind (wpAny_attempt (wpAny_callSpecial?_slot (name := Str.ofString "__next__") hit.typeIs slot_tupleiter_next
    (wpAny_call_entry slot_tupleiter_next hit.typeIs entry_tupleiter_next ?_ (args_tupleiter_next _))))
  show wpAny _ _ (field (.ref it) 0 >>= _) _ _ s
  refine wpAny_bind (wpAny_field ho hd (x := .ref t) rfl ?_)
  show wpAny _ _ (if (Value.ref t == Value.none) = true then _ else _) _ _ s
  rw [if_neg (show ¬ ((Value.ref t == Value.none) = true) from Bool.false_ne_true)]
  show wpAny _ _ (field (.ref it) 1 >>= _) _ _ s
  refine wpAny_bind (wpAny_field ho hd (x := .int i 0) rfl ?_)
  show wpAny _ _ (seqItems? (.ref t) >>= _) _ _ s
  refine wpAny_bind (wpAny_seqItems hol hdl ?_)
  simp only [Int.toNat_natCast, hx]
  refine wpAny_bind (wpAny_rule (wpAny_bind (wpAny_setField ho hd (by simp) ?_)))
  have k0 : ∀ b u, b ≠ it → s.heap.get? b = some u → (s.heap.update it (Obj.mapFields (·.setIfInBounds 0 Value.none))).get? b = some u := fun b u hb e => (Heap.get?_update_other _ _ (Ne.symm hb)).trans e
  have h1' := k0 x1 o1 hni h1
  show wpAny _ _ (newExc (.type "StopIteration") [] >>= _) _ _ _
  refine wpAny_bind ?_
  simp only [newExc, newTuple]
  refine wpAny_bind (wpAny_newObj_type ?_ (by size_fits))
  refine wpAny_bind (m := firstArgMember _ _) (wpAny_of_eq (a := Value.none) (by first | rfl | (simp only [firstArgMember]; rfl)) ?_)
  refine wpAny_newObj_type ?_ (by size_fits)
  refine raiseNew_hot ⟨hh, o1, vs1, Heap.get?_push_of_some _ (Heap.get?_push_of_some _ h1'), d1, c1⟩ (Nat.ne_of_lt (Heap.lt_size (Heap.get?_push_of_some _ h1'))) (Heap.get?_push_size _ rfl) rfl (by first | (simp; done) | (simp; omega) | (simp only [Array.size_append]; simp; omega)) ?_
  refine wpAny_bind (wpAny_isInstance (T := "StopIteration") (b := true) ⟨_, Heap.get?_update_self _ (Heap.get?_push_size _ rfl) rfl, rfl⟩ isSubtype_stop ?_)
  refine wpAny_pure (hQ _ fun b u hb e => ?_)
  rw [Heap.get?_update_other _ _ (Nat.ne_of_gt (Heap.lt_size (Heap.get?_push_of_some _ (k0 b u hb e))))]
  exact Heap.get?_push_of_some _ (Heap.get?_push_of_some _ (k0 b u hb e))
theorem unpack_hot {t x1 : Addr} {items : Array Value} {targets : List (Bool × (Value → Sem Unit))} {Q : Unit → Shared → Prop} (hot : HotAt A x1 s.heap) (ht : IsTup s.heap t items)
    (hn : targets.length = items.size) (hstar : targets.findIdx? (·.1) = none)
    (h : ∀ h', Heap.ExtBut s.heap.objs.size s.heap h' → wpAny (model prog w) A (assignInOrder (targets.map (·.2)) items.toList) Q E { s with heap := h' }) :
    wpAny (model prog w) A (unpack (.ref t) targets) Q E s := by
  unfold unpack
  rw [hn, hstar]
  refine wpAny_bind (wpAny_holding ?_)
  have hlt : t ≠ s.heap.objs.size := by obtain ⟨o, ho, _⟩ := ht; exact Nat.ne_of_lt (Heap.lt_size ho)
  have hx1 : x1 ≠ s.heap.objs.size := by obtain ⟨_, o, _, ho, _⟩ := hot; exact Nat.ne_of_lt (Heap.lt_size ho)
  unfold unpackItems
  refine wpAny_bind ?_
  unfold notIterableAtAll
  refine wpAny_bind (wpAny_specialOf ht.typeIs slot_tuple_iter.lookup ?_)
  refine wpAny_pure ?_
  simp only [Bool.false_eq_true, if_false]
  refine wpAny_bind (wpAny_holding (iter_tuple ht ?_))
  refine wpAny_bind (wpAny_holding (draw_tuple hlt items.size 0 _ _ ⟨_, Heap.get?_push_size _ rfl, rfl, rfl⟩ (ht.push _) (by omega) fun h₁ hit₁ hs₁ => ?_))
  have hall : List.take items.size (List.drop 0 items.toList) = items.toList := by
    rw [List.drop_zero]; exact List.take_of_length_le (by simp)
  rw [hall, if_neg (by simp)]
  have ht₁ : IsTup h₁ t items := (ht.push _).extBut hs₁.extBut hlt
  have hot₁ : HotAt A x1 h₁ := HotAt.go hot fun o e => hs₁.extBut _ _ hx1 (Heap.get?_push_of_some _ e)
  refine wpAny_bind (wpAny_holding (tup_end_hot hot₁ hx1 hit₁ ht₁ (by simp) fun h₂ he₂ => ?_))
  simp only [Option.isSome_none, Bool.false_eq_true, if_false]
  exact wpAny_pure (h h₂ fun b o hb e => he₂ b o hb (hs₁.extBut b o hb (Heap.get?_push_of_some _ e)))
end
theorem pg_tupH {X : Cx} {es : List Expr} {k : Nat} {pos : Pos} {t : TGs} {n : Nat} (hc : HotC X) (h : PGs X es t)
    (hn : (assignEach es X.env).length = n := by rfl) (hst : (assignEach es X.env).findIdx? (·.1) = none := by rfl) : PG X (.Tuple es k pos) (gTup X.K n t) := by
  refine ⟨fun pins s σ H v u Q I r hw => ?_⟩
  obtain ⟨a, xs, e1, hq, hl, hw⟩ := hw
  subst e1
  cases r
  obtain ⟨its, rv, ht, hz⟩ := I.tuple hq
  obtain ⟨x1, hot⟩ := hc.at I
  rw [assign_Tuple]
  refine wpAny_bind (wpAny_standAt (unpack_hot hot ht (by simp [hn, ← hl, rv.length]) hst fun h' hx => ?_))
  have I1 : Inv X pins σ H { s with heap := h' } := I.kept (t' := s.toks) fun b o e => hx b o (Nat.ne_of_lt (Heap.lt_size e)) e
  exact h.run pins _ σ H xs _ Q I1 (by simpa using rv) hw
section
variable {X : Cx} {cl : Nat → Addr} {es : List Expr} {pos : Pos} {gs : GFs} {ix : List Nat}
theorem dg_tupH {k : Nat} {n : Nat} (hc : HotC X) (h : DGs X cl es gs ix) (hn : (assignEach es X.env).length = n := by rfl) (hst : (assignEach es X.env).findIdx? (·.1) = none := by rfl) : DG X cl (.Tuple es k pos) (tupG n gs) ix :=
  ⟨(pg_tupH hc h.p hn hst).weak fun v σ H Q ⟨O, ms, F, δ, μ, d, δ', R, q, ev, kk⟩ => by
  unfold tupG at ev
  split at ev
  · split at ev
    · rename_i ds hl
      obtain ⟨a, xs, rfl, hs, l⟩ := q
      exact ⟨a, xs, rfl, (Tp.same R.hr.sub hs).sq, by rw [l.length]; exact hl, O, ms, F, δ, μ, ds, δ', R, l, ev, kk⟩
    · cases ev
  · cases ev⟩
end
end G

set_option Elab.async false
set_option linter.all false
set_option autoImplicit false
set_option maxRecDepth 100000
set_option maxHeartbeats 2000000
namespace G
open PySem PySem.Spec PySem.Calls L2 PyProof.Rows
/-! ### enumerate of a text, walked in a block -/
/-- the text's signs, each in a new pair behind its count -/
def IteT (x : Str) : It :=
  ⟨fun i _ => i < x.cps.size, fun i H v H' => ∃ T u, v = .ref T ∧ H T = none ∧ H' = upd H T (.tup [.int ((i : Nat) : Int), .str ⟨#[u]⟩]) ∧ x.cps[i]? = some u, fun i _ => x.cps.size ≤ i⟩
theorem turn_enumT {P : Program} {w : World} {K : PySem.W.Frag} {elts : List Expr} {kk : Nat} {tpos : Pos} (x : Str) (t : Tok) (e it : Addr) :
    Turn P w K (.Tuple elts kk tpos) (IteT x) [e, it] e (fun i h => (∃ old, IsEnum h e it ((i : Nat) : Int) old) ∧ h.IsStrIter it (strIterType x) x t i ∧ e ≠ it) where
  mem := by simp
  obj := fun i h st b hb => by
    obtain ⟨⟨old, he⟩, hi, _⟩ := st
    obtain ⟨o, ho, hc, hd⟩ := hi
    rcases (show b = e ∨ b = it by simpa using hb) with rfl | rfl
    · exact ⟨_, he, fun v q => nomatch q⟩
    · exact ⟨o, ho, fun v q => by rw [hd] at q; cases q⟩
  keep := fun i h h' st k => let ⟨⟨old, he⟩, ⟨o, ho, r⟩, hne⟩ := st; ⟨⟨old, k e (by simp) _ he⟩, ⟨o, k it (by simp) o ho, r⟩, hne⟩
  item := by
    rintro X rfl rfl rfl hc i pins s σ H E I hf ⟨⟨old, he⟩, hit, hne⟩ hlt
    obtain ⟨oi, hoi, hci, hdi⟩ := id hit
    have D := Draws.text (prog := X.prog) (w := X.w) (A := X.A.in1) (I.ok.hd hc) it x t
    have hel : e < s.heap.objs.size := Heap.lt_size he
    have hil : it < s.heap.objs.size := Heap.lt_size hoi
    refine wpAny_pyNext_enum_itemC D he hit hlt hne (by simp [hne]) fun x' h' tk px ho st' hT hsz hk => ?_
    obtain ⟨cu, tu, hu, rfl⟩ := px
    refine ⟨_, rfl, wpAny_letOwnedTupleGo_enum (s := { s with heap := h', toks := tk + 1 }) ho fun h'' he' sb => ?_⟩
    have hT2 : h''.get? s.heap.objs.size = some { cls := .type "tuple", data := .seq #[.int ((i : Nat) : Int) tk, .str ⟨#[cu]⟩ tu] } := (sb.2 _ (Nat.ne_of_gt hel)).trans hT
    have new : ObjOk X.prog X.w (upd H s.heap.objs.size (.tup [.int ((i : Nat) : Int), .str ⟨#[cu]⟩])) h'' s.heap.objs.size (.tup [.int ((i : Nat) : Int), .str ⟨#[cu]⟩]) :=
      ⟨by show 2 ≤ sizeLine; decide, [.int ((i : Nat) : Int) tk, .str ⟨#[cu]⟩ tu], .cons ⟨_, rfl⟩ (.cons ⟨_, rfl⟩ .nil), ⟨_, hT2, rfl, _, rfl⟩⟩
    have I1 : Inv X pins σ (upd H s.heap.objs.size (.tup [.int ((i : Nat) : Int), .str ⟨#[cu]⟩])) { s with heap := h'', toks := tk + 1 } :=
      I.turnedNew (ch := [e, it]) (fun b ob hb q => (sb.2 b (fun z => hb (by simp [z]))).trans (hk b ob (fun z => hb (by simp [z])) (fun z => hb (by simp [z])) q)) hf (Nat.le_refl _) new
    obtain ⟨o2, ho2, r2⟩ := st'
    refine ⟨.ref s.heap.objs.size, _, I1, rfl, ⟨_, cu, rfl, I.hok.fresh (Nat.le_refl _), rfl, hu⟩, ⟨⟨.str ⟨#[cu]⟩ tu, ?_⟩, ⟨o2, (sb.2 it (Ne.symm hne)).trans ho2, r2⟩, hne⟩, fun b hb => ?_⟩
    · have e1 : ((i + 1 : Nat) : Int) = (i : Int) + 1 := by omega
      rw [e1]; exact he'
    · have hb' : b < s.heap.objs.size := by
        rcases (show b = e ∨ b = it by simpa using hb) with rfl | rfl
        · exact hel
        · exact hil
      rw [upd_ne (Nat.ne_of_lt hb')]
      exact (hf b hb).1
  done := by
    rintro X rfl rfl rfl hc i pins s σ H E I hf ⟨⟨old, he⟩, hit, hne⟩ hx
    have hh := I.ok.hd hc
    have hn : x.cps[i]? = none := Array.getElem?_eq_none hx
    have D : Draws X.prog X.w X.A.in1 it [it] i (fun _ _ => True) (fun j h => j = i ∧ h.IsStrIter it (strIterType x) x t i) := {
      live := fun _ _ st => let ⟨o, ho, _⟩ := st.2; ⟨o, ho⟩
      frame := fun _ _ _ st hk => let ⟨o, ho, r⟩ := st.2; ⟨st.1, o, hk it (by simp) o ho, r⟩
      item := fun j s Q E hj st _ => absurd hj (by rw [st.1]; exact Nat.lt_irrefl _)
      done := fun s Q E st hE => by
        have z := st.2
        cases ha : x.cps.all (· < 128)
        · simp only [strIterType, ha, Bool.false_eq_true, if_false] at z
          exact wpAny_nextOf_wide_end hh z hn hE
        · simp only [strIterType, ha, if_true] at z
          exact wpAny_nextOf_ascii_end hh z hn hE }
    obtain ⟨f0, f1, f2, f3, f4, f5⟩ := hf it (by simp)
    exact wpAny_pyNext_enum_endD D he ⟨rfl, hit⟩ fun h' eb => ⟨rfl, I.turned (t' := s.toks) (fun b o hb q => eb b o hb q) f0 f1 f3 f4 f5⟩
  self := fun A i s Q E st h => let ⟨⟨_, he⟩, _⟩ := st; wpAny_pyIter_enum he h
def iEnT (ta : TA) : TI := fun σ H R => ta σ H fun vs H1 => ∃ x, vs = [.str x] ∧ R (IteT x) H1
section
variable {X : Cx} {e : Expr} {ta : TA} {p pos tpos : Pos} {elts : List Expr} {kk : Nat} {cl : Nat → Addr} {r : AF}
theorem pi_enumT (hg : Gl X "enumerate") (hm : X.mg "enumerate" = none) (ha : PA X [e] ta) (hs : starEach [e] X.env = [(false, eval e X.env)] := by rfl) :
    PI X (.Tuple elts kk tpos) (.Call (.Name "enumerate" p) [e] [] pos) (iEnT ta) := by
  constructor
  intro pins s σ H R I h
  refine Call_ (ld_blt I hg hm boot_enumerate (PyProof.Rows.callWith_type1 (thn (ha.run pos pins s σ H _ I h) fun us s1 ⟨vs, H1, I1, r1, x, ev, q2⟩ => ?_) hs rfl))
  subst ev
  obtain ⟨u, rfl, ru⟩ := vals1 r1
  obtain ⟨t, rfl⟩ := ru
  refine enum_begins0 (begins_text x t) trivial fun h2 he hi hk => ?_
  refine wpAny_pyIter_enum he ?_
  have I2 : Inv X pins σ H1 { s1 with heap := h2 } := I1.kept (t' := s1.toks) hk
  refine ⟨s1.heap.objs.size + 1, [s1.heap.objs.size + 1, s1.heap.objs.size], _, _, H1, rfl, I2, turn_enumT x t (s1.heap.objs.size + 1) s1.heap.objs.size, ⟨⟨.none, he⟩, ⟨_, hi, rfl, rfl⟩, Nat.succ_ne_self _⟩, fun b hb => ?_, q2⟩
  have hle : s1.heap.objs.size ≤ b := by
    rcases (show b = s1.heap.objs.size + 1 ∨ b = s1.heap.objs.size by simpa using hb) with rfl | rfl
    · exact Nat.le_add_right _ _
    · exact Nat.le_refl _
  exact I1.fpOk hle (I1.hok.fresh hle)
theorem yld_enumT {Γ : Gm} {ms0 : List Addr} {F0 : Hp} (x : Str) : Yld Γ (IteT x) (enumD (signsD x)) ms0 F0 where
  go := fun ms F H μ i r e hi => by
    show i < x.cps.size
    simpa [enumD, signsD] using hi
  stop := fun ms F H μ i r e hi => by
    show x.cps.size ≤ i
    simpa [enumD, signsD] using hi
  yld := fun ms F H μ i d x' H' r e hd y => by
    obtain ⟨T, u, rfl, hT, rfl, y⟩ := y
    obtain ⟨dx, hx, rfl⟩ := enumD_get hd
    unfold signsD at hx
    rw [List.getElem?_map, Array.getElem?_toList, y] at hx
    cases hx
    obtain ⟨r', s⟩ := r.alloc hT (.tup [.int (i : Nat), .str ⟨#[u]⟩])
    exact ⟨ms, _, r', s, T, _, rfl, Tp.of upd_same, _, _, rfl, rfl, _, _, rfl, rfl, rfl⟩
def iET (r : AF) : IF := aThen r fun ds _ μ => match ds with
  | [.str x] => some (enumD (signsD x), μ)
  | _ => none
theorem di_enumT (hg : Gl X "enumerate") (hm : X.mg "enumerate" = none) (ha : DA X cl [e] r) (hs : starEach [e] X.env = [(false, eval e X.env)] := by rfl) : DI X cl (.Tuple elts kk tpos) (.Call (.Name "enumerate" p) [e] [] pos) (iET r) := ⟨(pi_enumT hg hm ha.p hs).weak fun σ H R ⟨O, ms, F, δ, μ, ds, μ', S, ev, k⟩ => by
  obtain ⟨d1, μ1, e1, ev⟩ := aThen_some ev
  refine tA.seq S e1 fun v H1 ms1 F1 R1 s1 q1 => ?_
  split at ev
  · cases ev
    obtain ⟨v, rfl, hv⟩ := q1.one'
    exact ⟨_, by rw [show v = .str _ from hv], k _ H1 ms1 F1 R1.hr s1 (yld_enumT _)⟩
  · cases ev⟩
end
end G

set_option Elab.async false
set_option linter.all false
set_option autoImplicit false
set_option maxRecDepth 100000
set_option maxHeartbeats 2000000
namespace G
open PySem PySem.Spec PySem.Calls L2
/-! ### own classes: methods, attributes, making -/
/-- a def that raises nothing, as one that may -/
def toX (fn : FF) : XF := fun ds μ => match fn ds μ with
  | some (d, μ') => some (.ok d μ')
  | none => none
theorem FnG.toX {P : Program} {w : World} {K : PySem.W.Frag} {mg : Str → Option Value} {base : Heap} {cl : Nat → Addr} {k : Nat} {f : Addr} {fd : FuncData} {n : Nat} {ps : List Str} {fn : FF} (Gf : FnG P w K mg base k f fd n ps (spF (gk K cl) n fn)) : FnX P w K mg base k f fd n ps (spXF (gk K cl) n (toX fn)) := by
  refine ⟨?_, Gf.pl, ?_⟩
  · rintro vs H Q E ⟨ms, F, ds, μ, r, r0, q, hl, _⟩
    rw [q.length]; exact hl
  · rintro A outer s H args us vs Q E hg hr e0 hb rv ⟨ms, F, ds, μ, r, r0, q, hl, ev, k⟩
    unfold G.toX at ev
    split at ev
    · rename_i d μ' e
      cases ev
      refine codeAny_mono (Gf.go (Q := Q) hg hr e0 hb rv ⟨ms, F, ds, μ, _, _, r0, q, hl, e, k⟩) ?_
      intro z s' hq
      cases z with
      | error _ => exact (show False from hq).elim
      | ok fl =>
        cases fl with
        | ret u => exact hq
        | next => exact hq
        | brk => exact hq
        | cont => exact hq
    · cases ev
section
variable {X : Cx} {cl : Nat → Addr} {o e : Expr} {es : List Expr} {pos apos p pos' : Pos} {r : AF} {fo : EF} {k n : Nat} {f C : Addr} {fd : FuncData} {ps : List Str} {fn : XF} {x m : Str}
theorem lookup_no {α : Type} {m : Str} : ∀ {ns : List Str} {vs : List α}, m ∉ ns → (ns.zip vs).lookup m = none
  | [], vs, _ => by simp
  | _ :: _, [], _ => by simp
  | a :: ns, v :: vs, h => by
    have h1 : ¬ m = a := fun z => h (by rw [z]; exact List.mem_cons_self ..)
    have h2 : m ∉ ns := fun z => h (List.mem_cons_of_mem _ z)
    rw [List.zip_cons_cons, List.lookup_cons]
    rw [show (m == a) = false from beq_eq_false_iff_ne.mpr h1]
    exact lookup_no h2
theorem mut_ins {Γ : Gm} {ms : List Addr} {F H : Hp} {μ : List MO} {k C : Nat} {v : V} {ns : List Str} {xs : List D} (r : HR Γ ms F H μ) (h : Has Γ ms F v (.mut k)) (e : μ[k]? = some (.ins C ns xs)) : ∃ a dx vs, v = .ref a ∧ ms[k]? = some a ∧ H a = some (.ins (Γ.cl C) dx (ns.zip vs)) ∧ ns.length = vs.length ∧ HasL Γ ms F vs xs := by
  obtain ⟨a, rfl, hm⟩ := h
  obtain ⟨a', ha', dx, ys, hx, hn, hl⟩ := r.obj _ _ e
  rw [hm] at ha'; cases ha'
  exact ⟨a, dx, ys, rfl, hm, hx, hn, hl⟩
/-- the object and the arguments of o.m(..), an instance of the class number C -/
def aMeth (C : Nat) (m : Str) (fo : EF) (r : AF) : AF := fun δ μ => match fo δ μ with
  | some (.mut j, μ1) => match μ1[j]? with
    | some (.ins C' ns _) => if C' = C ∧ m ∉ ns then (match r δ μ1 with
      | some (xs, μ2) => some (.mut j :: xs, μ2)
      | none => none) else none
    | _ => none
  | _ => none
theorem aMeth_run {Γ : Gm} {Cn : Nat} {σ : L2.St} {H : Hp} {Q : List V → Hp → Prop} (h : tA Γ (aMeth Cn m fo r) σ H Q) : tE Γ fo σ H fun x H1 => ∃ a dx fs, x = .ref a ∧ H1 a = some (.ins (Γ.cl Cn) dx fs) ∧ fs.lookup m = none ∧ tA Γ r σ H1 fun vs H2 => Q (x :: vs) H2 := by
  obtain ⟨O, ms, F, δ, μ, d, μ', R, ev, kk⟩ := h
  unfold aMeth at ev
  split at ev
  · rename_i j μ1 e1
    split at ev
    · rename_i C' ns xs hk
      split at ev
      · rename_i hz
        obtain ⟨rfl, hm⟩ := hz
        split at ev
        · rename_i ys μ2 e2
          cases ev
          refine tE.seq R e1 fun v H1 ms1 F1 R1 s1 q1 => ?_
          obtain ⟨a, dx, vs, rfl, hma, ha, hn, hl⟩ := mut_ins R1.hr q1 hk
          refine ⟨a, dx, _, rfl, ha, lookup_no hm, ⟨O, ms1, F1, δ, μ1, ys, _, R1, e2, fun ws H2 ms2 F2 r2 s2 q2 => ?_⟩⟩
          exact kk _ H2 ms2 F2 r2 (s1.trans' R1.hr s2) ⟨_, _, rfl, q1.step s2, q2⟩
        · cases ev
      · cases ev
    · cases ev
  · cases ev
/-- o.m(..), o.m() -/
theorem pe_methFX {Cn : Nat} {sp : Sp} {pl : Sem Bool} (he : DE X cl o fo) (c : Cls X.K (cl Cn)) (hm : Meth X.K (cl Cn) m f) (Gf : FnX X.prog X.w X.K X.mg X.base k f fd n ps sp) (hgd : X.A.guards = some []) (hr : Room k X.A) (hb : Binds X.K fd ps []) (ha : DA X cl (e :: es) r)
    (hst : starEach (e :: es) X.env = (false, eval e X.env) :: starEach es X.env := by rfl) (hpl : (backTo pos (starEach es X.env)).any (·.1) = false := by rfl)
    (ht : eval (.Call (.Attribute o m apos) (e :: es) [] pos) X.env = (do
      let ov ← eval o X.env
      standAt apos.atName
      let (f, first) ← holding [ov] (getMethod ov m pl)
      callWith pos f first (backTo pos (starEach (e :: es) X.env)) (backToKw pos (keywordEach [] X.env))) := by rfl) :
    PE X (.Call (.Attribute o m apos) (e :: es) [] pos) (tCallS sp (WE (W0 X).1) (tA (gm X cl) (aMeth Cn m fo r))) := by
  refine ⟨fun pins s σ H Q I h => ?_⟩
  refine PySem.W.methodCall_KW (pl := pl) (thn (he.p.run pins s σ H _ I (aMeth_run h)) fun u s1 ⟨x, H1, I1, rx, a, dx, fs, ex, ea, l, q⟩ => ?_) ht
  subst ex
  obtain rfl : u = Value.ref a := rx
  refine getmeth_ok I1 ea c hm l ?_
  refine PySem.W.callWith_K (first := [.ref a]) (h₀ := X.base) I.ok.mod.kin hm.kp (thn (ha.p.run pos pins s1 σ H1 _ I1 q) fun us s2 ⟨vs, H2, I2, r, q2⟩ => ⟨I2.kIn, ?_⟩) hst hpl
  exact runFX (us := .ref a :: us) (vs := .ref a :: vs) Gf hgd hr hb I2 (.cons rfl r) q2
theorem pe_methFX0 {Cn : Nat} {sp : Sp} {pl : Sem Bool} (he : DE X cl o fo) (c : Cls X.K (cl Cn)) (hm : Meth X.K (cl Cn) m f) (Gf : FnX X.prog X.w X.K X.mg X.base k f fd n ps sp) (hgd : X.A.guards = some []) (hr : Room k X.A) (hb : Binds X.K fd ps [])
    (ht : eval (.Call (.Attribute o m apos) [] [] pos) X.env = (do
      let ov ← eval o X.env
      standAt apos.atName
      let (f, first) ← holding [ov] (getMethod ov m pl)
      callWith pos f first (backTo pos (starEach [] X.env)) (backToKw pos (keywordEach [] X.env))) := by rfl) :
    PE X (.Call (.Attribute o m apos) [] [] pos) (tCallS sp (WE (W0 X).1) (tA (gm X cl) (aMeth Cn m fo aNil))) := by
  refine ⟨fun pins s σ H Q I h => ?_⟩
  refine PySem.W.methodCall_KW (pl := pl) (thn (he.p.run pins s σ H _ I (aMeth_run h)) fun u s1 ⟨x, H1, I1, rx, a, dx, fs, ex, ea, l, q⟩ => ?_) ht
  subst ex
  obtain rfl : u = Value.ref a := rx
  refine getmeth_ok I1 ea c hm l ?_
  obtain ⟨O, ms, F, δ, μ, d, μ', R, ev, kk⟩ := q
  cases ev
  have q2 := kk [] H1 ms F R.hr (Stp.refl _ _ _) rfl
  exact PySem.W.callWith_K0 (first := [.ref a]) I1.kIn hm.kp (runFX (us := [.ref a]) (vs := [.ref a]) Gf hgd hr hb I1 (.cons rfl .nil) q2)
/-! what is called by such a rule: as a value, as one that may raise, as one that raises -/
theorem de_ofX {fnX : XF} {ra : AF} (h : PE X e (tCallS (spXF (gk X.K cl) n fnX) (WE (W0 X).1) (tA (gm X cl) ra))) (hlen : ∀ δ μ xs μ1, ra δ μ = some (xs, μ1) → xs.length = n) : DE X cl e (eFnX fnX ra) := ⟨h.weak fun σ H Q ⟨O, ms, F, δ, μ, d, μ', R, ev, kk⟩ => by
  obtain ⟨xs, μ1, e1, ev⟩ := aThen_some ev
  refine ⟨O, ms, F, δ, μ, xs, μ1, R, e1, fun vs H1 ms1 F1 r1 s1 q1 => ?_⟩
  split at ev
  · rename_i d2 μ2 e2
    cases ev
    exact ⟨ms1, F1, xs, μ1, _, r1.xp, q1.xp, hlen _ _ _ _ e1, e2, fun v H' ms' F' r' s' q' => kk v H' ms' F' r'.xp (s1.trans' r1 s') q'.xp⟩
  · cases ev⟩
theorem dx_ofX {fnX : XF} {ra : AF} (h : PE X e (tCallS (spXF (gk X.K cl) n fnX) (WE (W0 X).1) (tA (gm X cl) ra))) (hlen : ∀ δ μ xs μ1, ra δ μ = some (xs, μ1) → xs.length = n) : DX X cl e (gCall fnX ra) := ⟨h.weak fun σ H Q ⟨O, ms, F, δ, μ, rr, R, ev, hO, kk⟩ => by
  unfold gCall at ev
  split at ev
  · rename_i xs μ1 e1
    refine ⟨O, ms, F, δ, μ, xs, μ1, R, e1, fun vs H1 ms1 F1 r1 s1 q1 => ?_⟩
    have R1 := R.step r1 s1
    have k1 := kk.step r1 s1
    refine ⟨ms1, F1, xs, μ1, rr, r1.xp, q1.xp, hlen _ _ _ _ e1, ev, ?_⟩
    cases rr with
    | ok d μ2 => exact fun v H' ms' F' r' s' q' => k1 v H' ms' F' r'.xp s' q'.xp
    | ex C f' msg d μ2 => exact fun dx y H' ms' F' r' s' hd hy => k1 H' ms' F' dx y (R1.step r'.xp s') s' hd hy.xp
  · cases ev⟩
theorem dr_ofX {fnX : XF} {ra : AF} (h : PE X e (tCallS (spXF (gk X.K cl) n fnX) (WE (W0 X).1) (tA (gm X cl) ra))) (hlen : ∀ δ μ xs μ1, ra δ μ = some (xs, μ1) → xs.length = n) : DR X cl e (rCall fnX ra) := ⟨h.weak fun σ H Q ⟨O, ms, F, δ, μ, C, f', msg, d, μ2, R, ev, hO, kk⟩ => by
  unfold rCall at ev
  split at ev
  · rename_i xs μ1 e1
    refine ⟨O, ms, F, δ, μ, xs, μ1, R, e1, fun vs H1 ms1 F1 r1 s1 q1 => ?_⟩
    have R1 := R.step r1 s1
    split at ev
    · rename_i C' f'' m' d' μ3 e2
      cases ev
      refine ⟨ms1, F1, xs, μ1, .ex C f' msg d μ2, r1.xp, q1.xp, hlen _ _ _ _ e1, e2, ?_⟩
      exact fun dx y H' ms' F' r' s' hd hy => kk H' ms' F' dx y (R1.step r'.xp s') (s1.trans' r1 s') hd hy.xp
    · cases ev
  · cases ev⟩
theorem aMeth_len {C : Nat} {n : Nat} (hr : ∀ δ μ xs μ1, r δ μ = some (xs, μ1) → xs.length = n) : ∀ δ μ xs μ1, aMeth C m fo r δ μ = some (xs, μ1) → xs.length = n + 1 := fun δ μ xs μ1 h => by
  unfold aMeth at h
  split at h
  · split at h
    · split at h
      · split at h
        · rename_i ys μ2 e2
          cases h
          simp [hr _ _ _ _ e2]
        · cases h
      · cases h
    · cases h
  · cases h
/-- a method of an own class -/
structure HasM (P : Program) (w : World) (K : PySem.W.Frag) (mg : Str → Option Value) (base : Heap) (cl : Nat → Addr) (k : Nat) (C : Nat) (m : Str) (n : Nat) (ps : List Str) (fn : XF) where
  f : Addr
  fd : FuncData
  ok : FnX P w K mg base k f fd n ps (spXF (gk K cl) n fn)
  cls : Cls K (cl C)
  mt : Meth K (cl C) m f
  bd : Binds K fd ps []
theorem pm {Cn : Nat} {pl : Sem Bool} (T : HasM X.prog X.w X.K X.mg X.base cl k Cn m n ps fn) (he : DE X cl o fo) (hgd : X.A.guards = some []) (hr : Room k X.A) (ha : DA X cl (e :: es) r)
    (hst : starEach (e :: es) X.env = (false, eval e X.env) :: starEach es X.env := by rfl) (hpl : (backTo pos (starEach es X.env)).any (·.1) = false := by rfl)
    (ht : eval (.Call (.Attribute o m apos) (e :: es) [] pos) X.env = (do
      let ov ← eval o X.env
      standAt apos.atName
      let (f, first) ← holding [ov] (getMethod ov m pl)
      callWith pos f first (backTo pos (starEach (e :: es) X.env)) (backToKw pos (keywordEach [] X.env))) := by rfl) :
    PE X (.Call (.Attribute o m apos) (e :: es) [] pos) (tCallS (spXF (gk X.K cl) n fn) (WE (W0 X).1) (tA (gm X cl) (aMeth Cn m fo r))) := pe_methFX he T.cls T.mt T.ok hgd hr T.bd ha hst hpl ht
theorem pm0 {Cn : Nat} {pl : Sem Bool} (T : HasM X.prog X.w X.K X.mg X.base cl k Cn m n ps fn) (he : DE X cl o fo) (hgd : X.A.guards = some []) (hr : Room k X.A)
    (ht : eval (.Call (.Attribute o m apos) [] [] pos) X.env = (do
      let ov ← eval o X.env
      standAt apos.atName
      let (f, first) ← holding [ov] (getMethod ov m pl)
      callWith pos f first (backTo pos (starEach [] X.env)) (backToKw pos (keywordEach [] X.env))) := by rfl) :
    PE X (.Call (.Attribute o m apos) [] [] pos) (tCallS (spXF (gk X.K cl) n fn) (WE (W0 X).1) (tA (gm X cl) (aMeth Cn m fo aNil))) := pe_methFX0 he T.cls T.mt T.ok hgd hr T.bd ht
end
/-! ### making -/
/-- C(..) by its __init__, as a function -/
def mkX (C : Nat) (fn : XF) : XF := fun ds μ => match fn (.mut μ.length :: ds) (μ ++ [.ins C [] []]) with
  | some (.ok .non μ') => some (.ok (.mut μ.length) μ')
  | some (.ex C f m d μ') => some (.ex C f m d μ')
  | _ => none
section
variable {X : Cx} {cl : Nat → Addr} {o e : Expr} {es : List Expr} {pos apos p pos' : Pos} {r : AF} {k n : Nat} {f C : Addr} {fd : FuncData} {ps : List Str} {fn : XF} {x m : Str}
theorem runMakeX {sp : Sp} {pins : List (Addr × Obj)} {σ : L2.St} {H : Hp} {s : Shared} {Q : VK} {us : List Value} {vs : List V} (M : Mk X.K C f) (Gf : FnX X.prog X.w X.K X.mg X.base k f fd n ps sp) (hgd : X.A.guards = some []) (hr : Room (k + 1) X.A) (hb : Binds X.K fd ps [])
    (I : Inv X pins σ H s) (r : Vals vs us)
    (h : ∀ x dx, H x = none → H dx = none → dx ≠ x → sp (.ref x :: vs) (upd (upd H dx (.own x)) x (.ins C dx [])) (fun v H2 => v = .non ∧ Q (.ref x) H2) (WE (W0 X).1 σ)) :
    wpAny (model X.prog X.w) X.A (call (.ref C) us) (EP X pins σ Q) X.xe s := by
  have hq := h (s.heap.objs.size + 1) s.heap.objs.size (I.hok.fresh (Nat.le_succ _)) (I.hok.fresh (Nat.le_refl _)) (Nat.ne_of_lt (Nat.lt_succ_self _))
  have I2 := Inv.made (C := C) I
  have r2 : Vals (V.ref (s.heap.objs.size + 1) :: vs) (Value.ref (s.heap.objs.size + 1) :: us) := .cons rfl r
  have hl : (Value.ref (s.heap.objs.size + 1) :: us).length = ps.length := by
    have e := r2.length
    rw [Gf.len _ _ _ _ hq] at e
    rw [← e, Gf.pl]
  have b := hb _ (Value.ref (s.heap.objs.size + 1) :: us) I2.kIn (by rw [List.append_nil]; exact hl)
  rw [List.append_nil] at b
  refine wpAny_call (make_map (f := f) I.kIn M.makes M.init (beq_iff_eq.mp M.fn) (codeAny_mono (Gf.go (make_guards hgd) (hr.make C us []) (I2.env0.make C us []) b r2 hq) fun r s' hq' => ?_))
  cases r with
  | error e => exact L2N.passAt takesW σ pins _ _ e s' I2 hq'
  | ok fl =>
    cases fl with
    | ret u =>
      obtain ⟨v, H', I3, rv, ev, q3⟩ := I2.after hq'
      subst ev
      exact ⟨rv, ⟨V.ref (s.heap.objs.size + 1), H', I3, rfl, q3⟩⟩
    | next => exact False.elim hq'
    | brk => exact False.elim hq'
    | cont => exact False.elim hq'
theorem HR.made {Γ : Gm} {ms : List Addr} {F H : Hp} {μ : List MO} (r : HR Γ ms F H μ) {a dx : Addr} (hx : H a = none) (hd : H dx = none) (ne : dx ≠ a) (Cn : Nat) :
    HR Γ (ms ++ [a]) F (upd (upd H dx (.own a)) a (.ins (Γ.cl Cn) dx [])) (μ ++ [.ins Cn [] []]) ∧ Stp ms (ms ++ [a]) F F H (upd (upd H dx (.own a)) a (.ins (Γ.cl Cn) dx [])) := by
  obtain ⟨r1, s1⟩ := r.extra hd (.own a)
  have hx1 : (upd H dx (.own a)) a = none := by rw [upd_ne (fun z => ne z.symm)]; exact hx
  obtain ⟨r2, s2⟩ := r1.push (o := .ins (Γ.cl Cn) dx []) (u := .ins Cn [] []) hx1 ⟨dx, [], upd_same, rfl, rfl⟩
  exact ⟨r2, s1.trans' r1 s2⟩
theorem mk_sp {Γ : Gm} {n : Nat} {Cn : Nat} {fn : XF} {vs : List V} {H : Hp} {Q : VK} {E : XK} (h : spXF Γ n (mkX Cn fn) vs H Q E) (a dx : Addr) (hx : H a = none) (hd : H dx = none) (ne : dx ≠ a) :
    spXF Γ (n + 1) fn (.ref a :: vs) (upd (upd H dx (.own a)) a (.ins (Γ.cl Cn) dx [])) (fun v H2 => v = .non ∧ Q (.ref a) H2) E := by
  obtain ⟨ms, F, ds, μ, r, r0, q, hl, ev, kk⟩ := h
  obtain ⟨r1, s1⟩ := r0.made hx hd ne Cn
  have hk : Has Γ (ms ++ [a]) F (.ref a) (.mut μ.length) := ⟨a, rfl, by rw [← r0.len]; simp⟩
  unfold mkX at ev
  split at ev
  · rename_i μ' e
    cases ev
    refine ⟨ms ++ [a], F, .mut μ.length :: ds, _, _, r1, ⟨_, _, rfl, hk, q.step s1⟩, by simp [hl], e, fun v H' ms' F' r' s' q' => ⟨q', ?_⟩⟩
    exact kk _ H' ms' F' r' (s1.trans' r1 s') (hk.step s')
  · rename_i C' f m d μ' e
    cases ev
    exact ⟨ms ++ [a], F, .mut μ.length :: ds, _, _, r1, ⟨_, _, rfl, hk, q.step s1⟩, by simp [hl], e, fun dx' y H' ms' F' r' s' hd' hy => kk dx' y H' ms' F' r' (s1.trans' r1 s') hd' hy⟩
  · cases ev
/-- an own class that is made -/
structure HasC (P : Program) (w : World) (K : PySem.W.Frag) (mg : Str → Option Value) (base : Heap) (cl : Nat → Addr) (k : Nat) (C : Nat) (x : Str) (n : Nat) (ps : List Str) (fn : XF) where
  f : Addr
  fd : FuncData
  ok : FnX P w K mg base k f fd (n + 1) ps (spXF (gk K cl) (n + 1) fn)
  mkk : Mk K (cl C) f
  mg : mg x = some (.ref (cl C))
  bd : Binds K fd ps []
theorem pc {Cn : Nat} (T : HasC X.prog X.w X.K X.mg X.base cl k Cn x n ps fn) (hgd : X.A.guards = some []) (hr : Room (k + 1) X.A) (hg : Gl X x) (ha : DA X cl (e :: es) r)
    (hdb : (x == ("__debug__" : Str)) = false := by decide) (he : starEach (e :: es) X.env = (false, eval e X.env) :: starEach es X.env := by rfl) (hpl : (backTo pos (starEach es X.env)).any (·.1) = false := by rfl) :
    PE X (.Call (.Name x p) (e :: es) [] pos) (tCallS (spXF (gk X.K cl) n (mkX Cn fn)) (WE (W0 X).1) (tA (gm X cl) r)) := by
  refine ⟨fun pins s σ H Q I h => ?_⟩
  refine wpAny_Call_Name_kw (ld_glob I hg T.mg ?_ hdb)
  refine PySem.W.callWith_K (h₀ := X.base) I.ok.mod.kin T.mkk.kp (thn (ha.p.run pos pins s σ H _ I h) fun us s1 ⟨vs, H1, I1, r, q⟩ => ⟨I1.kIn, ?_⟩) he hpl
  exact runMakeX T.mkk T.ok hgd hr T.bd I1 r fun a dx hx hd ne => mk_sp q a dx hx hd ne
theorem pc0 {Cn : Nat} (T : HasC X.prog X.w X.K X.mg X.base cl k Cn x n ps fn) (hgd : X.A.guards = some []) (hr : Room (k + 1) X.A) (hg : Gl X x)
    (hdb : (x == ("__debug__" : Str)) = false := by decide) : PE X (.Call (.Name x p) [] [] pos) (tCallS (spXF (gk X.K cl) n (mkX Cn fn)) (WE (W0 X).1) (tA (gm X cl) aNil)) := by
  refine ⟨fun pins s σ H Q I h => ?_⟩
  refine wpAny_Call_Name_kw (ld_glob I hg T.mg ?_ hdb)
  obtain ⟨O, ms, F, δ, μ, d, μ', R, ev, kk⟩ := h
  cases ev
  have q := kk [] H ms F R.hr (Stp.refl _ _ _) rfl
  exact PySem.W.callWith_K0 I.kIn T.mkk.kp (runMakeX (us := []) (vs := []) T.mkk T.ok hgd hr T.bd I .nil fun a dx hx hd ne => mk_sp q a dx hx hd ne)
end
/-! ### attributes -/
def putN (ns : List Str) (xs : List D) (f : Str) (d : D) : List Str × List D :=
  match ns, xs with
  | n :: ns, x :: xs => if n = f then (n :: ns, d :: xs) else (n :: (putN ns xs f d).1, x :: (putN ns xs f d).2)
  | _, _ => ([f], [d])
theorem putN_ok {Γ : Gm} {ms : List Addr} {F : Hp} {f : Str} {v : V} {d : D} (q : Has Γ ms F v d) : ∀ {ns : List Str} {vs : List V} {xs : List D}, ns.length = vs.length → HasL Γ ms F vs xs → ∃ us, putF f v (ns.zip vs) = (putN ns xs f d).1.zip us ∧ (putN ns xs f d).1.length = us.length ∧ HasL Γ ms F us (putN ns xs f d).2
  | [], vs, xs, hn, hl => by
    have : vs = [] := List.eq_nil_of_length_eq_zero (by simpa using hn.symm)
    subst this
    unfold putN
    exact ⟨[v], rfl, rfl, HasL.one q⟩
  | n :: ns, [], xs, hn, hl => by simp at hn
  | n :: ns, w :: ws, [], hn, hl => by cases hl
  | n :: ns, w :: ws, x :: xs, hn, ⟨w', ws', hv, h1, h2⟩ => by
    cases hv
    unfold putN
    rw [List.zip_cons_cons]
    show ∃ us, (if n = f then (n, v) :: ns.zip ws else (n, w) :: putF f v (ns.zip ws)) = _ ∧ _
    by_cases e : n = f
    · rw [if_pos e, if_pos e]
      exact ⟨v :: ws, rfl, by simpa using hn, ⟨_, _, rfl, q, h2⟩⟩
    · rw [if_neg e, if_neg e]
      obtain ⟨us, e1, e2, e3⟩ := putN_ok (f := f) q (by simpa using hn) h2
      exact ⟨w :: us, by rw [e1]; rfl, by simp [e2], ⟨_, _, rfl, h1, e3⟩⟩
theorem lookup_has {Γ : Gm} {ms : List Addr} {F : Hp} {f : Str} {d : D} : ∀ {ns : List Str} {vs : List V} {xs : List D}, HasL Γ ms F vs xs → (ns.zip xs).lookup f = some d → ∃ v, (ns.zip vs).lookup f = some v ∧ Has Γ ms F v d
  | [], vs, xs, hl, e => by simp at e
  | n :: ns, vs, [], hl, e => by simp at e
  | n :: ns, _, x :: xs, ⟨w, ws, hv, h1, h2⟩, e => by
    subst hv
    rw [List.zip_cons_cons, List.lookup_cons] at e ⊢
    cases hb : f == n with
    | true => rw [hb] at e; cases e; exact ⟨w, rfl, h1⟩
    | false => rw [hb] at e; exact lookup_has h2 e
section
variable {X : Cx} {cl : Nat → Addr} {o e value : Expr} {pos pos' tpos : Pos} {fo fv : EF} {f : Str}
/-- o.f -/
def eFld (f : Str) (ok : Nat → Bool) (fo : EF) : EF := eThen fo fun x _ μ => match x with
  | .mut j => match μ[j]? with
    | some (.ins C ns xs) => if ok C = true then (match (ns.zip xs).lookup f with
      | some d => some (d, μ)
      | none => none) else none
    | _ => none
  | _ => none
theorem de_fld {okC : Nat → Bool} (h : DE X cl o fo) (hok : ∀ C, okC C = true → Cls X.K (cl C) ∧ NoAttr X.K (cl C) f) (hb : attributeBase o f X.env (eval o X.env) = eval o X.env := by rfl) : DE X cl (.Attribute o f pos) (eFld f okC fo) := ⟨(pe_fld h.p hb).weak fun σ H Q ⟨O, ms, F, δ, μ, d, μ', R, ev, k⟩ => by
  obtain ⟨d1, μ1, e1, ev⟩ := eThen_some ev
  refine tE.seq R e1 fun v H1 ms1 F1 R1 s1 q1 => ?_
  split at ev
  · split at ev
    · rename_i C ns xs hk
      split at ev
      · rename_i hc
        split at ev
        · rename_i d2 hl2
          cases ev
          obtain ⟨a, dx, vs, rfl, hma, ha, hn, hl⟩ := mut_ins R1.hr q1 hk
          obtain ⟨w, ew, qw⟩ := lookup_has hl hl2
          exact ⟨a, _, dx, _, w, rfl, ha, (hok C hc).1, (hok C hc).2, ew, k w H1 ms1 F1 R1.hr s1 qw⟩
        · cases ev
      · cases ev
    · cases ev
  · cases ev⟩
/-- o.f = e -/
def bFld (f : Str) (ok : Nat → Bool) (fo fv : EF) : BF := fun δ μ => match fv δ μ with
  | some (d, μ1) => match fo δ μ1 with
    | some (.mut j, μ2) => match μ2[j]? with
      | some (.ins C ns xs) => if ok C = true ∧ ns.length < 1000 then some (.nx δ (μ2.set j (.ins C (putN ns xs f d).1 (putN ns xs f d).2))) else none
      | _ => none
    | _ => none
  | none => none
theorem ds_fld {okC : Nat → Bool} (ho : DE X cl o fo) (hv : DE X cl value fv) (hok : ∀ C, okC C = true → Cls X.K (cl C) ∧ NoAttr X.K (cl C) f) (hs : swapsWith value (some (.Attribute o f pos')) pos.line X.env = pure false := by rfl) : DS X cl (.Assign [.Attribute o f pos'] value pos) (bFld f okC fo fv) :=
  ⟨(ps_fld ho.p hv.p hs).weak fun D σ H ⟨O, ms, F, δ, μ, oo, R, ev, hO, k⟩ => by
  unfold bFld at ev
  split at ev
  · rename_i d μ1 e1
    split at ev
    · rename_i j μ2 e2
      split at ev
      · rename_i C ns xs hk
        split at ev
        · rename_i hz
          cases ev
          refine tE.seq R e1 fun v H1 ms1 F1 R1 s1 q1 => tE.seq R1 e2 fun ov H2 ms2 F2 R2 s2 q2 => ?_
          obtain ⟨a, dx, vs, rfl, hma, ha, hn, hl⟩ := mut_ins R2.hr q2 hk
          obtain ⟨us, ep, eu, hu⟩ := putN_ok (f := f) (q1.step s2) hn hl
          refine ⟨a, _, dx, _, rfl, ha, (hok C hz.1).1, (hok C hz.1).2, by rw [List.length_zip, hn]; simpa [← hn] using hz.2, ?_⟩
          rw [ep]
          obtain ⟨r', s⟩ := R2.hr.write hma (u := .ins C (putN ns xs f d).1 (putN ns xs f d).2) (o := .ins (cl C) dx ((putN ns xs f d).1.zip us)) ⟨dx, _, upd_same, eu, hu⟩
          exact k σ _ ms2 F2 (R2.step r' s) (s1.trans' R1.hr s2).ext
        · cases ev
      · cases ev
    · cases ev
  · cases ev⟩
/-- o.f += e, whole numbers -/
def bFldInc (f : Str) (ok : Nat → Bool) (fo fv : EF) : BF := fun δ μ => match fo δ μ with
  | some (.mut j, μ1) => match μ1[j]? with
    | some (.ins C ns xs) => if ok C = true then (match (ns.zip xs).lookup f with
      | some (.int a) => (match fv δ μ1 with
        | some (.int b, μ2) => (match μ2[j]? with
          | some (.ins C' ns' xs') => if C' = C ∧ ns'.length < 1000 then some (.nx δ (μ2.set j (.ins C (putN ns' xs' f (.int (a + b))).1 (putN ns' xs' f (.int (a + b))).2))) else none
          | _ => none)
        | _ => none)
      | _ => none) else none
    | _ => none
  | _ => none
theorem ds_fldInc {okC : Nat → Bool} (ho : DE X cl o fo) (hv : DE X cl value fv) (hok : ∀ C, okC C = true → Cls X.K (cl C) ∧ NoAttr X.K (cl C) f) : DS X cl (.AugAssign (.Attribute o f tpos) .Add value pos) (bFldInc f okC fo fv) :=
  ⟨(ps_fldaug ho.p hv.p in_add).weak fun D σ H ⟨O, ms, F, δ, μ, oo, R, ev, hO, k⟩ => by
  unfold bFldInc at ev
  split at ev
  · rename_i j μ1 e1
    split at ev
    · rename_i C ns xs hk
      split at ev
      · rename_i hc
        split at ev
        · rename_i a hla
          split at ev
          · rename_i b μ2 e2
            split at ev
            · rename_i C' ns' xs' hk'
              split at ev
              · rename_i hz
                obtain ⟨rfl, hz⟩ := hz
                cases ev
                refine tE.seq R e1 fun ov H1 ms1 F1 R1 s1 q1 => ?_
                obtain ⟨p, dx, vs, rfl, hma, ha, hn, hl⟩ := mut_ins R1.hr q1 hk
                obtain ⟨w, ew, qw⟩ := lookup_has hl hla
                refine ⟨p, _, dx, _, w, rfl, ha, (hok _ hc).1, (hok _ hc).2, ew, tE.seq R1 e2 fun y H2 ms2 F2 R2 s2 q2 => ?_⟩
                obtain ⟨p', dx', vs', ep, hma', ha', hn', hl'⟩ := mut_ins R2.hr (q1.step s2) hk'
                cases ep
                obtain rfl : w = .int a := qw
                obtain rfl : y = .int b := q2
                obtain ⟨us, eput, eu, hu⟩ := putN_ok (f := f) (v := .int (a + b)) (d := .int (a + b)) (ms := ms2) (F := F2) (Γ := gm X cl) rfl hn' hl'
                refine ⟨a, b, rfl, rfl, dx', _, ha', by rw [List.length_zip, hn']; simpa [← hn'] using hz, ?_⟩
                rw [eput]
                obtain ⟨r', s⟩ := R2.hr.write hma' (u := .ins _ (putN ns' xs' f (.int (a + b))).1 (putN ns' xs' f (.int (a + b))).2) (o := .ins (cl _) dx' ((putN ns' xs' f (.int (a + b))).1.zip us)) ⟨dx', _, upd_same, eu, hu⟩
                exact k σ _ ms2 F2 (R2.step r' s) (s1.trans' R1.hr s2).ext
              · cases ev
            · cases ev
          · cases ev
        · cases ev
      · cases ev
    · cases ev
  · cases ev⟩
end
end G

set_option Elab.async false
set_option linter.all false
set_option autoImplicit false
set_option maxRecDepth 100000
set_option maxHeartbeats 2000000
namespace G
open PySem PySem.Spec PySem.Calls L2
/-! ### dicts: in, d[k], stores, del, pop, list(d), dict(..), sorted(d) -/
def dctD (μ : List MO) : D → Option (List Key × List D)
  | .dct ks xs => some (ks, xs)
  | .mut k => match μ[k]? with
    | some (.dct ks xs) => some (ks, xs)
    | _ => none
  | _ => none
theorem dctD_ok {Γ : Gm} {ms : List Addr} {F H : Hp} {μ : List MO} {v : V} {d : D} {ks : List Key} {xs : List D} (r : HR Γ ms F H μ) (h : Has Γ ms F v d) (e : dctD μ d = some (ks, xs)) : ∃ a vs, v = .ref a ∧ H a = some (.dK (ks.zip vs)) ∧ ks.length = vs.length ∧ HasL Γ ms F vs xs := by
  unfold dctD at e
  split at e
  · cases e
    obtain ⟨a, vs, hv, hs, hn, hl⟩ := h
    exact ⟨a, vs, hv, r.sub _ _ hs, hn, hl⟩
  · split at e
    · rename_i hk
      cases e
      obtain ⟨a, vs, hv, _, ha, hn, hl⟩ := mut_dct r h hk
      exact ⟨a, vs, hv, ha, hn, hl⟩
    · cases e
  · cases e
def lookK (k : Key) : List Key → List D → Option D
  | j :: ks, x :: xs => if j = k then some x else lookK k ks xs
  | _, _ => none
theorem lookK_some {Γ : Gm} {ms : List Addr} {F : Hp} {k : Key} {d : D} : ∀ {ks : List Key} {vs : List V} {xs : List D}, HasL Γ ms F vs xs → lookK k ks xs = some d → ∃ v, valV (ks.zip vs) k = some v ∧ Has Γ ms F v d
  | [], vs, xs, hl, e => by simp [lookK] at e
  | j :: ks, vs, [], hl, e => by simp [lookK] at e
  | j :: ks, _, x :: xs, ⟨w, ws, hv, h1, h2⟩, e => by
    subst hv
    unfold lookK at e
    by_cases c : j = k
    · rw [if_pos c] at e
      cases e
      exact ⟨w, valV_pos (p := (j, w)) c, h1⟩
    · rw [if_neg c] at e
      obtain ⟨v, e1, e2⟩ := lookK_some h2 e
      exact ⟨v, by rw [List.zip_cons_cons, valV_neg (p := (j, w)) c]; exact e1, e2⟩
theorem lookK_none {Γ : Gm} {ms : List Addr} {F : Hp} {k : Key} : ∀ {ks : List Key} {vs : List V} {xs : List D}, HasL Γ ms F vs xs → lookK k ks xs = none → valV (ks.zip vs) k = none
  | [], vs, xs, hl, e => rfl
  | j :: ks, vs, [], hl, e => by cases hl; rfl
  | j :: ks, _, x :: xs, ⟨w, ws, hv, h1, h2⟩, e => by
    subst hv
    unfold lookK at e
    by_cases c : j = k
    · rw [if_pos c] at e; cases e
    · rw [if_neg c] at e
      rw [List.zip_cons_cons, valV_neg (p := (j, w)) c]
      exact lookK_none h2 e
theorem lookK_is {Γ : Gm} {ms : List Addr} {F : Hp} {k : Key} {ks : List Key} {vs : List V} {xs : List D} (hl : HasL Γ ms F vs xs) : (valV (ks.zip vs) k).isSome = (lookK k ks xs).isSome := by
  cases e : lookK k ks xs with
  | none => rw [lookK_none hl e]; rfl
  | some d => obtain ⟨v, e1, _⟩ := lookK_some hl e; rw [e1]; rfl
section
variable {X : Cx} {cl : Nat → Addr} {a b c e o i value : Expr} {es : List Expr} {fa fb fo fi fv fk fd : EF} {pos pos' tpos p apos cpos : Pos} {r : AF}
/-- x in y, y a dict, a list, a text -/
def inA : G2 := fun x y μ => match dctD μ y with
  | some (ks, xs) => match keyD x with
    | some k => some (.bl (lookK k ks xs).isSome, μ)
    | none => none
  | none => inD x y μ
def ninA : G2 := fun x y μ => match dctD μ y with
  | some (ks, xs) => match keyD x with
    | some k => some (.bl (!(lookK k ks xs).isSome), μ)
    | none => none
  | none => ninD x y μ
theorem dget_of {Γ : Gm} {ms : List Addr} {F H : Hp} {μ : List MO} {x y : V} {dx dy : D} {ks : List Key} {xs : List D} {k : Key} (r : HR Γ ms F H μ) (hx : Has Γ ms F x dx) (hy : Has Γ ms F y dy) (e : dctD μ dy = some (ks, xs)) (ek : keyD dx = some k) : ∃ a vs, y = .ref a ∧ DGet H a x (valV (ks.zip vs) k) ∧ HasL Γ ms F vs xs := by
  obtain ⟨a, vs, rfl, ha, hn, hl⟩ := dctD_ok r hy e
  rw [keyD_ok hx ek]
  exact ⟨a, vs, rfl, DGet.k ha, hl⟩
theorem de_inA (hu : X.A.units + 65 < cLine) (ha : DE X cl a fa) (hb : DE X cl b fb) (hm : behindInMarks .In b = false := by first | exact nomark _ | rfl) (h1 : behindInMarks .In b = false := by first | exact nobehind _ (by decide) (by decide) | rfl) : DE X cl (.Compare a [.In] [b] pos) (eBin inA fa fb) := ⟨⟨fun pins s σ H Q I ⟨O, ms, F, δ, μ, d, μ', R, ev, k⟩ => by
  have ev0 := ev
  obtain ⟨dx, μ1, e1, ev⟩ := eThen_some ev
  obtain ⟨dy, μ2, e2, ev⟩ := eThen_some ev
  cases hd : dctD μ2 dy with
  | none =>
    refine (de_cmp (opd_in hu) ha hb hm).p.run pins s σ H Q I ⟨O, ms, F, δ, μ, d, μ', R, ?_, k⟩
    unfold inA at ev
    rw [hd] at ev
    simp only [eBin, eThen, e1, e2]
    exact ev
  | some q =>
    obtain ⟨ks, xs⟩ := q
    unfold inA at ev
    rw [hd] at ev
    dsimp only at ev
    split at ev
    · rename_i kk ek
      cases ev
      refine (pe_cmp (pc_din (un1 hu) ha.p hb.p) h1).run pins s σ H Q I (tE.seq R e1 fun x H1 ms1 F1 R1 s1 q1 => tE.seq R1 e2 fun y H2 ms2 F2 R2 s2 q2 => ?_)
      obtain ⟨p, vs, rfl, g, hl⟩ := dget_of R2.hr (q1.step s2) q2 hd ek
      refine ⟨p, _, rfl, g, ?_⟩
      rw [lookK_is hl]
      exact k _ H2 ms2 F2 R2.hr (s1.trans' R1.hr s2) rfl
    · cases ev⟩⟩
theorem de_ninA (hu : X.A.units + 65 < cLine) (ha : DE X cl a fa) (hb : DE X cl b fb) (hm : behindInMarks .NotIn b = false := by first | exact nomark _ | rfl) (h1 : behindInMarks .NotIn b = false := by first | exact nobehind _ (by decide) (by decide) | rfl) : DE X cl (.Compare a [.NotIn] [b] pos) (eBin ninA fa fb) := ⟨⟨fun pins s σ H Q I ⟨O, ms, F, δ, μ, d, μ', R, ev, k⟩ => by
  have ev0 := ev
  obtain ⟨dx, μ1, e1, ev⟩ := eThen_some ev
  obtain ⟨dy, μ2, e2, ev⟩ := eThen_some ev
  cases hd : dctD μ2 dy with
  | none =>
    refine (de_cmp (opd_nin hu) ha hb hm).p.run pins s σ H Q I ⟨O, ms, F, δ, μ, d, μ', R, ?_, k⟩
    unfold ninA at ev
    rw [hd] at ev
    simp only [eBin, eThen, e1, e2]
    exact ev
  | some q =>
    obtain ⟨ks, xs⟩ := q
    unfold ninA at ev
    rw [hd] at ev
    dsimp only at ev
    split at ev
    · rename_i kk ek
      cases ev
      refine (pe_cmp (pc_dnotin (un1 hu) ha.p hb.p) h1).run pins s σ H Q I (tE.seq R e1 fun x H1 ms1 F1 R1 s1 q1 => tE.seq R1 e2 fun y H2 ms2 F2 R2 s2 q2 => ?_)
      obtain ⟨p, vs, rfl, g, hl⟩ := dget_of R2.hr (q1.step s2) q2 hd ek
      refine ⟨p, _, rfl, g, ?_⟩
      rw [lookK_is hl]
      exact k _ H2 ms2 F2 R2.hr (s1.trans' R1.hr s2) rfl
    · cases ev⟩⟩
theorem dt_inA (hu : X.A.units + 65 < cLine) (ha : DE X cl a fa) (hb : DE X cl b fb) (hm : behindInMarks .In b = false := by first | exact nomark _ | rfl) (h1 : behindInMarks .In b = false := by first | exact nobehind _ (by decide) (by decide) | rfl) : DT X cl (.Compare a [.In] [b] pos) (asB (eBin inA fa fb)) := ⟨⟨fun pins s σ H Q I ⟨O, ms, F, δ, μ, d, μ', R, ev0, k⟩ => by
  have ev := asB_some ev0
  obtain ⟨dx, μ1, e1, ev⟩ := eThen_some ev
  obtain ⟨dy, μ2, e2, ev⟩ := eThen_some ev
  cases hd : dctD μ2 dy with
  | none =>
    refine (dt_cmp (opd_in hu) ha hb hm).p.run pins s σ H Q I ⟨O, ms, F, δ, μ, d, μ', R, ?_, k⟩
    unfold inA at ev
    rw [hd] at ev
    simp only [asB, eBin, eThen, e1, e2]
    rw [show inD dx dy μ2 = _ from ev]
  | some q =>
    obtain ⟨ks, xs⟩ := q
    unfold inA at ev
    rw [hd] at ev
    dsimp only at ev
    split at ev
    · rename_i kk ek
      cases ev
      refine (pt_cmp (pc_din (un1 hu) ha.p hb.p) h1).run pins s σ H Q I (tE.seq R e1 fun x H1 ms1 F1 R1 s1 q1 => tE.seq R1 e2 fun y H2 ms2 F2 R2 s2 q2 => ?_)
      obtain ⟨p, vs, rfl, g, hl⟩ := dget_of R2.hr (q1.step s2) q2 hd ek
      refine ⟨p, _, rfl, g, _, rfl, ?_⟩
      rw [lookK_is hl]
      exact k H2 ms2 F2 R2.hr (s1.trans' R1.hr s2)
    · cases ev⟩⟩
theorem dt_ninA (hu : X.A.units + 65 < cLine) (ha : DE X cl a fa) (hb : DE X cl b fb) (hm : behindInMarks .NotIn b = false := by first | exact nomark _ | rfl) (h1 : behindInMarks .NotIn b = false := by first | exact nobehind _ (by decide) (by decide) | rfl) : DT X cl (.Compare a [.NotIn] [b] pos) (asB (eBin ninA fa fb)) := ⟨⟨fun pins s σ H Q I ⟨O, ms, F, δ, μ, d, μ', R, ev0, k⟩ => by
  have ev := asB_some ev0
  obtain ⟨dx, μ1, e1, ev⟩ := eThen_some ev
  obtain ⟨dy, μ2, e2, ev⟩ := eThen_some ev
  cases hd : dctD μ2 dy with
  | none =>
    refine (dt_cmp (opd_nin hu) ha hb hm).p.run pins s σ H Q I ⟨O, ms, F, δ, μ, d, μ', R, ?_, k⟩
    unfold ninA at ev
    rw [hd] at ev
    simp only [asB, eBin, eThen, e1, e2]
    rw [show ninD dx dy μ2 = _ from ev]
  | some q =>
    obtain ⟨ks, xs⟩ := q
    unfold ninA at ev
    rw [hd] at ev
    dsimp only at ev
    split at ev
    · rename_i kk ek
      cases ev
      refine (pt_cmp (pc_dnotin (un1 hu) ha.p hb.p) h1).run pins s σ H Q I (tE.seq R e1 fun x H1 ms1 F1 R1 s1 q1 => tE.seq R1 e2 fun y H2 ms2 F2 R2 s2 q2 => ?_)
      obtain ⟨p, vs, rfl, g, hl⟩ := dget_of R2.hr (q1.step s2) q2 hd ek
      refine ⟨p, _, rfl, g, _, rfl, ?_⟩
      rw [lookK_is hl]
      exact k H2 ms2 F2 R2.hr (s1.trans' R1.hr s2)
    · cases ev⟩⟩
/-- o[i], of a dict, a list, a tuple, a text -/
def ixA : G2 := fun x y μ => match dctD μ x with
  | some (ks, xs) => match keyD y with
    | some k => match lookK k ks xs with
      | some d => some (d, μ)
      | none => none
    | none => none
  | none => ixD x y μ
theorem de_ixA (hu : X.A.units + 65 < cLine) (ha : DE X cl a fa) (hb : DE X cl b fb) (hs : PlainIx b) (hn : NoSl b) : DE X cl (.Subscript a b pos) (eBin ixA fa fb) := ⟨⟨fun pins s σ H Q I ⟨O, ms, F, δ, μ, d, μ', R, ev, k⟩ => by
  have ev0 := ev
  obtain ⟨dx, μ1, e1, ev⟩ := eThen_some ev
  obtain ⟨dy, μ2, e2, ev⟩ := eThen_some ev
  cases hd : dctD μ2 dx with
  | none =>
    refine (de_ix ha hb hs).p.run pins s σ H Q I ⟨O, ms, F, δ, μ, d, μ', R, ?_, k⟩
    unfold ixA at ev
    rw [hd] at ev
    simp only [eBin, eThen, e1, e2]
    exact ev
  | some q =>
    obtain ⟨ks, xs⟩ := q
    unfold ixA at ev
    rw [hd] at ev
    dsimp only at ev
    split at ev
    · rename_i kk ek
      split at ev
      · rename_i d' hlk
        cases ev
        refine (pe_dget (un1 hu) ha.p hb.p hn).run pins s σ H Q I (tE.seq R e1 fun x H1 ms1 F1 R1 s1 q1 => tE.seq R1 e2 fun y H2 ms2 F2 R2 s2 q2 => ?_)
        obtain ⟨p, vs, rfl, g, hl⟩ := dget_of R2.hr q2 (q1.step s2) hd ek
        obtain ⟨v, ev2, qv⟩ := lookK_some hl hlk
        rw [ev2] at g
        exact ⟨p, v, rfl, g, k v H2 ms2 F2 R2.hr (s1.trans' R1.hr s2) qv⟩
      · cases ev
    · cases ev⟩⟩
/-! del d[k], d.pop(k) -/
def dropD (k : Key) : List Key → List D → List Key × List D
  | j :: ks, x :: xs => if j = k then dropD k ks xs else (j :: (dropD k ks xs).1, x :: (dropD k ks xs).2)
  | _, _ => ([], [])
theorem dropD_ok {Γ : Gm} {ms : List Addr} {F : Hp} {k : Key} : ∀ {ks : List Key} {vs : List V} {xs : List D}, ks.length = vs.length → HasL Γ ms F vs xs → ∃ us, dropK (ks.zip vs) k = (dropD k ks xs).1.zip us ∧ (dropD k ks xs).1.length = us.length ∧ HasL Γ ms F us (dropD k ks xs).2
  | [], vs, xs, hn, hl => ⟨[], by simp [dropD, dropK], by simp [dropD], by simp [dropD, HasL]⟩
  | j :: ks, [], xs, hn, hl => by simp at hn
  | j :: ks, w :: ws, [], hn, hl => by cases hl
  | j :: ks, w :: ws, x :: xs, hn, ⟨w', ws', hv, h1, h2⟩ => by
    cases hv
    obtain ⟨us, e1, e2, e3⟩ := dropD_ok (k := k) (by simpa using hn) h2
    unfold dropD
    rw [List.zip_cons_cons]
    by_cases c : j = k
    · rw [if_pos c, dropK_pos (p := (j, w)) c]
      exact ⟨us, e1, e2, e3⟩
    · rw [if_neg c, dropK_neg (p := (j, w)) c, e1]
      exact ⟨w :: us, rfl, by simp [e2], ⟨_, _, rfl, h1, e3⟩⟩
def bDDel (fd fk : EF) : BF := fun δ μ => match fd δ μ with
  | some (.mut j, μ1) => match fk δ μ1 with
    | some (kd, μ2) => match keyD kd, μ2[j]? with
      | some k, some (.dct ks xs) => if (lookK k ks xs).isSome = true then some (.nx δ (μ2.set j (.dct (dropD k ks xs).1 (dropD k ks xs).2))) else none
      | _, _ => none
    | none => none
  | _ => none
theorem ds_ddel (ho : DE X cl o fd) (hi : DE X cl i fk) : DS X cl (.Delete [.Subscript o i tpos] pos) (bDDel fd fk) := ⟨(ps_ddel ho.p hi.p).weak fun D σ H ⟨O, ms, F, δ, μ, oo, R, ev, hO, k⟩ => by
  unfold bDDel at ev
  split at ev
  · rename_i j μ1 e1
    split at ev
    · rename_i kd μ2 e2
      split at ev
      · rename_i kk ks xs ek hk
        split at ev
        · rename_i hz
          cases ev
          refine tE.seq R e1 fun ov H1 ms1 F1 R1 s1 q1 => tE.seq R1 e2 fun iv H2 ms2 F2 R2 s2 q2 => ?_
          obtain ⟨a, ws, rfl, hma, ha, hn, hl⟩ := mut_dct R2.hr (q1.step s2) hk
          obtain ⟨us, ep, eu, hu'⟩ := dropD_ok (k := kk) hn hl
          refine ⟨a, _, kk, rfl, ha, keyD_ok q2 ek, by rw [lookK_is hl]; exact hz, ?_⟩
          rw [ep]
          obtain ⟨r', s⟩ := R2.hr.write hma (u := .dct (dropD kk ks xs).1 (dropD kk ks xs).2) (o := .dK ((dropD kk ks xs).1.zip us)) ⟨_, upd_same, eu, hu'⟩
          exact k σ _ ms2 F2 (R2.step r' s) (s1.trans' R1.hr s2).ext
        · cases ev
      · cases ev
    · cases ev
  · cases ev⟩
def eDPop (fd fk : EF) : EF := fun δ μ => match fd δ μ with
  | some (.mut j, μ1) => match dctD μ1 (.mut j) with
    | some _ => match fk δ μ1 with
      | some (kd, μ2) => match keyD kd, μ2[j]? with
        | some k, some (.dct ks xs) => match lookK k ks xs with
          | some d => some (d, μ2.set j (.dct (dropD k ks xs).1 (dropD k ks xs).2))
          | none => none
        | _, _ => none
      | none => none
    | none => none
  | _ => none
theorem de_dpop (ho : DE X cl o fd) (hi : DE X cl i fk) (m : M1 X o "pop" apos i cpos) : DE X cl (.Call (.Attribute o "pop" apos) [i] [] cpos) (eDPop fd fk) := ⟨(pe_dpop1 ho.p hi.p m).weak fun σ H Q ⟨O, ms, F, δ, μ, d, μ', R, ev, k⟩ => by
  unfold eDPop at ev
  split at ev
  · rename_i j μ1 e1
    split at ev
    · rename_i q0 hq0
      split at ev
      · rename_i kd μ2 e2
        split at ev
        · rename_i kk ks xs ek hk
          split at ev
          · rename_i d' hlk
            cases ev
            refine tE.seq R e1 fun ov H1 ms1 F1 R1 s1 q1 => ?_
            obtain ⟨a0, vs0, rfl, ha0, _, _⟩ := dctD_ok R1.hr q1 hq0
            refine ⟨a0, rfl, .inl ⟨_, .inl ha0⟩, tE.seq R1 e2 fun iv H2 ms2 F2 R2 s2 q2 => ?_⟩
            obtain ⟨a, ws, ea, hma, ha, hn, hl⟩ := mut_dct R2.hr (q1.step s2) hk
            cases ea
            obtain ⟨us, ep, eu, hu'⟩ := dropD_ok (k := kk) hn hl
            obtain ⟨v, ev2, qv⟩ := lookK_some hl hlk
            refine ⟨_, kk, v, ha, keyD_ok q2 ek, ev2, ?_⟩
            rw [ep]
            obtain ⟨r', s⟩ := R2.hr.write hma (u := .dct (dropD kk ks xs).1 (dropD kk ks xs).2) (o := .dK ((dropD kk ks xs).1.zip us)) ⟨_, upd_same, eu, hu'⟩
            exact k v _ ms2 F2 r' ((s1.trans' R1.hr s2).trans' R2.hr s) (qv.step s)
          · cases ev
        · cases ev
      · cases ev
    · cases ev
  · cases ev⟩
/-! o[i] = e, of a dict or a list -/
def bStA (fe fo fi : EF) : BF := fun δ μ => match fe δ μ with
  | some (_, μ1) => match fo δ μ1 with
    | some (x, μ2) => match fi δ μ2 with
      | some (_, μ3) => match dctD μ3 x with
        | some _ => bDPut fo fi fe δ μ
        | none => bSt fe fo fi δ μ
      | none => none
    | none => none
  | none => none
theorem ds_stA {sp : Pos} (hu : X.A.units + 65 < cLine) (he : DE X cl e fa) (ho : DE X cl o fo) (hi : DE X cl i fi) (hsD : swapsWith e (some (.Subscript o i sp)) pos.line X.env = pure false := by rfl) (hs : swapsWithSole [.Subscript o i sp] e pos.line X.env = pure false := by rfl) (hw : swappedStores [.Subscript o i sp] e X.env = pure none := by rfl) (h1 : (assignEach [.Subscript o i sp] X.env).map (·.2) = [assign (.Subscript o i sp) X.env] := by rfl)
    (has : ∀ v, assign (.Subscript o i sp) X.env v = (do
      let ov ← holding [v] (eval o X.env)
      let iv ← holding [v, ov] (eval i X.env)
      standAt sp
      holding [v, ov, iv] (setItem ov iv v)
      release [v, ov, iv] []) := by intro _; rfl) :
    DS X cl (.Assign [.Subscript o i sp] e pos) (bStA fa fo fi) := ⟨⟨fun pins s σ H D I ⟨O, ms, F, δ, μ, oo, R, ev, hO, k⟩ => by
  unfold bStA at ev
  split at ev
  · split at ev
    · split at ev
      · split at ev
        · exact (ds_dput (un1 hu) ho hi he hsD).p.run pins s σ H D I ⟨O, ms, F, δ, μ, oo, R, ev, hO, k⟩
        · exact (ds_stL he ho hi hs hw h1 has).p.run pins s σ H D I ⟨O, ms, F, δ, μ, oo, R, ev, hO, k⟩
      · cases ev
    · cases ev
  · cases ev⟩⟩
/-! list(d), dict(d), dict(pairs), sorted -/
def keyV : Key → D
  | .inl i => .int i
  | .inr x => .str x
theorem keyV_has {Γ : Gm} {ms : List Addr} {F : Hp} (k : Key) : Has Γ ms F (kV k) (keyV k) := by cases k <;> rfl
theorem keysV_has {Γ : Gm} {ms : List Addr} {F : Hp} : ∀ (ks : List Key) (vs : List V), ks.length = vs.length → HasL Γ ms F ((ks.zip vs).map fun kv => kV kv.1) (ks.map keyV)
  | [], [], _ => rfl
  | k :: ks, v :: vs, h => ⟨_, _, rfl, keyV_has k, keysV_has ks vs (by simpa using h)⟩
def lstA : G1 := fun ds μ => match ds with
  | [x] => match dctD μ x with
    | some (ks, _) => some (.mut μ.length, μ ++ [.lst (ks.map keyV)])
    | none => lstM [x] μ
  | _ => none
theorem cd_lstA (hc : X.calm = true) : CallD X cl (.type "list") lstA := by
  intro ms F H μ vs ds d μ' Q r hv ev k
  unfold lstA at ev
  split at ev
  · split at ev
    · rename_i ks xs hd
      cases ev
      obtain ⟨v, rfl, h⟩ := hv.one'
      obtain ⟨a, ws, rfl, ha, hn, hl⟩ := dctD_ok r h hd
      exact ⟨_, call_listD hc, a, _, rfl, .inl ha, fun p hp => k.mut r (keysV_has ks ws hn) hp⟩
    · exact cd_lstM ms F H μ vs _ d μ' Q r hv ev k
  · cases ev
/-- the pairs of a list of pairs -/
def prsD (μ : List MO) : List D → Option (List Key × List D)
  | [] => some ([], [])
  | .tup [kd, v] :: ds => match keyD kd, prsD μ ds with
    | some k, some (ks, xs) => some (k :: ks, v :: xs)
    | _, _ => none
  | _ => none
def mergeD : List Key → List D → List Key → List D → List Key × List D
  | ks, xs, k :: ls, y :: ys => mergeD (putX ks xs k y).1 (putX ks xs k y).2 ls ys
  | ks, xs, _, _ => (ks, xs)
theorem put_ok {Γ : Gm} {ms : List Addr} {F : Hp} {kk : Key} {v : V} {d : D} {ks : List Key} {ws : List V} {xs : List D} (q : Has Γ ms F v d) (hn : ks.length = ws.length) (hl : HasL Γ ms F ws xs) : ∃ us, putK (ks.zip ws) kk v = (putX ks xs kk d).1.zip us ∧ (putX ks xs kk d).1.length = us.length ∧ HasL Γ ms F us (putX ks xs kk d).2 := by
  have zl : (ks.zip ws).length = ks.length := by rw [List.length_zip, hn]; simp
  unfold putK putX
  rw [putX_any kk ks ws hn]
  by_cases hmem : (ks.any fun j => decide (j = kk)) = true
  · rw [if_pos hmem, if_pos hmem]
    exact ⟨_, (putX_zip kk v ks ws hn).symm, by rw [List.length_map, zl], hl.putm q⟩
  · rw [if_neg hmem, if_neg hmem]
    exact ⟨ws ++ [v], by rw [List.zip_append hn]; rfl, by simp [hn], hl.append (HasL.one q)⟩
theorem merge_ok {Γ : Gm} {ms : List Addr} {F : Hp} : ∀ {ls : List Key} {zs : List V} {ys : List D} {ks : List Key} {ws : List V} {xs : List D}, ls.length = zs.length → HasL Γ ms F zs ys → ks.length = ws.length → HasL Γ ms F ws xs → ∃ us, mergeK (ks.zip ws) (ls.zip zs) = (mergeD ks xs ls ys).1.zip us ∧ (mergeD ks xs ls ys).1.length = us.length ∧ HasL Γ ms F us (mergeD ks xs ls ys).2
  | [], zs, ys, ks, ws, xs, h1, h2, h3, h4 => ⟨ws, by simp [mergeD, mergeK], by simpa [mergeD] using h3, by simpa [mergeD] using h4⟩
  | l :: ls, [], ys, ks, ws, xs, h1, h2, h3, h4 => by simp at h1
  | l :: ls, z :: zs, [], ks, ws, xs, h1, h2, h3, h4 => by cases h2
  | l :: ls, z :: zs, y :: ys, ks, ws, xs, h1, ⟨w', ws', hv, q1, q2⟩, h3, h4 => by
    cases hv
    obtain ⟨us, e1, e2, e3⟩ := put_ok (kk := l) q1 h3 h4
    obtain ⟨us', f1, f2, f3⟩ := merge_ok (ls := ls) (by simpa using h1) q2 e2 e3
    refine ⟨us', ?_, f2, f3⟩
    show mergeK (putK (ks.zip ws) l z) (ls.zip zs) = _
    rw [e1]
    exact f1
theorem prsD_ok {Γ : Gm} {ms : List Addr} {F H : Hp} {μ : List MO} (r : HR Γ ms F H μ) : ∀ {ds : List D} {ks : List Key} {xs : List D} {vs : List V}, prsD μ ds = some (ks, xs) → HasL Γ ms F vs ds → ∃ (ps : List Addr) (zs : List V), vs = ps.map V.ref ∧ ks.length = zs.length ∧ HasL Γ ms F zs xs ∧ Paired (fun p (kv : Key × V) => SqT Γ.K H p [kV kv.1, kv.2]) ps (ks.zip zs)
  | [], ks, xs, vs, e, h => by cases e; cases h; exact ⟨[], [], rfl, rfl, rfl, .nil⟩
  | d :: ds, ks, xs, vs, e, ⟨w, ws, hv, h1, h2⟩ => by
    subst hv
    unfold prsD at e
    split at e
    · rename_i hh; cases hh
    · rename_i kd v ds' he
      cases he
      split at e
      · rename_i k ks' xs' ek ep
        cases e
        obtain ⟨ps, zs, e1, e2, e3, e4⟩ := prsD_ok r ep h2
        obtain ⟨a, ys, rfl, hs, hl⟩ := h1
        obtain ⟨y1, y2, rfl, k1, k2⟩ := hl.two'
        rw [keyD_ok k1 ek] at hs
        exact ⟨a :: ps, y2 :: zs, by rw [e1]; rfl, by simp [e2], ⟨_, _, rfl, k2, e3⟩, .cons (Tp.same r.sub hs).sq e4⟩
      · cases e
    · cases e
theorem Fin1.mutD {Γ : Gm} {ms : List Addr} {F H : Hp} {ks : List Key} {xs : List D} {μ : List MO} {Q : VK} {vs : List V} {p : Addr} (h : Fin1 Γ ms F H (.mut μ.length) (μ ++ [.dct ks xs]) Q) (r : HR Γ ms F H μ) (hn : ks.length = vs.length) (q : HasL Γ ms F vs xs) (hp : H p = none) : Q (.ref p) (upd H p (.dK (ks.zip vs))) := by
  obtain ⟨r', s⟩ := r.push (u := .dct ks xs) (o := .dK (ks.zip vs)) hp ⟨vs, upd_same, hn, q.mono (Same.refl _)⟩
  exact h _ _ _ _ r' s ⟨p, rfl, by rw [← r.len]; simp⟩
def dctG : G1 := fun ds μ => match ds with
  | [x] => match dctD μ x with
    | some (ks, xs) => some (.mut μ.length, μ ++ [.dct ks xs])
    | none => match seqD μ x with
      | some (.l, ps) => match prsD μ ps with
        | some (ks, xs) => some (.mut μ.length, μ ++ [.dct (mergeD [] [] ks xs).1 (mergeD [] [] ks xs).2])
        | none => none
      | _ => none
  | _ => none
theorem cd_dctG (hc : X.calm = true) : CallD X cl (.type "dict") dctG := by
  intro ms F H μ vs ds d μ' Q r hv ev k
  unfold dctG at ev
  split at ev
  · obtain ⟨v, rfl, h⟩ := hv.one'
    split at ev
    · rename_i ks xs hd
      cases ev
      obtain ⟨a, ws, rfl, ha, hn, hl⟩ := dctD_ok r h hd
      exact ⟨_, call_dictD, a, _, rfl, .inl ha, fun p hp => k.mutD r hn hl hp⟩
    · split at ev
      · rename_i ps hq
        split at ev
        · rename_i ks xs hp0
          cases ev
          obtain ⟨a, ys, rfl, hs, hl⟩ := seqD_ok r h hq
          obtain ⟨as, zs, e1, e2, e3, e4⟩ := prsD_ok r hp0 hl
          obtain ⟨us, f1, f2, f3⟩ := merge_ok (ks := []) (ws := []) (xs := []) e2 e3 rfl rfl
          refine ⟨_, call_dictP hc, a, as, _, rfl, by rw [← e1]; exact SqL.of hs, e4, fun p hp => ?_⟩
          have f1' : mergeK [] (ks.zip zs) = _ := f1
          rw [f1']
          exact k.mutD r f2 f3 hp
        · cases ev
      · cases ev
  · cases ev
end
end G

set_option Elab.async false
set_option linter.all false
set_option autoImplicit false
set_option maxRecDepth 100000
set_option maxHeartbeats 2000000
namespace G
open PySem PySem.Spec PySem.Calls L2
/-! ### an own class's special methods: len(o) -/
/-- a special method that raises nothing -/
structure HasD (P : Program) (w : World) (K : PySem.W.Frag) (mg : Str → Option Value) (base : Heap) (cl : Nat → Addr) (k : Nat) (C : Nat) (m : Str) (n : Nat) (ps : List Str) (fn : FF) where
  f : Addr
  fd : FuncData
  ok : FnG P w K mg base k f fd n ps (spF (gk K cl) n fn)
  mt : Meth K (cl C) m f
  bd : Binds K fd ps []
theorem in1_guards {A : Around} (h : A.guards = some []) : A.in1.guards = some [] := h
section
variable {X : Cx} {cl : Nat → Addr} {k n : Nat} {f : Addr} {fd : FuncData} {ps : List Str} {fn : FF}
/-- a def of the text is run somewhere below the running body -/
theorem runG_at {A : Around} {sp : Sp} {pins : List (Addr × Obj)} {σ : L2.St} {H : Hp} {s : Shared} {Q : VK} {E : Value → Shared → Prop} {us : List Value} {vs : List V} (Gf : FnG X.prog X.w X.K X.mg X.base k f fd n ps sp) (hgd : A.guards = some []) (hr : Room k A)
    (he : Env0 X.prog X.w X.K X.mg X.base A X.stack s H) (hb : Binds X.K fd ps []) (I : Inv X pins σ H s) (rv : Vals vs us) (h : sp vs H Q E0) : wpAny (model X.prog X.w) A (call (.ref f) us) (EP X pins σ Q) E s := by
  have hl : us.length = ps.length := by rw [← rv.length, Gf.pl]; exact Gf.len _ _ _ _ h
  have b := hb s us I.kIn (by rw [List.append_nil]; exact hl)
  rw [List.append_nil] at b
  refine wpAny_call (codeAny_mono (Gf.go hgd hr he b rv h) fun z s' hq => ?_)
  cases z with
  | error _ => exact (show False from hq).elim
  | ok fl =>
    cases fl with
    | ret u => exact I.after hq
    | next => exact (show False from hq).elim
    | brk => exact (show False from hq).elim
    | cont => exact (show False from hq).elim
theorem Inv.inst {pins : List (Addr × Obj)} {σ : L2.St} {H : Hp} {s : Shared} {a C dx : Addr} {fs : List (Str × V)} (I : Inv X pins σ H s) (ha : H a = some (.ins C dx fs)) : ∃ od ox, PySem.W.InstAt s.heap a ox C (some od) := by
  obtain ⟨mA, J, _⟩ := ins_get I.hok ha
  obtain ⟨od, J, _⟩ := J.look
  exact ⟨od, _, J⟩
def rLenO (K : PySem.W.Frag) (C : Addr) (sp : Sp) : List V → Hp → VK → Prop := fun vs H Q => ∃ a dx fs, vs = [.ref a] ∧ H a = some (.ins C dx fs) ∧ sp [.ref a] H (fun v H2 => ∃ n : Int, v = .int n ∧ 0 ≤ n ∧ n < 2 ^ 63 ∧ Q (.int n) H2) E0
theorem call_lenO {sp : Sp} {C : Addr} (Gf : FnG X.prog X.w X.K X.mg X.base k f fd n ps sp) (hm : Meth X.K C "__len__" f) (hb : Binds X.K fd ps []) (hgd : X.A.guards = some []) (hr : Room (k + 1) X.A) : CallR X (.builtin "len") (rLenO X.K C sp) := by
  intro pins s σ H vs us Q I r h
  obtain ⟨a, dx, fs, rfl, ha, q⟩ := h
  obtain ⟨u, rfl, ru⟩ := vals1 r
  cases ru
  obtain ⟨od, ox, J⟩ := Inv.inst I ha
  obtain ⟨m, hF⟩ := I.fr
  refine PySem.W.len_K hF I.ok.mod.kin J hm.at_ hm.fn (wpAny_mono (runG_at Gf (in1_guards hgd) hr.in1 I.env0.in1 hb I (us := [.ref a]) (vs := [V.ref a]) (.cons (show RelV (V.ref a) (Value.ref a) from rfl) .nil) q) (fun v s' hv => ?_) fun _ _ e => e)
  obtain ⟨v', H', I', rv, n, rfl, h0, h1, q2⟩ := hv
  obtain ⟨t, rfl⟩ := rv
  exact ⟨⟨h0, h1⟩, .int n, H', I'.tok _, ⟨_, rfl⟩, q2⟩
/-- len of data, of a dict too -/
def lenA : G1 := fun ds μ => match ds with
  | [x] => match dctD μ x with
    | some (ks, _) => some (.int ks.length, μ)
    | none => lenD [x] μ
  | ds => lenD ds μ
theorem cd_lenA : CallD X cl (.builtin "len") lenA := by
  intro ms F H μ vs ds d μ' Q r hv ev kk
  unfold lenA at ev
  split at ev
  · split at ev
    · rename_i ks xs hd
      cases ev
      obtain ⟨v, rfl, h⟩ := hv.one'
      obtain ⟨a, ws, rfl, ha, hn, hl⟩ := dctD_ok r h hd
      refine ⟨_, call_lenD, a, _, rfl, ha, ?_⟩
      rw [List.length_zip, ← hn, Nat.min_self]
      exact kk.imm r rfl
    · exact cd_len ms F H μ vs _ d μ' Q r hv ev kk
  · exact cd_len ms F H μ vs _ d μ' Q r hv ev kk
/-- len(o), o an instance of the class number C; else as len of data -/
def lenO (C : Nat) (fn : FF) : G1 := fun ds μ => match ds with
  | [.mut j] => match μ[j]? with
    | some (.ins C' _ _) => if C' = C then (match fn [.mut j] μ with
      | some (.int n, μ') => if 0 ≤ n ∧ n < 1000000 then some (.int n, μ') else none
      | _ => none) else none
    | _ => lenA [.mut j] μ
  | ds => lenA ds μ
theorem cd_lenO {C : Nat} (T : HasD X.prog X.w X.K X.mg X.base cl k C "__len__" 1 ps fn) (hgd : X.A.guards = some []) (hr : Room (k + 1) X.A) : CallD X cl (.builtin "len") (lenO C fn) := by
  intro ms F H μ vs ds d μ' Q r hv ev kk
  unfold lenO at ev
  split at ev
  · rename_i j
    split at ev
    · rename_i C' ns xs hk
      split at ev
      · rename_i hc
        subst hc
        split at ev
        · rename_i n μ2 e
          split at ev
          · rename_i hz
            cases ev
            obtain ⟨v, rfl, h⟩ := hv.one'
            obtain ⟨a, dx, ws, rfl, hma, ha, hn, hl⟩ := mut_ins r h hk
            refine ⟨_, call_lenO T.ok T.mt T.bd hgd hr, a, dx, _, rfl, ha, ms, F, [.mut j], μ, _, _, r.xp, (HasL.one h).xp, rfl, e, fun v H' ms' F' r' s' q' => ?_⟩
            obtain rfl : v = .int n := q'
            exact ⟨n, rfl, hz.1, by omega, kk _ H' ms' F' r'.xp s' rfl⟩
          · cases ev
        · cases ev
      · cases ev
    · exact cd_lenA ms F H μ vs _ d μ' Q r hv ev kk
  · exact cd_lenA ms F H μ vs _ d μ' Q r hv ev kk
/-! ### sorted(ints), sorted(d) of a dict with int keys: any number of them -/
theorem call_sortedDA (hcalm : X.calm = true) : CallR X (.builtin "sorted") (fun xs H Q => ∃ (a : Addr) (kvs : List (Key × V)) (ks : List Int), xs = [.ref a] ∧ Rd H a (.dK kvs) ∧ kvs.map (·.1) = ks.map Sum.inl ∧
    ∀ (ys : List Int) (p : Addr), ys.Perm ks → ys.Pairwise (· ≤ ·) → H p = none → Q (.ref p) (upd H p (.lst (ys.map V.int)))) := by
  intro pins s σ H xs us Q I r q
  obtain ⟨a, kvs, ks, ex, hd, hks, q⟩ := q
  subst ex
  obtain ⟨u, eu, rx⟩ := vals1 r
  subst eu
  cases rx
  obtain ⟨z, lo, vs, rel, dd⟩ := dk_rd I.hok hd
  obtain ⟨ep, hat⟩ := dd.dictAt
  have hkeys : vs.map (·.1) = ks.map Sum.inl := rel.keys.symm.trans hks
  have hl : vs.length = ks.length := by
    have e := congrArg List.length hkeys
    rw [List.length_map, List.length_map] at e
    exact e
  have h16 : vs.length ≤ sizeLine := by rw [← rel.length]; exact z
  refine Calls.call_function_entry PyProof.Rows.kind_sorted PyProof.Rows.plain_sorted PyProof.Rows.entry_sorted (PyProof.Rows.args_sorted1 _) ?_
  unfold Builtin.«sorted»
  refine wpAny_bind (m := checkCount "sorted" 1 1 _) (wpAny_pure ?_)
  refine wpAny_bind (PySem.W.kdu_collect (A := X.A.in1) (PySem.W.kdl_dict (knd := mixKind X.prog X.w) (kvs := vs) (ep := ep) lo) (I.ok.hd hcalm) hat h16 fun h' tk acc hk hacc => ?_)
  have hal : acc.toList.length = ks.length := by rw [Array.length_toList, hacc.1, hl]
  have hS : PyProof.Rows.IntsAre acc.toList ks := ints_each hal fun j v e => by
    obtain ⟨k, x, e1, e2⟩ := hacc.2 j v (by rw [← Array.getElem?_toList]; exact e)
    have e3 : (vs.map (·.1))[j]? = some k := by rw [List.getElem?_map, e1]; rfl
    rw [hkeys, List.getElem?_map] at e3
    cases e4 : ks[j]? with
    | none => rw [e4] at e3; cases e3
    | some y =>
      rw [e4] at e3
      have e5 : Sum.inl y = k := Option.some.inj e3
      subst e5
      rcases keyIs_shape (show keyIs (Sum.inl y) v = true from e2) with ⟨i, t, ek, ev⟩ | ⟨z, t, ek, ev⟩
      · cases ek
        exact ⟨y, t, rfl, ev⟩
      · cases ek
  have I1 : Inv X pins σ H { s with heap := h', toks := tk } := I.kept hk
  have hz' : acc.toList.length ≤ sizeLine := by rw [hal, ← hl]; exact h16
  refine wpAny_bind (wpAny_newList ?_ hz')
  have hoL : (h'.push (PyProof.Rows.seqObj "list" acc.toList.toArray 0)).get? h'.objs.size = some (PyProof.Rows.seqObj "list" acc.toList.toArray 0) := Heap.get?_push_size _ rfl
  show wpAny _ _ _ _ _ { s with heap := h'.push (PyProof.Rows.seqObj "list" acc.toList.toArray 0), toks := tk }
  refine wpAny_bind (wpAny_holding (wpAny_call_entry PyProof.Rows.slot_list_sort ⟨_, hoL, rfl⟩ PyProof.Rows.entry_list_sort
    (SrtO.list_sort_ord SrtO.swo_int (s := { s with heap := h'.push (PyProof.Rows.seqObj "list" acc.toList.toArray 0), toks := tk }) hoL hz' (fun h2 => SrtO.ints_sortable hS h2) fun out h1 h2 => ⟨_, rfl, ?_⟩) (PyProof.Rows.args_list_sort _)))
  obtain ⟨g1, g2, g3⟩ := SrtO.ints_out hS h1 h2
  obtain ⟨e', he'⟩ := PyProof.Rows.sortedHeap_at (vs := acc.toList) (out := out.toArray) hoL
  have hlen : ((out.map SrtO.iv).map V.int).length ≤ sizeLine := by
    rw [List.length_map, g2.length_eq, ← hl]
    exact h16
  refine wpAny_pure ⟨_, rfl, .ref h'.objs.size, upd H h'.objs.size (.lst ((out.map SrtO.iv).map V.int)), I1.laid (t' := tk) (fun b u e => ?_) (Nat.le_refl _)
    (show ObjOk X.prog X.w _ _ _ (.lst ((out.map SrtO.iv).map V.int)) from ⟨hlen, out, e', vals_of_ints g1, he'⟩), rfl, q _ _ g2 g3 (I1.hok.fresh (Nat.le_refl _))⟩
  have hb : b < h'.objs.size := Heap.lt_size e
  rw [PyProof.Rows.sortedHeap_old (Nat.ne_of_lt hb) (by rw [PyProof.Rows.size_push']; exact Nat.lt_succ_of_lt hb)]
  exact Heap.get?_push_of_some _ e
def leI (a b : Int) : Bool := decide (a ≤ b)
def srtI (xs : List Int) : List Int := xs.mergeSort leI
theorem srtI_of {xs ys : List Int} (p : ys.Perm xs) (h : ys.Pairwise (· ≤ ·)) : ys = srtI xs := by
  have h1 : (srtI xs).Pairwise fun a b => leI a b = true := List.pairwise_mergeSort (fun a b c => by simp only [leI, decide_eq_true_eq]; omega) (fun a b => by simp only [leI, Bool.or_eq_true, decide_eq_true_eq]; omega) xs
  have h2 : (srtI xs).Pairwise (· ≤ ·) := h1.imp fun {a b} h => by simpa [leI] using h
  exact List.Perm.eq_of_pairwise (le := (· ≤ ·)) (fun a b _ _ x y => by omega) h h2 (p.trans (List.mergeSort_perm xs leI).symm)
theorem srtI_same {xs : List Int} (h : xs.Pairwise (· ≤ ·)) : srtI xs = xs := (srtI_of (List.Perm.refl _) h).symm
def intKeys : List Key → Option (List Int)
  | [] => some []
  | .inl i :: ks => match intKeys ks with
    | some is => some (i :: is)
    | none => none
  | .inr _ :: _ => none
theorem intKeys_ok : ∀ {ks : List Key} {is : List Int}, intKeys ks = some is → ks = is.map Sum.inl
  | [], is, e => by cases e; rfl
  | .inl i :: ks, is, e => by
    unfold intKeys at e
    split at e
    · rename_i js h
      cases e
      rw [intKeys_ok h]; rfl
    · cases e
  | .inr _ :: _, is, e => by cases e
theorem zip_keys {α β : Type} : ∀ {ks : List α} {vs : List β}, ks.length = vs.length → (ks.zip vs).map (·.1) = ks
  | [], [], _ => rfl
  | k :: ks, v :: vs, h => by rw [List.zip_cons_cons, List.map_cons, zip_keys (by simpa using h)]
theorem ints_hasL {Γ : Gm} {ms : List Addr} {F : Hp} : ∀ is : List Int, HasL Γ ms F (is.map V.int) (is.map D.int)
  | [] => rfl
  | i :: is => ⟨_, _, rfl, rfl, ints_hasL is⟩
/-- sorted(x): a new list that may change -/
def sortedA : G1 := fun ds μ => match ds with
  | [x] => match dctD μ x with
    | some (ks, _) => match intKeys ks with
      | some is => some (.mut μ.length, μ ++ [.lst ((srtI is).map D.int)])
      | none => none
    | none => match seqD μ x with
      | some (.l, xs) => match intsD xs with
        | some is => some (.mut μ.length, μ ++ [.lst ((srtI is).map D.int)])
        | none => none
      | _ => none
  | _ => none
theorem cd_sortedA (hc : X.calm = true) : CallD X cl (.builtin "sorted") sortedA := by
  intro ms F H μ vs ds d μ' Q r hv ev k
  unfold sortedA at ev
  split at ev
  · obtain ⟨v, rfl, h⟩ := hv.one'
    split at ev
    · rename_i ks xs hd
      split at ev
      · rename_i is hi
        cases ev
        obtain ⟨a, ws, rfl, ha, hn, hl⟩ := dctD_ok r h hd
        refine ⟨_, call_sortedDA hc, a, _, is, rfl, .inl ha, by rw [zip_keys hn]; exact intKeys_ok hi, fun ys p h1 h2 hp => ?_⟩
        rw [srtI_of h1 h2]
        exact k.mut r (ints_hasL _) hp
      · cases ev
    · split at ev
      · rename_i xs hq
        split at ev
        · rename_i is hi
          cases ev
          obtain ⟨a, ys, rfl, hs, hl⟩ := seqD_ok r h hq
          have e := intsD_ok hi hl
          subst e
          refine ⟨_, cr_sortedI, a, is, rfl, SqL.of hs, fun ns p h1 h2 hp => ?_⟩
          rw [srtI_of h1 h2]
          exact k.mut r (ints_hasL _) hp
        · cases ev
      · cases ev
  · cases ev
end
/-! ### list(d.values()) -/
section
variable {X : Cx} {cl : Nat → Addr} {e : Expr} {te : TE} {p apos cpos pos : Pos}
def tListVals (te : TE) : TE := fun σ H Q => te σ H fun x H1 => ∃ (d : Addr) (kvs : List (Key × V)), x = .ref d ∧ H1 d = some (.dK kvs) ∧ ∀ p, H1 p = none → Q (.ref p) (upd H1 p (.lst (kvs.map (·.2))))
theorem vals_snd : ∀ {kvs : List (Key × V)} {vs : List (Key × Value)}, KV kvs vs → Vals (kvs.map (·.2)) (vs.map (·.2))
  | _, _, .nil => .nil
  | _, _, .cons h t => .cons h.2 (vals_snd t)
theorem pe_listVals (hc : X.calm = true) (he : PE X e te) (hg : Gl X "list") (hm : X.mg "list" = none) (hv : bootBuiltins "list" = some (.type "list")) (hbase : attributeBase e "values" X.env (eval e X.env) = eval e X.env := by rfl) (hline : (apos.endLine == cpos.line) = true := by rfl)
    (hs : starEach [.Call (.Attribute e "values" apos) [] [] cpos] X.env = (false, eval (.Call (.Attribute e "values" apos) [] [] cpos) X.env) :: starEach [] X.env := by rfl) :
    PE X (.Call (.Name "list" p) [.Call (.Attribute e "values" apos) [] [] cpos] [] pos) (tListVals te) := by
  refine ⟨fun pins s σ H Q I hq => ?_⟩
  refine wpAny_Call_Name_kw (ld_blt I hg hm hv ?_)
  refine PyProof.Rows.callWith_type1 ?_ hs rfl
  rw [hs]
  show wpAny _ _ (spliced ((false, eval (.Call (.Attribute e "values" apos) [] [] cpos) X.env) :: backTo pos (starEach [] X.env))) _ _ s
  refine Calls.spliced_cons ?_
  refine wpAny_Call_method (T := "dict") (id := "dict.values") hbase rfl hline F.plainAttrs_dict F.slot_dict_values F.type_dict_values (thn (he.run pins s σ H _ I hq) fun u s1 ⟨x, H1, I1, rx, d, kvs, ex, hd, q⟩ => ?_)
  subst ex
  obtain rfl : u = Value.ref d := rx
  obtain ⟨hz, hs0, vs, kv, hdo⟩ := I1.hok d _ hd
  obtain ⟨ep, hat⟩ := hdo.dictAt
  have lk : kvs.length = vs.length := Paired.length kv
  have I2 : Inv X pins σ H1 { s1 with heap := s1.heap.push { cls := .type "dict_values", data := .fields #[.ref d] } } := I1.kept (t' := s1.toks) fun b ob q => Heap.get?_push_of_some _ q
  refine ⟨hdo.typeIs, hdo.mapOf.noDict, ?_⟩
  show wpAny _ _ (callWith cpos (.builtin "dict.values") [.ref d] [] []) _ X.xe s1
  refine method_meetsIn F.slot_dict_values F.entry_dict_values rfl (PySem.evalArgs_none ⟨rfl, hdo.typeIs, F.args_dict_values_1 _, _, meets_dict_values (mixKind X.prog X.w) d hs0, ⟨vs, hdo⟩, ?_⟩)
  refine Calls.spliced_nil ?_
  refine PySem.W.kdl_call (PySem.W.kdl_values (knd := mixKind X.prog X.w) (kvs := vs) (ep := ep) (r := s1.heap.objs.size) (d := d) (prog := X.prog) (w := X.w)) (I1.ok.hd hc) ⟨⟨_, Heap.get?_push_size _ rfl, rfl, rfl⟩, hat.push _⟩ (by omega) fun h' tk acc c hk hS hacc => ?_
  have hv2 : acc.toList = vs.map (·.2) := PySem.W.kdl_vals_eq (kvs := vs) acc.toList (by rw [Array.length_toList]; exact hacc.1) fun j v e => hacc.2 j v (by rw [← Array.getElem?_toList]; exact e)
  refine ⟨.ref _, _, I2.laid (t' := tk) (fun b o z => hk b o z) (Nat.le_refl _) ?_, rfl, q _ (I2.hok.fresh (Nat.le_refl _))⟩
  refine ⟨by rw [List.length_map, lk]; omega, acc.toList, c, by rw [hv2]; exact vals_snd kv, ?_⟩
  rw [Array.toArray_toList]
  exact hS
def eLVals (fe : EF) : EF := eThen fe fun x _ μ => match x with
  | .mut k => match μ[k]? with
    | some (.dct _ xs) => some (.mut μ.length, μ ++ [.lst xs])
    | _ => none
  | _ => none
theorem zip_snd {α β : Type} : ∀ {ks : List α} {vs : List β}, ks.length = vs.length → (ks.zip vs).map (·.2) = vs
  | [], [], _ => rfl
  | k :: ks, v :: vs, h => by rw [List.zip_cons_cons, List.map_cons, zip_snd (by simpa using h)]
theorem de_listVals {fe : EF} (hc : X.calm = true) (he : DE X cl e fe) (hg : Gl X "list") (hm : X.mg "list" = none) (hv : bootBuiltins "list" = some (.type "list")) (hbase : attributeBase e "values" X.env (eval e X.env) = eval e X.env := by rfl) (hline : (apos.endLine == cpos.line) = true := by rfl)
    (hs : starEach [.Call (.Attribute e "values" apos) [] [] cpos] X.env = (false, eval (.Call (.Attribute e "values" apos) [] [] cpos) X.env) :: starEach [] X.env := by rfl) :
    DE X cl (.Call (.Name "list" p) [.Call (.Attribute e "values" apos) [] [] cpos] [] pos) (eLVals fe) := ⟨(pe_listVals hc he.p hg hm hv hbase hline hs).weak fun σ H Q ⟨O, ms, F, δ, μ, d, μ', R, ev, k⟩ => by
  obtain ⟨d1, μ1, e1, ev⟩ := eThen_some ev
  refine tE.seq R e1 fun v H1 ms1 F1 R1 s1 q1 => ?_
  split at ev
  · split at ev
    · rename_i ks xs hk
      cases ev
      obtain ⟨a, ws, rfl, hma, ha, hn, hl⟩ := mut_dct R1.hr q1 hk
      refine ⟨a, _, rfl, ha, fun p hp => ?_⟩
      rw [zip_snd hn]
      exact (k.step R1.hr s1).mut R1.hr hl hp
    · cases ev
  · cases ev⟩
end
end G

set_option Elab.async false
set_option linter.all false
set_option autoImplicit false
set_option maxRecDepth 100000
set_option maxHeartbeats 2000000
namespace G
open PySem PySem.Spec PySem.Calls L2
/-! ### own exceptions over any built-in one: what of the built-in is asked -/
/-- its __init__ -/
structure IniF (B initId : String) : Prop where
  slot : Slot B "__init__" initId
  entry : entryFor table initId = some Builtin.«BaseException.__init__»
  split : splitId initId = some (B, "__init__")
  kind : builtinKind initId = some .slot
  row : Manifest.signature? initId = some ⟨.positional, "*", B, .self, [⟨"args", .varPos, false⟩]⟩
  star : (B != "*") = true
theorem iniF_of {B newId initId : String} {bm : List Value} (F : ExcBaseFacts B newId initId bm) : IniF B initId := ⟨F.init, F.initEntry, F.initSplit, F.initKind, F.initRow, F.noStar⟩
theorem iniF_Key : IniF "KeyError" "KeyError.__init__" where
  slot := .of (owner := "KeyError") (n := "__init__") (by rw [typeLookup_type, builtinLookup_eq_fast]; kernel_rfl) (by decide +kernel) (by decide +kernel) (by decide +kernel)
    (by first | exact .inl (by decide +kernel) | exact .inr (by decide +kernel)) (by rw [isSubtype_type]; kernel_rfl)
  entry := entryFor_alias (id' := "BaseException.__init__") (by rw [fastTable_eq_tree]; kernel_rfl) (by first | rfl | decide +kernel) (by decide +kernel) (by rw [fastTable_eq_tree]; kernel_rfl)
  split := by kernel_rfl
  kind := by kernel_rfl
  row := by kernel_rfl
  star := by decide +kernel
/-- B: whose __init__; N: whose __new__; bmB: B's own line -/
structure ExB (B initId N newId nInit : String) (bmN bmB : List Value) : Prop where
  I : IniF B initId
  F : ExcBaseFacts N newId nInit bmN
  pass : ∀ self : Value, refuseLoop self "__setattr__" bmB = pure ()
  obj : bmB.contains (.type "object") = true
  ne : bmB.isEmpty = false
  typ : typeOf (.type B) = pure (.type "type")
  hB : bmB.contains (.type B) = true
  hN : bmB.contains (.type N) = true
  hA : bmB.contains (.type "AttributeError") = false
  hM : bmB.contains (.type "NameError") = false
  pl : Manifest.isStub B = false
  hd : PySem.W.handedIn (.builtin initId) = true
abbrev mroVE : List Value := [.type "ValueError", .type "Exception", .type "BaseException", .type "object"]
abbrev mroLE : List Value := [.type "LookupError", .type "Exception", .type "BaseException", .type "object"]
abbrev mroKE : List Value := [.type "KeyError", .type "LookupError", .type "Exception", .type "BaseException", .type "object"]
theorem exb_Value : ExB "ValueError" "ValueError.__init__" "ValueError" "ValueError.__new__" "ValueError.__init__" mroVE mroVE := ⟨iniF_of PySem.F.excBase_ValueError, PySem.F.excBase_ValueError, fun self => by kernel_rfl, by decide +kernel, rfl, by kernel_rfl, by decide +kernel, by decide +kernel, by decide +kernel, by decide +kernel, by decide +kernel, by decide +kernel⟩
theorem exb_Look : ExB "LookupError" "LookupError.__init__" "LookupError" "LookupError.__new__" "LookupError.__init__" mroLE mroLE := ⟨iniF_of PySem.F.excBase_LookupError, PySem.F.excBase_LookupError, fun self => by kernel_rfl, by decide +kernel, rfl, by kernel_rfl, by decide +kernel, by decide +kernel, by decide +kernel, by decide +kernel, by decide +kernel, by decide +kernel⟩
theorem exb_Key : ExB "KeyError" "KeyError.__init__" "LookupError" "LookupError.__new__" "LookupError.__init__" mroLE mroKE := ⟨iniF_Key, PySem.F.excBase_LookupError, fun self => by kernel_rfl, by decide +kernel, rfl, by kernel_rfl, by decide +kernel, by decide +kernel, by decide +kernel, by decide +kernel, by decide +kernel, by decide +kernel⟩
/-! ### making one: type.__call__, the built-in's __new__, the own __init__ -/
section
open PySem.HandSPX Builtin
variable {prog : Program} {w : World} {A : Around} {E : Value → Shared → Prop} {R : Result → Shared → Prop} {h : Heap} {g : Array GenState} {d : Drawn} {t : Nat} {os : OsState}
variable {nm q : Str} {C N : Addr} {bs bm bmN : List Value} {hdct : Bool} {sn : List Str} {sub : List Value} {ab : Bool} {col : Option Bool} {dd : Option Addr} {k0 k1 k2 k3 k5 : Option Value} {B newId initId nInit : String}
theorem sees_new (F : ExcBaseFacts B newId nInit bmN) (hB : bm.contains (.type B) = true) {rest : List Value} {Q : Unit → Shared → Prop}
    (hC : h.get? C = some (excClassObj nm q C N bs bm hdct sn sub ab col dd k0 k1 k2 k3 k5 newId)) (hq : Q () ⟨h, g, d, t, os⟩) : wpAny (model prog w) A (checkBuiltinCall newId ⟨.ref C :: rest, []⟩) Q E ⟨h, g, d, t, os⟩ := by
  have among : (Value.ref C :: bm).contains (.type B) = true := by rw [List.contains_cons, hB, Bool.or_true]
  have nostar := F.noStar
  simp only [checkBuiltinCall, F.newKind, F.newSplit, F.newRow]
  repeat (first | refine wpAny_loadPart_at hC ?_ | (refine wpAny_isSubtype_exc hC ?_; rw [among]) | refine wpAny_staticBase_exc hC ?_ | refine wpAny_madeBy_exc hC ?_ | simp only [bne_self_eq_false, Bool.false_eq_true, if_false] | wp_step)
  exact hq
theorem sees_init {B : String} (F : IniF B initId) (hB : bm.contains (.type B) = true) {e : Addr} {oe : Obj} {rest : List Value} {Q : Unit → Shared → Prop}
    (hC : h.get? C = some (excClassObj nm q C N bs bm hdct sn sub ab col dd k0 k1 k2 k3 k5 newId)) (he : h.get? e = some oe) (hcls : oe.cls = .ref C) (hq : Q () ⟨h, g, d, t, os⟩) :
    wpAny (model prog w) A (checkBuiltinCall initId ⟨.ref e :: rest, []⟩) Q E ⟨h, g, d, t, os⟩ := by
  have among : (Value.ref C :: bm).contains (.type B) = true := by rw [List.contains_cons, hB, Bool.or_true]
  have nostar := F.star
  simp only [checkBuiltinCall, F.kind, F.split, F.row]
  repeat (first | (with_reducible refine wpAny_loadPart_at he ?_; rw [hcls]) | with_reducible refine wpAny_loadPart_at hC ?_ | (with_reducible refine wpAny_isSubtype_exc hC ?_; rw [among]) | wp_step)
  refine wpAny_onRaise ?_
  rw [show ∀ (a b : String) (n : Nat), Bind.check ⟨.positional, "*", B, .self, [⟨"args", .varPos, false⟩]⟩ a b n (List.map (fun x => x.fst) ({ pos := Value.ref e :: rest } : Args).kw) = pure () from
    fun a b n => check_star_args _ _ _ _ _ _]
  exact wpAny_pure hq
theorem newB (F : ExcBaseFacts B newId nInit bmN) (hB : bm.contains (.type B) = true) (hA : bm.contains (.type "AttributeError") = false) (hM : bm.contains (.type "NameError") = false) {rest : List Value}
    (hC : h.get? C = some (excClassObj nm q C N bs bm hdct sn sub ab col dd k0 k1 k2 k3 k5 newId))
    (hq : R (.ok (.ret (.ref (h.objs.size + 1)))) ⟨(h.push (PySem.W.kdv_tup rest)).push (excO C h.objs.size), g, d, t, os⟩) (hrest : rest.length ≤ sizeLine) :
    codeAny (model prog w) A (.builtin newId ⟨.ref C :: rest, []⟩) R ⟨h, g, d, t, os⟩ := by
  have hends := F.ends
  have in1 : (Value.ref C :: bm).contains (.type B) = true := by rw [List.contains_cons, hB, Bool.or_true]
  have in2 : (Value.ref C :: bm).contains (.type "AttributeError") = false := by rw [List.contains_cons, hA]; rfl
  have in3 : (Value.ref C :: bm).contains (.type "NameError") = false := by rw [List.contains_cons, hM]; rfl
  refine codeAny_builtinAt F.entry ?_
  unfold Builtin.«BaseException.__new__»
  refine wpAt_bind ?_
  show wpAt _ _ _ (stack >>= _) _ _ _
  refine wpAt_bind (wpAt_stack fun p below => wpAt_of_wpAny ?_)
  wp_walk
  refine wpAt_of_wpAny ?_
  rw [F.owner]
  repeat (first | with_reducible refine wpAny_madeHere_exc F.canon hC ?_ | with_reducible refine wpAny_loadPart_at hC ?_ | (with_reducible refine wpAny_isSubtype_exc hC ?_; first | rw [in1] | rw [in2] | rw [in3]) | wp_step)
  show R _ _
  rw [Heap.size_push]
  exact hq
theorem callB (F : ExcBaseFacts B newId nInit bmN) (hB : bm.contains (.type B) = true) (hA : bm.contains (.type "AttributeError") = false) (hM : bm.contains (.type "NameError") = false) {rest : List Value} {fI : Addr}
    (hC : h.get? C = some (excClassObj nm q C N bs bm hdct sn sub ab col dd k0 k1 k2 k3 k5 newId))
    (hi : PySem.W.Looks (model prog w) h (typeLookup (.ref C) "__init__") (some (.ref fI))) (hb : ∀ self, PySem.W.Looks (model prog w) h (bindSpecial (.ref fI) self) (.ref fI, [self])) (hrest : rest.length ≤ sizeLine)
    (hq : codeAny (model prog w) (A.under (.builtin "type.__call__" ⟨.ref C :: rest, []⟩)) (.call (.ref fI) ⟨.ref (h.objs.size + 1) :: rest, []⟩) (PySem.W.InitBack (h.objs.size + 1) R)
      ⟨(h.push (PySem.W.kdv_tup rest)).push (excO C h.objs.size), g, d, t, os⟩) :
    codeAny (model prog w) A (.call (.ref C) ⟨rest, []⟩) R ⟨h, g, d, t, os⟩ := by
  have f1 := tc_lookup
  have f2 := tc_bind (.ref C)
  have hTy : (⟨h, g, d, t, os⟩ : Shared).TypeIs (.ref C) "type" := ⟨_, hC, rfl⟩
  have inner : wpAny (model prog w) (A.under (.builtin "type.__call__" ⟨.ref C :: rest, []⟩)) (Builtin.«type.__call__» ⟨.ref C :: rest, []⟩) (fun fin s' => match fin with
      | .done f => R (.ok f) s'
      | .again c' => c'.quiet = true ∧ codeAny (model prog w) A c' R s') (fun e s' => R (.error e) s') ⟨h, g, d, t, os⟩ := by
    repeat (first | with_reducible refine wpAny_loadPart_at hC ?_ | with_reducible refine wpAny_madeBy_exc hC ?_ | wp_step)
    refine codeAny_call_builtin_code (Code.quiet_builtin _ F.quiet) (sees_new F hB hC ?_)
    refine newB F hB hA hM hC ?_ hrest
    show wpAny _ _ _ _ _ _
    have k : ∀ b o, h.get? b = some o → ((h.push (PySem.W.kdv_tup rest)).push (excO C h.objs.size)).get? b = some o := fun b o e => Heap.get?_push_of_some _ (Heap.get?_push_of_some _ e)
    have cls1 := k _ _ hC
    have made : ((h.push (PySem.W.kdv_tup rest)).push (excO C h.objs.size)).get? (h.objs.size + 1) = some (excO C h.objs.size) := by heap_get
    have self1 : (Value.ref C :: bm).contains (.ref C) = true := by simp
    have i1 := hi.keeps k
    have b1 := (hb (.ref (h.objs.size + 1))).keeps k
    unfold isInstance
    repeat (first | with_reducible refine wpAny_loadPart_at made ?_ | (with_reducible refine wpAny_isSubtype_exc cls1 ?_; rw [self1]) | wp_step)
    show wpAny _ _ (typeLookup (.ref C) _) _ _ _
    refine i1.at ?_
    refine wpAny_holding (wpAny_bind (b1.at ?_))
    refine wpAny_bind (wpAny_call (codeAny_mono hq fun r s' z => ?_))
    rcases r with e | (v | _ | _ | _) <;> first | exact z | exact z.elim | skip
    obtain ⟨rfl, z⟩ := z
    first
      | exact wpAny_pure (wpAny_pure z)
      | (wp_walk; exact z)
  refine codeAny_of_tree ?_
  show wpAny _ _ (callAny (.ref C) _) _ _ _
  repeat (any_goals (first | assumption | with_reducible refine wpAny_loadPart_at hC ?_ | wp_step))
  refine ⟨rfl, ?_⟩
  exact codeAny_call_builtin_at (Code.quiet_builtin _ (by decide +kernel)) entry_typeCall (wpAny_check_type_call_sub hC inner)
open PySem.W PyProof.Rows in
theorem initB_args {B : String} (F : IniF B initId) (hB : bm.contains (.type B) = true) {e t0 : Addr} {rest : List Value}
    (hC : h.get? C = some (excClassObj nm q C N bs bm hdct sn sub ab col dd k0 k1 k2 k3 k5 newId)) (he : h.get? e = some (excO C t0)) (hrest : rest.length ≤ sizeLine)
    (after : ∀ h', (∀ b o, b ≠ e → (h.push (kdv_tup rest)).get? b = some o → h'.get? b = some o) → h'.get? e = some (excO C h.objs.size) → R (.ok (.ret .none)) ⟨h', g, d, t, os⟩) :
    codeAny (model prog w) A (.call (.builtin initId) ⟨.ref e :: rest, []⟩) R ⟨h, g, d, t, os⟩ := by
  refine codeAny_call_builtin F.slot.plain F.entry ?_
  refine sees_init F hB hC he rfl ?_
  wp_walk
  refine after _ (fun b o hb ho => ?_) ?_
  · rw [Heap.get?_update_other _ _ (Ne.symm hb)]
    exact ho
  · rw [Heap.get?_update_self _ (Heap.get?_push_of_some _ he) rfl]
    rfl
end
/-- own classes, then the built-in one's own line -/
def refsB (tail : List Value) : List Value → Bool
  | .ref _ :: r => refsB tail r
  | l => l == tail
theorem refsB_ok {tail : List Value} : ∀ {l : List Value}, refsB tail l = true → ∃ cs : List Addr, l = cs.map Value.ref ++ tail
  | [], e => ⟨[], by simpa [refsB] using e⟩
  | a :: r, e => by
    by_cases h : ∃ c, a = .ref c
    · obtain ⟨c, rfl⟩ := h
      obtain ⟨cs, e2⟩ := refsB_ok (tail := tail) (l := r) (by simpa [refsB] using e)
      exact ⟨c :: cs, by rw [e2]; rfl⟩
    · refine ⟨[], ?_⟩
      cases a <;> first | exact absurd ⟨_, rfl⟩ h | simpa [refsB] using e
theorem tail_pass {tail : List Value} (self : Value) (h : refuseLoop self "__setattr__" tail = pure ()) : ∀ cs : List Addr, refuseLoop self "__setattr__" (cs.map Value.ref ++ tail) = pure ()
  | [] => h
  | c :: cs => by
    rw [List.map_cons, List.cons_append, refuseLoop_ref]
    exact tail_pass self h cs
theorem tail_has {tail : List Value} (Y : String) : ∀ cs : List Addr, (cs.map Value.ref ++ tail).contains (.type Y) = tail.contains (.type Y)
  | [] => rfl
  | c :: cs => by
    rw [List.map_cons, List.cons_append, List.contains_cons, tail_has Y cs]; rfl
theorem tail_ne {tail : List Value} (h : tail.isEmpty = false) : ∀ cs : List Addr, (cs.map Value.ref ++ tail).isEmpty = false
  | [] => h
  | c :: cs => rfl
/-- what the text says of such a class -/
structure OexB (K : PySem.W.Frag) (C : Addr) (newId : String) (bmB : List Value) : Prop where
  cls : ∃ nm q N bs bm sn sub ab col dd k0 k1 k2 k3 k5, K.lookup C = some (excClassObj nm q C N bs bm true sn sub ab col dd k0 k1 k2 k3 k5 newId) ∧ refsB bmB bm = true
  sa : PySem.W.findIn K (.ref C) "__setattr__" = some (some (.builtin "object.__setattr__"))
  exC : PySem.W.subIn K (.ref C) (.type "BaseException") = some true
  tyC : PySem.W.typeIn K (.ref C) = some (.type "type")
  kC : PySem.W.keepIn K (.ref C) = true
section
open Builtin Builtin.ObjectAttr
variable {prog : Program} {w : World} {A : Around} {R : Result → Shared → Prop} {hp : Heap} {g : Array GenState} {d : Drawn} {t : Nat} {os : OsState}
/-- the first field of an exception that has no dict as yet -/
theorem osaB {B initId N newId nInit : String} {bmN bmB : List Value} (EB : ExB B initId N newId nInit bmN bmB) {K : PySem.W.Frag} {name : Str} {tk : Tok} {v : Value} {x C : Addr} {fv : Array Value} {cd : ClassData}
    (X : K.In hp) (hx : hp.get? x = some { cls := .ref C, data := .fields fv }) (hcd : PySem.W.clsIn K C = some cd) (hm : ∃ cs : List Addr, cd.mro = cs.map Value.ref ++ bmB) (hh : cd.hasDict = true) (ha : PySem.W.findIn K (.ref C) name = some none)
    (hq : ∀ h' tk' dx, (∀ b o, b ≠ x → hp.get? b = some o → h'.get? b = some o) → hp.objs.size ≤ dx → dx ≠ x → h'.get? x = some { cls := .ref C, dict := some dx, data := .fields fv } →
      h'.Ns1 dx (fun y => if y = name then some v else none) → R (.ok (.ret .none)) ⟨h', g, d, tk', os⟩) :
    codeAny (model prog w) A (.call (.builtin "object.__setattr__") ⟨[.ref x, .str name tk, v], []⟩) R ⟨hp, g, d, t, os⟩ := by
  obtain ⟨cs, hm⟩ := hm
  have I : PySem.W.InstAt hp x { cls := .ref C, data := .fields fv } C none := ⟨hx, rfl, rfl, trivial⟩
  have ST := PySem.F.store_object
  have hne : cd.mro.isEmpty = false := by rw [hm]; exact tail_ne EB.ne cs
  have hob : cd.mro.contains (.type "object") = true := by rw [hm, tail_has]; exact EB.obj
  have away : x ≠ hp.objs.size := Nat.ne_of_lt (Heap.lt_size hx)
  have isO : PySem.W.Looks (model prog w) hp (isInstance (.ref x) (.type "object")) true := I.type.andThen (PySem.W.looks_mroIn X (by unfold PySem.W.mroIn; rw [hcd, Option.bind_some, if_neg (by rw [hne]; decide), hob]))
  have line : PySem.W.Looks (model prog w) hp (mroOf (.ref C)) cd.mro := (PySem.W.looks_clsIn X hcd).andThen .now
  have noTaker : PySem.W.Looks (model prog w) hp (storeTaker? none) none := .now
  have klass : PySem.W.Looks (model prog w) hp (classData C) cd := PySem.W.looks_clsIn X hcd
  refine codeAny_call_builtin ST.slot.plain ST.entry (@PySem.W.check_slot (model prog w) _ _ ⟨hp, g, d, t, os⟩ "object.__setattr__" "object" "__setattr__" (.ref x) [.str name tk, v] [] _ ST.kind ST.split isO (ST.args (.ref x) (.str name tk) v) ?_)
  rw [PySem.W.osa_eq, refuse_eq]
  refine wpAny_bind (wpAny_bind (I.type.at (wpAny_bind (line.at ?_))))
  rw [hm, tail_pass _ (EB.pass _) cs]
  refine wpAny_pure (wpAny_bind (I.type.at (wpAny_bind ((PySem.W.looks_findIn X ha).at (wpAny_bind (noTaker.at ?_))))))
  show wpAny _ _ (storeInOwnDict (.ref x) (.ref C) (.str name tk) name v false) _ _ _
  obtain ⟨nm, bs, mro, ns, qn, hd, sn, sb, ab, col, del⟩ := cd
  dsimp only at hh
  subst hh
  unfold storeInOwnDict ownDictForStores
  repeat (first | with_reducible refine PySem.HandSPX.store_in_new ?_ ?_ | with_reducible refine wpAny_loadPart_at hx ?_ | with_reducible refine klass.at ?_ | wp_step)
  · exact ⟨_, #[], _, (Heap.get?_update_ne _ _ _ _ away.symm).trans (Heap.get?_push_at rfl rfl), rfl, fun e he => absurd he (by simp), fun _ => rfl⟩
  · intro h' tk' hn' hs
    have there : (hp.push { cls := .type "dict", data := .dict #[] }).get? x = some { cls := .ref C, data := .fields fv } := Heap.get?_push_of_some _ hx
    refine hq h' tk' hp.objs.size (fun b o hb ho => ?_) (Nat.le_refl _) away.symm ?_ hn'
    · exact (hs.2 b (Nat.ne_of_lt (Heap.lt_size ho))).trans ((Heap.get?_update_ne _ _ _ _ hb).trans (Heap.get?_push_of_some _ ho))
    · exact (hs.2 x away).trans (Heap.get?_update_self _ there rfl)
end
section
variable {X : Cx} {pins : List (Addr × Obj)} {σ : L2.St} {H : Hp} {s : Shared} {a C dx t0 : Addr} {f : Str} {y : V} {u : Value} {fs : List (Str × V)} {E : Value → Shared → Prop} {A : Around} {B initId N newId nInit : String} {bmN bmB : List Value}
theorem OexB.has {K : PySem.W.Frag} {bm : List Value} (hbm : refsB bmB bm = true) (Y : String) : bm.contains (.type Y) = bmB.contains (.type Y) := by
  obtain ⟨cs, rfl⟩ := refsB_ok hbm
  exact tail_has Y cs
theorem initB_run (EB : ExB B initId N newId nInit bmN bmB) {us : List Value} {ws : List V} {Q : Value → Shared → Prop} (T : OexB X.K C newId bmB) (I : Inv X pins σ H s) (e : H a = some (exoT a C none t0)) (rv : Vals ws us) (hl : us.length ≤ sizeLine)
    (h : ∀ t s', H t = none → Inv X pins σ (upd (upd H t (.tup ws)) a (exoT a C none t)) s' → Q .none s') :
    wpAny (model X.prog X.w) A (call (.builtin initId) (.ref a :: us)) Q E s := by
  obtain ⟨nm, q, N, bs, bm, sn, sub, ab, col, dd, k0, k1, k2, k3, k5, hC, hbm⟩ := T.cls
  have ho := exoT_at I.hok e
  obtain ⟨hp, g, d, tk, os⟩ := s
  refine wpAny_call (initB_args EB.I ((OexB.has (K := X.K) hbm B).trans EB.hB) (I.kIn _ _ hC) ho hl fun h' k hx => ?_)
  have fresh : H hp.objs.size = none := I.hok.fresh (Nat.le_refl _)
  have wl : ws.length ≤ sizeLine := by rw [rv.length]; exact hl
  have J := I.laid (t' := tk) (a := hp.objs.size) (o := .tup ws) (h' := hp.push (PySem.W.kdv_tup us)) (fun b o q => Heap.get?_push_of_some _ q) (Nat.le_refl _) ⟨wl, us, rv, ⟨_, Heap.get?_push_size _ rfl, rfl, _, rfl⟩⟩
  have ne : a ≠ hp.objs.size := ne_of_none e fresh
  have ha : upd H hp.objs.size (.tup ws) a = some (exoT a C none t0) := by rw [upd_ne ne]; exact e
  have J2 := J.write (t' := tk) (x := a) (e := a) (o := exoT a C none hp.objs.size) (h' := h') (by rw [ha]; exact True.intro) (.inl rfl) k ⟨_, hx⟩ (exoT_ok hx)
  exact h _ _ fresh J2
/-- exc.f = y, the first one -/
theorem setB_run (EB : ExB B initId N newId nInit bmN bmB) {Q : Unit → Shared → Prop} (T : OexB X.K C newId bmB) (I : Inv X pins σ H s) (e : H a = some (exoT a C none t0)) (hno : PySem.W.findIn X.K (.ref C) f = some none) (ry : RelV y u)
    (h : ∀ dx s', H dx = none → dx ≠ a → Inv X pins σ (upd (upd H dx (exd dx [(f, y)])) a (exoT a C (some dx) t0)) s' → Q () s') : wpAny (model X.prog X.w) A (setAttr (.ref a) f u) Q E s := by
  obtain ⟨nm, q, N, bs, bm, sn, sub, ab, col, dd, k0, k1, k2, k3, k5, hC, hbm⟩ := T.cls
  have look : PySem.W.clsIn X.K C = some { name := nm, bases := bs, mro := .ref C :: bm, ns := N, qualname := q, hasDict := true, slotNames := sn, subclasses := sub, abstract := ab, collection := col, hasDel := false } := by
    unfold PySem.W.clsIn
    rw [hC] <;> rfl
  have ho := exoT_at I.hok e
  obtain ⟨cs, ecs⟩ := refsB_ok hbm
  obtain ⟨hp, g, d, tk, os⟩ := s
  refine PySem.W.set_plain I.kIn (ox := excObj C none t0) (od := none) ⟨ho, rfl, rfl, trivial⟩ T.sa ?_
  refine osaB EB I.kIn ho look ⟨C :: cs, by show Value.ref C :: bm = _; rw [ecs]; rfl⟩ rfl hno ?_
  intro h' tk' dx keep dn dne hx hn
  have fresh : H dx = none := I.hok.fresh dn
  have young : ∀ {b : Addr} {ob : Obj}, hp.get? b = some ob → b ≠ dx := fun {b ob} z => Nat.ne_of_lt (Nat.lt_of_lt_of_le (Heap.lt_size z) dn)
  have other : ∀ {b : Addr}, H b = none → b ≠ a := fun {b} z w => by
    rw [w, e] at z
    exact nomatch z
  have notIt : ∀ {b : Addr} {o : HO}, H b = some o → (∀ φ, o ≠ .ext φ) → b ≠ a := fun {b o} z w v => by
    subst v
    rw [e] at z
    exact w _ (Option.some.inj z).symm
  have same : ∀ {b : Addr}, b ≠ a → b ≠ dx → upd (upd H dx (exd dx [(f, y)])) a (exoT a C (some dx) t0) b = H b := fun {b} z w => by rw [upd_ne z, upd_ne w]
  have un : Un X.fs [] H (upd (upd H dx (exd dx [(f, y)])) a (exoT a C (some dx) t0)) hp h' := by
    refine ⟨fun b ob z n _ _ => keep b ob (other n) z, fun b ob z n _ _ => ⟨ob.slots, keep b ob (other n) z⟩, fun b ob z n _ => ?_, fun b ob z _ => ?_, fun b xs z => ?_, fun b ob v z => ?_, fun b ps z => ⟨#[], ?_⟩⟩
    · rw [same (other n) (young z)]
      exact n
    · by_cases hb : b = a
      · subst hb
        exact ⟨_, hx⟩
      · exact ⟨ob, keep b ob hb z⟩
    · rw [same (notIt z fun φ w => nomatch w) (ne_of_none z fresh)]
      exact z
    · rw [same (notIt z fun φ w => nomatch w) (ne_of_none z fresh)]
      exact z
    · rw [same (notIt z fun φ w => nomatch w) (ne_of_none z fresh), z]
      simp
  refine h dx _ fresh dne (I.un (t' := tk') un ?_)
  intro b o z
  by_cases hb : b = a
  · subst hb
    rw [upd_same] at z
    cases z
    exact exoT_ok hx
  · rw [upd_ne hb] at z
    by_cases hd : b = dx
    · subst hd
      rw [upd_same] at z
      cases z
      exact exd_ok hn (relO_put (fs := []) ry fun _ => True.intro)
    · rw [upd_ne hd] at z
      have ownNe : ∀ {c : Addr}, H c = some (.own b) → c ≠ a := fun {c} w => notIt w fun φ v => nomatch v
      refine (I.hok b o z).stay (fun c v hc w => keep c v ?_ w) (fun c hc => ?_) fun c xs hc => ?_
      · rcases hc with rfl | hc
        · exact hb
        · exact ownNe hc
      · rw [same (ownNe hc) (ne_of_none hc fresh)]
        exact hc
      · rw [same (notIt hc fun φ v => nomatch v) (ne_of_none hc fresh)]
        exact hc
end
/-! the two __init__ -/
def tBeT (K : PySem.W.Frag) (newId : String) (bmB : List Value) (ta : TA) : TE := fun σ H Q => ta σ H fun vs H1 => ∃ (a C t0 : Addr) (ws : List V), vs = .ref a :: ws ∧ ws.length ≤ 1000 ∧ OexB K C newId bmB ∧ H1 a = some (exoT a C none t0) ∧ ∀ t, H1 t = none → Q .non (upd (upd H1 t (.tup ws)) a (exoT a C none t))
def tSetB (K : PySem.W.Frag) (newId : String) (bmB : List Value) (f : Str) (to te : TE) : TS := fun D σ H => te σ H fun y H1 => to σ H1 fun x H2 => ∃ a C t0 : Addr, x = .ref a ∧ OexB K C newId bmB ∧ PySem.W.findIn K (.ref C) f = some none ∧ H2 a = some (exoT a C none t0) ∧
  ∀ dx, H2 dx = none → dx ≠ a → D.nx σ (upd (upd H2 dx (exd dx [(f, y)])) a (exoT a C (some dx) t0))
section
variable {X : Cx} {o e : Expr} {es : List Expr} {to te : TE} {ta : TA} {f : Str} {p p' p1 p2 pos : Pos} {B initId N newId nInit : String} {bmN bmB : List Value}
theorem pe_beT (EB : ExB B initId N newId nInit bmN bmB) {nm : Str} {pl : Sem Bool} (hg : Gl X nm) (hm : X.mg nm = none) (hv : bootBuiltins nm = some (.type B)) (vV : PySem.W.findCls X.K (.type B) (.type "type") "__init__" = some (.val (.builtin initId))) (ha : PA X (e :: es) ta)
    (h1 : nm ≠ "__name__" := by decide) (h2 : (nm == ("__debug__" : Str)) = false := by decide)
    (hc : eval (.Call (.Attribute (.Name nm p1) "__init__" p2) (e :: es) [] pos) X.env = (do
      let ov ← eval (.Name nm p1) X.env
      standAt p2.atName
      let (f, first) ← holding [ov] (getMethod ov "__init__" pl)
      callWith pos f first (backTo pos (starEach (e :: es) X.env)) (backToKw pos (keywordEach [] X.env))) := by rfl)
    (he : starEach (e :: es) X.env = (false, eval e X.env) :: starEach es X.env := by rfl) (hpl : (backTo pos (starEach es X.env)).any (·.1) = false := by rfl) :
    PE X (.Call (.Attribute (.Name nm p1) "__init__" p2) (e :: es) [] pos) (tBeT X.K newId bmB ta) := by
  constructor
  intro pins s σ H Q I h
  refine PySem.W.methodCall_KW (ld_blt I hg hm hv ?_ h1 h2) hc
  obtain ⟨m, fr⟩ := I.fr
  refine PySem.W.method_type fr I.ok.mod.kin EB.typ EB.pl vV EB.hd ?_
  refine PyProof.Rows.callWith_method1 (thn (ha.run pos pins _ σ H _ (I.tok _) h) ?_) he hpl
  rintro us s1 ⟨vs, H1, I1, r1, a, C, t0, ws, rfl, hl, T, ea, q⟩
  cases r1 with
  | @cons _ u0 _ ur ra rw' =>
    obtain rfl : u0 = Value.ref a := ra
    refine initB_run EB T I1 ea rw' (by rw [← rw'.length, sizeLine_eq]; omega) fun t s' ht J => ?_
    exact ⟨.non, _, J, rfl, q t ht⟩
theorem ps_setB (EB : ExB B initId N newId nInit bmN bmB) (ho : PE X o to) (he : PE X e te) (hs : swapsWith e (some (.Attribute o f p')) pos.line X.env = pure false := by rfl) : PS X (.Assign [.Attribute o f p'] e pos) (tSetB X.K newId bmB f to te) := by
  constructor
  intro pins s σ H D I h
  refine plainObj_wpAny_Assign_Attribute (thn (he.run pins s σ H _ I h) ?_) hs
  rintro v s1 ⟨y, H1, I1, r1, q1⟩
  refine thn (ho.run pins s1 σ H1 _ I1 q1) ?_
  rintro u s2 ⟨x, H2, I2, r2, a, C, t0, rfl, T, hno, ea, q⟩
  obtain rfl : u = Value.ref a := r2
  exact setB_run EB T I2 ea hno r1 fun dx s' n ne J => ⟨σ, _, J, q dx n ne⟩
end
section
variable {P : Program} {w : World} {K : PySem.W.Frag} {mg : Str → Option Value} {base : Heap} {cl : Nat → Addr} {newId : String} {bmB : List Value}
/-- the base's __init__: the exception's args are the one text -/
def spB (K : PySem.W.Frag) (newId : String) (bmB : List Value) : Sp := fun vs H Q _ => ∃ (a C t0 : Addr) (m : Str), vs = [.ref a, .str m] ∧ OexB K C newId bmB ∧ H a = some (exoT a C none t0) ∧ ∀ t, H t = none → Q .non (upd (upd H t (.tup [.str m])) a (exoT a C none t))
abbrev tBe (K : PySem.W.Frag) (newId : String) (bmB : List Value) : TE := tBeT K newId bmB (tCons (tVar 0) (tCons (tVar 1) tNil))
theorem initB_ok {x qual : Str} {st : Stmt} {f : Addr} {fd : FuncData} {N ps : List Str} (F : Fun K x qual st f fd) (S : FnScope N ps (defScope st)) (hn : ps.length = 2) (hN : N.length = 2)
    (hB : ∀ (cdv : Value) (A : Around) (outer : List Env) (s : Shared) (H : Hp), PSs (cxOf CX0 P w K mg base N qual (defScope st) f cdv A outer s H E0).nox (defBody st) (tDrop (tBe K newId bmB))) : FnG P w K mg base 1 f fd 2 ps (spB K newId bmB) := by
  refine fnG_of F S hn (fun vs H Q E h => by obtain ⟨_, _, _, _, rfl, _⟩ := h; rfl) fun cdv A outer s H vs Q hg hr h => ⟨_, hB cdv A outer s H, ?_⟩
  obtain ⟨a, C, t0, m, rfl, T, ha, q⟩ := h
  have e : L2.start N [V.ref a, .str m] = [some (.ref a), some (.str m)] := by unfold L2.start; rw [hN]; rfl
  rw [e]
  refine ⟨.ref a, rfl, .str m, rfl, ?_⟩
  exact ⟨a, C, t0, [.str m], rfl, (show 1 ≤ 1000 by decide), T, ha, fun t ht => q t ht⟩
abbrev tIb (K : PySem.W.Frag) (newId : String) (bmB : List Value) (CB : Addr) (msg f : Str) : TS := tSeq (tDrop (fun σ H Q => tC (.ref CB) σ H fun x H1 => x = .ref CB ∧ tCons (tVar 0) (tCons (tC (.str msg)) tNil) σ H1 fun vs H2 => spB K newId bmB vs H2 Q E0)) (tSetB K newId bmB f (tVar 0) (tVar 1))
theorem initBX_ok {x qual msg fl : Str} {st : Stmt} {f CB C : Addr} {fd : FuncData} {N ps : List Str} {k : Nat} (F : Fun K x qual st f fd) (S : FnScope N ps (defScope st)) (hn : ps.length = 2) (hN : N.length = 2) (T : OexB K C newId bmB) (hno : PySem.W.findIn K (.ref C) fl = some none)
    (hB : ∀ (cdv : Value) (A : Around) (outer : List Env) (s : Shared) (H : Hp), (A.deeper (PyProof.Rows.envOfC qual (defScope st) s.heap.objs.size f cdv)).guards = some [] → Room k (A.deeper (PyProof.Rows.envOfC qual (defScope st) s.heap.objs.size f cdv)) →
      PSs (cxOf CX0 P w K mg base N qual (defScope st) f cdv A outer s H E0).nox (defBody st) (tIb K newId bmB CB msg fl)) : FnG P w K mg base (k + 1) f fd 2 ps (spX C fl msg) := by
  refine fnG_of F S hn (fun vs H Q E h => by obtain ⟨_, _, _, rfl, _⟩ := h; rfl) fun cdv A outer s H vs Q hg hr h => ⟨_, hB cdv A outer s H hg hr, ?_⟩
  obtain ⟨a, y, t0, rfl, ha, q⟩ := h
  have e : L2.start N [V.ref a, y] = [some (.ref a), some y] := by unfold L2.start; rw [hN]; rfl
  rw [e]
  refine ⟨rfl, .ref a, rfl, a, C, t0, msg, rfl, T, ha, fun t ht => ?_⟩
  refine ⟨y, rfl, .ref a, rfl, a, C, t, rfl, T, hno, upd_same, fun dx hdx hne => ?_⟩
  have nd : dx ≠ t := fun z => by
    subst z
    rw [upd_ne hne, upd_same] at hdx
    exact nomatch hdx
  have hdx' : H dx = none := by
    rw [upd_ne hne, upd_ne nd] at hdx
    exact hdx
  have z := q t dx ht hdx' (Ne.symm nd)
  have eq : upd (upd (upd (upd H t (.tup [.str msg])) a (exoT a C none t)) dx (exd dx [(fl, y)])) a (exoT a C (some dx) t) = upd (upd (upd H t (.tup [.str msg])) dx (exd dx [(fl, y)])) a (exoT a C (some dx) t) := by
    funext b
    by_cases h1 : b = a
    · rw [h1, upd_same, upd_same]
    · rw [upd_ne h1, upd_ne h1]
      unfold upd
      simp only [h1, if_false]
  rw [eq]
  exact z
end
section
variable {X : Cx} {e : Expr} {ta : TA} {f x : Str} {msg : Str} {p pos : Pos} {C fI : Addr} {k : Nat} {fd : FuncData} {ps : List Str} {B initId N newId nInit : String} {bmN bmB : List Value}
theorem pe_excB (EB : ExB B initId N newId nInit bmN bmB) (T : OexB X.K C newId bmB) (iC : PySem.W.findIn X.K (.ref C) "__init__" = some (some (.ref fI))) (tI : PySem.W.typeIn X.K (.ref fI) = some (.type "function"))
    (Gf : FnG X.prog X.w X.K X.mg X.base k fI fd 2 ps (spX C f msg)) (hgd : X.A.guards = some []) (hr : Room (k + 1) X.A) (hb : Binds X.K fd ps []) (hg : Gl X x) (hm : X.mg x = some (.ref C)) (ha : PA X [e] ta)
    (hdb : (x == ("__debug__" : Str)) = false := by decide) (he : starEach (e :: []) X.env = (false, eval e X.env) :: starEach [] X.env := by rfl) (hpl : (backTo pos (starEach [] X.env)).any (·.1) = false := by rfl) :
    PE X (.Call (.Name x p) [e] [] pos) (tExc C f msg ta) := by
  constructor
  intro pins s σ H Q I h
  obtain ⟨nm, q, N', bs, bm, sn, sub, ab, col, dd, k0, k1, k2, k3, k5, hC, hbm⟩ := T.cls
  refine wpAny_Call_Name_kw (ld_glob I hg hm ?_ hdb)
  refine PySem.W.callWith_K (h₀ := X.base) I.ok.mod.kin T.kC (thn (ha.run pos pins s σ H _ I h) ?_) he hpl
  rintro us s1 ⟨vs, H1, I1, r1, y, rfl, q1⟩
  refine ⟨I1.kIn, ?_⟩
  show wpAny _ _ (call (.ref C) us) _ _ _
  obtain ⟨hp, g, dr, tk, os⟩ := s1
  obtain ⟨u, rfl, ry⟩ := vals1 r1
  have f1 : H1 (hp.objs.size + 1) = none := I1.hok.fresh (Nat.le_succ _)
  have keep : ∀ b o, hp.get? b = some o → ((hp.push (PySem.W.kdv_tup [u])).push (PySem.HandSPX.excO C hp.objs.size)).get? b = some o :=
    fun b o z => Heap.get?_push_of_some _ (Heap.get?_push_of_some _ z)
  have it : ((hp.push (PySem.W.kdv_tup [u])).push (PySem.HandSPX.excO C hp.objs.size)).get? (hp.objs.size + 1) = some (excObj C none hp.objs.size) := by heap_get
  have I2 := I1.laid (t' := tk) (a := hp.objs.size + 1) (o := exoT (hp.objs.size + 1) C none hp.objs.size) (h' := (hp.push (PySem.W.kdv_tup [u])).push (PySem.HandSPX.excO C hp.objs.size)) keep (Nat.le_succ _) (exoT_ok it)
  have spq : spX C f msg [.ref (hp.objs.size + 1), y] (upd H1 (hp.objs.size + 1) (exoT (hp.objs.size + 1) C none hp.objs.size)) (fun v H2 => v = .non ∧ Q (.ref (hp.objs.size + 1)) H2) E0 := by
    refine ⟨_, _, _, rfl, upd_same, fun t dx ht hdx ne => ⟨rfl, ?_⟩⟩
    have nt : t ≠ hp.objs.size + 1 := fun z => by rw [z, upd_same] at ht; exact nomatch ht
    have nd : dx ≠ hp.objs.size + 1 := fun z => by rw [z, upd_same] at hdx; exact nomatch hdx
    rw [upd_ne nt] at ht
    rw [upd_ne nd] at hdx
    have z := q1 (hp.objs.size + 1) t dx f1 ht hdx nt nd ne
    have eq : upd (upd (upd (upd H1 (hp.objs.size + 1) (exoT (hp.objs.size + 1) C none hp.objs.size)) t (.tup [.str msg])) dx (exd dx [(f, y)])) (hp.objs.size + 1) (exoT (hp.objs.size + 1) C (some dx) t) =
        upd (upd (upd H1 t (.tup [.str msg])) dx (exd dx [(f, y)])) (hp.objs.size + 1) (exoT (hp.objs.size + 1) C (some dx) t) := by
      funext b
      by_cases h1 : b = hp.objs.size + 1
      · rw [h1, upd_same, upd_same]
      · rw [upd_ne h1, upd_ne h1]
        unfold upd
        simp only [h1, if_false]
    rw [eq]
    exact z
  have r2 : Vals [V.ref (hp.objs.size + 1), y] [Value.ref (hp.objs.size + 1), u] := .cons rfl (.cons ry .nil)
  have one : [u].length ≤ sizeLine := by rw [sizeLine_eq]; exact (by decide : 1 ≤ 16777216)
  have has := fun Y => OexB.has (K := X.K) hbm Y
  refine wpAny_call (callB EB.F ((has _).trans EB.hN) ((has _).trans EB.hA) ((has _).trans EB.hM) (I1.kIn _ _ hC) (PySem.W.looks_findIn I1.kIn iC) (fun self => PySem.W.bind_fn I1.kIn self tI) one ?_)
  have bnd := hb ⟨(hp.push (PySem.W.kdv_tup [u])).push (PySem.HandSPX.excO C hp.objs.size), g, dr, tk, os⟩ [Value.ref (hp.objs.size + 1), u] I2.kIn (by rw [Gf.pl]; rfl)
  rw [List.append_nil] at bnd
  refine codeAny_mono (Gf.go (make_guards hgd) (hr.make C [u] []) (I2.env0.make C [u] []) bnd r2 spq) ?_
  intro r s' hq
  cases r with
  | error _ => exact (show False from hq).elim
  | ok fl =>
    cases fl with
    | ret v =>
      obtain ⟨w, H2, I3, rv, rfl, q3⟩ := I2.after hq
      exact ⟨rv, ⟨V.ref (hp.objs.size + 1), H2, I3, rfl, q3⟩⟩
    | next => exact (show False from hq).elim
    | brk => exact (show False from hq).elim
    | cont => exact (show False from hq).elim
end
/-- an own exception with one field, over any built-in one, behind its family's __init__ -/
structure HasXB (P : Program) (w : World) (K : PySem.W.Frag) (mg : Str → Option Value) (base : Heap) (cl : Nat → Addr) (C : Nat) (x fl msg : Str) where
  B : String
  initId : String
  N : String
  newId : String
  nInit : String
  bmN : List Value
  bmB : List Value
  eb : ExB B initId N newId nInit bmN bmB
  f : Addr
  fd : FuncData
  oex : OexB K (cl C) newId bmB
  ini : PySem.W.findIn K (.ref (cl C)) "__init__" = some (some (.ref f))
  ti : PySem.W.typeIn K (.ref f) = some (.type "function")
  ps : List Str
  ok : FnG P w K mg base 2 f fd 2 ps (spX (cl C) fl msg)
  bd : Binds K fd ps []
  mg : mg x = some (.ref (cl C))
section
variable {X : Cx} {cl : Nat → Addr} {e : Expr} {r : AF} {pos pos' p : Pos} {x fl f msg : Str} {C : Nat} {ta : TA} {newId : String} {bmB : List Value}
theorem de_excB (T : HasXB X.prog X.w X.K X.mg X.base cl C x fl msg) (hgd : X.A.guards = some []) (hr : Room 3 X.A) (hg : Gl X x) (ha : DA X cl [e] r)
    (hdb : (x == ("__debug__" : Str)) = false := by decide) (he : starEach (e :: []) X.env = (false, eval e X.env) :: starEach [] X.env := by rfl) (hpl : (backTo pos (starEach [] X.env)).any (·.1) = false := by rfl) :
    DE X cl (.Call (.Name x p) [e] [] pos) (eExc C fl msg r) := de_exc (pe_excB T.eb T.oex T.ini T.ti T.ok hgd hr T.bd hg T.mg ha.p hdb he hpl)
theorem pmk_excB {C : Addr} (hx : X.ex = []) (T : OexB X.K C newId bmB) (he : PE X e (tExc C f msg ta)) :
    L2N.PMk X e (fun σ H Q => tExc C f msg ta σ H fun v H2 => ∃ a dx t, v = .ref a ∧ H2 a = some (exoT a C (some dx) t) ∧ Fr0 X.H_0 a ∧ Q (.ref C) (some dx) (delH H2 a)) := by
  intro pins s σ H Q I h
  refine wpAny_mono (he.run pins s σ H _ I h) (fun u s1 hu => ?_) fun _ _ x => x
  obtain ⟨v, H1, I1, r1, a, dx, t, rfl, ha, h0, q⟩ := hu
  cases r1
  have ho := exoT_at I1.hok ha
  obtain ⟨G, gs, ga, J⟩ := I1.untrack ha h0 hx
  exact ⟨a, _, _, { s1 with heap := G }, delH H1 a, .ref C, some dx, rfl, J, gs, ga, ho, ⟨rfl, rfl, fun vs e => by cases e; rfl⟩, rfl, rfl, delH_same, rfl, I1.bare, raises_own T.exC T.tyC, q⟩
theorem ds_raiseB (T : HasXB X.prog X.w X.K X.mg X.base cl C x fl msg) (hgd : X.A.guards = some []) (hr : Room 3 X.A) (hx : X.ex = []) (hc : X.calm = true) (hg : Gl X x) (ha : DA X cl [e] r)
    (hdb : (x == ("__debug__" : Str)) = false := by decide) (he : starEach (e :: []) X.env = (false, eval e X.env) :: starEach [] X.env := by rfl) (hpl : (backTo pos' (starEach [] X.env)).any (·.1) = false := by rfl) :
    DS X cl (.Raise (some (.Call (.Name x p) [e] [] pos')) none pos) (bRaise C fl msg r) :=
  ⟨(L2N.ps_raise hc takesW (pmk_excB hx T.oex (pe_excB T.eb T.oex T.ini T.ti T.ok hgd hr T.bd hg T.mg ha.p hdb he hpl))).weak fun D σ H ⟨O, ms, F, δ, μ, o, R, ev, hO, kk⟩ => by
  unfold bRaise at ev
  split at ev
  · rename_i d μ1 e1
    cases ev
    refine ⟨O, ms, F, δ, μ, [d], μ1, R, e1, fun vs H1 ms1 F1 r1 s1 q1 => ?_⟩
    obtain ⟨y, rfl, hy⟩ := q1.one'
    have R1 := R.step r1 s1
    refine ⟨y, rfl, fun a t dx ha ht hdx nt nd ntd => ?_⟩
    obtain ⟨r2, s2⟩ := r1.alloc ht (.tup [.str msg])
    have hdx2 : upd H1 t (.tup [.str msg]) dx = none := by rw [upd_ne (Ne.symm ntd)]; exact hdx
    obtain ⟨r3, s3⟩ := r2.alloc hdx2 (exd dx [(fl, y)])
    have ha3 : upd (upd H1 t (.tup [.str msg])) dx (exd dx [(fl, y)]) a = none := by rw [upd_ne (Ne.symm nd), upd_ne (Ne.symm nt)]; exact ha
    refine ⟨a, dx, t, rfl, upd_same, fr0_none ?_, ?_⟩
    · have := R1.young ha
      rw [hO] at this
      exact this
    · rw [delH_new ha3]
      exact kk σ _ ms1 _ dx y (R1.step r3 (s2.trans' r2 s3)) ((s1.trans' r1 s2).trans' r2 s3).ext upd_same ((hy.step s2).step s3)
  · cases ev⟩
end
end G

set_option Elab.async false
set_option linter.all false
set_option autoImplicit false
set_option maxRecDepth 100000
set_option maxHeartbeats 2000000
namespace G
open PySem PySem.Spec PySem.Calls L2
section
variable {X : Cx} {cl : Nat → Addr} {o e : Expr} {es : List Expr} {pos apos p : Pos} {fo : EF} {k n : Nat} {f C : Addr} {fd : FuncData} {ps : List Str} {fn : XF} {x m : Str} {g g2 : RF} {ta : TE} {t : TA}
/-! ### an argument of a method raises -/
theorem pe_methGen {sp : Sp} {pl : Sem Bool} (he : PE X o ta) (c : Cls X.K C) (hm : Meth X.K C m f) (Gf : FnX X.prog X.w X.K X.mg X.base k f fd n ps sp) (hgd : X.A.guards = some []) (hr : Room k X.A) (hb : Binds X.K fd ps []) (ha : PA X (e :: es) t)
    (hst : starEach (e :: es) X.env = (false, eval e X.env) :: starEach es X.env := by rfl) (hpl : (backTo pos (starEach es X.env)).any (·.1) = false := by rfl)
    (ht : eval (.Call (.Attribute o m apos) (e :: es) [] pos) X.env = (do
      let ov ← eval o X.env
      standAt apos.atName
      let (f, first) ← holding [ov] (getMethod ov m pl)
      callWith pos f first (backTo pos (starEach (e :: es) X.env)) (backToKw pos (keywordEach [] X.env))) := by rfl) :
    PE X (.Call (.Attribute o m apos) (e :: es) [] pos) (fun σ H Q => ta σ H fun x H1 => ∃ a dx fs, x = .ref a ∧ H1 a = some (.ins C dx fs) ∧ fs.lookup m = none ∧ t σ H1 fun vs H2 => sp (x :: vs) H2 Q (WE (W0 X).1 σ)) := by
  refine ⟨fun pins s σ H Q I h => ?_⟩
  refine PySem.W.methodCall_KW (pl := pl) (thn (he.run pins s σ H _ I h) fun u s1 ⟨x, H1, I1, rx, a, dx, fs, ex, ea, l, q⟩ => ?_) ht
  subst ex
  obtain rfl : u = Value.ref a := rx
  refine getmeth_ok I1 ea c hm l ?_
  refine PySem.W.callWith_K (first := [.ref a]) (h₀ := X.base) I.ok.mod.kin hm.kp (thn (ha.run pos pins s1 σ H1 _ I1 q) fun us s2 ⟨vs, H2, I2, r, q2⟩ => ⟨I2.kIn, ?_⟩) hst hpl
  exact runFX (us := .ref a :: us) (vs := .ref a :: vs) Gf hgd hr hb I2 (.cons rfl r) q2
def rMethA (C : Nat) (m : Str) (fo : EF) (g : RF) : RF := fun δ μ => match fo δ μ with
  | some (.mut j, μ1) => match μ1[j]? with
    | some (.ins C' ns _) => if C' = C ∧ m ∉ ns then g δ μ1 else none
    | _ => none
  | _ => none
theorem dr_methA {Cn : Nat} {pl : Sem Bool} (T : HasM X.prog X.w X.K X.mg X.base cl k Cn m n ps fn) (he : DE X cl o fo) (hgd : X.A.guards = some []) (hr : Room k X.A) (ha : DRA X cl (e :: es) g)
    (hst : starEach (e :: es) X.env = (false, eval e X.env) :: starEach es X.env := by rfl) (hpl : (backTo pos (starEach es X.env)).any (·.1) = false := by rfl)
    (ht : eval (.Call (.Attribute o m apos) (e :: es) [] pos) X.env = (do
      let ov ← eval o X.env
      standAt apos.atName
      let (f, first) ← holding [ov] (getMethod ov m pl)
      callWith pos f first (backTo pos (starEach (e :: es) X.env)) (backToKw pos (keywordEach [] X.env))) := by rfl) :
    DR X cl (.Call (.Attribute o m apos) (e :: es) [] pos) (rMethA Cn m fo g) := ⟨(pe_methGen he.p T.cls T.mt T.ok hgd hr T.bd ha.p hst hpl ht).weak fun σ H Q ⟨O, ms, F, δ, μ, C, f', msg, d, μ2, R, ev, hO, kk⟩ => by
  unfold rMethA at ev
  split at ev
  · rename_i j μ1 e1
    split at ev
    · rename_i C' ns xs hk
      split at ev
      · rename_i hz
        obtain ⟨rfl, hm⟩ := hz
        refine tE.seq R e1 fun v H1 ms1 F1 R1 s1 q1 => ?_
        obtain ⟨a, dx, vs, rfl, hma, ha, hn, hl⟩ := mut_ins R1.hr q1 hk
        refine ⟨a, dx, _, rfl, ha, lookup_no hm, ?_⟩
        exact ⟨O, ms1, F1, δ, μ1, C, f', msg, d, μ2, R1, ev, hO, fun H' ms' F' dx y R' s' hd hy => kk H' ms' F' dx y R' (s1.trans' R1.hr s') hd hy⟩
      · cases ev
    · cases ev
  · cases ev⟩
/-- the one raises, or the other -/
def rOr (g g2 : RF) : RF := fun δ μ => match g δ μ with
  | some r => some r
  | none => g2 δ μ
theorem dr_or (h : DR X cl e g) (h2 : DR X cl e g2) : DR X cl e (rOr g g2) := ⟨⟨fun pins s σ H Q I ⟨O, ms, F, δ, μ, C, f', msg, d, μ2, R, ev, hO, kk⟩ => by
  unfold rOr at ev
  split at ev
  · rename_i r e1
    exact h.p.run pins s σ H Q I ⟨O, ms, F, δ, μ, C, f', msg, d, μ2, R, e1.trans ev, hO, kk⟩
  · exact h2.p.run pins s σ H Q I ⟨O, ms, F, δ, μ, C, f', msg, d, μ2, R, ev, hO, kk⟩⟩⟩
end
/-! ### {'k': e, ..}: a new dict that may change -/
section
variable {X : Cx} {cl : Nat → Addr} {e : Expr} {fe : EF} {pos kp : Pos}
/-- the pairs of a display with written texts as keys -/
inductive DPs (X : Cx) (cl : Nat → Addr) (pos : Pos) : List (Option Expr) → List Expr → List Str → AF → List (TE × TE) → Prop where
  | nil : DPs X cl pos [] [] [] aNil []
  | cons {x : Str} {j : _} {kp : Pos} {e : Expr} {fe : EF} {ks : List (Option Expr)} {vs : List Expr} {xs : List Str} {r : AF} {trs : List (TE × TE)} : DE X cl e fe → DPs X cl pos ks vs xs r trs →
      DPs X cl pos (some (.Constant (.str x) j kp) :: ks) (e :: vs) (x :: xs) (aCons fe r) ((tC (.str x), tE (gm X cl) fe) :: trs)
theorem DPs.pps {ks : List (Option Expr)} {vs : List Expr} {xs : List Str} {r : AF} {trs : List (TE × TE)} (h : DPs X cl pos ks vs xs r trs) : PPs X pos ks vs trs := by
  induction h with
  | nil => exact pps_nil
  | cons he _ ih => exact pps_cons pe_str he.p ih
theorem DPs.len {ks : List (Option Expr)} {vs : List Expr} {xs : List Str} {r : AF} {trs : List (TE × TE)} (h : DPs X cl pos ks vs xs r trs) : ks.length = xs.length ∧ vs.length = xs.length ∧ ks.all (·.isSome) = true := by
  induction h with
  | nil => exact ⟨rfl, rfl, rfl⟩
  | cons _ _ ih => exact ⟨by simp [ih.1], by simp [ih.2.1], by simpa using ih.2.2⟩
theorem DPs.run {ks : List (Option Expr)} {vs : List Expr} {xs : List Str} {r : AF} {trs : List (TE × TE)} (h : DPs X cl pos ks vs xs r trs) : ∀ {O : Og} {ms : List Addr} {F H : Hp} {σ : L2.St} {δ : List SV} {μ μ1 : List MO} {ds : List D} {Q : List (V × V) → Hp → Prop}, SR (gm X cl) O ms F H σ δ μ → r δ μ = some (ds, μ1) →
    (∀ us H1 ms1 F1, SR (gm X cl) O ms1 F1 H1 σ δ μ1 → Stp ms ms1 F F1 H H1 → HasL (gm X cl) ms1 F1 us ds → us.length = xs.length → Q ((xs.zip us).map fun p => (V.str p.1, p.2)) H1) → tPairs trs σ H Q := by
  induction h with
  | nil =>
    intro O ms F H σ δ μ μ1 ds Q R e k
    cases e
    exact k [] H ms F R (Stp.refl _ _ _) rfl rfl
  | @cons x j kp e0 fe ks vs xs r trs he hr ih =>
    intro O ms F H σ δ μ μ1 ds Q R e k
    obtain ⟨d, μ2, e1, e⟩ := eThen_some e
    split at e
    · rename_i ys μ3 e2
      cases e
      show tE (gm X cl) fe σ H _
      refine tE.seq R e1 fun v H1 ms1 F1 R1 s1 q1 => ih R1 e2 fun us H2 ms2 F2 R2 s2 q2 hl => ?_
      exact k (v :: us) H2 ms2 F2 R2 (s1.trans' R1.hr s2) ⟨_, _, rfl, q1.step s2, q2⟩ (by simp [hl])
    · cases e
def eDctMs (xs : List Str) (r : AF) : EF := fun δ μ => match r δ μ with
  | some (ds, μ1) => if ds.length = xs.length then some (.mut μ1.length, μ1 ++ [.dct (mergeD [] [] (xs.map Sum.inr) ds).1 (mergeD [] [] (xs.map Sum.inr) ds).2]) else none
  | none => none
theorem de_dctMs {ks : List (Option Expr)} {vs : List Expr} {xs : List Str} {r : AF} {trs : List (TE × TE)} (h : DPs X cl pos ks vs xs r trs) (h0 : ks ≠ [] := by simp) (h15 : xs.length ≤ 15 := by decide) : DE X cl (.Dict ks vs pos) (eDctMs xs r) :=
  ⟨(pe_disp h.pps h.len.2.2 (h.len.1.trans h.len.2.1.symm) h0 (by rw [h.len.1]; exact h15)).weak fun σ H Q ⟨O, ms, F, δ, μ, d, μ', R, ev, k⟩ => by
  unfold eDctMs at ev
  split at ev
  · rename_i ds μ1 e1
    split at ev
    · rename_i hz
      cases ev
      intro p hp
      obtain ⟨hm0, hF0⟩ := R.hr.fresh_not hp
      obtain ⟨r0, s0⟩ := R.hr.extra hp (.dK [])
      refine h.run (R.step r0 s0) e1 fun us H1 ms1 F1 R1 s1 q1 hl => ?_
      have hp1 : (upd H p (.dK [])) p ≠ none := by rw [upd_same]; exact fun z => nomatch z
      have hD1 : H1 p = some (.dK []) := s1.keep p _ upd_same hm0
      have hm1 := s1.notin hm0 hp1
      have hF1 : F1 p = none := s1.fnew p hF0 hp1
      obtain ⟨ws, f1, f2, f3⟩ := merge_ok (ls := xs.map Sum.inr) (zs := us) (ks := []) (ws := []) (xs := []) (by simp [hl]) q1 rfl rfl
      refine ⟨hD1, (xs.map Sum.inr).zip us, ?_, ?_, ?_⟩
      · rw [List.zip_map_left, List.map_map]; rfl
      · rw [List.length_zip, List.length_map]; omega
      have f1' : mergeK [] ((xs.map Sum.inr).zip us) = _ := f1
      rw [f1']
      have s01 := s0.trans' r0 s1
      have r2 : HR (gm X cl) ms1 F1 (upd H1 p (.dK ((mergeD [] [] (xs.map Sum.inr) ds).1.zip ws))) μ1 := R1.hr.other hm1 hF1 _
      have r3 := r2.adopt (u := .dct (mergeD [] [] (xs.map Sum.inr) ds).1 (mergeD [] [] (xs.map Sum.inr) ds).2) hm1 hF1 ⟨ws, upd_same, f2, f3⟩
      obtain ⟨new, en, fr⟩ := s01.new
      refine k _ _ (ms1 ++ [p]) F1 r3 ⟨⟨new ++ [p], by rw [en]; simp, fun b hb => ?_⟩, fun b o eb hn => ?_, s01.fsub, s01.fnew⟩ ⟨p, rfl, by rw [← R1.hr.len]; simp⟩
      · rcases List.mem_append.mp hb with hb | hb
        · exact fr b hb
        · simp at hb; subst hb; exact hp
      · have hne : b ≠ p := fun z => by rw [z, hp] at eb; cases eb
        rw [upd_ne hne]; exact s01.keep b o eb hn
    · cases ev
  · cases ev⟩
end
end G

set_option Elab.async false
set_option linter.all false
set_option autoImplicit false
set_option maxRecDepth 100000
set_option maxHeartbeats 2000000
namespace G
open PySem PySem.Spec PySem.Calls L2 PyProof.Rows
/-! ### repr of data with dicts in it, at any depth -/
def keyP : Key → PyData
  | .inl i => .int i
  | .inr x => .str x
def toPyX (μ : List MO) : Nat → D → Option PyData
  | 0, _ => none
  | n + 1, d => match d with
    | .non => some .none
    | .bl b => some (.bool b)
    | .int i => some (.int i)
    | .str x => some (.str x)
    | .lst ds => (toPyL (toPyX μ n) ds).map .list
    | .tup ds => (toPyL (toPyX μ n) ds).map .tuple
    | .dct ks ds => (toPyL (toPyX μ n) ds).map fun ps => .dict ((ks.map keyP).zip ps)
    | .mut k => match μ[k]? with
      | some (.lst ds) => (toPyL (toPyX μ n) ds).map .list
      | some (.dct ks ds) => (toPyL (toPyX μ n) ds).map fun ps => .dict ((ks.map keyP).zip ps)
      | _ => none
    | _ => none
mutual
inductive Dq (K : PySem.W.Frag) (H : Hp) : V → PyData → Prop
  | non : Dq K H .non .none
  | bl (b : Bool) : Dq K H (.bl b) (.bool b)
  | int (i : Int) : Dq K H (.int i) (.int i)
  | str (x : Str) : Dq K H (.str x) (.str x)
  | lst {a : Addr} {xs : List V} {ds : List PyData} : SqL K H a xs → DqAll K H xs ds → Dq K H (.ref a) (.list ds)
  | tup {a : Addr} {xs : List V} {ds : List PyData} : SqT K H a xs → DqAll K H xs ds → Dq K H (.ref a) (.tuple ds)
  | dct {a : Addr} {ks : List Key} {xs : List V} {ds : List PyData} : H a = some (.dK (ks.zip xs)) → ks.length = xs.length → DqAll K H xs ds → Dq K H (.ref a) (.dict ((ks.map keyP).zip ds))
inductive DqAll (K : PySem.W.Frag) (H : Hp) : List V → List PyData → Prop
  | nil : DqAll K H [] []
  | cons {v : V} {vs : List V} {d : PyData} {ds : List PyData} : Dq K H v d → DqAll K H vs ds → DqAll K H (v :: vs) (d :: ds)
end
theorem dqAll_of {Γ : Gm} {ms : List Addr} {F H : Hp} {f : D → Option PyData} (h : ∀ v d p, f d = some p → Has Γ ms F v d → Dq Γ.K H v p) : ∀ {vs : List V} {ds : List D} {ps : List PyData}, toPyL f ds = some ps → HasL Γ ms F vs ds → DqAll Γ.K H vs ps
  | vs, [], ps, e, q => by cases e; cases q; exact .nil
  | vs, d :: ds, ps, e, ⟨w, ws, hv, q1, q2⟩ => by
    subst hv
    unfold toPyL at e
    split at e
    · rename_i p ps' e1 e2
      cases e
      exact .cons (h w d p e1 q1) (dqAll_of h e2 q2)
    · cases e
theorem dq_of {Γ : Gm} {ms : List Addr} {F H : Hp} {μ : List MO} (r : HR Γ ms F H μ) : ∀ (n : Nat) (v : V) (d : D) (p : PyData), toPyX μ n d = some p → Has Γ ms F v d → Dq Γ.K H v p
  | 0, _, _, _, e, _ => by cases e
  | n + 1, v, d, p, e, q => by
    unfold toPyX at e
    cases d with
    | non => cases e; rw [show v = .non from q]; exact .non
    | bl b => cases e; rw [show v = .bl b from q]; exact .bl b
    | int b => cases e; rw [show v = .int b from q]; exact .int b
    | str b => cases e; rw [show v = .str b from q]; exact .str b
    | ty _ => cases e
    | ins _ _ _ => cases e
    | scr _ => cases e
    | exc _ _ _ _ => cases e
    | cls _ => cases e
    | dct ks ds =>
      dsimp only at e
      cases e1 : toPyL (toPyX μ n) ds with
      | none => rw [e1] at e; cases e
      | some ps =>
        rw [e1] at e; cases e
        obtain ⟨a, xs, rfl, hs, hn, hl⟩ := q
        exact .dct (r.sub _ _ hs) hn (dqAll_of (dq_of r n) e1 hl)
    | lst ds =>
      dsimp only at e
      cases e1 : toPyL (toPyX μ n) ds with
      | none => rw [e1] at e; cases e
      | some ps =>
        rw [e1] at e; cases e
        obtain ⟨a, xs, rfl, hs, hl⟩ := q
        exact .lst (SqL.of (r.sub _ _ hs)) (dqAll_of (dq_of r n) e1 hl)
    | tup ds =>
      dsimp only at e
      cases e1 : toPyL (toPyX μ n) ds with
      | none => rw [e1] at e; cases e
      | some ps =>
        rw [e1] at e; cases e
        obtain ⟨a, xs, rfl, hs, hl⟩ := q
        exact .tup (Tp.same r.sub hs).sq (dqAll_of (dq_of r n) e1 hl)
    | «mut» k =>
      dsimp only at e
      split at e
      · rename_i ds hk
        cases e1 : toPyL (toPyX μ n) ds with
        | none => rw [e1] at e; cases e
        | some ps =>
          rw [e1] at e; cases e
          obtain ⟨a, xs, rfl, _, hx, hl⟩ := mut_lst r q hk
          exact .lst (SqL.of hx) (dqAll_of (dq_of r n) e1 hl)
      · rename_i ks ds hk
        cases e1 : toPyL (toPyX μ n) ds with
        | none => rw [e1] at e; cases e
        | some ps =>
          rw [e1] at e; cases e
          obtain ⟨a, xs, rfl, _, hx, hn, hl⟩ := mut_dct r q hk
          exact .dct hx hn (dqAll_of (dq_of r n) e1 hl)
      · cases e
theorem keys_dq {K : PySem.W.Frag} {H : Hp} : ∀ ks : List Key, DqAll K H (ks.map kV) (ks.map keyP)
  | [] => .nil
  | .inl i :: ks => .cons (.int i) (keys_dq ks)
  | .inr x :: ks => .cons (.str x) (keys_dq ks)
theorem dqAll_len {K : PySem.W.Frag} {H : Hp} : ∀ {vs : List V} {ds : List PyData}, DqAll K H vs ds → vs.length = ds.length
  | _, _, .nil => rfl
  | _, _, .cons _ t => by simp [dqAll_len t]
/-- a dict's entries, related to its keys and values -/
theorem entries_vals {P : Program} {w : World} : ∀ {ks : List Key} {xs : List V} {vs : List (Key × Value)} {es : List DictEntry}, ks.length = xs.length → KV (ks.zip xs) vs → Pairs (mixKind P w) es vs → Vals (ks.map kV) (es.map (·.key)) ∧ Vals xs (es.map (·.val))
  | [], [], _, es, _, r, q => by
    cases r
    cases q
    exact ⟨.nil, .nil⟩
  | k :: ks, x :: xs, _, es, hn, r, q => by
    cases r with
    | @cons _ p _ ps h1 r =>
      cases q with
      | @cons en _ es' _ hk hv q =>
        obtain ⟨a, b⟩ := entries_vals (by simpa using hn) r q
        obtain ⟨hk1, hr⟩ := h1
        refine ⟨.cons (show RelV (kV k) en.key from ?_) a, .cons (show RelV x en.val by rw [hv]; exact hr) b⟩
        have hk1' : k = p.1 := hk1
        rw [hk1']
        rcases keyIs_shape (k := p.1) (v := en.key) hk with ⟨i, t, e1, e2⟩ | ⟨z, t, e1, e2⟩
        · rw [e1, e2]; exact ⟨t, rfl⟩
        · rw [e1, e2]; exact ⟨t, rfl⟩
  | [], _ :: _, _, _, hn, _, _ => by simp at hn
  | _ :: _, [], _, _, hn, _, _ => by simp at hn
theorem zip_fst {α β : Type} : ∀ {ks : List α} {vs : List β}, ks.length = vs.length → (ks.zip vs).map (·.1) = ks
  | [], [], _ => rfl
  | k :: ks, v :: vs, h => by rw [List.zip_cons_cons, List.map_cons, zip_fst (by simpa using h)]
  | [], _ :: _, h => by simp at h
  | _ :: _, [], h => by simp at h
section
variable {X : Cx} {pins : List (Addr × Obj)} {σ : L2.St} {H : Hp} {s : Shared}
theorem keys_shows : ∀ {ks : List Key} {us : List Value}, Vals (ks.map kV) us → PyData.showableAll (ks.map keyP) = true → (∀ t ∈ PyData.shownAll (ks.map keyP), t.length ≤ sizeLine) →
    ∃ as bs, ReadsAll s.heap us (ks.map keyP) as ∧ ReadAtMost s.heap (PyData.depthAll (ks.map keyP)) bs ∧ ReprAllK X.prog X.w bs s.heap (PyData.depthAll (ks.map keyP)) us (PyData.shownAll (ks.map keyP))
  | [], us, r, _, _ => by
    have r' : Vals [] us := r
    cases r'
    exact ⟨_, [], ReadsAll.nil, (fun _ h => nomatch h), by simp only [List.map_nil, PyData.shownAll]; exact .nil⟩
  | .inl i :: ks, us, r, hs, hz => by
    have r' : Vals (V.int i :: ks.map kV) us := r
    cases r' with
    | @cons _ u _ us r1 r2 =>
      obtain ⟨t, rfl⟩ := r1
      simp only [List.map_cons, keyP, PyData.showableAll, PyData.shownAll, PyData.depthAll, Bool.and_eq_true] at hs hz ⊢
      obtain ⟨as, bs, q, hb, k⟩ := keys_shows r2 hs.2 fun t ht => hz t (List.mem_cons_of_mem _ ht)
      refine ⟨_, bs, ReadsAll.cons (Reads.int i t) q, hb.mono (Nat.le_max_right _ _), .cons ?_ (k.more_le (fun _ h => h) (Nat.le_max_right _ _))⟩
      simp only [PyData.shown]
      exact .of_is (ReprIs.int t (by simpa [PyData.showable] using hs.1)) _ _ _
  | .inr x :: ks, us, r, hs, hz => by
    have r' : Vals (V.str x :: ks.map kV) us := r
    cases r' with
    | @cons _ u _ us r1 r2 =>
      obtain ⟨t, rfl⟩ := r1
      simp only [List.map_cons, keyP, PyData.showableAll, PyData.shownAll, PyData.depthAll, Bool.and_eq_true] at hs hz ⊢
      obtain ⟨as, bs, q, hb, k⟩ := keys_shows r2 hs.2 fun t ht => hz t (List.mem_cons_of_mem _ ht)
      have hx := hz _ (List.mem_cons_self ..)
      refine ⟨_, bs, ReadsAll.cons (Reads.str x t) q, hb.mono (Nat.le_max_right _ _), .cons ?_ (k.more_le (fun _ h => h) (Nat.le_max_right _ _))⟩
      simp only [PyData.shown] at hx ⊢
      exact .of_is (ReprIs.str x t hx) _ _ _
mutual
theorem dq_shows (I : Inv X pins σ H s) : ∀ {v : V} {d : PyData} (_ : Dq X.K H v d) (u : Value), RelV v u → d.showable = true → d.shown.length ≤ sizeLine →
    ∃ as bs, Reads s.heap u d as ∧ ReadAtMost s.heap d.depth bs ∧ ReprK X.prog X.w bs s.heap d.depth u d.shown
  | _, _, .non, u, r, _, _ => by
    cases r
    exact ⟨_, [], Reads.none, (fun _ h => nomatch h), by simp only [PyData.shown]; exact .of_is ReprIs.none _ _ _⟩
  | _, _, .bl b, u, r, _, _ => by
    cases r
    exact ⟨_, [], Reads.bool b, (fun _ h => nomatch h), by simp only [PyData.shown]; exact .of_is (ReprIs.bool b) _ _ _⟩
  | _, _, .int i, u, r, hs, _ => by
    obtain ⟨t, rfl⟩ := r
    exact ⟨_, [], Reads.int i t, (fun _ h => nomatch h), by simp only [PyData.shown]; exact .of_is (ReprIs.int t (by simpa [PyData.showable] using hs)) _ _ _⟩
  | _, _, .str x, u, r, _, hz => by
    obtain ⟨t, rfl⟩ := r
    exact ⟨_, [], Reads.str x t, (fun _ h => nomatch h), by simp only [PyData.shown]; exact .of_is (ReprIs.str x t (by simpa only [PyData.shown] using hz)) _ _ _⟩
  | _, _, .lst (a := a) (xs := xs) (ds := ds) hq ha, u, r, hs, hz => by
      obtain rfl : u = Value.ref a := r
      have lz : (listText (PyData.shownAll ds)).length ≤ sizeLine := by simpa only [PyData.shown] using hz
      obtain ⟨its, rv, ⟨o, n, ho, hc, _, hd⟩, _⟩ := I.list hq
      obtain ⟨as, bs, rd, hb, hk⟩ := dq_showsAll I ha its rv (by simpa [PyData.showable] using hs) fun t ht => Nat.le_trans (listText_mem_le ht) lz
      have rr : Reads s.heap (.ref a) (.list ds) _ := .list ho hc hd rd
      have na : a ∉ bs := not_mem_of_deeper rr (by simp only [PyData.depth]; omega) hb
      refine ⟨_, a :: bs, rr, ReadAtMost.cons rr (by simp only [PyData.depth]; omega) hb, ?_⟩
      simp only [PyData.depth, PyData.shown]
      cases its with
      | nil =>
        cases rd
        simp only [PyData.shownAll, listText_nil]
        exact ReprK.listEmpty ho hc hd
      | cons x l => exact ReprK.list ho hc hd na (by simpa using hk.length_eq) (fun i y e => hk.item i y (by simpa using e))
  | _, _, .tup (a := a) (xs := xs) (ds := ds) hq ha, u, r, hs, hz => by
      obtain rfl : u = Value.ref a := r
      have lz : (tupleText (PyData.shownAll ds)).length ≤ sizeLine := by simpa only [PyData.shown] using hz
      obtain ⟨its, rv, ⟨o, ho, hc, n, hd⟩, _⟩ := I.tuple hq
      obtain ⟨as, bs, rd, hb, hk⟩ := dq_showsAll I ha its rv (by simpa [PyData.showable] using hs) fun t ht => Nat.le_trans (tupleText_mem_le ht) lz
      have rr : Reads s.heap (.ref a) (.tuple ds) _ := .tuple ho hc hd rd
      have na : a ∉ bs := not_mem_of_deeper rr (by simp only [PyData.depth]; omega) hb
      refine ⟨_, a :: bs, rr, ReadAtMost.cons rr (by simp only [PyData.depth]; omega) hb, ?_⟩
      simp only [PyData.depth, PyData.shown]
      exact ReprK.tuple ho hc hd na hk
  | _, _, .dct (a := a) (ks := ks) (xs := xs) (ds := ds) ha hn hl, u, r, hs, hz => by
      obtain rfl : u = Value.ref a := r
      have dl := dqAll_len hl
      have kl : (ks.map keyP).length = ds.length := by rw [List.length_map, hn, dl]
      have lz : (dictText (PyData.shownKv ((ks.map keyP).zip ds))).length ≤ sizeLine := by simpa only [PyData.shown] using hz
      obtain ⟨_, hsys, vs, rk, o, es, ep, ho, hx, hd, hK, hP, _⟩ := dk_of I.hok ha
      obtain ⟨rvk, rvx⟩ := entries_vals hn rk hP
      obtain ⟨hs1, hs2⟩ := PyData.showableKv_split _ (show PyData.showableKv ((ks.map keyP).zip ds) = true by simpa [PyData.showable] using hs)
      have z1 : ∀ t ∈ PyData.shownAll (((ks.map keyP).zip ds).map (·.1)), t.length ≤ sizeLine := fun t ht => let ⟨p, hp, hl⟩ := PyData.shownKv_key_le _ t ht; Nat.le_trans hl (Nat.le_trans (dictText_mem_le hp) lz)
      have z2 : ∀ t ∈ PyData.shownAll (((ks.map keyP).zip ds).map (·.2)), t.length ≤ sizeLine := fun t ht => let ⟨p, hp, hl⟩ := PyData.shownKv_val_le _ t ht; Nat.le_trans hl (Nat.le_trans (dictText_mem_le hp) lz)
      have f1 : ((ks.map keyP).zip ds).map (·.1) = ks.map keyP := zip_fst kl
      have f2 : ((ks.map keyP).zip ds).map (·.2) = ds := zip_snd kl
      rw [f1] at hs1 z1
      rw [f2] at hs2 z2
      obtain ⟨bs, b1, rd1, hb1, k1⟩ := keys_shows (X := X) (s := s) rvk hs1 z1
      obtain ⟨as, b2, rd2, hb2, k2⟩ := dq_showsAll I hl _ rvx hs2 z2
      have rr : Reads s.heap (.ref a) (.dict ((ks.map keyP).zip ds)) _ := .dict ho hx.1 hd (by rw [f1]; exact rd1) (by rw [f2]; exact rd2)
      have d1 := PyData.depthAll_keys_le ((ks.map keyP).zip ds)
      have d2 := PyData.depthAll_vals_le ((ks.map keyP).zip ds)
      rw [f1] at d1
      rw [f2] at d2
      have hb : ReadAtMost s.heap (PyData.depthKv ((ks.map keyP).zip ds)) (b1 ++ b2) := (hb1.mono d1).append (hb2.mono d2)
      have na : a ∉ b1 ++ b2 := not_mem_of_deeper rr (by simp only [PyData.depth]; omega) hb
      refine ⟨_, a :: (b1 ++ b2), rr, ReadAtMost.cons rr (by simp only [PyData.depth]; omega) hb, ?_⟩
      simp only [PyData.depth, PyData.shown, PyData.shownKv_eq]
      rw [f1, f2]
      exact ReprK.dict ho hx.1 hd hsys na (ReprEntriesK.of_two es.toList _ _ (k1.more_le (fun b hb => List.mem_append_left _ hb) d1) (k2.more_le (fun b hb => List.mem_append_right _ hb) d2))
theorem dq_showsAll (I : Inv X pins σ H s) : ∀ {vs : List V} {ds : List PyData} (_ : DqAll X.K H vs ds) (us : List Value), Vals vs us → PyData.showableAll ds = true → (∀ t ∈ PyData.shownAll ds, t.length ≤ sizeLine) →
    ∃ as bs, ReadsAll s.heap us ds as ∧ ReadAtMost s.heap (PyData.depthAll ds) bs ∧ ReprAllK X.prog X.w bs s.heap (PyData.depthAll ds) us (PyData.shownAll ds)
  | _, _, .nil, us, r, _, _ => by
    cases r
    exact ⟨_, [], ReadsAll.nil, (fun _ h => nomatch h), by simp only [PyData.shownAll]; exact .nil⟩
  | _, _, .cons (d := d) (ds := ds) h1 h2, us, r, hs, hz => by
    cases r with
    | cons r1 r2 =>
      have hs' : d.showable = true ∧ PyData.showableAll ds = true := by simpa [PyData.showableAll] using hs
      obtain ⟨as, b1, q1, hb1, k1⟩ := dq_shows I h1 _ r1 hs'.1 (hz _ (by simp only [PyData.shownAll]; exact List.mem_cons_self ..))
      obtain ⟨bs, b2, q2, hb2, k2⟩ := dq_showsAll I h2 _ r2 hs'.2 fun t ht => hz t (by simp only [PyData.shownAll]; exact List.mem_cons_of_mem _ ht)
      refine ⟨_, b1 ++ b2, ReadsAll.cons q1 q2, ?_, ?_⟩
      · simp only [PyData.depthAll]
        exact (hb1.mono (Nat.le_max_left _ _)).append (hb2.mono (Nat.le_max_right _ _))
      · simp only [PyData.depthAll, PyData.shownAll]
        exact .cons ((k1.more fun b hb => List.mem_append_left _ hb).level_le (Nat.le_max_left _ _)) (k2.more_le (fun b hb => List.mem_append_right _ hb) (Nat.le_max_right _ _))
end
/-- repr(x) -/
theorem call_reprQ (hgd : X.A.guards = some []) (hu : X.A.units + 64 < cLine) : CallR X (.builtin "repr") (fun xs H Q => ∃ v p, xs = [v] ∧ Dq X.K H v p ∧ p.showable = true ∧ p.depth ≤ 60 ∧ p.shown.length ≤ sizeLine ∧ Q (.str p.shown) H) := by
  intro pins s σ H xs us Q I r h
  obtain ⟨v, p, rfl, hd, hs, hp, hz, q⟩ := h
  obtain ⟨u, rfl, ru⟩ := vals1 r
  have back : ∀ {h' : Heap} {tk' : Nat} {z : Tok}, (∀ b o, s.heap.get? b = some o → h'.get? b = some o) → EP X pins σ Q (.str p.shown z) { s with heap := h', toks := tk' } := fun k => ⟨.str p.shown, H, I.kept k, ⟨_, rfl⟩, q⟩
  have back0 : ∀ {z : Tok}, EP X pins σ Q (.str p.shown z) { s with toks := s.toks + 1 } := fun {z} => ⟨.str p.shown, H, I.tok _, ⟨_, rfl⟩, q⟩
  cases hd with
  | non => cases ru; exact PySem.P.repr_of_none (by simpa only [PyData.shown] using back0)
  | bl b => cases ru; exact PySem.P.repr_of_bool (by simpa only [PyData.shown] using back0)
  | int i => obtain ⟨t, rfl⟩ := ru; exact PySem.P.repr_of_int (by simpa [PyData.showable] using hs) (by simpa only [PyData.shown] using back0)
  | str x => obtain ⟨t, rfl⟩ := ru; exact PySem.P.repr_of_str (by simpa only [PyData.shown] using back0) (by simpa only [PyData.shown] using hz)
  | @lst a xs ds hq ha =>
    obtain rfl : _ = Value.ref a := ru
    have lz : (listText (PyData.shownAll ds)).length ≤ sizeLine := by simpa only [PyData.shown] using hz
    obtain ⟨its, rv, ⟨o, n, ho, hc, _, hd⟩, _⟩ := I.list hq
    obtain ⟨as, bs, rd, hb, hk⟩ := dq_showsAll I ha its rv (by simpa [PyData.showable] using hs) fun t ht => Nat.le_trans (listText_mem_le ht) lz
    have na : a ∉ bs := not_mem_of_deeper (Reads.list ho hc hd rd) (by simp only [PyData.depth]; omega) hb
    simp only [PyData.depth] at hp
    simp only [PyData.shown] at back back0
    cases its with
    | nil =>
      cases rd
      simp only [PyData.shownAll, listText_nil] at back back0
      exact call_repr_slot (by omega) ⟨o, ho, hc⟩ F.slot_list_repr.toG (call_list_repr_empty ⟨o, ho, hc⟩ ho hd ⟨_, _, rfl, back fun _ _ e => e⟩)
    | cons x l => exact call_repr_slot (by omega) ⟨o, ho, hc⟩ F.slot_list_repr.toG (call_list_reprK ho hc hd na (by simpa using hk.length_eq) (fun i y e => hk.item i y (by simpa using e)) hgd (fun b _ => Clear.nil b) (by show X.A.units + 1 + (PyData.depthAll ds + 1) < cLine; omega) (fun _ _ e => e) (fun h' z tk k => ⟨_, _, rfl, back k⟩) lz)
  | @tup a xs ds hq ha =>
    obtain rfl : _ = Value.ref a := ru
    have lz : (tupleText (PyData.shownAll ds)).length ≤ sizeLine := by simpa only [PyData.shown] using hz
    obtain ⟨its, rv, ⟨o, ho, hc, n, hd⟩, _⟩ := I.tuple hq
    obtain ⟨as, bs, rd, hb, hk⟩ := dq_showsAll I ha its rv (by simpa [PyData.showable] using hs) fun t ht => Nat.le_trans (tupleText_mem_le ht) lz
    have na : a ∉ bs := not_mem_of_deeper (Reads.tuple ho hc hd rd) (by simp only [PyData.depth]; omega) hb
    simp only [PyData.depth] at hp
    simp only [PyData.shown] at back
    exact call_repr_slot (by omega) ⟨o, ho, hc⟩ F.slot_tuple_repr (call_tuple_reprK ho hc hd na hk hgd (fun b _ => Clear.nil b) (by show X.A.units + 1 + (PyData.depthAll ds + 1) < cLine; omega) (fun _ _ e => e) (fun h' z tk k => ⟨_, _, rfl, back k⟩) lz)
  | @dct a ks xs ds ha hn hl =>
    obtain rfl : _ = Value.ref a := ru
    have dl := dqAll_len hl
    have kl : (ks.map keyP).length = ds.length := by rw [List.length_map, hn, dl]
    have lz : (dictText (PyData.shownKv ((ks.map keyP).zip ds))).length ≤ sizeLine := by simpa only [PyData.shown] using hz
    obtain ⟨_, hsys, vs, rk, o, es, ep, ho, hx, hd, hK, hP, _⟩ := dk_of I.hok ha
    obtain ⟨rvk, rvx⟩ := entries_vals hn rk hP
    obtain ⟨hs1, hs2⟩ := PyData.showableKv_split _ (show PyData.showableKv ((ks.map keyP).zip ds) = true by simpa [PyData.showable] using hs)
    have z1 : ∀ t ∈ PyData.shownAll (((ks.map keyP).zip ds).map (·.1)), t.length ≤ sizeLine := fun t ht => let ⟨p, hp, hl⟩ := PyData.shownKv_key_le _ t ht; Nat.le_trans hl (Nat.le_trans (dictText_mem_le hp) lz)
    have z2 : ∀ t ∈ PyData.shownAll (((ks.map keyP).zip ds).map (·.2)), t.length ≤ sizeLine := fun t ht => let ⟨p, hp, hl⟩ := PyData.shownKv_val_le _ t ht; Nat.le_trans hl (Nat.le_trans (dictText_mem_le hp) lz)
    have f1 : ((ks.map keyP).zip ds).map (·.1) = ks.map keyP := zip_fst kl
    have f2 : ((ks.map keyP).zip ds).map (·.2) = ds := zip_snd kl
    rw [f1] at hs1 z1
    rw [f2] at hs2 z2
    obtain ⟨bs, b1, rd1, hb1, k1⟩ := keys_shows (X := X) (s := s) rvk hs1 z1
    obtain ⟨as, b2, rd2, hb2, k2⟩ := dq_showsAll I hl _ rvx hs2 z2
    have d1 := PyData.depthAll_keys_le ((ks.map keyP).zip ds)
    have d2 := PyData.depthAll_vals_le ((ks.map keyP).zip ds)
    rw [f1] at d1
    rw [f2] at d2
    have hb : ReadAtMost s.heap (PyData.depthKv ((ks.map keyP).zip ds)) (b1 ++ b2) := (hb1.mono d1).append (hb2.mono d2)
    have na : a ∉ b1 ++ b2 := not_mem_of_deeper (Reads.dict ho hx.1 hd (by rw [f1]; exact rd1) (by rw [f2]; exact rd2)) (by simp only [PyData.depth]; omega) hb
    simp only [PyData.depth] at hp
    simp only [PyData.shown, PyData.shownKv_eq] at back
    rw [f1, f2] at back
    have lz' := lz
    rw [PyData.shownKv_eq, f1, f2] at lz'
    exact call_repr_slot (by omega) ⟨o, ho, hx.1⟩ F.slot_dict_repr (call_dict_reprK ho hx.1 hd hsys na (ReprEntriesK.of_two es.toList _ _ (k1.more_le (fun b hb => List.mem_append_left _ hb) d1) (k2.more_le (fun b hb => List.mem_append_right _ hb) d2)) hgd (fun b _ => Clear.nil b)
      (by show X.A.units + 1 + (PyData.depthKv ((ks.map keyP).zip ds) + 1) < cLine; omega) (fun _ _ e => e) (fun h' z tk k => ⟨_, _, rfl, back k⟩) lz')
end
/-- repr, by data: with dicts in it; where exceptions stand in it, as before -/
def reprX (nm : Nat → Option Str) : List D → List MO → Option (D × List MO)
  | [d], μ => match toPyX μ DEEP d with
    | some p => if p.showable = true ∧ p.depth ≤ 60 ∧ p.shown.length ≤ 1000000 then some (.str p.shown, μ) else none
    | none => reprM nm [d] μ
  | _, _ => none
theorem cd_reprX {X : Cx} {cl : Nat → Addr} {nm : Nat → Option Str} (hn : ∀ C n, nm C = some n → RxC X.K (cl C) n) (hgd : X.A.guards = some []) (hu : X.A.units + 64 < cLine) : CallD X cl (.builtin "repr") (reprX nm) := by
  intro ms F H μ vs ds d μ' Q r hv ev k
  unfold reprX at ev
  split at ev
  · split at ev
    · rename_i p hp
      split at ev
      · rename_i hz
        cases ev
        obtain ⟨v, rfl, h⟩ := hv.one'
        exact ⟨_, call_reprQ hgd hu, v, p, rfl, dq_of r _ _ _ _ hp h, hz.1, hz.2.1, million hz.2.2, k.imm r rfl⟩
      · cases ev
    · exact cd_reprM hn hgd hu ms F H μ vs _ d μ' Q r hv ev k
  · cases ev
end G

set_option Elab.async false
set_option linter.all false
set_option autoImplicit false
set_option maxRecDepth 100000
set_option maxHeartbeats 4000000
namespace GL
open PySem PySem.Spec PySem.Calls L2 G
section
variable {b m d : Nat} {μ : List MO} {x y : D}
theorem runX_nx {n : Nat} {bd : BF} {ds : List D} {δ : List SV} {μ μ1 : List MO} (h : bd (startD n ds) μ = some (.nx δ μ1)) : runX n bd ds μ = some (.ok .non μ1) := by simp [runX, h]
theorem runX_rt {n : Nat} {bd : BF} {ds : List D} {μ μ1 : List MO} {d : D} (h : bd (startD n ds) μ = some (.rt d μ1)) : runX n bd ds μ = some (.ok d μ1) := by simp [runX, h]
theorem runX_xc {n : Nat} {bd : BF} {ds : List D} {δ : List SV} {μ μ1 : List MO} {C : Nat} {f t : Str} {d : D} (h : bd (startD n ds) μ = some (.xc C f t d δ μ1)) : runX n bd ds μ = some (.ex C f t d μ1) := by simp [runX, h]
theorem callX_ok {fn : XF} {r : AF} {δ : List SV} {μ μ1 μ2 : List MO} {xs : List D} {d : D} (h : r δ μ = some (xs, μ1)) (e : fn xs μ1 = some (.ok d μ2)) : bCallX fn r δ μ = some (.nx δ μ2) := by simp [bCallX, h, e]
theorem callX_ex {fn : XF} {r : AF} {δ : List SV} {μ μ1 μ2 : List MO} {xs : List D} {C : Nat} {f t : Str} {d : D} (h : r δ μ = some (xs, μ1)) (e : fn xs μ1 = some (.ex C f t d μ2)) : bCallX fn r δ μ = some (.xc C f t d δ μ2) := by simp [bCallX, h, e]
theorem fnX {fn : XF} {r : AF} {δ : List SV} {μ μ1 μ2 : List MO} {xs : List D} {d : D} (h : r δ μ = some (xs, μ1)) (e : fn xs μ1 = some (.ok d μ2)) : eFnX fn r δ μ = some (d, μ2) := by simp [eFnX, aThen, h, e]
theorem a1 {i : Nat} {x : D} {δ : List SV} {μ : List MO} (h : δ[i]? = some (.d x)) : aCons (eVar i) aNil δ μ = some ([x], μ) := aC (var_at h) (a_nil _ _)
theorem raise_at {i C : Nat} {f t : Str} {x : D} {δ : List SV} {μ : List MO} (h : δ[i]? = some (.d x)) : bRaise C f t (aCons (eVar i) aNil) δ μ = some (.xc C f t x δ μ) := by simp [bRaise, a1 h]
theorem if_xc {t : TF} {r b2 : BF} {c : Bool} {δ : List SV} {μ : List MO} {o : Option Out} (h : t δ μ = some (c, μ)) (hc : c = true) (e : r δ μ = o) : bIf t r b2 δ μ = o := by
  rw [if_at h, hc]
  exact e
theorem and_t {f g : EF} {δ : List SV} {μ μ1 : List MO} {c : Bool} (h : f δ μ = some (.bl true, μ1)) (h2 : g δ μ1 = some (.bl c, μ1)) : eAndV f g δ μ = some (.bl c, μ1) := by simp [eAndV, eThen, h, h2]
theorem modE {fa fb : EF} {δ : List SV} {μ μ1 μ2 : List MO} {a b : Int} (h1 : fa δ μ = some (.int a, μ1)) (h2 : fb δ μ1 = some (.int b, μ2)) (hb : 0 < b) : eBin modD fa fb δ μ = some (.int (a % b), μ2) := by simp [eBin, eThen, h1, h2, modD, hb]
theorem mulE {fa fb : EF} {δ : List SV} {μ μ1 μ2 : List MO} {a b : Int} (h1 : fa δ μ = some (.int a, μ1)) (h2 : fb δ μ1 = some (.int b, μ2)) (ha : a.natAbs < 2 ^ 64) (hb : b.natAbs < 2 ^ 64) : eBin mulD fa fb δ μ = some (.int (a * b), μ2) := by
  have q1 := PySem.Flt.log2_lt_of (k := 64) (by decide) ha
  have q2 := PySem.Flt.log2_lt_of (k := 64) (by decide) hb
  have q : a.natAbs.log2 + b.natAbs.log2 < 1000000 := by omega
  simp [eBin, eThen, h1, h2, mulD, q]
theorem ord_sg (c i : Nat) (δ : List SV) (μ : List MO) (h : δ[i]? = some (.d (sg c))) : eCall ordD (aCons (eVar i) aNil) δ μ = some (.int (c : Nat), μ) := by
  simp [eCall, aThen, aCons, aNil, eVar, eThen, h, ordD, Str.length]
theorem set_at {i : Nat} {f : EF} {δ : List SV} {μ μ1 : List MO} {x : D} (h : f δ μ = some (x, μ1)) : bSet i f δ μ = some (.nx (δ.set i (.d x)) μ1) := by simp [bSet, h]
theorem for_cons {i : Nat} {body : BF} {x : D} {xs : List D} {δ δ1 : List SV} {μ μ1 : List MO} (h : body (δ.set i (.d x)) μ = some (.nx δ1 μ1)) : forLoop (nmG i) body (x :: xs) δ μ = forLoop (nmG i) body xs δ1 μ1 := by
  conv => lhs; unfold forLoop
  simp only [nmG, h]
theorem get_set {i : Nat} {s : SV} {δ : List SV} (h : i < δ.length) : (δ.set i s)[i]? = some s := by rw [List.getElem?_set_self h]
theorem get_ne {i j : Nat} {s : SV} {δ : List SV} {r : Option SV} (h : δ[j]? = r) (n : i ≠ j) : (δ.set i s)[j]? = r := by rw [List.getElem?_set_ne n]; exact h
theorem iS_at {i : Nat} {s : Str} {δ : List SV} {μ : List MO} (h : δ[i]? = some (.d (.str s))) : iS (eVar i) δ μ = some (signsD s, μ) := by simp [iS, eThen, eVar, h]
theorem iL_at {f : EF} {δ : List SV} {μ μ1 : List MO} {ds : List D} (h : f δ μ = some (.lst ds, μ1)) : iL f δ μ = some (ds, μ1) := by simp [iL, eThen, h]
theorem nLc_at {it : IF} {g : GF} {tt : TF} {te : EF} {vs : List Nat} {δ : List SV} {μ μ1 : List MO} {ds : List D} {r : Option (List D × List MO)} (h : it δ μ = some (ds, μ1)) (hl : ds.length ≤ 1000) (e : lcLoop g tt te (wipeD δ vs) ds μ1 = r) : nLc it g tt te vs δ μ = r := by
  simp only [nLc, h]
  rw [if_pos (by omega)]
  exact e
theorem isN_non {f : EF} {δ : List SV} {μ μ1 : List MO} (h : f δ μ = some (.non, μ1)) : asB (eIsN f) δ μ = some (true, μ1) := asB_eq (by simp [eIsN, eThen, h, isNone])
theorem isN_no {f : EF} {δ : List SV} {μ μ1 : List MO} {x : D} (h : f δ μ = some (x, μ1)) (hx : x ≠ .non) : asB (eIsN f) δ μ = some (false, μ1) := asB_eq (by cases x <;> first | exact absurd rfl hx | simp [eIsN, eThen, h, isNone])
theorem notN_non {f : EF} {δ : List SV} {μ μ1 : List MO} (h : f δ μ = some (.non, μ1)) : eNotN f δ μ = some (.bl false, μ1) := by simp [eNotN, eThen, h, isNone]
theorem notN_no {f : EF} {δ : List SV} {μ μ1 : List MO} {x : D} (h : f δ μ = some (x, μ1)) (hx : x ≠ .non) : eNotN f δ μ = some (.bl true, μ1) := by cases x <;> first | exact absurd rfl hx | simp [eNotN, eThen, h, isNone]
theorem tf_t {t : TF} {c : Bool} {δ : List SV} {μ μ1 : List MO} (T : t δ μ = some (c, μ1)) (h : c = true) : t δ μ = some (true, μ1) := h ▸ T
theorem tf_f {t : TF} {c : Bool} {δ : List SV} {μ μ1 : List MO} (T : t δ μ = some (c, μ1)) (h : c = false) : t δ μ = some (false, μ1) := h ▸ T
theorem ne_int_z (a b : Int) : (a == b) = decide (a = b) := by rw [Bool.eq_iff_iff]; simp
theorem ne_int {fa fb : EF} {δ : List SV} {μ μ1 μ2 : List MO} {a b : Int} (h1 : fa δ μ = some (.int a, μ1)) (h2 : fb δ μ1 = some (.int b, μ2)) : eBin neD fa fb δ μ = some (.bl (!decide (a = b)), μ2) := by
  simp [eBin, eThen, h1, h2, neD, eqP, toPy, shp, SeqAt.shaped, PyData.canLay0, PyData.depth, PyData.eqv, ne_int_z]
theorem notN_of {f : EF} {x : D} {δ : List SV} {μ μ1 : List MO} (h : f δ μ = some (x, μ1)) : eNotN f δ μ = some (.bl (!isNone x), μ1) := by simp [eNotN, eThen, h]
theorem isN_of {f : EF} {x : D} {δ : List SV} {μ μ1 : List MO} (h : f δ μ = some (x, μ1)) : eIsN f δ μ = some (.bl (isNone x), μ1) := by simp [eIsN, eThen, h]
def Keeps (μ μ' : List MO) : Prop := ∀ (i : Nat) (o : MO), μ[i]? = some o → μ'[i]? = some o
theorem Keeps.refl (μ : List MO) : Keeps μ μ := fun _ _ e => e
theorem Keeps.trans {μ μ' μ'' : List MO} (a : Keeps μ μ') (c : Keeps μ' μ'') : Keeps μ μ'' := fun i o e => c i o (a i o e)
theorem Keeps.app (μ ν : List MO) : Keeps μ (μ ++ ν) := fun _ _ e => getP e
theorem aC_no {f : EF} {r : AF} {δ : List SV} {μ : List MO} (h : f δ μ = none) : aCons f r δ μ = none := by simp [aCons, eThen, h]
theorem ret_true {f : EF} {δ : List SV} {μ μ1 : List MO} {b : Bool} (h : f δ μ = some (.bl b, μ1)) (hb : b = true) : bRet f δ μ = some (.rt (.bl true) μ1) := by
  subst hb
  exact ret_eq h
theorem tOr_eq2 {f g : TF} {δ : List SV} {μ μ1 μ2 : List MO} {b : Bool} (h : f δ μ = some (false, μ1)) (h2 : g δ μ1 = some (b, μ2)) : tfOr f g δ μ = some (b, μ2) := by simp [tfOr, G.tThen, h, h2]
theorem try_x {bd : BF} {hs : List (XT × Option Nat × BF)} {δ δ' : List SV} {μ μ' : List MO} {C : Nat} {f m : Str} {d : D} (h : bd δ μ = some (.xc C f m d δ' μ')) : bTry bd hs δ μ = handle hs C f m d δ' μ' := by simp [bTry, h]
theorem try_n {bd : BF} {hs : List (XT × Option Nat × BF)} {δ δ' : List SV} {μ μ' : List MO} (h : bd δ μ = some (.nx δ' μ')) : bTry bd hs δ μ = some (.nx δ' μ') := by simp [bTry, h]
theorem hd_yes {t : XT} {i C : Nat} {h : BF} {r : List (XT × Option Nat × BF)} {f m : Str} {d x : D} {δ : List SV} {μ μ1 : List MO} (ht : t C = some true) (e : h (δ.set i (.xv C f d)) μ = some (.rt x μ1)) : handle ((t, some i, h) :: r) C f m d δ μ = some (.rt x μ1) := by
  simp [handle, ht, inX, e, offOut]
theorem hd_no {t : XT} {oi : Option Nat} {C : Nat} {h : BF} {r : List (XT × Option Nat × BF)} {f m : Str} {d : D} {δ : List SV} {μ : List MO} (ht : t C = some false) : handle ((t, oi, h) :: r) C f m d δ μ = handle r C f m d δ μ := by
  simp [handle, ht]
theorem iR1_at {r : AF} {L : Nat} {δ : List SV} {μ μ1 : List MO} (h : r δ μ = some ([.int (L : Nat)], μ1)) (hL : L ≤ 1000) : iR1 r δ μ = some (rangeD 0 L, μ1) := by
  simp only [iR1, aThen, h]
  rw [if_pos (by omega)]
  simp
theorem mutE {n : NF} {δ : List SV} {μ μ1 : List MO} {xs : List D} (h : n δ μ = some (xs, μ1)) : eMut n δ μ = some (.mut μ1.length, μ1 ++ [.lst xs]) := by simp [eMut, h]
theorem mutL {r : AF} {δ : List SV} {μ μ1 : List MO} {xs : List D} (h : r δ μ = some (xs, μ1)) (hl : xs.length ≤ 100) : eMut (nLst r) δ μ = some (.mut μ1.length, μ1 ++ [.lst xs]) := mutE (by simp [nLst, h, show xs.length ≤ 1000000 by omega])
theorem mutK {r : AF} {δ : List SV} {μ μ1 : List MO} {xs : List D} {k : Nat} (hk : μ1.length = k) (h : r δ μ = some (xs, μ1)) (hl : xs.length ≤ 100) : eMut (nLst r) δ μ = some (.mut k, μ1 ++ [.lst xs]) := by
  subst hk
  exact mutL h hl
theorem dct0K {δ : List SV} {μ : List MO} {k : Nat} (hk : μ.length = k) : eDctM0 δ μ = some (.mut k, μ ++ [.dct [] []]) := by
  subst hk
  rfl
theorem dct1K {key : Key} {d : D} {δ : List SV} {μ : List MO} {k : Nat} (hk : μ.length = k) : eDctM1 key (eC d) δ μ = some (.mut k, μ ++ [.dct [key] [d]]) := by
  subst hk
  rfl
theorem lt_at {i : Nat} {a c : Int} {δ : List SV} {μ : List MO} (h : δ[i]? = some (.d (.int a))) : asB (eBin ltD (eVar i) (eC (.int c))) δ μ = some (decide (a < c), μ) := asB_eq (ltE (var_at h) (fb := eC (.int c)) rfl)
theorem eq_at {i : Nat} {a c : Int} {δ : List SV} {μ : List MO} (h : δ[i]? = some (.d (.int a))) : asB (eBin eqD (eVar i) (eC (.int c))) δ μ = some (decide (a = c), μ) := asB_eq (eq_int (var_at h) (fb := eC (.int c)) rfl)
theorem strs_py (μ : List MO) (n : Nat) : ∀ ws : List Str, toPyL (toPy μ (n + 1)) (ws.map D.str) = some (ws.map PyData.str)
  | [] => rfl
  | w :: ws => by
    have r := strs_py μ n ws
    have e : toPy μ (n + 1) (.str w) = some (.str w) := rfl
    simp [toPyL, e, r]
theorem strs_dep : ∀ ws : List Str, PyData.depthAll (ws.map PyData.str) = 0
  | [] => rfl
  | w :: ws => by simp [PyData.depthAll, PyData.depth, strs_dep ws]
theorem dec_cons (w u : Str) (us : List Str) : (decide (w = u) || decide (w ∈ us)) = decide (w ∈ u :: us) := by
  rw [Bool.eq_iff_iff, Bool.or_eq_true, decide_eq_true_eq, decide_eq_true_eq, decide_eq_true_eq, List.mem_cons]
theorem eqv_str (u w : Str) : PyData.eqv (.str u) (.str w) = decide (w = u) := by
  have q : PyData.eqv (.str u) (.str w) = (u == w) := by simp [PyData.eqv]
  rw [q, Bool.eq_iff_iff, beq_iff_eq, decide_eq_true_eq]
  exact eq_comm
theorem any_strs (w : Str) : ∀ us : List Str, ((us.map PyData.str).any fun z => PyData.eqv z (.str w)) = decide (w ∈ us)
  | [] => rfl
  | u :: us => by
    rw [List.map_cons, List.any_cons, eqv_str, any_strs w us, dec_cons]
theorem bin_at {g : G2} {fa fb : EF} {x y : D} {δ : List SV} {μ μ1 μ2 : List MO} {r : Option (D × List MO)} (h1 : fa δ μ = some (x, μ1)) (h2 : fb δ μ1 = some (y, μ2)) (h3 : g x y μ2 = r) : eBin g fa fb δ μ = r := by simp [eBin, eThen, h1, h2, h3]
theorem expr_at {f : EF} {x : D} {δ : List SV} {μ μ1 : List MO} (h : f δ μ = some (x, μ1)) : bExpr f δ μ = some (.nx δ μ1) := by simp [bExpr, h]
theorem cps_app (a c : Str) : (a ++ c).cps.toList = a.cps.toList ++ c.cps.toList := PyProof.Rows.cps_toList_append _ _
theorem lc_fm {i : Nat} {tt : TF} {te : EF} {δ : List SV} {μ : List MO} {p : D → Bool} {h : D → D} : ∀ {ds : List D}, (∀ d ∈ ds, tt (δ.set i (.d d)) μ = some (p d, μ)) → (∀ d ∈ ds, te (δ.set i (.d d)) μ = some (h d, μ)) → lcLoop (nmG i) tt te δ ds μ = some ((ds.filter p).map h, μ)
  | [], _, _ => rfl
  | d :: ds, q, q' => by
    have e := q d (List.mem_cons_self ..)
    have e' := q' d (List.mem_cons_self ..)
    have r := lc_fm (ds := ds) (fun x hx => q x (List.mem_cons_of_mem _ hx)) (fun x hx => q' x (List.mem_cons_of_mem _ hx))
    unfold lcLoop
    simp only [nmG, e]
    cases hp : p d with
    | false =>
      simp only
      rw [show lcLoop (nmG i) tt te δ ds μ = _ from r, List.filter_cons_of_neg (by simp [hp])]
    | true =>
      simp only [e']
      rw [show lcLoop (nmG i) tt te δ ds μ = _ from r, List.filter_cons_of_pos hp]
      rfl
theorem retX_ex {fn : XF} {r : AF} {δ : List SV} {μ1 μ2 : List MO} {xs : List D} {C : Nat} {f t : Str} {d : D} (h : r δ μ = some (xs, μ1)) (e : fn xs μ1 = some (.ex C f t d μ2)) : bRetX fn r δ μ = some (.xc C f t d δ μ2) := by simp [bRetX, h, e]
theorem len_seq {sk : SK} {xs : List D} (h : seqD μ x = some (sk, xs)) : lenD [x] μ = some (.int xs.length, μ) := by
  cases x with
  | lst _ => cases h; rfl
  | tup _ => cases h; rfl
  | «mut» k =>
    unfold seqD at h
    dsimp only at h
    split at h
    · rename_i ds e
      cases h
      simp [lenD, seqD, e]
    · cases h
  | _ => cases h
theorem ix_seq {sk : SK} {xs : List D} {j : Nat} {y : D} (h : seqD μ x = some (sk, xs)) (hj : xs[j]? = some y) : ixD x (.int (j : Nat)) μ = some (y, μ) := by
  have lt := (List.getElem?_eq_some_iff.mp hj).1
  have a : L2.atI xs (j : Nat) = some y := by
    have z : ((j : Nat) : Int) < xs.length := by omega
    simp [L2.atI, L2.ixN, z, hj]
  cases x with
  | lst _ => cases h; simp only [ixD, seqD, a]
  | tup _ => cases h; simp only [ixD, seqD, a]
  | «mut» k => simp only [ixD, h, a]
  | _ => cases h
theorem seq_mut {k : Nat} {xs : List D} {μ : List MO} (e : μ[k]? = some (.lst xs)) : seqD μ (.mut k) = some (.l, xs) := by simp only [seqD, e]
theorem len_var {i k : Nat} {xs : List D} {δ : List SV} (v : δ[i]? = some (.d (.mut k))) (e : μ[k]? = some (.lst xs)) : eCall lenD (aCons (eVar i) aNil) δ μ = some (.int xs.length, μ) := callE (a1 v) (len_seq (seq_mut e))
theorem for_consG {g : GF} {body : BF} {x : D} {xs : List D} {δ δ0 δ1 : List SV} {μ μ1 : List MO} (hg : g x δ = some δ0) (h : body δ0 μ = some (.nx δ1 μ1)) : forLoop g body (x :: xs) δ μ = forLoop g body xs δ1 μ1 := by
  conv => lhs; unfold forLoop
  simp only [hg, h]
theorem mut_ix {p : Nat} {xs : List D} {y : D} {j : Nat} (k : μ[p]? = some (.lst xs)) (hj : xs[j]? = some y) : ixD (.mut p) (.int (j : Nat)) μ = some (y, μ) := ix_seq (seq_mut k) hj
theorem kept {μ : List MO} {j : Nat} {o u : MO} (h : μ[j]? = some o) {k : Nat} (n : k ≠ j) : (μ.set k u)[j]? = some o := by rw [List.getElem?_set_ne n]; exact h
end
/-! ### data that can be told -/
/-- told by repr, and as == sees it, at a depth of at most d -/
structure Tl (μ : List MO) (d w : Nat) (x : D) (p : PyData) : Prop where
  py : ∀ n, d < n → toPyX μ n x = some p
  sh : p.showable = true
  lv : p.leavesShort 64 = true
  dp : p.depth ≤ d
  bk : p.bulk ≤ w
structure Sc (μ : List MO) (d w : Nat) (x : D) (p : PyData) : Prop extends Tl μ d w x p where
  p0 : ∀ n, d < n → toPy μ n x = some p
  cl : p.canLay0 = true
section
variable {μ : List MO} {d w : Nat} {x : D} {p : PyData}
theorem pos_of {d n : Nat} (h : d < n) : ∃ m, n = m + 1 := ⟨n - 1, by omega⟩
theorem sc_non : Sc μ 0 0 .non .none := ⟨⟨fun n h => by obtain ⟨m, rfl⟩ := pos_of h; rfl, rfl, rfl, by simp [PyData.depth], by simp [PyData.bulk]⟩, fun n h => by obtain ⟨m, rfl⟩ := pos_of h; rfl, rfl⟩
theorem sc_bl (b : Bool) : Sc μ 0 0 (.bl b) (.bool b) := ⟨⟨fun n h => by obtain ⟨m, rfl⟩ := pos_of h; rfl, rfl, rfl, by simp [PyData.depth], by simp [PyData.bulk]⟩, fun n h => by obtain ⟨m, rfl⟩ := pos_of h; rfl, rfl⟩
theorem sc_int {i : Int} (h : i.natAbs < 10 ^ 30) : Sc μ 0 0 (.int i) (.int i) := by
  have hp : (10 : Nat) ^ 30 < 2 ^ 128 := by decide
  have hl : i.natAbs.log2 < 1920 := Nat.lt_trans (PySem.Flt.log2_lt_of (k := 128) (by decide) (Nat.lt_trans h hp)) (by decide)
  refine ⟨⟨fun n h => by obtain ⟨m, rfl⟩ := pos_of h; rfl, by simp [PyData.showable, hl], ?_, by simp [PyData.depth], by simp [PyData.bulk]⟩, fun n h => by obtain ⟨m, rfl⟩ := pos_of h; rfl, rfl⟩
  have l := int_text_length_le10 (k := 30) (by decide) h
  simp only [PyData.leavesShort, PyData.shown]
  refine decide_eq_true (Nat.le_trans ?_ (show 31 ≤ 64 by decide))
  rw [ofString_length]
  exact l
theorem sc_str {s : Str} (h : ∀ c ∈ s.cps.toList, c < 128) : Sc μ 0 s.length (.str s) (.str s) := by
  refine ⟨⟨fun n h => by obtain ⟨m, rfl⟩ := pos_of h; rfl, rfl, ?_, by simp [PyData.depth], by simp [PyData.bulk, Str.length]⟩, fun n h => by obtain ⟨m, rfl⟩ := pos_of h; rfl, ?_⟩
  · simp only [PyData.leavesShort, List.all_eq_true, decide_eq_true_eq]
    exact fun c hc => Nat.lt_trans (h c hc) (by decide)
  · show PyData.strOk s = true
    unfold PyData.strOk
    rw [← Array.all_toList, List.all_eq_true]
    exact fun c hc => decide_eq_true (Nat.lt_trans (h c hc) (by decide))
theorem Tl.mono {d2 w2 : Nat} (h : Tl μ d w x p) (h1 : d ≤ d2) (h2 : w ≤ w2) : Tl μ d2 w2 x p := ⟨fun n hn => h.py n (by omega), h.sh, h.lv, by have := h.dp; omega, by have := h.bk; omega⟩
theorem Sc.mono {d2 w2 : Nat} (h : Sc μ d w x p) (h1 : d ≤ d2) (h2 : w ≤ w2) : Sc μ d2 w2 x p := ⟨h.toTl.mono h1 h2, fun n hn => h.p0 n (by omega), h.cl⟩
/-- a row of such -/
inductive Tls (μ : List MO) (d : Nat) : Nat → List D → List PyData → Prop
  | nil : Tls μ d 0 [] []
  | cons {w u : Nat} {x : D} {p : PyData} {xs : List D} {ps : List PyData} : Tl μ d w x p → Tls μ d u xs ps → Tls μ d (w + 1 + u) (x :: xs) (p :: ps)
inductive Scs (μ : List MO) (d : Nat) : Nat → List D → List PyData → Prop
  | nil : Scs μ d 0 [] []
  | cons {w u : Nat} {x : D} {p : PyData} {xs : List D} {ps : List PyData} : Sc μ d w x p → Scs μ d u xs ps → Scs μ d (w + 1 + u) (x :: xs) (p :: ps)
theorem Scs.tls {u : Nat} {xs : List D} {ps : List PyData} (h : Scs μ d u xs ps) : Tls μ d u xs ps := by
  induction h with
  | nil => exact .nil
  | cons h _ ih => exact .cons h.toTl ih
theorem Tls.all {u : Nat} {xs : List D} {ps : List PyData} (h : Tls μ d u xs ps) : (∀ n, d < n → toPyL (toPyX μ n) xs = some ps) ∧ PyData.showableAll ps = true ∧ PyData.leavesShortAll 64 ps = true ∧ PyData.depthAll ps ≤ d ∧ PyData.bulkAll ps ≤ u := by
  induction h with
  | nil => exact ⟨fun _ _ => rfl, rfl, rfl, by simp [PyData.depthAll], by simp [PyData.bulkAll]⟩
  | cons h _ ih =>
    obtain ⟨a, b, c, e, f⟩ := ih
    refine ⟨fun n hn => by simp [toPyL, h.py n hn, a n hn], by simp [PyData.showableAll, h.sh, b], by simp [PyData.leavesShortAll, h.lv, c], ?_, ?_⟩
    · have := h.dp
      simp only [PyData.depthAll]
      omega
    · have := h.bk
      simp only [PyData.bulkAll]
      omega
theorem Scs.all {u : Nat} {xs : List D} {ps : List PyData} (h : Scs μ d u xs ps) : (∀ n, d < n → toPyL (toPy μ n) xs = some ps) ∧ PyData.canLayAll0 ps = true := by
  induction h with
  | nil => exact ⟨fun _ _ => rfl, rfl⟩
  | cons h _ ih => exact ⟨fun n hn => by simp [toPyL, h.p0 n hn, ih.1 n hn], by simp [PyData.canLayAll0, h.cl, ih.2]⟩
theorem Tls.tup {u : Nat} {xs : List D} {ps : List PyData} (h : Tls μ d u xs ps) : Tl μ (d + 1) u (.tup xs) (.tuple ps) := by
  obtain ⟨a, b, c, e, f⟩ := h.all
  refine ⟨fun n hn => ?_, by simpa [PyData.showable] using b, by simpa [PyData.leavesShort] using c, by simp only [PyData.depth]; omega, by simpa [PyData.bulk] using f⟩
  obtain ⟨m, rfl⟩ := pos_of hn
  simp [toPyX, a m (by omega)]
theorem Tls.lst {u : Nat} {xs : List D} {ps : List PyData} (h : Tls μ d u xs ps) : Tl μ (d + 1) u (.lst xs) (.list ps) := by
  obtain ⟨a, b, c, e, f⟩ := h.all
  refine ⟨fun n hn => ?_, by simpa [PyData.showable] using b, by simpa [PyData.leavesShort] using c, by simp only [PyData.depth]; omega, by simpa [PyData.bulk] using f⟩
  obtain ⟨m, rfl⟩ := pos_of hn
  simp [toPyX, a m (by omega)]
theorem Tls.mutl {u k : Nat} {xs : List D} {ps : List PyData} (h : Tls μ d u xs ps) (hk : μ[k]? = some (.lst xs)) : Tl μ (d + 1) u (.mut k) (.list ps) := by
  obtain ⟨a, b, c, e, f⟩ := h.all
  refine ⟨fun n hn => ?_, by simpa [PyData.showable] using b, by simpa [PyData.leavesShort] using c, by simp only [PyData.depth]; omega, by simpa [PyData.bulk] using f⟩
  obtain ⟨m, rfl⟩ := pos_of hn
  simp [toPyX, hk, a m (by omega)]
theorem tl_dct0 : Tl μ 1 0 (.dct [] []) (.dict []) := by
  refine ⟨fun n hn => ?_, rfl, rfl, by simp [PyData.depth, PyData.depthKv], by simp [PyData.bulk, PyData.bulkKv]⟩
  obtain ⟨m, rfl⟩ := pos_of hn
  rfl
theorem Scs.tup {u : Nat} {xs : List D} {ps : List PyData} (h : Scs μ d u xs ps) : Sc μ (d + 1) u (.tup xs) (.tuple ps) := by
  obtain ⟨a, c⟩ := h.all
  refine ⟨h.tls.tup, fun n hn => ?_, by simpa [PyData.canLay0] using c⟩
  obtain ⟨m, rfl⟩ := pos_of hn
  simp [toPy, a m (by omega)]
theorem Scs.lst {u : Nat} {xs : List D} {ps : List PyData} (h : Scs μ d u xs ps) : Sc μ (d + 1) u (.lst xs) (.list ps) := by
  obtain ⟨a, c⟩ := h.all
  refine ⟨h.tls.lst, fun n hn => ?_, by simpa [PyData.canLay0] using c⟩
  obtain ⟨m, rfl⟩ := pos_of hn
  simp [toPy, a m (by omega)]
theorem Scs.mutl {u k : Nat} {xs : List D} {ps : List PyData} (h : Scs μ d u xs ps) (hk : μ[k]? = some (.lst xs)) : Sc μ (d + 1) u (.mut k) (.list ps) := by
  obtain ⟨a, c⟩ := h.all
  refine ⟨h.tls.mutl hk, fun n hn => ?_, by simpa [PyData.canLay0] using c⟩
  obtain ⟨m, rfl⟩ := pos_of hn
  simp [toPy, hk, a m (by omega)]
theorem Tl.repr {nm : Nat → Option Str} (h : Tl μ d w x p) (hd : d ≤ 12) (hw : w ≤ 9000) : reprX nm [x] μ = some (.str p.shown, μ) := by
  have l := PyData.shown_le_bulk 64 (by decide) p h.lv
  have b := h.bk
  have e := h.py DEEP (by show d < 16; omega)
  have dp := h.dp
  simp only [reprX, e]
  rw [if_pos ⟨h.sh, by omega, by omega⟩]
theorem Sc.eq {y : D} {w2 d2 : Nat} {q : PyData} (h : Sc μ d w x p) (g : Sc μ d2 w2 y q) (hd : d ≤ 12) (hd2 : d2 ≤ 12) : eqP x y μ = some (PyData.eqv p q) := by
  have e := h.p0 DEEP (by show d < 16; omega)
  have f := g.p0 DEEP (by show d2 < 16; omega)
  have a := h.dp
  have b := g.dp
  have s1 : shp p = true := by simp only [shp, SeqAt.shaped, h.cl, Bool.true_and, decide_eq_true_eq]; omega
  have s2 : shp q = true := by simp only [shp, SeqAt.shaped, g.cl, Bool.true_and, decide_eq_true_eq]; omega
  simp only [eqP, e, f]
  rw [if_pos ⟨s1, s2⟩]
theorem eqv_self (h : p.canLay0 = true) : PyData.eqv p p = true := PySem.SeqAt.eqv_refl p h
end
end GL

set_option Elab.async false
set_option linter.all false
set_option autoImplicit false
set_option maxRecDepth 100000
set_option maxHeartbeats 2000000
namespace G
open PySem PySem.Spec PySem.Calls L2
/-! ### list comprehensions over a list that may change -/
open Classical in
noncomputable def lcLoopP (P : List MO → Prop) (g : GF) (tt : TF) (te : EF) (δ : List SV) : List D → List MO → Option (List D × List MO)
  | [], μ => if P μ then some ([], μ) else none
  | d :: ds, μ => if P μ then (match g d δ with
    | none => none
    | some δ1 => match tt δ1 μ with
      | none => none
      | some (false, μ1) => lcLoopP P g tt te δ ds μ1
      | some (true, μ1) => match te δ1 μ1 with
        | none => none
        | some (y, μ2) => match lcLoopP P g tt te δ ds μ2 with
          | some (ys, μ3) => some (y :: ys, μ3)
          | none => none) else none
noncomputable def nLcP (i : IFP) (g : GF) (tt : TF) (te : EF) (vs : List Nat) : NF := fun δ μ => match i δ μ with
  | some (w, μ1) => if w.ds.length ≤ 1000000 then lcLoopP w.P g tt te (wipeD δ vs) w.ds μ1 else none
  | none => none
section
variable {X : Cx} {cl : Nat → Addr}
theorem lcP_run {fi : IFP} {g : GF} {tt : TF} {te : EF} {ix vs : List Nat} {Γ : Gm} {σ : L2.St} {H : Hp} {Q : VK} (hix : ∀ j ∈ ix, j ∈ vs) (h : tN Γ (nLcP fi g tt te vs) σ H Q) : tLc (tIP Γ fi) (tG Γ g ix) (tT Γ tt) (tE Γ te) vs σ H Q := by
  obtain ⟨O, ms, F, δ, μ, dz, μ', R, ev, k⟩ := h
  unfold nLcP at ev
  split at ev
  · rename_i wk μ1 e1
    obtain ⟨ds, Pm⟩ := wk
    split at ev
    · rename_i hz
      have hz : ds.length ≤ 1000000 := hz
      refine ⟨O, ms, F, δ, μ, ⟨ds, Pm⟩, μ1, R, e1, fun J H1 ms1 F1 r1 s1 Y D0 hD0 => ?_⟩
      have R1 := R.step r1 s1
      let P : Nat → Hp → Prop := fun i H => ∃ ms F μ acc accV ys, HR Γ ms F H μ ∧ Stp ms1 ms F1 F H1 H ∧ H D0 = some (.lst accV) ∧ HasL Γ ms F accV acc ∧ D0 ∉ ms ∧ F D0 = none ∧ acc.length ≤ i ∧ lcLoopP Pm g tt te (wipeD δ vs) (ds.drop i) μ = some (ys, μ') ∧ acc ++ ys = dz
      obtain ⟨r0, s0⟩ := r1.extra hD0 (.lst [])
      refine ⟨fun i m H => m = ds.length - i ∧ i ≤ ds.length ∧ P i H, ⟨_, rfl, Nat.zero_le _, ms1, F1, μ1, [], [], dz, r0, s0, upd_same, rfl, (r1.fresh_not hD0).1, (r1.fresh_not hD0).2, Nat.le_refl _, by simpa using ev, rfl⟩, ?_⟩
      rintro i m H2 ⟨rfl, hi, ms2, F2, μ2, acc, accV, ys, r2, s2, hD2, hl2, hm2, hF2, hai, ev2, et⟩
      by_cases hlt : i < ds.length
      · have hd : ds[i]? = some ds[i] := List.getElem?_eq_getElem hlt
        rw [List.drop_eq_getElem_cons hlt] at ev2
        unfold lcLoopP at ev2
        by_cases hP : Pm μ2
        rotate_left
        · rw [if_neg hP] at ev2; cases ev2
        rw [if_pos hP] at ev2
        refine .inr ⟨Y.go ms2 F2 H2 μ2 i r2 s2.ext hP hlt, P (i + 1), fun H' p' => ⟨_, by omega, rfl, hlt, p'⟩, fun x H' y => ?_⟩
        obtain ⟨ms3, F3, r3, s3, q3⟩ := Y.yld ms2 F2 H2 μ2 i _ x H' r2 s2.ext hP hd y
        split at ev2
        · cases ev2
        · rename_i δ3 eg
          have s13 := s2.trans' r2 s3
          have R3 := (R1.step r3 s13).wipe vs
          have hD3 : H' D0 = some (.lst accV) := s3.keep D0 _ hD2 hm2
          have notin : ∀ {msa msb : List Addr} {Fa Fb Ha Hb : Hp}, Stp msa msb Fa Fb Ha Hb → D0 ∉ msa → Ha D0 = some (.lst accV) → D0 ∉ msb := fun {msa msb Fa Fb Ha Hb} s hn hD z => by
            obtain ⟨new, e, fr⟩ := s.new
            rw [e] at z
            rcases List.mem_append.mp z with z | z
            · exact hn z
            · rw [fr D0 z] at hD; cases hD
          have hm3 := notin s3 hm2 hD2
          have hF3 : F3 D0 = none := s3.fnew D0 hF2 (by rw [hD2]; exact fun q => nomatch q)
          refine ⟨O, ms3, F3, _, μ2, _, δ3, R3, q3, eg, fun σ4 R4 l4 a4 => ⟨wipe_eq l4 a4 hix, ?_⟩⟩
          split at ev2
          · cases ev2
          · rename_i μ5 etst
            refine tT.seq R4 etst fun H5 ms5 F5 R5 s5 => ?_
            refine iteF ?_
            exact ⟨ms5, F5, _, acc, accV, ys, R5.hr, s13.trans' r3 s5, s5.keep D0 _ hD3 hm3, (hl2.step s3).step s5, notin s5 hm3 hD3, s5.fnew D0 hF3 (by rw [hD3]; exact fun q => nomatch q), by omega, ev2, et⟩
          · rename_i μ5 etst
            refine tT.seq R4 etst fun H5 ms5 F5 R5 s5 => ?_
            refine iteT ?_
            have hD5 := s5.keep D0 _ hD3 hm3
            have hm5 := notin s5 hm3 hD3
            have hF5 : F5 D0 = none := s5.fnew D0 hF3 (by rw [hD3]; exact fun q => nomatch q)
            split at ev2
            · cases ev2
            · rename_i y μ6 ee
              refine tE.seq R5 ee fun v H6 ms6 F6 R6 s6 q6 => ?_
              split at ev2
              · rename_i ys' μ7 el
                cases ev2
                have hD6 := s6.keep D0 _ hD5 hm5
                have hm6 := notin s6 hm5 hD5
                have hF6 : F6 D0 = none := s6.fnew D0 hF5 (by rw [hD5]; exact fun q => nomatch q)
                have s16 : Stp ms1 ms6 F1 F6 H1 H6 := (s13.trans' r3 s5).trans' R5.hr s6
                have hacc : HasL Γ ms6 F6 accV acc := ((hl2.step s3).step s5).step s6
                refine ⟨accV, hD6, by rw [hacc.length, sizeLine_eq]; omega, ms6, F6, _, acc ++ [y], accV ++ [v], ys', R6.hr.other hm6 hF6 _, ⟨s16.new, fun b o e hn => ?_, s16.fsub, s16.fnew⟩, upd_same, hacc.append (HasL.one q6), hm6, hF6, by simp; omega, el, by rw [← et]; simp⟩
                have hne : b ≠ D0 := fun z => by rw [z, hD0] at e; cases e
                rw [upd_ne hne]; exact s16.keep b o e hn
              · cases ev2
      · have : i = ds.length := by omega
        subst this
        rw [List.drop_length] at ev2
        unfold lcLoopP at ev2
        by_cases hP : Pm μ2
        rotate_left
        · rw [if_neg hP] at ev2; cases ev2
        rw [if_pos hP] at ev2
        cases ev2
        have et' : acc = dz := by rw [← et]; simp
        subst et'
        refine .inl ⟨Y.stop ms2 F2 H2 _ r2 s2.ext hP, k accV H2 ms2 F2 D0 r2 (s1.trans' r1 s2) hl2 hD2 (s1.old r1 D0 hD0) hm2 hF2⟩
    · cases ev
  · cases ev
theorem dn_lcP {elt tg iter : Expr} {ifs : List Expr} {scope : Scope} {own : List (Str × Nat)} {pos : Pos} {fi : IFP} {g : GF} {tt : TF} {te : EF} {ix : List Nat} (hc : X.calm = true) (hN : X.N.Nodup) (hi : DIP X cl tg iter fi) (ok : BlkOk X.N X.env.scope scope own)
    (hg : ∀ (s : Shared) (H : Hp) (C : Addr) (cls : List (Str × Addr)) (fp : List Addr), DG (X.blk s H scope (compEnvC scope cls C X.env) fp) cl tg g ix) (ht : ∀ (s : Shared) (H : Hp) (C : Addr) (cls : List (Str × Addr)) (fp : List Addr), DTs (X.blk s H scope (compEnvC scope cls C X.env) fp) cl ifs tt)
    (he : ∀ (s : Shared) (H : Hp) (C : Addr) (cls : List (Str × Addr)) (fp : List Addr), DE (X.blk s H scope (compEnvC scope cls C X.env) fp) cl elt te) (hix : ∀ j ∈ ix, j ∈ own.map (·.2) := by decide) (hs : ∀ x, foldedSetIterable iter X.env x = pure x := by intro _; rfl) :
    DN X cl (.ListComp elt [⟨tg, iter, ifs, 0⟩] scope pos) (nLcP fi g tt te (own.map (·.2))) := ⟨(pe_lc hc hN hi.p ok (g := tG (gm X cl) g ix) (tt := tT (gm X cl) tt) (te := tE (gm X cl) te) (fun s H C cls fp => gmB hc _ _ ▸ (hg s H C cls fp).p) (fun s H C cls fp => gmB hc _ _ ▸ (ht s H C cls fp).p) (fun s H C cls fp => gmB hc _ _ ▸ (he s H C cls fp).p) hs).weak fun σ H Q h => lcP_run hix h⟩
end
end G
namespace GL
open G PySem
theorem lcP_eq {P : List MO → Prop} {i : Nat} {te : EF} {δ : List SV} : ∀ {ds ys : List D} {μ : List MO}, P μ → (∀ p ∈ ds.zip ys, te (δ.set i (.d p.1)) μ = some (p.2, μ)) → ds.length = ys.length → lcLoopP P (nmG i) tYesD te δ ds μ = some (ys, μ)
  | [], [], μ, hp, _, _ => by
    unfold lcLoopP
    rw [if_pos hp]
  | d :: ds, y :: ys, μ, hp, h, hl => by
    have e := h (d, y) (by simp)
    have r := lcP_eq (ds := ds) (ys := ys) hp (fun q hq => h q (by simp [hq])) (by simpa using hl)
    unfold lcLoopP
    rw [if_pos hp]
    simp only [nmG, tYesD, e, r]
  | [], _ :: _, _, _, _, hl => by cases hl
  | _ :: _, [], _, _, _, hl => by cases hl
theorem nLcP_at {it : IFP} {g : GF} {tt : TF} {te : EF} {vs : List Nat} {δ : List SV} {μ μ1 : List MO} {w : Walk} {r : Option (List D × List MO)} (h : it δ μ = some (w, μ1)) (hl : w.ds.length ≤ 1000) (e : lcLoopP w.P g tt te (wipeD δ vs) w.ds μ1 = r) : nLcP it g tt te vs δ μ = r := by
  simp only [nLcP, h]
  rw [if_pos (by omega)]
  exact e
theorem iLM_at {f : EF} {k : Nat} {ds : List D} {δ : List SV} {μ μ1 : List MO} (h : f δ μ = some (.mut k, μ1)) (hk : μ1[k]? = some (.lst ds)) : iLM f δ μ = some (⟨ds, fun μ => μ[k]? = some (.lst ds)⟩, μ1) := by simp [iLM, eThen, h, srcD, hk]
end GL

set_option Elab.async false
set_option linter.all false
set_option autoImplicit false
set_option maxRecDepth 100000
set_option maxHeartbeats 2000000
namespace GL
open PySem PySem.Spec PySem.Calls L2 G
/-! ### what changes -/
def Ch (S : List Nat) (μ μ' : List MO) : Prop := ∀ (i : Nat) (o : MO), i ∉ S → μ[i]? = some o → μ'[i]? = some o
section
variable {S T : List Nat} {μ μ' μ'' : List MO} {a i k : Nat} {o : MO}
theorem Ch.refl (S : List Nat) (μ : List MO) : Ch S μ μ := fun _ _ _ e => e
theorem Ch.trans (h : Ch S μ μ') (g : Ch S μ' μ'') : Ch S μ μ'' := fun i o n e => g i o n (h i o n e)
theorem Ch.mono (h : Ch S μ μ') (k : ∀ x ∈ S, x ∈ T) : Ch T μ μ' := fun i o n e => h i o (fun z => n (k i z)) e
theorem Ch.set (h : a ∈ S) : Ch S μ (μ.set a o) := fun i u n e => kept e (fun z => n (z ▸ h))
theorem Ch.app (ν : List MO) : Ch S μ (μ ++ ν) := fun _ _ _ e => getP e
theorem Ch.of (h : Keeps μ μ') : Ch S μ μ' := fun i o _ e => h i o e
theorem lt_of {i : Nat} {o : MO} (h : μ[i]? = some o) : i < μ.length := (List.getElem?_eq_some_iff.mp h).1
theorem Ch.grow (h : Ch S μ μ') (l : ∀ i, i < μ.length → i ∈ S → i < μ'.length) : μ.length ≤ μ'.length := by
  by_cases z : μ.length = 0
  · omega
  · have q : μ.length - 1 < μ.length := by omega
    have e := List.getElem?_eq_getElem q
    by_cases m : μ.length - 1 ∈ S
    · have := l _ q m; omega
    · have := lt_of (h _ _ m e)
      omega
theorem app_at (μ : List MO) (o : MO) : (μ ++ [o])[μ.length]? = some o := by simp
theorem set_app (μ : List MO) (o u : MO) : (μ ++ [o]).set μ.length u = μ ++ [u] := by rw [List.set_append_right _ _ (Nat.le_refl _), Nat.sub_self]; rfl
theorem set_app2 (μ : List MO) (o u v : MO) : (μ ++ [o, v]).set μ.length u = μ ++ [u, v] := by rw [List.set_append_right _ _ (Nat.le_refl _), Nat.sub_self]; rfl
end
/-! ### dicts -/
section
variable {μ μ1 μ2 μ3 : List MO} {δ : List SV} {fe fo fi : EF} {v kd : D} {j : Nat} {k : Key} {ks : List Key} {xs : List D} {x y d : D}
theorem stA_dct (h1 : fe δ μ = some (v, μ1)) (h2 : fo δ μ1 = some (.mut j, μ2)) (h3 : fi δ μ2 = some (kd, μ3)) (hk : keyD kd = some k) (ho : μ3[j]? = some (.dct ks xs)) (hl : ks.length < 1000000) :
    bStA fe fo fi δ μ = some (.nx δ (μ3.set j (.dct (putX ks xs k v).1 (putX ks xs k v).2))) := by
  simp only [bStA, h1, h2, h3, dctD, ho, bDPut, hk]
  rw [if_pos hl]
theorem stA_lst {m : Nat} {n : Int} (h1 : fe δ μ = some (v, μ1)) (h2 : fo δ μ1 = some (.mut j, μ2)) (h3 : fi δ μ2 = some (.int n, μ3)) (ho : μ3[j]? = some (.lst xs)) (hi : ixN xs.length n = some m) :
    bStA fe fo fi δ μ = some (.nx δ (μ3.set j (.lst (xs.set m v)))) := by
  simp only [bStA, h1, h2, h3, dctD, ho, bSt, hi]
theorem ixA_dct (h : dctD μ x = some (ks, xs)) (hk : keyD y = some k) (hl : lookK k ks xs = some d) : ixA x y μ = some (d, μ) := by simp [ixA, h, hk, hl]
theorem ixA_lst {m : Nat} (h : μ[j]? = some (.lst xs)) (hj : xs[m]? = some d) : ixA (.mut j) (.int (m : Nat)) μ = some (d, μ) := by
  simp only [ixA, dctD, h]
  exact mut_ix h hj
theorem ixA_frz {m : Nat} (hj : xs[m]? = some d) : ixA (.lst xs) (.int (m : Nat)) μ = some (d, μ) := by
  simp only [ixA, dctD]
  exact ix_seq (sk := .l) rfl hj
theorem ixA_tup {m : Nat} (hj : xs[m]? = some d) : ixA (.tup xs) (.int (m : Nat)) μ = some (d, μ) := by
  simp only [ixA, dctD]
  exact ix_seq (sk := .t) rfl hj
theorem ixA_frz_of {d : Int} (h0 : 0 ≤ d) (h1 : d < xs.length) : ∃ x, ixA (.lst xs) (.int d) μ = some (x, μ) ∧ x ∈ xs := by
  simp only [ixA, dctD]
  exact ix_lst h0 h1
theorem lstA_dct (h : dctD μ x = some (ks, xs)) : lstA [x] μ = some (.mut μ.length, μ ++ [.lst (ks.map keyV)]) := by simp [lstA, h]
theorem lenA_dct (h : dctD μ x = some (ks, xs)) : lenA [x] μ = some (.int ks.length, μ) := by simp [lenA, h]
theorem dctG_dct (h : dctD μ x = some (ks, xs)) : dctG [x] μ = some (.mut μ.length, μ ++ [.dct ks xs]) := by simp [dctG, h]
theorem dct_mut (h : μ[j]? = some (.dct ks xs)) : dctD μ (.mut j) = some (ks, xs) := by simp only [dctD, h]
theorem lenA_lst (h : μ[j]? = some (.lst xs)) : lenA [.mut j] μ = some (.int xs.length, μ) := by
  simp only [lenA, dctD, h]
  exact len_seq (seq_mut h)
end
/-! ### dicts with whole numbers for keys -/
section
variable {i : Int} {x : D}
theorem look_new : ∀ {ks : List Int} {xs : List D}, (∀ k ∈ ks, k ≠ i) → lookK (.inl i) (ks.map Sum.inl) xs = none
  | [], _, _ => rfl
  | _ :: _, [], _ => rfl
  | k :: ks, x :: xs, h => by
    have n : (Sum.inl k : Key) ≠ .inl i := fun z => h k (by simp) (by cases z; rfl)
    simp only [List.map_cons, lookK]
    rw [if_neg n]
    exact look_new fun j hj => h j (by simp [hj])
theorem look_yes : ∀ {ks : List Int} {xs : List D}, i ∈ ks → ks.length = xs.length → ∃ x ∈ xs, lookK (.inl i) (ks.map Sum.inl) xs = some x
  | [], _, h, _ => nomatch h
  | _ :: _, [], _, hl => by cases hl
  | k :: ks, x :: xs, h, hl => by
    by_cases e : k = i
    · subst e
      exact ⟨x, by simp, by simp [lookK]⟩
    · have n : (Sum.inl k : Key) ≠ .inl i := fun z => e (by cases z; rfl)
      obtain ⟨y, hy, q⟩ := look_yes (ks := ks) (xs := xs) (by simpa [Ne.symm e] using h) (by simpa using hl)
      refine ⟨y, by simp [hy], ?_⟩
      simp only [List.map_cons, lookK]
      rw [if_neg n]
      exact q
theorem put_new {ks : List Int} {xs : List D} (h : ∀ k ∈ ks, k ≠ i) : putX (ks.map Sum.inl) xs (.inl i) x = ((ks ++ [i]).map Sum.inl, xs ++ [x]) := by
  unfold putX
  rw [if_neg (by
    simp only [List.any_eq_true, decide_eq_true_eq, not_exists, not_and]
    intro k hk z
    subst z
    obtain ⟨j, hj, e⟩ := List.mem_map.mp hk
    cases e
    exact h i hj rfl)]
  simp
theorem drop_int : ∀ (ks : List Int) (xs : List D), ks.length = xs.length → ∃ (ls : List Int) (ys : List D), dropD (.inl i) (ks.map Sum.inl) xs = (ls.map Sum.inl, ys) ∧ ls.Sublist ks ∧ ys.Sublist xs ∧ ls.length = ys.length
  | [], _, _ => ⟨[], [], rfl, .slnil, List.nil_sublist _, rfl⟩
  | _ :: _, [], hl => by cases hl
  | k :: ks, x :: xs, hl => by
    obtain ⟨ls, ys, e, h1, h2, h3⟩ := drop_int ks xs (by simpa using hl)
    by_cases c : k = i
    · subst c
      refine ⟨ls, ys, ?_, h1.cons _, h2.cons _, h3⟩
      simp only [List.map_cons, dropD, if_true]
      exact e
    · have n : (Sum.inl k : Key) ≠ .inl i := fun z => c (by cases z; rfl)
      refine ⟨k :: ls, x :: ys, ?_, h1.cons₂ _, h2.cons₂ _, by simp [h3]⟩
      simp only [List.map_cons, dropD]
      rw [if_neg n, e]
theorem intKeys_map : ∀ ks : List Int, intKeys (ks.map Sum.inl) = some ks
  | [] => rfl
  | k :: ks => by simp [intKeys, intKeys_map ks]
theorem keyV_map (ks : List Int) : (ks.map (Sum.inl (β := Str))).map keyV = ks.map D.int := by simp [keyV]
theorem sortedA_dct {ks : List Int} {xs : List D} {μ : List MO} {y : D} (h : dctD μ y = some (ks.map Sum.inl, xs)) (hs : ks.Pairwise (· < ·)) : sortedA [y] μ = some (.mut μ.length, μ ++ [.lst (ks.map D.int)]) := by
  simp only [sortedA, h, intKeys_map, srtI_same (hs.imp fun h => Int.le_of_lt h)]
theorem ints_sc {μ : List MO} : ∀ {ks : List Int}, (∀ k ∈ ks, k.natAbs < 10 ^ 30) → ∃ u, Scs μ 0 u (ks.map D.int) (ks.map PyData.int)
  | [], _ => ⟨_, .nil⟩
  | k :: ks, h => by
    obtain ⟨u, e⟩ := ints_sc (μ := μ) (ks := ks) fun j hj => h j (by simp [hj])
    exact ⟨_, .cons (sc_int (h k (by simp))) e⟩
/-- data that can be told in any memory -/
def Lt (x : D) : Prop := ∃ p, ∀ μ, Sc μ 3 100 x p
theorem lts_sc {μ : List MO} : ∀ {xs : List D}, (∀ x ∈ xs, Lt x) → ∃ u ps, Scs μ 3 u xs ps
  | [], _ => ⟨_, _, .nil⟩
  | x :: xs, h => by
    obtain ⟨u, ps, e⟩ := lts_sc (μ := μ) (xs := xs) fun y hy => h y (by simp [hy])
    obtain ⟨p, q⟩ := h x (by simp)
    exact ⟨_, _, .cons (q μ) e⟩
theorem eqD_of {x y : D} {p : PyData} {μ : List MO} {d w d2 w2 : Nat} (h : Sc μ d w x p) (g : Sc μ d2 w2 y p) (hd : d ≤ 12) (hd2 : d2 ≤ 12) (n : ∀ a b, ¬ (x = .str a ∧ y = .str b)) : eqD x y μ = some (.bl true, μ) ∧ neD x y μ = some (.bl false, μ) := by
  have e : eqP x y μ = some true := by rw [h.eq g hd hd2, eqv_self h.cl]
  constructor
  · unfold eqD
    split
    · rename_i a b
      exact absurd ⟨rfl, rfl⟩ (n a b)
    · simp only [e]
  · unfold neD
    split
    · rename_i a b
      exact absurd ⟨rfl, rfl⟩ (n a b)
    · simp only [e]; rfl
end
/-! ### loops that count -/
theorem for_cnt {J : Nat → List SV → List MO → Prop} {i : Nat} {body : BF} : ∀ (ds : List D) (m : Nat) (δ : List SV) (μ : List MO), J m δ μ → (∀ d ∈ ds, ∀ j δ μ, m ≤ j → j < m + ds.length → J j δ μ → ∃ δ' μ', body (δ.set i (.d d)) μ = some (.nx δ' μ') ∧ J (j + 1) δ' μ') →
    ∃ δ' μ', forLoop (nmG i) body ds δ μ = some (.nx δ' μ') ∧ J (m + ds.length) δ' μ'
  | [], m, δ, μ, h, _ => ⟨δ, μ, rfl, h⟩
  | d :: ds, m, δ, μ, h, st => by
    obtain ⟨δ1, μ1, e1, h1⟩ := st d (by simp) m δ μ (Nat.le_refl _) (by simp) h
    obtain ⟨δ2, μ2, e2, h2⟩ := for_cnt ds (m + 1) δ1 μ1 h1 fun y hy j δ μ a b => st y (by simp [hy]) j δ μ (by omega) (by simp only [List.length_cons]; omega)
    refine ⟨δ2, μ2, by rw [for_cons e1, e2], ?_⟩
    rw [List.length_cons, show m + (ds.length + 1) = m + 1 + ds.length by omega]
    exact h2
theorem mem_range {d : D} {n : Nat} (h : d ∈ rangeD 0 n) : ∃ k : Nat, d = .int k ∧ k < n := by
  unfold rangeD at h
  simp at h
  obtain ⟨k, hk, rfl⟩ := h
  exact ⟨k, rfl, hk⟩
end GL

set_option Elab.async false
set_option linter.all false
set_option autoImplicit false
set_option maxRecDepth 100000
set_option maxHeartbeats 4000000
namespace Law
open PySem PySem.Spec PySem.Calls L2 G
def top (i : Nat) : Stmt := PySem.Challenge.pw_peersmeet_k54_roads_bear_letters.main.body.getD i (.Pass ⟨0, 0, 0, 0⟩)
/-- the own exceptions whose repr is asked -/
def exNm : Nat → Option Str
  | _ => none
/-- which clause takes which -/
abbrev exMt : Nat → Nat → Option Bool := fun j C => pairT [(0, 2), (0, 0)] [(0, 3), (0, 1)] C j
def exIs : Nat → Nat → Option Bool := pairT [] []
def exFl_found : Nat → Bool := fun C => decide (C ∈ [0])
def clFl__last : Nat → Bool := fun C => decide (C ∈ [4])
def clFl__letters : Nat → Bool := fun C => decide (C ∈ [4])
/-- what the top holds -/
structure Txt (K : PySem.W.Frag) (mg : Str → Option Value) (cl : Nat → Addr) : Prop where
  x_nm : ∀ C n, exNm C = some n → RxC K (cl C) n
  x_exm : ∀ j C b, exMt j C = some b → PySem.W.exmOne K (.ref (cl C)) (.ref (cl j)) = some b
  x_is : ∀ C n b, exIs C n = some b → L2.ExcC K (cl C) ∧ PySem.W.kitOne K (.ref (cl C)) (.ref (cl n)) = some b
  x_fld_found : ∀ C, exFl_found C = true → XfC K (cl C) ∧ PySem.W.findIn K (.ref (cl C)) "found" = some none
  i_fld__last : ∀ C, clFl__last C = true → Cls K (cl C) ∧ NoAttr K (cl C) "_last"
  i_fld__letters : ∀ C, clFl__letters C = true → Cls K (cl C) ∧ NoAttr K (cl C) "_letters"
  m_Absent : mg "Absent" = some (.ref (cl 2))
  m_Barred : mg "Barred" = some (.ref (cl 3))
  m_NotOnRoad : mg "NotOnRoad" = some (.ref (cl 0))
  m_PeerError : mg "PeerError" = some (.ref (cl 1))
  n_bool : mg "bool" = none
  n_dict : mg "dict" = none
  n_int : mg "int" = none
  n_isinstance : mg "isinstance" = none
  n_len : mg "len" = none
  n_list : mg "list" = none
  n_max : mg "max" = none
  n_min : mg "min" = none
  n_range : mg "range" = none
  n_repr : mg "repr" = none
  n_sorted : mg "sorted" = none
section
variable {P : Program} {w : World} {K : PySem.W.Frag} {mg : Str → Option Value} {base : Heap} {cl : Nat → Addr}


abbrev s_is_number : Stmt := top 6
abbrev N_is_number : List Str := ["thing"]
theorem sc_is_number : FnScope N_is_number ["thing"] (defScope s_is_number) := ⟨rfl, rfl, rfl, by decide +kernel, rfl, by decide +kernel, by decide +kernel⟩
def b_is_number : BF := bRet (eAndV (eCall isiG (aCons (eVar 0) (aCons (eC (.ty "int")) (aNil)))) (eNotV (eCall isiG (aCons (eVar 0) (aCons (eC (.ty "bool")) (aNil))))))
def f_is_number : FF := runB 1 b_is_number
theorem ok_is_number (T : Txt K mg cl)  {f : Addr} {fd : FuncData} (F : Fun K "is_number" "is_number" s_is_number f fd) : FnG P w K mg base 1 f fd 1 ["thing"] (spF (gk K cl) 1 f_is_number) := by
  have nd := sc_is_number.nd
  exact fn_ok F sc_is_number rfl fun cdv A outer s H hgd hr => (db_one (ds_ret (de_and (de_callB (cd_isi fun _ _ _ => trivial) rfl T.n_isinstance (by decide +kernel) (da_cons (de_var (pv 0)) (da_cons (de_c (v := .ty "int") (pe_bltn rfl T.n_int (by decide +kernel) rfl) fun _ _ => rfl) da_nil))) (de_one (de_not (de_callB (cd_isi fun _ _ _ => trivial) rfl T.n_isinstance (by decide +kernel) (da_cons (de_var (pv 0)) (da_cons (de_c (v := .ty "bool") (pe_bltn rfl T.n_bool (by decide +kernel) rfl) fun _ _ => rfl) da_nil))))))))

abbrev s_Roads___init__ : Stmt := inClass (top 8) 0
abbrev N_Roads___init__ : List Str := ["self"]
theorem sc_Roads___init__ : FnScope N_Roads___init__ ["self"] (defScope s_Roads___init__) := ⟨rfl, rfl, rfl, by decide +kernel, rfl, by decide +kernel, by decide +kernel⟩
def b_Roads___init__ : BF := bThen (bFld "_letters" clFl__letters (eVar 0) (eDctM0)) (bFld "_last" clFl__last (eVar 0) (eC (.int 0)))
def f_Roads___init__ : FF := runB 1 b_Roads___init__
theorem ok_Roads___init__ (T : Txt K mg cl)  {f : Addr} {fd : FuncData} (F : Fun K "__init__" "Roads.__init__" s_Roads___init__ f fd) : FnG P w K mg base 1 f fd 1 ["self"] (spF (gk K cl) 1 f_Roads___init__) := by
  have nd := sc_Roads___init__.nd
  exact fn_ok F sc_Roads___init__ rfl fun cdv A outer s H hgd hr => (db_cons (ds_fld (de_var (pv 0)) de_dctM0 T.i_fld__letters) (db_one (ds_fld (de_var (pv 0)) de_int T.i_fld__last)))

abbrev s_Roads___len__ : Stmt := inClass (top 8) 1
abbrev N_Roads___len__ : List Str := ["self"]
theorem sc_Roads___len__ : FnScope N_Roads___len__ ["self"] (defScope s_Roads___len__) := ⟨rfl, rfl, rfl, by decide +kernel, rfl, by decide +kernel, by decide +kernel⟩
def b_Roads___len__ : BF := bRet (eCall lenA (aCons (eFld "_letters" clFl__letters (eVar 0)) (aNil)))
def f_Roads___len__ : FF := runB 1 b_Roads___len__
theorem ok_Roads___len__ (T : Txt K mg cl)  {f : Addr} {fd : FuncData} (F : Fun K "__len__" "Roads.__len__" s_Roads___len__ f fd) : FnG P w K mg base 1 f fd 1 ["self"] (spF (gk K cl) 1 f_Roads___len__) := by
  have nd := sc_Roads___len__.nd
  exact fn_ok F sc_Roads___len__ rfl fun cdv A outer s H hgd hr => (db_one (ds_ret (de_callB cd_lenA rfl T.n_len (by decide +kernel) (da_cons (de_fld (de_var (pv 0)) T.i_fld__letters) da_nil))))

abbrev s_Roads_put : Stmt := inClass (top 8) 2
abbrev N_Roads_put : List Str := ["self", "letter"]
theorem sc_Roads_put : FnScope N_Roads_put ["self", "letter"] (defScope s_Roads_put) := ⟨rfl, rfl, rfl, by decide +kernel, rfl, by decide +kernel, by decide +kernel⟩
def b_Roads_put : BF := bThen (bFldInc "_last" clFl__last (eVar 0) (eC (.int 1))) (bThen (bStA (eVar 1) (eFld "_letters" clFl__letters (eVar 0)) (eFld "_last" clFl__last (eVar 0))) (bRet (eFld "_last" clFl__last (eVar 0))))
def f_Roads_put : FF := runB 2 b_Roads_put
theorem ok_Roads_put (T : Txt K mg cl)  {f : Addr} {fd : FuncData} (F : Fun K "put" "Roads.put" s_Roads_put f fd) : FnG P w K mg base 1 f fd 2 ["self", "letter"] (spF (gk K cl) 2 f_Roads_put) := by
  have nd := sc_Roads_put.nd
  exact fn_ok F sc_Roads_put rfl fun cdv A outer s H hgd hr => (db_cons (ds_fldInc (de_var (pv 0)) de_int T.i_fld__last) (db_cons (ds_stA hr.un65 (de_var (pv 1)) (de_fld (de_var (pv 0)) T.i_fld__letters) (de_fld (de_var (pv 0)) T.i_fld__last)) (db_one (ds_ret (de_fld (de_var (pv 0)) T.i_fld__last)))))

abbrev s_Roads_numbers : Stmt := inClass (top 8) 6
abbrev N_Roads_numbers : List Str := ["self"]
theorem sc_Roads_numbers : FnScope N_Roads_numbers ["self"] (defScope s_Roads_numbers) := ⟨rfl, rfl, rfl, by decide +kernel, rfl, by decide +kernel, by decide +kernel⟩
def b_Roads_numbers : BF := bRet (eCall sortedA (aCons (eFld "_letters" clFl__letters (eVar 0)) (aNil)))
def f_Roads_numbers : FF := runB 1 b_Roads_numbers
theorem ok_Roads_numbers (T : Txt K mg cl)  {f : Addr} {fd : FuncData} (F : Fun K "numbers" "Roads.numbers" s_Roads_numbers f fd) : FnG P w K mg base 1 f fd 1 ["self"] (spF (gk K cl) 1 f_Roads_numbers) := by
  have nd := sc_Roads_numbers.nd
  exact fn_ok F sc_Roads_numbers rfl fun cdv A outer s H hgd hr => (db_one (ds_ret (de_callB (cd_sortedA rfl) rfl T.n_sorted (by decide +kernel) (da_cons (de_fld (de_var (pv 0)) T.i_fld__letters) da_nil))))

abbrev s__law_cell : Stmt := top 10
abbrev N__law_cell : List Str := ["script", "k"]
theorem sc__law_cell : FnScope N__law_cell ["script", "k"] (defScope s__law_cell) := ⟨rfl, rfl, rfl, by decide +kernel, rfl, by decide +kernel, by decide +kernel⟩
def b__law_cell : BF := bThen (bIf (asB (eBin ltD (eVar 1) (eCall lenA (aCons (eVar 0) (aNil))))) (bRet (eBin ixA (eVar 0) (eVar 1))) (bNil)) (bRet (eBin addD (eBin mulD (eC (.int 8675)) (eVar 1)) (eC (.int 54))))
def f__law_cell : FF := runB 2 b__law_cell
theorem ok__law_cell (T : Txt K mg cl)  {f : Addr} {fd : FuncData} (F : Fun K "_law_cell" "_law_cell" s__law_cell f fd) : FnG P w K mg base 1 f fd 2 ["script", "k"] (spF (gk K cl) 2 f__law_cell) := by
  have nd := sc__law_cell.nd
  exact fn_ok F sc__law_cell rfl fun cdv A outer s H hgd hr => (db_cons (ds_if (dt_cmp opd_lt (de_var (pv 1)) (de_callB cd_lenA rfl T.n_len (by decide +kernel) (da_cons (de_var (pv 0)) da_nil))) (db_one (ds_ret (de_ixA hr.un65 (de_var (pv 0)) (de_var (pv 1)) (fun _ _ => rfl) (fun _ _ => rfl)))) db_nil) (db_one (ds_ret (de_bin opd_add (de_bin opd_mul de_int (de_var (pv 1))) de_int))))

abbrev s__law_box : Stmt := top 11
abbrev N__law_box : List Str := ["cell"]
theorem sc__law_box : FnScope N__law_box ["cell"] (defScope s__law_box) := ⟨rfl, rfl, rfl, by decide +kernel, rfl, by decide +kernel, by decide +kernel⟩
def b__law_box : BF := bRet (eMut (nLst (aCons (eCall maxD (aCons (eC (.int 0)) (aCons (eBin subD (eVar 0) (eBin powD (eC (.int 10)) (eC (.int 18)))) (aNil)))) (aCons (eBin modD (eVar 0) (eC (.int 2147483629))) (aCons (eC (.int 0)) (aNil))))))
def f__law_box : FF := runB 1 b__law_box
theorem ok__law_box (T : Txt K mg cl)  {f : Addr} {fd : FuncData} (F : Fun K "_law_box" "_law_box" s__law_box f fd) : FnG P w K mg base 1 f fd 1 ["cell"] (spF (gk K cl) 1 f__law_box) := by
  have nd := sc__law_box.nd
  exact fn_ok F sc__law_box rfl fun cdv A outer s H hgd hr => (db_one (ds_ret (de_mut (dn_lst (da_cons (de_callB (cd_max rfl) rfl T.n_max (by decide +kernel) (da_cons de_int (da_cons (de_bin opd_sub (de_var (pv 0)) (de_bin opd_pow de_int de_int)) da_nil))) (da_cons (de_bin opd_mod (de_var (pv 0)) de_int) (da_cons de_int da_nil)))))))

abbrev s__law_take : Stmt := top 12
abbrev N__law_take : List Str := ["box", "many", "one", "other", "digit"]
theorem sc__law_take : FnScope N__law_take ["box", "many"] (defScope s__law_take) := ⟨rfl, rfl, rfl, by decide +kernel, rfl, by decide +kernel, by decide +kernel⟩
def b__law_take : BF := bThen (bIf (asB (eBin gtD (eBin ixA (eVar 0) (eC (.int 0))) (eC (.int 0)))) (bThen (bSet 4 (eBin modD (eBin ixA (eVar 0) (eC (.int 0))) (eVar 1))) (bThen (bStA (eBin fdivD (eBin ixA (eVar 0) (eC (.int 0))) (eVar 1)) (eVar 0) (eC (.int 0))) (bRet (eVar 4)))) (bNil)) (bThen (bStA (eBin addD (eBin ixA (eVar 0) (eC (.int 2))) (eC (.int 1))) (eVar 0) (eC (.int 2))) (bThen (bSet 2 (eBin modD (eBin powD (eBin addD (eBin addD (eBin ixA (eVar 0) (eC (.int 1))) (eBin mulD (eC (.int 7919)) (eBin ixA (eVar 0) (eC (.int 2))))) (eC (.int 54))) (eC (.int 5))) (eC (.int 2147483647)))) (bThen (bSet 3 (eBin modD (eBin powD (eBin addD (eBin addD (eBin fdivD (eVar 2) (eC (.int 8))) (eBin mulD (eBin mulD (eC (.int 96702)) (eBin ixA (eVar 0) (eC (.int 2)))) (eBin ixA (eVar 0) (eC (.int 2))))) (eC (.int 3))) (eC (.int 3))) (eC (.int 2147483629)))) (bRet (eBin modD (eBin addD (eBin fdivD (eVar 2) (eC (.int 4))) (eBin mulD (eC (.int 536870909)) (eBin fdivD (eVar 3) (eC (.int 4))))) (eVar 1))))))
def f__law_take : FF := runB 5 b__law_take
theorem ok__law_take (T : Txt K mg cl)  {f : Addr} {fd : FuncData} (F : Fun K "_law_take" "_law_take" s__law_take f fd) : FnG P w K mg base 1 f fd 2 ["box", "many"] (spF (gk K cl) 2 f__law_take) := by
  have nd := sc__law_take.nd
  exact fn_ok F sc__law_take rfl fun cdv A outer s H hgd hr => (db_cons (ds_if (dt_cmp opd_gt (de_ixA hr.un65 (de_var (pv 0)) de_int (fun _ _ => rfl) (fun _ _ => rfl)) de_int) (db_cons (ds_set (i := 4) nd rfl (.inl rfl) (de_bin opd_mod (de_ixA hr.un65 (de_var (pv 0)) de_int (fun _ _ => rfl) (fun _ _ => rfl)) (de_var (pv 1)))) (db_cons (ds_stA hr.un65 (de_bin opd_fdiv (de_ixA hr.un65 (de_var (pv 0)) de_int (fun _ _ => rfl) (fun _ _ => rfl)) (de_var (pv 1))) (de_var (pv 0)) de_int) (db_one (ds_ret (de_var (pv 4)))))) db_nil) (db_cons (ds_stA hr.un65 (de_bin opd_add (de_ixA hr.un65 (de_var (pv 0)) de_int (fun _ _ => rfl) (fun _ _ => rfl)) de_int) (de_var (pv 0)) de_int) (db_cons (ds_set (i := 2) nd rfl (.inl rfl) (de_bin opd_mod (de_bin opd_pow (de_bin opd_add (de_bin opd_add (de_ixA hr.un65 (de_var (pv 0)) de_int (fun _ _ => rfl) (fun _ _ => rfl)) (de_bin opd_mul de_int (de_ixA hr.un65 (de_var (pv 0)) de_int (fun _ _ => rfl) (fun _ _ => rfl)))) de_int) de_int) de_int)) (db_cons (ds_set (i := 3) nd rfl (.inl rfl) (de_bin opd_mod (de_bin opd_pow (de_bin opd_add (de_bin opd_add (de_bin opd_fdiv (de_var (pv 2)) de_int) (de_bin opd_mul (de_bin opd_mul de_int (de_ixA hr.un65 (de_var (pv 0)) de_int (fun _ _ => rfl) (fun _ _ => rfl))) (de_ixA hr.un65 (de_var (pv 0)) de_int (fun _ _ => rfl) (fun _ _ => rfl)))) de_int) de_int) de_int)) (db_one (ds_ret (de_bin opd_mod (de_bin opd_add (de_bin opd_fdiv (de_var (pv 2)) de_int) (de_bin opd_mul de_int (de_bin opd_fdiv (de_var (pv 3)) de_int))) (de_var (pv 1)))))))))

abbrev s__law_is_there : Stmt := top 17
abbrev N__law_is_there : List Str := ["table", "thing"]
theorem sc__law_is_there : FnScope N__law_is_there ["table", "thing"] (defScope s__law_is_there) := ⟨rfl, rfl, rfl, by decide +kernel, rfl, by decide +kernel, by decide +kernel⟩
def b__law_is_there : BF := bRet (eAndV (eCall isiG (aCons (eVar 1) (aCons (eC (.ty "int")) (aNil)))) (eAndV (eNotV (eCall isiG (aCons (eVar 1) (aCons (eC (.ty "bool")) (aNil))))) (eBin inA (eVar 1) (eVar 0))))
def f__law_is_there : FF := runB 2 b__law_is_there
theorem ok__law_is_there (T : Txt K mg cl)  {f : Addr} {fd : FuncData} (F : Fun K "_law_is_there" "_law_is_there" s__law_is_there f fd) : FnG P w K mg base 1 f fd 2 ["table", "thing"] (spF (gk K cl) 2 f__law_is_there) := by
  have nd := sc__law_is_there.nd
  exact fn_ok F sc__law_is_there rfl fun cdv A outer s H hgd hr => (db_one (ds_ret (de_and (de_callB (cd_isi fun _ _ _ => trivial) rfl T.n_isinstance (by decide +kernel) (da_cons (de_var (pv 1)) (da_cons (de_c (v := .ty "int") (pe_bltn rfl T.n_int (by decide +kernel) rfl) fun _ _ => rfl) da_nil))) (de_and (de_not (de_callB (cd_isi fun _ _ _ => trivial) rfl T.n_isinstance (by decide +kernel) (da_cons (de_var (pv 1)) (da_cons (de_c (v := .ty "bool") (pe_bltn rfl T.n_bool (by decide +kernel) rfl) fun _ _ => rfl) da_nil)))) (de_one (de_inA hr.un65 (de_var (pv 1)) (de_var (pv 0))))))))

abbrev s__law_letter : Stmt := top 15
abbrev N__law_letter : List Str := ["box", "word", "giver", "goal"]
theorem sc__law_letter : FnScope N__law_letter ["box"] (defScope s__law_letter) := ⟨rfl, rfl, rfl, by decide +kernel, rfl, by decide +kernel, by decide +kernel⟩
def b__law_letter : BF := bThen (bPar 2 3 (aCons (eBin ixA (eFrz (nLst (aCons (eC (.str "a")) (aCons (eC (.str "bb")) (aCons (eC (.str "ccc")) (aNil)))))) (eFn f__law_take [] (aCons (eVar 0) (aCons (eC (.int 3)) (aNil))))) (aCons (eBin ixA (eFrz (nLst (aCons (eC (.str "a")) (aCons (eC (.str "z")) (aNil))))) (eFn f__law_take [] (aCons (eVar 0) (aCons (eC (.int 2)) (aNil))))) (aNil)))) (bThen (bSet 1 (eTup (aCons (eVar 2) (aCons (eBin addD (eC (.int 1)) (eFn f__law_take [] (aCons (eVar 0) (aCons (eC (.int 3)) (aNil))))) (aCons (eBin addD (eC (.int 1)) (eFn f__law_take [] (aCons (eVar 0) (aCons (eC (.int 99)) (aNil))))) (aCons (eBin ixA (eFrz (nLst (aCons (eC (.str "")) (aCons (eC (.str "tea")) (aCons (eBin mulM (eC (.str "x")) (eC (.int 60))) (aNil)))))) (eFn f__law_take [] (aCons (eVar 0) (aCons (eC (.int 3)) (aNil))))) (aNil))))))) (bRet (eTup (aCons (eVar 2) (aCons (eVar 3) (aCons (eVar 1) (aCons (eTup (aCons (eVar 3) (aCons (eFn f__law_take [] (aCons (eVar 0) (aCons (eC (.int 256)) (aNil)))) (aNil)))) (aNil))))))))
def f__law_letter : FF := runB 4 b__law_letter
theorem ok__law_letter (T : Txt K mg cl) (T__law_take : HasF P w K mg base cl 1 "_law_take" 2 ["box", "many"] f__law_take) {f : Addr} {fd : FuncData} (F : Fun K "_law_letter" "_law_letter" s__law_letter f fd) : FnG P w K mg base 2 f fd 1 ["box"] (spF (gk K cl) 1 f__law_letter) := by
  have nd := sc__law_letter.nd
  exact fn_ok F sc__law_letter rfl fun cdv A outer s H hgd hr => (db_cons (ds_par (i := 2) (j := 3) rfl nd rfl rfl (by decide) rfl rfl (da_cons (de_ixA hr.un65 (de_frz (dn_lst (da_cons de_str (da_cons de_str (da_cons de_str da_nil))))) (de_call T__law_take.ok hgd hr rfl T__law_take.mg T__law_take.kp T__law_take.bd .nil (fun _ _ => rfl) rfl (da_cons (de_var (pv 0)) (da_cons de_int da_nil)) (aCons_len (aCons_len aNil_len))) (fun _ _ => rfl) (fun _ _ => rfl)) (da_cons (de_ixA hr.un65 (de_frz (dn_lst (da_cons de_str (da_cons de_str da_nil)))) (de_call T__law_take.ok hgd hr rfl T__law_take.mg T__law_take.kp T__law_take.bd .nil (fun _ _ => rfl) rfl (da_cons (de_var (pv 0)) (da_cons de_int da_nil)) (aCons_len (aCons_len aNil_len))) (fun _ _ => rfl) (fun _ _ => rfl)) da_nil)) (by rfl)) (db_cons (ds_set (i := 1) nd rfl (.inl rfl) (de_tup (da_cons (de_var (pv 2)) (da_cons (de_bin opd_add de_int (de_call T__law_take.ok hgd hr rfl T__law_take.mg T__law_take.kp T__law_take.bd .nil (fun _ _ => rfl) rfl (da_cons (de_var (pv 0)) (da_cons de_int da_nil)) (aCons_len (aCons_len aNil_len)))) (da_cons (de_bin opd_add de_int (de_call T__law_take.ok hgd hr rfl T__law_take.mg T__law_take.kp T__law_take.bd .nil (fun _ _ => rfl) rfl (da_cons (de_var (pv 0)) (da_cons de_int da_nil)) (aCons_len (aCons_len aNil_len)))) (da_cons (de_ixA hr.un65 (de_frz (dn_lst (da_cons de_str (da_cons de_str (da_cons (de_bin opd_mulM de_str de_int) da_nil))))) (de_call T__law_take.ok hgd hr rfl T__law_take.mg T__law_take.kp T__law_take.bd .nil (fun _ _ => rfl) rfl (da_cons (de_var (pv 0)) (da_cons de_int da_nil)) (aCons_len (aCons_len aNil_len))) (fun _ _ => rfl) (fun _ _ => rfl)) da_nil)))))) (db_one (ds_ret (de_tup (da_cons (de_var (pv 2)) (da_cons (de_var (pv 3)) (da_cons (de_var (pv 1)) (da_cons (de_tup (da_cons (de_var (pv 3)) (da_cons (de_call T__law_take.ok hgd hr rfl T__law_take.mg T__law_take.kp T__law_take.bd .nil (fun _ _ => rfl) rfl (da_cons (de_var (pv 0)) (da_cons de_int da_nil)) (aCons_len (aCons_len aNil_len))) da_nil))) da_nil)))))))))

abbrev s__law_number : Stmt := top 16
abbrev N__law_number : List Str := ["box", "table", "last", "odd", "there"]
theorem sc__law_number : FnScope N__law_number ["box", "table", "last"] (defScope s__law_number) := ⟨rfl, rfl, rfl, by decide +kernel, rfl, by decide +kernel, by decide +kernel⟩
def b__law_number : BF := bThen (bSet 3 (eFrz (nLst (aCons (eC (.int 0)) (aCons (eNeg (eC (.int 1))) (aCons (eBin addD (eVar 2) (eC (.int 1))) (aCons (eC (.bl true)) (aCons (eC .non) (aCons (eC (.str "1")) (aCons (eMut (nLst (aCons (eC (.int 1)) (aNil)))) (aCons (eTup (aCons (eC (.int 1)) (aNil))) (aCons (eDct0) (aCons (eBin powD (eC (.int 10)) (eC (.int 29))) (aCons (eVar 2) (aCons (eC (.int 1)) (aNil)))))))))))))))) (bThen (bSet 4 (eCall lstA (aCons (eVar 1) (aNil)))) (bThen (bIf (tfAnd (asB (eBin neD (eVar 4) (eFrz (nLst (aNil))))) (asB (eBin gtD (eFn f__law_take [] (aCons (eVar 0) (aCons (eC (.int 3)) (aNil)))) (eC (.int 0))))) (bRet (eBin ixA (eVar 4) (eFn f__law_take [] (aCons (eVar 0) (aCons (eCall lenA (aCons (eVar 4) (aNil))) (aNil)))))) (bNil)) (bRet (eBin ixA (eVar 3) (eFn f__law_take [] (aCons (eVar 0) (aCons (eC (.int 12)) (aNil))))))))
def f__law_number : FF := runB 5 b__law_number
theorem ok__law_number (T : Txt K mg cl) (T__law_take : HasF P w K mg base cl 1 "_law_take" 2 ["box", "many"] f__law_take) {f : Addr} {fd : FuncData} (F : Fun K "_law_number" "_law_number" s__law_number f fd) : FnG P w K mg base 2 f fd 3 ["box", "table", "last"] (spF (gk K cl) 3 f__law_number) := by
  have nd := sc__law_number.nd
  exact fn_ok F sc__law_number rfl fun cdv A outer s H hgd hr => (db_cons (ds_set (i := 3) nd rfl (.inl rfl) (de_frz (dn_lst (da_cons de_int (da_cons (de_neg de_int) (da_cons (de_bin opd_add (de_var (pv 2)) de_int) (da_cons de_bl (da_cons de_non (da_cons de_str (da_cons (de_mut (dn_lst (da_cons de_int da_nil))) (da_cons (de_tup (da_cons de_int da_nil)) (da_cons de_dct0 (da_cons (de_bin opd_pow de_int de_int) (da_cons (de_var (pv 2)) (da_cons de_int da_nil))))))))))))))) (db_cons (ds_set (i := 4) nd rfl (.inl rfl) (de_callT (cd_lstA rfl) rfl T.n_list (by decide +kernel) (da_cons (de_var (pv 1)) da_nil))) (db_cons (ds_if (dt_w (dw_and (dt_cmp (opd_ne hr.units) (de_var (pv 4)) (de_frz (dn_lst da_nil))) (dw_and1 (dt_cmp opd_gt (de_call T__law_take.ok hgd hr rfl T__law_take.mg T__law_take.kp T__law_take.bd .nil (fun _ _ => rfl) rfl (da_cons (de_var (pv 0)) (da_cons de_int da_nil)) (aCons_len (aCons_len aNil_len))) de_int)))) (db_one (ds_ret (de_ixA hr.un65 (de_var (pv 4)) (de_call T__law_take.ok hgd hr rfl T__law_take.mg T__law_take.kp T__law_take.bd .nil (fun _ _ => rfl) rfl (da_cons (de_var (pv 0)) (da_cons (de_callB cd_lenA rfl T.n_len (by decide +kernel) (da_cons (de_var (pv 4)) da_nil)) da_nil)) (aCons_len (aCons_len aNil_len))) (fun _ _ => rfl) (fun _ _ => rfl)))) db_nil) (db_one (ds_ret (de_ixA hr.un65 (de_var (pv 3)) (de_call T__law_take.ok hgd hr rfl T__law_take.mg T__law_take.kp T__law_take.bd .nil (fun _ _ => rfl) rfl (da_cons (de_var (pv 0)) (da_cons de_int da_nil)) (aCons_len (aCons_len aNil_len))) (fun _ _ => rfl) (fun _ _ => rfl)))))))

abbrev s_Roads_copied : Stmt := inClass (top 8) 7
abbrev N_Roads_copied : List Str := ["self", "roads"]
theorem sc_Roads_copied : FnScope N_Roads_copied ["self"] (defScope s_Roads_copied) := ⟨rfl, rfl, rfl, by decide +kernel, rfl, by decide +kernel, by decide +kernel⟩
def b_Roads_copied : BF := bThen (bSet 1 (eFnX (mkX 4 (toX f_Roads___init__)) (aNil))) (bThen (bFld "_letters" clFl__letters (eVar 1) (eCall dctG (aCons (eFld "_letters" clFl__letters (eVar 0)) (aNil)))) (bThen (bFld "_last" clFl__last (eVar 1) (eFld "_last" clFl__last (eVar 0))) (bRet (eVar 1))))
def f_Roads_copied : FF := runB 2 b_Roads_copied
theorem ok_Roads_copied (T : Txt K mg cl) (TC_Roads : HasC P w K mg base cl 1 4 "Roads" 0 ["self"] (toX f_Roads___init__)) {f : Addr} {fd : FuncData} (F : Fun K "copied" "Roads.copied" s_Roads_copied f fd) : FnG P w K mg base 3 f fd 1 ["self"] (spF (gk K cl) 1 f_Roads_copied) := by
  have nd := sc_Roads_copied.nd
  exact fn_ok F sc_Roads_copied rfl fun cdv A outer s H hgd hr => (db_cons (ds_set (i := 1) nd rfl (.inl rfl) (de_ofX (pc0 TC_Roads hgd hr rfl) aNil_len)) (db_cons (ds_fld (de_var (pv 1)) (de_callT (cd_dctG rfl) rfl T.n_dict (by decide +kernel) (da_cons (de_fld (de_var (pv 0)) T.i_fld__letters) da_nil)) T.i_fld__letters) (db_cons (ds_fld (de_var (pv 1)) (de_fld (de_var (pv 0)) T.i_fld__last) T.i_fld__last) (db_one (ds_ret (de_var (pv 1)))))))

abbrev s_Roads_letter : Stmt := inClass (top 8) 4
abbrev N_Roads_letter : List Str := ["self", "number"]
theorem sc_Roads_letter : FnScope N_Roads_letter ["self", "number"] (defScope s_Roads_letter) := ⟨rfl, rfl, rfl, by decide +kernel, rfl, by decide +kernel, by decide +kernel⟩
def b_Roads_letter : BF := bThen (bIf (tfOr (tfNot (asB (eFn f_is_number [] (aCons (eVar 1) (aNil))))) (asB (eBin ninA (eVar 1) (eFld "_letters" clFl__letters (eVar 0))))) (bRaise 0 "found" "not on the road" (aCons (eVar 1) (aNil))) (bNil)) (bRet (eBin ixA (eFld "_letters" clFl__letters (eVar 0)) (eVar 1)))
def fx_Roads_letter : XF := runX 2 b_Roads_letter
theorem ok_Roads_letter (T : Txt K mg cl) (T_is_number : HasF P w K mg base cl 1 "is_number" 1 ["thing"] f_is_number) (T_NotOnRoad : HasXB P w K mg base cl 0 "NotOnRoad" "found" "not on the road") {f : Addr} {fd : FuncData} (F : Fun K "letter" "Roads.letter" s_Roads_letter f fd) : FnX P w K mg base 4 f fd 2 ["self", "number"] (spXF (gk K cl) 2 fx_Roads_letter) := by
  have nd := sc_Roads_letter.nd
  exact fnX_ok F sc_Roads_letter rfl fun cdv A outer s H E hgd hr => (db_cons (ds_if (dt_w (dw_or (dt_not (dt_val (de_call T_is_number.ok hgd (hr.mono (by decide)) rfl T_is_number.mg T_is_number.kp T_is_number.bd .nil (fun _ _ => rfl) rfl (da_cons (de_var (pv 1)) da_nil) (aCons_len aNil_len)))) (dw_or1 (dt_ninA hr.un65 (de_var (pv 1)) (de_fld (de_var (pv 0)) T.i_fld__letters))))) (db_one (ds_raiseB T_NotOnRoad hgd hr rfl rfl rfl (da_cons (de_var (pv 1)) da_nil))) db_nil) (db_one (ds_ret (de_ixA hr.un65 (de_fld (de_var (pv 0)) T.i_fld__letters) (de_var (pv 1)) (fun _ _ => rfl) (fun _ _ => rfl)))))

abbrev s_Roads_take_off : Stmt := inClass (top 8) 3
abbrev N_Roads_take_off : List Str := ["self", "number", "letter"]
theorem sc_Roads_take_off : FnScope N_Roads_take_off ["self", "number"] (defScope s_Roads_take_off) := ⟨rfl, rfl, rfl, by decide +kernel, rfl, by decide +kernel, by decide +kernel⟩
def b_Roads_take_off : BF := bThen (bSetG 2 (gCall fx_Roads_letter (aMeth 4 "letter" (eVar 0) (aCons (eVar 1) (aNil))))) (bThen (bDDel (eFld "_letters" clFl__letters (eVar 0)) (eVar 1)) (bRet (eVar 2)))
def fx_Roads_take_off : XF := runX 3 b_Roads_take_off
theorem ok_Roads_take_off (T : Txt K mg cl) (TM_Roads_letter : HasM P w K mg base cl 4 4 "letter" 2 ["self", "number"] fx_Roads_letter) {f : Addr} {fd : FuncData} (F : Fun K "take_off" "Roads.take_off" s_Roads_take_off f fd) : FnX P w K mg base 5 f fd 2 ["self", "number"] (spXF (gk K cl) 2 fx_Roads_take_off) := by
  have nd := sc_Roads_take_off.nd
  exact fnX_ok F sc_Roads_take_off rfl fun cdv A outer s H E hgd hr => (db_cons (ds_setG (i := 2) nd rfl (.inl rfl) (dx_ofX (pm TM_Roads_letter (de_var (pv 0)) hgd hr (da_cons (de_var (pv 1)) da_nil)) (aMeth_len (aCons_len aNil_len)))) (db_cons (ds_ddel (de_fld (de_var (pv 0)) T.i_fld__letters) (de_var (pv 1))) (db_one (ds_ret (de_var (pv 2))))))

abbrev s_Roads_doubled : Stmt := inClass (top 8) 5
abbrev N_Roads_doubled : List Str := ["self", "number"]
theorem sc_Roads_doubled : FnScope N_Roads_doubled ["self", "number"] (defScope s_Roads_doubled) := ⟨rfl, rfl, rfl, by decide +kernel, rfl, by decide +kernel, by decide +kernel⟩
def b_Roads_doubled : BF := bRetG (gTry (eFnX (toX f_Roads_put) (aMeth 4 "put" (eVar 0) (aCons (eFnX fx_Roads_letter (aMeth 4 "letter" (eVar 0) (aCons (eVar 1) (aNil)))) (aNil)))) (rMethA 4 "put" (eVar 0) (rCall fx_Roads_letter (aMeth 4 "letter" (eVar 0) (aCons (eVar 1) (aNil))))))
def fx_Roads_doubled : XF := runX 2 b_Roads_doubled
theorem ok_Roads_doubled (T : Txt K mg cl) (TM_Roads_letter : HasM P w K mg base cl 4 4 "letter" 2 ["self", "number"] fx_Roads_letter) (TM_Roads_put : HasM P w K mg base cl 1 4 "put" 2 ["self", "letter"] (toX f_Roads_put)) {f : Addr} {fd : FuncData} (F : Fun K "doubled" "Roads.doubled" s_Roads_doubled f fd) : FnX P w K mg base 5 f fd 2 ["self", "number"] (spXF (gk K cl) 2 fx_Roads_doubled) := by
  have nd := sc_Roads_doubled.nd
  exact fnX_ok F sc_Roads_doubled rfl fun cdv A outer s H E hgd hr => (db_one (ds_retG (dx_try (de_ofX (pm TM_Roads_put (de_var (pv 0)) hgd (hr.mono (by decide)) (da_cons (de_ofX (pm TM_Roads_letter (de_var (pv 0)) hgd hr (da_cons (de_var (pv 1)) da_nil)) (aMeth_len (aCons_len aNil_len))) da_nil)) (aMeth_len (aCons_len aNil_len))) (dr_methA TM_Roads_put (de_var (pv 0)) hgd (hr.mono (by decide)) (dra_head (dr_ofX (pm TM_Roads_letter (de_var (pv 0)) hgd hr (da_cons (de_var (pv 1)) da_nil)) (aMeth_len (aCons_len aNil_len))))))))

abbrev s__law_right : Stmt := top 19
abbrev N__law_right : List Str := ["roads", "state", "told", "number"]
theorem sc__law_right : FnScope N__law_right ["roads", "state"] (defScope s__law_right) := ⟨rfl, rfl, rfl, by decide +kernel, rfl, by decide +kernel, by decide +kernel⟩
noncomputable def b__law_right : BF := bThen (bSet 2 (eFnX (toX f_Roads_numbers) (aMeth 4 "numbers" (eVar 0) aNil))) (bThen (bIf (tfOr (asB (eBin neD (eVar 2) (eCall lstA (aCons (eBin ixA (eVar 1) (eC (.str "table"))) (aNil))))) (asB (eBin neD (eCall (lenO 4 f_Roads___len__) (aCons (eVar 0) (aNil))) (eCall lenA (aCons (eBin ixA (eVar 1) (eC (.str "table"))) (aNil)))))) (bRet (eC (.bl false))) (bNil)) (bThen (bExpr (eMt "list" appendD (eVar 2) (aCons (eC (.int 0)) (aNil)))) (bThen (bExpr (eMt "list" reverseD (eVar 2) aNil)) (bRet (eBin eqD (eFrz (nLcP (iLM (eFnX (toX f_Roads_numbers) (aMeth 4 "numbers" (eVar 0) aNil))) (nmG 3) (tYesD) (eFnX fx_Roads_letter (aMeth 4 "letter" (eVar 0) (aCons (eVar 3) (aNil)))) [3])) (eLVals (eBin ixA (eVar 1) (eC (.str "table")))))))))
noncomputable def f__law_right : FF := runB 4 b__law_right
theorem ok__law_right (T : Txt K mg cl) (TD_Roads___len__ : HasD P w K mg base cl 1 4 "__len__" 1 ["self"] f_Roads___len__) (TM_Roads_letter : HasM P w K mg base cl 4 4 "letter" 2 ["self", "number"] fx_Roads_letter) (TM_Roads_numbers : HasM P w K mg base cl 1 4 "numbers" 1 ["self"] (toX f_Roads_numbers)) {f : Addr} {fd : FuncData} (F : Fun K "_law_right" "_law_right" s__law_right f fd) : FnG P w K mg base 5 f fd 2 ["roads", "state"] (spF (gk K cl) 2 f__law_right) := by
  have nd := sc__law_right.nd
  exact fn_ok F sc__law_right rfl fun cdv A outer s H hgd hr => (db_cons (ds_set (i := 2) nd rfl (.inl rfl) (de_ofX (pm0 TM_Roads_numbers (de_var (pv 0)) hgd (hr.mono (by decide))) (aMeth_len aNil_len))) (db_cons (ds_if (dt_w (dw_or (dt_cmp (opd_ne hr.units) (de_var (pv 2)) (de_callT (cd_lstA rfl) rfl T.n_list (by decide +kernel) (da_cons (de_ixA hr.un65 (de_var (pv 1)) de_str (fun _ _ => rfl) (fun _ _ => rfl)) da_nil))) (dw_or1 (dt_cmp (opd_ne hr.units) (de_callB (cd_lenO TD_Roads___len__ hgd (hr.mono (by decide))) rfl T.n_len (by decide +kernel) (da_cons (de_var (pv 0)) da_nil)) (de_callB cd_lenA rfl T.n_len (by decide +kernel) (da_cons (de_ixA hr.un65 (de_var (pv 1)) de_str (fun _ _ => rfl) (fun _ _ => rfl)) da_nil)))))) (db_one (ds_ret de_bl)) db_nil) (db_cons (ds_expr (de_bm PySem.F.plainAttrs_list PySem.F.slot_list_append PySem.F.type_list_append md_append (de_var (pv 2)) (da_cons de_int da_nil))) (db_cons (ds_expr (de_bm0 PySem.F.plainAttrs_list PySem.F.slot_list_reverse PySem.F.type_list_reverse md_reverse (de_var (pv 2)))) (db_one (ds_ret (de_cmp (opd_eq hr.units) (de_frz (dn_lcP (own := [("number", 3)]) rfl nd (di_listM (de_ofX (pm0 TM_Roads_numbers (de_var (pv 0)) hgd (hr.mono (by decide))) (aMeth_len aNil_len))) (blkOk_by (N := N__law_right) (sc := defScope s__law_right) (by decide +kernel)) (fun _ _ _ _ _ => (dg_name (i := 3) nd rfl (.inl rfl))) (fun _ _ _ _ _ => dts_nil) (fun _ _ _ _ _ => (de_ofX (pm TM_Roads_letter (de_var (pv 0)) hgd hr (da_cons (de_var (pv 3)) da_nil)) (aMeth_len (aCons_len aNil_len)))))) (de_listVals rfl (de_ixA hr.un65 (de_var (pv 1)) de_str (fun _ _ => rfl) (fun _ _ => rfl)) rfl T.n_list (by decide +kernel)))))))))

abbrev s__law_asked : Stmt := top 13
abbrev N__law_asked : List Str := ["roads", "way", "thing"]
theorem sc__law_asked : FnScope N__law_asked ["roads", "way", "thing"] (defScope s__law_asked) := ⟨rfl, rfl, rfl, by decide +kernel, rfl, by decide +kernel, by decide +kernel⟩
def b__law_asked : BF := bThen (bIf (asB (eBin ltD (eVar 1) (eC (.int 4)))) (bRetG (gCall fx_Roads_take_off (aMeth 4 "take_off" (eVar 0) (aCons (eVar 2) (aNil))))) (bNil)) (bRetG (gIf (asB (eBin eqD (eVar 1) (eC (.int 4)))) (gCall fx_Roads_doubled (aMeth 4 "doubled" (eVar 0) (aCons (eVar 2) (aNil)))) (gCall fx_Roads_letter (aMeth 4 "letter" (eVar 0) (aCons (eVar 2) (aNil))))))
def fx__law_asked : XF := runX 3 b__law_asked
theorem ok__law_asked (T : Txt K mg cl) (TM_Roads_doubled : HasM P w K mg base cl 5 4 "doubled" 2 ["self", "number"] fx_Roads_doubled) (TM_Roads_letter : HasM P w K mg base cl 4 4 "letter" 2 ["self", "number"] fx_Roads_letter) (TM_Roads_take_off : HasM P w K mg base cl 5 4 "take_off" 2 ["self", "number"] fx_Roads_take_off) {f : Addr} {fd : FuncData} (F : Fun K "_law_asked" "_law_asked" s__law_asked f fd) : FnX P w K mg base 6 f fd 3 ["roads", "way", "thing"] (spXF (gk K cl) 3 fx__law_asked) := by
  have nd := sc__law_asked.nd
  exact fnX_ok F sc__law_asked rfl fun cdv A outer s H E hgd hr => (db_cons (ds_if (dt_cmp opd_lt (de_var (pv 1)) de_int) (db_one (ds_retG (dx_ofX (pm TM_Roads_take_off (de_var (pv 0)) hgd hr (da_cons (de_var (pv 2)) da_nil)) (aMeth_len (aCons_len aNil_len))))) db_nil) (db_one (ds_retG (dx_if (dt_cmp (opd_eq hr.units) (de_var (pv 1)) de_int) (dx_ofX (pm TM_Roads_doubled (de_var (pv 0)) hgd hr (da_cons (de_var (pv 2)) da_nil)) (aMeth_len (aCons_len aNil_len))) (dx_ofX (pm TM_Roads_letter (de_var (pv 0)) hgd (hr.mono (by decide)) (da_cons (de_var (pv 2)) da_nil)) (aMeth_len (aCons_len aNil_len)))))))

abbrev s__law_caught : Stmt := top 14
abbrev N__law_caught : List Str := ["roads", "way", "thing", "e"]
theorem sc__law_caught : FnScope N__law_caught ["roads", "way", "thing"] (defScope s__law_caught) := ⟨rfl, rfl, rfl, by decide +kernel, rfl, by decide +kernel, by decide +kernel⟩
def b__law_caught : BF := bTry (bRetG (gTry (eTup (aCons (eC (.str "told")) (aCons (eFnX fx__law_asked (aCons (eVar 0) (aCons (eVar 1) (aCons (eVar 2) (aNil))))) (aNil)))) (rThen (eC (.str "told")) (rCall fx__law_asked (aCons (eVar 0) (aCons (eVar 1) (aCons (eVar 2) (aNil)))))))) [(exMt 0, (some 3), bRet (eTup (aCons (eC (.str "road")) (aCons (eXf 3 "found" exFl_found) (aNil))))), (xtOr (exMt 2) (xtOr (exMt 3) (exMt 1)), none, bRet (eTup (aCons (eC (.str "another")) (aCons (eC .non) (aNil)))))]
def f__law_caught : FF := runB 4 b__law_caught
theorem ok__law_caught (T : Txt K mg cl) (TX__law_asked : HasFX P w K mg base cl 6 "_law_asked" 3 ["roads", "way", "thing"] fx__law_asked) {f : Addr} {fd : FuncData} (F : Fun K "_law_caught" "_law_caught" s__law_caught f fd) : FnG P w K mg base 7 f fd 3 ["roads", "way", "thing"] (spF (gk K cl) 3 f__law_caught) := by
  have nd := sc__law_caught.nd
  exact fn_ok F sc__law_caught rfl fun cdv A outer s H hgd hr => (db_one (ds_tryT rfl rfl rfl nd (fun pn xe hp => (db_one (ds_retG (dx_try (de_tup (da_cons de_str (da_cons (de_callX TX__law_asked.ok hgd hr rfl TX__law_asked.mg TX__law_asked.kp TX__law_asked.bd (da_cons (de_var (pv 0)) (da_cons (de_var (pv 1)) (da_cons (de_var (pv 2)) da_nil))) (aCons_len (aCons_len (aCons_len aNil_len)))) da_nil))) (dr_tup (dra_tail de_str (dra_head (dr_call TX__law_asked.ok hgd hr rfl TX__law_asked.mg TX__law_asked.kp TX__law_asked.bd (da_cons (de_var (pv 0)) (da_cons (de_var (pv 1)) (da_cons (de_var (pv 2)) da_nil))) (aCons_len (aCons_len (aCons_len aNil_len))))))))))) (.cons (oi := (some 3)) (by exact tst_one (x := "NotOnRoad") (by exact ⟨rfl, by decide, .inl T.m_NotOnRoad⟩)) ⟨rfl, rfl⟩ (by exact T.x_exm 0) (fun a oe pn hot => have hr := roomH_of hot hr; (db_one (ds_ret (de_tup (da_cons de_str (da_cons (de_xf (pv 3) T.x_fld_found) da_nil)))))) (.cons (oi := none) (by exact tst_three (x1 := "Absent") (x2 := "Barred") (x3 := "PeerError") (by exact ⟨rfl, by decide, .inl T.m_Absent⟩) (by exact ⟨rfl, by decide, .inl T.m_Barred⟩) (by exact ⟨rfl, by decide, .inl T.m_PeerError⟩)) trivial (by exact xt_three (T.x_exm 2) (T.x_exm 3) (T.x_exm 1)) (fun a oe pn hot => have hr := roomH_of hot hr; (db_one (ds_ret (de_tup (da_cons de_str (da_cons de_non da_nil)))))) .nil))))

abbrev s__law_deed : Stmt := top 18
abbrev N__law_deed : List Str := ["box", "roads", "state", "way", "thing", "due", "found", "letter"]
theorem sc__law_deed : FnScope N__law_deed ["box", "roads", "state"] (defScope s__law_deed) := ⟨rfl, rfl, rfl, by decide +kernel, rfl, by decide +kernel, by decide +kernel⟩
def b__law_deed : BF := bThen (bSet 3 (eFn f__law_take [] (aCons (eVar 0) (aCons (eC (.int 6)) (aNil))))) (bThen (bIf (asB (eBin ltD (eVar 3) (eC (.int 2)))) (bThen (bSet 7 (eFn f__law_letter [] (aCons (eVar 0) (aNil)))) (bThen (bStA (eBin addD (eBin ixA (eVar 2) (eC (.str "last"))) (eC (.int 1))) (eVar 2) (eC (.str "last"))) (bThen (bStA (eVar 7) (eBin ixA (eVar 2) (eC (.str "table"))) (eBin ixA (eVar 2) (eC (.str "last")))) (bRet (eBin eqD (eFnX (toX f_Roads_put) (aMeth 4 "put" (eVar 1) (aCons (eVar 7) (aNil)))) (eBin ixA (eVar 2) (eC (.str "last")))))))) (bNil)) (bThen (bSet 4 (eFn f__law_number [] (aCons (eVar 0) (aCons (eBin ixA (eVar 2) (eC (.str "table"))) (aCons (eBin ixA (eVar 2) (eC (.str "last"))) (aNil)))))) (bThen (bSet 5 (eTup (aCons (eC (.str "road")) (aCons (eVar 4) (aNil))))) (bThen (bIf (asB (eFn f__law_is_there [] (aCons (eBin ixA (eVar 2) (eC (.str "table"))) (aCons (eVar 4) (aNil))))) (bSet 5 (eTup (aCons (eC (.str "told")) (aCons (eBin ixA (eBin ixA (eVar 2) (eC (.str "table"))) (eVar 4)) (aNil))))) (bNil)) (bThen (bIf (tfAnd (asB (eBin eqD (eBin ixA (eVar 5) (eC (.int 0))) (eC (.str "told")))) (asB (eBin ltD (eVar 3) (eC (.int 4))))) (bExpr (eDPop (eBin ixA (eVar 2) (eC (.str "table"))) (eVar 4))) (bNil)) (bThen (bIf (tfAnd (asB (eBin eqD (eBin ixA (eVar 5) (eC (.int 0))) (eC (.str "told")))) (asB (eBin eqD (eVar 3) (eC (.int 4))))) (bThen (bStA (eBin addD (eBin ixA (eVar 2) (eC (.str "last"))) (eC (.int 1))) (eVar 2) (eC (.str "last"))) (bThen (bStA (eBin ixA (eVar 5) (eC (.int 1))) (eBin ixA (eVar 2) (eC (.str "table"))) (eBin ixA (eVar 2) (eC (.str "last")))) (bSet 5 (eTup (aCons (eC (.str "told")) (aCons (eBin ixA (eVar 2) (eC (.str "last"))) (aNil))))))) (bNil)) (bThen (bSet 6 (eFn f__law_caught [] (aCons (eVar 1) (aCons (eVar 3) (aCons (eVar 4) (aNil)))))) (bThen (bIf (asB (eCall isiG (aCons (eVar 4) (aCons (eC (.ty "list")) (aNil))))) (bExpr (eMt "list" appendD (eVar 4) (aCons (eC (.str "more")) (aNil)))) (bNil)) (bRet (eBin eqD (eCall (reprX exNm) (aCons (eVar 6) (aNil))) (eCall (reprX exNm) (aCons (eVar 5) (aNil)))))))))))))
def f__law_deed : FF := runB 8 b__law_deed
theorem ok__law_deed (T : Txt K mg cl) (T__law_caught : HasF P w K mg base cl 7 "_law_caught" 3 ["roads", "way", "thing"] f__law_caught) (T__law_is_there : HasF P w K mg base cl 1 "_law_is_there" 2 ["table", "thing"] f__law_is_there) (T__law_letter : HasF P w K mg base cl 2 "_law_letter" 1 ["box"] f__law_letter) (T__law_number : HasF P w K mg base cl 2 "_law_number" 3 ["box", "table", "last"] f__law_number) (T__law_take : HasF P w K mg base cl 1 "_law_take" 2 ["box", "many"] f__law_take) (TM_Roads_put : HasM P w K mg base cl 1 4 "put" 2 ["self", "letter"] (toX f_Roads_put)) {f : Addr} {fd : FuncData} (F : Fun K "_law_deed" "_law_deed" s__law_deed f fd) : FnG P w K mg base 8 f fd 3 ["box", "roads", "state"] (spF (gk K cl) 3 f__law_deed) := by
  have nd := sc__law_deed.nd
  exact fn_ok F sc__law_deed rfl fun cdv A outer s H hgd hr => (db_cons (ds_set (i := 3) nd rfl (.inl rfl) (de_call T__law_take.ok hgd (hr.mono (by decide)) rfl T__law_take.mg T__law_take.kp T__law_take.bd .nil (fun _ _ => rfl) rfl (da_cons (de_var (pv 0)) (da_cons de_int da_nil)) (aCons_len (aCons_len aNil_len)))) (db_cons (ds_if (dt_cmp opd_lt (de_var (pv 3)) de_int) (db_cons (ds_set (i := 7) nd rfl (.inl rfl) (de_call T__law_letter.ok hgd (hr.mono (by decide)) rfl T__law_letter.mg T__law_letter.kp T__law_letter.bd .nil (fun _ _ => rfl) rfl (da_cons (de_var (pv 0)) da_nil) (aCons_len aNil_len))) (db_cons (ds_stA hr.un65 (de_bin opd_add (de_ixA hr.un65 (de_var (pv 2)) de_str (fun _ _ => rfl) (fun _ _ => rfl)) de_int) (de_var (pv 2)) de_str) (db_cons (ds_stA hr.un65 (de_var (pv 7)) (de_ixA hr.un65 (de_var (pv 2)) de_str (fun _ _ => rfl) (fun _ _ => rfl)) (de_ixA hr.un65 (de_var (pv 2)) de_str (fun _ _ => rfl) (fun _ _ => rfl))) (db_one (ds_ret (de_cmp (opd_eq hr.units) (de_ofX (pm TM_Roads_put (de_var (pv 1)) hgd (hr.mono (by decide)) (da_cons (de_var (pv 7)) da_nil)) (aMeth_len (aCons_len aNil_len))) (de_ixA hr.un65 (de_var (pv 2)) de_str (fun _ _ => rfl) (fun _ _ => rfl)))))))) db_nil) (db_cons (ds_set (i := 4) nd rfl (.inl rfl) (de_call T__law_number.ok hgd (hr.mono (by decide)) rfl T__law_number.mg T__law_number.kp T__law_number.bd .nil (fun _ _ => rfl) rfl (da_cons (de_var (pv 0)) (da_cons (de_ixA hr.un65 (de_var (pv 2)) de_str (fun _ _ => rfl) (fun _ _ => rfl)) (da_cons (de_ixA hr.un65 (de_var (pv 2)) de_str (fun _ _ => rfl) (fun _ _ => rfl)) da_nil))) (aCons_len (aCons_len (aCons_len aNil_len))))) (db_cons (ds_set (i := 5) nd rfl (.inl rfl) (de_tup (da_cons de_str (da_cons (de_var (pv 4)) da_nil)))) (db_cons (ds_if (dt_val (de_call T__law_is_there.ok hgd (hr.mono (by decide)) rfl T__law_is_there.mg T__law_is_there.kp T__law_is_there.bd .nil (fun _ _ => rfl) rfl (da_cons (de_ixA hr.un65 (de_var (pv 2)) de_str (fun _ _ => rfl) (fun _ _ => rfl)) (da_cons (de_var (pv 4)) da_nil)) (aCons_len (aCons_len aNil_len)))) (db_one (ds_set (i := 5) nd rfl (.inl rfl) (de_tup (da_cons de_str (da_cons (de_ixA hr.un65 (de_ixA hr.un65 (de_var (pv 2)) de_str (fun _ _ => rfl) (fun _ _ => rfl)) (de_var (pv 4)) (fun _ _ => rfl) (fun _ _ => rfl)) da_nil))))) db_nil) (db_cons (ds_if (dt_w (dw_and (dt_cmp (opd_eq hr.units) (de_ixA hr.un65 (de_var (pv 5)) de_int (fun _ _ => rfl) (fun _ _ => rfl)) de_str) (dw_and1 (dt_cmp opd_lt (de_var (pv 3)) de_int)))) (db_one (ds_expr (de_dpop (de_ixA hr.un65 (de_var (pv 2)) de_str (fun _ _ => rfl) (fun _ _ => rfl)) (de_var (pv 4)) ⟨rfl, rfl, rfl, rfl⟩))) db_nil) (db_cons (ds_if (dt_w (dw_and (dt_cmp (opd_eq hr.units) (de_ixA hr.un65 (de_var (pv 5)) de_int (fun _ _ => rfl) (fun _ _ => rfl)) de_str) (dw_and1 (dt_cmp (opd_eq hr.units) (de_var (pv 3)) de_int)))) (db_cons (ds_stA hr.un65 (de_bin opd_add (de_ixA hr.un65 (de_var (pv 2)) de_str (fun _ _ => rfl) (fun _ _ => rfl)) de_int) (de_var (pv 2)) de_str) (db_cons (ds_stA hr.un65 (de_ixA hr.un65 (de_var (pv 5)) de_int (fun _ _ => rfl) (fun _ _ => rfl)) (de_ixA hr.un65 (de_var (pv 2)) de_str (fun _ _ => rfl) (fun _ _ => rfl)) (de_ixA hr.un65 (de_var (pv 2)) de_str (fun _ _ => rfl) (fun _ _ => rfl))) (db_one (ds_set (i := 5) nd rfl (.inl rfl) (de_tup (da_cons de_str (da_cons (de_ixA hr.un65 (de_var (pv 2)) de_str (fun _ _ => rfl) (fun _ _ => rfl)) da_nil))))))) db_nil) (db_cons (ds_set (i := 6) nd rfl (.inl rfl) (de_call T__law_caught.ok hgd hr rfl T__law_caught.mg T__law_caught.kp T__law_caught.bd .nil (fun _ _ => rfl) rfl (da_cons (de_var (pv 1)) (da_cons (de_var (pv 3)) (da_cons (de_var (pv 4)) da_nil))) (aCons_len (aCons_len (aCons_len aNil_len))))) (db_cons (ds_if (dt_val (de_callB (cd_isi fun _ _ _ => trivial) rfl T.n_isinstance (by decide +kernel) (da_cons (de_var (pv 4)) (da_cons (de_c (v := .ty "list") (pe_bltn rfl T.n_list (by decide +kernel) rfl) fun _ _ => rfl) da_nil)))) (db_one (ds_expr (de_bm PySem.F.plainAttrs_list PySem.F.slot_list_append PySem.F.type_list_append md_append (de_var (pv 4)) (da_cons de_str da_nil)))) db_nil) (db_one (ds_ret (de_cmp (opd_eq hr.units) (de_callB (cd_reprX T.x_nm hgd hr.units) rfl T.n_repr (by decide +kernel) (da_cons (de_var (pv 6)) da_nil)) (de_callB (cd_reprX T.x_nm hgd hr.units) rfl T.n_repr (by decide +kernel) (da_cons (de_var (pv 5)) da_nil))))))))))))))

abbrev s_law : Stmt := top 20
abbrev N_law : List Str := ["script", "some", "states", "k", "box", "turn", "side"]
theorem sc_law : FnScope N_law ["script"] (defScope s_law) := ⟨rfl, rfl, rfl, by decide +kernel, rfl, by decide +kernel, by decide +kernel⟩
noncomputable def b_law : BF := bThen (bSet 1 (eMut (nLst (aCons (eFnX (mkX 4 (toX f_Roads___init__)) (aNil)) (aCons (eFnX (mkX 4 (toX f_Roads___init__)) (aNil)) (aNil)))))) (bThen (bSet 2 (eMut (nLst (aCons (eDctMs ["last", "table"] (aCons (eC (.int 0)) (aCons (eDctM0) (aNil)))) (aCons (eDctMs ["last", "table"] (aCons (eC (.int 0)) (aCons (eDctM0) (aNil)))) (aNil)))))) (bThen (bFor (iR1 (aCons (eCall maxD (aCons (eC (.int 3)) (aCons (eCall minD (aCons (eC (.int 60)) (aCons (eCall lenA (aCons (eVar 0) (aNil))) (aNil)))) (aNil)))) (aNil))) (nmG 3) (bThen (bSet 4 (eFn f__law_box [] (aCons (eFn f__law_cell [] (aCons (eVar 0) (aCons (eVar 3) (aNil)))) (aNil)))) (bFor (iR1 (aCons (eBin addD (eC (.int 1)) (eFn f__law_take [] (aCons (eVar 4) (aCons (eC (.int 3)) (aNil))))) (aNil))) (nmG 5) (bThen (bSet 6 (eFn f__law_take [] (aCons (eVar 4) (aCons (eC (.int 2)) (aNil))))) (bThen (bIf (asB (eBin eqD (eFn f__law_take [] (aCons (eVar 4) (aCons (eC (.int 9)) (aNil)))) (eC (.int 0)))) (bThen (bStA (eFnX (toX f_Roads_copied) (aMeth 4 "copied" (eBin ixA (eVar 1) (eVar 6)) aNil)) (eVar 1) (eBin subD (eC (.int 1)) (eVar 6))) (bStA (eDctMs ["last", "table"] (aCons (eBin ixA (eBin ixA (eVar 2) (eVar 6)) (eC (.str "last"))) (aCons (eCall dctG (aCons (eBin ixA (eBin ixA (eVar 2) (eVar 6)) (eC (.str "table"))) (aNil))) (aNil)))) (eVar 2) (eBin subD (eC (.int 1)) (eVar 6)))) (bNil)) (bThen (bIf (tfNot (asB (eFn f__law_deed [] (aCons (eVar 4) (aCons (eBin ixA (eVar 1) (eVar 6)) (aCons (eBin ixA (eVar 2) (eVar 6)) (aNil))))))) (bRet (eC (.bl false))) (bNil)) (bIf (tfOr (tfNot (asB (eFn f__law_right [] (aCons (eBin ixA (eVar 1) (eC (.int 0))) (aCons (eBin ixA (eVar 2) (eC (.int 0))) (aNil)))))) (tfNot (asB (eFn f__law_right [] (aCons (eBin ixA (eVar 1) (eC (.int 1))) (aCons (eBin ixA (eVar 2) (eC (.int 1))) (aNil))))))) (bRet (eC (.bl false))) (bNil)))))))) (bRet (eC (.bl true)))))
noncomputable def f_law : FF := runB 7 b_law
theorem ok_law (T : Txt K mg cl) (T__law_box : HasF P w K mg base cl 1 "_law_box" 1 ["cell"] f__law_box) (T__law_cell : HasF P w K mg base cl 1 "_law_cell" 2 ["script", "k"] f__law_cell) (T__law_deed : HasF P w K mg base cl 8 "_law_deed" 3 ["box", "roads", "state"] f__law_deed) (T__law_right : HasF P w K mg base cl 5 "_law_right" 2 ["roads", "state"] f__law_right) (T__law_take : HasF P w K mg base cl 1 "_law_take" 2 ["box", "many"] f__law_take) (TC_Roads : HasC P w K mg base cl 1 4 "Roads" 0 ["self"] (toX f_Roads___init__)) (TM_Roads_copied : HasM P w K mg base cl 3 4 "copied" 1 ["self"] (toX f_Roads_copied)) {f : Addr} {fd : FuncData} (F : Fun K "law" "law" s_law f fd) : FnG P w K mg base 9 f fd 1 ["script"] (spF (gk K cl) 1 f_law) := by
  have nd := sc_law.nd
  exact fn_ok F sc_law rfl fun cdv A outer s H hgd hr => (db_cons (ds_set (i := 1) nd rfl (.inl rfl) (de_mut (dn_lst (da_cons (de_ofX (pc0 TC_Roads hgd (hr.mono (by decide)) rfl) aNil_len) (da_cons (de_ofX (pc0 TC_Roads hgd (hr.mono (by decide)) rfl) aNil_len) da_nil))))) (db_cons (ds_set (i := 2) nd rfl (.inl rfl) (de_mut (dn_lst (da_cons (de_dctMs (.cons de_int (.cons de_dctM0 .nil))) (da_cons (de_dctMs (.cons de_int (.cons de_dctM0 .nil))) da_nil))))) (db_cons (ds_for PassesOwn.never rfl (di_range1 rfl T.n_range (da_cons (de_callB (cd_max rfl) rfl T.n_max (by decide +kernel) (da_cons de_int (da_cons (de_callB (cd_min rfl) rfl T.n_min (by decide +kernel) (da_cons de_int (da_cons (de_callB cd_lenA rfl T.n_len (by decide +kernel) (da_cons (de_var (pv 0)) da_nil)) da_nil))) da_nil))) da_nil)) (dg_name (i := 3) nd rfl (.inl rfl)) (db_cons (ds_set (i := 4) nd rfl (.inl rfl) (de_call T__law_box.ok hgd (hr.mono (by decide)) rfl T__law_box.mg T__law_box.kp T__law_box.bd .nil (fun _ _ => rfl) rfl (da_cons (de_call T__law_cell.ok hgd (hr.mono (by decide)) rfl T__law_cell.mg T__law_cell.kp T__law_cell.bd .nil (fun _ _ => rfl) rfl (da_cons (de_var (pv 0)) (da_cons (de_var (pv 3)) da_nil)) (aCons_len (aCons_len aNil_len))) da_nil) (aCons_len aNil_len))) (db_one (ds_for PassesOwn.never rfl (di_range1 rfl T.n_range (da_cons (de_bin opd_add de_int (de_call T__law_take.ok hgd (hr.mono (by decide)) rfl T__law_take.mg T__law_take.kp T__law_take.bd .nil (fun _ _ => rfl) rfl (da_cons (de_var (pv 4)) (da_cons de_int da_nil)) (aCons_len (aCons_len aNil_len)))) da_nil)) (dg_name (i := 5) nd rfl (.inl rfl)) (db_cons (ds_set (i := 6) nd rfl (.inl rfl) (de_call T__law_take.ok hgd (hr.mono (by decide)) rfl T__law_take.mg T__law_take.kp T__law_take.bd .nil (fun _ _ => rfl) rfl (da_cons (de_var (pv 4)) (da_cons de_int da_nil)) (aCons_len (aCons_len aNil_len)))) (db_cons (ds_if (dt_cmp (opd_eq hr.units) (de_call T__law_take.ok hgd (hr.mono (by decide)) rfl T__law_take.mg T__law_take.kp T__law_take.bd .nil (fun _ _ => rfl) rfl (da_cons (de_var (pv 4)) (da_cons de_int da_nil)) (aCons_len (aCons_len aNil_len))) de_int) (db_cons (ds_stA hr.un65 (de_ofX (pm0 TM_Roads_copied (de_ixA hr.un65 (de_var (pv 1)) (de_var (pv 6)) (fun _ _ => rfl) (fun _ _ => rfl)) hgd (hr.mono (by decide))) (aMeth_len aNil_len)) (de_var (pv 1)) (de_bin opd_sub de_int (de_var (pv 6)))) (db_one (ds_stA hr.un65 (de_dctMs (.cons (de_ixA hr.un65 (de_ixA hr.un65 (de_var (pv 2)) (de_var (pv 6)) (fun _ _ => rfl) (fun _ _ => rfl)) de_str (fun _ _ => rfl) (fun _ _ => rfl)) (.cons (de_callT (cd_dctG rfl) rfl T.n_dict (by decide +kernel) (da_cons (de_ixA hr.un65 (de_ixA hr.un65 (de_var (pv 2)) (de_var (pv 6)) (fun _ _ => rfl) (fun _ _ => rfl)) de_str (fun _ _ => rfl) (fun _ _ => rfl)) da_nil)) .nil))) (de_var (pv 2)) (de_bin opd_sub de_int (de_var (pv 6)))))) db_nil) (db_cons (ds_if (dt_not (dt_val (de_call T__law_deed.ok hgd hr rfl T__law_deed.mg T__law_deed.kp T__law_deed.bd .nil (fun _ _ => rfl) rfl (da_cons (de_var (pv 4)) (da_cons (de_ixA hr.un65 (de_var (pv 1)) (de_var (pv 6)) (fun _ _ => rfl) (fun _ _ => rfl)) (da_cons (de_ixA hr.un65 (de_var (pv 2)) (de_var (pv 6)) (fun _ _ => rfl) (fun _ _ => rfl)) da_nil))) (aCons_len (aCons_len (aCons_len aNil_len)))))) (db_one (ds_ret de_bl)) db_nil) (db_one (ds_if (dt_w (dw_or (dt_not (dt_val (de_call T__law_right.ok hgd (hr.mono (by decide)) rfl T__law_right.mg T__law_right.kp T__law_right.bd .nil (fun _ _ => rfl) rfl (da_cons (de_ixA hr.un65 (de_var (pv 1)) de_int (fun _ _ => rfl) (fun _ _ => rfl)) (da_cons (de_ixA hr.un65 (de_var (pv 2)) de_int (fun _ _ => rfl) (fun _ _ => rfl)) da_nil)) (aCons_len (aCons_len aNil_len))))) (dw_or1 (dt_not (dt_val (de_call T__law_right.ok hgd (hr.mono (by decide)) rfl T__law_right.mg T__law_right.kp T__law_right.bd .nil (fun _ _ => rfl) rfl (da_cons (de_ixA hr.un65 (de_var (pv 1)) de_int (fun _ _ => rfl) (fun _ _ => rfl)) (da_cons (de_ixA hr.un65 (de_var (pv 2)) de_int (fun _ _ => rfl) (fun _ _ => rfl)) da_nil)) (aCons_len (aCons_len aNil_len)))))))) (db_one (ds_ret de_bl)) db_nil))))))))) (db_one (ds_ret de_bl)))))
end
end Law

set_option Elab.async false
set_option linter.all false
set_option autoImplicit false
set_option maxRecDepth 100000
set_option maxHeartbeats 4000000
namespace Law
open PySem PySem.Spec PySem.Calls L2 G GL
def BagOk (n : Nat) (o : MO) : Prop := ∃ a b c : Int, o = .lst [.int a, .int b, .int c] ∧ 0 ≤ a ∧ 0 ≤ b ∧ b < 2147483648 ∧ 0 ≤ c ∧ c ≤ n
theorem take_ok {k n : Nat} {μ : List MO} {o : MO} {m : Int} (h : μ[k]? = some o) (hb : BagOk n o) (hm : 0 < m) (hm2 : m.natAbs.log2 < 9000) (hn : n ≤ 1000000) :
    ∃ (d : Int) (o' : MO), f__law_take [.mut k, .int m] μ = some (.int d, μ.set k o') ∧ 0 ≤ d ∧ d < m ∧ BagOk (n + 1) o' := by
  obtain ⟨a, b, c, rfl, ha, hb0, hb1, hc0, hc1⟩ := hb
  have hk : k < μ.length := (List.getElem?_eq_some_iff.mp h).1
  have i0 : ixN 3 0 = some 0 := by decide
  have i1 : ixN 3 1 = some 1 := by decide
  have i2 : ixN 3 2 = some 2 := by decide
  have ix : ∀ (j : Nat) (x y z : Int) (ν : List MO), ν[k]? = some (.lst [.int x, .int y, .int z]) → j < 3 → ixA (.mut k) (.int (j : Nat)) ν = some ([D.int x, D.int y, D.int z].getD j .non, ν) := by
    intro j x y z ν e hj
    have : j = 0 ∨ j = 1 ∨ j = 2 := by omega
    rcases this with rfl | rfl | rfl <;> simp [ixA, dctD, ixD, seqD, e, L2.atI, i0, i1, i2]
  have lg : ∀ (z : Int) (j : Nat), 0 < j → z.natAbs < 2 ^ j → z.natAbs.log2 < j := fun z j h0 h1 => PySem.Flt.log2_lt_of h0 h1
  by_cases hpos : 0 < a
  · refine ⟨a % m, .lst [.int (a / m), .int b, .int c], ?_, Int.emod_nonneg _ (by omega), Int.emod_lt_of_pos _ hm, ⟨_, _, _, rfl, Int.ediv_nonneg (by omega) (by omega), hb0, hb1, hc0, by omega⟩⟩
    have x0 := ix 0 a b c μ h (by decide)
    simp at x0
    simp [f__law_take, runB, b__law_take, bThen, bIf, asB, eBin, eThen, eVar, eC, startD, gtD, bSet, modD, fdivD, bStA, dctD, bSt, bRet, x0, hpos, hm, hm2, h, i0]
  · have x2 := ix 2 a b c μ h (by decide)
    have hs : (μ.set k (.lst [.int a, .int b, .int (c + 1)]))[k]? = some (.lst [.int a, .int b, .int (c + 1)]) := by rw [List.getElem?_set_self hk]
    have x2' := ix 2 a b (c + 1) _ hs (by decide)
    have x1' := ix 1 a b (c + 1) _ hs (by decide)
    have x0 := ix 0 a b c μ h (by decide)
    simp at x0 x2 x2' x1'
    have l1 : (7919 : Int).natAbs.log2 + (c + 1).natAbs.log2 < 1000000 := by
      have q1 := lg 7919 16 (by decide) (by decide)
      have q2 := lg (c + 1) 30 (by decide) (by omega)
      omega
    have l2 : (96702 : Int).natAbs.log2 + (c + 1).natAbs.log2 < 1000000 := by
      have q1 := lg 96702 17 (by decide) (by decide)
      have q2 := lg (c + 1) 30 (by decide) (by omega)
      omega
    have m2 : (96702 * (c + 1)).natAbs < 2 ^ 40 := by omega
    have l2' : (96702 * (c + 1)).natAbs.log2 + (c + 1).natAbs.log2 < 1000000 := by
      have q1 := lg (96702 * (c + 1)) 40 (by decide) m2
      have q2 := lg (c + 1) 30 (by decide) (by omega)
      omega
    have p1 : (b + 7919 * (c + 1) + 54).natAbs < 2 ^ 64 := by omega
    generalize e1 : (b + 7919 * (c + 1) + 54) ^ 5 % 2147483647 = t1
    have t1a : 0 ≤ t1 := by rw [← e1]; exact Int.emod_nonneg _ (by decide)
    have t1b : t1 < 2147483647 := by rw [← e1]; exact Int.emod_lt_of_pos _ (by decide)
    have sq : 96702 * (c + 1) * (c + 1) ≤ 96702 * 1000001 * 1000001 := by
      have h1 : 96702 * (c + 1) * (c + 1) ≤ 96702 * (c + 1) * 1000001 := Int.mul_le_mul_of_nonneg_left (by omega) (by omega)
      omega
    have sq0 : 0 ≤ 96702 * (c + 1) * (c + 1) := Int.mul_nonneg (by omega) (by omega)
    have p2 : (t1 / 8 + 96702 * (c + 1) * (c + 1) + 3).natAbs < 2 ^ 64 := by omega
    generalize e2 : (t1 / 8 + 96702 * (c + 1) * (c + 1) + 3) ^ 3 % 2147483629 = t2
    have t2a : 0 ≤ t2 := by rw [← e2]; exact Int.emod_nonneg _ (by decide)
    have t2b : t2 < 2147483629 := by rw [← e2]; exact Int.emod_lt_of_pos _ (by decide)
    refine ⟨(t1 / 4 + 536870909 * (t2 / 4)) % m, .lst [.int a, .int b, .int (c + 1)], ?_, Int.emod_nonneg _ (by omega), Int.emod_lt_of_pos _ hm, ⟨_, _, _, rfl, ha, hb0, hb1, by omega, by omega⟩⟩
    have l3 : (8 : Int).natAbs.log2 < 9000 := by have := lg 8 6 (by decide) (by decide); omega
    have l4 : (4 : Int).natAbs.log2 < 9000 := by have := lg 4 6 (by decide) (by decide); omega
    have l5 : (536870909 : Int).natAbs.log2 + (t2 / 4).natAbs.log2 < 1000000 := by
      have q1 := lg 536870909 30 (by decide) (by decide)
      have q2 := lg (t2 / 4) 32 (by decide) (by omega)
      omega
    simp only [show ((7919 : Int).natAbs) = 7919 from rfl, show ((96702 : Int).natAbs) = 96702 from rfl, show ((8 : Int).natAbs) = 8 from rfl, show ((4 : Int).natAbs) = 4 from rfl, show ((536870909 : Int).natAbs) = 536870909 from rfl, show (2 ^ 64 : Nat) = 18446744073709551616 from rfl] at l1 l2 l2' l3 l4 l5 p1 p2
    simp [f__law_take, runB, b__law_take, bThen, bIf, asB, eBin, eThen, eVar, eC, startD, gtD, bSet, modD, fdivD, mulD, addD, powD, bStA, dctD, bSt, bRet, bNil, x0, x2, x2', x1', hpos, hm, hm2, h, i2, l1, l2, l2', l3, l4, l5, p1, p2, e1, e2]
def Drawn (b : Nat) (μ μ' : List MO) : Prop := ∀ (i : Nat) (o : MO), i ≠ b → μ[i]? = some o → μ'[i]? = some o
theorem Drawn.trans {b : Nat} {μ μ' μ'' : List MO} (a : Drawn b μ μ') (c : Drawn b μ' μ'') : Drawn b μ μ'' := fun i o h e => c i o h (a i o h e)
theorem Drawn.refl (b : Nat) (μ : List MO) : Drawn b μ μ := fun _ _ _ e => e
def Bg (R : List MO) (k n : Nat) (μ : List MO) : Prop := (∃ o, μ[k]? = some o ∧ BagOk n o) ∧ Drawn k R μ
variable {R : List MO}
theorem Bg.mono {k n m : Nat} {μ : List MO} (h : Bg R k n μ) (l : n ≤ m) : Bg R k m μ := by
  obtain ⟨⟨o, e, a, b, c, rfl, h1, h2, h3, h4, h5⟩, dr⟩ := h
  exact ⟨⟨_, e, a, b, c, rfl, h1, h2, h3, h4, by omega⟩, dr⟩
theorem Bg.re {k n : Nat} {μ : List MO} (h : Bg R k n μ) : Bg μ k n μ := ⟨h.1, Drawn.refl k μ⟩
theorem Bg.un {k n m : Nat} {μ μ' : List MO} (h : Bg R k n μ) (h2 : Bg μ k m μ') : Bg R k m μ' := ⟨h2.1, h.2.trans h2.2⟩
theorem take_bg {k n : Nat} {μ : List MO} {m : Int} (h : Bg R k n μ) (hm : 0 < m) (hm2 : m.natAbs < 2 ^ 128) (hn : n ≤ 1000000) :
    ∃ (d : Int) (μ' : List MO), f__law_take [.mut k, .int m] μ = some (.int d, μ') ∧ 0 ≤ d ∧ d < m ∧ Bg R k (n + 1) μ' := by
  obtain ⟨⟨o, e, b⟩, dr⟩ := h
  have hl : m.natAbs.log2 < 9000 := Nat.lt_trans (PySem.Flt.log2_lt_of (by decide : 0 < 128) hm2) (by decide)
  obtain ⟨d, o', e1, e2, e3, e4⟩ := take_ok e b hm hl hn
  have hk : k < μ.length := (List.getElem?_eq_some_iff.mp e).1
  exact ⟨d, _, e1, e2, e3, ⟨o', by rw [List.getElem?_set_self hk], e4⟩, fun i u hi ei => by rw [List.getElem?_set_ne (Ne.symm hi)]; exact dr i u hi ei⟩
theorem take_at {i k n : Nat} {m : Int} {fm : EF} {δ : List SV} {μ : List MO} (hi : δ[i]? = some (.d (.mut k))) (hf : fm δ μ = some (.int m, μ)) (h : Bg R k n μ) (hm : 0 < m) (hm2 : m.natAbs < 2 ^ 128) (hn : n ≤ 1000000) :
    ∃ (d : Int) (μ' : List MO), eFn f__law_take [] (aCons (eVar i) (aCons fm aNil)) δ μ = some (.int d, μ') ∧ 0 ≤ d ∧ d < m ∧ Bg R k (n + 1) μ' := by
  obtain ⟨d, μ', e, h1, h2, h3⟩ := take_bg h hm hm2 hn
  refine ⟨d, μ', ?_, h1, h2, h3⟩
  simp [eFn, aThen, aCons, aNil, eVar, eThen, hi, hf, e]
variable {b m d : Nat} {μ : List MO} {x : D}
def Bx (b n : Nat) (μ : List MO) : Prop := ∃ o, μ[b]? = some o ∧ BagOk n o
theorem Bx.bg {n : Nat} (h : Bx b n μ) : Bg μ b n μ := ⟨h, Drawn.refl b μ⟩
theorem Bx.lt {n : Nat} (h : Bx b n μ) : b < μ.length := by
  obtain ⟨o, e, _⟩ := h
  exact (List.getElem?_eq_some_iff.mp e).1
theorem Bx.mono {n k : Nat} (h : Bx b n μ) (l : n ≤ k) : Bx b k μ := (h.bg.mono l).1
theorem Bx.keeps {n : Nat} {μ' : List MO} (h : Bx b n μ) (k : Keeps μ μ') : Bx b n μ' := by
  obtain ⟨o, e, q⟩ := h
  exact ⟨o, k _ _ e, q⟩
theorem take_x {i n : Nat} {w : Int} {fm : EF} {δ : List SV} {μ : List MO} (hi : δ[i]? = some (.d (.mut b))) (hf : fm δ μ = some (.int w, μ)) (h : Bx b n μ) (hm : 0 < w) (hm2 : w.natAbs < 2 ^ 128) (hn : n ≤ 1000000) :
    ∃ (d : Int) (μ' : List MO), eFn f__law_take [] (aCons (eVar i) (aCons fm aNil)) δ μ = some (.int d, μ') ∧ 0 ≤ d ∧ d < w ∧ Bx b (n + 1) μ' ∧ Drawn b μ μ' := by
  obtain ⟨d, μ', e, h1, h2, B⟩ := take_at hi hf h.bg hm hm2 hn
  exact ⟨d, μ', e, h1, h2, B.1, B.2⟩
theorem box_ok (c : Int) (μ : List MO) : ∃ o, f__law_box [.int c] μ = some (.mut μ.length, μ ++ [o]) ∧ BagOk 0 o := by
  refine ⟨.lst [.int (if c - 10 ^ 18 > 0 then c - 10 ^ 18 else 0), .int (c % 2147483629), .int 0], ?_, _, _, _, rfl, ?_, Int.emod_nonneg _ (by decide), Int.lt_trans (Int.emod_lt_of_pos _ (by decide)) (by decide), by omega, by omega⟩
  · simp [f__law_box, runB, b__law_box, bRet, eMut, nLst, aCons, aNil, eThen, eCall, aThen, eC, eBin, eVar, startD, subD, powD, modD, maxD]
  · split <;> omega
theorem cell_ok {ns : List Int} (hl : ns.length ≤ 63) (k : Nat) (hk : k ≤ 1000) (μ : List MO) : ∃ c : Int, f__law_cell [.scr ns, .int k] μ = some (.int c, μ) := by
  by_cases h : k < ns.length
  · have hz : ((k : Nat) : Int) < ns.length := by omega
    refine ⟨ns[k], ?_⟩
    have e : ixA (.scr ns) (.int k) μ = some (.int ns[k], μ) := by
      have : L2.atI ns (k : Int) = some ns[k] := by simp [L2.atI, L2.ixN, hz, h]
      simp [ixA, dctD, ixD, this]
    refine run_of ?_
    have q : asB (eBin ltD (eVar 1) (eCall lenA (aCons (eVar 0) aNil))) (startD 2 [.scr ns, .int k]) μ = some (true, μ) := by
      simp [asB, eBin, eThen, eVar, startD, eCall, aThen, aCons, aNil, lenA, dctD, lenD, ltD, hz]
    exact ask_ret q (bin_at (var_at rfl) (var_at rfl) e)
  · refine ⟨8675 * k + 54, run_of ?_⟩
    have hz : ¬ ((k : Nat) : Int) < ns.length := by omega
    have q : asB (eBin ltD (eVar 1) (eCall lenA (aCons (eVar 0) aNil))) (startD 2 [.scr ns, .int k]) μ = some (false, μ) := by
      simp [asB, eBin, eThen, eVar, startD, eCall, aThen, aCons, aNil, lenA, dctD, lenD, ltD, hz]
    rw [show b__law_cell = bThen (bIf _ _ bNil) _ from rfl, ask_on q]
    exact ret_eq (addE (fb := eC (.int 54)) (a := 8675 * k) (mulE (fa := eC (.int 8675)) rfl (var_at rfl) (by decide) (by omega)) rfl)
end Law

set_option Elab.async false
set_option linter.all false
set_option autoImplicit false
set_option maxRecDepth 100000
set_option maxHeartbeats 4000000
namespace Law
open PySem PySem.Spec PySem.Calls L2 G GL
/-! ### roads -/
abbrev insR (d : Nat) (L : Int) : MO := .ins 4 ["_letters", "_last"] [.mut d, .int L]
structure Rd (μ : List MO) (a d : Nat) (L : Int) (ks : List Int) (xs : List D) : Prop where
  ia : μ[a]? = some (insR d L)
  id : μ[d]? = some (.dct (ks.map Sum.inl) xs)
section
variable {μ : List MO} {a d : Nat} {L : Int} {ks : List Int} {xs : List D} {x : D}
theorem num_int (i : Int) (μ : List MO) : f_is_number [.int i] μ = some (.bl true, μ) := by
  simp [f_is_number, runB, b_is_number, bRet, eAndV, eNotV, eThen, eCall, aThen, aCons, aNil, eVar, eC, startD, isiG, isiP, typeD, kitAnyB]
  rfl
theorem num_non (μ : List MO) : f_is_number [.non] μ = some (.bl false, μ) := rfl
theorem num_bl (b : Bool) (μ : List MO) : f_is_number [.bl b] μ = some (.bl false, μ) := rfl
theorem num_str (s : Str) (μ : List MO) : f_is_number [.str s] μ = some (.bl false, μ) := rfl
theorem num_tup (xs : List D) (μ : List MO) : f_is_number [.tup xs] μ = some (.bl false, μ) := rfl
theorem num_dct (ks : List Key) (xs : List D) (μ : List MO) : f_is_number [.dct ks xs] μ = some (.bl false, μ) := rfl
theorem num_mut {k : Nat} {xs : List D} {μ : List MO} (h : μ[k]? = some (.lst xs)) : f_is_number [.mut k] μ = some (.bl false, μ) := by
  have t : typeD μ (.mut k) = some "list" := by simp only [typeD, h]
  have : isiG [.mut k, .ty "int"] μ = some (.bl false, μ) := by
    simp only [isiG, isiP, t]
    rfl
  simp [f_is_number, runB, b_is_number, bRet, eAndV, eThen, eCall, aThen, aCons, aNil, eVar, eC, startD, this]
theorem letters_at (h : Rd μ a d L ks xs) {i : Nat} {δ : List SV} (v : δ[i]? = some (.d (.mut a))) : eFld "_letters" clFl__letters (eVar i) δ μ = some (.mut d, μ) := by
  simp [eFld, eThen, eVar, v, h.ia, clFl__letters, insR]
theorem last_at (h : Rd μ a d L ks xs) {i : Nat} {δ : List SV} (v : δ[i]? = some (.d (.mut a))) : eFld "_last" clFl__last (eVar i) δ μ = some (.int L, μ) := by
  have e : ((["_letters", "_last"] : List Str).zip [D.mut d, D.int L]).lookup ("_last" : Str) = some (D.int L) := rfl
  simp only [eFld, eThen, eVar, v, h.ia, insR, clFl__last, e]
  rfl
theorem letter_yes (h : Rd μ a d L ks xs) {i : Int} (hl : lookK (.inl i) (ks.map Sum.inl) xs = some x) : fx_Roads_letter [.mut a, .int i] μ = some (.ok x μ) := by
  refine runX_rt ?_
  have N := not_eq (asB_eq (fnE (fn := f_is_number) (a1 (i := 1) (δ := startD 2 [.mut a, .int i]) (x := .int i) (μ := μ) rfl) (num_int i μ)))
  have W := letters_at h (i := 0) (δ := startD 2 [.mut a, .int i]) rfl
  have I : asB (eBin ninA (eVar 1) (eFld "_letters" clFl__letters (eVar 0))) (startD 2 [.mut a, .int i]) μ = some (false, μ) := asB_eq (bin_at (x := .int i) (var_at rfl) W (by simp [ninA, dctD, h.id, keyD, hl]))
  rw [show b_Roads_letter = bThen (bIf (tfOr _ _) _ bNil) _ from rfl, then_nx (if_nx (tOr_eq2 N I))]
  exact ret_eq (bin_at (y := .int i) W (var_at rfl) (by simp [ixA, dctD, h.id, keyD, hl]))
theorem letter_no (h : Rd μ a d L ks xs) {n : D} {b : Bool} (hn : f_is_number [n] μ = some (.bl b, μ)) (hl : b = true → ∃ i, n = .int i ∧ lookK (.inl i) (ks.map Sum.inl) xs = none) : fx_Roads_letter [.mut a, n] μ = some (.ex 0 "found" "not on the road" n μ) := by
  refine runX_xc (δ := startD 2 [.mut a, n]) ?_
  have N := not_eq (asB_eq (fnE (fn := f_is_number) (a1 (i := 1) (δ := startD 2 [.mut a, n]) (x := n) (μ := μ) rfl) hn))
  have W := letters_at h (i := 0) (δ := startD 2 [.mut a, n]) rfl
  have T : tfOr (tfNot (asB (eFn f_is_number [] (aCons (eVar 1) (aNil))))) (asB (eBin ninA (eVar 1) (eFld "_letters" clFl__letters (eVar 0)))) (startD 2 [.mut a, n]) μ = some (true, μ) := by
    cases b with
    | false => simp only [tfOr, G.tThen, N]; rfl
    | true =>
      obtain ⟨i, rfl, e⟩ := hl rfl
      have I : asB (eBin ninA (eVar 1) (eFld "_letters" clFl__letters (eVar 0))) (startD 2 [.mut a, .int i]) μ = some (true, μ) := asB_eq (bin_at (x := .int i) (var_at rfl) W (by simp [ninA, dctD, h.id, keyD, e]))
      exact tOr_eq2 N I
  rw [show b_Roads_letter = bThen (bIf (tfOr _ _) _ bNil) _ from rfl]
  refine then_xc ?_
  simp only [bIf, T]
  exact raise_at (i := 1) (x := n) (δ := startD 2 [.mut a, n]) rfl

/-- what a thing is not: a number of the roads' letters -/
def NotIn (μ : List MO) (ks : List Int) (xs : List D) (n : D) : Prop := ∃ b, f_is_number [n] μ = some (.bl b, μ) ∧ (b = true → ∃ i, n = .int i ∧ lookK (.inl i) (ks.map Sum.inl) xs = none)
theorem letter_err (h : Rd μ a d L ks xs) {n : D} (hn : NotIn μ ks xs n) : fx_Roads_letter [.mut a, n] μ = some (.ex 0 "found" "not on the road" n μ) := by
  obtain ⟨b, e, k⟩ := hn
  exact letter_no h e k
theorem mth_at {m : Str} {i a : Nat} {C : Nat} {ns : List Str} {ys : List D} {r : AF} {zs : List D} {δ : List SV} {μ μ1 : List MO} (v : δ[i]? = some (.d (.mut a))) (h : μ[a]? = some (.ins C ns ys)) (hm : m ∉ ns) (e : r δ μ = some (zs, μ1)) : aMeth C m (eVar i) r δ μ = some (.mut a :: zs, μ1) := by
  simp [aMeth, eVar, v, h, hm, e]
theorem mth_no {m : Str} {i a : Nat} {C : Nat} {ns : List Str} {ys : List D} {r : AF} {δ : List SV} {μ : List MO} (v : δ[i]? = some (.d (.mut a))) (h : μ[a]? = some (.ins C ns ys)) (e : r δ μ = none) : aMeth C m (eVar i) r δ μ = none := by
  simp [aMeth, eVar, v, h, e]
theorem fnX_no {fn : XF} {r : AF} {δ : List SV} {μ : List MO} (h : r δ μ = none) : eFnX fn r δ μ = none := by simp [eFnX, aThen, h]
theorem take_off_yes (h : Rd μ a d L ks xs) {i : Int} (hl : lookK (.inl i) (ks.map Sum.inl) xs = some x) : fx_Roads_take_off [.mut a, .int i] μ = some (.ok x (μ.set d (.dct (dropD (.inl i) (ks.map Sum.inl) xs).1 (dropD (.inl i) (ks.map Sum.inl) xs).2))) := by
  refine runX_rt ?_
  let δ := startD 3 [.mut a, .int i]
  have A := mth_at (m := "letter") (i := 0) (δ := δ) rfl h.ia (by decide) (a1 (i := 1) (δ := δ) (x := .int i) (μ := μ) rfl)
  have G1 : bSetG 2 (gCall fx_Roads_letter (aMeth 4 "letter" (eVar 0) (aCons (eVar 1) (aNil)))) δ μ = some (.nx (δ.set 2 (.d x)) μ) := by
    simp only [bSetG, gCall, A, letter_yes h hl]
  have W := letters_at h (i := 0) (δ := δ.set 2 (.d x)) rfl
  have V : eVar 1 (δ.set 2 (.d x)) μ = some (.int i, μ) := var_at rfl
  have D1 : bDDel (eFld "_letters" clFl__letters (eVar 0)) (eVar 1) (δ.set 2 (.d x)) μ = some (.nx (δ.set 2 (.d x)) (μ.set d (.dct (dropD (.inl i) (ks.map Sum.inl) xs).1 (dropD (.inl i) (ks.map Sum.inl) xs).2))) := by
    simp only [bDDel, W, V, keyD, h.id, hl, Option.isSome_some, if_true]
  rw [show b_Roads_take_off = bThen (bSetG 2 (gCall fx_Roads_letter (aMeth 4 "letter" (eVar 0) (aCons (eVar 1) (aNil))))) (bThen (bDDel _ _) _) from rfl, then_nx G1, then_nx D1]
  exact ret_eq (var_at rfl)
theorem take_off_no (h : Rd μ a d L ks xs) {n : D} (hn : NotIn μ ks xs n) : fx_Roads_take_off [.mut a, n] μ = some (.ex 0 "found" "not on the road" n μ) := by
  let δ := startD 3 [.mut a, n]
  refine runX_xc (δ := δ) ?_
  have A := mth_at (m := "letter") (i := 0) (δ := δ) rfl h.ia (by decide) (a1 (i := 1) (δ := δ) (x := n) (μ := μ) rfl)
  refine then_xc (C := 0) (x := "found") (m := "not on the road") (d := n) ?_
  show bSetG 2 (gCall fx_Roads_letter (aMeth 4 "letter" (eVar 0) (aCons (eVar 1) (aNil)))) δ μ = _
  simp only [bSetG, gCall, A, letter_err h hn]
theorem put_fld : clFl__last 4 = true := by decide
/-- the roads behind a letter more -/
theorem put_ok (h : Rd μ a d L ks xs) (hk : d < μ.length) (ne : a ≠ d) (hf : lookK (.inl (L + 1)) (ks.map Sum.inl) xs = none) (hz : ks.length < 1000) :
    ∃ μ', toX f_Roads_put [.mut a, x] μ = some (.ok (.int (L + 1)) μ') ∧ μ' = (μ.set a (insR d (L + 1))).set d (.dct (putX (ks.map Sum.inl) xs (.inl (L + 1)) x).1 (putX (ks.map Sum.inl) xs (.inl (L + 1)) x).2) := by
  refine ⟨_, ?_, rfl⟩
  let δ := startD 2 [.mut a, x]
  have ka : a < μ.length := (List.getElem?_eq_some_iff.mp h.ia).1
  let μ1 := μ.set a (insR d (L + 1))
  have R1 : Rd μ1 a d (L + 1) ks xs := ⟨by simp [μ1, ka], kept h.id ne⟩
  have e0 : ((["_letters", "_last"] : List Str).zip [D.mut d, D.int L]).lookup ("_last" : Str) = some (D.int L) := rfl
  have e1 : putN ["_letters", "_last"] [D.mut d, .int L] "_last" (.int (L + 1)) = ((["_letters", "_last"] : List Str), [D.mut d, D.int (L + 1)]) := rfl
  have S1 : bFldInc "_last" clFl__last (eVar 0) (eC (.int 1)) δ μ = some (.nx δ μ1) := by
    have v : eVar 0 δ μ = some (.mut a, μ) := rfl
    simp only [bFldInc, v, h.ia, insR, put_fld, if_true, e0, eC, e1, true_and]
    rfl
  have W := letters_at R1 (i := 0) (δ := δ) rfl
  have Z := last_at R1 (i := 0) (δ := δ) rfl
  let μ2 := μ1.set d (.dct (putX (ks.map Sum.inl) xs (.inl (L + 1)) x).1 (putX (ks.map Sum.inl) xs (.inl (L + 1)) x).2)
  have S2 : bStA (eVar 1) (eFld "_letters" clFl__letters (eVar 0)) (eFld "_last" clFl__last (eVar 0)) δ μ1 = some (.nx δ μ2) := by
    have v : eVar 1 δ μ1 = some (x, μ1) := rfl
    have l : (ks.map (Sum.inl (β := Str))).length < 1000000 := by rw [List.length_map]; omega
    simp only [bStA, v, W, Z, dctD, R1.id, bDPut, keyD]
    rw [if_pos l]
  have R2 : μ2[a]? = some (insR d (L + 1)) := kept R1.ia (Ne.symm ne)
  have Z2 : eFld "_last" clFl__last (eVar 0) δ μ2 = some (.int (L + 1), μ2) := by
    have e : ((["_letters", "_last"] : List Str).zip [D.mut d, D.int (L + 1)]).lookup ("_last" : Str) = some (D.int (L + 1)) := rfl
    have v : eVar 0 δ μ2 = some (.mut a, μ2) := rfl
    simp only [eFld, eThen, v, R2, insR, put_fld, if_true, e]
  have B : b_Roads_put δ μ = some (.rt (.int (L + 1)) μ2) := by
    rw [show b_Roads_put = bThen (bFldInc "_last" clFl__last (eVar 0) (eC (.int 1))) (bThen (bStA _ _ _) _) from rfl, then_nx S1, then_nx S2]
    exact ret_eq Z2
  have Fr : f_Roads_put [.mut a, x] μ = some (.int (L + 1), μ2) := run_of B
  simp only [toX, Fr]
  try rfl
theorem doubled_yes (h : Rd μ a d L ks xs) (hk : d < μ.length) (ne : a ≠ d) (hf : lookK (.inl (L + 1)) (ks.map Sum.inl) xs = none) (hz : ks.length < 1000) {i : Int} (hl : lookK (.inl i) (ks.map Sum.inl) xs = some x) :
    fx_Roads_doubled [.mut a, .int i] μ = some (.ok (.int (L + 1)) ((μ.set a (insR d (L + 1))).set d (.dct (putX (ks.map Sum.inl) xs (.inl (L + 1)) x).1 (putX (ks.map Sum.inl) xs (.inl (L + 1)) x).2))) := by
  refine runX_rt ?_
  let δ := startD 2 [.mut a, .int i]
  have A := mth_at (m := "letter") (i := 0) (δ := δ) rfl h.ia (by decide) (a1 (i := 1) (δ := δ) (x := .int i) (μ := μ) rfl)
  have E1 := fnX A (letter_yes h hl)
  have A2 := mth_at (m := "put") (i := 0) (δ := δ) rfl h.ia (by decide) (aC E1 (a_nil _ _))
  obtain ⟨μ', e, rfl⟩ := put_ok (x := x) h hk ne hf hz
  have E2 := fnX A2 e
  show bRetG (gTry (eFnX (toX f_Roads_put) (aMeth 4 "put" (eVar 0) (aCons (eFnX fx_Roads_letter (aMeth 4 "letter" (eVar 0) (aCons (eVar 1) (aNil)))) (aNil)))) _) δ μ = _
  simp only [bRetG, gTry, E2]
theorem doubled_no (h : Rd μ a d L ks xs) {n : D} (hn : NotIn μ ks xs n) : fx_Roads_doubled [.mut a, n] μ = some (.ex 0 "found" "not on the road" n μ) := by
  let δ := startD 2 [.mut a, n]
  refine runX_xc (δ := δ) ?_
  have A := mth_at (m := "letter") (i := 0) (δ := δ) rfl h.ia (by decide) (a1 (i := 1) (δ := δ) (x := n) (μ := μ) rfl)
  have E1 : eFnX fx_Roads_letter (aMeth 4 "letter" (eVar 0) (aCons (eVar 1) (aNil))) δ μ = none := by
    simp only [eFnX, aThen, A, letter_err h hn]
  have E2 : eFnX (toX f_Roads_put) (aMeth 4 "put" (eVar 0) (aCons (eFnX fx_Roads_letter (aMeth 4 "letter" (eVar 0) (aCons (eVar 1) (aNil)))) (aNil))) δ μ = none := by
    have M := mth_no (m := "put") (i := 0) (δ := δ) rfl h.ia (aC_no (r := aNil) E1)
    exact fnX_no M
  have v : eVar 0 δ μ = some (.mut a, μ) := rfl
  have c : (4 : Nat) = 4 ∧ ("put" : Str) ∉ (["_letters", "_last"] : List Str) := by decide
  show bRetG (gTry (eFnX (toX f_Roads_put) (aMeth 4 "put" (eVar 0) (aCons (eFnX fx_Roads_letter (aMeth 4 "letter" (eVar 0) (aCons (eVar 1) (aNil)))) (aNil)))) (rMethA 4 "put" (eVar 0) (rCall fx_Roads_letter (aMeth 4 "letter" (eVar 0) (aCons (eVar 1) (aNil)))))) δ μ = _
  have R : rMethA 4 "put" (eVar 0) (rCall fx_Roads_letter (aMeth 4 "letter" (eVar 0) (aCons (eVar 1) (aNil)))) δ μ = rCall fx_Roads_letter (aMeth 4 "letter" (eVar 0) (aCons (eVar 1) (aNil))) δ μ := by
    simp only [rMethA, v, h.ia, insR]
    exact if_pos (e := none) c
  simp only [bRetG, gTry, E2, R, rCall, A, letter_err h hn]
end
end Law

set_option Elab.async false
set_option linter.all false
set_option autoImplicit false
set_option maxRecDepth 100000
set_option maxHeartbeats 4000000
namespace Law
open PySem PySem.Spec PySem.Calls L2 G GL
structure Ok (n : Nat) (L : Int) (ks : List Int) (xs : List D) : Prop where
  srt : ks.Pairwise (· < ·)
  lo : ∀ k ∈ ks, 1 ≤ k ∧ k ≤ L
  len : ks.length = xs.length
  few : ks.length ≤ n
  L0 : 0 ≤ L
  L1 : L ≤ n
  sc : ∀ x ∈ xs, Lt x
abbrev stO (L : Int) (t : Nat) : MO := .dct [.inr "last", .inr "table"] [.int L, .mut t]
structure Side (μ : List MO) (a d p t : Nat) (L : Int) (ks : List Int) (xs : List D) : Prop where
  rd : Rd μ a d L ks xs
  st : μ[p]? = some (stO L t)
  tb : μ[t]? = some (.dct (ks.map Sum.inl) xs)
section
variable {μ μ' : List MO} {a d p t n b : Nat} {L : Int} {ks : List Int} {xs : List D} {x : D} {S : List Nat}
theorem Ok.mono {m : Nat} (h : Ok n L ks xs) (l : n ≤ m) : Ok m L ks xs := ⟨h.srt, h.lo, h.len, Nat.le_trans h.few l, h.L0, by have := h.L1; omega, h.sc⟩
theorem Ok.put (h : Ok n L ks xs) (hx : Lt x) : Ok (n + 1) (L + 1) (ks ++ [L + 1]) (xs ++ [x]) := by
  refine ⟨?_, ?_, by simp [h.len], by simpa using h.few, by have := h.L0; omega, by have := h.L1; omega, ?_⟩
  · rw [List.pairwise_append]
    refine ⟨h.srt, by simp, ?_⟩
    intro k hk j hj
    have := (h.lo k hk).2
    simp at hj
    omega
  · intro k hk
    rcases List.mem_append.mp hk with q | q
    · have := h.lo k q
      omega
    · have := h.L0
      simp at q
      omega
  · intro y hy
    rcases List.mem_append.mp hy with q | q
    · exact h.sc y q
    · simp at q
      exact q ▸ hx
theorem Ok.drop (h : Ok n L ks xs) (i : Int) : ∃ (ls : List Int) (ys : List D), dropD (.inl i) (ks.map Sum.inl) xs = (ls.map Sum.inl, ys) ∧ Ok n L ls ys := by
  obtain ⟨ls, ys, e, h1, h2, h3⟩ := drop_int (i := i) ks xs h.len
  exact ⟨ls, ys, e, h.srt.sublist h1, fun k hk => h.lo k (h1.subset hk), h3, Nat.le_trans h1.length_le h.few, h.L0, h.L1, fun x hx => h.sc x (h2.subset hx)⟩
theorem Ok.fresh (h : Ok n L ks xs) : ∀ k ∈ ks, k ≠ L + 1 := fun k hk => by have := (h.lo k hk).2; omega
theorem Ok.small (h : Ok n L ks xs) (hn : n ≤ 1000000) : ∀ k ∈ ks, k.natAbs < 10 ^ 30 := fun k hk => by
  have := h.lo k hk
  have := h.L1
  have : (1000000 : Nat) < 10 ^ 30 := by decide
  omega
theorem Side.ch (h : Side μ a d p t L ks xs) (c : Ch S μ μ') (ha : a ∉ S) (hd : d ∉ S) (hp : p ∉ S) (ht : t ∉ S) : Side μ' a d p t L ks xs := ⟨⟨c a _ ha h.rd.ia, c d _ hd h.rd.id⟩, c p _ hp h.st, c t _ ht h.tb⟩
theorem Side.keeps (h : Side μ a d p t L ks xs) (c : Keeps μ μ') : Side μ' a d p t L ks xs := ⟨⟨c a _ h.rd.ia, c d _ h.rd.id⟩, c p _ h.st, c t _ h.tb⟩
theorem Side.last (h : Side μ a d p t L ks xs) {i : Nat} {δ : List SV} (v : δ[i]? = some (.d (.mut p))) : eBin ixA (eVar i) (eC (.str "last")) δ μ = some (.int L, μ) :=
  bin_at (var_at v) (y := .str "last") rfl (ixA_dct (k := .inr "last") (dct_mut h.st) rfl rfl)
theorem Side.table (h : Side μ a d p t L ks xs) {i : Nat} {δ : List SV} (v : δ[i]? = some (.d (.mut p))) : eBin ixA (eVar i) (eC (.str "table")) δ μ = some (.mut t, μ) :=
  bin_at (var_at v) (y := .str "table") rfl (ixA_dct (k := .inr "table") (dct_mut h.st) rfl rfl)
theorem numbers_ok (h : Rd μ a d L ks xs) (o : Ok n L ks xs) : toX f_Roads_numbers [.mut a] μ = some (.ok (.mut μ.length) (μ ++ [.lst (ks.map D.int)])) := by
  have e : f_Roads_numbers [.mut a] μ = some (.mut μ.length, μ ++ [.lst (ks.map D.int)]) := run_ret (callE (aC (letters_at h (i := 0) (δ := startD 1 [.mut a]) rfl) (a_nil _ _)) (sortedA_dct (dct_mut h.id) o.srt))
  simp only [toX, e]
theorem len_ok (h : Rd μ a d L ks xs) : f_Roads___len__ [.mut a] μ = some (.int ks.length, μ) := by
  have e : f_Roads___len__ [.mut a] μ = some (.int (ks.map (Sum.inl (β := Str))).length, μ) := run_ret (callE (aC (letters_at h (i := 0) (δ := startD 1 [.mut a]) rfl) (a_nil _ _)) (lenA_dct (dct_mut h.id)))
  rw [e, List.length_map]
theorem init_ok (μ : List MO) : toX f_Roads___init__ [.mut μ.length] (μ ++ [.ins 4 [] []]) = some (.ok .non (μ ++ [insR (μ.length + 1) 0, .dct [] []])) := by
  have c1 : clFl__letters 4 = true := by decide
  have c2 : clFl__last 4 = true := by decide
  have p1 : putN [] [] "_letters" (.mut (μ.length + 1)) = ((["_letters"] : List Str), [D.mut (μ.length + 1)]) := rfl
  have p2 : putN ["_letters"] [D.mut (μ.length + 1)] "_last" (.int 0) = ((["_letters", "_last"] : List Str), [D.mut (μ.length + 1), D.int 0]) := rfl
  have g1 : (μ ++ [MO.ins 4 [] [], .dct [] []])[μ.length]? = some (.ins 4 [] []) := by simp
  have g2 : (μ ++ [MO.ins 4 ["_letters"] [D.mut (μ.length + 1)], .dct [] []])[μ.length]? = some (.ins 4 ["_letters"] [D.mut (μ.length + 1)]) := by simp
  have v : ∀ ν, eVar 0 (startD 1 [.mut μ.length]) ν = some (.mut μ.length, ν) := fun _ => rfl
  have s1 : bFld "_letters" clFl__letters (eVar 0) eDctM0 (startD 1 [.mut μ.length]) (μ ++ [.ins 4 [] []]) = some (.nx (startD 1 [.mut μ.length]) (μ ++ [MO.ins 4 ["_letters"] [D.mut (μ.length + 1)], .dct [] []])) := by
    have e0 : eDctM0 (startD 1 [.mut μ.length]) (μ ++ [.ins 4 [] []]) = some (.mut (μ.length + 1), μ ++ [MO.ins 4 [] [], .dct [] []]) := by simp [eDctM0]
    simp only [bFld, e0, v, g1, c1, p1, set_app2]
    rfl
  have s2 : bFld "_last" clFl__last (eVar 0) (eC (.int 0)) (startD 1 [.mut μ.length]) (μ ++ [MO.ins 4 ["_letters"] [D.mut (μ.length + 1)], .dct [] []]) = some (.nx (startD 1 [.mut μ.length]) (μ ++ [insR (μ.length + 1) 0, .dct [] []])) := by
    simp only [bFld, eC, v, g2, c2, p2, set_app2]
    rfl
  have B : b_Roads___init__ (startD 1 [.mut μ.length]) (μ ++ [.ins 4 [] []]) = some (.nx (startD 1 [.mut μ.length]) (μ ++ [insR (μ.length + 1) 0, .dct [] []])) := by
    rw [show b_Roads___init__ = bThen _ _ from rfl, then_nx s1, s2]
  have e : f_Roads___init__ [.mut μ.length] (μ ++ [.ins 4 [] []]) = some (.non, μ ++ [insR (μ.length + 1) 0, .dct [] []]) := by
    simp only [f_Roads___init__, runB, B]
  simp only [toX, e]
theorem made_ok (μ : List MO) : mkX 4 (toX f_Roads___init__) [] μ = some (.ok (.mut μ.length) (μ ++ [insR (μ.length + 1) 0, .dct [] []])) := by
  simp only [mkX, init_ok]
theorem copied_ok (h : Rd μ a d L ks xs) : toX f_Roads_copied [.mut a] μ = some (.ok (.mut μ.length) (μ ++ [insR (μ.length + 2) L, .dct [] [], .dct (ks.map Sum.inl) xs])) := by
  let δ := startD 2 [.mut a]
  let δ1 := δ.set 1 (.d (.mut μ.length))
  have c1 : clFl__letters 4 = true := by decide
  have c2 : clFl__last 4 = true := by decide
  let μ1 := μ ++ [insR (μ.length + 1) 0, .dct [] []]
  have k1 : Rd μ1 a d L ks xs := ⟨getP h.ia, getP h.id⟩
  let μ2 := μ ++ [insR (μ.length + 2) 0, .dct [] [], .dct (ks.map Sum.inl) xs]
  have k2 : Rd μ2 a d L ks xs := ⟨getP h.ia, getP h.id⟩
  have p1 : putN ["_letters", "_last"] [D.mut (μ.length + 1), .int 0] "_letters" (.mut (μ.length + 2)) = ((["_letters", "_last"] : List Str), [D.mut (μ.length + 2), D.int 0]) := rfl
  have p2 : putN ["_letters", "_last"] [D.mut (μ.length + 2), .int 0] "_last" (.int L) = ((["_letters", "_last"] : List Str), [D.mut (μ.length + 2), D.int L]) := rfl
  have v : ∀ ν, eVar 1 δ1 ν = some (.mut μ.length, ν) := fun _ => rfl
  have s0 : bSet 1 (eFnX (mkX 4 (toX f_Roads___init__)) aNil) δ μ = some (.nx δ1 μ1) := set_at (fnX (a_nil _ _) (made_ok μ))
  have d1 : eCall dctG (aCons (eFld "_letters" clFl__letters (eVar 0)) aNil) δ1 μ1 = some (.mut (μ.length + 2), μ ++ [insR (μ.length + 1) 0, .dct [] [], .dct (ks.map Sum.inl) xs]) := by
    have q := callE (g := dctG) (aC (letters_at k1 (i := 0) (δ := δ1) rfl) (a_nil _ _)) (dctG_dct (dct_mut k1.id))
    rw [q]
    simp [μ1]
  have g1 : (μ ++ [insR (μ.length + 1) 0, .dct [] [], .dct (ks.map Sum.inl) xs])[μ.length]? = some (insR (μ.length + 1) 0) := by simp
  have g2 : μ2[μ.length]? = some (insR (μ.length + 2) 0) := by simp [μ2]
  have set3 : ∀ o u v w : MO, (μ ++ [o, v, w]).set μ.length u = μ ++ [u, v, w] := fun o u v w => by rw [List.set_append_right _ _ (Nat.le_refl _), Nat.sub_self]; rfl
  have s1 : bFld "_letters" clFl__letters (eVar 1) (eCall dctG (aCons (eFld "_letters" clFl__letters (eVar 0)) aNil)) δ1 μ1 = some (.nx δ1 μ2) := by
    simp only [bFld, d1, v, g1, insR, c1, p1, set3]
    rfl
  have s2 : bFld "_last" clFl__last (eVar 1) (eFld "_last" clFl__last (eVar 0)) δ1 μ2 = some (.nx δ1 (μ ++ [insR (μ.length + 2) L, .dct [] [], .dct (ks.map Sum.inl) xs])) := by
    simp only [bFld, last_at k2 (i := 0) (δ := δ1) rfl, v, g2, insR, c2, p2]
    simp only [μ2, set3]
    rfl
  have e : f_Roads_copied [.mut a] μ = some (.mut μ.length, μ ++ [insR (μ.length + 2) L, .dct [] [], .dct (ks.map Sum.inl) xs]) := by
    refine run_of ?_
    rw [show b_Roads_copied = bThen (bSet 1 (eFnX (mkX 4 (toX f_Roads___init__)) aNil)) (bThen (bFld "_letters" clFl__letters (eVar 1) (eCall dctG (aCons (eFld "_letters" clFl__letters (eVar 0)) aNil))) (bThen _ _)) from rfl, then_nx s0, then_nx s1, then_nx s2]
    exact ret_eq (v _)
  simp only [toX, e]
end
end Law

set_option Elab.async false
set_option linter.all false
set_option autoImplicit false
set_option maxRecDepth 100000
set_option maxHeartbeats 4000000
namespace Law
open PySem PySem.Spec PySem.Calls L2 G GL
section
variable {μ μ' : List MO} {a d p t n b : Nat} {L : Int} {ks : List Int} {xs : List D} {x : D} {S : List Nat}
/-- one of a list that is written out -/
theorem pick_x {us : List D} {r : AF} {i w : Nat} {δ : List SV} (hl : r δ μ = some (us, μ)) (h1 : us.length = w) (h0 : 0 < w) (h2 : w ≤ 100) (hi : δ[i]? = some (.d (.mut b))) (h : Bx b n μ) (hn : n ≤ 1000) :
    ∃ (x : D) (μ' : List MO), eBin ixA (eFrz (nLst r)) (eFn f__law_take [] (aCons (eVar i) (aCons (eC (.int (w : Nat))) aNil))) δ μ = some (x, μ') ∧ x ∈ us ∧ Bx b (n + 1) μ' ∧ Drawn b μ μ' := by
  obtain ⟨e, μ', e1, h3, h4, B, dr⟩ := take_x (fm := eC (.int (w : Nat))) hi rfl h (by omega) (by omega) (by omega)
  obtain ⟨x, e2, hx⟩ := ixA_frz_of (xs := us) (μ := μ') h3 (by omega)
  exact ⟨x, μ', bin_at (frz hl (by omega)) e1 e2, hx, B, dr⟩
theorem add1_x {i w : Nat} {δ : List SV} (h0 : 0 < w) (h2 : w ≤ 1000) (hi : δ[i]? = some (.d (.mut b))) (h : Bx b n μ) (hn : n ≤ 1000) :
    ∃ (e : Int) (μ' : List MO), eBin addD (eC (.int 1)) (eFn f__law_take [] (aCons (eVar i) (aCons (eC (.int (w : Nat))) aNil))) δ μ = some (.int e, μ') ∧ e.natAbs < 10 ^ 30 ∧ Bx b (n + 1) μ' ∧ Drawn b μ μ' := by
  obtain ⟨e, μ', e1, h3, h4, B, dr⟩ := take_x (fm := eC (.int (w : Nat))) hi rfl h (by omega) (by omega) (by omega)
  have : (1000000 : Nat) < 10 ^ 30 := by decide
  exact ⟨1 + e, μ', addE (fa := eC (.int 1)) rfl e1, by omega, B, dr⟩
theorem sc_text {s : Str} (h : s.length ≤ 60 ∧ s.cps.toList.all (fun c => decide (c < 128)) = true) : Sc μ 0 60 (.str s) (.str s) :=
  (sc_str fun c hc => by simpa using List.all_eq_true.mp h.2 c hc).mono (Nat.le_refl _) h.1
def okT (s : Str) : Prop := s.length ≤ 60 ∧ s.cps.toList.all (fun c => decide (c < 128)) = true
theorem x60 (δ : List SV) (μ : List MO) : ∃ s, eBin mulM (eC (.str "x")) (eC (.int 60)) δ μ = some (.str s, μ) ∧ okT s := ⟨Txt.mul "x" 60, by simp [eBin, eThen, eC, mulM, seqD, Str.length]; decide, by unfold okT; decide⟩
theorem lt_letter {g z s : Str} {i j k : Int} (hg : g.length ≤ 3 ∧ g.cps.toList.all (fun c => decide (c < 128)) = true) (hz : z.length ≤ 3 ∧ z.cps.toList.all (fun c => decide (c < 128)) = true) (hs : okT s) (hi : i.natAbs < 10 ^ 30) (hj : j.natAbs < 10 ^ 30) (hk : k.natAbs < 10 ^ 30) :
    Lt (.tup [.str g, .str z, .tup [.str g, .int i, .int j, .str s], .tup [.str z, .int k]]) := by
  refine ⟨.tuple [.str g, .str z, .tuple [.str g, .int i, .int j, .str s], .tuple [.str z, .int k]], fun μ => ?_⟩
  have sg : Sc μ 0 3 (.str g) (.str g) := (sc_str fun c hc => by simpa using List.all_eq_true.mp hg.2 c hc).mono (Nat.le_refl _) hg.1
  have sz : Sc μ 0 3 (.str z) (.str z) := (sc_str fun c hc => by simpa using List.all_eq_true.mp hz.2 c hc).mono (Nat.le_refl _) hz.1
  have w : Sc μ 1 69 (.tup [.str g, .int i, .int j, .str s]) _ := (Scs.cons sg (.cons (sc_int hi) (.cons (sc_int hj) (.cons (sc_text hs) .nil)))).tup.mono (Nat.le_refl _) (by omega)
  have v : Sc μ 1 6 (.tup [.str z, .int k]) _ := (Scs.cons sz (.cons (sc_int hk) .nil)).tup.mono (Nat.le_refl _) (by omega)
  exact (Scs.cons (sg.mono (Nat.zero_le 1) (Nat.le_refl _)) (.cons (sz.mono (Nat.zero_le 1) (Nat.le_refl _)) (.cons w (.cons v .nil)))).tup.mono (by omega) (by omega)
theorem par_at {i j : Nat} {r : AF} {δ : List SV} {μ1 : List MO} {y : D} (h : r δ μ = some ([x, y], μ1)) : bPar i j r δ μ = some (.nx ((δ.set i (.d x)).set j (.d y)) μ1) := by simp [bPar, h]
theorem letter_drawn (h : Bx b n μ) (hn : n ≤ 900) : ∃ (x : D) (μ' : List MO), f__law_letter [.mut b] μ = some (x, μ') ∧ Lt x ∧ Bx b (n + 6) μ' ∧ Drawn b μ μ' := by
  let δ : List SV := startD 4 [.mut b]
  obtain ⟨x1, μ1, e1, m1, B1, d1⟩ := pick_x (us := [.str "a", .str "bb", .str "ccc"]) (r := aCons (eC (.str "a")) (aCons (eC (.str "bb")) (aCons (eC (.str "ccc")) aNil))) (i := 0) (w := 3) (δ := δ) rfl rfl (by omega) (by omega) rfl h (by omega)
  obtain ⟨x2, μ2, e2, m2, B2, d2⟩ := pick_x (us := [.str "a", .str "z"]) (r := aCons (eC (.str "a")) (aCons (eC (.str "z")) aNil)) (i := 0) (w := 2) (δ := δ) rfl rfl (by omega) (by omega) rfl B1 (by omega)
  obtain ⟨g, rfl, hg⟩ : ∃ g, x1 = .str g ∧ (g.length ≤ 3 ∧ g.cps.toList.all (fun c => decide (c < 128)) = true) := by
    simp only [List.mem_cons, List.not_mem_nil, or_false] at m1
    rcases m1 with rfl | rfl | rfl
    · exact ⟨_, rfl, by decide⟩
    · exact ⟨_, rfl, by decide⟩
    · exact ⟨_, rfl, by decide⟩
  obtain ⟨z, rfl, hz⟩ : ∃ g, x2 = .str g ∧ (g.length ≤ 3 ∧ g.cps.toList.all (fun c => decide (c < 128)) = true) := by
    simp only [List.mem_cons, List.not_mem_nil, or_false] at m2
    rcases m2 with rfl | rfl
    · exact ⟨_, rfl, by decide⟩
    · exact ⟨_, rfl, by decide⟩
  let δ1 : List SV := [.d (.mut b), .no, .d (.str g), .d (.str z)]
  obtain ⟨i3, μ3, e3, h3, B3, d3⟩ := add1_x (i := 0) (w := 3) (δ := δ1) (by omega) (by omega) rfl B2 (by omega)
  obtain ⟨i4, μ4, e4, h4, B4, d4⟩ := add1_x (i := 0) (w := 99) (δ := δ1) (by omega) (by omega) rfl B3 (by omega)
  obtain ⟨s60, q60, o60⟩ := x60 δ1 μ4
  obtain ⟨x5, μ5, e5, m5, B5, d5⟩ := pick_x (us := [.str "", .str "tea", .str s60]) (r := aCons (eC (.str "")) (aCons (eC (.str "tea")) (aCons (eBin mulM (eC (.str "x")) (eC (.int 60))) aNil))) (i := 0) (w := 3) (δ := δ1) (aC rfl (aC rfl (aC q60 (a_nil _ _)))) rfl (by omega) (by omega) rfl B4 (by omega)
  obtain ⟨s, rfl, hs⟩ : ∃ g, x5 = .str g ∧ okT g := by
    simp only [List.mem_cons, List.not_mem_nil, or_false] at m5
    rcases m5 with rfl | rfl | rfl
    · exact ⟨_, rfl, by unfold okT; decide⟩
    · exact ⟨_, rfl, by unfold okT; decide⟩
    · exact ⟨_, rfl, o60⟩
  let wd : D := .tup [.str g, .int i3, .int i4, .str s]
  let δ2 : List SV := [.d (.mut b), .d wd, .d (.str g), .d (.str z)]
  obtain ⟨i6, μ6, e6, h6, g6, B6, d6⟩ := take_x (i := 0) (fm := eC (.int 256)) (δ := δ2) rfl rfl B5 (by decide) (by decide) (by omega)
  have big : (1000000 : Nat) < 10 ^ 30 := by decide
  refine ⟨.tup [.str g, .str z, wd, .tup [.str z, .int i6]], μ6, run_of ?_, lt_letter hg hz hs h3 h4 (by omega), B6, ((((d1.trans d2).trans d3).trans d4).trans d5).trans d6⟩
  have s1 : bPar 2 3 (aCons (eBin ixA (eFrz (nLst (aCons (eC (.str "a")) (aCons (eC (.str "bb")) (aCons (eC (.str "ccc")) (aNil)))))) (eFn f__law_take [] (aCons (eVar 0) (aCons (eC (.int 3)) (aNil))))) (aCons (eBin ixA (eFrz (nLst (aCons (eC (.str "a")) (aCons (eC (.str "z")) (aNil))))) (eFn f__law_take [] (aCons (eVar 0) (aCons (eC (.int 2)) (aNil))))) (aNil))) δ μ = some (.nx δ1 μ2) := by
    have q := aC e1 (aC e2 (a_nil _ _))
    exact par_at q
  have tupE : ∀ {r : AF} {δ : List SV} {μ μ1 : List MO} {ys : List D}, r δ μ = some (ys, μ1) → ys.length ≤ 100 → eTup r δ μ = some (.tup ys, μ1) := fun {r δ μ μ1 ys} h hl => by simp [eTup, h, show ys.length ≤ 1000000 by omega]
  have s2 : bSet 1 (eTup (aCons (eVar 2) (aCons (eBin addD (eC (.int 1)) (eFn f__law_take [] (aCons (eVar 0) (aCons (eC (.int 3)) (aNil))))) (aCons (eBin addD (eC (.int 1)) (eFn f__law_take [] (aCons (eVar 0) (aCons (eC (.int 99)) (aNil))))) (aCons (eBin ixA (eFrz (nLst (aCons (eC (.str "")) (aCons (eC (.str "tea")) (aCons (eBin mulM (eC (.str "x")) (eC (.int 60))) (aNil)))))) (eFn f__law_take [] (aCons (eVar 0) (aCons (eC (.int 3)) (aNil))))) (aNil)))))) δ1 μ2 = some (.nx δ2 μ5) :=
    set_at (tupE (aC (var_at (x := .str g) rfl) (aC e3 (aC e4 (aC e5 (a_nil _ _))))) (by simp))
  rw [show b__law_letter = bThen (bPar 2 3 _) (bThen (bSet 1 _) (bRet _)) from rfl, then_nx s1, then_nx s2]
  exact ret_eq (tupE (aC (var_at (x := .str g) rfl) (aC (var_at (x := .str z) rfl) (aC (var_at (x := wd) rfl) (aC (tupE (aC (var_at (x := .str z) rfl) (aC e6 (a_nil _ _))) (by simp)) (a_nil _ _))))) (by simp))
end
end Law

set_option Elab.async false
set_option linter.all false
set_option autoImplicit false
set_option maxRecDepth 100000
set_option maxHeartbeats 4000000
namespace Law
open PySem PySem.Spec PySem.Calls L2 G GL
section
variable {μ μ' : List MO} {a d p t n b m : Nat} {L : Int} {ks : List Int} {xs : List D} {x : D} {S : List Nat}
inductive Thing (μ : List MO) (m : Nat) : D → Prop
  | int {i : Int} (h : i.natAbs ≤ 10 ^ 29) : Thing μ m (.int i)
  | bl : Thing μ m (.bl true)
  | non : Thing μ m .non
  | str : Thing μ m (.str "1")
  | tup : Thing μ m (.tup [.int 1])
  | dct : Thing μ m (.dct [] [])
  | lst {j : Nat} (hj : m ≤ j) (h : μ[j]? = some (.lst [.int 1])) : Thing μ m (.mut j)
def oddV (L : Int) (m : Nat) : List D := [.int 0, .int (-1), .int (L + 1), .bl true, .non, .str "1", .mut m, .tup [.int 1], .dct [] [], .int (10 ^ 29), .int L, .int 1]
theorem odd_at {δ : List SV} (v : δ[2]? = some (.d (.int L))) : eFrz (nLst (aCons (eC (.int 0)) (aCons (eNeg (eC (.int 1))) (aCons (eBin addD (eVar 2) (eC (.int 1))) (aCons (eC (.bl true)) (aCons (eC .non) (aCons (eC (.str "1")) (aCons (eMut (nLst (aCons (eC (.int 1)) (aNil)))) (aCons (eTup (aCons (eC (.int 1)) (aNil))) (aCons (eDct0) (aCons (eBin powD (eC (.int 10)) (eC (.int 29))) (aCons (eVar 2) (aCons (eC (.int 1)) (aNil)))))))))))))) δ μ = some (.lst (oddV L μ.length), μ ++ [.lst [.int 1]]) := by
  have w : ∀ ν, eVar 2 δ ν = some (.int L, ν) := fun ν => var_at v
  have e1 : eNeg (eC (.int 1)) δ μ = some (.int (-1), μ) := rfl
  have e2 : eMut (nLst (aCons (eC (.int 1)) aNil)) δ μ = some (.mut μ.length, μ ++ [.lst [.int 1]]) := mutL rfl (by simp)
  have e3 : ∀ ν, eTup (aCons (eC (.int 1)) aNil) δ ν = some (.tup [.int 1], ν) := fun _ => rfl
  have e4 : ∀ ν, eBin powD (eC (.int 10)) (eC (.int 29)) δ ν = some (.int (10 ^ 29), ν) := fun _ => by simp [eBin, eThen, eC, powD]
  exact frz (aC rfl (aC e1 (aC (addE (w _) (fb := eC (.int 1)) rfl) (aC rfl (aC rfl (aC rfl (aC e2 (aC (e3 _) (aC rfl (aC (e4 _) (aC (w _) (aC rfl (a_nil _ _))))))))))))) (show (oddV L μ.length).length ≤ 100 by simp [oddV])
theorem odd_thing (hL : L.natAbs ≤ 1000000) (hm : μ[m]? = some (.lst [.int 1])) (h : n ≤ m) : ∀ x ∈ oddV L m, Thing μ n x := by
  have big : (2000000 : Nat) ≤ 10 ^ 29 := by decide
  intro x hx
  simp only [oddV, List.mem_cons, List.not_mem_nil, or_false] at hx
  rcases hx with rfl | rfl | rfl | rfl | rfl | rfl | rfl | rfl | rfl | rfl | rfl | rfl
  · exact .int (by omega)
  · exact .int (by omega)
  · exact .int (by omega)
  · exact .bl
  · exact .non
  · exact .str
  · exact .lst h hm
  · exact .tup
  · exact .dct
  · exact .int (by decide)
  · exact .int (by omega)
  · exact .int (by omega)
theorem ne_nil {k : Nat} (h : μ[k]? = some (.lst (ks.map D.int))) (hk : ∀ k ∈ ks, k.natAbs < 10 ^ 30) : neD (.mut k) (.lst []) μ = some (.bl (!ks.isEmpty), μ) := by
  obtain ⟨u, e⟩ := ints_sc (μ := μ) hk
  have q := (e.mutl h).eq (Scs.nil (μ := μ) (d := 0)).lst (by omega) (by omega)
  have r : PyData.eqv (.list (ks.map PyData.int)) (.list []) = ks.isEmpty := by
    cases ks with
    | nil => rfl
    | cons k ks => simp [PyData.eqv, PyData.eqvAll]
  show (match eqP (.mut k) (.lst []) μ with | some b => some (D.bl (!b), μ) | none => none) = _
  rw [q, r]
theorem tAnd2 {f g : TF} {δ : List SV} {μ1 μ2 : List MO} {c : Bool} (h : f δ μ = some (true, μ1)) (h2 : g δ μ1 = some (c, μ2)) : tfAnd f g δ μ = some (c, μ2) := by simp [tfAnd, G.tThen, h, h2]
theorem tAnd0 {f g : TF} {δ : List SV} {μ1 : List MO} (h : f δ μ = some (false, μ1)) : tfAnd f g δ μ = some (false, μ1) := by simp [tfAnd, G.tThen, h]
theorem Bx.app {ν : List MO} (h : Bx b n μ) : Bx b n (μ ++ ν) := h.keeps (Keeps.app _ _)
theorem number_ok {k : Nat} (ht : μ[t]? = some (.dct (ks.map Sum.inl) xs)) (o : Ok k L ks xs) (hk : k ≤ 1000) (h : Bx b n μ) (hn : n ≤ 900) :
    ∃ (x : D) (μ' : List MO), f__law_number [.mut b, .mut t, .int L] μ = some (x, μ') ∧ Thing μ' μ.length x ∧ Bx b (n + 2) μ' ∧ Drawn b μ μ' := by
  let δ0 : List SV := startD 5 [.mut b, .mut t, .int L]
  let μ1 := μ ++ [.lst [.int 1]]
  let μ2 := μ1 ++ [.lst (ks.map D.int)]
  let δ2 : List SV := [.d (.mut b), .d (.mut t), .d (.int L), .d (.lst (oddV L μ.length)), .d (.mut μ1.length)]
  have l1 : μ1.length = μ.length + 1 := by simp [μ1]
  have hb := h.lt
  have s1 := set_at (i := 3) (odd_at (μ := μ) (δ := δ0) (L := L) rfl)
  have e1 : eCall lstA (aCons (eVar 1) aNil) (δ0.set 3 (.d (.lst (oddV L μ.length)))) μ1 = some (.mut μ1.length, μ2) := by
    have q := callE (g := lstA) (a1 (i := 1) (δ := δ0.set 3 (.d (.lst (oddV L μ.length)))) (x := .mut t) (μ := μ1) rfl) (lstA_dct (dct_mut (getP ht)))
    rw [q, keyV_map]
  have s2 := set_at (i := 4) e1
  have B2 : Bx b n μ2 := h.app.app
  have m0 : μ2[μ.length]? = some (.lst [.int 1]) := getP (app_at _ _)
  have m1 : μ2[μ1.length]? = some (.lst (ks.map D.int)) := app_at _ _
  have D2 : Drawn b μ μ2 := fun i o _ e => getP (getP e)
  have N : asB (eBin neD (eVar 4) (eFrz (nLst aNil))) δ2 μ2 = some (!ks.isEmpty, μ2) := asB_eq (bin_at (x := .mut μ1.length) (var_at rfl) (frz (a_nil _ _) (by simp)) (ne_nil m1 (o.small (by omega))))
  -- the odd things
  have last : ∀ (c : Nat) (μ3 : List MO), c ≤ n + 1 → Bx b c μ3 → Drawn b μ2 μ3 → ∃ (x : D) (μ' : List MO), bRet (eBin ixA (eVar 3) (eFn f__law_take [] (aCons (eVar 0) (aCons (eC (.int 12)) aNil)))) δ2 μ3 = some (.rt x μ') ∧ Thing μ' μ.length x ∧ Bx b (n + 2) μ' ∧ Drawn b μ μ' := by
    intro c μ3 hc B D
    obtain ⟨e, μ4, e4, g1, g2, B4, D4⟩ := take_x (i := 0) (fm := eC (.int 12)) (δ := δ2) rfl rfl B (by decide) (by decide) (by omega)
    obtain ⟨x, e5, hx⟩ := ixA_frz_of (xs := oddV L μ.length) (μ := μ4) g1 (by simpa [oddV] using g2)
    have nb : μ.length ≠ b := by omega
    have := o.L0
    have := o.L1
    exact ⟨x, μ4, ret_eq (bin_at (x := .lst (oddV L μ.length)) (var_at rfl) e4 e5), odd_thing (by omega) (D4 _ _ nb (D _ _ nb m0)) (Nat.le_refl _) x hx, B4.mono (by omega), (D2.trans D).trans D4⟩
  have fin : ∀ (x : D) (μ' : List MO), bThen (bIf (tfAnd (asB (eBin neD (eVar 4) (eFrz (nLst (aNil))))) (asB (eBin gtD (eFn f__law_take [] (aCons (eVar 0) (aCons (eC (.int 3)) (aNil)))) (eC (.int 0))))) (bRet (eBin ixA (eVar 4) (eFn f__law_take [] (aCons (eVar 0) (aCons (eCall lenA (aCons (eVar 4) (aNil))) (aNil)))))) (bNil)) (bRet (eBin ixA (eVar 3) (eFn f__law_take [] (aCons (eVar 0) (aCons (eC (.int 12)) (aNil)))))) δ2 μ2 = some (.rt x μ') → f__law_number [.mut b, .mut t, .int L] μ = some (x, μ') := by
    intro x μ' q
    refine run_of ?_
    rw [show b__law_number = bThen (bSet 3 _) (bThen (bSet 4 _) (bThen (bIf _ _ bNil) _)) from rfl, then_nx s1, then_nx s2]
    exact q
  cases hks : ks.isEmpty with
  | true =>
    rw [hks] at N
    obtain ⟨x, μ', q, r1, r2, r3⟩ := last n μ2 (by omega) B2 (Drawn.refl _ _)
    exact ⟨x, μ', fin x μ' (by rw [ask_on (tAnd0 N)]; exact q), r1, r2, r3⟩
  | false =>
    rw [hks] at N
    obtain ⟨e, μ3, e3, g1, g2, B3, D3⟩ := take_x (i := 0) (fm := eC (.int 3)) (δ := δ2) rfl rfl B2 (by decide) (by decide) (by omega)
    have T := tAnd2 N (asB_eq (gtE e3 (fb := eC (.int 0)) rfl))
    by_cases hz : 0 < e
    · have T' := tf_t T (decide_eq_true hz)
      have nb : μ1.length ≠ b := by omega
      have m3 : μ3[μ1.length]? = some (.lst (ks.map D.int)) := D3 _ _ nb m1
      have hp : 0 < ks.length := by
        cases ks with
        | nil => cases hks
        | cons k ks => simp
      have hl : eCall lenA (aCons (eVar 4) aNil) δ2 μ3 = some (.int (ks.length : Nat), μ3) := by
        have q := callE (g := lenA) (a1 (i := 4) (δ := δ2) (x := .mut μ1.length) (μ := μ3) rfl) (lenA_lst m3)
        rw [q, List.length_map]
      have fw := o.few
      obtain ⟨f, μ4, e4, g3, g4, B4, D4⟩ := take_x (i := 0) (fm := eCall lenA (aCons (eVar 4) aNil)) (δ := δ2) rfl hl B3 (by omega) (by omega) (by omega)
      obtain ⟨j, rfl⟩ : ∃ j : Nat, f = j := ⟨f.toNat, by omega⟩
      have hj : j < ks.length := by omega
      have e5 : ixA (.mut μ1.length) (.int (j : Nat)) μ4 = some (.int ks[j], μ4) := ixA_lst (D4 _ _ nb m3) (by simp [hj])
      refine ⟨.int ks[j], μ4, fin _ _ (ask_ret T' (bin_at (x := .mut μ1.length) (var_at rfl) e4 e5)), .int ?_, B4, (D2.trans D3).trans D4⟩
      have := o.lo ks[j] (List.getElem_mem hj)
      have := o.L1
      have big : (2000000 : Nat) ≤ 10 ^ 29 := by decide
      omega
    · have T' := tf_f T (decide_eq_false hz)
      obtain ⟨x, μ', q, r1, r2, r3⟩ := last (n + 1) μ3 (by omega) B3 D3
      exact ⟨x, μ', fin x μ' (by rw [ask_on T']; exact q), r1, r2, r3⟩
end
end Law

set_option Elab.async false
set_option linter.all false
set_option autoImplicit false
set_option maxRecDepth 100000
set_option maxHeartbeats 4000000
namespace Law
open PySem PySem.Spec PySem.Calls L2 G GL
section
variable {μ μ' : List MO} {a d p t n b m : Nat} {L : Int} {ks : List Int} {xs : List D} {x y : D} {S : List Nat}
theorem look_mem {i : Int} : ∀ {ks : List Int} {xs : List D} {x : D}, lookK (.inl i) (ks.map Sum.inl) xs = some x → x ∈ xs
  | [], _, _, h => nomatch h
  | _ :: _, [], _, h => nomatch h
  | k :: ks, y :: ys, x, h => by
    simp only [List.map_cons, lookK] at h
    split at h
    · cases h; simp
    · exact List.mem_cons_of_mem _ (look_mem h)
theorem there_ok (h : Thing μ m y) (tb : μ[t]? = some (.dct (ks.map Sum.inl) xs)) :
    ∃ c, f__law_is_there [.mut t, y] μ = some (.bl c, μ) ∧ (c = true → ∃ i x, y = .int i ∧ lookK (.inl i) (ks.map Sum.inl) xs = some x ∧ x ∈ xs) ∧ (c = false → NotIn μ ks xs y) := by
  have no : NotIn μ ks xs y → f__law_is_there [.mut t, y] μ = some (.bl false, μ) → ∃ c, f__law_is_there [.mut t, y] μ = some (.bl c, μ) ∧ (c = true → ∃ i x, y = .int i ∧ lookK (.inl i) (ks.map Sum.inl) xs = some x ∧ x ∈ xs) ∧ (c = false → NotIn μ ks xs y) :=
    fun q e => ⟨false, e, fun z => (by cases z), fun _ => q⟩
  have ff : ∀ {b : Bool}, f_is_number [y] μ = some (.bl b, μ) → b = false → NotIn μ ks xs y := fun {b} e z => ⟨b, e, fun w => by rw [z] at w; cases w⟩
  cases h with
  | @int i hi =>
    have i1 : ∀ {δ : List SV}, δ[1]? = some (.d (.int i)) → eCall isiG (aCons (eVar 1) (aCons (eC (.ty "int")) aNil)) δ μ = some (.bl true, μ) := fun v => callE (aC (var_at v) (aC rfl (a_nil _ _))) rfl
    have i2 : ∀ {δ : List SV}, δ[1]? = some (.d (.int i)) → eCall isiG (aCons (eVar 1) (aCons (eC (.ty "bool")) aNil)) δ μ = some (.bl false, μ) := fun v => callE (aC (var_at v) (aC rfl (a_nil _ _))) rfl
    have e : f__law_is_there [.mut t, .int i] μ = some (.bl (true && (!false && (lookK (.inl i) (ks.map Sum.inl) xs).isSome)), μ) :=
      run_ret (and_eq (i1 rfl) fun _ => and_eq (notV_eq (i2 rfl)) fun _ => bin_at (x := .int i) (y := .mut t) (var_at rfl) (var_at rfl) (by simp [inA, dct_mut tb, keyD]))
    refine ⟨_, e, fun z => ?_, fun z => ?_⟩
    · simp only [Bool.not_false, Bool.true_and] at z
      obtain ⟨x, hx⟩ := Option.isSome_iff_exists.mp z
      exact ⟨i, x, rfl, hx, look_mem hx⟩
    · simp only [Bool.not_false, Bool.true_and] at z
      exact ⟨true, num_int i μ, fun _ => ⟨i, rfl, by simpa using z⟩⟩
  | bl => exact no (ff (num_bl true μ) rfl) rfl
  | non => exact no (ff (num_non μ) rfl) rfl
  | str => exact no (ff (num_str "1" μ) rfl) rfl
  | tup => exact no (ff (num_tup _ μ) rfl) rfl
  | dct => exact no (ff (num_dct _ _ μ) rfl) rfl
  | @lst j hj h =>
    have ty : typeD μ (.mut j) = some "list" := by simp only [typeD, h]
    have i1 : isiG [.mut j, .ty "int"] μ = some (.bl false, μ) := by
      simp only [isiG, isiP, ty]
      rfl
    have i2 : eCall isiG (aCons (eVar 1) (aCons (eC (.ty "int")) aNil)) (startD 2 [.mut t, .mut j]) μ = some (.bl false, μ) := callE (aC (var_at rfl) (aC rfl (a_nil _ _))) i1
    have e : f__law_is_there [.mut t, .mut j] μ = some (.bl (false && true), μ) := run_ret (and_eq i2 fun z => by cases z)
    exact no (ff (num_mut h) rfl) e
theorem ask_run {n : Nat} {ds : List D} {g : XEF} {R : Rs} {B : BF} (e : g (startD n ds) μ = some R) (hb : B (startD n ds) μ = bRetG g (startD n ds) μ) : runX n B ds μ = some R := by
  cases R with
  | ok d μ2 => simp only [runX, hb, bRetG, e]
  | ex C f msg d μ2 => simp only [runX, hb, bRetG, e]
theorem asked_of {R : Rs} {way : Int} (h : μ[a]? = some (insR d L)) (h1 : way < 4 → fx_Roads_take_off [.mut a, y] μ = some R) (h2 : way = 4 → fx_Roads_doubled [.mut a, y] μ = some R) (h3 : 4 < way → fx_Roads_letter [.mut a, y] μ = some R) :
    fx__law_asked [.mut a, .int way, y] μ = some R := by
  let δ := startD 3 [.mut a, .int way, y]
  have A : ∀ {m : Str}, m ∉ (["_letters", "_last"] : List Str) → aMeth 4 m (eVar 0) (aCons (eVar 2) aNil) δ μ = some ([.mut a, y], μ) := fun hm => mth_at (i := 0) rfl h hm (a1 (i := 2) (δ := δ) (x := y) rfl)
  have c4 : asB (eBin ltD (eVar 1) (eC (.int 4))) δ μ = some (decide (way < 4), μ) := lt_at rfl
  have c5 : asB (eBin eqD (eVar 1) (eC (.int 4))) δ μ = some (decide (way = 4), μ) := eq_at rfl
  rw [show fx__law_asked = runX 3 b__law_asked from rfl]
  by_cases w : way < 4
  · rw [decide_eq_true w] at c4
    have g : gCall fx_Roads_take_off (aMeth 4 "take_off" (eVar 0) (aCons (eVar 2) aNil)) δ μ = some R := by simp only [gCall, A (m := "take_off") (by decide), h1 w]
    refine ask_run g ?_
    have B : ∀ (r k : BF), bThen (bIf (asB (eBin ltD (eVar 1) (eC (.int 4)))) (bRetG (gCall fx_Roads_take_off (aMeth 4 "take_off" (eVar 0) (aCons (eVar 2) aNil)))) bNil) k δ μ = bRetG (gCall fx_Roads_take_off (aMeth 4 "take_off" (eVar 0) (aCons (eVar 2) aNil))) δ μ := by
      intro r k
      have : bRetG (gCall fx_Roads_take_off (aMeth 4 "take_off" (eVar 0) (aCons (eVar 2) aNil))) δ μ = (match R with | .ok d μ2 => some (.rt d μ2) | .ex C f msg d μ2 => some (.xc C f msg d δ μ2)) := by
        cases R <;> simp only [bRetG, g]
      cases R with
      | ok d μ2 => rw [this]; exact then_rt (by simp only [bIf, c4]; exact this)
      | ex C f msg d μ2 => rw [this]; exact then_xc (by simp only [bIf, c4]; exact this)
    exact B bNil _
  · rw [decide_eq_false w] at c4
    have g : gIf (asB (eBin eqD (eVar 1) (eC (.int 4)))) (gCall fx_Roads_doubled (aMeth 4 "doubled" (eVar 0) (aCons (eVar 2) aNil))) (gCall fx_Roads_letter (aMeth 4 "letter" (eVar 0) (aCons (eVar 2) aNil))) δ μ = some R := by
      by_cases q : way = 4
      · rw [decide_eq_true q] at c5
        simp only [gIf, c5, gCall, A (m := "doubled") (by decide), h2 q]
      · rw [decide_eq_false q] at c5
        simp only [gIf, c5, gCall, A (m := "letter") (by decide), h3 (by omega)]
    refine ask_run g ?_
    rw [show b__law_asked = bThen (bIf _ _ bNil) _ from rfl, ask_on c4]
theorem tupE {r : AF} {δ : List SV} {μ μ1 : List MO} {ys : List D} (h : r δ μ = some (ys, μ1)) (hl : ys.length ≤ 100) : eTup r δ μ = some (.tup ys, μ1) := by simp [eTup, h, show ys.length ≤ 1000000 by omega]
theorem caught_ok {way : Int} (e : fx__law_asked [.mut a, .int way, y] μ = some (.ok x μ')) : f__law_caught [.mut a, .int way, y] μ = some (.tup [.str "told", x], μ') := by
  refine run_of ?_
  let δ := startD 4 [.mut a, .int way, y]
  have A : aCons (eVar 0) (aCons (eVar 1) (aCons (eVar 2) aNil)) δ μ = some ([.mut a, .int way, y], μ) := aC (var_at rfl) (aC (var_at rfl) (aC (var_at rfl) (a_nil _ _)))
  have T := tupE (aC (f := eC (.str "told")) (δ := δ) (μ := μ) rfl (aC (fnX A e) (a_nil _ _))) (by simp)
  show bTry (bRetG (gTry (eTup (aCons (eC (.str "told")) (aCons (eFnX fx__law_asked (aCons (eVar 0) (aCons (eVar 1) (aCons (eVar 2) (aNil))))) (aNil)))) _)) _ δ μ = _
  simp only [bTry, bRetG, gTry, T]
theorem caught_ex {way : Int} {msg : Str} (e : fx__law_asked [.mut a, .int way, y] μ = some (.ex 0 "found" msg y μ)) : f__law_caught [.mut a, .int way, y] μ = some (.tup [.str "road", y], μ) := by
  refine run_of ?_
  let δ := startD 4 [.mut a, .int way, y]
  have A : aCons (eVar 0) (aCons (eVar 1) (aCons (eVar 2) aNil)) δ μ = some ([.mut a, .int way, y], μ) := aC (var_at rfl) (aC (var_at rfl) (aC (var_at rfl) (a_nil _ _)))
  have N : eFnX fx__law_asked (aCons (eVar 0) (aCons (eVar 1) (aCons (eVar 2) (aNil)))) δ μ = none := by simp only [eFnX, aThen, A, e]
  have T : eTup (aCons (eC (.str "told")) (aCons (eFnX fx__law_asked (aCons (eVar 0) (aCons (eVar 1) (aCons (eVar 2) (aNil))))) (aNil))) δ μ = none := by
    have : aCons (eC (.str "told")) (aCons (eFnX fx__law_asked (aCons (eVar 0) (aCons (eVar 1) (aCons (eVar 2) (aNil))))) (aNil)) δ μ = none := by
      have q := aC_no (r := aNil) N
      show eThen (eC (.str "told")) _ δ μ = none
      simp only [eThen, eC, q]
    simp only [eTup, this]
  have R : rThen (eC (.str "told")) (rCall fx__law_asked (aCons (eVar 0) (aCons (eVar 1) (aCons (eVar 2) (aNil))))) δ μ = some (0, ("found" : Str), msg, y, μ) := by simp only [rThen, eC, rCall, A, e]
  have X : bRetG (gTry (eTup (aCons (eC (.str "told")) (aCons (eFnX fx__law_asked (aCons (eVar 0) (aCons (eVar 1) (aCons (eVar 2) (aNil))))) (aNil)))) (rThen (eC (.str "told")) (rCall fx__law_asked (aCons (eVar 0) (aCons (eVar 1) (aCons (eVar 2) (aNil))))))) δ μ = some (.xc 0 "found" msg y δ μ) := by
    simp only [bRetG, gTry, T, R]
  rw [show b__law_caught = bTry _ ((exMt 0, some 3, bRet (eTup (aCons (eC (.str "road")) (aCons (eXf 3 "found" exFl_found) aNil)))) :: _) from rfl, try_x X]
  refine hd_yes (by decide) (ret_eq (tupE (aC rfl (aC ?_ (a_nil _ _))) (by simp)))
  have g : (δ.set 3 (SV.xv 0 "found" y))[3]? = some (.xv 0 "found" y) := rfl
  have c : exFl_found 0 = true := by decide
  simp only [eXf, g, c]
  rfl
end
end Law

set_option Elab.async false
set_option linter.all false
set_option autoImplicit false
set_option maxRecDepth 100000
set_option maxHeartbeats 4000000
namespace Law
open PySem PySem.Spec PySem.Calls L2 G GL
section
variable {μ μ' : List MO} {a d p t n b m : Nat} {L : Int} {ks : List Int} {xs : List D} {x y : D} {S : List Nat}
theorem gs {i : Nat} {o : MO} (h : i < μ.length) : (μ.set i o)[i]? = some o := by rw [List.getElem?_set_self h]
/-- the state with a letter more -/
theorem state_put {i : Nat} {δ : List SV} {fe : EF} {g : BF} (hs : Side μ a d p t L ks xs) (o : Ok m L ks xs) (hm : m ≤ 900) (pt : p ≠ t) (v : δ[2]? = some (.d (.mut p))) (hf : ∀ ν, fe δ ν = some (x, ν)) :
    ∃ μ', bThen (bStA (eBin addD (eBin ixA (eVar 2) (eC (.str "last"))) (eC (.int 1))) (eVar 2) (eC (.str "last"))) (bThen (bStA fe (eBin ixA (eVar 2) (eC (.str "table"))) (eBin ixA (eVar 2) (eC (.str "last")))) g) δ μ = g δ μ' ∧
      μ'[p]? = some (stO (L + 1) t) ∧ μ'[t]? = some (.dct ((ks ++ [L + 1]).map Sum.inl) (xs ++ [x])) ∧ Ch [p, t] μ μ' ∧ μ'.length = μ.length := by
  have ps : putX [.inr "last", .inr "table"] [D.int L, .mut t] (.inr "last") (.int (L + 1)) = (([.inr "last", .inr "table"] : List Key), [D.int (L + 1), D.mut t]) := by
    simp [putX]
    decide
  have s1 := stA_dct (k := .inr "last") (kd := .str "last") (addE (hs.last v) (fb := eC (.int 1)) rfl) (var_at v) (fi := eC (.str "last")) rfl rfl hs.st (by simp)
  rw [ps] at s1
  let μ1 := μ.set p (stO (L + 1) t)
  have p1 : μ1[p]? = some (stO (L + 1) t) := gs (lt_of hs.st)
  have t1 : μ1[t]? = some (.dct (ks.map Sum.inl) xs) := kept hs.tb pt
  have ft : eBin ixA (eVar 2) (eC (.str "table")) δ μ1 = some (.mut t, μ1) := bin_at (var_at v) (y := .str "table") rfl (ixA_dct (k := .inr "table") (dct_mut p1) rfl rfl)
  have fl : eBin ixA (eVar 2) (eC (.str "last")) δ μ1 = some (.int (L + 1), μ1) := bin_at (var_at v) (y := .str "last") rfl (ixA_dct (k := .inr "last") (dct_mut p1) rfl rfl)
  have few := o.few
  have s2 := stA_dct (k := .inl (L + 1)) (hf μ1) ft fl rfl t1 (by rw [List.length_map]; omega)
  rw [put_new o.fresh] at s2
  refine ⟨μ1.set t (.dct ((ks ++ [L + 1]).map Sum.inl) (xs ++ [x])), by rw [then_nx s1, then_nx s2], ?_, ?_, ?_, by simp [μ1]⟩
  · exact kept p1 (Ne.symm pt)
  · exact gs (by simpa [μ1] using lt_of hs.tb)
  · exact (Ch.set (by simp)).trans (Ch.set (by simp))
/-- the roads with a letter more -/
theorem roads_put (h : Rd μ a d L ks xs) (o : Ok m L ks xs) (hm : m ≤ 900) (ad : a ≠ d) :
    ∃ μ', toX f_Roads_put [.mut a, x] μ = some (.ok (.int (L + 1)) μ') ∧ μ' = (μ.set a (insR d (L + 1))).set d (.dct ((ks ++ [L + 1]).map Sum.inl) (xs ++ [x])) := by
  have few := o.few
  obtain ⟨μ', e, q⟩ := put_ok (x := x) h (lt_of h.id) ad (look_new o.fresh) (by omega)
  rw [put_new o.fresh] at q
  exact ⟨μ', e, q⟩
theorem put_rd (h : Rd μ a d L ks xs) (ad : a ≠ d) {ls : List Int} {ys : List D} {M : Int} : Rd ((μ.set a (insR d M)).set d (.dct (ls.map Sum.inl) ys)) a d M ls ys :=
  ⟨kept (gs (lt_of h.ia)) (Ne.symm ad), gs (by simpa using lt_of h.id)⟩
theorem told {δ : List SV} {v : D} {q : PyData} {dd w : Nat} (h6 : δ[6]? = some (.d v)) (h5 : δ[5]? = some (.d v)) (T : Tl μ dd w v q) (hd : dd ≤ 12) (hw : w ≤ 9000) :
    bRet (eBin eqD (eCall (reprX exNm) (aCons (eVar 6) aNil)) (eCall (reprX exNm) (aCons (eVar 5) aNil))) δ μ = some (.rt (.bl true) μ) :=
  ret_true (eq_str (callE (a1 h6) (T.repr hd hw)) (callE (a1 h5) (T.repr hd hw))) (by simp)
theorem tl_told (h : Lt x) : ∃ q, Tl μ 4 200 (.tup [.str "told", x]) q := by
  obtain ⟨p, hp⟩ := h
  have s : Tl μ 3 60 (.str "told") (.str "told") := (sc_text (by decide)).toTl.mono (by omega) (Nat.le_refl _)
  exact ⟨_, (Tls.cons s (.cons (hp μ).toTl .nil)).tup.mono (Nat.le_refl _) (by omega)⟩
theorem tl_int {i : Int} (h : i.natAbs < 10 ^ 30) : Lt (.int i) := ⟨_, fun μ => (sc_int h).mono (by omega) (by omega)⟩
theorem tl_road {q : PyData} (h : Tl μ 3 100 y q) : ∃ q, Tl μ 4 200 (.tup [.str "road", y]) q := by
  have s : Tl μ 3 60 (.str "road") (.str "road") := (sc_text (by decide)).toTl.mono (by omega) (Nat.le_refl _)
  exact ⟨_, (Tls.cons s (.cons h .nil)).tup.mono (Nat.le_refl _) (by omega)⟩
/-- the last two steps: a list gets a sign more, and both are told -/
abbrev endB : BF := bThen (bIf (asB (eCall isiG (aCons (eVar 4) (aCons (eC (.ty "list")) aNil)))) (bExpr (eMt "list" appendD (eVar 4) (aCons (eC (.str "more")) aNil))) bNil) (bRet (eBin eqD (eCall (reprX exNm) (aCons (eVar 6) aNil)) (eCall (reprX exNm) (aCons (eVar 5) aNil))))
theorem end_no {δ : List SV} {v : D} {q : PyData} {c : String} (h4 : δ[4]? = some (.d y)) (ty : typeD μ y = some c) (hc : kitB c "list" = some false) (h6 : δ[6]? = some (.d v)) (h5 : δ[5]? = some (.d v)) (T : Tl μ 4 200 v q) : endB δ μ = some (.rt (.bl true) μ) := by
  have i1 : eCall isiG (aCons (eVar 4) (aCons (eC (.ty "list")) aNil)) δ μ = some (.bl false, μ) := callE (aC (var_at h4) (aC rfl (a_nil _ _))) (by simp only [isiG, isiP, ty, hc])
  rw [show endB = bThen (bIf _ _ bNil) _ from rfl, ask_on (asB_eq i1)]
  exact told h6 h5 T (by omega) (by omega)
theorem end_yes {δ : List SV} {j : Nat} (h4 : δ[4]? = some (.d (.mut j))) (hj : μ[j]? = some (.lst [.int 1])) (h6 : δ[6]? = some (.d (.tup [.str "road", .mut j]))) (h5 : δ[5]? = some (.d (.tup [.str "road", .mut j]))) :
    endB δ μ = some (.rt (.bl true) (μ.set j (.lst [.int 1, .str "more"]))) := by
  have ty : typeD μ (.mut j) = some "list" := by simp only [typeD, hj]
  have i1 : eCall isiG (aCons (eVar 4) (aCons (eC (.ty "list")) aNil)) δ μ = some (.bl true, μ) := callE (aC (var_at h4) (aC rfl (a_nil _ _))) (by simp only [isiG, isiP, ty]; rfl)
  have m1 : eMt "list" appendD (eVar 4) (aCons (eC (.str "more")) aNil) δ μ = some (.non, μ.set j (.lst [.int 1, .str "more"])) :=
    mtE (var_at h4) (by simp [tyB, hj]) (aC rfl (a_nil _ _)) (by simp [appendD, hj])
  have s1 : bIf (asB (eCall isiG (aCons (eVar 4) (aCons (eC (.ty "list")) aNil)))) (bExpr (eMt "list" appendD (eVar 4) (aCons (eC (.str "more")) aNil))) bNil δ μ = some (.nx δ (μ.set j (.lst [.int 1, .str "more"]))) := by
    rw [if_at (asB_eq i1), if_pos rfl]
    exact expr_at m1
  rw [show endB = bThen (bIf _ _ bNil) _ from rfl, then_nx s1]
  have hk : (μ.set j (.lst [.int 1, .str "more"]))[j]? = some (.lst [.int 1, .str "more"]) := gs (lt_of hj)
  have t1 : Tl (μ.set j (.lst [.int 1, .str "more"])) 3 100 (.mut j) _ := ((Tls.cons (sc_int (i := 1) (by decide)).toTl (.cons ((sc_str (s := "more") (by decide)).toTl) .nil)).mutl hk).mono (by omega) (by decide)
  obtain ⟨q, T⟩ := tl_road t1
  exact told h6 h5 T (by omega) (by omega)
end
end Law

set_option Elab.async false
set_option linter.all false
set_option autoImplicit false
set_option maxRecDepth 100000
set_option maxHeartbeats 4000000
namespace Law
open PySem PySem.Spec PySem.Calls L2 G GL
section
variable {μ μ' : List MO} {a d p t n b m : Nat} {L : Int} {ks : List Int} {xs : List D} {x y : D} {S : List Nat}
theorem Drawn.ch (h : Drawn b μ μ') : Ch [b] μ μ' := fun i o n e => h i o (by simpa using n) e
theorem Bx.ch (h : Bx b n μ) (c : Ch S μ μ') (hb : b ∉ S) : Bx b n μ' := by
  obtain ⟨o, e, q⟩ := h
  exact ⟨o, c b o hb e, q⟩
theorem Rd.ch (h : Rd μ a d L ks xs) (c : Ch S μ μ') (ha : a ∉ S) (hd : d ∉ S) : Rd μ' a d L ks xs := ⟨c a _ ha h.ia, c d _ hd h.id⟩
theorem deed_ok (hs : Side μ a d p t L ks xs) (o : Ok m L ks xs) (hm : m ≤ 900) (B : Bx b n μ) (hn : n ≤ 800) (nd : [b, a, d, p, t].Nodup) :
    ∃ L' ks' xs' μ', f__law_deed [.mut b, .mut a, .mut p] μ = some (.bl true, μ') ∧ Side μ' a d p t L' ks' xs' ∧ Ok (m + 1) L' ks' xs' ∧ Bx b (n + 7) μ' ∧ Ch [b, a, d, p, t] μ μ' := by
  have big : (2000000 : Nat) ≤ 10 ^ 29 := by decide
  have bg2 : (10 : Nat) ^ 29 < 10 ^ 30 := by decide
  simp only [List.nodup_cons, List.mem_cons, List.not_mem_nil, or_false, not_or, not_false_eq_true, List.nodup_nil, and_true] at nd
  obtain ⟨⟨ba, bd, bp, bt⟩, ⟨ad, ap, at'⟩, ⟨dp, dt⟩, pt⟩ := nd
  let δ0 : List SV := startD 8 [.mut b, .mut a, .mut p]
  obtain ⟨way, μ1, e1, w0, w1, B1, D1⟩ := take_x (i := 0) (fm := eC (.int 6)) (δ := δ0) rfl rfl B (by decide) (by decide) (by omega)
  have hs1 : Side μ1 a d p t L ks xs := hs.ch (Drawn.ch D1) (by simp [Ne.symm ba]) (by simp [Ne.symm bd]) (by simp [Ne.symm bp]) (by simp [Ne.symm bt])
  let δ1 : List SV := [.d (.mut b), .d (.mut a), .d (.mut p), .d (.int way), .no, .no, .no, .no]
  have s1 : bSet 3 (eFn f__law_take [] (aCons (eVar 0) (aCons (eC (.int 6)) aNil))) δ0 μ = some (.nx δ1 μ1) := set_at e1
  have c2 : asB (eBin ltD (eVar 3) (eC (.int 2))) δ1 μ1 = some (decide (way < 2), μ1) := lt_at rfl
  have hL0 := o.L0
  have hL1 := o.L1
  by_cases hw : way < 2
  · rw [decide_eq_true hw] at c2
    obtain ⟨x, μ2, e2, lx, B2, D2⟩ := letter_drawn B1 (by omega)
    have hs2 : Side μ2 a d p t L ks xs := hs1.ch (Drawn.ch D2) (by simp [Ne.symm ba]) (by simp [Ne.symm bd]) (by simp [Ne.symm bp]) (by simp [Ne.symm bt])
    let δ2 : List SV := [.d (.mut b), .d (.mut a), .d (.mut p), .d (.int way), .no, .no, .no, .d x]
    have s2 : bSet 7 (eFn f__law_letter [] (aCons (eVar 0) aNil)) δ1 μ1 = some (.nx δ2 μ2) := set_at (fnE (a1 (i := 0) (x := .mut b) rfl) e2)
    obtain ⟨μ3, s3, p3, t3, C3, l3⟩ := state_put (i := 0) (δ := δ2) (fe := eVar 7) (x := x) (g := bRet (eBin eqD (eFnX (toX f_Roads_put) (aMeth 4 "put" (eVar 1) (aCons (eVar 7) aNil))) (eBin ixA (eVar 2) (eC (.str "last"))))) hs2 o hm pt rfl (fun _ => rfl)
    have r3 : Rd μ3 a d L ks xs := hs2.rd.ch C3 (by simp [ap, at']) (by simp [dp, dt])
    obtain ⟨μ4, e4, q4⟩ := roads_put (x := x) r3 o hm ad
    have M := mth_at (m := "put") (i := 1) (δ := δ2) rfl r3.ia (by decide) (a1 (i := 7) (δ := δ2) (x := x) (μ := μ3) rfl)
    have p4 : μ4[p]? = some (stO (L + 1) t) := by rw [q4]; exact kept (kept p3 ap) dp
    have t4 : μ4[t]? = some (.dct ((ks ++ [L + 1]).map Sum.inl) (xs ++ [x])) := by rw [q4]; exact kept (kept t3 at') dt
    have fl : eBin ixA (eVar 2) (eC (.str "last")) δ2 μ4 = some (.int (L + 1), μ4) := bin_at (x := .mut p) (var_at rfl) (y := .str "last") rfl (ixA_dct (k := .inr "last") (dct_mut p4) rfl rfl)
    have s4 : bRet (eBin eqD (eFnX (toX f_Roads_put) (aMeth 4 "put" (eVar 1) (aCons (eVar 7) aNil))) (eBin ixA (eVar 2) (eC (.str "last")))) δ2 μ3 = some (.rt (.bl true) μ4) := ret_true (eq_int (fnX M e4) fl) (by simp)
    refine ⟨L + 1, ks ++ [L + 1], xs ++ [x], μ4, run_of ?_, ⟨by rw [q4]; exact put_rd r3 ad, p4, t4⟩, o.put lx, ?_, ?_⟩
    · rw [show b__law_deed = bThen (bSet 3 _) (bThen (bIf _ _ bNil) _) from rfl, then_nx s1]
      refine then_rt ?_
      rw [if_at c2, if_pos rfl, then_nx s2, s3]
      exact s4
    · rw [q4]
      exact ((B2.ch C3 (by simp [bp, bt])).ch (S := [a, d]) ((Ch.set (by simp)).trans (Ch.set (by simp))) (by simp [ba, bd])).mono (by omega)
    · rw [q4]
      have c : Ch [a, d] μ3 ((μ3.set a (insR d (L + 1))).set d (.dct ((ks ++ [L + 1]).map Sum.inl) (xs ++ [x]))) := (Ch.set (by simp)).trans (Ch.set (by simp))
      exact ((((Drawn.ch D1).mono (T := [b, a, d, p, t]) (by simp)).trans ((Drawn.ch D2).mono (by simp))).trans (C3.mono (by simp))).trans (c.mono (by simp))
  · rw [decide_eq_false hw] at c2
    have e2 : aCons (eVar 0) (aCons (eBin ixA (eVar 2) (eC (.str "table"))) (aCons (eBin ixA (eVar 2) (eC (.str "last"))) aNil)) δ1 μ1 = some ([.mut b, .mut t, .int L], μ1) := aC (var_at rfl) (aC (hs1.table rfl) (aC (hs1.last rfl) (a_nil _ _)))
    obtain ⟨y, μ2, e3, th, B2, D2⟩ := number_ok hs1.tb o (by omega) B1 (by omega)
    have hs2 : Side μ2 a d p t L ks xs := hs1.ch (Drawn.ch D2) (by simp [Ne.symm ba]) (by simp [Ne.symm bd]) (by simp [Ne.symm bp]) (by simp [Ne.symm bt])
    have s2 : bSet 4 (eFn f__law_number [] (aCons (eVar 0) (aCons (eBin ixA (eVar 2) (eC (.str "table"))) (aCons (eBin ixA (eVar 2) (eC (.str "last"))) aNil)))) δ1 μ1 = some (.nx (δ1.set 4 (.d y)) μ2) := set_at (fnE e2 e3)
    let δ2 : List SV := [.d (.mut b), .d (.mut a), .d (.mut p), .d (.int way), .d y, .d (.tup [.str "road", y]), .no, .no]
    have s3 : bSet 5 (eTup (aCons (eC (.str "road")) (aCons (eVar 4) aNil))) (δ1.set 4 (.d y)) μ2 = some (.nx δ2 μ2) := set_at (tupE (aC rfl (aC (var_at (x := y) rfl) (a_nil _ _))) (by simp))
    obtain ⟨c, e4, yes, no⟩ := there_ok th hs2.tb
    have c3 : asB (eFn f__law_is_there [] (aCons (eBin ixA (eVar 2) (eC (.str "table"))) (aCons (eVar 4) aNil))) δ2 μ2 = some (c, μ2) := asB_eq (fnE (aC (hs2.table rfl) (aC (var_at (x := y) rfl) (a_nil _ _))) e4)
    have DD : Ch [b, a, d, p, t] μ μ2 := ((Drawn.ch D1).mono (by simp)).trans ((Drawn.ch D2).mono (by simp))
    let A1 : TF := tfAnd (asB (eBin eqD (eBin ixA (eVar 5) (eC (.int 0))) (eC (.str "told")))) (asB (eBin ltD (eVar 3) (eC (.int 4))))
    let A2 : TF := tfAnd (asB (eBin eqD (eBin ixA (eVar 5) (eC (.int 0))) (eC (.str "told")))) (asB (eBin eqD (eVar 3) (eC (.int 4))))
    let N3 : BF := bThen (bStA (eBin addD (eBin ixA (eVar 2) (eC (.str "last"))) (eC (.int 1))) (eVar 2) (eC (.str "last"))) (bThen (bStA (eBin ixA (eVar 5) (eC (.int 1))) (eBin ixA (eVar 2) (eC (.str "table"))) (eBin ixA (eVar 2) (eC (.str "last")))) (bSet 5 (eTup (aCons (eC (.str "told")) (aCons (eBin ixA (eVar 2) (eC (.str "last"))) aNil)))))
    let pop : BF := bExpr (eDPop (eBin ixA (eVar 2) (eC (.str "table"))) (eVar 4))
    let cau : BF := bSet 6 (eFn f__law_caught [] (aCons (eVar 1) (aCons (eVar 3) (aCons (eVar 4) aNil))))
    have run : ∀ (μ' : List MO), bThen (bIf (asB (eFn f__law_is_there [] (aCons (eBin ixA (eVar 2) (eC (.str "table"))) (aCons (eVar 4) aNil)))) (bSet 5 (eTup (aCons (eC (.str "told")) (aCons (eBin ixA (eBin ixA (eVar 2) (eC (.str "table"))) (eVar 4)) aNil)))) bNil) (bThen (bIf A1 pop bNil) (bThen (bIf A2 N3 bNil) (bThen cau endB))) δ2 μ2 = some (.rt (.bl true) μ') → f__law_deed [.mut b, .mut a, .mut p] μ = some (.bl true, μ') := by
      intro μ' q
      refine run_of ?_
      rw [show b__law_deed = bThen (bSet 3 _) (bThen (bIf _ _ bNil) (bThen (bSet 4 _) (bThen (bSet 5 _) _))) from rfl, then_nx s1, ask_on c2, then_nx s2, then_nx s3]
      exact q
    have args : ∀ {δ : List SV} {ν : List MO}, δ[1]? = some (.d (.mut a)) → δ[3]? = some (.d (.int way)) → δ[4]? = some (.d y) → aCons (eVar 1) (aCons (eVar 3) (aCons (eVar 4) aNil)) δ ν = some ([.mut a, .int way, y], ν) := fun h1 h2 h3 => aC (var_at h1) (aC (var_at h2) (aC (var_at h3) (a_nil _ _)))
    have q5 : ∀ {δ : List SV} {ν : List MO} {s : Str} {v : D}, δ[5]? = some (.d (.tup [.str s, v])) → asB (eBin eqD (eBin ixA (eVar 5) (eC (.int 0))) (eC (.str "told"))) δ ν = some (decide (s = "told"), ν) := fun {δ ν s v} h => asB_eq (eq_str (bin_at (x := .tup [.str s, v]) (var_at h) (y := .int 0) rfl (ixA_tup (m := 0) rfl)) (fb := eC (.str "told")) rfl)
    have w4 : ∀ {δ : List SV} {ν : List MO}, δ[3]? = some (.d (.int way)) → asB (eBin ltD (eVar 3) (eC (.int 4))) δ ν = some (decide (way < 4), ν) := fun h => lt_at h
    have w5 : ∀ {δ : List SV} {ν : List MO}, δ[3]? = some (.d (.int way)) → asB (eBin eqD (eVar 3) (eC (.int 4))) δ ν = some (decide (way = 4), ν) := fun h => eq_at h
    cases c with
    | false =>
      have ni := no rfl
      have z1 : A1 δ2 μ2 = some (false, μ2) := tAnd0 (tf_f (q5 (s := "road") (v := y) rfl) (by decide))
      have z2 : A2 δ2 μ2 = some (false, μ2) := tAnd0 (tf_f (q5 (s := "road") (v := y) rfl) (by decide))
      have ask := asked_of (way := way) (y := y) (R := .ex 0 "found" "not on the road" y μ2) hs2.rd.ia (fun _ => take_off_no hs2.rd ni) (fun _ => doubled_no hs2.rd ni) (fun _ => letter_err hs2.rd ni)
      let δ3 : List SV := δ2.set 6 (.d (.tup [.str "road", y]))
      have s4 : cau δ2 μ2 = some (.nx δ3 μ2) := set_at (fnE (args rfl rfl rfl) (caught_ex ask))
      have fin : ∀ μ', endB δ3 μ2 = some (.rt (.bl true) μ') → f__law_deed [.mut b, .mut a, .mut p] μ = some (.bl true, μ') := by
        intro μ' q
        refine run μ' ?_
        rw [ask_on c3, ask_on z1, ask_on z2, then_nx s4]
        exact q
      have calm : ∀ {q : PyData} {c : String}, Tl μ2 3 100 y q → typeD μ2 y = some c → kitB c "list" = some false → ∃ L' ks' xs' μ', f__law_deed [.mut b, .mut a, .mut p] μ = some (.bl true, μ') ∧ Side μ' a d p t L' ks' xs' ∧ Ok (m + 1) L' ks' xs' ∧ Bx b (n + 7) μ' ∧ Ch [b, a, d, p, t] μ μ' := by
        intro q c T ty kt
        obtain ⟨q2, T2⟩ := tl_road T
        exact ⟨L, ks, xs, μ2, fin _ (end_no (y := y) rfl ty kt (v := .tup [.str "road", y]) rfl rfl T2), hs2, o.mono (by omega), B2.mono (by omega), DD⟩
      cases th with
      | @int i hi => exact calm ((sc_int (i := i) (by omega)).toTl.mono (by omega) (by omega)) rfl rfl
      | bl => exact calm ((sc_bl true).toTl.mono (by omega) (by omega)) rfl rfl
      | non => exact calm (sc_non.toTl.mono (by omega) (by omega)) rfl rfl
      | str => exact calm ((sc_text (s := "1") (by decide)).toTl.mono (by omega) (by omega)) rfl rfl
      | tup => exact calm ((Tls.cons (sc_int (i := 1) (by decide)).toTl .nil).tup.mono (by omega) (by omega)) rfl rfl
      | dct => exact calm (tl_dct0.mono (by omega) (by omega)) rfl rfl
      | @lst j hj h =>
        have hl : ∀ {i : Nat} {o : MO}, μ1[i]? = some o → i ≠ j := fun e z => by
          have := lt_of e
          omega
        have cj : Ch [j] μ2 (μ2.set j (.lst [.int 1, .str "more"])) := Ch.set (by simp)
        refine ⟨L, ks, xs, _, fin _ (end_yes rfl h rfl rfl), hs2.ch cj (by simpa using hl hs1.rd.ia) (by simpa using hl hs1.rd.id) (by simpa using hl hs1.st) (by simpa using hl hs1.tb), o.mono (by omega), (B2.ch cj (by
          obtain ⟨u, eu, _⟩ := B1
          simpa using hl eu)).mono (by omega), ?_⟩
        intro i u hi ei
        have e1' := (Drawn.ch D1).mono (T := [b, a, d, p, t]) (by simp) i u hi ei
        have e2' := DD i u hi ei
        exact kept e2' (Ne.symm (hl e1'))
    | true =>
      obtain ⟨i, x, rfl, lk, hx⟩ := yes rfl
      have lx := o.sc x hx
      let δ3 : List SV := δ2.set 5 (.d (.tup [.str "told", x]))
      have e5 : eBin ixA (eBin ixA (eVar 2) (eC (.str "table"))) (eVar 4) δ2 μ2 = some (x, μ2) := bin_at (hs2.table rfl) (y := .int i) (var_at rfl) (ixA_dct (k := .inl i) (dct_mut hs2.tb) rfl lk)
      have s4 : bIf (asB (eFn f__law_is_there [] (aCons (eBin ixA (eVar 2) (eC (.str "table"))) (aCons (eVar 4) aNil)))) (bSet 5 (eTup (aCons (eC (.str "told")) (aCons (eBin ixA (eBin ixA (eVar 2) (eC (.str "table"))) (eVar 4)) aNil)))) bNil δ2 μ2 = some (.nx δ3 μ2) := by
        rw [if_at c3, if_pos rfl]
        exact set_at (tupE (aC rfl (aC e5 (a_nil _ _))) (by simp))
      have z1 : A1 δ3 μ2 = some (decide (way < 4), μ2) := tAnd2 (tf_t (q5 (s := "told") (v := x) rfl) (by decide)) (w4 rfl)
      have z2 : ∀ ν, A2 δ3 ν = some (decide (way = 4), ν) := fun ν => tAnd2 (tf_t (q5 (s := "told") (v := x) rfl) (by decide)) (w5 rfl)
      obtain ⟨q, T⟩ := tl_told (μ := μ2) lx
      by_cases h4 : way < 4
      · rw [decide_eq_true h4] at z1
        obtain ⟨ls, ys, dr, ok'⟩ := o.drop i
        let μ3 := μ2.set t (.dct (ls.map Sum.inl) ys)
        have s5 : bIf A1 pop bNil δ3 μ2 = some (.nx δ3 μ3) := by
          rw [if_at z1, if_pos rfl]
          refine expr_at (x := x) ?_
          have ft := hs2.table (i := 2) (δ := δ3) rfl
          have v : eVar 4 δ3 μ2 = some (.int i, μ2) := rfl
          simp only [eDPop, ft, dct_mut hs2.tb, v, keyD, hs2.tb, lk, dr]
          rfl
        have r3 : Rd μ3 a d L ks xs := hs2.rd.ch (S := [t]) (Ch.set (by simp)) (by simpa using at') (by simpa using dt)
        have tk := take_off_yes r3 lk
        rw [dr] at tk
        let μ4 := μ3.set d (.dct (ls.map Sum.inl) ys)
        have ask := asked_of (way := way) (y := .int i) (R := .ok x μ4) r3.ia (fun _ => tk) (fun z => by omega) (fun z => by omega)
        have s6 : cau δ3 μ3 = some (.nx (δ3.set 6 (.d (.tup [.str "told", x]))) μ4) := set_at (fnE (args rfl rfl rfl) (caught_ok ask))
        have n4 : way ≠ 4 := by omega
        have z2' := z2 μ3
        rw [decide_eq_false n4] at z2'
        obtain ⟨q4, T4⟩ := tl_told (μ := μ4) lx
        refine ⟨L, ls, ys, μ4, run _ ?_, ⟨⟨kept (kept hs2.rd.ia (Ne.symm at')) (Ne.symm ad), gs (by simpa [μ3] using lt_of hs2.rd.id)⟩, kept (kept hs2.st (Ne.symm pt)) dp, kept (gs (lt_of hs2.tb)) dt⟩, ok'.mono (by omega), ?_, ?_⟩
        · rw [then_nx s4, then_nx s5, ask_on z2', then_nx s6]
          exact end_no (y := .int i) rfl (c := "int") rfl rfl (v := .tup [.str "told", x]) rfl rfl T4
        · exact ((B2.ch (S := [t]) (Ch.set (by simp)) (by simpa using bt)).ch (S := [d]) (Ch.set (by simp)) (by simpa using bd)).mono (by omega)
        · exact DD.trans ((Ch.set (by simp)).trans (Ch.set (by simp)))
      · rw [decide_eq_false h4] at z1
        by_cases h5 : way = 4
        · have z2' := z2 μ2
          rw [decide_eq_true h5] at z2'
          obtain ⟨μ3, s5, p3, t3, C3, l3⟩ := state_put (i := 0) (δ := δ3) (fe := eBin ixA (eVar 5) (eC (.int 1))) (x := x) (g := bSet 5 (eTup (aCons (eC (.str "told")) (aCons (eBin ixA (eVar 2) (eC (.str "last"))) aNil)))) hs2 o hm pt rfl (fun ν => bin_at (x := .tup [.str "told", x]) (var_at rfl) (y := .int 1) rfl (ixA_tup (m := 1) rfl))
          have fl : eBin ixA (eVar 2) (eC (.str "last")) δ3 μ3 = some (.int (L + 1), μ3) := bin_at (x := .mut p) (var_at rfl) (y := .str "last") rfl (ixA_dct (k := .inr "last") (dct_mut p3) rfl rfl)
          let δ4 : List SV := δ3.set 5 (.d (.tup [.str "told", .int (L + 1)]))
          have s6 : bIf A2 N3 bNil δ3 μ2 = some (.nx δ4 μ3) := by
            rw [if_at z2', if_pos rfl]
            show N3 δ3 μ2 = _
            rw [show N3 = bThen _ (bThen _ _) from rfl, s5]
            exact set_at (tupE (aC rfl (aC fl (a_nil _ _))) (by simp))
          have r3 : Rd μ3 a d L ks xs := hs2.rd.ch C3 (by simp [ap, at']) (by simp [dp, dt])
          have few := o.few
          have db := doubled_yes r3 (lt_of r3.id) ad (look_new o.fresh) (by omega) lk
          rw [put_new o.fresh] at db
          let μ4 := (μ3.set a (insR d (L + 1))).set d (.dct ((ks ++ [L + 1]).map Sum.inl) (xs ++ [x]))
          have ask := asked_of (way := way) (y := .int i) (R := .ok (.int (L + 1)) μ4) r3.ia (fun z => by omega) (fun _ => db) (fun z => by omega)
          have s7 : cau δ4 μ3 = some (.nx (δ4.set 6 (.d (.tup [.str "told", .int (L + 1)]))) μ4) := set_at (fnE (args rfl rfl rfl) (caught_ok ask))
          obtain ⟨q4, T4⟩ := tl_told (μ := μ4) (tl_int (i := L + 1) (by omega))
          refine ⟨L + 1, ks ++ [L + 1], xs ++ [x], μ4, run _ ?_, ⟨put_rd r3 ad, kept (kept p3 ap) dp, kept (kept t3 at') dt⟩, o.put lx, ?_, ?_⟩
          · rw [then_nx s4, ask_on z1, then_nx s6, then_nx s7]
            exact end_no (y := .int i) rfl (c := "int") rfl rfl (v := .tup [.str "told", .int (L + 1)]) rfl rfl T4
          · exact ((B2.ch C3 (by simp [bp, bt])).ch (S := [a, d]) ((Ch.set (by simp)).trans (Ch.set (by simp))) (by simp [ba, bd])).mono (by omega)
          · have c : Ch [a, d] μ3 μ4 := (Ch.set (by simp)).trans (Ch.set (by simp))
            exact (DD.trans (C3.mono (by simp))).trans (c.mono (by simp))
        · have z2' := z2 μ2
          rw [decide_eq_false h5] at z2'
          have ask := asked_of (way := way) (y := .int i) (R := .ok x μ2) hs2.rd.ia (fun z => by omega) (fun z => absurd z h5) (fun _ => letter_yes hs2.rd lk)
          have s5 : cau δ3 μ2 = some (.nx (δ3.set 6 (.d (.tup [.str "told", x]))) μ2) := set_at (fnE (args rfl rfl rfl) (caught_ok ask))
          refine ⟨L, ks, xs, μ2, run _ ?_, hs2, o.mono (by omega), B2.mono (by omega), DD⟩
          rw [then_nx s4, ask_on z1, ask_on z2', then_nx s5]
          exact end_no (y := .int i) rfl (c := "int") rfl rfl (v := .tup [.str "told", x]) rfl rfl T
end
end Law

set_option Elab.async false
set_option linter.all false
set_option autoImplicit false
set_option maxRecDepth 100000
set_option maxHeartbeats 4000000
namespace Law
open PySem PySem.Spec PySem.Calls L2 G GL
section
variable {μ μ' : List MO} {a d p t n b m : Nat} {L : Int} {ks : List Int} {xs : List D} {x y : D} {S : List Nat}
theorem look_zip : ∀ {ks : List Int} {xs : List D}, ks.Pairwise (· < ·) → ∀ q ∈ (ks.map D.int).zip xs, ∃ k ∈ ks, q.1 = .int k ∧ lookK (.inl k) (ks.map Sum.inl) xs = some q.2
  | [], _, _, q, h => nomatch h
  | _ :: _, [], _, q, h => nomatch h
  | k :: ks, x :: xs, hs, q, h => by
    simp only [List.map_cons, List.zip_cons_cons, List.mem_cons] at h
    rcases h with rfl | h
    · exact ⟨k, by simp, rfl, by simp [lookK]⟩
    · have hs' := List.pairwise_cons.mp hs
      obtain ⟨j, hj, e, l⟩ := look_zip hs'.2 q h
      have lt := hs'.1 j hj
      have n : (Sum.inl k : Key) ≠ .inl j := fun z => by cases z; omega
      refine ⟨j, by simp [hj], e, ?_⟩
      simp only [List.map_cons, lookK]
      rw [if_neg n]
      exact l
theorem right_ok (hs : Side μ a d p t L ks xs) (o : Ok m L ks xs) (hm : m ≤ 900) : ∃ μ', f__law_right [.mut a, .mut p] μ = some (.bl true, μ') ∧ Keeps μ μ' := by
  let δ0 : List SV := startD 4 [.mut a, .mut p]
  let is := ks.map D.int
  let k := μ.length
  let δ1 : List SV := [.d (.mut a), .d (.mut p), .d (.mut k), .no]
  let μ1 := μ ++ [.lst is]
  have s1 : bSet 2 (eFnX (toX f_Roads_numbers) (aMeth 4 "numbers" (eVar 0) aNil)) δ0 μ = some (.nx δ1 μ1) := set_at (fnX (mth_at (i := 0) (δ := δ0) rfl hs.rd.ia (by decide) (a_nil _ _)) (numbers_ok hs.rd o))
  have h1 : Side μ1 a d p t L ks xs := hs.keeps (Keeps.app _ _)
  let μ2 := μ1 ++ [.lst is]
  have h2 : Side μ2 a d p t L ks xs := h1.keeps (Keeps.app _ _)
  have k2 : μ2[k]? = some (.lst is) := getP (app_at _ _)
  have j2 : μ2[μ1.length]? = some (.lst is) := app_at _ _
  have l1 : eCall lstA (aCons (eBin ixA (eVar 1) (eC (.str "table"))) aNil) δ1 μ1 = some (.mut μ1.length, μ2) := by
    have q := callE (g := lstA) (aC (h1.table (i := 1) (δ := δ1) rfl) (a_nil _ _)) (lstA_dct (dct_mut h1.tb))
    rw [q, keyV_map]
  obtain ⟨u, sc⟩ := ints_sc (μ := μ2) (o.small (by omega))
  have c1 : asB (eBin neD (eVar 2) (eCall lstA (aCons (eBin ixA (eVar 1) (eC (.str "table"))) aNil))) δ1 μ1 = some (false, μ2) := asB_eq (bin_at (x := .mut k) (var_at rfl) l1 (eqD_of (sc.mutl k2) (sc.mutl j2) (by omega) (by omega) (fun _ _ z => by cases z.1)).2)
  have few := o.few
  have len1 : eCall (lenO 4 f_Roads___len__) (aCons (eVar 0) aNil) δ1 μ2 = some (.int ks.length, μ2) := by
    refine callE (a1 (i := 0) (x := .mut a) rfl) ?_
    have e := len_ok h2.rd
    have ia := h2.rd.ia
    simp only [lenO, ia, insR, e, if_true]
    rw [if_pos ⟨by omega, by omega⟩]
  have len2 : eCall lenA (aCons (eBin ixA (eVar 1) (eC (.str "table"))) aNil) δ1 μ2 = some (.int ks.length, μ2) := by
    have q := callE (g := lenA) (aC (h2.table (i := 1) (δ := δ1) rfl) (a_nil _ _)) (lenA_dct (dct_mut h2.tb))
    rw [q, List.length_map]
  have c2 := asB_eq (ne_int len1 len2)
  have c3 := tOr_eq2 c1 (tf_f c2 (by simp))
  let μ3 := μ2.set k (.lst (is ++ [.int 0]))
  have k3 : μ3[k]? = some (.lst (is ++ [.int 0])) := gs (lt_of k2)
  have il : is.length < 1000000 := by simp only [is, List.length_map]; omega
  have s3 : bExpr (eMt "list" appendD (eVar 2) (aCons (eC (.int 0)) aNil)) δ1 μ2 = some (.nx δ1 μ3) :=
    expr_at (mtE (x := .mut k) (var_at rfl) (by simp [tyB, k2]) (aC rfl (a_nil _ _)) (z := (.non, μ3)) (by simp only [appendD, k2]; rw [if_pos il]))
  let μ4 := μ3.set k (MO.lst (is ++ [D.int 0]).reverse)
  have s4 : bExpr (eMt "list" reverseD (eVar 2) aNil) δ1 μ3 = some (.nx δ1 μ4) :=
    expr_at (mtE (x := .mut k) (var_at rfl) (by simp [tyB, k3]) (a_nil _ _) (z := (.non, μ4)) (by simp only [reverseD, k3]; rfl))
  have K4 : Keeps μ μ4 := fun i o e => by
    have li := lt_of e
    exact kept (kept (getP (getP e)) (show k ≠ i by omega)) (show k ≠ i by omega)
  have h4 : Side μ4 a d p t L ks xs := hs.keeps K4
  let μ5 := μ4 ++ [.lst is]
  have h5 : Side μ5 a d p t L ks xs := h4.keeps (Keeps.app _ _)
  have n5 : eFnX (toX f_Roads_numbers) (aMeth 4 "numbers" (eVar 0) aNil) δ1 μ4 = some (.mut μ4.length, μ5) := fnX (mth_at (i := 0) (δ := δ1) rfl h4.rd.ia (by decide) (a_nil _ _)) (numbers_ok h4.rd o)
  have it := iLM_at n5 (app_at μ4 (.lst is))
  have lp : lcLoopP (fun μ => μ[μ4.length]? = some (.lst is)) (nmG 3) tYesD (eFnX fx_Roads_letter (aMeth 4 "letter" (eVar 0) (aCons (eVar 3) aNil))) (wipeD δ1 [3]) is μ5 = some (xs, μ5) := by
    refine lcP_eq (app_at μ4 (.lst is)) (fun q hq => ?_) (by simp only [is, List.length_map]; exact o.len)
    obtain ⟨j, hj, e, l⟩ := look_zip o.srt q hq
    rw [e]
    exact fnX (mth_at (i := 0) (δ := (wipeD δ1 [3]).set 3 (.d (.int j))) rfl h5.rd.ia (by decide) (a1 (i := 3) (x := .int j) rfl)) (letter_yes h5.rd l)
  have e6 : eFrz (nLcP (iLM (eFnX (toX f_Roads_numbers) (aMeth 4 "numbers" (eVar 0) aNil))) (nmG 3) tYesD (eFnX fx_Roads_letter (aMeth 4 "letter" (eVar 0) (aCons (eVar 3) aNil))) [3]) δ1 μ4 = some (.lst xs, μ5) := frzE (nLcP_at it (by simp only [is, List.length_map]; omega) lp)
  let μ6 := μ5 ++ [.lst xs]
  have e7 : eLVals (eBin ixA (eVar 1) (eC (.str "table"))) δ1 μ5 = some (.mut μ5.length, μ6) := by
    have ft := h5.table (i := 1) (δ := δ1) rfl
    simp only [eLVals, eThen, ft, h5.tb]
    rfl
  obtain ⟨w, ps, sx⟩ := lts_sc (μ := μ6) o.sc
  have e8 := bin_at e6 e7 (eqD_of sx.lst (sx.mutl (app_at μ5 (.lst xs))) (by omega) (by omega) (fun _ _ z => by cases z.1)).1
  refine ⟨μ6, run_of ?_, K4.trans ((Keeps.app _ _).trans (Keeps.app _ _))⟩
  rw [show b__law_right = bThen (bSet 2 (eFnX (toX f_Roads_numbers) (aMeth 4 "numbers" (eVar 0) aNil))) (bThen (bIf _ _ bNil) (bThen (bExpr _) (bThen (bExpr _) (bRet _)))) from rfl, then_nx s1, ask_on c3, then_nx s3, then_nx s4]
  exact ret_eq e8
/-! ### both sides -/
structure Sd where
  a : Nat
  d : Nat
  p : Nat
  t : Nat
  L : Int
  ks : List Int
  xs : List D
abbrev Sd.ids (u : Sd) : List Nat := [u.a, u.d, u.p, u.t]
structure Two (μ : List MO) (b n m i : Nat) (u v : Sd) : Prop where
  so : μ[4]? = some (.lst (if i = 0 then [.mut u.a, .mut v.a] else [.mut v.a, .mut u.a]))
  st : μ[9]? = some (.lst (if i = 0 then [.mut u.p, .mut v.p] else [.mut v.p, .mut u.p]))
  su : Side μ u.a u.d u.p u.t u.L u.ks u.xs
  sv : Side μ v.a v.d v.p v.t v.L v.ks v.xs
  ou : Ok m u.L u.ks u.xs
  ov : Ok m v.L v.ks v.xs
  bx : Bx b n μ
  nd : ([b, 4, 9] ++ (u.ids ++ v.ids)).Nodup
theorem Two.swap {i : Nat} {u v : Sd} (h : Two μ b n m i u v) (hi : i ≤ 1) : Two μ b n m (1 - i) v u := by
  have : i = 0 ∨ i = 1 := by omega
  refine ⟨?_, ?_, h.sv, h.su, h.ov, h.ou, h.bx, (List.Perm.append_left [b, 4, 9] List.perm_append_comm).nodup h.nd⟩
  · rcases this with rfl | rfl
    · simpa using h.so
    · simpa using h.so
  · rcases this with rfl | rfl
    · simpa using h.st
    · simpa using h.st
theorem Two.first {i : Nat} {u v : Sd} (h : Two μ b n m i u v) (hi : i ≤ 1) : ∃ u' v', Two μ b n m 0 u' v' := by
  have : i = 0 ∨ i = 1 := by omega
  rcases this with rfl | rfl
  · exact ⟨u, v, h⟩
  · exact ⟨v, u, h.swap (Nat.le_refl _)⟩
theorem Two.keeps {i : Nat} {u v : Sd} (h : Two μ b n m i u v) (k : Keeps μ μ') : Two μ' b n m i u v :=
  ⟨k _ _ h.so, k _ _ h.st, h.su.keeps k, h.sv.keeps k, h.ou, h.ov, h.bx.keeps k, h.nd⟩
theorem Two.drawn {i l : Nat} {u v : Sd} (h : Two μ b n m i u v) (k : Drawn b μ μ') (B : Bx b l μ') : Two μ' b l m i u v := by
  have nd := h.nd
  simp only [Sd.ids, List.cons_append, List.nil_append, List.nodup_cons, List.mem_cons, List.not_mem_nil, or_false, not_or] at nd
  obtain ⟨⟨n1, n2, n3, n4, n5, n6, n7, n8, n9, n10⟩, _⟩ := nd
  refine ⟨k _ _ (Ne.symm n1) h.so, k _ _ (Ne.symm n2) h.st, h.su.ch (Drawn.ch k) ?_ ?_ ?_ ?_, h.sv.ch (Drawn.ch k) ?_ ?_ ?_ ?_, h.ou, h.ov, B, h.nd⟩ <;> simp [Ne.symm n3, Ne.symm n4, Ne.symm n5, Ne.symm n6, Ne.symm n7, Ne.symm n8, Ne.symm n9, Ne.symm n10]
theorem Two.at_so {i : Nat} {u v : Sd} {δ : List SV} {j k : Nat} (h : Two μ b n m i u v) (hi : i ≤ 1) (v1 : δ[j]? = some (.d (.mut 4))) (v6 : δ[k]? = some (.d (.int (i : Nat)))) : eBin ixA (eVar j) (eVar k) δ μ = some (.mut u.a, μ) := by
  have : i = 0 ∨ i = 1 := by omega
  refine bin_at (var_at v1) (var_at v6) (ixA_lst h.so ?_)
  rcases this with rfl | rfl <;> rfl
theorem Two.at_st {i : Nat} {u v : Sd} {δ : List SV} {j k : Nat} (h : Two μ b n m i u v) (hi : i ≤ 1) (v1 : δ[j]? = some (.d (.mut 9))) (v6 : δ[k]? = some (.d (.int (i : Nat)))) : eBin ixA (eVar j) (eVar k) δ μ = some (.mut u.p, μ) := by
  have : i = 0 ∨ i = 1 := by omega
  refine bin_at (var_at v1) (var_at v6) (ixA_lst h.st ?_)
  rcases this with rfl | rfl <;> rfl
end
end Law

set_option Elab.async false
set_option linter.all false
set_option autoImplicit false
set_option maxRecDepth 100000
set_option maxHeartbeats 4000000
namespace Law
open PySem PySem.Spec PySem.Calls L2 G GL
section
variable {μ μ' : List MO} {a d p t n b m : Nat} {L : Int} {ks : List Int} {xs : List D} {x y : D} {S : List Nat}
theorem mth_f {m : Str} {fo : EF} {a : Nat} {C : Nat} {ns : List Str} {ys : List D} {r : AF} {zs : List D} {δ : List SV} {μ0 μ μ1 : List MO} (v : fo δ μ0 = some (.mut a, μ)) (h : μ[a]? = some (.ins C ns ys)) (hm : m ∉ ns) (e : r δ μ = some (zs, μ1)) : aMeth C m fo r δ μ0 = some (.mut a :: zs, μ1) := by
  simp [aMeth, v, h, hm, e]
abbrev copS : BF := bStA (eFnX (toX f_Roads_copied) (aMeth 4 "copied" (eBin ixA (eVar 1) (eVar 6)) aNil)) (eVar 1) (eBin subD (eC (.int 1)) (eVar 6))
abbrev copT : BF := bStA (eDctMs ["last", "table"] (aCons (eBin ixA (eBin ixA (eVar 2) (eVar 6)) (eC (.str "last"))) (aCons (eCall dctG (aCons (eBin ixA (eBin ixA (eVar 2) (eVar 6)) (eC (.str "table"))) aNil)) aNil))) (eVar 2) (eBin subD (eC (.int 1)) (eVar 6))
theorem copy_ok {i : Nat} {u v : Sd} {δ : List SV} (h : Two μ b n m i u v) (hi : i ≤ 1) (v1 : δ[1]? = some (.d (.mut 4))) (v2 : δ[2]? = some (.d (.mut 9))) (v6 : δ[6]? = some (.d (.int (i : Nat)))) :
    ∃ v' μ', bThen copS copT δ μ = some (.nx δ μ') ∧ Two μ' b n m i u v' := by
  have hi' : i = 0 ∨ i = 1 := by omega
  let k := μ.length
  have lt4 := lt_of h.so
  have lt9 := lt_of h.st
  have lb := h.bx.lt
  have la := lt_of h.su.rd.ia
  have ld := lt_of h.su.rd.id
  have lp := lt_of h.su.st
  have lt := lt_of h.su.tb
  let μ1 := μ ++ [insR (k + 2) u.L, .dct [] [], .dct (u.ks.map Sum.inl) u.xs]
  have e1 : eFnX (toX f_Roads_copied) (aMeth 4 "copied" (eBin ixA (eVar 1) (eVar 6)) aNil) δ μ = some (.mut k, μ1) := fnX (mth_f (h.at_so hi v1 v6) h.su.rd.ia (by decide) (a_nil _ _)) (copied_ok h.su.rd)
  have K1 : Keeps μ μ1 := Keeps.app _ _
  have sb : ∀ ν, eBin subD (eC (.int 1)) (eVar 6) δ ν = some (.int (1 - (i : Nat)), ν) := fun ν => subE (fa := eC (.int 1)) rfl (var_at v6)
  have ix : ixN 2 (1 - (i : Nat)) = some (1 - i) := by rcases hi' with rfl | rfl <;> decide
  have so1 := K1 _ _ h.so
  have lw : ∀ {x y z w : D}, (if i = 0 then [x, y] else [z, w]).length = 2 := fun {x y z w} => by rcases hi' with rfl | rfl <;> rfl
  have s1 := stA_lst e1 (var_at v1) (sb μ1) so1 (m := 1 - i) (by rw [lw]; exact ix)
  let μ2 := μ1.set 4 (.lst (if i = 0 then [.mut u.a, .mut k] else [.mut k, .mut u.a]))
  have s1' : copS δ μ = some (.nx δ μ2) := by
    refine s1.trans ?_
    rcases hi' with rfl | rfl <;> rfl
  have nd := h.nd
  simp only [Sd.ids, List.cons_append, List.nil_append, List.nodup_cons, List.mem_cons, List.not_mem_nil, or_false, not_or, not_false_eq_true, List.nodup_nil, and_true] at nd
  obtain ⟨⟨b4, b9, ba, bd, bp, bt, _, _, _, _⟩, ⟨n49, a4, d4, p4, t4, _, _, _, _⟩, ⟨a9, d9, p9, t9, _, _, _, _⟩, ⟨ad, ap, at', _, _, _, _⟩, ⟨dp, dt, _, _, _, _⟩, ⟨pt, _, _, _, _⟩, _⟩ := nd
  have C2 : Ch [4] μ1 μ2 := Ch.set (by simp)
  have su2 : Side μ2 u.a u.d u.p u.t u.L u.ks u.xs := (h.su.keeps K1).ch C2 (by simpa using Ne.symm a4) (by simpa using Ne.symm d4) (by simpa using Ne.symm p4) (by simpa using Ne.symm t4)
  have bx2 : Bx b n μ2 := (h.bx.keeps K1).ch C2 (by simpa using b4)
  have st2 := C2 9 _ (by simpa using Ne.symm n49) (K1 _ _ h.st)
  have so2 : μ2[4]? = some (.lst (if i = 0 then [.mut u.a, .mut k] else [.mut k, .mut u.a])) := gs (lt_of so1)
  have l2 : μ2.length = k + 3 := by simp [μ2, μ1, k]
  have ia2 : μ2[k]? = some (insR (k + 2) u.L) := kept (by simp [μ1, k]) (by omega)
  have id2 : μ2[k + 2]? = some (.dct (u.ks.map Sum.inl) u.xs) := kept (by simp [μ1, k]) (by omega)
  -- the state
  have ixp : eBin ixA (eVar 2) (eVar 6) δ μ2 = some (.mut u.p, μ2) := by
    refine bin_at (var_at v2) (var_at v6) (ixA_lst st2 ?_)
    rcases hi' with rfl | rfl <;> rfl
  have f1 : eBin ixA (eBin ixA (eVar 2) (eVar 6)) (eC (.str "last")) δ μ2 = some (.int u.L, μ2) := bin_at ixp (y := .str "last") rfl (ixA_dct (k := .inr "last") (dct_mut su2.st) rfl rfl)
  have f2 : eBin ixA (eBin ixA (eVar 2) (eVar 6)) (eC (.str "table")) δ μ2 = some (.mut u.t, μ2) := bin_at ixp (y := .str "table") rfl (ixA_dct (k := .inr "table") (dct_mut su2.st) rfl rfl)
  let μ3 := μ2 ++ [.dct (u.ks.map Sum.inl) u.xs]
  have f3 : eCall dctG (aCons (eBin ixA (eBin ixA (eVar 2) (eVar 6)) (eC (.str "table"))) aNil) δ μ2 = some (.mut (k + 3), μ3) := by
    rw [← l2]
    exact callE (aC f2 (a_nil _ _)) (dctG_dct (dct_mut su2.tb))
  have l3 : μ3.length = k + 4 := by simp [μ3, l2]
  let μ4 := μ3 ++ [stO u.L (k + 3)]
  have mg : mergeD [] [] ([.inr "last", .inr "table"] : List Key) [D.int u.L, .mut (k + 3)] = (([.inr "last", .inr "table"] : List Key), [D.int u.L, D.mut (k + 3)]) := by
    have ne : (Str.ofString "last" = Str.ofString "table") = False := eq_false (by decide)
    simp [mergeD, putX, ne]
  have f4 : eDctMs ["last", "table"] (aCons (eBin ixA (eBin ixA (eVar 2) (eVar 6)) (eC (.str "last"))) (aCons (eCall dctG (aCons (eBin ixA (eBin ixA (eVar 2) (eVar 6)) (eC (.str "table"))) aNil)) aNil)) δ μ2 = some (.mut (k + 4), μ4) := by
    have q := aC f1 (aC f3 (a_nil _ _))
    have l0 : ([D.int u.L, D.mut (k + 3)] : List D).length = (["last", "table"] : List Str).length := rfl
    simp only [eDctMs, q, if_pos l0, l3, List.map_cons, List.map_nil, mg]
    rfl
  have K4 : Keeps μ2 μ4 := (Keeps.app _ _).trans (Keeps.app _ _)
  have s2 := stA_lst f4 (var_at v2) (sb μ4) (K4 _ _ st2) (m := 1 - i) (by rw [lw]; exact ix)
  let μ5 := μ4.set 9 (.lst (if i = 0 then [.mut u.p, .mut (k + 4)] else [.mut (k + 4), .mut u.p]))
  have s2' : copT δ μ2 = some (.nx δ μ5) := by
    refine s2.trans ?_
    rcases hi' with rfl | rfl <;> rfl
  have C5 : Ch [9] μ4 μ5 := Ch.set (by simp)
  have t5 : μ5[k + 3]? = some (.dct (u.ks.map Sum.inl) u.xs) := kept (getP (by rw [← l2]; exact app_at _ _)) (by omega)
  have p5 : μ5[k + 4]? = some (stO u.L (k + 3)) := kept (by rw [← l3]; exact app_at _ _) (by omega)
  refine ⟨⟨k, k + 2, k + 4, k + 3, u.L, u.ks, u.xs⟩, μ5, ?_, ⟨?_, ?_, ?_, ?_, h.ou, h.ou, (bx2.keeps K4).ch C5 (by simpa using b9), ?_⟩⟩
  · rw [show bThen copS copT = bThen _ _ from rfl, then_nx s1', s2']
  · exact C5 4 _ (by simpa using n49) (K4 _ _ so2)
  · exact gs (lt_of (K4 _ _ st2))
  · exact (su2.keeps K4).ch C5 (by simpa using Ne.symm a9) (by simpa using Ne.symm d9) (by simpa using Ne.symm p9) (by simpa using Ne.symm t9)
  · exact ⟨⟨C5 _ _ (by simp; omega) (K4 _ _ ia2), C5 _ _ (by simp; omega) (K4 _ _ id2)⟩, p5, t5⟩
  · simp only [Sd.ids, List.cons_append, List.nil_append, List.nodup_cons, List.mem_cons, List.not_mem_nil, or_false, not_or, not_false_eq_true, List.nodup_nil, and_true]
    refine ⟨⟨b4, b9, ba, bd, bp, bt, ?_, ?_, ?_, ?_⟩, ⟨n49, a4, d4, p4, t4, ?_, ?_, ?_, ?_⟩, ⟨a9, d9, p9, t9, ?_, ?_, ?_, ?_⟩, ⟨ad, ap, at', ?_, ?_, ?_, ?_⟩, ⟨dp, dt, ?_, ?_, ?_, ?_⟩, ⟨pt, ?_, ?_, ?_, ?_⟩, ⟨?_, ?_, ?_, ?_⟩, ⟨?_, ?_, ?_⟩, ⟨?_, ?_⟩, ?_⟩ <;> omega
end
end Law

set_option Elab.async false
set_option linter.all false
set_option autoImplicit false
set_option maxRecDepth 100000
set_option maxHeartbeats 4000000
namespace Law
open PySem PySem.Spec PySem.Calls L2 G GL
section
variable {μ μ' : List MO} {a d p t n b m : Nat} {L : Int} {ks : List Int} {xs : List D} {x y : D} {S : List Nat}
/-- a turn -/
abbrev deedB : BF := bIf (tfNot (asB (eFn f__law_deed [] (aCons (eVar 4) (aCons (eBin ixA (eVar 1) (eVar 6)) (aCons (eBin ixA (eVar 2) (eVar 6)) aNil)))))) (bRet (eC (.bl false))) bNil
noncomputable abbrev rightB : BF := bIf (tfOr (tfNot (asB (eFn f__law_right [] (aCons (eBin ixA (eVar 1) (eC (.int 0))) (aCons (eBin ixA (eVar 2) (eC (.int 0))) aNil))))) (tfNot (asB (eFn f__law_right [] (aCons (eBin ixA (eVar 1) (eC (.int 1))) (aCons (eBin ixA (eVar 2) (eC (.int 1))) aNil)))))) (bRet (eC (.bl false))) bNil
noncomputable abbrev turnB : BF := bThen (bSet 6 (eFn f__law_take [] (aCons (eVar 4) (aCons (eC (.int 2)) aNil)))) (bThen (bIf (asB (eBin eqD (eFn f__law_take [] (aCons (eVar 4) (aCons (eC (.int 9)) aNil))) (eC (.int 0)))) (bThen copS copT) bNil) (bThen deedB rightB))
theorem deed_two {i : Nat} {u v : Sd} {δ : List SV} (h : Two μ b n m i u v) (hi : i ≤ 1) (hm : m ≤ 900) (hn : n ≤ 800) (v1 : δ[1]? = some (.d (.mut 4))) (v2 : δ[2]? = some (.d (.mut 9))) (v4 : δ[4]? = some (.d (.mut b))) (v6 : δ[6]? = some (.d (.int (i : Nat)))) :
    ∃ u' μ', deedB δ μ = some (.nx δ μ') ∧ Two μ' b (n + 7) (m + 1) i u' v := by
  have nd := h.nd
  simp only [Sd.ids, List.cons_append, List.nil_append, List.nodup_cons, List.mem_cons, List.not_mem_nil, or_false, not_or, not_false_eq_true, List.nodup_nil, and_true] at nd
  obtain ⟨⟨b4, b9, ba, bd, bp, bt, b1, b2, b3, b5⟩, ⟨n49, a4, d4, p4, t4, _, _, _, _⟩, ⟨a9, d9, p9, t9, _, _, _, _⟩, ⟨ad, ap, at', aa, a2, a3, a5⟩, ⟨dp, dt, da, d2, d3, d5⟩, ⟨pt, pa, p2, p3, p5⟩, ⟨ta, t2, t3, t5⟩, _⟩ := nd
  obtain ⟨L', ks', xs', μ', e, s', o', B', C⟩ := deed_ok h.su h.ou hm h.bx hn (by
    simp only [List.nodup_cons, List.mem_cons, List.not_mem_nil, or_false, not_or, not_false_eq_true, List.nodup_nil, and_true]
    exact ⟨⟨ba, bd, bp, bt⟩, ⟨ad, ap, at'⟩, ⟨dp, dt⟩, pt⟩)
  have E : asB (eFn f__law_deed [] (aCons (eVar 4) (aCons (eBin ixA (eVar 1) (eVar 6)) (aCons (eBin ixA (eVar 2) (eVar 6)) aNil)))) δ μ = some (true, μ') := asB_eq (fnE (aC (var_at v4) (aC (h.at_so hi v1 v6) (aC (h.at_st hi v2 v6) (a_nil _ _)))) e)
  refine ⟨⟨u.a, u.d, u.p, u.t, L', ks', xs'⟩, μ', if_nx (not_eq E), ?_⟩
  refine ⟨C _ _ ?_ h.so, C _ _ ?_ h.st, s', h.sv.ch C ?_ ?_ ?_ ?_, o', h.ov.mono (by omega), B', h.nd⟩
  all_goals simp only [List.mem_cons, List.not_mem_nil, or_false, not_or]
  all_goals refine ⟨?_, ?_, ?_, ?_, ?_⟩ <;> first | assumption | (intro z; exact absurd z.symm (by assumption))
theorem right_two {u v : Sd} {δ : List SV} (h : Two μ b n m 0 u v) (hm : m ≤ 900) (v1 : δ[1]? = some (.d (.mut 4))) (v2 : δ[2]? = some (.d (.mut 9))) :
    ∃ μ', rightB δ μ = some (.nx δ μ') ∧ Two μ' b n m 0 u v := by
  have one : ∀ {μ : List MO} {j : Nat} {a p : Nat}, ∀ (xs ys : List D), μ[4]? = some (.lst xs) → μ[9]? = some (.lst ys) → xs[j]? = some (.mut a) → ys[j]? = some (.mut p) → aCons (eBin ixA (eVar 1) (eC (.int (j : Nat)))) (aCons (eBin ixA (eVar 2) (eC (.int (j : Nat)))) aNil) δ μ = some ([.mut a, .mut p], μ) := by
    intro μ j a p xs ys h1 h2 h3 h4
    exact aC (bin_at (var_at v1) (y := .int (j : Nat)) rfl (ixA_lst h1 h3)) (aC (bin_at (var_at v2) (y := .int (j : Nat)) rfl (ixA_lst h2 h4)) (a_nil _ _))
  obtain ⟨μ1, e1, K1⟩ := right_ok h.su h.ou hm
  have h1 := h.keeps K1
  obtain ⟨μ2, e2, K2⟩ := right_ok h1.sv h1.ov hm
  have o0 : μ[4]? = some (.lst [.mut u.a, .mut v.a]) := by simpa using h.so
  have s0 : μ[9]? = some (.lst [.mut u.p, .mut v.p]) := by simpa using h.st
  have r0 : tfNot (asB (eFn f__law_right [] (aCons (eBin ixA (eVar 1) (eC (.int 0))) (aCons (eBin ixA (eVar 2) (eC (.int 0))) aNil)))) δ μ = some (!true, μ1) := not_eq (asB_eq (fnE (one (j := 0) _ _ o0 s0 rfl rfl) e1))
  have r1 : tfNot (asB (eFn f__law_right [] (aCons (eBin ixA (eVar 1) (eC (.int 1))) (aCons (eBin ixA (eVar 2) (eC (.int 1))) aNil)))) δ μ1 = some (!true, μ2) := not_eq (asB_eq (fnE (one (j := 1) _ _ (K1 _ _ o0) (K1 _ _ s0) rfl rfl) e2))
  exact ⟨μ2, if_nx (tOr_eq2 r0 r1), h1.keeps K2⟩
theorem turn_ok {u v : Sd} {δ : List SV} (h : Two μ b n m 0 u v) (hm : m ≤ 800) (hn : n ≤ 700) (hl : δ.length = 7) (v1 : δ[1]? = some (.d (.mut 4))) (v2 : δ[2]? = some (.d (.mut 9))) (v4 : δ[4]? = some (.d (.mut b))) :
    ∃ (s : Int) (u' v' : Sd) (μ' : List MO), turnB δ μ = some (.nx (δ.set 6 (.d (.int s))) μ') ∧ Two μ' b (n + 9) (m + 1) 0 u' v' := by
  obtain ⟨s, μ1, e1, g0, g1, B1, D1⟩ := take_x (i := 4) (fm := eC (.int 2)) (δ := δ) v4 rfl h.bx (by decide) (by decide) (by omega)
  obtain ⟨i, rfl⟩ : ∃ i : Nat, s = i := ⟨s.toNat, by omega⟩
  have hi : i ≤ 1 := by omega
  have h1 : Two μ1 b (n + 1) m 0 u v := h.drawn D1 B1
  obtain ⟨u1, v1', h2⟩ : ∃ u v, Two μ1 b (n + 1) m i u v := by
    have : i = 0 ∨ i = 1 := by omega
    rcases this with rfl | rfl
    · exact ⟨u, v, h1⟩
    · exact ⟨v, u, h1.swap (Nat.zero_le _)⟩
  let δ1 := δ.set 6 (.d (.int (i : Nat)))
  have w1 : δ1[1]? = some (.d (.mut 4)) := get_ne v1 (by decide)
  have w2 : δ1[2]? = some (.d (.mut 9)) := get_ne v2 (by decide)
  have w4 : δ1[4]? = some (.d (.mut b)) := get_ne v4 (by decide)
  have w6 : δ1[6]? = some (.d (.int (i : Nat))) := get_set (by omega)
  obtain ⟨e, μ2, e2, _, _, B2, D2⟩ := take_x (i := 4) (fm := eC (.int 9)) (δ := δ1) w4 rfl B1 (by decide) (by decide) (by omega)
  have h3 : Two μ2 b (n + 2) m i u1 v1' := h2.drawn D2 B2
  have c := asB_eq (eq_int e2 (fb := eC (.int 0)) rfl)
  obtain ⟨v2', μ3, s3, h4⟩ : ∃ v' μ3, bIf (asB (eBin eqD (eFn f__law_take [] (aCons (eVar 4) (aCons (eC (.int 9)) aNil))) (eC (.int 0)))) (bThen copS copT) bNil δ1 μ1 = some (.nx δ1 μ3) ∧ Two μ3 b (n + 2) m i u1 v' := by
    by_cases z : e = 0
    · obtain ⟨v', μ3, s, q⟩ := copy_ok h3 hi w1 w2 w6
      exact ⟨v', μ3, by rw [if_at c, if_pos (decide_eq_true z)]; exact s, q⟩
    · exact ⟨v1', μ2, if_nx (tf_f c (decide_eq_false z)), h3⟩
  obtain ⟨u2, μ4, s4, h5⟩ := deed_two h4 hi (by omega) (by omega) w1 w2 w4 w6
  obtain ⟨p, q, h6⟩ := h5.first hi
  obtain ⟨μ5, s5, h7⟩ := right_two h6 (by omega) w1 w2
  refine ⟨(i : Nat), p, q, μ5, ?_, h7⟩
  rw [show turnB = bThen _ (bThen _ (bThen _ _)) from rfl, then_nx (set_at e1), then_nx s3, then_nx s4]
  exact s5
end
end Law

set_option Elab.async false
set_option linter.all false
set_option autoImplicit false
set_option maxRecDepth 100000
set_option maxHeartbeats 1000000
namespace Law
open PySem PySem.Spec PySem.Calls L2 G GL
section
variable {μ μ' : List MO} {n b m : Nat} {x : D}
theorem Two.mono {i k l : Nat} {u v : Sd} (h : Two μ b n m i u v) (h1 : n ≤ k) (h2 : m ≤ l) : Two μ b k l i u v := ⟨h.so, h.st, h.su, h.sv, h.ou.mono h2, h.ov.mono h2, h.bx.mono h1, h.nd⟩
theorem Two.next {u v : Sd} {o : MO} (h : Two μ b n m 0 u v) (ho : BagOk 0 o) : Two (μ ++ [o]) μ.length 0 m 0 u v := by
  have q := h.keeps (Keeps.app μ [o])
  refine ⟨q.so, q.st, q.su, q.sv, q.ou, q.ov, ⟨o, app_at _ _, ho⟩, ?_⟩
  have nd := h.nd
  have l4 := lt_of h.so
  have l9 := lt_of h.st
  have a1 := lt_of h.su.rd.ia
  have a2 := lt_of h.su.rd.id
  have a3 := lt_of h.su.st
  have a4 := lt_of h.su.tb
  have b1 := lt_of h.sv.rd.ia
  have b2 := lt_of h.sv.rd.id
  have b3 := lt_of h.sv.st
  have b4 := lt_of h.sv.tb
  show (μ.length :: ([4, 9] ++ (u.ids ++ v.ids))).Nodup
  refine List.nodup_cons.mpr ⟨?_, (List.nodup_cons.mp (show (b :: ([4, 9] ++ (u.ids ++ v.ids))).Nodup from nd)).2⟩
  intro z
  have : ∀ y ∈ ([4, 9] ++ (u.ids ++ v.ids)), y < μ.length := by
    intro y hy
    simp only [Sd.ids, List.cons_append, List.nil_append, List.mem_cons, List.not_mem_nil, or_false] at hy
    rcases hy with rfl | rfl | rfl | rfl | rfl | rfl | rfl | rfl | rfl | rfl <;> assumption
  exact absurd (this _ z) (Nat.lt_irrefl _)
structure Vs (ns : List Int) (δ : List SV) : Prop where
  len : δ.length = 7
  v0 : δ[0]? = some (.d (.scr ns))
  v1 : δ[1]? = some (.d (.mut 4))
  v2 : δ[2]? = some (.d (.mut 9))
theorem Vs.set {ns : List Int} {δ : List SV} (h : Vs ns δ) {i : Nat} {s : SV} (hi : 3 ≤ i) : Vs ns (δ.set i s) := ⟨by simp [h.len], get_ne h.v0 (by omega), get_ne h.v1 (by omega), get_ne h.v2 (by omega)⟩
noncomputable abbrev cellB : BF := bThen (bSet 4 (eFn f__law_box [] (aCons (eFn f__law_cell [] (aCons (eVar 0) (aCons (eVar 3) aNil))) aNil))) (bFor (iR1 (aCons (eBin addD (eC (.int 1)) (eFn f__law_take [] (aCons (eVar 4) (aCons (eC (.int 3)) aNil)))) aNil)) (nmG 5) turnB)
theorem cell_two {ns : List Int} (hl : ns.length ≤ 63) {δ : List SV} {k j : Nat} (hk : k < 60) (hj : j ≤ 60) (V : Vs ns δ) (v3 : δ[3]? = some (.d (.int (k : Nat)))) {u v : Sd} (T : ∀ o, BagOk 0 o → Two (μ ++ [o]) μ.length 0 (3 * j) 0 u v) :
    ∃ δ' μ' b n u' v', cellB δ μ = some (.nx δ' μ') ∧ Vs ns δ' ∧ Two μ' b n (3 * (j + 1)) 0 u' v' := by
  obtain ⟨c, e1⟩ := cell_ok hl k (by omega) μ
  obtain ⟨o, e2, ho⟩ := box_ok c μ
  let b := μ.length
  let δ1 := δ.set 4 (.d (.mut b))
  have V1 : Vs ns δ1 := V.set (by omega)
  have w4 : δ1[4]? = some (.d (.mut b)) := get_set (by have := V.len; omega)
  have s1 : bSet 4 (eFn f__law_box [] (aCons (eFn f__law_cell [] (aCons (eVar 0) (aCons (eVar 3) aNil))) aNil)) δ μ = some (.nx δ1 (μ ++ [o])) :=
    set_at (fnE (aC (fnE (aC (var_at V.v0) (aC (var_at v3) (a_nil _ _))) e1) (a_nil _ _)) e2)
  have T1 := T o ho
  obtain ⟨e, μ2, e3, g0, g1, B2, D2⟩ := take_x (i := 4) (fm := eC (.int 3)) (δ := δ1) w4 rfl T1.bx (by decide) (by decide) (by omega)
  have T2 : Two μ2 b 1 (3 * j) 0 u v := T1.drawn D2 B2
  have r : iR1 (aCons (eBin addD (eC (.int 1)) (eFn f__law_take [] (aCons (eVar 4) (aCons (eC (.int 3)) aNil)))) aNil) δ1 (μ ++ [o]) = some (rangeD 0 (1 + e.toNat), μ2) := by
    refine iR1_at ?_ (by omega)
    have q := aC (addE (fa := eC (.int 1)) rfl e3) (a_nil _ _)
    rw [q]
    have : (1 : Int) + e = ((1 + e.toNat : Nat) : Int) := by omega
    rw [this]
  obtain ⟨δ3, μ3, F, V3, w3, u', v', T3⟩ := for_cnt (J := fun i δ μ => Vs ns δ ∧ δ[4]? = some (.d (.mut b)) ∧ ∃ u v, Two μ b (1 + 9 * i) (3 * j + i) 0 u v) (i := 5) (body := turnB) (rangeD 0 (1 + e.toNat)) 0 δ1 μ2 ⟨V1, w4, u, v, T2⟩ (by
    intro d hd i δ μ _ hi ⟨V, w, u, v, T⟩
    rw [range_len] at hi
    have V5 : Vs ns (δ.set 5 (.d d)) := V.set (by omega)
    obtain ⟨s, u', v', μ', e, T'⟩ := turn_ok T (by omega) (by omega) V5.len V5.v1 V5.v2 (get_ne w (by decide))
    exact ⟨_, μ', e, V5.set (by omega), get_ne (get_ne w (by decide)) (by decide), u', v', T'.mono (by omega) (by omega)⟩)
  rw [range_len] at T3
  exact ⟨δ3, μ3, b, _, u', v', by rw [show cellB = bThen _ _ from rfl, then_nx s1]; exact for_eq r F, V3, T3.mono (Nat.le_refl _) (by omega)⟩
theorem dms (δ : List SV) (μ : List MO) : eDctMs ["last", "table"] (aCons (eC (.int 0)) (aCons (eDctM0) (aNil))) δ μ = some (.mut (μ.length + 1), μ ++ [.dct [] [], stO 0 μ.length]) := by
  have ne : (Str.ofString "last" = Str.ofString "table") = False := eq_false (by decide)
  simp [eDctMs, aCons, aNil, eThen, eC, eDctM0, mergeD, putX, ne]
abbrev u0 : Sd := ⟨0, 1, 6, 5, 0, [], []⟩
abbrev v0 : Sd := ⟨2, 3, 8, 7, 0, [], []⟩
abbrev μa : List MO := [insR 1 0, .dct [] [], insR 3 0, .dct [] [], .lst [.mut 0, .mut 2]]
abbrev μb : List MO := [insR 1 0, .dct [] [], insR 3 0, .dct [] [], .lst [.mut 0, .mut 2], .dct [] [], stO 0 5, .dct [] [], stO 0 7, .lst [.mut 6, .mut 8]]
theorem ok0 : Ok 0 0 [] [] := ⟨.nil, fun _ h => (nomatch h), rfl, Nat.le_refl _, Int.le_refl _, Int.le_refl _, fun _ h => nomatch h⟩
theorem start_two (o : MO) (ho : BagOk 0 o) : Two (μb ++ [o]) μb.length 0 (3 * 0) 0 u0 v0 :=
  ⟨rfl, rfl, ⟨⟨rfl, rfl⟩, rfl, rfl⟩, ⟨⟨rfl, rfl⟩, rfl, rfl⟩, ok0, ok0, ⟨o, rfl, ho⟩, by decide⟩
theorem law_good (ns : List Int) (hl : ns.length ≤ 63) : ∃ μ, f_law [.scr ns] [] = some (.bl true, μ) := by
  let δ0 : List SV := startD 7 [.scr ns]
  let δ1 : List SV := [.d (.scr ns), .d (.mut 4), .no, .no, .no, .no, .no]
  let δ2 : List SV := [.d (.scr ns), .d (.mut 4), .d (.mut 9), .no, .no, .no, .no]
  have s1 : bSet 1 (eMut (nLst (aCons (eFnX (mkX 4 (toX f_Roads___init__)) aNil) (aCons (eFnX (mkX 4 (toX f_Roads___init__)) aNil) aNil)))) δ0 [] = some (.nx δ1 μa) := by
    have q1 : eFnX (mkX 4 (toX f_Roads___init__)) aNil δ0 [] = some (.mut 0, [insR 1 0, .dct [] []]) := fnX (a_nil _ _) (made_ok [])
    have q2 : eFnX (mkX 4 (toX f_Roads___init__)) aNil δ0 [insR 1 0, .dct [] []] = some (.mut 2, [insR 1 0, .dct [] [], insR 3 0, .dct [] []]) := fnX (a_nil _ _) (made_ok [insR 1 0, .dct [] []])
    exact set_at (mutK (k := 4) rfl (aC q1 (aC q2 (a_nil _ _))) (by simp))
  have s2 : bSet 2 (eMut (nLst (aCons (eDctMs ["last", "table"] (aCons (eC (.int 0)) (aCons (eDctM0) (aNil)))) (aCons (eDctMs ["last", "table"] (aCons (eC (.int 0)) (aCons (eDctM0) (aNil)))) (aNil))))) δ1 μa = some (.nx δ2 μb) := by
    have q1 : eDctMs ["last", "table"] (aCons (eC (.int 0)) (aCons (eDctM0) (aNil))) δ1 μa = some (.mut 6, μa ++ [.dct [] [], stO 0 5]) := dms δ1 μa
    have q2 : eDctMs ["last", "table"] (aCons (eC (.int 0)) (aCons (eDctM0) (aNil))) δ1 (μa ++ [.dct [] [], stO 0 5]) = some (.mut 8, μa ++ [.dct [] [], stO 0 5] ++ [.dct [] [], stO 0 7]) := dms δ1 (μa ++ [.dct [] [], stO 0 5])
    exact set_at (mutK (k := 9) rfl (aC q1 (aC q2 (a_nil _ _))) (by simp))
  let L : Nat := max 3 (min 60 ns.length)
  have hL : L ≤ 60 := by omega
  have R : iR1 (aCons (eCall maxD (aCons (eC (.int 3)) (aCons (eCall minD (aCons (eC (.int 60)) (aCons (eCall lenA (aCons (eVar 0) (aNil))) (aNil)))) (aNil)))) (aNil)) δ2 μb = some (rangeD 0 L, μb) := by
    have e1 : eCall lenA (aCons (eVar 0) aNil) δ2 μb = some (.int ns.length, μb) := callE (aC (var_at (x := .scr ns) rfl) (a_nil _ _)) rfl
    have e2 : eCall minD (aCons (eC (.int 60)) (aCons (eCall lenA (aCons (eVar 0) aNil)) aNil)) δ2 μb = some (.int (min 60 ns.length : Nat), μb) := by
      have := aC (f := eC (.int 60)) (δ := δ2) (μ := μb) rfl (aC e1 (a_nil _ _))
      have z : (if (ns.length : Int) < 60 then (ns.length : Int) else 60) = ((min 60 ns.length : Nat) : Int) := by split <;> omega
      exact callE this (by simp only [minD, z])
    have e3 : eCall maxD (aCons (eC (.int 3)) (aCons (eCall minD (aCons (eC (.int 60)) (aCons (eCall lenA (aCons (eVar 0) aNil)) aNil))) aNil)) δ2 μb = some (.int (L : Nat), μb) := by
      have := aC (μ := μb) (f := eC (.int 3)) (δ := δ2) rfl (aC e2 (a_nil _ _))
      have z : (if ((min 60 ns.length : Nat) : Int) > 3 then ((min 60 ns.length : Nat) : Int) else 3) = (L : Int) := by
        show _ = ((max 3 (min 60 ns.length) : Nat) : Int)
        split <;> omega
      exact callE this (by simp only [maxD, z])
    exact iR1_at (aC e3 (a_nil _ _)) (by omega)
  obtain ⟨δ3, μ3, F, _⟩ := for_cnt (J := fun j δ μ => Vs ns δ ∧ ∃ u v, ∀ o, BagOk 0 o → Two (μ ++ [o]) μ.length 0 (3 * j) 0 u v) (i := 3) (body := cellB) (rangeD 0 L) 0 δ2 μb ⟨⟨rfl, rfl, rfl, rfl⟩, u0, v0, start_two⟩ (by
    intro d hd j δ μ _ hj ⟨V, u, v, T⟩
    rw [range_len] at hj
    obtain ⟨k, rfl, hk⟩ := mem_range hd
    obtain ⟨δ', μ', b, n, u', v', e, V', T'⟩ := cell_two hl (k := k) (by omega) (by omega) (V.set (i := 3) (s := .d (.int (k : Nat))) (by omega)) (get_set (by have := V.len; omega)) T
    exact ⟨δ', μ', e, V', u', v', fun o ho => T'.next ho⟩)
  refine ⟨μ3, run_of ?_⟩
  rw [show b_law = bThen _ (bThen _ (bThen (bFor _ (nmG 3) cellB) _)) from rfl, then_nx s1, then_nx s2, then_for R F]
  rfl
end
end Law

set_option Elab.async false
set_option linter.all false
set_option autoImplicit false
set_option maxRecDepth 100000
set_option maxHeartbeats 4000000
namespace Law
open PySem PySem.Spec PySem.Calls L2 G
theorem b_law_at {K : PySem.W.Frag} {f : Addr} {kV dc pm cd ct : Value} {an : Option Addr} (F : Fun K "law" "law" s_law f (PySem.W.fnOf "law" "law" (defArgs s_law) (defBody s_law) (defScope s_law) .none kV dc pm an cd ct)) (s : Shared) (u : Value) : BindsTo s (PySem.W.fnOf "law" "law" (defArgs s_law) (defBody s_law) (defScope s_law) .none kV dc pm an cd ct) ⟨[u], []⟩ [("script", u)] := .of_eq rfl
theorem kit_self {K : PySem.W.Frag} {C : Addr} : PySem.W.kitOne K (.ref C) (.ref C) = some true := by
  unfold PySem.W.kitOne
  rw [if_pos (beq_self_eq_true _)]
theorem kit_cls {K : PySem.W.Frag} {C D : Addr} {b : Bool} (hd : PySem.W.hasDictIn K D = true) (ht : PySem.W.typeIn K (.ref D) = some (.type "type")) (hs : PySem.W.subIn K (.ref C) (.ref D) = some b) : PySem.W.kitCls K (.ref C) (.ref D) = some b := by
  obtain ⟨cd, hc, _⟩ := PySem.W.any_some hd
  unfold PySem.W.kitCls
  simp only [hc, ht]
  exact hs
theorem kit_no {K : PySem.W.Frag} {C D : Addr} (hd : PySem.W.hasDictIn K D = true) (ht : PySem.W.typeIn K (.ref D) = some (.type "type")) (hs : PySem.W.subIn K (.ref C) (.ref D) = some false) (hc : PySem.W.subIn K (.ref C) (.ref C) = some true) : PySem.W.kitOne K (.ref C) (.ref D) = some false := by
  have hne : ¬ ((Value.ref C == Value.ref D) = true) := fun z => by
    have e := beq_iff_eq.mp z
    cases e
    rw [hc] at hs
    cases hs
  unfold PySem.W.kitOne
  rw [if_neg hne]
  exact kit_cls hd ht hs
theorem kit_yes {K : PySem.W.Frag} {C D : Addr} (hd : PySem.W.hasDictIn K D = true) (ht : PySem.W.typeIn K (.ref D) = some (.type "type")) (hs : PySem.W.subIn K (.ref C) (.ref D) = some true) : PySem.W.kitOne K (.ref C) (.ref D) = some true := by
  unfold PySem.W.kitOne
  split
  · rfl
  · exact kit_cls hd ht hs
abbrev sBaseAbsent : Stmt := inClass (top 2) 0
theorem sc_sBaseAbsent : FnScope ["self", "text"] ["self", "text"] (defScope sBaseAbsent) := ⟨rfl, rfl, rfl, by decide +kernel, rfl, by decide +kernel, by decide +kernel⟩
theorem ok_baseAbsent {P : Program} {w : World} {K : PySem.W.Frag} {mg : Str → Option Value} {base : Heap} {f : Addr} {fd : FuncData} (F : Fun K "__init__" "Absent.__init__" sBaseAbsent f fd) (hV : mg "KeyError" = none) (vV : PySem.W.findCls K (.type "KeyError") (.type "type") "__init__" = some (.val (.builtin "KeyError.__init__"))) : FnG P w K mg base 1 f fd 2 ["self", "text"] (spB K "LookupError.__new__" mroKE) :=
  initB_ok F sc_sBaseAbsent rfl rfl fun cdv A outer s H => pss_one (ps_expr (pe_beT exb_Key rfl hV rfl vV (pa_cons (pv 0) (pa_cons (pv 1) pa_nil))))
abbrev sNotOnRoad : Stmt := inClass (top 4) 0
theorem sc_sNotOnRoad : FnScope ["self", "found"] ["self", "found"] (defScope sNotOnRoad) := ⟨rfl, rfl, rfl, by decide +kernel, rfl, by decide +kernel, by decide +kernel⟩
theorem ok_sNotOnRoad {P : Program} {w : World} {K : PySem.W.Frag} {mg : Str → Option Value} {base : Heap} {f fB CB C : Addr} {fd fdB : FuncData} (F : Fun K "__init__" "NotOnRoad.__init__" sNotOnRoad f fd) (hB : mg "Absent" = some (.ref CB)) (c : CFn K CB "__init__" fB) (GB : FnG P w K mg base 1 fB fdB 2 ["self", "text"] (spB K "LookupError.__new__" mroKE)) (bB : Binds K fdB ["self", "text"] []) (T : OexB K C "LookupError.__new__" mroKE) (hno : PySem.W.findIn K (.ref C) "found" = some none) : FnG P w K mg base 2 f fd 2 ["self", "found"] (spX C "found" "not on the road") :=
  initBX_ok (CB := CB) F sc_sNotOnRoad rfl rfl T hno fun cdv A outer s H hgd hr => pss_cons (ps_expr (pe_clsfn (pe_glob rfl hB rfl) c GB hgd hr bB (pa_cons (pv 0) (pa_cons pe_str pa_nil)))) (pss_one (ps_setB exb_Key (pv 0) (pv 1)))
theorem all_mk {P : Program} {w : World} {K : PySem.W.Frag} {h : Heap} {mg : Str → Option Value} {fa : Addr} (X : K.In h) (G : h.Ns mainGlobals mg) (hfa : mg "law" = some (.ref fa))
    {C_ORoads : Addr} (a_ORoads : PySem.W.nsIn K mainGlobals "Roads" = some (some (.ref C_ORoads))) (pg_ORoads : PySem.W.plainGet K C_ORoads Str.empty = true) (hd_ORoads : PySem.W.hasDictIn K C_ORoads = true) (po_ORoads : PySem.W.plainOver K C_ORoads = true) (sa_ORoads : PySem.W.findIn K (.ref C_ORoads) "__setattr__" = some (some (.builtin "object.__setattr__"))) (mk_ORoads : PySem.W.makesIn K C_ORoads = true) (kc_ORoads : PySem.W.keepIn K (.ref C_ORoads) = true)
    (nf__last_Roads : PySem.W.findIn K (.ref C_ORoads) "_last" = some none)
    (nf__letters_Roads : PySem.W.findIn K (.ref C_ORoads) "_letters" = some none)
    {A_is_number : Addr} (a_is_number : PySem.W.nsIn K mainGlobals "is_number" = some (some (.ref A_is_number)))
    {oc_is_number kV_is_number dc_is_number pm_is_number cd_is_number ct_is_number : Value} {od_is_number an_is_number : Option Addr} {sl_is_number : Array (Option Value)}
    (l_is_number : K.lookup A_is_number = some ⟨oc_is_number, od_is_number, .func (PySem.W.fnOf "is_number" "is_number" (defArgs s_is_number) (defBody s_is_number) (defScope s_is_number) .none kV_is_number dc_is_number pm_is_number an_is_number cd_is_number ct_is_number), sl_is_number⟩) (c_is_number : PySem.W.codeIn K cd_is_number "is_number" = true) (k_is_number : PySem.W.keepIn K (.ref A_is_number) = true)
    {A_Roads___init__ : Addr} (mt_Roads___init__ : PySem.W.findIn K (.ref C_ORoads) "__init__" = some (some (.ref A_Roads___init__))) (fn_Roads___init__ : PySem.W.isFn K (.ref A_Roads___init__) = true)
    {oc_Roads___init__ kV_Roads___init__ dc_Roads___init__ pm_Roads___init__ cd_Roads___init__ ct_Roads___init__ : Value} {od_Roads___init__ an_Roads___init__ : Option Addr} {sl_Roads___init__ : Array (Option Value)}
    (l_Roads___init__ : K.lookup A_Roads___init__ = some ⟨oc_Roads___init__, od_Roads___init__, .func (PySem.W.fnOf "__init__" "Roads.__init__" (defArgs s_Roads___init__) (defBody s_Roads___init__) (defScope s_Roads___init__) .none kV_Roads___init__ dc_Roads___init__ pm_Roads___init__ an_Roads___init__ cd_Roads___init__ ct_Roads___init__), sl_Roads___init__⟩) (c_Roads___init__ : PySem.W.codeIn K cd_Roads___init__ "Roads.__init__" = true) (k_Roads___init__ : PySem.W.keepIn K (.ref A_Roads___init__) = true)
    {A_Roads___len__ : Addr} (mt_Roads___len__ : PySem.W.findIn K (.ref C_ORoads) "__len__" = some (some (.ref A_Roads___len__))) (fn_Roads___len__ : PySem.W.isFn K (.ref A_Roads___len__) = true)
    {oc_Roads___len__ kV_Roads___len__ dc_Roads___len__ pm_Roads___len__ cd_Roads___len__ ct_Roads___len__ : Value} {od_Roads___len__ an_Roads___len__ : Option Addr} {sl_Roads___len__ : Array (Option Value)}
    (l_Roads___len__ : K.lookup A_Roads___len__ = some ⟨oc_Roads___len__, od_Roads___len__, .func (PySem.W.fnOf "__len__" "Roads.__len__" (defArgs s_Roads___len__) (defBody s_Roads___len__) (defScope s_Roads___len__) .none kV_Roads___len__ dc_Roads___len__ pm_Roads___len__ an_Roads___len__ cd_Roads___len__ ct_Roads___len__), sl_Roads___len__⟩) (c_Roads___len__ : PySem.W.codeIn K cd_Roads___len__ "Roads.__len__" = true) (k_Roads___len__ : PySem.W.keepIn K (.ref A_Roads___len__) = true)
    {A_Roads_put : Addr} (mt_Roads_put : PySem.W.findIn K (.ref C_ORoads) "put" = some (some (.ref A_Roads_put))) (fn_Roads_put : PySem.W.isFn K (.ref A_Roads_put) = true)
    {oc_Roads_put kV_Roads_put dc_Roads_put pm_Roads_put cd_Roads_put ct_Roads_put : Value} {od_Roads_put an_Roads_put : Option Addr} {sl_Roads_put : Array (Option Value)}
    (l_Roads_put : K.lookup A_Roads_put = some ⟨oc_Roads_put, od_Roads_put, .func (PySem.W.fnOf "put" "Roads.put" (defArgs s_Roads_put) (defBody s_Roads_put) (defScope s_Roads_put) .none kV_Roads_put dc_Roads_put pm_Roads_put an_Roads_put cd_Roads_put ct_Roads_put), sl_Roads_put⟩) (c_Roads_put : PySem.W.codeIn K cd_Roads_put "Roads.put" = true) (k_Roads_put : PySem.W.keepIn K (.ref A_Roads_put) = true)
    {A_Roads_numbers : Addr} (mt_Roads_numbers : PySem.W.findIn K (.ref C_ORoads) "numbers" = some (some (.ref A_Roads_numbers))) (fn_Roads_numbers : PySem.W.isFn K (.ref A_Roads_numbers) = true)
    {oc_Roads_numbers kV_Roads_numbers dc_Roads_numbers pm_Roads_numbers cd_Roads_numbers ct_Roads_numbers : Value} {od_Roads_numbers an_Roads_numbers : Option Addr} {sl_Roads_numbers : Array (Option Value)}
    (l_Roads_numbers : K.lookup A_Roads_numbers = some ⟨oc_Roads_numbers, od_Roads_numbers, .func (PySem.W.fnOf "numbers" "Roads.numbers" (defArgs s_Roads_numbers) (defBody s_Roads_numbers) (defScope s_Roads_numbers) .none kV_Roads_numbers dc_Roads_numbers pm_Roads_numbers an_Roads_numbers cd_Roads_numbers ct_Roads_numbers), sl_Roads_numbers⟩) (c_Roads_numbers : PySem.W.codeIn K cd_Roads_numbers "Roads.numbers" = true) (k_Roads_numbers : PySem.W.keepIn K (.ref A_Roads_numbers) = true)
    {A__law_cell : Addr} (a__law_cell : PySem.W.nsIn K mainGlobals "_law_cell" = some (some (.ref A__law_cell)))
    {oc__law_cell kV__law_cell dc__law_cell pm__law_cell cd__law_cell ct__law_cell : Value} {od__law_cell an__law_cell : Option Addr} {sl__law_cell : Array (Option Value)}
    (l__law_cell : K.lookup A__law_cell = some ⟨oc__law_cell, od__law_cell, .func (PySem.W.fnOf "_law_cell" "_law_cell" (defArgs s__law_cell) (defBody s__law_cell) (defScope s__law_cell) .none kV__law_cell dc__law_cell pm__law_cell an__law_cell cd__law_cell ct__law_cell), sl__law_cell⟩) (c__law_cell : PySem.W.codeIn K cd__law_cell "_law_cell" = true) (k__law_cell : PySem.W.keepIn K (.ref A__law_cell) = true)
    {A__law_box : Addr} (a__law_box : PySem.W.nsIn K mainGlobals "_law_box" = some (some (.ref A__law_box)))
    {oc__law_box kV__law_box dc__law_box pm__law_box cd__law_box ct__law_box : Value} {od__law_box an__law_box : Option Addr} {sl__law_box : Array (Option Value)}
    (l__law_box : K.lookup A__law_box = some ⟨oc__law_box, od__law_box, .func (PySem.W.fnOf "_law_box" "_law_box" (defArgs s__law_box) (defBody s__law_box) (defScope s__law_box) .none kV__law_box dc__law_box pm__law_box an__law_box cd__law_box ct__law_box), sl__law_box⟩) (c__law_box : PySem.W.codeIn K cd__law_box "_law_box" = true) (k__law_box : PySem.W.keepIn K (.ref A__law_box) = true)
    {A__law_take : Addr} (a__law_take : PySem.W.nsIn K mainGlobals "_law_take" = some (some (.ref A__law_take)))
    {oc__law_take kV__law_take dc__law_take pm__law_take cd__law_take ct__law_take : Value} {od__law_take an__law_take : Option Addr} {sl__law_take : Array (Option Value)}
    (l__law_take : K.lookup A__law_take = some ⟨oc__law_take, od__law_take, .func (PySem.W.fnOf "_law_take" "_law_take" (defArgs s__law_take) (defBody s__law_take) (defScope s__law_take) .none kV__law_take dc__law_take pm__law_take an__law_take cd__law_take ct__law_take), sl__law_take⟩) (c__law_take : PySem.W.codeIn K cd__law_take "_law_take" = true) (k__law_take : PySem.W.keepIn K (.ref A__law_take) = true)
    {A__law_is_there : Addr} (a__law_is_there : PySem.W.nsIn K mainGlobals "_law_is_there" = some (some (.ref A__law_is_there)))
    {oc__law_is_there kV__law_is_there dc__law_is_there pm__law_is_there cd__law_is_there ct__law_is_there : Value} {od__law_is_there an__law_is_there : Option Addr} {sl__law_is_there : Array (Option Value)}
    (l__law_is_there : K.lookup A__law_is_there = some ⟨oc__law_is_there, od__law_is_there, .func (PySem.W.fnOf "_law_is_there" "_law_is_there" (defArgs s__law_is_there) (defBody s__law_is_there) (defScope s__law_is_there) .none kV__law_is_there dc__law_is_there pm__law_is_there an__law_is_there cd__law_is_there ct__law_is_there), sl__law_is_there⟩) (c__law_is_there : PySem.W.codeIn K cd__law_is_there "_law_is_there" = true) (k__law_is_there : PySem.W.keepIn K (.ref A__law_is_there) = true)
    {A__law_letter : Addr} (a__law_letter : PySem.W.nsIn K mainGlobals "_law_letter" = some (some (.ref A__law_letter)))
    {oc__law_letter kV__law_letter dc__law_letter pm__law_letter cd__law_letter ct__law_letter : Value} {od__law_letter an__law_letter : Option Addr} {sl__law_letter : Array (Option Value)}
    (l__law_letter : K.lookup A__law_letter = some ⟨oc__law_letter, od__law_letter, .func (PySem.W.fnOf "_law_letter" "_law_letter" (defArgs s__law_letter) (defBody s__law_letter) (defScope s__law_letter) .none kV__law_letter dc__law_letter pm__law_letter an__law_letter cd__law_letter ct__law_letter), sl__law_letter⟩) (c__law_letter : PySem.W.codeIn K cd__law_letter "_law_letter" = true) (k__law_letter : PySem.W.keepIn K (.ref A__law_letter) = true)
    {A__law_number : Addr} (a__law_number : PySem.W.nsIn K mainGlobals "_law_number" = some (some (.ref A__law_number)))
    {oc__law_number kV__law_number dc__law_number pm__law_number cd__law_number ct__law_number : Value} {od__law_number an__law_number : Option Addr} {sl__law_number : Array (Option Value)}
    (l__law_number : K.lookup A__law_number = some ⟨oc__law_number, od__law_number, .func (PySem.W.fnOf "_law_number" "_law_number" (defArgs s__law_number) (defBody s__law_number) (defScope s__law_number) .none kV__law_number dc__law_number pm__law_number an__law_number cd__law_number ct__law_number), sl__law_number⟩) (c__law_number : PySem.W.codeIn K cd__law_number "_law_number" = true) (k__law_number : PySem.W.keepIn K (.ref A__law_number) = true)
    {A_Roads_copied : Addr} (mt_Roads_copied : PySem.W.findIn K (.ref C_ORoads) "copied" = some (some (.ref A_Roads_copied))) (fn_Roads_copied : PySem.W.isFn K (.ref A_Roads_copied) = true)
    {oc_Roads_copied kV_Roads_copied dc_Roads_copied pm_Roads_copied cd_Roads_copied ct_Roads_copied : Value} {od_Roads_copied an_Roads_copied : Option Addr} {sl_Roads_copied : Array (Option Value)}
    (l_Roads_copied : K.lookup A_Roads_copied = some ⟨oc_Roads_copied, od_Roads_copied, .func (PySem.W.fnOf "copied" "Roads.copied" (defArgs s_Roads_copied) (defBody s_Roads_copied) (defScope s_Roads_copied) .none kV_Roads_copied dc_Roads_copied pm_Roads_copied an_Roads_copied cd_Roads_copied ct_Roads_copied), sl_Roads_copied⟩) (c_Roads_copied : PySem.W.codeIn K cd_Roads_copied "Roads.copied" = true) (k_Roads_copied : PySem.W.keepIn K (.ref A_Roads_copied) = true)
    {A_Roads_letter : Addr} (mt_Roads_letter : PySem.W.findIn K (.ref C_ORoads) "letter" = some (some (.ref A_Roads_letter))) (fn_Roads_letter : PySem.W.isFn K (.ref A_Roads_letter) = true)
    {oc_Roads_letter kV_Roads_letter dc_Roads_letter pm_Roads_letter cd_Roads_letter ct_Roads_letter : Value} {od_Roads_letter an_Roads_letter : Option Addr} {sl_Roads_letter : Array (Option Value)}
    (l_Roads_letter : K.lookup A_Roads_letter = some ⟨oc_Roads_letter, od_Roads_letter, .func (PySem.W.fnOf "letter" "Roads.letter" (defArgs s_Roads_letter) (defBody s_Roads_letter) (defScope s_Roads_letter) .none kV_Roads_letter dc_Roads_letter pm_Roads_letter an_Roads_letter cd_Roads_letter ct_Roads_letter), sl_Roads_letter⟩) (c_Roads_letter : PySem.W.codeIn K cd_Roads_letter "Roads.letter" = true) (k_Roads_letter : PySem.W.keepIn K (.ref A_Roads_letter) = true)
    {A_Roads_take_off : Addr} (mt_Roads_take_off : PySem.W.findIn K (.ref C_ORoads) "take_off" = some (some (.ref A_Roads_take_off))) (fn_Roads_take_off : PySem.W.isFn K (.ref A_Roads_take_off) = true)
    {oc_Roads_take_off kV_Roads_take_off dc_Roads_take_off pm_Roads_take_off cd_Roads_take_off ct_Roads_take_off : Value} {od_Roads_take_off an_Roads_take_off : Option Addr} {sl_Roads_take_off : Array (Option Value)}
    (l_Roads_take_off : K.lookup A_Roads_take_off = some ⟨oc_Roads_take_off, od_Roads_take_off, .func (PySem.W.fnOf "take_off" "Roads.take_off" (defArgs s_Roads_take_off) (defBody s_Roads_take_off) (defScope s_Roads_take_off) .none kV_Roads_take_off dc_Roads_take_off pm_Roads_take_off an_Roads_take_off cd_Roads_take_off ct_Roads_take_off), sl_Roads_take_off⟩) (c_Roads_take_off : PySem.W.codeIn K cd_Roads_take_off "Roads.take_off" = true) (k_Roads_take_off : PySem.W.keepIn K (.ref A_Roads_take_off) = true)
    {A_Roads_doubled : Addr} (mt_Roads_doubled : PySem.W.findIn K (.ref C_ORoads) "doubled" = some (some (.ref A_Roads_doubled))) (fn_Roads_doubled : PySem.W.isFn K (.ref A_Roads_doubled) = true)
    {oc_Roads_doubled kV_Roads_doubled dc_Roads_doubled pm_Roads_doubled cd_Roads_doubled ct_Roads_doubled : Value} {od_Roads_doubled an_Roads_doubled : Option Addr} {sl_Roads_doubled : Array (Option Value)}
    (l_Roads_doubled : K.lookup A_Roads_doubled = some ⟨oc_Roads_doubled, od_Roads_doubled, .func (PySem.W.fnOf "doubled" "Roads.doubled" (defArgs s_Roads_doubled) (defBody s_Roads_doubled) (defScope s_Roads_doubled) .none kV_Roads_doubled dc_Roads_doubled pm_Roads_doubled an_Roads_doubled cd_Roads_doubled ct_Roads_doubled), sl_Roads_doubled⟩) (c_Roads_doubled : PySem.W.codeIn K cd_Roads_doubled "Roads.doubled" = true) (k_Roads_doubled : PySem.W.keepIn K (.ref A_Roads_doubled) = true)
    {A__law_right : Addr} (a__law_right : PySem.W.nsIn K mainGlobals "_law_right" = some (some (.ref A__law_right)))
    {oc__law_right kV__law_right dc__law_right pm__law_right cd__law_right ct__law_right : Value} {od__law_right an__law_right : Option Addr} {sl__law_right : Array (Option Value)}
    (l__law_right : K.lookup A__law_right = some ⟨oc__law_right, od__law_right, .func (PySem.W.fnOf "_law_right" "_law_right" (defArgs s__law_right) (defBody s__law_right) (defScope s__law_right) .none kV__law_right dc__law_right pm__law_right an__law_right cd__law_right ct__law_right), sl__law_right⟩) (c__law_right : PySem.W.codeIn K cd__law_right "_law_right" = true) (k__law_right : PySem.W.keepIn K (.ref A__law_right) = true)
    {A__law_asked : Addr} (a__law_asked : PySem.W.nsIn K mainGlobals "_law_asked" = some (some (.ref A__law_asked)))
    {oc__law_asked kV__law_asked dc__law_asked pm__law_asked cd__law_asked ct__law_asked : Value} {od__law_asked an__law_asked : Option Addr} {sl__law_asked : Array (Option Value)}
    (l__law_asked : K.lookup A__law_asked = some ⟨oc__law_asked, od__law_asked, .func (PySem.W.fnOf "_law_asked" "_law_asked" (defArgs s__law_asked) (defBody s__law_asked) (defScope s__law_asked) .none kV__law_asked dc__law_asked pm__law_asked an__law_asked cd__law_asked ct__law_asked), sl__law_asked⟩) (c__law_asked : PySem.W.codeIn K cd__law_asked "_law_asked" = true) (k__law_asked : PySem.W.keepIn K (.ref A__law_asked) = true)
    {A__law_caught : Addr} (a__law_caught : PySem.W.nsIn K mainGlobals "_law_caught" = some (some (.ref A__law_caught)))
    {oc__law_caught kV__law_caught dc__law_caught pm__law_caught cd__law_caught ct__law_caught : Value} {od__law_caught an__law_caught : Option Addr} {sl__law_caught : Array (Option Value)}
    (l__law_caught : K.lookup A__law_caught = some ⟨oc__law_caught, od__law_caught, .func (PySem.W.fnOf "_law_caught" "_law_caught" (defArgs s__law_caught) (defBody s__law_caught) (defScope s__law_caught) .none kV__law_caught dc__law_caught pm__law_caught an__law_caught cd__law_caught ct__law_caught), sl__law_caught⟩) (c__law_caught : PySem.W.codeIn K cd__law_caught "_law_caught" = true) (k__law_caught : PySem.W.keepIn K (.ref A__law_caught) = true)
    {A__law_deed : Addr} (a__law_deed : PySem.W.nsIn K mainGlobals "_law_deed" = some (some (.ref A__law_deed)))
    {oc__law_deed kV__law_deed dc__law_deed pm__law_deed cd__law_deed ct__law_deed : Value} {od__law_deed an__law_deed : Option Addr} {sl__law_deed : Array (Option Value)}
    (l__law_deed : K.lookup A__law_deed = some ⟨oc__law_deed, od__law_deed, .func (PySem.W.fnOf "_law_deed" "_law_deed" (defArgs s__law_deed) (defBody s__law_deed) (defScope s__law_deed) .none kV__law_deed dc__law_deed pm__law_deed an__law_deed cd__law_deed ct__law_deed), sl__law_deed⟩) (c__law_deed : PySem.W.codeIn K cd__law_deed "_law_deed" = true) (k__law_deed : PySem.W.keepIn K (.ref A__law_deed) = true)
    {A_law : Addr} (a_law : PySem.W.nsIn K mainGlobals "law" = some (some (.ref A_law)))
    {oc_law kV_law dc_law pm_law cd_law ct_law : Value} {od_law an_law : Option Addr} {sl_law : Array (Option Value)}
    (l_law : K.lookup A_law = some ⟨oc_law, od_law, .func (PySem.W.fnOf "law" "law" (defArgs s_law) (defBody s_law) (defScope s_law) .none kV_law dc_law pm_law an_law cd_law ct_law), sl_law⟩) (c_law : PySem.W.codeIn K cd_law "law" = true) (k_law : PySem.W.keepIn K (.ref A_law) = true)
    (z_bool : PySem.W.nsIn K mainGlobals "bool" = some none)
    (z_dict : PySem.W.nsIn K mainGlobals "dict" = some none)
    (z_int : PySem.W.nsIn K mainGlobals "int" = some none)
    (z_isinstance : PySem.W.nsIn K mainGlobals "isinstance" = some none)
    (z_len : PySem.W.nsIn K mainGlobals "len" = some none)
    (z_list : PySem.W.nsIn K mainGlobals "list" = some none)
    (z_max : PySem.W.nsIn K mainGlobals "max" = some none)
    (z_min : PySem.W.nsIn K mainGlobals "min" = some none)
    (z_range : PySem.W.nsIn K mainGlobals "range" = some none)
    (z_repr : PySem.W.nsIn K mainGlobals "repr" = some none)
    (z_sorted : PySem.W.nsIn K mainGlobals "sorted" = some none)
    {C_PAbsent A_PAbsent : Addr} (a_PAbsent : PySem.W.nsIn K mainGlobals "Absent" = some (some (.ref C_PAbsent)))
    {oc_PAbsent kV_PAbsent dc_PAbsent pm_PAbsent cd_PAbsent ct_PAbsent : Value} {od_PAbsent an_PAbsent : Option Addr} {sl_PAbsent : Array (Option Value)}
    (l_PAbsent : K.lookup A_PAbsent = some ⟨oc_PAbsent, od_PAbsent, .func (PySem.W.fnOf "__init__" "Absent.__init__" (defArgs sBaseAbsent) (defBody sBaseAbsent) (defScope sBaseAbsent) .none kV_PAbsent dc_PAbsent pm_PAbsent an_PAbsent cd_PAbsent ct_PAbsent), sl_PAbsent⟩) (c_PAbsent : PySem.W.codeIn K cd_PAbsent "Absent.__init__" = true) (k_PAbsent : PySem.W.keepIn K (.ref A_PAbsent) = true)
    (g_PAbsent : PySem.W.specialIn K (.ref C_PAbsent) "__getattribute__" = some (some (.builtin "type.__getattribute__"))) (d_PAbsent : PySem.W.readsIn K C_PAbsent (.type "type") = true) (f_PAbsent : PySem.W.findCls K (.ref C_PAbsent) (.type "type") "__init__" = some (.val (.ref A_PAbsent)))
    (z_KeyError : PySem.W.nsIn K mainGlobals "KeyError" = some none) (f_KeyError : PySem.W.findCls K (.type "KeyError") (.type "type") "__init__" = some (.val (.builtin "KeyError.__init__")))
    (ex_PAbsent : PySem.W.subIn K (.ref C_PAbsent) (.type "BaseException") = some true) (ty_PAbsent : PySem.W.typeIn K (.ref C_PAbsent) = some (.type "type")) (hd_PAbsent : PySem.W.hasDictIn K C_PAbsent = true)
    {C_K1 : Addr} (a_K1 : PySem.W.nsIn K mainGlobals "PeerError" = some (some (.ref C_K1))) (ex_K1 : PySem.W.subIn K (.ref C_K1) (.type "BaseException") = some true) (ty_K1 : PySem.W.typeIn K (.ref C_K1) = some (.type "type")) (hd_K1 : PySem.W.hasDictIn K C_K1 = true)
    {C_K3 : Addr} (a_K3 : PySem.W.nsIn K mainGlobals "Barred" = some (some (.ref C_K3))) (ex_K3 : PySem.W.subIn K (.ref C_K3) (.type "BaseException") = some true) (ty_K3 : PySem.W.typeIn K (.ref C_K3) = some (.type "type")) (hd_K3 : PySem.W.hasDictIn K C_K3 = true)
    {A_X0 : Addr}
    {C_X0 N_X0 : Addr} {q_X0 : Str} {bs_X0 bm_X0 sub_X0 : List Value} {sn_X0 : List Str} {ab_X0 : Bool} {col_X0 : Option Bool} {dd_X0 : Option Addr} {m0_X0 m1_X0 m2_X0 m3_X0 m5_X0 : Option Value}
    (a_X0 : PySem.W.nsIn K mainGlobals "NotOnRoad" = some (some (.ref C_X0)))
    (x_X0 : K.lookup C_X0 = some (excClassObj "NotOnRoad" q_X0 C_X0 N_X0 bs_X0 bm_X0 true sn_X0 sub_X0 ab_X0 col_X0 dd_X0 m0_X0 m1_X0 m2_X0 m3_X0 m5_X0 "LookupError.__new__")) (r_X0 : refsB mroKE bm_X0 = true)
    (i_X0 : PySem.W.findIn K (.ref C_X0) "__init__" = some (some (.ref A_X0))) (ti_X0 : PySem.W.typeIn K (.ref A_X0) = some (.type "function"))
    {oc_X0 kV_X0 dc_X0 pm_X0 cd_X0 ct_X0 : Value} {od_X0 an_X0 : Option Addr} {sl_X0 : Array (Option Value)}
    (l_X0 : K.lookup A_X0 = some ⟨oc_X0, od_X0, .func (PySem.W.fnOf "__init__" "NotOnRoad.__init__" (defArgs sNotOnRoad) (defBody sNotOnRoad) (defScope sNotOnRoad) .none kV_X0 dc_X0 pm_X0 an_X0 cd_X0 ct_X0), sl_X0⟩) (c_X0 : PySem.W.codeIn K cd_X0 "NotOnRoad.__init__" = true) (k_X0 : PySem.W.keepIn K (.ref A_X0) = true)
    (sa_X0 : PySem.W.findIn K (.ref C_X0) "__setattr__" = some (some (.builtin "object.__setattr__"))) (ex_X0 : PySem.W.subIn K (.ref C_X0) (.type "BaseException") = some true) (ty_X0 : PySem.W.typeIn K (.ref C_X0) = some (.type "type")) (kc_X0 : PySem.W.keepIn K (.ref C_X0) = true) (no_X0 : PySem.W.findIn K (.ref C_X0) "found" = some none) (hg_X0 : PySem.W.findIn K (.ref C_X0) "__getattribute__" = some (some (.builtin "BaseException.__getattribute__"))) (hk_X0 : PySem.W.findIn K (.ref C_X0) "__getattr__" = some none) (hd_X0 : PySem.W.hasDictIn K C_X0 = true) (ha_X0 : PySem.W.findIn K (.ref C_X0) "__class__" = some (some (.builtin "object.__class__"))) (hm_X0 : PySem.W.mroIn K C_X0 (.type "object") = some true)
    (hn : PySem.W.specialIn K (.builtin "object.__class__") "__get__" = some (some (.builtin "getset_descriptor.__get__"))) (ht : PySem.W.takesIn K (.builtin "object.__class__") = some true)
    (sb_0_0 : PySem.W.subIn K (.ref C_X0) (.ref C_X0) = some true)
    (sb_0_1 : PySem.W.subIn K (.ref C_X0) (.ref C_K1) = some false)
    (sb_0_2 : PySem.W.subIn K (.ref C_X0) (.ref C_PAbsent) = some true)
    (sb_0_3 : PySem.W.subIn K (.ref C_X0) (.ref C_K3) = some false)
    : ∃ (fd : FuncData) (cl : Nat → Addr), (∀ (s : Shared) (u : Value), BindsTo s fd ⟨[u], []⟩ [("script", u)]) ∧ ∀ base : Heap, K.In base → base.Ns mainGlobals mg → FnG P w K mg base 9 fa fd 1 ["script"] (spF (gk K cl) 1 f_law) := by
  have e := hfa.symm.trans (PySem.W.mg_of X G a_law)
  cases e
  let cl : Nat → Addr := fun n => match n with | 0 => C_X0 | 1 => C_K1 | 2 => C_PAbsent | 3 => C_K3 | _ => C_ORoads
  have O_X0 : OexB K C_X0 "LookupError.__new__" mroKE := ⟨⟨_, _, _, _, _, _, _, _, _, _, _, _, _, _, _, x_X0, r_X0⟩, sa_X0, ex_X0, ty_X0, kc_X0⟩
  have E_X0 : L2.ExcC K C_X0 := ⟨hg_X0, hk_X0, ex_X0, hd_X0, ha_X0, hn, ht, hm_X0⟩
  have V_X0 : XfC K C_X0 := ⟨hg_X0, hk_X0, ex_X0, hd_X0⟩
  have Y_Roads : Cls K C_ORoads := ⟨pg_ORoads, hd_ORoads, po_ORoads, sa_ORoads⟩
  have T : Txt K mg cl := {
    x_nm := fun C n e => by cases e
    x_exm := fun j C b e => by
      refine pairT_ok (R := fun C j b => PySem.W.exmOne K (.ref (cl C)) (.ref (cl j)) = some b) (fun p hp => by
        simp only [List.mem_cons, List.mem_nil_iff, or_false] at hp
        rcases hp with rfl | rfl
        · exact PySem.W.exm_ref ex_PAbsent hd_PAbsent ty_PAbsent sb_0_2
        · exact PySem.W.exm_ref ex_X0 hd_X0 ty_X0 sb_0_0) (fun p hp => by
        simp only [List.mem_cons, List.mem_nil_iff, or_false] at hp
        rcases hp with rfl | rfl
        · exact PySem.W.exm_ref ex_K3 hd_K3 ty_K3 sb_0_3
        · exact PySem.W.exm_ref ex_K1 hd_K1 ty_K1 sb_0_1) e
    x_is := fun C n b e => by
      refine pairT_ok (R := fun C n b => L2.ExcC K (cl C) ∧ PySem.W.kitOne K (.ref (cl C)) (.ref (cl n)) = some b) (fun p hp => (List.not_mem_nil hp).elim) (fun p hp => (List.not_mem_nil hp).elim) e
    x_fld_found := fun C e => by
      simp only [exFl_found, List.mem_cons, List.mem_nil_iff, or_false, decide_eq_true_eq] at e
      rcases e with rfl
      · exact ⟨V_X0, no_X0⟩
    i_fld__last := fun C e => by
      simp only [clFl__last, List.mem_cons, List.mem_nil_iff, or_false, decide_eq_true_eq] at e
      subst e
      · exact ⟨Y_Roads, nf__last_Roads⟩
    i_fld__letters := fun C e => by
      simp only [clFl__letters, List.mem_cons, List.mem_nil_iff, or_false, decide_eq_true_eq] at e
      subst e
      · exact ⟨Y_Roads, nf__letters_Roads⟩
    m_Absent := PySem.W.mg_of X G a_PAbsent
    m_Barred := PySem.W.mg_of X G a_K3
    m_NotOnRoad := PySem.W.mg_of X G a_X0
    m_PeerError := PySem.W.mg_of X G a_K1
    n_bool := PySem.W.mg_none_of X G z_bool
    n_dict := PySem.W.mg_none_of X G z_dict
    n_int := PySem.W.mg_none_of X G z_int
    n_isinstance := PySem.W.mg_none_of X G z_isinstance
    n_len := PySem.W.mg_none_of X G z_len
    n_list := PySem.W.mg_none_of X G z_list
    n_max := PySem.W.mg_none_of X G z_max
    n_min := PySem.W.mg_none_of X G z_min
    n_range := PySem.W.mg_none_of X G z_range
    n_repr := PySem.W.mg_none_of X G z_repr
    n_sorted := PySem.W.mg_none_of X G z_sorted }
  have F_is_number := fun_mk (st := s_is_number) l_is_number c_is_number k_is_number
  have b_is_number := F_is_number.binds (ps := ["thing"]) fun _ _ _ _ _ _ us hl => match us, hl with | [_], _ => rfl
  have F_Roads___init__ := fun_mk (st := s_Roads___init__) l_Roads___init__ c_Roads___init__ k_Roads___init__
  have b_Roads___init__ := F_Roads___init__.binds (ps := ["self"]) fun _ _ _ _ _ _ us hl => match us, hl with | [_], _ => rfl
  have F_Roads___len__ := fun_mk (st := s_Roads___len__) l_Roads___len__ c_Roads___len__ k_Roads___len__
  have b_Roads___len__ := F_Roads___len__.binds (ps := ["self"]) fun _ _ _ _ _ _ us hl => match us, hl with | [_], _ => rfl
  have F_Roads_put := fun_mk (st := s_Roads_put) l_Roads_put c_Roads_put k_Roads_put
  have b_Roads_put := F_Roads_put.binds (ps := ["self", "letter"]) fun _ _ _ _ _ _ us hl => match us, hl with | [_, _], _ => rfl
  have F_Roads_numbers := fun_mk (st := s_Roads_numbers) l_Roads_numbers c_Roads_numbers k_Roads_numbers
  have b_Roads_numbers := F_Roads_numbers.binds (ps := ["self"]) fun _ _ _ _ _ _ us hl => match us, hl with | [_], _ => rfl
  have F__law_cell := fun_mk (st := s__law_cell) l__law_cell c__law_cell k__law_cell
  have b__law_cell := F__law_cell.binds (ps := ["script", "k"]) fun _ _ _ _ _ _ us hl => match us, hl with | [_, _], _ => rfl
  have F__law_box := fun_mk (st := s__law_box) l__law_box c__law_box k__law_box
  have b__law_box := F__law_box.binds (ps := ["cell"]) fun _ _ _ _ _ _ us hl => match us, hl with | [_], _ => rfl
  have F__law_take := fun_mk (st := s__law_take) l__law_take c__law_take k__law_take
  have b__law_take := F__law_take.binds (ps := ["box", "many"]) fun _ _ _ _ _ _ us hl => match us, hl with | [_, _], _ => rfl
  have F__law_is_there := fun_mk (st := s__law_is_there) l__law_is_there c__law_is_there k__law_is_there
  have b__law_is_there := F__law_is_there.binds (ps := ["table", "thing"]) fun _ _ _ _ _ _ us hl => match us, hl with | [_, _], _ => rfl
  have F__law_letter := fun_mk (st := s__law_letter) l__law_letter c__law_letter k__law_letter
  have b__law_letter := F__law_letter.binds (ps := ["box"]) fun _ _ _ _ _ _ us hl => match us, hl with | [_], _ => rfl
  have F__law_number := fun_mk (st := s__law_number) l__law_number c__law_number k__law_number
  have b__law_number := F__law_number.binds (ps := ["box", "table", "last"]) fun _ _ _ _ _ _ us hl => match us, hl with | [_, _, _], _ => rfl
  have F_Roads_copied := fun_mk (st := s_Roads_copied) l_Roads_copied c_Roads_copied k_Roads_copied
  have b_Roads_copied := F_Roads_copied.binds (ps := ["self"]) fun _ _ _ _ _ _ us hl => match us, hl with | [_], _ => rfl
  have F_Roads_letter := fun_mk (st := s_Roads_letter) l_Roads_letter c_Roads_letter k_Roads_letter
  have b_Roads_letter := F_Roads_letter.binds (ps := ["self", "number"]) fun _ _ _ _ _ _ us hl => match us, hl with | [_, _], _ => rfl
  have F_Roads_take_off := fun_mk (st := s_Roads_take_off) l_Roads_take_off c_Roads_take_off k_Roads_take_off
  have b_Roads_take_off := F_Roads_take_off.binds (ps := ["self", "number"]) fun _ _ _ _ _ _ us hl => match us, hl with | [_, _], _ => rfl
  have F_Roads_doubled := fun_mk (st := s_Roads_doubled) l_Roads_doubled c_Roads_doubled k_Roads_doubled
  have b_Roads_doubled := F_Roads_doubled.binds (ps := ["self", "number"]) fun _ _ _ _ _ _ us hl => match us, hl with | [_, _], _ => rfl
  have F__law_right := fun_mk (st := s__law_right) l__law_right c__law_right k__law_right
  have b__law_right := F__law_right.binds (ps := ["roads", "state"]) fun _ _ _ _ _ _ us hl => match us, hl with | [_, _], _ => rfl
  have F__law_asked := fun_mk (st := s__law_asked) l__law_asked c__law_asked k__law_asked
  have b__law_asked := F__law_asked.binds (ps := ["roads", "way", "thing"]) fun _ _ _ _ _ _ us hl => match us, hl with | [_, _, _], _ => rfl
  have F__law_caught := fun_mk (st := s__law_caught) l__law_caught c__law_caught k__law_caught
  have b__law_caught := F__law_caught.binds (ps := ["roads", "way", "thing"]) fun _ _ _ _ _ _ us hl => match us, hl with | [_, _, _], _ => rfl
  have F__law_deed := fun_mk (st := s__law_deed) l__law_deed c__law_deed k__law_deed
  have b__law_deed := F__law_deed.binds (ps := ["box", "roads", "state"]) fun _ _ _ _ _ _ us hl => match us, hl with | [_, _, _], _ => rfl
  have F_law := fun_mk (st := s_law) l_law c_law k_law
  have b_law := F_law.binds (ps := ["script"]) fun _ _ _ _ _ _ us hl => match us, hl with | [_], _ => rfl
  have F_PAbsent := fun_mk (st := sBaseAbsent) l_PAbsent c_PAbsent k_PAbsent
  have b_PAbsent := F_PAbsent.binds (ps := ["self", "text"]) fun _ _ _ _ _ _ us hl => match us, hl with | [_, _], _ => rfl
  have F_X0 := fun_mk (st := sNotOnRoad) l_X0 c_X0 k_X0
  have b_X0 := F_X0.binds (ps := ["self", "found"]) fun _ _ _ _ _ _ us hl => match us, hl with | [_, _], _ => rfl
  refine ⟨_, cl, fun s u => b_law_at F_law s u, fun base _ _ => ?_⟩
  have G_PAbsent : FnG P w K mg base 1 A_PAbsent _ 2 ["self", "text"] (spB K "LookupError.__new__" mroKE) := ok_baseAbsent F_PAbsent (PySem.W.mg_none_of X G z_KeyError) f_KeyError
  have H_NotOnRoad : HasXB P w K mg base cl 0 "NotOnRoad" "found" "not on the road" := { B := "KeyError", initId := "KeyError.__init__", N := _, newId := "LookupError.__new__", nInit := _, bmN := _, bmB := mroKE, eb := exb_Key, f := A_X0, fd := _, oex := O_X0, ini := i_X0, ti := ti_X0, ps := _, ok := ok_sNotOnRoad F_X0 (PySem.W.mg_of X G a_PAbsent) ⟨g_PAbsent, d_PAbsent, f_PAbsent, k_PAbsent⟩ G_PAbsent b_PAbsent O_X0 no_X0, bd := b_X0, mg := PySem.W.mg_of X G a_X0 }
  have H_is_number : HasF P w K mg base cl 1 "is_number" 1 ["thing"] f_is_number := { f := A_is_number, fd := _, ok := ok_is_number T  F_is_number, mg := PySem.W.mg_of X G a_is_number, kp := k_is_number, bd := b_is_number }
  have HC_Roads : HasC P w K mg base cl 1 4 "Roads" 0 ["self"] (toX f_Roads___init__) := { f := A_Roads___init__, fd := _, ok := (ok_Roads___init__ T  F_Roads___init__).toX, mkk := ⟨mk_ORoads, mt_Roads___init__, fn_Roads___init__, kc_ORoads⟩, mg := PySem.W.mg_of X G a_ORoads, bd := b_Roads___init__ }
  have HD_Roads___len__ : HasD P w K mg base cl 1 4 "__len__" 1 ["self"] f_Roads___len__ := { f := A_Roads___len__, fd := _, ok := ok_Roads___len__ T  F_Roads___len__, mt := ⟨mt_Roads___len__, fn_Roads___len__, k_Roads___len__⟩, bd := b_Roads___len__ }
  have HM_Roads_put : HasM P w K mg base cl 1 4 "put" 2 ["self", "letter"] (toX f_Roads_put) := { f := A_Roads_put, fd := _, ok := (ok_Roads_put T  F_Roads_put).toX, cls := Y_Roads, mt := ⟨mt_Roads_put, fn_Roads_put, k_Roads_put⟩, bd := b_Roads_put }
  have HM_Roads_numbers : HasM P w K mg base cl 1 4 "numbers" 1 ["self"] (toX f_Roads_numbers) := { f := A_Roads_numbers, fd := _, ok := (ok_Roads_numbers T  F_Roads_numbers).toX, cls := Y_Roads, mt := ⟨mt_Roads_numbers, fn_Roads_numbers, k_Roads_numbers⟩, bd := b_Roads_numbers }
  have H__law_cell : HasF P w K mg base cl 1 "_law_cell" 2 ["script", "k"] f__law_cell := { f := A__law_cell, fd := _, ok := ok__law_cell T  F__law_cell, mg := PySem.W.mg_of X G a__law_cell, kp := k__law_cell, bd := b__law_cell }
  have H__law_box : HasF P w K mg base cl 1 "_law_box" 1 ["cell"] f__law_box := { f := A__law_box, fd := _, ok := ok__law_box T  F__law_box, mg := PySem.W.mg_of X G a__law_box, kp := k__law_box, bd := b__law_box }
  have H__law_take : HasF P w K mg base cl 1 "_law_take" 2 ["box", "many"] f__law_take := { f := A__law_take, fd := _, ok := ok__law_take T  F__law_take, mg := PySem.W.mg_of X G a__law_take, kp := k__law_take, bd := b__law_take }
  have H__law_is_there : HasF P w K mg base cl 1 "_law_is_there" 2 ["table", "thing"] f__law_is_there := { f := A__law_is_there, fd := _, ok := ok__law_is_there T  F__law_is_there, mg := PySem.W.mg_of X G a__law_is_there, kp := k__law_is_there, bd := b__law_is_there }
  have H__law_letter : HasF P w K mg base cl 2 "_law_letter" 1 ["box"] f__law_letter := { f := A__law_letter, fd := _, ok := ok__law_letter T H__law_take F__law_letter, mg := PySem.W.mg_of X G a__law_letter, kp := k__law_letter, bd := b__law_letter }
  have H__law_number : HasF P w K mg base cl 2 "_law_number" 3 ["box", "table", "last"] f__law_number := { f := A__law_number, fd := _, ok := ok__law_number T H__law_take F__law_number, mg := PySem.W.mg_of X G a__law_number, kp := k__law_number, bd := b__law_number }
  have HM_Roads_copied : HasM P w K mg base cl 3 4 "copied" 1 ["self"] (toX f_Roads_copied) := { f := A_Roads_copied, fd := _, ok := (ok_Roads_copied T HC_Roads F_Roads_copied).toX, cls := Y_Roads, mt := ⟨mt_Roads_copied, fn_Roads_copied, k_Roads_copied⟩, bd := b_Roads_copied }
  have HM_Roads_letter : HasM P w K mg base cl 4 4 "letter" 2 ["self", "number"] fx_Roads_letter := { f := A_Roads_letter, fd := _, ok := ok_Roads_letter T H_is_number H_NotOnRoad F_Roads_letter, cls := Y_Roads, mt := ⟨mt_Roads_letter, fn_Roads_letter, k_Roads_letter⟩, bd := b_Roads_letter }
  have HM_Roads_take_off : HasM P w K mg base cl 5 4 "take_off" 2 ["self", "number"] fx_Roads_take_off := { f := A_Roads_take_off, fd := _, ok := ok_Roads_take_off T HM_Roads_letter F_Roads_take_off, cls := Y_Roads, mt := ⟨mt_Roads_take_off, fn_Roads_take_off, k_Roads_take_off⟩, bd := b_Roads_take_off }
  have HM_Roads_doubled : HasM P w K mg base cl 5 4 "doubled" 2 ["self", "number"] fx_Roads_doubled := { f := A_Roads_doubled, fd := _, ok := ok_Roads_doubled T HM_Roads_letter HM_Roads_put F_Roads_doubled, cls := Y_Roads, mt := ⟨mt_Roads_doubled, fn_Roads_doubled, k_Roads_doubled⟩, bd := b_Roads_doubled }
  have H__law_right : HasF P w K mg base cl 5 "_law_right" 2 ["roads", "state"] f__law_right := { f := A__law_right, fd := _, ok := ok__law_right T HD_Roads___len__ HM_Roads_letter HM_Roads_numbers F__law_right, mg := PySem.W.mg_of X G a__law_right, kp := k__law_right, bd := b__law_right }
  have HX__law_asked : HasFX P w K mg base cl 6 "_law_asked" 3 ["roads", "way", "thing"] fx__law_asked := { f := A__law_asked, fd := _, ok := ok__law_asked T HM_Roads_doubled HM_Roads_letter HM_Roads_take_off F__law_asked, mg := PySem.W.mg_of X G a__law_asked, kp := k__law_asked, bd := b__law_asked }
  have H__law_caught : HasF P w K mg base cl 7 "_law_caught" 3 ["roads", "way", "thing"] f__law_caught := { f := A__law_caught, fd := _, ok := ok__law_caught T HX__law_asked F__law_caught, mg := PySem.W.mg_of X G a__law_caught, kp := k__law_caught, bd := b__law_caught }
  have H__law_deed : HasF P w K mg base cl 8 "_law_deed" 3 ["box", "roads", "state"] f__law_deed := { f := A__law_deed, fd := _, ok := ok__law_deed T H__law_caught H__law_is_there H__law_letter H__law_number H__law_take HM_Roads_put F__law_deed, mg := PySem.W.mg_of X G a__law_deed, kp := k__law_deed, bd := b__law_deed }
  exact ok_law T H__law_box H__law_cell H__law_deed H__law_right H__law_take HC_Roads HM_Roads_copied F_law
end Law

set_option Elab.async false
set_option linter.all false
set_option autoImplicit false
set_option maxRecDepth 100000
set_option maxHeartbeats 4000000

open PySem PySem.W PyProof.Rows in
set_option maxRecDepth 100000 in
set_option maxHeartbeats 0 in
theorem PySem.Challenge.cw_peersmeet_k54_roads_bear_letters_holds : PySem.Challenge.rw_peersmeet_k54_roads_bear_letters.Holds := by
  w_on; o_law; k_head; (case hw => w_witness2)
  k_fill
  refine G.law_end (l := PySem.Challenge.rw_peersmeet_k54_roads_bear_letters) (k := 9) (x := "script") (fn := Law.f_law) rfl rfl ⟨rfl, by decide, by decide⟩ (fun w h Y => PySem.W.kIn_of Y) ?F (fun ns hl _ => Law.law_good ns hl)
  case F =>
    intro w mg fa h KX G hmg
    refine' Law.all_mk KX G hmg ?a_ORoads ?pg_ORoads ?hd_ORoads ?po_ORoads ?sa_ORoads ?mk_ORoads ?kc_ORoads ?nf__last_Roads ?nf__letters_Roads ?a_is_number ?l_is_number ?c_is_number ?k_is_number ?mt_Roads___init__ ?fn_Roads___init__ ?l_Roads___init__ ?c_Roads___init__ ?k_Roads___init__ ?mt_Roads___len__ ?fn_Roads___len__ ?l_Roads___len__ ?c_Roads___len__ ?k_Roads___len__ ?mt_Roads_put ?fn_Roads_put ?l_Roads_put ?c_Roads_put ?k_Roads_put ?mt_Roads_numbers ?fn_Roads_numbers ?l_Roads_numbers ?c_Roads_numbers ?k_Roads_numbers ?a__law_cell ?l__law_cell ?c__law_cell ?k__law_cell ?a__law_box ?l__law_box ?c__law_box ?k__law_box ?a__law_take ?l__law_take ?c__law_take ?k__law_take ?a__law_is_there ?l__law_is_there ?c__law_is_there ?k__law_is_there ?a__law_letter ?l__law_letter ?c__law_letter ?k__law_letter ?a__law_number ?l__law_number ?c__law_number ?k__law_number ?mt_Roads_copied ?fn_Roads_copied ?l_Roads_copied ?c_Roads_copied ?k_Roads_copied ?mt_Roads_letter ?fn_Roads_letter ?l_Roads_letter ?c_Roads_letter ?k_Roads_letter ?mt_Roads_take_off ?fn_Roads_take_off ?l_Roads_take_off ?c_Roads_take_off ?k_Roads_take_off ?mt_Roads_doubled ?fn_Roads_doubled ?l_Roads_doubled ?c_Roads_doubled ?k_Roads_doubled ?a__law_right ?l__law_right ?c__law_right ?k__law_right ?a__law_asked ?l__law_asked ?c__law_asked ?k__law_asked ?a__law_caught ?l__law_caught ?c__law_caught ?k__law_caught ?a__law_deed ?l__law_deed ?c__law_deed ?k__law_deed ?a_law ?l_law ?c_law ?k_law ?z_bool ?z_dict ?z_int ?z_isinstance ?z_len ?z_list ?z_max ?z_min ?z_range ?z_repr ?z_sorted ?a_PAbsent ?l_PAbsent ?c_PAbsent ?k_PAbsent ?g_PAbsent ?d_PAbsent ?f_PAbsent ?z_KeyError ?f_KeyError ?ex_PAbsent ?ty_PAbsent ?hd_PAbsent ?a_K1 ?ex_K1 ?ty_K1 ?hd_K1 ?a_K3 ?ex_K3 ?ty_K3 ?hd_K3 ?a_X0 ?x_X0 ?r_X0 ?i_X0 ?ti_X0 ?l_X0 ?c_X0 ?k_X0 ?sa_X0 ?ex_X0 ?ty_X0 ?kc_X0 ?no_X0 ?hg_X0 ?hk_X0 ?hd_X0 ?ha_X0 ?hm_X0 ?hn ?ht ?sb_0_0 ?sb_0_1 ?sb_0_2 ?sb_0_3
    (case a_ORoads => k_is)
    (case a_is_number => k_is)
    (case a__law_cell => k_is)
    (case a__law_box => k_is)
    (case a__law_take => k_is)
    (case a__law_is_there => k_is)
    (case a__law_letter => k_is)
    (case a__law_number => k_is)
    (case a__law_right => k_is)
    (case a__law_asked => k_is)
    (case a__law_caught => k_is)
    (case a__law_deed => k_is)
    (case a_law => k_is)
    (case a_PAbsent => k_is)
    (case a_K1 => k_is)
    (case a_K3 => k_is)
    (case a_X0 => k_is)
    (case mt_Roads___init__ => k_is)
    (case mt_Roads___len__ => k_is)
    (case mt_Roads_put => k_is)
    (case mt_Roads_numbers => k_is)
    (case mt_Roads_copied => k_is)
    (case mt_Roads_letter => k_is)
    (case mt_Roads_take_off => k_is)
    (case mt_Roads_doubled => k_is)
    (case f_PAbsent => k_is)
    (case x_X0 => k_is)
    (case i_X0 => k_is)
    (case pg_ORoads => k_is)
    (case hd_ORoads => k_is)
    (case po_ORoads => k_is)
    (case sa_ORoads => k_is)
    (case mk_ORoads => k_is)
    (case kc_ORoads => k_is)
    (case nf__last_Roads => k_is)
    (case nf__letters_Roads => k_is)
    (case l_is_number => k_is)
    (case c_is_number => k_is)
    (case k_is_number => k_is)
    (case fn_Roads___init__ => k_is)
    (case l_Roads___init__ => k_is)
    (case c_Roads___init__ => k_is)
    (case k_Roads___init__ => k_is)
    (case fn_Roads___len__ => k_is)
    (case l_Roads___len__ => k_is)
    (case c_Roads___len__ => k_is)
    (case k_Roads___len__ => k_is)
    (case fn_Roads_put => k_is)
    (case l_Roads_put => k_is)
    (case c_Roads_put => k_is)
    (case k_Roads_put => k_is)
    (case fn_Roads_numbers => k_is)
    (case l_Roads_numbers => k_is)
    (case c_Roads_numbers => k_is)
    (case k_Roads_numbers => k_is)
    (case l__law_cell => k_is)
    (case c__law_cell => k_is)
    (case k__law_cell => k_is)
    (case l__law_box => k_is)
    (case c__law_box => k_is)
    (case k__law_box => k_is)
    (case l__law_take => k_is)
    (case c__law_take => k_is)
    (case k__law_take => k_is)
    (case l__law_is_there => k_is)
    (case c__law_is_there => k_is)
    (case k__law_is_there => k_is)
    (case l__law_letter => k_is)
    (case c__law_letter => k_is)
    (case k__law_letter => k_is)
    (case l__law_number => k_is)
    (case c__law_number => k_is)
    (case k__law_number => k_is)
    (case fn_Roads_copied => k_is)
    (case l_Roads_copied => k_is)
    (case c_Roads_copied => k_is)
    (case k_Roads_copied => k_is)
    (case fn_Roads_letter => k_is)
    (case l_Roads_letter => k_is)
    (case c_Roads_letter => k_is)
    (case k_Roads_letter => k_is)
    (case fn_Roads_take_off => k_is)
    (case l_Roads_take_off => k_is)
    (case c_Roads_take_off => k_is)
    (case k_Roads_take_off => k_is)
    (case fn_Roads_doubled => k_is)
    (case l_Roads_doubled => k_is)
    (case c_Roads_doubled => k_is)
    (case k_Roads_doubled => k_is)
    (case l__law_right => k_is)
    (case c__law_right => k_is)
    (case k__law_right => k_is)
    (case l__law_asked => k_is)
    (case c__law_asked => k_is)
    (case k__law_asked => k_is)
    (case l__law_caught => k_is)
    (case c__law_caught => k_is)
    (case k__law_caught => k_is)
    (case l__law_deed => k_is)
    (case c__law_deed => k_is)
    (case k__law_deed => k_is)
    (case l_law => k_is)
    (case c_law => k_is)
    (case k_law => k_is)
    (case z_bool => k_is)
    (case z_dict => k_is)
    (case z_int => k_is)
    (case z_isinstance => k_is)
    (case z_len => k_is)
    (case z_list => k_is)
    (case z_max => k_is)
    (case z_min => k_is)
    (case z_range => k_is)
    (case z_repr => k_is)
    (case z_sorted => k_is)
    (case l_PAbsent => k_is)
    (case c_PAbsent => k_is)
    (case k_PAbsent => k_is)
    (case g_PAbsent => k_is)
    (case d_PAbsent => k_is)
    (case z_KeyError => k_is)
    (case f_KeyError => k_is)
    (case ex_PAbsent => k_is)
    (case ty_PAbsent => k_is)
    (case hd_PAbsent => k_is)
    (case ex_K1 => k_is)
    (case ty_K1 => k_is)
    (case hd_K1 => k_is)
    (case ex_K3 => k_is)
    (case ty_K3 => k_is)
    (case hd_K3 => k_is)
    (case r_X0 => decide +kernel)
    (case ti_X0 => k_is)
    (case l_X0 => k_is)
    (case c_X0 => k_is)
    (case k_X0 => k_is)
    (case sa_X0 => k_is)
    (case ex_X0 => k_is)
    (case ty_X0 => k_is)
    (case kc_X0 => k_is)
    (case no_X0 => k_is)
    (case hg_X0 => k_is)
    (case hk_X0 => k_is)
    (case hd_X0 => k_is)
    (case ha_X0 => k_is)
    (case hm_X0 => k_is)
    (case hn => k_is)
    (case ht => k_is)
    (case sb_0_0 => k_is)
    (case sb_0_1 => k_is)
    (case sb_0_2 => k_is)
    (case sb_0_3 => k_is)

