import PyProof.Rows.All
import Wide.All
import OpenK.AllK
import Wide.FinOn
import HandS.ForMost
import HandS.ForExc
import HandS.IsInst
import HandS.Deep
import HandS.Wide
import HandS.Gcd
import HandS.Lambda
import HandS.TryMany
import HandS.TupMul
import HandS.TupAny
import HandS.CallSlots
import HandS.RaiseMore
import HandS.Style
import HandS.Iter
import HandS.Defaults
import KE.KExcInit
import HandS.ExcInit
import HandS.ExcOwn
import PyProof.ReprRoads
import PyProof.Rows.StrOr
import HandS.ExcField
import HandS.EndTab
import HandS.GenList
import HandS.SortInts
import HandS.Strs
import HandS.SetTxt0
import HandS.SetFor
import HandS.Text
import HandS.FStr
import KE.KIntText
import PyProof.Rows.Digits
import KE.SortKeyed
import PyProof.ListStr
import PyProof.TupleOfStr
import KE.KStateDown
import HandS.Words
import HandS.WordsExc
import HandS.Head0
import HandS.Head1
import HandS.Head2
import HandS.Head3
import HandS.HeadEnd
import HandS.HeadHook1
import HandS.HeadHook2
import HandS.HeadHook3
import HandS.HeadHook4
import HandS.HeadWalk
import PySem.Challenge.RW_seenanddone_k01_lots_and_texts_of_fracti
import KE.IntTextLaws
import PyProof.StrLawsIn
import PyProof.StrLawsTight
import KE.SortData
set_option Elab.async false
set_option linter.all false
set_option maxRecDepth 100000
set_option maxHeartbeats 2000000
/-! A layer of data over the hand layer: what an expression evaluates to, in plain data. -/
namespace DL
open PySem PySem.Spec PyProof.Rows L2

inductive D where
  | non | bl (b : Bool) | int (i : Int) | str (x : Str) | tup (l : List D) | lst (l : List D) | fls (l : List D) | fn (x : Str) | ty (n : String)
  deriving Inhabited

abbrev AS := Addr → Prop
def WrT (K : PySem.W.Frag) (a : Addr) (xs : List V) : Prop :=
  ∃ (o : Obj) (its : Array Value) (n : Nat), K.lookup a = some o ∧ o.cls = .type "tuple" ∧ o.data = .seq its n ∧ its.size ≤ sizeLine ∧ Vals xs its.toList
def WrL (K : PySem.W.Frag) (a : Addr) (xs : List V) : Prop :=
  ∃ (o : Obj) (its : Array Value) (n : Nat), K.lookup a = some o ∧ o.cls = .type "list" ∧ o.dict = none ∧ o.data = .seq its n ∧ its.size ≤ sizeLine ∧ Vals xs its.toList

section
variable (K : PySem.W.Frag) (mg : Str → Option Value) (W : AS) (H : Hp)
mutual
def Rep : D → V → Prop
  | .non, v => v = .non
  | .bl b, v => v = .bl b
  | .int i, v => v = .int i
  | .str x, v => v = .str x
  | .tup l, v => ∃ a xs, v = .ref a ∧ ((Rd H a (.tup xs) ∧ ¬ W a) ∨ WrT K a xs) ∧ RepL l xs
  | .lst l, v => ∃ a xs, v = .ref a ∧ (H a = some (.lst xs) ∧ ¬ W a) ∧ RepL l xs
  | .fls l, v => ∃ a xs, v = .ref a ∧ ((Rd H a (.lst xs) ∧ ¬ W a) ∨ WrL K a xs) ∧ RepL l xs
  | .fn x, v => ∃ f, v = .ref f ∧ mg x = some (.ref f)
  | .ty n, v => v = .ty n
def RepL : List D → List V → Prop
  | [], xs => xs = []
  | d :: l, xs => ∃ x r, xs = x :: r ∧ Rep d x ∧ RepL l r
end
end

/-- the heap goes on: what is not owned stays; what is newly owned was not there -/
structure Le (W : AS) (H : Hp) (W' : AS) (H' : Hp) : Prop where
  up : ∀ b, W b → W' b
  new : ∀ b, W' b → W b ∨ H b = none
  keep : ∀ b o, ¬ W b → H b = some o → H' b = some o ∨ ∃ ps ps', o = .tbl ps ∧ H' b = some (.tbl ps')
theorem Le.refl (W : AS) (H : Hp) : Le W H W H := ⟨fun _ h => h, fun _ h => .inl h, fun _ _ _ h => .inl h⟩
theorem Le.trans {W W1 W2 : AS} {H H1 H2 : Hp} (a : Le W H W1 H1) (b : Le W1 H1 W2 H2) : Le W H W2 H2 where
  up := fun x h => b.up x (a.up x h)
  new := fun x h => by
    rcases b.new x h with h1 | h1
    · exact a.new x h1
    · by_cases w : W x
      · exact .inl w
      · right
        cases e : H x with
        | none => rfl
        | some o =>
          rcases a.keep x o w e with q | ⟨ps, ps', _, q⟩ <;> rw [h1] at q <;> cases q
  keep := fun x o w e => by
    have n1 : ¬ W1 x := fun h => (a.new x h).elim w fun z => by rw [e] at z; cases z
    rcases a.keep x o w e with q | ⟨ps, ps', q1, q2⟩
    · exact b.keep x o n1 q
    · rcases b.keep x _ n1 q2 with z | ⟨_, ps3, _, z⟩
      · exact .inr ⟨ps, ps', q1, z⟩
      · exact .inr ⟨ps, ps3, q1, z⟩
theorem Le.new1 {W : AS} {H : Hp} {p : Addr} {o : HO} (h : H p = none) : Le W H W (upd H p o) :=
  ⟨fun _ h => h, fun _ h => .inl h, fun b u _ e => .inl (by rw [upd_ne (ne_of_none e h)]; exact e)⟩
theorem Le.rd {W W' : AS} {H H' : Hp} (a : Le W H W' H') {b : Addr} {o : HO} (ho : ∀ ps, o ≠ .tbl ps) (r : Rd H b o) (n : ¬ W b) : Rd H' b o ∧ ¬ W' b := by
  have n' : ∀ u, H b = some u → ¬ W' b := fun u e h => (a.new b h).elim n fun z => by rw [e] at z; cases z
  rcases r with r | ⟨ob, r⟩
  · refine ⟨?_, n' _ r⟩
    rcases a.keep b _ n r with q | ⟨ps, _, q, _⟩
    · exact .inl q
    · exact absurd q (ho ps)
  · refine ⟨?_, n' _ r⟩
    rcases a.keep b _ n r with q | ⟨ps, _, q, _⟩
    · exact .inr ⟨ob, q⟩
    · cases q

section
variable {K : PySem.W.Frag} {mg : Str → Option Value} {W W' : AS} {H H' : Hp}
mutual
theorem Rep.le (a : Le W H W' H') : ∀ (d : D) (v : V), Rep K mg W H d v → Rep K mg W' H' d v
  | .non, _, h => h
  | .bl _, _, h => h
  | .int _, _, h => h
  | .str _, _, h => h
  | .tup l, v, h => by
    obtain ⟨p, xs, e, r, q⟩ := h
    refine ⟨p, xs, e, ?_, RepL.le a l xs q⟩
    rcases r with ⟨r, n⟩ | r
    · exact .inl (a.rd (fun ps z => by cases z) r n)
    · exact .inr r
  | .lst l, v, h => by
    obtain ⟨p, xs, e, ⟨r, n⟩, q⟩ := h
    refine ⟨p, xs, e, ⟨?_, (a.rd (o := .lst xs) (fun ps z => by cases z) (.inl r) n).2⟩, RepL.le a l xs q⟩
    rcases a.keep p _ n r with z | ⟨_, _, z, _⟩
    · exact z
    · cases z
  | .fls l, v, h => by
    obtain ⟨p, xs, e, r, q⟩ := h
    refine ⟨p, xs, e, ?_, RepL.le a l xs q⟩
    rcases r with ⟨r, n⟩ | r
    · exact .inl (a.rd (fun ps z => by cases z) r n)
    · exact .inr r
  | .fn _, _, h => h
  | .ty _, _, h => h
theorem RepL.le (a : Le W H W' H') : ∀ (l : List D) (xs : List V), RepL K mg W H l xs → RepL K mg W' H' l xs
  | [], _, h => h
  | d :: l, xs, h => by
    obtain ⟨x, r, e, q1, q2⟩ := h
    exact ⟨x, r, e, Rep.le a d x q1, RepL.le a l r q2⟩
end
mutual
theorem Rep.sub (s : ∀ b, W' b → W b) : ∀ (d : D) (v : V), Rep K mg W H d v → Rep K mg W' H d v
  | .non, _, h => h
  | .bl _, _, h => h
  | .int _, _, h => h
  | .str _, _, h => h
  | .tup l, v, h => by
    obtain ⟨p, xs, e, r, q⟩ := h
    refine ⟨p, xs, e, ?_, RepL.sub s l xs q⟩
    rcases r with ⟨r, n⟩ | r
    · exact .inl ⟨r, fun z => n (s _ z)⟩
    · exact .inr r
  | .lst l, v, h => by
    obtain ⟨p, xs, e, ⟨r, n⟩, q⟩ := h
    exact ⟨p, xs, e, ⟨r, fun z => n (s _ z)⟩, RepL.sub s l xs q⟩
  | .fls l, v, h => by
    obtain ⟨p, xs, e, r, q⟩ := h
    refine ⟨p, xs, e, ?_, RepL.sub s l xs q⟩
    rcases r with ⟨r, n⟩ | r
    · exact .inl ⟨r, fun z => n (s _ z)⟩
    · exact .inr r
  | .fn _, _, h => h
  | .ty _, _, h => h
theorem RepL.sub (s : ∀ b, W' b → W b) : ∀ (l : List D) (xs : List V), RepL K mg W H l xs → RepL K mg W' H l xs
  | [], _, h => h
  | d :: l, xs, h => by
    obtain ⟨x, r, e, q1, q2⟩ := h
    exact ⟨x, r, e, Rep.sub s d x q1, RepL.sub s l r q2⟩
end
theorem RepL.length : ∀ {l : List D} {xs : List V}, RepL K mg W H l xs → l.length = xs.length
  | [], xs, h => by rw [show xs = [] from h]; rfl
  | d :: l, xs, h => by
    obtain ⟨x, r, e, _, q⟩ := h
    rw [e, List.length_cons, List.length_cons, RepL.length q]
theorem RepL.get : ∀ {l : List D} {xs : List V} {i : Nat} {d : D}, RepL K mg W H l xs → l[i]? = some d → ∃ x, xs[i]? = some x ∧ Rep K mg W H d x
  | [], _, _, _, _, e => by simp at e
  | d :: l, xs, 0, d', h, e => by
    obtain ⟨x, r, rfl, q, _⟩ := h
    have e' : d = d' := by simpa using e
    subst e'
    exact ⟨x, rfl, q⟩
  | d :: l, xs, i + 1, d', h, e => by
    obtain ⟨x, r, rfl, _, q⟩ := h
    obtain ⟨y, h1, h2⟩ := RepL.get (i := i) q (by simpa using e)
    exact ⟨y, by simpa using h1, h2⟩
theorem RepL.getV : ∀ {l : List D} {xs : List V} {i : Nat} {x : V}, RepL K mg W H l xs → xs[i]? = some x → ∃ d, l[i]? = some d ∧ Rep K mg W H d x
  | [], xs, _, _, h, e => by rw [show xs = [] from h] at e; simp at e
  | d :: l, xs, 0, y, h, e => by
    obtain ⟨x, r, rfl, q, _⟩ := h
    have e' : x = y := by simpa using e
    subst e'
    exact ⟨d, rfl, q⟩
  | d :: l, xs, i + 1, y, h, e => by
    obtain ⟨x, r, rfl, _, q⟩ := h
    obtain ⟨z, h1, h2⟩ := RepL.getV (i := i) q (by simpa using e)
    exact ⟨z, by simpa using h1, h2⟩
theorem RepL.app : ∀ {l m : List D} {xs ys : List V}, RepL K mg W H l xs → RepL K mg W H m ys → RepL K mg W H (l ++ m) (xs ++ ys)
  | [], m, xs, ys, h, q => by rw [show xs = [] from h]; exact q
  | d :: l, m, xs, ys, h, q => by
    obtain ⟨x, r, rfl, q1, q2⟩ := h
    exact ⟨x, r ++ ys, rfl, q1, RepL.app q2 q⟩
theorem RepL.set {d : D} {x : V} (r : Rep K mg W H d x) : ∀ {l : List D} {xs : List V} (i : Nat), RepL K mg W H l xs → RepL K mg W H (l.set i d) (xs.set i x)
  | [], xs, i, h => by rw [show xs = [] from h]; rfl
  | d' :: l, xs, 0, h => by
    obtain ⟨y, r', rfl, _, q⟩ := h
    exact ⟨x, r', rfl, r, q⟩
  | d' :: l, xs, i + 1, h => by
    obtain ⟨y, r', rfl, q1, q⟩ := h
    exact ⟨y, r'.set i x, rfl, q1, RepL.set r i q⟩
theorem RepL.sqt {l : List D} {v : V} (h : Rep K mg W H (.tup l) v) : ∃ a xs, v = .ref a ∧ SqT K H a xs ∧ RepL K mg W H l xs := by
  obtain ⟨a, xs, e, r, q⟩ := h
  refine ⟨a, xs, e, ?_, q⟩
  rcases r with ⟨r, _⟩ | r
  · exact .inl r
  · exact .inr r
theorem RepL.sql {l : List D} {v : V} (h : Rep K mg W H (.lst l) v) : ∃ a xs, v = .ref a ∧ SqL K H a xs ∧ RepL K mg W H l xs := by
  obtain ⟨a, xs, e, r, q⟩ := h
  exact ⟨a, xs, e, .inl (.inl r.1), q⟩
theorem RepL.sqf {l : List D} {v : V} (h : Rep K mg W H (.fls l) v) : ∃ a xs, v = .ref a ∧ SqL K H a xs ∧ RepL K mg W H l xs := by
  obtain ⟨a, xs, e, r, q⟩ := h
  refine ⟨a, xs, e, ?_, q⟩
  rcases r with ⟨r, _⟩ | r
  · exact .inl r
  · exact .inr r
end

/-! ### slots -/
inductive Sl where
  | no | val (d : D) | own (l : List D) | io (l : List D)
  deriving Inhabited
structure Fp where
  H0 : Hp
  W0 : AS
  ia : Nat → Option Addr
def Fp.M (P : Fp) (b : Addr) : Prop := ∃ i, P.ia i = some b
def Mu (ρ : List Sl) (i : Nat) : Prop := ∃ l, ρ[i]? = some (.own l) ∨ ρ[i]? = some (.io l)

abbrev Tb := List (Addr × Str)
structure Gg where
  K : PySem.W.Frag
  mg : Str → Option Value
  T : Tb
structure Ag (G : Gg) (P : Fp) (W : AS) (ρ : List Sl) (σ : L2.St) (H : Hp) : Prop where
  len : ρ.length = σ.length
  val : ∀ (i : Nat) (d : D), ρ[i]? = some (.val d) → ∃ v, σ[i]? = some (some v) ∧ Rep G.K G.mg W H d v
  own : ∀ (i : Nat) (l : List D), ρ[i]? = some (.own l) → ∃ a xs, σ[i]? = some (some (.ref a)) ∧ H a = some (.lst xs) ∧ W a ∧ P.H0 a = none ∧ RepL G.K G.mg W H l xs
  io : ∀ (i : Nat) (l : List D), ρ[i]? = some (.io l) → ∃ a xs, P.ia i = some a ∧ σ[i]? = some (some (.ref a)) ∧ H a = some (.lst xs) ∧ W a ∧ RepL G.K G.mg W H l xs
  ap : ∀ (i j : Nat) (a : Addr), Mu ρ i → Mu ρ j → σ[i]? = some (some (.ref a)) → σ[j]? = some (some (.ref a)) → i = j
  wd : ∀ b, W b → ∃ o, H b = some o
  fr : ∀ b o, P.H0 b = some o → ¬ P.M b → H b = some o ∨ ∃ ps ps', o = .tbl ps ∧ H b = some (.tbl ps')
  w0 : ∀ b, P.W0 b → W b
  m0 : ∀ b, P.M b → W b
  wd0 : ∀ b, P.W0 b → ∃ o, P.H0 b = some o
  wn : ∀ b, W b → P.W0 b ∨ P.H0 b = none
  tb : LamX.Tabs G.T H
section
variable {G : Gg} {P : Fp} {W : AS} {ρ : List Sl} {σ : L2.St} {H : Hp}
theorem Ag.nw (A : Ag G P W ρ σ H) {p : Addr} (h : H p = none) : ¬ W p := fun w => by
  obtain ⟨o, e⟩ := A.wd p w
  rw [h] at e; cases e
theorem tabs_new {T : Tb} {H : Hp} {p : Addr} {o : HO} (t : LamX.Tabs T H) (h : H p = none) : LamX.Tabs T (upd H p o) :=
  LamX.Tabs.ext t fun b u e => by rw [upd_ne (ne_of_none e h)]; exact e
/-- a new object -/
theorem Ag.new (A : Ag G P W ρ σ H) {p : Addr} {o : HO} (h : H p = none) : Ag G P W ρ σ (upd H p o) := by
  have L : Le W H W (upd H p o) := Le.new1 h
  have k : ∀ b u, H b = some u → upd H p o b = some u := fun b u e => by rw [upd_ne (ne_of_none e h)]; exact e
  refine ⟨A.len, fun i d e => ?_, fun i l e => ?_, fun i l e => ?_, A.ap, fun b w => ?_, fun b u e n => ?_, A.w0, A.m0, A.wd0, A.wn, tabs_new A.tb h⟩
  · obtain ⟨v, h1, h2⟩ := A.val i d e
    exact ⟨v, h1, Rep.le L d v h2⟩
  · obtain ⟨a, xs, h1, h2, h3, h4, h5⟩ := A.own i l e
    exact ⟨a, xs, h1, k _ _ h2, h3, h4, RepL.le L l xs h5⟩
  · obtain ⟨a, xs, h0, h1, h2, h3, h5⟩ := A.io i l e
    exact ⟨a, xs, h0, h1, k _ _ h2, h3, RepL.le L l xs h5⟩
  · obtain ⟨u, e⟩ := A.wd b w
    exact ⟨u, k _ _ e⟩
  · rcases A.fr b u e n with q | ⟨ps, ps', q1, q2⟩
    · exact .inl (k _ _ q)
    · exact .inr ⟨ps, ps', q1, k _ _ q2⟩
/-- a new object that will be owned -/
theorem Ag.newW (A : Ag G P W ρ σ H) {p : Addr} {o : HO} (h : H p = none) : Ag G P (fun b => W b ∨ b = p) ρ σ (upd H p o) ∧ Le W H (fun b => W b ∨ b = p) (upd H p o) := by
  have L : Le W H (fun b => W b ∨ b = p) (upd H p o) := ⟨fun _ w => .inl w, fun b w => w.elim .inl fun e => .inr (by rw [e]; exact h), fun b u _ e => .inl (by rw [upd_ne (ne_of_none e h)]; exact e)⟩
  have k : ∀ b u, H b = some u → upd H p o b = some u := fun b u e => by rw [upd_ne (ne_of_none e h)]; exact e
  refine ⟨⟨A.len, fun i d e => ?_, fun i l e => ?_, fun i l e => ?_, A.ap, fun b w => ?_, fun b u e n => ?_, fun b w => .inl (A.w0 b w), fun b m => .inl (A.m0 b m), A.wd0, fun b w => ?_, tabs_new A.tb h⟩, L⟩
  · obtain ⟨v, h1, h2⟩ := A.val i d e
    exact ⟨v, h1, Rep.le L d v h2⟩
  · obtain ⟨a, xs, h1, h2, h3, h4, h5⟩ := A.own i l e
    exact ⟨a, xs, h1, k _ _ h2, .inl h3, h4, RepL.le L l xs h5⟩
  · obtain ⟨a, xs, h0, h1, h2, h3, h5⟩ := A.io i l e
    exact ⟨a, xs, h0, h1, k _ _ h2, .inl h3, RepL.le L l xs h5⟩
  · rcases w with w | w
    · obtain ⟨u, e⟩ := A.wd b w
      exact ⟨u, k _ _ e⟩
    · rw [w]; exact ⟨o, upd_same⟩
  · rcases A.fr b u e n with q | ⟨ps, ps', q1, q2⟩
    · exact .inl (k _ _ q)
    · exact .inr ⟨ps, ps', q1, k _ _ q2⟩
  · rcases w with w | w
    · exact A.wn b w
    · subst w
      cases e : P.H0 b with
      | none => exact .inr rfl
      | some u =>
        by_cases m : P.M b
        · exact absurd (A.m0 b m) (A.nw h)
        · rcases A.fr b u e m with q | ⟨ps, ps', _, q⟩ <;> rw [h] at q <;> cases q
end
/-! ### how far a step goes -/
def Kp (H H' : Hp) : Prop := ∀ b o, H b = some o → H' b = some o ∨ ∃ ps ps', o = .tbl ps ∧ H' b = some (.tbl ps')
theorem Kp.refl (H : Hp) : Kp H H := fun _ _ h => .inl h
theorem Kp.new {H : Hp} {p : Addr} {o : HO} (h : H p = none) : Kp H (upd H p o) := fun b u e => .inl (by rw [upd_ne (ne_of_none e h)]; exact e)
theorem Kp.le {H H' : Hp} {W : AS} (h : Kp H H') : Le W H W H' := ⟨fun _ h => h, fun _ h => .inl h, fun b o _ e => h b o e⟩
theorem Kp.lst {H H' : Hp} (h : Kp H H') {a : Addr} {xs : List V} (e : H a = some (.lst xs)) : H' a = some (.lst xs) := by
  rcases h a _ e with q | ⟨_, _, q, _⟩
  · exact q
  · cases q
/-- the same slots are lists -/
def shape (ρ ρ' : List Sl) : Prop := ∀ j, Mu ρ' j → Mu ρ j
/-- what no slot's list is stays -/
def Fk (ρ : List Sl) (σ : L2.St) (H H' : Hp) : Prop := ∀ b o, (∀ j, Mu ρ j → σ[j]? ≠ some (some (.ref b))) → H b = some o → H' b = some o ∨ ∃ ps ps', o = .tbl ps ∧ H' b = some (.tbl ps')
structure Lx (W : AS) (ρ : List Sl) (σ : L2.St) (H : Hp) (ρ' : List Sl) (H' : Hp) : Prop where
  le : Le W H W H'
  sh : shape ρ ρ'
  fk : Fk ρ σ H H'
theorem Lx.kp {W : AS} {ρ : List Sl} {σ : L2.St} {H H' : Hp} (h : Kp H H') : Lx W ρ σ H ρ H' := ⟨h.le, fun _ m => m, fun b o _ e => h b o e⟩
theorem Lx.refl {W : AS} {ρ : List Sl} {σ : L2.St} {H : Hp} : Lx W ρ σ H ρ H := Lx.kp (Kp.refl H)
theorem Lx.trans {W : AS} {ρ ρ1 ρ2 : List Sl} {σ : L2.St} {H H1 H2 : Hp} (a : Lx W ρ σ H ρ1 H1) (b : Lx W ρ1 σ H1 ρ2 H2) : Lx W ρ σ H ρ2 H2 :=
  ⟨a.le.trans b.le, fun j m => a.sh j (b.sh j m), fun x o n e => by
    have n1 : ∀ j, Mu ρ1 j → σ[j]? ≠ some (some (.ref x)) := fun j m => n j (a.sh j m)
    rcases a.fk x o n e with q | ⟨ps, ps', q1, q2⟩
    · exact b.fk x o n1 q
    · rcases b.fk x _ n1 q2 with z | ⟨_, ps3, _, z⟩
      · exact .inr ⟨ps, ps', q1, z⟩
      · exact .inr ⟨ps, ps3, q1, z⟩⟩
theorem Lx.new {W : AS} {ρ : List Sl} {σ : L2.St} {H : Hp} {p : Addr} {o : HO} (h : H p = none) : Lx W ρ σ H ρ (upd H p o) := Lx.kp (Kp.new h)
end DL
set_option Elab.async false
set_option linter.all false
set_option maxRecDepth 100000
set_option maxHeartbeats 2000000
namespace DL
open PySem PySem.Spec PyProof.Rows L2

abbrev Exn := Str × Option (Str × D)
def RepX (G : Gg) (W : AS) (H : Hp) (x : Exn) (cls : Value) (d : Option Addr) : Prop :=
  G.mg x.1 = some cls ∧ ∀ f a, x.2 = some (f, a) → ∃ dd v, d = some dd ∧ H dd = some (.xd [(f, v)]) ∧ ¬ W dd ∧ Rep G.K G.mg W H a v

/-! ### what the machine does, as readings -/
def sE (X : Cx) (e : Expr) : TE := fun σ H Q => ∀ (pins : List (Addr × Obj)) (s : Shared), Inv X pins σ H s → wpAny (model X.prog X.w) X.A (eval e X.env) (EP X pins σ Q) X.xe s
def sT (X : Cx) (e : Expr) : TT := fun σ H Q => ∀ (pins : List (Addr × Obj)) (s : Shared), Inv X pins σ H s → wpAny (model X.prog X.w) X.A (isTrue e X.env (eval e X.env)) (TP X pins σ Q) X.xe s
def sW (X : Cx) (e : Expr) : TT := fun σ H Q => ∀ (whole : Sem Value) (pins : List (Addr × Obj)) (s : Shared), Inv X pins σ H s → wpAny (model X.prog X.w) X.A (isTrue e X.env whole) (TP X pins σ Q) X.xe s
def sA (X : Cx) (es : List Expr) : TA := fun σ H Q => ∀ (pos : Pos) (pins : List (Addr × Obj)) (s : Shared), Inv X pins σ H s → wpAny (model X.prog X.w) X.A (spliced (backTo pos (starEach es X.env))) (AP X pins σ Q) X.xe s
def sS (X : Cx) (st : Stmt) : TS := fun D σ H => ∀ (pins : List (Addr × Obj)) (s : Shared), Inv X pins σ H s → wpAny (model X.prog X.w) X.A (exec st X.env) (SP X pins D) X.xe s
def sSs (X : Cx) (st : List Stmt) : TS := fun D σ H => ∀ (pins : List (Addr × Obj)) (s : Shared), Inv X pins σ H s → wpAny (model X.prog X.w) X.A (execs st X.env) (SP X pins D) X.xe s
section
variable {X : Cx} {e : Expr} {es : List Expr} {st : Stmt} {ss : List Stmt}
theorem sE_pe : PE X e (sE X e) := ⟨fun pins s _ _ _ I h => h pins s I⟩
theorem sT_pt : PT X e (sT X e) := ⟨fun pins s _ _ _ I h => h pins s I⟩
theorem sW_pw : PW X e (sW X e) := ⟨fun wh pins s _ _ _ I h => h wh pins s I⟩
theorem sA_pa : PA X es (sA X es) := ⟨fun pos pins s _ _ _ I h => h pos pins s I⟩
theorem sS_ps : PS X st (sS X st) := ⟨fun pins s _ _ _ I h => h pins s I⟩
theorem sSs_pss : PSs X ss (sSs X ss) := ⟨fun pins s _ _ _ I h => h pins s I⟩
theorem toE {t : TE} {σ : L2.St} {H : Hp} {Q : VK} (h : PE X e t) (q : t σ H Q) : sE X e σ H Q := fun pins s I => h.run pins s σ H Q I q
theorem toT {t : TT} {σ : L2.St} {H : Hp} {Q : Bool → Hp → Prop} (h : PT X e t) (q : t σ H Q) : sT X e σ H Q := fun pins s I => h.run pins s σ H Q I q
theorem toW {t : TT} {σ : L2.St} {H : Hp} {Q : Bool → Hp → Prop} (h : PW X e t) (q : t σ H Q) : sW X e σ H Q := fun wh pins s I => h.run wh pins s σ H Q I q
theorem toA {t : TA} {σ : L2.St} {H : Hp} {Q : List V → Hp → Prop} (h : PA X es t) (q : t σ H Q) : sA X es σ H Q := fun pos pins s I => h.run pos pins s σ H Q I q
theorem toS {t : TS} {σ : L2.St} {H : Hp} {D : Ends} (h : PS X st t) (q : t D σ H) : sS X st D σ H := fun pins s I => h.run pins s σ H D I q
theorem toSs {t : TS} {σ : L2.St} {H : Hp} {D : Ends} (h : PSs X ss t) (q : t D σ H) : sSs X ss D σ H := fun pins s I => h.run pins s σ H D I q
end

/-! ### the judgements over data -/
abbrev Rho := List Sl
abbrev KD := D → Rho → Prop
abbrev KX := Exn → Rho → Prop
section
variable (G : Gg) (P : Fp) (W : AS) (ρ : Rho) (σ : L2.St) (H : Hp)
def NP (k : KD) (Q : VK) : Prop := ∀ d ρ' v H', k d ρ' → Ag G P W ρ' σ H' → Lx W ρ σ H ρ' H' → Rep G.K G.mg W H' d v → Q v H'
def NPb (k : Bool → Rho → Prop) (Q : Bool → Hp → Prop) : Prop := ∀ b ρ' H', k b ρ' → Ag G P W ρ' σ H' → Lx W ρ σ H ρ' H' → Q b H'
def NPa (k : List D → Rho → Prop) (Q : List V → Hp → Prop) : Prop := ∀ ds ρ' vs H', k ds ρ' → Ag G P W ρ' σ H' → Lx W ρ σ H ρ' H' → RepL G.K G.mg W H' ds vs → Q vs H'
end
section
variable (G : Gg) (P : Fp) (W : AS) (ρ : Rho) (σ : L2.St) (H : Hp)
def XP (kx : KX) (Wx : WX) : Prop := ∀ x ρ' cls dd H', kx x ρ' → Ag G P W ρ' σ H' → Lx W ρ σ H ρ' H' → RepX G W H' x cls dd → Wx cls dd σ H'
end
def EJ (G : Gg) (X : Cx) (e : Expr) (ρ : Rho) (k : KD) (kx : KX) : Prop :=
  ∀ P W σ H, Ag G P W ρ σ H → ∀ (Q : VK) (Wx : WX), Takes X Wx → NP G P W ρ σ H k Q → XP G P W ρ σ H kx Wx → sE X e σ H Q
def TJ (G : Gg) (X : Cx) (e : Expr) (ρ : Rho) (k : Bool → Rho → Prop) (kx : KX) : Prop :=
  ∀ P W σ H, Ag G P W ρ σ H → ∀ (Q : Bool → Hp → Prop) (Wx : WX), Takes X Wx → NPb G P W ρ σ H k Q → XP G P W ρ σ H kx Wx → sT X e σ H Q
def WJ (G : Gg) (X : Cx) (e : Expr) (ρ : Rho) (k : Bool → Rho → Prop) (kx : KX) : Prop :=
  ∀ P W σ H, Ag G P W ρ σ H → ∀ (Q : Bool → Hp → Prop) (Wx : WX), Takes X Wx → NPb G P W ρ σ H k Q → XP G P W ρ σ H kx Wx → sW X e σ H Q
def AJ (G : Gg) (X : Cx) (es : List Expr) (ρ : Rho) (k : List D → Rho → Prop) (kx : KX) : Prop :=
  ∀ P W σ H, Ag G P W ρ σ H → ∀ (Q : List V → Hp → Prop) (Wx : WX), Takes X Wx → NPa G P W ρ σ H k Q → XP G P W ρ σ H kx Wx → sA X es σ H Q
section
variable {G : Gg} {P : Fp} {W : AS} {σ : L2.St} {H H1 : Hp}
theorem NP.le {ρ ρ1 : Rho} {k : KD} {Q : VK} (n : NP G P W ρ σ H k Q) (L : Lx W ρ σ H ρ1 H1) : NP G P W ρ1 σ H1 k Q := fun d ρ' v H' h A l r => n d ρ' v H' h A (L.trans l) r
theorem NPb.le {ρ ρ1 : Rho} {k : Bool → Rho → Prop} {Q : Bool → Hp → Prop} (n : NPb G P W ρ σ H k Q) (L : Lx W ρ σ H ρ1 H1) : NPb G P W ρ1 σ H1 k Q := fun d ρ' H' h A l => n d ρ' H' h A (L.trans l)
theorem NPa.le {ρ ρ1 : Rho} {k : List D → Rho → Prop} {Q : List V → Hp → Prop} (n : NPa G P W ρ σ H k Q) (L : Lx W ρ σ H ρ1 H1) : NPa G P W ρ1 σ H1 k Q := fun d ρ' v H' h A l r => n d ρ' v H' h A (L.trans l) r
theorem XP.le {ρ ρ1 : Rho} {kx : KX} {Wx : WX} (n : XP G P W ρ σ H kx Wx) (L : Lx W ρ σ H ρ1 H1) : XP G P W ρ1 σ H1 kx Wx := fun x ρ' cls dd H' h A l r => n x ρ' cls dd H' h A (L.trans l) r
end

/-! ### operations by data -/
/-- data of the library's kind -/
def toPy : D → PyData
  | .non => .none
  | .bl b => .bool b
  | .int i => .int i
  | .str x => .str x
  | .tup l => .tuple (toPys l)
  | .lst l => .list (toPys l)
  | .fls l => .list (toPys l)
  | .fn _ => .none
  | .ty _ => .none
where toPys : List D → List PyData
  | [] => []
  | d :: l => toPy d :: toPys l
def isPy : D → Bool
  | .fn _ => false
  | .ty _ => false
  | .tup l => isPys l
  | .lst l => isPys l
  | .fls l => isPys l
  | _ => true
where isPys : List D → Bool
  | [] => true
  | d :: l => isPy d && isPys l
section
variable {K : PySem.W.Frag} {mg : Str → Option Value} {W : AS} {H : Hp}
mutual
theorem Rep.dp : ∀ (d : D) (v : V), isPy d = true → Rep K mg W H d v → Dp K H v (toPy d)
  | .non, v, _, h => by rw [show v = .non from h]; exact .non
  | .bl b, v, _, h => by rw [show v = .bl b from h]; exact .bl b
  | .int i, v, _, h => by rw [show v = .int i from h]; exact .int i
  | .str x, v, _, h => by rw [show v = .str x from h]; exact .str x
  | .tup l, v, q, h => by
    obtain ⟨a, xs, rfl, ht, hl⟩ := RepL.sqt h
    exact .tup ht (RepL.dp l xs q hl)
  | .lst l, v, q, h => by
    obtain ⟨a, xs, rfl, ht, hl⟩ := RepL.sql h
    exact .lst ht (RepL.dp l xs q hl)
  | .fls l, v, q, h => by
    obtain ⟨a, xs, rfl, ht, hl⟩ := RepL.sqf h
    exact .lst ht (RepL.dp l xs q hl)
  | .fn x, v, q, h => by cases q
  | .ty x, v, q, h => by cases q
theorem RepL.dp : ∀ (l : List D) (xs : List V), isPy.isPys l = true → RepL K mg W H l xs → DpAll K H xs (toPy.toPys l)
  | [], xs, _, h => by rw [show xs = [] from h]; exact .nil
  | d :: l, xs, q, h => by
    obtain ⟨x, r, rfl, h1, h2⟩ := h
    have q' : (isPy d && isPy.isPys l) = true := q
    rw [Bool.and_eq_true] at q'
    exact .cons (Rep.dp d x q'.1 h1) (RepL.dp l r q'.2 h2)
end
end
/-- a value that an operation hands on -/
def SemB (G : Gg) (X : Cx) (f : Value → Value → Sem Value) (x y : D) (k : D → Prop) : Prop :=
  ∀ P W ρ σ H, Ag G P W ρ σ H → ∀ (v w : V) (Q : VK), Rep G.K G.mg W H x v → Rep G.K G.mg W H y w →
    (∀ z u H', k z → Ag G P W ρ σ H' → Kp H H' → Rep G.K G.mg W H' z u → Q u H') →
    ∀ (pins : List (Addr × Obj)) (s : Shared) (σ' : L2.St) (vv ww : Value), Inv X pins σ' H s → RelV v vv → RelV w ww → wpAny (model X.prog X.w) X.A (f vv ww) (EP X pins σ' Q) X.xe s
def bits1 (i : Int) : Nat := Builtin.Int.intBits i
def dBin : Operator → D → D → (D → Prop) → Prop
  | .Add, .int i, .int j, k => k (.int (i + j))
  | .Add, .str i, .str j, k => i.length + j.length ≤ sizeLine ∧ k (.str (i ++ j))
  | .Add, .tup l, .tup m, k => l.length + m.length ≤ sizeLine ∧ k (.tup (l ++ m))
  | .Add, .lst l, .lst m, k => l.length + m.length ≤ sizeLine ∧ k (.lst (l ++ m))
  | .Sub, .int i, .int j, k => k (.int (i - j))
  | .Mult, .int i, .int j, k => CMulW i j ∧ k (.int (i * j))
  | .Mult, .tup l, .int n, k => (l ≠ [] ∧ 2 ≤ n ∧ n ≤ 1000 ∧ l.length ≤ 1000) ∧ k (.tup (List.replicate n.toNat l).flatten)
  | .Mult, .lst l, .int n, k => (-(2 ^ 63) ≤ n ∧ n < 2 ^ 63 ∧ l.length * n.toNat ≤ sizeLine) ∧ k (.lst (List.replicate n.toNat l).flatten)
  | .Mult, .str x, .int n, k => (x.length ≤ 1000 ∧ 0 ≤ n ∧ n ≤ 2000) ∧ k (.str (Txt.mul x n))
  | .FloorDiv, .int i, .int j, k => (j ≠ 0 ∧ j.natAbs.log2 < 9000) ∧ k (.int (i.fdiv j))
  | .Mod, .int i, .int j, k => j ≠ 0 ∧ k (.int (i.fmod j))
  | .Pow, .int i, .int j, k => (0 ≤ j ∧ (bits1 i : Int) * j ≤ 2 ^ 27) ∧ k (.int (i ^ j.toNat))
  | _, _, _, _ => False
section
variable {X : Cx}
theorem op_fdivG : OpR X (binaryOp .FloorDiv) (rI (fun _ j => j ≠ 0 ∧ j.natAbs.log2 < 9000) fun i j => .int (i.fdiv j)) := opI fun _ _ _ _ _ _ _ hc q => floordiv_int hc.1 q (.inl (PyProof.noPylong_of_log2 hc.2))
theorem op_powG : OpR X (binaryOp .Pow) (rI (fun i j => 0 ≤ j ∧ (bits1 i : Int) * j ≤ 2 ^ 27) fun i j => .int (i ^ j.toNat)) := opI fun _ _ _ _ _ _ _ hc q => pow_int hc.1 hc.2 q
theorem repl_flat {K : PySem.W.Frag} {mg : Str → Option Value} {W : AS} {H : Hp} {l : List D} {xs : List V} (r : RepL K mg W H l xs) : ∀ n : Nat, RepL K mg W H (List.replicate n l).flatten (List.replicate n xs).flatten
  | 0 => rfl
  | n + 1 => by
    rw [List.replicate_succ, List.replicate_succ, List.flatten_cons, List.flatten_cons]
    exact RepL.app r (repl_flat r n)
theorem dBin_ok {G : Gg} (hK : X.K = G.K) {op : Operator} {x y : D} {k : D → Prop} (h : dBin op x y k) : SemB G X (binaryOp op) x y k := by
  intro P W ρ σ0 H A v w Q rx ry q pins s σ vv ww I rv rw'
  unfold dBin at h
  split at h
  · rw [show v = .int _ from rx] at rv; rw [show w = .int _ from ry] at rw'
    exact op_add pins s σ H _ _ _ _ Q I rv rw' ⟨_, _, rfl, rfl, q _ _ _ h A (Kp.refl _) rfl⟩
  · rw [show v = .str _ from rx] at rv; rw [show w = .str _ from ry] at rw'
    exact op_add_str pins s σ H _ _ _ _ Q I rv rw' ⟨_, _, rfl, rfl, h.1, q _ _ _ h.2 A (Kp.refl _) rfl⟩
  · rename_i l m
    obtain ⟨a, xs, rfl, ha, hl⟩ := RepL.sqt rx
    obtain ⟨b, ys, rfl, hb, hm⟩ := RepL.sqt ry
    have e1 := hl.length
    have e2 := hm.length
    refine op_catA pins s σ H _ _ _ _ Q I rv rw' ⟨a, b, xs, ys, rfl, rfl, by rw [hK]; exact ha, by rw [hK]; exact hb, by omega, fun z => ?_, fun z1 z2 => ?_, fun _ _ p hp => ?_⟩
    · have : l = [] := List.eq_nil_of_length_eq_zero (by rw [e1, z]; rfl)
      subst this
      exact q _ _ _ h.2 A (Kp.refl _) ry
    · have : m = [] := List.eq_nil_of_length_eq_zero (by rw [e2, z2]; rfl)
      subst this
      rw [List.append_nil] at h
      exact q _ _ _ h.2 A (Kp.refl _) rx
    · refine q _ _ _ h.2 (A.new hp) (Kp.new hp) ⟨p, _, rfl, .inl ⟨.inl upd_same, A.nw hp⟩, ?_⟩
      exact RepL.le (Le.new1 hp) _ _ (hl.app hm)
  · rename_i l m
    obtain ⟨a, xs, rfl, ⟨ha, _⟩, hl⟩ := rx
    obtain ⟨b, ys, rfl, ⟨hb, _⟩, hm⟩ := ry
    have e1 := hl.length
    have e2 := hm.length
    refine op_cat pins s σ H _ _ _ _ Q I rv rw' ⟨a, b, xs, ys, rfl, rfl, ha, hb, by omega, fun p hp => ?_⟩
    refine q _ _ _ h.2 (A.new hp) (Kp.new hp) ⟨p, _, rfl, ⟨upd_same, A.nw hp⟩, ?_⟩
    exact RepL.le (Le.new1 hp) _ _ (hl.app hm)
  · rw [show v = .int _ from rx] at rv; rw [show w = .int _ from ry] at rw'
    exact op_sub pins s σ H _ _ _ _ Q I rv rw' ⟨_, _, rfl, rfl, q _ _ _ h A (Kp.refl _) rfl⟩
  · rw [show v = .int _ from rx] at rv; rw [show w = .int _ from ry] at rw'
    exact op_mulW pins s σ H _ _ _ _ Q I rv rw' ⟨_, _, rfl, rfl, h.1, q _ _ _ h.2 A (Kp.refl _) rfl⟩
  · rename_i l n
    obtain ⟨a, xs, rfl, ha, hl⟩ := RepL.sqt rx
    rw [show w = .int _ from ry] at rw'
    have e1 := hl.length
    obtain ⟨⟨h0, h1, h2, h3⟩, h4⟩ := h
    refine op_repT pins s σ H _ _ _ _ Q I rv rw' ⟨a, n, xs, rfl, rfl, by rw [hK]; exact ha, fun z => h0 (List.eq_nil_of_length_eq_zero (by rw [e1, z]; rfl)), h1, h2, by omega, fun p hp => ?_⟩
    refine q _ _ _ h4 (A.new hp) (Kp.new hp) ⟨p, _, rfl, .inl ⟨.inl upd_same, A.nw hp⟩, ?_⟩
    exact RepL.le (Le.new1 hp) _ _ (repl_flat hl _)
  · rename_i l n
    obtain ⟨a, xs, rfl, ⟨ha, _⟩, hl⟩ := rx
    rw [show w = .int _ from ry] at rw'
    have e1 := hl.length
    obtain ⟨⟨h0, h1, h2⟩, h4⟩ := h
    refine op_rep pins s σ H _ _ _ _ Q I rv rw' ⟨a, n, xs, rfl, rfl, ha, h0, h1, by rw [← e1]; exact h2, fun p hp => ?_⟩
    refine q _ _ _ h4 (A.new hp) (Kp.new hp) ⟨p, _, rfl, ⟨upd_same, A.nw hp⟩, ?_⟩
    exact RepL.le (Le.new1 hp) _ _ (repl_flat hl _)
  · rw [show v = .str _ from rx] at rv; rw [show w = .int _ from ry] at rw'
    obtain ⟨t, rfl⟩ := rv
    obtain ⟨t', rfl⟩ := rw'
    obtain ⟨⟨h1, h2, h3⟩, h4⟩ := h
    exact PySem.SB.mul (mulOk_of 1000 2000 h1 h3 (by omega) (by decide) (by decide)) fun t' k => ⟨.str _, H, I.tok _, ⟨_, rfl⟩, q _ _ _ h4 A (Kp.refl _) rfl⟩
  · rw [show v = .int _ from rx] at rv; rw [show w = .int _ from ry] at rw'
    exact op_fdivG pins s σ H _ _ _ _ Q I rv rw' ⟨_, _, rfl, rfl, h.1, q _ _ _ h.2 A (Kp.refl _) rfl⟩
  · rw [show v = .int _ from rx] at rv; rw [show w = .int _ from ry] at rw'
    exact op_modN pins s σ H _ _ _ _ Q I rv rw' ⟨_, _, rfl, rfl, h.1, q _ _ _ h.2 A (Kp.refl _) rfl⟩
  · rw [show v = .int _ from rx] at rv; rw [show w = .int _ from ry] at rw'
    exact op_powG pins s σ H _ _ _ _ Q I rv rw' ⟨_, _, rfl, rfl, h.1, q _ _ _ h.2 A (Kp.refl _) rfl⟩
  · exact h.elim

/-! ### comparisons -/
def SemC (G : Gg) (X : Cx) (f : Value → Value → Sem Value) (x y : D) (k : Bool → Prop) : Prop :=
  ∀ W1 W2 H (v w : V) (Q : VK), Rep G.K G.mg W1 H x v → Rep G.K G.mg W2 H y w → (∀ z, k z → Q (.bl z) H) →
    ∀ (pins : List (Addr × Obj)) (s : Shared) (σ : L2.St) (vv ww : Value), Inv X pins σ H s → RelV v vv → RelV w ww → wpAny (model X.prog X.w) X.A (f vv ww) (EP X pins σ Q) X.xe s
def shp (d : D) : Bool := isPy d && SeqAt.shaped (toPy d)
def isNon : D → Bool
  | .non => true
  | _ => false
def eqD (x y : D) : Bool := PyData.eqv (toPy x) (toPy y)
def inD (x : D) (l : List D) : Bool := (toPy.toPys l).any fun y => PyData.eqv y (toPy x)
def dCmp : CmpOp → D → D → (Bool → Prop) → Prop
  | .Lt, .int i, .int j, k => k (decide (i < j))
  | .LtE, .int i, .int j, k => k (decide (i ≤ j))
  | .Gt, .int i, .int j, k => k (decide (j < i))
  | .GtE, .int i, .int j, k => k (decide (j ≤ i))
  | .Lt, .str i, .str j, k => k (decide (i.cps.toList < j.cps.toList))
  | .Eq, x, y, k => (shp x = true ∧ shp y = true) ∧ k (eqD x y)
  | .NotEq, x, y, k => (shp x = true ∧ shp y = true) ∧ k (!eqD x y)
  | .In, .str x, .str y, k => k (!(Builtin.Str.occurrences y x 0 y.length 1).isEmpty)
  | .NotIn, .str x, .str y, k => k (!(!(Builtin.Str.occurrences y x 0 y.length 1).isEmpty))
  | .In, x, .tup l, k => (shp x = true ∧ shp (.tup l) = true) ∧ k (inD x l)
  | .NotIn, x, .tup l, k => (shp x = true ∧ shp (.tup l) = true) ∧ k (!inD x l)
  | .Is, x, .non, k => k (isNon x)
  | .IsNot, x, .non, k => k (!isNon x)
  | _, _, _, _ => False
theorem shp_py {d : D} (h : shp d = true) : isPy d = true := (Bool.and_eq_true_iff.mp h).1
theorem shp_sh {d : D} (h : shp d = true) : SeqAt.shaped (toPy d) = true := (Bool.and_eq_true_iff.mp h).2
theorem op_inT (hu : X.A.units + 65 < cLine) : OpR X (compareOp .In) (fun x y H Q => ∃ d ds, Dp X.K H x d ∧ Dp X.K H y (.tuple ds) ∧ SeqAt.shaped d = true ∧ SeqAt.shaped (.tuple ds) = true ∧ Q (.bl (ds.any fun z => PyData.eqv z d)) H) := by
  intro pins s σ H x y v u Q I rx ry h
  obtain ⟨d, ds, hd, he, sd, se, q⟩ := h
  obtain ⟨as, r1⟩ := Dp.reads I d x v hd rx
  obtain ⟨bs, r2⟩ := Dp.reads I (.tuple ds) y u he ry
  have h1 := SeqAt.depth_of_shaped sd
  exact SeqAt.in_tuple_reads r2 r1 (SeqAt.canLay_of_shaped se) (SeqAt.canLay_of_shaped sd) (by omega) ⟨.bl _, H, I, rfl, q⟩
theorem op_notInT (hu : X.A.units + 65 < cLine) : OpR X (compareOp .NotIn) (fun x y H Q => ∃ d ds, Dp X.K H x d ∧ Dp X.K H y (.tuple ds) ∧ SeqAt.shaped d = true ∧ SeqAt.shaped (.tuple ds) = true ∧ Q (.bl (!ds.any fun z => PyData.eqv z d)) H) := by
  intro pins s σ H x y v u Q I rx ry h
  obtain ⟨d, ds, hd, he, sd, se, q⟩ := h
  obtain ⟨as, r1⟩ := Dp.reads I d x v hd rx
  obtain ⟨bs, r2⟩ := Dp.reads I (.tuple ds) y u he ry
  have h1 := SeqAt.depth_of_shaped sd
  exact SeqAt.notIn_tuple_reads r2 r1 (SeqAt.canLay_of_shaped se) (SeqAt.canLay_of_shaped sd) (by omega) ⟨.bl _, H, I, rfl, q⟩
theorem rep_non {K : PySem.W.Frag} {mg : Str → Option Value} {W : AS} {H : Hp} {d : D} {v : V} (h : Rep K mg W H d v) : decide (v = .non) = isNon d := by
  cases d with
  | non => rw [show v = .non from h]; rfl
  | bl b => rw [show v = .bl b from h]; rfl
  | int b => rw [show v = .int b from h]; rfl
  | str b => rw [show v = .str b from h]; rfl
  | tup l => obtain ⟨a, xs, rfl, _⟩ := h; rfl
  | lst l => obtain ⟨a, xs, rfl, _⟩ := h; rfl
  | fls l => obtain ⟨a, xs, rfl, _⟩ := h; rfl
  | fn x => obtain ⟨f, rfl, _⟩ := h; rfl
  | ty b => rw [show v = .ty b from h]; rfl
theorem dCmp_ok {G : Gg} (hK : X.K = G.K) (hu : X.A.units + 65 < cLine) {op : CmpOp} {x y : D} {k : Bool → Prop} (h : dCmp op x y k) : SemC G X (compareOp op) x y k := by
  intro W1 W2 H v w Q rx ry q pins s σ vv ww I rv rw'
  unfold dCmp at h
  split at h
  · rw [show v = .int _ from rx] at rv; rw [show w = .int _ from ry] at rw'
    exact op_lt pins s σ H _ _ _ _ Q I rv rw' ⟨_, _, rfl, rfl, q _ h⟩
  · rw [show v = .int _ from rx] at rv; rw [show w = .int _ from ry] at rw'
    exact op_le pins s σ H _ _ _ _ Q I rv rw' ⟨_, _, rfl, rfl, q _ h⟩
  · rw [show v = .int _ from rx] at rv; rw [show w = .int _ from ry] at rw'
    exact op_gt pins s σ H _ _ _ _ Q I rv rw' ⟨_, _, rfl, rfl, q _ h⟩
  · rw [show v = .int _ from rx] at rv; rw [show w = .int _ from ry] at rw'
    exact op_ge pins s σ H _ _ _ _ Q I rv rw' ⟨_, _, rfl, rfl, q _ h⟩
  · rw [show v = .str _ from rx] at rv; rw [show w = .str _ from ry] at rw'
    exact op_lt_str pins s σ H _ _ _ _ Q I rv rw' ⟨_, _, rfl, rfl, q _ h⟩
  · obtain ⟨⟨h1, h2⟩, h3⟩ := h
    exact op_eqD (by omega) pins s σ H v w _ _ Q I rv rw' ⟨_, _, by rw [hK]; exact Rep.dp _ _ (shp_py h1) rx, by rw [hK]; exact Rep.dp _ _ (shp_py h2) ry, shp_sh h1, shp_sh h2, q _ h3⟩
  · obtain ⟨⟨h1, h2⟩, h3⟩ := h
    exact op_neD (by omega) pins s σ H v w _ _ Q I rv rw' ⟨_, _, by rw [hK]; exact Rep.dp _ _ (shp_py h1) rx, by rw [hK]; exact Rep.dp _ _ (shp_py h2) ry, shp_sh h1, shp_sh h2, q _ h3⟩
  · rw [show v = .str _ from rx] at rv; rw [show w = .str _ from ry] at rw'
    exact op_in_str pins s σ H _ _ _ _ Q I rv rw' ⟨_, _, rfl, rfl, q _ h⟩
  · rw [show v = .str _ from rx] at rv; rw [show w = .str _ from ry] at rw'
    exact op_notin_str pins s σ H _ _ _ _ Q I rv rw' ⟨_, _, rfl, rfl, q _ h⟩
  · obtain ⟨⟨h1, h2⟩, h3⟩ := h
    exact op_inT hu pins s σ H v w _ _ Q I rv rw' ⟨_, _, by rw [hK]; exact Rep.dp _ _ (shp_py h1) rx, by rw [hK]; exact Rep.dp _ _ (shp_py h2) ry, shp_sh h1, shp_sh h2, q _ h3⟩
  · obtain ⟨⟨h1, h2⟩, h3⟩ := h
    exact op_notInT hu pins s σ H v w _ _ Q I rv rw' ⟨_, _, by rw [hK]; exact Rep.dp _ _ (shp_py h1) rx, by rw [hK]; exact Rep.dp _ _ (shp_py h2) ry, shp_sh h1, shp_sh h2, q _ h3⟩
  · exact op_isN pins s σ H v w _ _ Q I rv rw' ⟨ry, by rw [rep_non rx]; exact q _ h⟩
  · exact op_notN pins s σ H v w _ _ Q I rv rw' ⟨ry, by rw [rep_non rx]; exact q _ h⟩
  · exact h.elim
end
end DL
set_option Elab.async false
set_option linter.all false
set_option maxRecDepth 100000
set_option maxHeartbeats 2000000
namespace DL
open PySem PySem.Spec PyProof.Rows L2

/-! ### what a def promises over data -/
abbrev PSpec := List D → (D → Prop) → (Exn → Prop) → Prop
abbrev DSpec := List D → List D → (D → List D → Prop) → Prop
def KpB (a : Addr) (H H' : Hp) : Prop := ∀ b o, b ≠ a → H b = some o → H' b = some o ∨ ∃ ps ps', o = .tbl ps ∧ H' b = some (.tbl ps')
def WD (W : AS) (H : Hp) : Prop := ∀ b, W b → ∃ o, H b = some o
def spP (G : Gg) (n : Nat) (S : PSpec) : Sp := fun vs H Q E => ∃ (W : AS) (ds : List D) (k : D → Prop) (kx : Exn → Prop), ds.length = n ∧ S ds k kx ∧ RepL G.K G.mg W H ds vs ∧ WD W H ∧ LamX.Tabs G.T H ∧
  (∀ d v H', k d → Kp H H' → LamX.Tabs G.T H' → Rep G.K G.mg W H' d v → Q v H') ∧ (∀ x cls dd H', kx x → Kp H H' → LamX.Tabs G.T H' → RepX G W H' x cls dd → E cls dd H')
def spD (G : Gg) (n : Nat) (S : DSpec) : Sp := fun vs H Q _ => ∃ (W : AS) (a : Addr) (xs : List V) (l ds : List D) (vs' : List V) (k : D → List D → Prop), ds.length = n ∧ vs = .ref a :: vs' ∧ S l ds k ∧ H a = some (.lst xs) ∧ W a ∧ RepL G.K G.mg W H l xs ∧
  RepL G.K G.mg W H ds vs' ∧ WD W H ∧ LamX.Tabs G.T H ∧
  (∀ d l' xs' v H', k d l' → KpB a H H' → H' a = some (.lst xs') → RepL G.K G.mg W H' l' xs' → LamX.Tabs G.T H' → Rep G.K G.mg W H' d v → Q v H')

section
variable {G : Gg} {P : Fp} {W : AS} {ρ : Rho} {σ : L2.St} {H H' : Hp}
theorem KpB.le {W : AS} {a : Addr} (h : KpB a H H') (w : W a) : Le W H W H' := ⟨fun _ h => h, fun _ h => .inl h, fun b o n e => h b o (fun z => n (by rw [z]; exact w)) e⟩
/-- the heap goes on where nothing of ours is changed -/
theorem Ag.kp (A : Ag G P W ρ σ H) (h : Kp H H') (t : LamX.Tabs G.T H') : Ag G P W ρ σ H' := by
  have L : Le W H W H' := h.le
  refine ⟨A.len, fun i d e => ?_, fun i l e => ?_, fun i l e => ?_, A.ap, fun b w => ?_, fun b u e n => ?_, A.w0, A.m0, A.wd0, A.wn, t⟩
  · obtain ⟨v, h1, h2⟩ := A.val i d e
    exact ⟨v, h1, Rep.le L d v h2⟩
  · obtain ⟨a, xs, h1, h2, h3, h4, h5⟩ := A.own i l e
    exact ⟨a, xs, h1, h.lst h2, h3, h4, RepL.le L l xs h5⟩
  · obtain ⟨a, xs, h0, h1, h2, h3, h5⟩ := A.io i l e
    exact ⟨a, xs, h0, h1, h.lst h2, h3, RepL.le L l xs h5⟩
  · obtain ⟨o, e⟩ := A.wd b w
    rcases h b o e with q | ⟨_, _, _, q⟩
    · exact ⟨_, q⟩
    · exact ⟨_, q⟩
  · rcases A.fr b u e n with q | ⟨ps, ps', q1, q2⟩
    · exact h b u q
    · rcases h b _ q2 with z | ⟨_, p3, _, z⟩
      · exact .inr ⟨ps, ps', q1, z⟩
      · exact .inr ⟨ps, p3, q1, z⟩
/-- the list of slot i -/
def cont (ρ : Rho) (i : Nat) (l : List D) : Prop := ρ[i]? = some (.own l) ∨ ρ[i]? = some (.io l)
def putL (ρ : Rho) (i : Nat) (l : List D) : Rho := match ρ[i]? with
  | some (.own _) => ρ.set i (.own l)
  | some (.io _) => ρ.set i (.io l)
  | _ => ρ
theorem putL_own {l l' : List D} {i : Nat} (h : ρ[i]? = some (.own l)) : putL ρ i l' = ρ.set i (.own l') := by unfold putL; rw [h]
theorem putL_io {l l' : List D} {i : Nat} (h : ρ[i]? = some (.io l)) : putL ρ i l' = ρ.set i (.io l') := by unfold putL; rw [h]
theorem Ag.at (A : Ag G P W ρ σ H) {i : Nat} {l : List D} (c : cont ρ i l) : ∃ a xs, σ[i]? = some (some (.ref a)) ∧ H a = some (.lst xs) ∧ W a ∧ RepL G.K G.mg W H l xs := by
  rcases c with c | c
  · obtain ⟨a, xs, h1, h2, h3, _, h5⟩ := A.own i l c
    exact ⟨a, xs, h1, h2, h3, h5⟩
  · obtain ⟨a, xs, _, h1, h2, h3, h5⟩ := A.io i l c
    exact ⟨a, xs, h1, h2, h3, h5⟩
theorem cont.lt {i : Nat} {l : List D} (c : cont ρ i l) : i < ρ.length := by
  rcases c with c | c <;> exact (List.getElem?_eq_some_iff.mp c).1
theorem set_at {α : Type} {l : List α} {i j : Nat} {x y : α} (h : (l.set i x)[j]? = some y) : (j = i ∧ x = y) ∨ (j ≠ i ∧ l[j]? = some y) := by
  by_cases e : j = i
  · subst e
    have hl : j < l.length := by
      by_cases hl : j < l.length
      · exact hl
      · rw [List.getElem?_eq_none (by simpa using hl)] at h; cases h
    rw [List.getElem?_set_self hl] at h
    exact .inl ⟨rfl, Option.some.inj h⟩
  · rw [List.getElem?_set_ne (Ne.symm e)] at h
    exact .inr ⟨e, h⟩
/-- the list of slot i is another one, all else as it was -/
theorem Ag.put (A : Ag G P W ρ σ H) {i : Nat} {l l' : List D} {a : Addr} {xs' : List V} (c : cont ρ i l) (hi : σ[i]? = some (some (.ref a))) (h : KpB a H H') (ha : H' a = some (.lst xs')) (r : RepL G.K G.mg W H' l' xs') (t : LamX.Tabs G.T H') :
    Ag G P W (putL ρ i l') σ H' := by
  obtain ⟨a0, xs, q1, q2, q3, _⟩ := A.at c
  rw [hi] at q1; cases q1
  have L : Le W H W H' := h.le q3
  have hl := c.lt
  have ne : ∀ j b, j ≠ i → Mu ρ j → σ[j]? = some (some (.ref b)) → b ≠ a := fun j b n m e z => n (A.ap j i a m (c.elim (fun z => ⟨_, .inl z⟩) (fun z => ⟨_, .inr z⟩)) (by rw [e, z]) hi)
  have stay : ∀ b ys, b ≠ a → H b = some (.lst ys) → H' b = some (.lst ys) := fun b ys n e => by
    rcases h b _ n e with q | ⟨_, _, q, _⟩
    · exact q
    · cases q
  have wd : ∀ b, W b → ∃ o, H' b = some o := fun b w => by
    by_cases n : b = a
    · rw [n]; exact ⟨_, ha⟩
    · obtain ⟨o, e⟩ := A.wd b w
      rcases h b o n e with q | ⟨_, _, _, q⟩
      · exact ⟨_, q⟩
      · exact ⟨_, q⟩
  have frk : ∀ b o, P.H0 b = some o → ¬ P.M b → b ≠ a := fun b o e n z => by
    subst z
    rcases c with c | c
    · obtain ⟨a1, _, z1, _, _, z2, _⟩ := A.own i l c
      rw [hi] at z1; cases z1
      rw [e] at z2; cases z2
    · obtain ⟨a1, _, z0, z1, _⟩ := A.io i l c
      rw [hi] at z1; cases z1
      exact n ⟨i, z0⟩
  have fr : ∀ b o, P.H0 b = some o → ¬ P.M b → H' b = some o ∨ ∃ ps ps', o = .tbl ps ∧ H' b = some (.tbl ps') := fun b o e n => by
    have nb := frk b o e n
    rcases A.fr b o e n with q | ⟨ps, ps', q1, q2⟩
    · exact h b o nb q
    · rcases h b _ nb q2 with z | ⟨_, p3, _, z⟩
      · exact .inr ⟨ps, ps', q1, z⟩
      · exact .inr ⟨ps, p3, q1, z⟩
  have mu : ∀ j (s : Sl), Mu (ρ.set i s) j → Mu ρ j := fun j s m => by
    obtain ⟨m0, hm⟩ := m
    by_cases e : j = i
    · subst e
      exact c.elim (fun z => ⟨_, .inl z⟩) (fun z => ⟨_, .inr z⟩)
    · rw [List.getElem?_set_ne (Ne.symm e)] at hm
      exact ⟨m0, hm⟩
  rcases c with c | c
  · rw [putL_own c]
    obtain ⟨a1, _, z1, _, z3, z4, _⟩ := A.own i l c
    rw [hi] at z1; cases z1
    refine ⟨by rw [List.length_set]; exact A.len, fun j d e => ?_, fun j m e => ?_, fun j m e => ?_, fun j j' b m m' => A.ap j j' b (mu j _ m) (mu j' _ m'), wd, fr, A.w0, A.m0, A.wd0, A.wn, t⟩
    · rcases set_at e with ⟨_, z⟩ | ⟨n, e⟩
      · cases z
      · obtain ⟨v, h1, h2⟩ := A.val j d e
        exact ⟨v, h1, Rep.le L d v h2⟩
    · rcases set_at e with ⟨z, e⟩ | ⟨n, e⟩
      · cases e
        rw [z]
        exact ⟨a, xs', hi, ha, z3, z4, r⟩
      · obtain ⟨b, ys, h1, h2, h3, h4, h5⟩ := A.own j m e
        exact ⟨b, ys, h1, stay b ys (ne j b n ⟨m, .inl e⟩ h1) h2, h3, h4, RepL.le L m ys h5⟩
    · rcases set_at e with ⟨_, z⟩ | ⟨n, e⟩
      · cases z
      · obtain ⟨b, ys, h0, h1, h2, h3, h5⟩ := A.io j m e
        exact ⟨b, ys, h0, h1, stay b ys (ne j b n ⟨m, .inr e⟩ h1) h2, h3, RepL.le L m ys h5⟩
  · rw [putL_io c]
    obtain ⟨a1, _, z0, z1, _, z3, _⟩ := A.io i l c
    rw [hi] at z1; cases z1
    refine ⟨by rw [List.length_set]; exact A.len, fun j d e => ?_, fun j m e => ?_, fun j m e => ?_, fun j j' b m m' => A.ap j j' b (mu j _ m) (mu j' _ m'), wd, fr, A.w0, A.m0, A.wd0, A.wn, t⟩
    · rcases set_at e with ⟨_, z⟩ | ⟨n, e⟩
      · cases z
      · obtain ⟨v, h1, h2⟩ := A.val j d e
        exact ⟨v, h1, Rep.le L d v h2⟩
    · rcases set_at e with ⟨_, z⟩ | ⟨n, e⟩
      · cases z
      · obtain ⟨b, ys, h1, h2, h3, h4, h5⟩ := A.own j m e
        exact ⟨b, ys, h1, stay b ys (ne j b n ⟨m, .inl e⟩ h1) h2, h3, h4, RepL.le L m ys h5⟩
    · rcases set_at e with ⟨z, e⟩ | ⟨n, e⟩
      · cases e
        rw [z]
        exact ⟨a, xs', z0, hi, ha, z3, r⟩
      · obtain ⟨b, ys, h0, h1, h2, h3, h5⟩ := A.io j m e
        exact ⟨b, ys, h0, h1, stay b ys (ne j b n ⟨m, .inr e⟩ h1) h2, h3, RepL.le L m ys h5⟩
end

theorem Lx.put {G : Gg} {P : Fp} {W : AS} {ρ : Rho} {σ : L2.St} {H H' : Hp} {i : Nat} {l l' : List D} {a : Addr} (c : cont ρ i l) (hi : σ[i]? = some (some (.ref a))) (h : KpB a H H') (w : W a) : Lx W ρ σ H (putL ρ i l') H' :=
  ⟨h.le w, fun j m => by
    by_cases e : j = i
    · subst e
      exact c.elim (fun z => ⟨_, .inl z⟩) (fun z => ⟨_, .inr z⟩)
    · obtain ⟨m0, hm⟩ := m
      rcases c with c | c
      · rw [putL_own c, List.getElem?_set_ne (Ne.symm e)] at hm
        exact ⟨m0, hm⟩
      · rw [putL_io c, List.getElem?_set_ne (Ne.symm e)] at hm
        exact ⟨m0, hm⟩, fun b o n e => h b o (fun z => n i (c.elim (fun z => ⟨_, .inl z⟩) (fun z => ⟨_, .inr z⟩)) (by rw [hi, z])) e⟩

/-! ### expressions -/
section
variable {G : Gg} {X : Cx} {ρ : Rho} {k : KD} {kx : KX} {pos : Pos}
theorem ej_int {i : Int} {j : Nat} (h : k (.int i) ρ) : EJ G X (.Constant (.int i) j pos) ρ k kx := fun _ _ _ _ A _ _ _ n _ => toE pe_int (n _ _ _ _ h A Lx.refl rfl)
theorem ej_bl {b : Bool} {j : Nat} (h : k (.bl b) ρ) : EJ G X (.Constant (.bool b) j pos) ρ k kx := fun _ _ _ _ A _ _ _ n _ => toE pe_bl (n _ _ _ _ h A Lx.refl rfl)
theorem ej_non {j : Nat} (h : k .non ρ) : EJ G X (.Constant .none j pos) ρ k kx := fun _ _ _ _ A _ _ _ n _ => toE pe_non (n _ _ _ _ h A Lx.refl rfl)
theorem ej_str {x : Str} {j : Nat} (h : k (.str x) ρ) : EJ G X (.Constant (.str x) j pos) ρ k kx := fun _ _ _ _ A _ _ _ n _ => toE pe_str (n _ _ _ _ h A Lx.refl rfl)
theorem ej_var {i : Nat} {x : Str} {d : D} (hN : X.N[i]? = some x) (hv : Vis X.env.scope x) (hd : (x == ("__debug__" : Str)) = false) (hcd : (x == ("__classdict__" : Str)) = false) (hρ : ρ[i]? = some (.val d)) (h : k d ρ) : EJ G X (.Name x pos) ρ k kx :=
  fun _ _ _ _ A _ _ _ n _ => by
    obtain ⟨v, h1, h2⟩ := A.val i d hρ
    exact toE (pe_var hN hv hd hcd) ⟨v, h1, n _ _ _ _ h A Lx.refl h2⟩
theorem ej_glob {x : Str} {u : Value} {v : V} {d : D} (hg : Gl X x) (hm : X.mg x = some u) (r : RelV v u) (hr : ∀ W H, Rep G.K G.mg W H d v) (hd : (x == ("__debug__" : Str)) = false) (h : k d ρ) : EJ G X (.Name x pos) ρ k kx :=
  fun _ _ _ _ A _ _ _ n _ => toE (pe_glob hg hm r hd) (n _ _ _ _ h A Lx.refl (hr _ _))
/-- an operation as a reading -/
def sR (X : Cx) (f : Value → Value → Sem Value) : R2 := fun x y H Q => ∀ (pins : List (Addr × Obj)) (s : Shared) (σ : L2.St) (vv ww : Value), Inv X pins σ H s → RelV x vv → RelV y ww → wpAny (model X.prog X.w) X.A (f vv ww) (EP X pins σ Q) X.xe s
theorem sR_op {f : Value → Value → Sem Value} : OpR X f (sR X f) := fun pins s σ _ _ _ v u _ I rx ry h => h pins s σ v u I rx ry
/-- two expressions, one behind the other -/
theorem two {a b : Expr} {R : V → V → Hp → Prop} {P : Fp} {W : AS} {σ : L2.St} {H : Hp} {Wx : WX} {kk : D → D → Rho → Prop} (A : Ag G P W ρ σ H) (tk : Takes X Wx) (xp : XP G P W ρ σ H kx Wx)
    (h : EJ G X a ρ (fun x ρ1 => EJ G X b ρ1 (fun y ρ2 => kk x y ρ2) kx) kx)
    (q : ∀ x y ρ2 v w H2, kk x y ρ2 → Ag G P W ρ2 σ H2 → Lx W ρ σ H ρ2 H2 → Rep G.K G.mg W H2 x v → Rep G.K G.mg W H2 y w → R v w H2) :
    sE X a σ H fun v H1 => sE X b σ H1 fun w H2 => R v w H2 :=
  h P W σ H A _ Wx tk (fun x ρ1 v H1 h1 A1 L1 r1 => h1 P W σ H1 A1 _ Wx tk (fun y ρ2 w H2 h2 A2 L2 r2 => q x y ρ2 v w H2 h2 A2 (L1.trans L2) (Rep.le L2.le x v r1) r2) (xp.le L1)) xp
theorem ej_bin {a b : Expr} {op : Operator} (hK : X.K = G.K) (h : EJ G X a ρ (fun x ρ1 => EJ G X b ρ1 (fun y ρ2 => dBin op x y fun z => k z ρ2) kx) kx) : EJ G X (.BinOp a op b pos) ρ k kx := by
  intro P W σ H A Q Wx tk n xp
  refine toE (pe_op sR_op sE_pe sE_pe) (two A tk xp h fun x y ρ2 v w H2 h2 A2 L2 r1 r2 => ?_)
  exact dBin_ok hK h2 P W ρ2 σ H2 A2 v w Q r1 r2 fun z u H' hz A' L' r' => n z ρ2 u H' hz A' (L2.trans (Lx.kp L')) r'
theorem ej_cmp {a b : Expr} {op : CmpOp} (hK : X.K = G.K) (hu : X.A.units + 65 < cLine) (hm : behindInMarks op b = false) (h : EJ G X a ρ (fun x ρ1 => EJ G X b ρ1 (fun y ρ2 => dCmp op x y fun z => k (.bl z) ρ2) kx) kx) : EJ G X (.Compare a [op] [b] pos) ρ k kx := by
  intro P W σ H A Q Wx tk n xp
  refine toE (pe_cmpR sR_op sE_pe sE_pe hm) (two A tk xp h fun x y ρ2 v w H2 h2 A2 L2 r1 r2 => ?_)
  exact dCmp_ok hK hu h2 W W H2 v w Q r1 r2 fun z hz => n _ ρ2 _ H2 hz A2 L2 rfl
theorem tj_cmp {a b : Expr} {op : CmpOp} {kb : Bool → Rho → Prop} (hK : X.K = G.K) (hu : X.A.units + 65 < cLine) (hm : behindInMarks op b = false) (h : EJ G X a ρ (fun x ρ1 => EJ G X b ρ1 (fun y ρ2 => dCmp op x y fun z => kb z ρ2) kx) kx) : TJ G X (.Compare a [op] [b] pos) ρ kb kx := by
  intro P W σ H A Q Wx tk n xp
  refine toT (pt_cmpR sR_op sE_pe sE_pe hm) (two A tk xp h fun x y ρ2 v w H2 h2 A2 L2 r1 r2 => ?_)
  exact dCmp_ok hK hu h2 W W H2 v w _ r1 r2 fun z hz => ⟨z, rfl, n _ ρ2 H2 hz A2 L2⟩
/-- a list that is grown compared: the left one a name -/
theorem own_left {i : Nat} {x : Str} {b : Expr} {p : Pos} {R : V → V → Hp → Prop} {P : Fp} {W : AS} {σ : L2.St} {H : Hp} {Wx : WX} {kk : List D → D → Rho → Prop} (A : Ag G P W ρ σ H) (tk : Takes X Wx) (xp : XP G P W ρ σ H kx Wx)
    (hN : X.N[i]? = some x) (hv : Vis X.env.scope x) (hd : (x == ("__debug__" : Str)) = false) (hcd : (x == ("__classdict__" : Str)) = false) {l0 : List D} (hρ : cont ρ i l0)
    (h : EJ G X b ρ (fun y ρ2 => ∃ l, cont ρ2 i l ∧ kk l y ρ2) kx)
    (q : ∀ l y ρ2 v w H2, kk l y ρ2 → Ag G P W ρ2 σ H2 → Lx W ρ σ H ρ2 H2 → Rep G.K G.mg (fun _ => False) H2 (.lst l) v → Rep G.K G.mg W H2 y w → R v w H2) :
    sE X (.Name x p) σ H fun v H1 => sE X b σ H1 fun w H2 => R v w H2 := by
  obtain ⟨a, xs, h1, _, _, _⟩ := A.at hρ
  refine toE (pe_var hN hv hd hcd) ⟨.ref a, h1, ?_⟩
  refine h P W σ H A _ Wx tk (fun y ρ2 w H2 ⟨l, c, h2⟩ A2 L2 r2 => ?_) xp
  obtain ⟨a', xs', e1, e2, _, r'⟩ := A2.at c
  rw [h1] at e1; cases e1
  exact q l y ρ2 _ w H2 h2 A2 L2 ⟨a, xs', rfl, ⟨e2, fun z => z⟩, RepL.sub (fun _ z => z.elim) _ _ r'⟩ r2
theorem ej_cmpO {i : Nat} {x : Str} {b : Expr} {op : CmpOp} {p : Pos} {l0 : List D} (hK : X.K = G.K) (hu : X.A.units + 65 < cLine) (hm : behindInMarks op b = false) (hN : X.N[i]? = some x) (hv : Vis X.env.scope x) (hd : (x == ("__debug__" : Str)) = false) (hcd : (x == ("__classdict__" : Str)) = false) (hρ : cont ρ i l0)
    (h : EJ G X b ρ (fun y ρ2 => ∃ l, cont ρ2 i l ∧ dCmp op (.lst l) y fun z => k (.bl z) ρ2) kx) : EJ G X (.Compare (.Name x p) [op] [b] pos) ρ k kx := by
  intro P W σ H A Q Wx tk n xp
  refine toE (pe_cmpR sR_op sE_pe sE_pe hm) (own_left A tk xp hN hv hd hcd hρ h fun l y ρ2 v w H2 h2 A2 L2 r1 r2 => ?_)
  exact dCmp_ok hK hu h2 _ W H2 v w Q r1 r2 fun z hz => n _ ρ2 _ H2 hz A2 L2 rfl
theorem tj_cmpO {i : Nat} {x : Str} {b : Expr} {op : CmpOp} {p : Pos} {l0 : List D} {kb : Bool → Rho → Prop} (hK : X.K = G.K) (hu : X.A.units + 65 < cLine) (hm : behindInMarks op b = false) (hN : X.N[i]? = some x) (hv : Vis X.env.scope x) (hd : (x == ("__debug__" : Str)) = false) (hcd : (x == ("__classdict__" : Str)) = false) (hρ : cont ρ i l0)
    (h : EJ G X b ρ (fun y ρ2 => ∃ l, cont ρ2 i l ∧ dCmp op (.lst l) y fun z => kb z ρ2) kx) : TJ G X (.Compare (.Name x p) [op] [b] pos) ρ kb kx := by
  intro P W σ H A Q Wx tk n xp
  refine toT (pt_cmpR sR_op sE_pe sE_pe hm) (own_left A tk xp hN hv hd hcd hρ h fun l y ρ2 v w H2 h2 A2 L2 r1 r2 => ?_)
  exact dCmp_ok hK hu h2 _ W H2 v w _ r1 r2 fun z hz => ⟨z, rfl, n _ ρ2 H2 hz A2 L2⟩
/-- a op b op' c -/
theorem ej_chain {a b c : Expr} {op op' : CmpOp} (hK : X.K = G.K) (hu : X.A.units + 65 < cLine) (hm : lastMarks [op, op'] [b, c] = false)
    (h : EJ G X a ρ (fun x ρ1 => EJ G X b ρ1 (fun y ρ2 => dCmp op x y fun z => if z = true then EJ G X c ρ2 (fun w ρ3 => dCmp op' y w fun z' => k (.bl z') ρ3) kx else k (.bl false) ρ2) kx) kx) : EJ G X (.Compare a [op, op'] [b, c] pos) ρ k kx := by
  intro P W σ H A Q Wx tk n xp
  refine toE (pe_chain sR_op sR_op sE_pe sE_pe sE_pe hm) (two A tk xp h fun x y ρ2 v w H2 h2 A2 L2 r1 r2 => ?_)
  refine dCmp_ok hK hu h2 W W H2 v w _ r1 r2 fun z hz => ⟨z, rfl, ?_⟩
  cases z with
  | false =>
    rw [if_neg Bool.false_ne_true] at hz ⊢
    exact n _ ρ2 _ H2 hz A2 L2 rfl
  | true =>
    rw [if_pos rfl] at hz ⊢
    refine hz P W σ H2 A2 _ Wx tk (fun u ρ3 t H3 h3 A3 L3 r3 => ?_) (xp.le L2)
    exact dCmp_ok hK hu h3 W W H3 w t Q (Rep.le L3.le y w r2) r3 fun z' hz' => n _ ρ3 _ H3 hz' A3 (L2.trans L3) rfl
theorem tj_chain {a b c : Expr} {op op' : CmpOp} {kb : Bool → Rho → Prop} (hK : X.K = G.K) (hu : X.A.units + 65 < cLine) (hm : lastMarks [op, op'] [b, c] = false)
    (h : EJ G X a ρ (fun x ρ1 => EJ G X b ρ1 (fun y ρ2 => dCmp op x y fun z => if z = true then EJ G X c ρ2 (fun w ρ3 => dCmp op' y w fun z' => kb z' ρ3) kx else kb false ρ2) kx) kx) : TJ G X (.Compare a [op, op'] [b, c] pos) ρ kb kx := by
  intro P W σ H A Q Wx tk n xp
  refine toT (pt_chain sR_op sR_op sE_pe sE_pe sE_pe hm) (two A tk xp h fun x y ρ2 v w H2 h2 A2 L2 r1 r2 => ?_)
  refine dCmp_ok hK hu h2 W W H2 v w _ r1 r2 fun z hz => ⟨z, rfl, ?_⟩
  cases z with
  | false =>
    rw [if_neg Bool.false_ne_true] at hz ⊢
    exact ⟨_, rfl, n _ ρ2 H2 hz A2 L2⟩
  | true =>
    rw [if_pos rfl] at hz ⊢
    refine hz P W σ H2 A2 _ Wx tk (fun u ρ3 t H3 h3 A3 L3 r3 => ?_) (xp.le L2)
    exact dCmp_ok hK hu h3 W W H3 w t _ (Rep.le L3.le y w r2) r3 fun z' hz' => ⟨_, rfl, n _ ρ3 H3 hz' A3 (L2.trans L3)⟩
theorem ej_neg {a : Expr} (h : EJ G X a ρ (fun x ρ1 => ∃ i, x = .int i ∧ k (.int (-i)) ρ1) kx) : EJ G X (.UnaryOp .USub a pos) ρ k kx := by
  intro P W σ H A Q Wx tk n xp
  refine toE (pe_un un_neg sE_pe) (h P W σ H A _ Wx tk (fun x ρ1 v H1 ⟨i, e, h1⟩ A1 L1 r1 => ?_) xp)
  subst e
  exact ⟨i, r1, n _ _ _ _ h1 A1 L1 rfl⟩
theorem ej_not {a : Expr} (h : EJ G X a ρ (fun x ρ1 => ∃ b, x = .bl b ∧ k (.bl (!b)) ρ1) kx) : EJ G X (.UnaryOp .Not a pos) ρ k kx := by
  intro P W σ H A Q Wx tk n xp
  refine toE (pe_not sE_pe) (h P W σ H A _ Wx tk (fun x ρ1 v H1 ⟨i, e, h1⟩ A1 L1 r1 => ?_) xp)
  subst e
  exact ⟨i, r1, n _ _ _ _ h1 A1 L1 rfl⟩
theorem tj_not {a : Expr} {kb : Bool → Rho → Prop} (h : TJ G X a ρ (fun b ρ1 => kb (!b) ρ1) kx) : TJ G X (.UnaryOp .Not a pos) ρ kb kx := by
  intro P W σ H A Q Wx tk n xp
  exact toT (pt_not sT_pt) (h P W σ H A _ Wx tk (fun b ρ1 H1 h1 A1 L1 => n _ _ _ h1 A1 L1) xp)
/-- a truth value as a test -/
theorem tj_val {e : Expr} {kb : Bool → Rho → Prop} (he : ∀ whole, isTrue e X.env whole = (do let v ← whole; standAt e.pos; holding [v] (truthy v))) (h : EJ G X e ρ (fun x ρ1 => ∃ b, x = .bl b ∧ kb b ρ1) kx) : TJ G X e ρ kb kx := by
  intro P W σ H A Q Wx tk n xp
  refine toT (pt_val sE_pe he) (h P W σ H A _ Wx tk (fun x ρ1 v H1 ⟨b, e, h1⟩ A1 L1 r1 => ?_) xp)
  subst e
  exact ⟨b, r1, n _ _ _ h1 A1 L1⟩
theorem ej_one {a : Expr} {op : BoolOp} (h : EJ G X a ρ k kx) : EJ G X (.BoolOp op [a] pos) ρ k kx := fun P W σ H A Q Wx tk n xp => toE (pe_one sE_pe) (h P W σ H A Q Wx tk n xp)
theorem ej_and {a b : Expr} {r : List Expr} (h : EJ G X a ρ (fun x ρ1 => ∃ c, x = .bl c ∧ if c = true then EJ G X (.BoolOp .And (b :: r) pos) ρ1 k kx else k (.bl false) ρ1) kx) : EJ G X (.BoolOp .And (a :: b :: r) pos) ρ k kx := by
  intro P W σ H A Q Wx tk n xp
  refine toE (pe_and sE_pe sE_pe) (h P W σ H A _ Wx tk (fun x ρ1 v H1 ⟨c, e, h1⟩ A1 L1 r1 => ?_) xp)
  subst e
  refine ⟨c, r1, ?_⟩
  cases c with
  | true =>
    rw [if_pos rfl] at h1 ⊢
    exact h1 P W σ H1 A1 Q Wx tk (n.le L1) (xp.le L1)
  | false =>
    rw [if_neg Bool.false_ne_true] at h1 ⊢
    exact n _ _ _ _ h1 A1 L1 rfl
theorem ej_or {a b : Expr} {r : List Expr} (h : EJ G X a ρ (fun x ρ1 => ∃ c, x = .bl c ∧ if c = true then k (.bl true) ρ1 else EJ G X (.BoolOp .Or (b :: r) pos) ρ1 k kx) kx) : EJ G X (.BoolOp .Or (a :: b :: r) pos) ρ k kx := by
  intro P W σ H A Q Wx tk n xp
  refine toE (pe_or sE_pe sE_pe) (h P W σ H A _ Wx tk (fun x ρ1 v H1 ⟨c, e, h1⟩ A1 L1 r1 => ?_) xp)
  subst e
  refine ⟨c, r1, ?_⟩
  cases c with
  | false =>
    rw [if_neg Bool.false_ne_true] at h1 ⊢
    exact h1 P W σ H1 A1 Q Wx tk (n.le L1) (xp.le L1)
  | true =>
    rw [if_pos rfl] at h1 ⊢
    exact n _ _ _ _ h1 A1 L1 rfl
theorem tj_bool {e : Expr} {kb : Bool → Rho → Prop} (h : WJ G X e ρ kb kx) : TJ G X e ρ kb kx := fun P W σ H A Q Wx tk n xp => toT (PW.pt sW_pw) (h P W σ H A Q Wx tk n xp)
theorem wj_and1 {a : Expr} {kb : Bool → Rho → Prop} (h : TJ G X a ρ kb kx) : WJ G X (.BoolOp .And [a] pos) ρ kb kx := fun P W σ H A Q Wx tk n xp => toW (pw_and1 sT_pt) (h P W σ H A Q Wx tk n xp)
theorem wj_or1 {a : Expr} {kb : Bool → Rho → Prop} (h : TJ G X a ρ kb kx) : WJ G X (.BoolOp .Or [a] pos) ρ kb kx := fun P W σ H A Q Wx tk n xp => toW (pw_or1 sT_pt) (h P W σ H A Q Wx tk n xp)
theorem wj_and {a b : Expr} {r : List Expr} {kb : Bool → Rho → Prop} (h : TJ G X a ρ (fun c ρ1 => if c = true then WJ G X (.BoolOp .And (b :: r) pos) ρ1 kb kx else kb false ρ1) kx) : WJ G X (.BoolOp .And (a :: b :: r) pos) ρ kb kx := by
  intro P W σ H A Q Wx tk n xp
  refine toW (pw_and sT_pt sW_pw) (h P W σ H A _ Wx tk (fun c ρ1 H1 h1 A1 L1 => ?_) xp)
  cases c with
  | true =>
    rw [if_pos rfl] at h1 ⊢
    exact h1 P W σ H1 A1 Q Wx tk (n.le L1) (xp.le L1)
  | false =>
    rw [if_neg Bool.false_ne_true] at h1 ⊢
    exact n _ _ _ h1 A1 L1
theorem wj_or {a b : Expr} {r : List Expr} {kb : Bool → Rho → Prop} (h : TJ G X a ρ (fun c ρ1 => if c = true then kb true ρ1 else WJ G X (.BoolOp .Or (b :: r) pos) ρ1 kb kx) kx) : WJ G X (.BoolOp .Or (a :: b :: r) pos) ρ kb kx := by
  intro P W σ H A Q Wx tk n xp
  refine toW (pw_or sT_pt sW_pw) (h P W σ H A _ Wx tk (fun c ρ1 H1 h1 A1 L1 => ?_) xp)
  cases c with
  | false =>
    rw [if_neg Bool.false_ne_true] at h1 ⊢
    exact h1 P W σ H1 A1 Q Wx tk (n.le L1) (xp.le L1)
  | true =>
    rw [if_pos rfl] at h1 ⊢
    exact n _ _ _ h1 A1 L1
theorem ej_if {c a b : Expr} (h : TJ G X c ρ (fun t ρ1 => if t = true then EJ G X a ρ1 k kx else EJ G X b ρ1 k kx) kx) : EJ G X (.IfExp c a b pos) ρ k kx := by
  intro P W σ H A Q Wx tk n xp
  refine toE (pe_ifExp sT_pt sE_pe sE_pe) (h P W σ H A _ Wx tk (fun t ρ1 H1 h1 A1 L1 => ?_) xp)
  cases t with
  | true =>
    rw [if_pos rfl] at h1 ⊢
    exact h1 P W σ H1 A1 Q Wx tk (n.le L1) (xp.le L1)
  | false =>
    rw [if_neg Bool.false_ne_true] at h1 ⊢
    exact h1 P W σ H1 A1 Q Wx tk (n.le L1) (xp.le L1)
/-! ### argument lists, displays -/
theorem aj_nil {ka : List D → Rho → Prop} (h : ka [] ρ) : AJ G X [] ρ ka kx := fun _ _ _ _ A _ _ _ n _ => toA pa_nil (n _ _ _ _ h A Lx.refl rfl)
theorem aj_cons {e : Expr} {es : List Expr} {ka : List D → Rho → Prop} (hs : starEach (e :: es) X.env = (false, eval e X.env) :: starEach es X.env) (h : EJ G X e ρ (fun d ρ1 => AJ G X es ρ1 (fun ds ρ2 => ka (d :: ds) ρ2) kx) kx) : AJ G X (e :: es) ρ ka kx := by
  intro P W σ H A Q Wx tk n xp
  refine toA (pa_cons sE_pe sA_pa hs) (h P W σ H A _ Wx tk (fun d ρ1 v H1 h1 A1 L1 r1 => ?_) xp)
  refine h1 P W σ H1 A1 _ Wx tk (fun ds ρ2 vs H2 h2 A2 L2 r2 => ?_) (xp.le L1)
  exact n _ _ _ _ h2 A2 (L1.trans L2) ⟨v, vs, rfl, Rep.le L2.le d v r1, r2⟩
theorem ej_tup {es : List Expr} {x1 : Nat} (h : AJ G X es ρ (fun ds ρ1 => ds.length ≤ sizeLine ∧ k (.tup ds) ρ1) kx) : EJ G X (.Tuple es x1 pos) ρ k kx := by
  intro P W σ H A Q Wx tk n xp
  refine toE (pe_tup sA_pa) (h P W σ H A _ Wx tk (fun ds ρ1 vs H1 ⟨hz, h1⟩ A1 L1 r1 => ⟨by rw [← r1.length]; exact hz, fun p hp => ?_⟩) xp)
  exact n _ _ _ _ h1 (A1.new hp) (L1.trans (Lx.new hp)) ⟨p, vs, rfl, .inl ⟨.inl upd_same, A1.nw hp⟩, RepL.le (Le.new1 hp) _ _ r1⟩
theorem ej_lst {es : List Expr} (h : AJ G X es ρ (fun ds ρ1 => ds.length ≤ sizeLine ∧ k (.lst ds) ρ1) kx) : EJ G X (.List es pos) ρ k kx := by
  intro P W σ H A Q Wx tk n xp
  refine toE (pe_lst sA_pa) (h P W σ H A _ Wx tk (fun ds ρ1 vs H1 ⟨hz, h1⟩ A1 L1 r1 => ⟨by rw [← r1.length]; exact hz, fun p hp => ?_⟩) xp)
  exact n _ _ _ _ h1 (A1.new hp) (L1.trans (Lx.new hp)) ⟨p, vs, rfl, ⟨upd_same, A1.nw hp⟩, RepL.le (Le.new1 hp) _ _ r1⟩
end
end DL
set_option Elab.async false
set_option linter.all false
set_option maxRecDepth 100000
set_option maxHeartbeats 2000000
namespace DL
open PySem PySem.Spec PyProof.Rows L2

/-! ### items -/
def dIx : D → D → (D → Prop) → Prop
  | .tup l, .int i, k => ∃ d, atI l i = some d ∧ k d
  | .lst l, .int i, k => ∃ d, atI l i = some d ∧ k d
  | .fls l, .int i, k => ∃ d, atI l i = some d ∧ k d
  | .str z, .int i, k => z.length ≤ sizeLine ∧ ∃ c, atI z.cps.toList i = some c ∧ k (.str ⟨#[c]⟩)
  | _, _, _ => False
section
variable {K : PySem.W.Frag} {mg : Str → Option Value} {W : AS} {H : Hp}
theorem RepL.atI {l : List D} {xs : List V} {i : Int} {d : D} (h : RepL K mg W H l xs) (e : L2.atI l i = some d) : ∃ x, L2.atI xs i = some x ∧ Rep K mg W H d x := by
  unfold L2.atI at e ⊢
  rw [← h.length]
  cases q : ixN l.length i with
  | none => rw [q] at e; cases e
  | some j =>
    rw [q] at e
    exact h.get e
end
section
variable {G : Gg} {X : Cx} {ρ : Rho} {k : KD} {kx : KX} {pos : Pos}
theorem ej_ix {a b : Expr} (hK : X.K = G.K) (hp : PlainIx b) (h : EJ G X a ρ (fun x ρ1 => EJ G X b ρ1 (fun y ρ2 => dIx x y fun z => k z ρ2) kx) kx) : EJ G X (.Subscript a b pos) ρ k kx := by
  intro P W σ H A Q Wx tk n xp
  refine toE (pe_ix (ix_seq (X := X)) sE_pe sE_pe hp) (two A tk xp h fun x y ρ2 v w H2 h2 A2 L2 r1 r2 => ?_)
  unfold dIx at h2
  split at h2
  · obtain ⟨d, e, hk⟩ := h2
    obtain ⟨a, xs, rfl, ht, hl⟩ := RepL.sqt r1
    obtain ⟨y, e', r'⟩ := hl.atI e
    exact .inr (.inl ⟨a, xs, _, y, rfl, r2, by rw [hK]; exact ht, e', n _ _ _ _ hk A2 L2 r'⟩)
  · obtain ⟨d, e, hk⟩ := h2
    obtain ⟨a, xs, rfl, ht, hl⟩ := RepL.sql r1
    obtain ⟨y, e', r'⟩ := hl.atI e
    exact .inl ⟨a, xs, _, y, rfl, r2, by rw [hK]; exact ht, e', n _ _ _ _ hk A2 L2 r'⟩
  · obtain ⟨d, e, hk⟩ := h2
    obtain ⟨a, xs, rfl, ht, hl⟩ := RepL.sqf r1
    obtain ⟨y, e', r'⟩ := hl.atI e
    exact .inl ⟨a, xs, _, y, rfl, r2, by rw [hK]; exact ht, e', n _ _ _ _ hk A2 L2 r'⟩
  · obtain ⟨hz, c, e, hk⟩ := h2
    exact .inr (.inr ⟨_, _, c, r1, r2, hz, e, n _ _ _ _ hk A2 L2 rfl⟩)
  · exact h2.elim
/-! a part of a list -/
def cutD (l : List D) (lo hi : Option Int) : List D :=
  let b := HT.sIx l.length 0 lo
  (l.drop b).take (HT.sIx l.length l.length hi - b)
theorem RepL.drop {K : PySem.W.Frag} {mg : Str → Option Value} {W : AS} {H : Hp} : ∀ {l : List D} {xs : List V} (i : Nat), RepL K mg W H l xs → RepL K mg W H (l.drop i) (xs.drop i)
  | _, _, 0, h => h
  | [], xs, i + 1, h => by rw [show xs = [] from h]; exact rfl
  | d :: l, xs, i + 1, h => by
    obtain ⟨x, r, rfl, _, q⟩ := h
    exact RepL.drop i q
theorem RepL.take {K : PySem.W.Frag} {mg : Str → Option Value} {W : AS} {H : Hp} : ∀ {l : List D} {xs : List V} (i : Nat), RepL K mg W H l xs → RepL K mg W H (l.take i) (xs.take i)
  | [], xs, i, h => by rw [show xs = [] from h, List.take_nil, List.take_nil]; exact rfl
  | d :: l, xs, 0, h => rfl
  | d :: l, xs, i + 1, h => by
    obtain ⟨x, r, rfl, q1, q⟩ := h
    exact ⟨x, r.take i, rfl, q1, RepL.take i q⟩
theorem RepL.cut {K : PySem.W.Frag} {mg : Str → Option Value} {W : AS} {H : Hp} {l : List D} {xs : List V} (h : RepL K mg W H l xs) (lo hi : Option Int) : RepL K mg W H (cutD l lo hi) (cutV xs lo hi) := by
  unfold cutD L2.cutV
  rw [← h.length]
  exact (h.drop _).take _
theorem ej_from {a b : Expr} {p2 : Pos} (hK : X.K = G.K) (h : EJ G X a ρ (fun x ρ1 => EJ G X b ρ1 (fun y ρ2 => ∃ l j, (x = .lst l ∨ x = .fls l) ∧ y = .int j ∧ k (.lst (cutD l (some j) none)) ρ2) kx) kx) : EJ G X (.Subscript a (.Slice (some b) none none p2) pos) ρ k kx := by
  intro P W σ H A Q Wx tk n xp
  refine toE (pe_slice sl_list sE_pe (po_some sE_pe) po_none) ?_
  refine h P W σ H A _ Wx tk (fun x ρ1 v H1 h1 A1 L1 r1 => ?_) xp
  refine h1 P W σ H1 A1 _ Wx tk (fun y ρ2 w H2 hh A2 L2 r2 => ?_) (xp.le L1)
  obtain ⟨l, j, e1, e2, hk⟩ := hh
  subst e2
  have r1' := Rep.le L2.le x v r1
  obtain ⟨q, xs, rfl, sq, rl⟩ : ∃ q xs, v = .ref q ∧ SqL G.K H2 q xs ∧ RepL G.K G.mg W H2 l xs := by
    rcases e1 with rfl | rfl
    · exact RepL.sql r1'
    · exact RepL.sqf r1'
  refine ⟨j, r2, q, xs, rfl, by rw [hK]; exact sq, fun p hp => ?_⟩
  exact n _ ρ2 _ _ hk (A2.new hp) ((L1.trans L2).trans (Lx.new hp)) ⟨p, _, rfl, ⟨upd_same, A2.nw hp⟩, RepL.le (Le.new1 hp) _ _ (rl.cut _ _)⟩
/-- an item of a list that is grown, its name -/
theorem ej_ixO {i : Nat} {x : Str} {b : Expr} {p : Pos} {l0 : List D} (hK : X.K = G.K) (hp : PlainIx b) (hN : X.N[i]? = some x) (hv : Vis X.env.scope x) (hd : (x == ("__debug__" : Str)) = false) (hcd : (x == ("__classdict__" : Str)) = false) (hρ : cont ρ i l0)
    (h : EJ G X b ρ (fun y ρ2 => ∃ l, cont ρ2 i l ∧ ∃ j d, y = .int j ∧ atI l j = some d ∧ k d ρ2) kx) : EJ G X (.Subscript (.Name x p) b pos) ρ k kx := by
  intro P W σ H A Q Wx tk n xp
  obtain ⟨a, xs, h1, _, _, _⟩ := A.at hρ
  refine toE (pe_ix (ix_list (X := X)) sE_pe sE_pe hp) ?_
  show sE X (.Name x p) σ H fun v H1 => sE X b σ H1 fun w H2 => rIxL X.K v w H2 Q
  refine toE (pe_var hN hv hd hcd) ⟨.ref a, h1, ?_⟩
  refine h P W σ H A _ Wx tk (fun y ρ2 w H2 ⟨l, c, j, d, e, ea, h2⟩ A2 L2 r2 => ?_) xp
  obtain ⟨a', xs', e1, e2, _, r'⟩ := A2.at c
  rw [h1] at e1; cases e1
  subst e
  obtain ⟨z, ez, rz⟩ := r'.atI ea
  exact ⟨a, xs', j, z, rfl, r2, .inl (.inl e2), ez, n _ _ _ _ h2 A2 L2 rz⟩

/-! ### calls of built-ins -/
def SemK (G : Gg) (X : Cx) (f : Value) (ds : List D) (k : D → Prop) : Prop :=
  ∀ P W ρ σ H, Ag G P W ρ σ H → ∀ (vs : List V) (Q : VK), RepL G.K G.mg W H ds vs → (∀ z u H', k z → Ag G P W ρ σ H' → Kp H H' → Rep G.K G.mg W H' z u → Q u H') →
    ∀ (pins : List (Addr × Obj)) (s : Shared) (σ' : L2.St) (us : List Value), Inv X pins σ' H s → Vals vs us → wpAny (model X.prog X.w) X.A (call f us) (EP X pins σ' Q) X.xe s
def tyName : D → String
  | .non => "NoneType"
  | .bl _ => "bool"
  | .int _ => "int"
  | .str _ => "str"
  | .tup _ => "tuple"
  | .lst _ => "list"
  | .fls _ => "list"
  | .fn _ => "?"
  | .ty _ => "?"
def isA (d : D) (n : String) : Bool := tyName d == n || (tyName d == "bool" && n == "int")
def isAOk (d : D) (n : String) : Bool := kitB (tyName d) n == some (isA d n)
def dBi : String → List D → (D → Prop) → Prop
  | "len", [.str x], k => x.length ≤ sizeLine ∧ k (.int x.length)
  | "len", [.tup l], k => k (.int l.length)
  | "len", [.lst l], k => k (.int l.length)
  | "len", [.fls l], k => k (.int l.length)
  | "abs", [.int i], k => k (.int (if i < 0 then -i else i))
  | "max", [.int i, .int j], k => k (.int (if j > i then j else i))
  | "min", [.int i, .int j], k => k (.int (if j < i then j else i))
  | "all", [.lst l], k => ∃ bs : List Bool, l = bs.map D.bl ∧ k (.bl (bs.all id))
  | "any", [.lst l], k => ∃ bs : List Bool, l = bs.map D.bl ∧ k (.bl (bs.any id))
  | "sum", [.lst l], k => ∃ ns : List Int, l = ns.map D.int ∧ k (.int ns.sum)
  | "isinstance", [d, .ty n], k => (isAOk d n = true ∧ tyName d ≠ "?") ∧ k (.bl (isA d n))
  | "math.gcd", [.int i, .int j], k => k (.int ((Nat.gcd i.natAbs j.natAbs : Nat) : Int))
  | _, _, _ => False
def dTy : String → List D → (D → Prop) → Prop
  | "int", [.int i], k => k (.int i)
  | "int", [.bl b], k => k (.int (if b then 1 else 0))
  | "tuple", [.lst l], k => k (.tup l)
  | "tuple", [.tup l], k => k (.tup l)
  | "list", [.lst l], k => k (.lst l)
  | "list", [.tup l], k => k (.lst l)
  | "str", [.int i], k => i.natAbs.log2 < 1920 ∧ k (.str (toString i))
  | _, _, _ => False
/-- a def's promise, where no repr is under way -/
structure FnG (P : Program) (w : World) (K : PySem.W.Frag) (mg : Str → Option Value) (base : Heap) (C : CXT) (k : Nat) (f : Addr) (fd : FuncData) (ps : List Str) (sp : Sp) : Prop where
  len : ∀ vs H Q E, sp vs H Q E → vs.length = ps.length
  go : ∀ (A : Around) (outer : List Env) (s : Shared) (H : Hp) (args : Args) (us : List Value) (vs : List V) (Q : VK) (E : XK), A.guards = some [] → Room k A → Env0 P w K mg base A outer s H → BindsTo s fd args (ps.zip us) → Vals vs us → sp vs H Q E → codeAny (model P w) A (.call (.ref f) args) (CR C outer P w H s Q E) s
theorem FnG.of {P : Program} {w : World} {K : PySem.W.Frag} {mg : Str → Option Value} {base : Heap} {C : CXT} {k : Nat} {f : Addr} {fd : FuncData} {ps : List Str} {sp : Sp} (F : FnOk P w K mg base C k f fd ps sp) : FnG P w K mg base C k f fd ps sp := ⟨F.len, fun A outer s H args us vs Q E _ => F.run A outer s H args us vs Q E⟩
section
variable {X : Cx} {CX : CXT} {k : Nat} {f : Addr} {fd : FuncData} {ps : List Str} {sp : Sp} {dvs : List V} {dsv : List Value} {E : L2.St → XK} {x : Str} {p pos : Pos} {e : Expr} {es : List Expr} {t : TA}
theorem run_G {pins : List (Addr × Obj)} {σ : L2.St} {H : Hp} {s : Shared} {Q : VK} {us : List Value} {vs : List V} (F : FnG X.prog X.w X.K X.mg X.base CX k f fd ps sp) (gd : X.A.guards = some []) (hr : Room k X.A) (hb : Binds X.K fd ps dsv) (hd : Vals dvs dsv) (hx : PassesAt CX X σ (E σ))
    (I : Inv X pins σ H s) (r : Vals vs us) (h : sp (vs ++ dvs) H Q (E σ)) : wpAny (model X.prog X.w) X.A (call (.ref f) us) (EP X pins σ Q) X.xe s := by
  have both : Vals (vs ++ dvs) (us ++ dsv) := r.append hd
  have n : (us ++ dsv).length = ps.length := both.length.symm.trans (F.len _ _ _ _ h)
  refine wpAny_call (codeAny_mono (F.go X.A X.stack s H ⟨us, []⟩ _ _ Q (E σ) gd hr I.env0 (hb s us I.kIn n) both h) ?_)
  rintro (er | (_ | _ | _ | _)) s' z
  all_goals first | exact hx pins H s er s' I z | exact I.after z | exact False.elim z
theorem pe_callG (F : FnG X.prog X.w X.K X.mg X.base CX k f fd ps sp) (gd : X.A.guards = some []) (hr : Room k X.A) (hg : Gl X x) (hm : X.mg x = some (.ref f)) (kk : PySem.W.keepIn X.K (.ref f) = true) (hb : Binds X.K fd ps dsv) (hd : Vals dvs dsv) (hx : ∀ σ, PassesAt CX X σ (E σ))
    (ha : PA X (e :: es) t) (nd : (x == ("__debug__" : Str)) = false) (he : starEach (e :: es) X.env = (false, eval e X.env) :: starEach es X.env) (hpl : (backTo pos (starEach es X.env)).any (·.1) = false) : PE X (.Call (.Name x p) (e :: es) [] pos) (tCallSD sp dvs E t) := ⟨fun pins s σ H Q I h =>
  wpAny_Call_Name_kw (ld_glob I hg hm (PySem.W.callWith_K (h₀ := X.base) I.ok.mod.kin kk (thn (ha.run pos pins s σ H _ I h) fun us s1 ⟨vs, H1, I1, r, q⟩ => ⟨I1.kIn, run_G F gd hr hb hd (hx σ) I1 r q⟩) he hpl) nd)⟩
end
section
variable {K : PySem.W.Frag} {mg : Str → Option Value} {W : AS} {H : Hp}
theorem repL1 {d : D} {vs : List V} (h : RepL K mg W H [d] vs) : ∃ v, vs = [v] ∧ Rep K mg W H d v := by
  obtain ⟨x, r, rfl, h1, h2⟩ := h
  rw [show r = [] from h2]
  exact ⟨x, rfl, h1⟩
theorem repL2 {d e : D} {vs : List V} (h : RepL K mg W H [d, e] vs) : ∃ v w, vs = [v, w] ∧ Rep K mg W H d v ∧ Rep K mg W H e w := by
  obtain ⟨x, r, rfl, h1, h2⟩ := h
  obtain ⟨w, rfl, h3⟩ := repL1 h2
  exact ⟨x, w, rfl, h1, h3⟩
theorem repL_bls : ∀ {bs : List Bool} {vs : List V}, RepL K mg W H (bs.map D.bl) vs → vs = bs.map V.bl
  | [], vs, h => h
  | b :: bs, vs, h => by
    obtain ⟨x, r, rfl, h1, h2⟩ := h
    rw [show x = .bl b from h1, repL_bls h2]; rfl
theorem repL_ints : ∀ {ns : List Int} {vs : List V}, RepL K mg W H (ns.map D.int) vs → vs = ns.map V.int
  | [], vs, h => h
  | b :: bs, vs, h => by
    obtain ⟨x, r, rfl, h1, h2⟩ := h
    rw [show x = .int b from h1, repL_ints h2]; rfl
theorem Rep.tyX {d : D} {v : V} (h : Rep K mg W H d v) (n : tyName d ≠ "?") : TyX K H v (.type (tyName d)) := by
  cases d with
  | non => rw [show v = .non from h]; exact .base .non
  | bl b => rw [show v = .bl b from h]; exact .base (.bl b)
  | int b => rw [show v = .int b from h]; exact .base (.int b)
  | str b => rw [show v = .str b from h]; exact .base (.str b)
  | tup l =>
    obtain ⟨a, xs, rfl, r, _⟩ := h
    rcases r with ⟨r | ⟨o, r⟩, _⟩ | ⟨o, its, n, hk, hc, _⟩
    · exact .base (.tup r)
    · exact .fTuple r
    · exact .kTuple hk hc
  | lst l => obtain ⟨a, xs, rfl, r, _⟩ := h; exact .base (.lst r.1)
  | fls l =>
    obtain ⟨a, xs, rfl, r, _⟩ := h
    rcases r with ⟨r | ⟨o, r⟩, _⟩ | ⟨o, its, n, hk, hc, _⟩
    · exact .base (.lst r)
    · exact .base (.frz r)
    · exact .kList hk hc
  | fn x => exact absurd rfl n
  | ty x => exact absurd rfl n
end
theorem dBi_ok (hK : X.K = G.K) (hc : X.calm = true) {id : String} {ds : List D} {k : D → Prop} (h : dBi id ds k) : SemK G X (.builtin id) ds k := by
  intro P W ρ σ0 H A vs Q rx q pins s σ us I rv
  unfold dBi at h
  split at h
  · obtain ⟨v, rfl, r⟩ := repL1 rx
    rw [show v = .str _ from r] at rv
    exact call_len_str pins s σ H _ us Q I rv ⟨_, rfl, h.1, q _ _ _ h.2 A (Kp.refl _) rfl⟩
  · obtain ⟨v, rfl, r⟩ := repL1 rx
    obtain ⟨a, xs, rfl, ht, hl⟩ := RepL.sqt r
    exact call_len_seq pins s σ H _ us Q I rv ⟨a, xs, rfl, .inr (by rw [hK]; exact ht), by rw [← hl.length]; exact q _ _ _ h A (Kp.refl _) rfl⟩
  · obtain ⟨v, rfl, r⟩ := repL1 rx
    obtain ⟨a, xs, rfl, ht, hl⟩ := RepL.sql r
    exact call_len_seq pins s σ H _ us Q I rv ⟨a, xs, rfl, .inl (by rw [hK]; exact ht), by rw [← hl.length]; exact q _ _ _ h A (Kp.refl _) rfl⟩
  · obtain ⟨v, rfl, r⟩ := repL1 rx
    obtain ⟨a, xs, rfl, ht, hl⟩ := RepL.sqf r
    exact call_len_seq pins s σ H _ us Q I rv ⟨a, xs, rfl, .inl (by rw [hK]; exact ht), by rw [← hl.length]; exact q _ _ _ h A (Kp.refl _) rfl⟩
  · obtain ⟨v, rfl, r⟩ := repL1 rx
    rw [show v = .int _ from r] at rv
    exact call_abs pins s σ H _ us Q I rv ⟨_, rfl, q _ _ _ h A (Kp.refl _) rfl⟩
  · obtain ⟨v, w, rfl, r1, r2⟩ := repL2 rx
    rw [show v = .int _ from r1, show w = .int _ from r2] at rv
    exact call_max2 hc pins s σ H _ us Q I rv ⟨_, _, rfl, q _ _ _ h A (Kp.refl _) rfl⟩
  · obtain ⟨v, w, rfl, r1, r2⟩ := repL2 rx
    rw [show v = .int _ from r1, show w = .int _ from r2] at rv
    exact call_min2 hc pins s σ H _ us Q I rv ⟨_, _, rfl, q _ _ _ h A (Kp.refl _) rfl⟩
  · obtain ⟨bs, rfl, h⟩ := h
    obtain ⟨v, rfl, r⟩ := repL1 rx
    obtain ⟨a, xs, rfl, ht, hl⟩ := RepL.sql r
    exact cr_all hc pins s σ H _ us Q I rv ⟨a, bs, rfl, by rw [hK, ← repL_bls hl]; exact ht, q _ _ _ h A (Kp.refl _) rfl⟩
  · obtain ⟨bs, rfl, h⟩ := h
    obtain ⟨v, rfl, r⟩ := repL1 rx
    obtain ⟨a, xs, rfl, ht, hl⟩ := RepL.sql r
    exact cr_any hc pins s σ H _ us Q I rv ⟨a, bs, rfl, by rw [hK, ← repL_bls hl]; exact ht, q _ _ _ h A (Kp.refl _) rfl⟩
  · obtain ⟨ns, rfl, h⟩ := h
    obtain ⟨v, rfl, r⟩ := repL1 rx
    obtain ⟨a, xs, rfl, ht, hl⟩ := RepL.sql r
    exact cr_sum hc pins s σ H _ us Q I rv ⟨a, ns, rfl, by rw [hK, ← repL_ints hl]; exact ht, q _ _ _ h A (Kp.refl _) rfl⟩
  · obtain ⟨⟨h1, h2⟩, h3⟩ := h
    obtain ⟨v, w, rfl, r1, r2⟩ := repL2 rx
    rw [show w = .ty _ from r2] at rv
    exact call_isi pins s σ H _ us Q I rv ⟨v, _, _, _, _, rfl, .ty _, by rw [hK]; exact r1.tyX h2, kit_ty (beq_iff_eq.mp h1), q _ _ _ h3 A (Kp.refl _) rfl⟩
  · obtain ⟨v, w, rfl, r1, r2⟩ := repL2 rx
    rw [show v = .int _ from r1, show w = .int _ from r2] at rv
    exact cr_gcd pins s σ H _ us Q I rv ⟨_, _, rfl, q _ _ _ h A (Kp.refl _) rfl⟩
  · exact h.elim
theorem dTy_ok (hK : X.K = G.K) {T : String} {ds : List D} {k : D → Prop} (h : dTy T ds k) : SemK G X (.type T) ds k := by
  intro P W ρ σ0 H A vs Q rx q pins s σ us I rv
  unfold dTy at h
  split at h
  · obtain ⟨v, rfl, r⟩ := repL1 rx
    rw [show v = .int _ from r] at rv
    exact call_int1 pins s σ H _ us Q I rv (.inl ⟨_, rfl, q _ _ _ h A (Kp.refl _) rfl⟩)
  · obtain ⟨v, rfl, r⟩ := repL1 rx
    rw [show v = .bl _ from r] at rv
    exact call_int1 pins s σ H _ us Q I rv (.inr ⟨_, rfl, q _ _ _ h A (Kp.refl _) rfl⟩)
  · obtain ⟨v, rfl, r⟩ := repL1 rx
    obtain ⟨a, xs, rfl, ht, hl⟩ := RepL.sql r
    exact call_tuple_of pins s σ H _ us Q I rv ⟨a, xs, rfl, .inl ⟨by rw [hK]; exact ht, fun p hp => q _ _ _ h (A.new hp) (Kp.new hp) ⟨p, xs, rfl, .inl ⟨.inl upd_same, A.nw hp⟩, RepL.le (Le.new1 hp) _ _ hl⟩⟩⟩
  · obtain ⟨v, rfl, r⟩ := repL1 rx
    have r' := r
    obtain ⟨a, xs, rfl, ht, hl⟩ := RepL.sqt r
    exact call_tuple_of pins s σ H _ us Q I rv ⟨a, xs, rfl, .inr ⟨by rw [hK]; exact ht, q _ _ _ h A (Kp.refl _) r'⟩⟩
  · obtain ⟨v, rfl, r⟩ := repL1 rx
    obtain ⟨a, xs, rfl, ht, hl⟩ := RepL.sql r
    exact call_list_of pins s σ H _ us Q I rv ⟨a, xs, rfl, .inl (by rw [hK]; exact ht), fun p hp => q _ _ _ h (A.new hp) (Kp.new hp) ⟨p, xs, rfl, ⟨upd_same, A.nw hp⟩, RepL.le (Le.new1 hp) _ _ hl⟩⟩
  · obtain ⟨v, rfl, r⟩ := repL1 rx
    obtain ⟨a, xs, rfl, ht, hl⟩ := RepL.sqt r
    exact call_list_of pins s σ H _ us Q I rv ⟨a, xs, rfl, .inr (by rw [hK]; exact ht), fun p hp => q _ _ _ h (A.new hp) (Kp.new hp) ⟨p, xs, rfl, ⟨upd_same, A.nw hp⟩, RepL.le (Le.new1 hp) _ _ hl⟩⟩
  · obtain ⟨v, rfl, r⟩ := repL1 rx
    rw [show v = .int _ from r] at rv
    exact call_str_int pins s σ H _ us Q I rv ⟨_, rfl, h.1, q _ _ _ h.2 A (Kp.refl _) rfl⟩
  · exact h.elim
/-- a call as a reading -/
def sC (X : Cx) (f : Value) : List V → Hp → VK → Prop := fun vs H Q => ∀ (pins : List (Addr × Obj)) (s : Shared) (σ : L2.St) (us : List Value), Inv X pins σ H s → Vals vs us → wpAny (model X.prog X.w) X.A (call f us) (EP X pins σ Q) X.xe s
theorem sC_r {f : Value} : CallR X f (sC X f) := fun pins s σ _ _ us _ I r h => h pins s σ us I r
theorem ej_bltn {x : Str} {T : String} (hg : Gl X x) (hm : X.mg x = none) (hv : bootBuiltins x = some (.type T)) (hn : x ≠ "__name__") (hd : (x == ("__debug__" : Str)) = false) (h : k (.ty T) ρ) : EJ G X (.Name x pos) ρ k kx :=
  fun _ _ _ _ A _ _ _ n _ => toE (pe_bltn (v := .ty T) hg hm hv rfl hn hd) (n _ _ _ _ h A Lx.refl rfl)
theorem ej_callB {x : Str} {id : String} {e : Expr} {es : List Expr} {p : Pos} (hK : X.K = G.K) (hc : X.calm = true) (hg : Gl X x) (hm : X.mg x = none) (hv : bootBuiltins x = some (.builtin id)) (hn : x ≠ "__name__") (hdb : (x == ("__debug__" : Str)) = false)
    (he : starEach (e :: es) X.env = (false, eval e X.env) :: starEach es X.env) (hpl : (backTo pos (starEach es X.env)).any (·.1) = false)
    (h : AJ G X (e :: es) ρ (fun ds ρ1 => dBi id ds fun z => k z ρ1) kx) : EJ G X (.Call (.Name x p) (e :: es) [] pos) ρ k kx := by
  intro P W σ H A Q Wx tk n xp
  refine toE (pe_callB sC_r hg hm hv sA_pa hn hdb he hpl) (h P W σ H A _ Wx tk (fun ds ρ1 vs H1 h1 A1 L1 r1 => ?_) xp)
  exact dBi_ok hK hc h1 P W ρ1 σ H1 A1 vs Q r1 fun z u H' hz A' L' r' => n z ρ1 u H' hz A' (L1.trans (Lx.kp L')) r'
theorem ej_callBf {x : Str} {id : String} {e : Expr} {es : List Expr} {p : Pos} (hK : X.K = G.K) (hc : X.calm = true) (hg : Gl X x) (hm : X.mg x = some (.builtin id)) (hdb : (x == ("__debug__" : Str)) = false)
    (he : starEach (e :: es) X.env = (false, eval e X.env) :: starEach es X.env) (hpl : (backTo pos (starEach es X.env)).any (·.1) = false)
    (h : AJ G X (e :: es) ρ (fun ds ρ1 => dBi id ds fun z => k z ρ1) kx) : EJ G X (.Call (.Name x p) (e :: es) [] pos) ρ k kx := by
  intro P W σ H A Q Wx tk n xp
  refine toE (pe_callBfun sC_r hg hm sA_pa hdb he hpl) (h P W σ H A _ Wx tk (fun ds ρ1 vs H1 h1 A1 L1 r1 => ?_) xp)
  exact dBi_ok hK hc h1 P W ρ1 σ H1 A1 vs Q r1 fun z u H' hz A' L' r' => n z ρ1 u H' hz A' (L1.trans (Lx.kp L')) r'
theorem ej_callT {x : Str} {T : String} {e : Expr} {es : List Expr} {p : Pos} (hK : X.K = G.K) (hg : Gl X x) (hm : X.mg x = none) (hv : bootBuiltins x = some (.type T)) (hn : x ≠ "__name__") (hdb : (x == ("__debug__" : Str)) = false)
    (he : starEach (e :: es) X.env = (false, eval e X.env) :: starEach es X.env) (hpl : (backTo pos (starEach es X.env)).any (·.1) = false)
    (h : AJ G X (e :: es) ρ (fun ds ρ1 => dTy T ds fun z => k z ρ1) kx) : EJ G X (.Call (.Name x p) (e :: es) [] pos) ρ k kx := by
  intro P W σ H A Q Wx tk n xp
  refine toE (pe_callTy sC_r hg hm hv sA_pa hn hdb he hpl) (h P W σ H A _ Wx tk (fun ds ρ1 vs H1 h1 A1 L1 r1 => ?_) xp)
  exact dTy_ok hK h1 P W ρ1 σ H1 A1 vs Q r1 fun z u H' hz A' L' r' => n z ρ1 u H' hz A' (L1.trans (Lx.kp L')) r'
/-- tuple(x), x a list that is grown -/
theorem ej_tupO {i : Nat} {x : Str} {p p2 : Pos} {l : List D} (hg : Gl X "tuple") (hm : X.mg "tuple" = none) (hN : X.N[i]? = some x) (hv : Vis X.env.scope x) (hd : (x == ("__debug__" : Str)) = false) (hcd : (x == ("__classdict__" : Str)) = false) (hρ : cont ρ i l)
    (he : starEach [.Name x p2] X.env = (false, eval (.Name x p2) X.env) :: starEach [] X.env) (hpl : (backTo pos (starEach [] X.env)).any (·.1) = false)
    (h : k (.tup l) ρ) : EJ G X (.Call (.Name "tuple" p) [.Name x p2] [] pos) ρ k kx := by
  intro P W σ H A Q Wx tk n xp
  obtain ⟨a, xs, h1, h2, _, h3⟩ := A.at hρ
  refine toE (pe_callTy (r := fun xs H Q => ∃ p ys, xs = [.ref p] ∧ ((SqL X.K H p ys ∧ ∀ l, H l = none → Q (.ref l) (upd H l (.tup ys))) ∨ (SqT X.K H p ys ∧ Q (.ref p) H))) call_tuple_of hg hm (by decide +kernel) (pa_cons (pe_var hN hv hd hcd) pa_nil he) (by decide) (by decide) he hpl) ?_
  exact ⟨.ref a, h1, a, xs, rfl, .inl ⟨.inl (.inl h2), fun q hq => n _ _ _ _ h (A.new hq) (Lx.new hq) ⟨q, xs, rfl, .inl ⟨.inl upd_same, A.nw hq⟩, RepL.le (Le.new1 hq) _ _ h3⟩⟩⟩

/-! ### calls of own defs -/
theorem ej_call {j m : Nat} {f : Addr} {fd : FuncData} {ps : List Str} {S : PSpec} {x : Str} {e : Expr} {es : List Expr} {p : Pos} {dds : List D} {dvs : List V} {dsv : List Value} (hG : X.K = G.K ∧ X.mg = G.mg)
    (F : FnG X.prog X.w X.K X.mg X.base (L2.CX X.prog X.w) j f fd ps (spP G m S)) (gd : X.A.guards = some []) (hr : Room j X.A) (hg : Gl X x) (hm : X.mg x = some (.ref f)) (hk : PySem.W.keepIn X.K (.ref f) = true) (hb : Binds X.K fd ps dsv) (hd : Vals dvs dsv) (hdr : ∀ W H, RepL G.K G.mg W H dds dvs)
    (hdb : (x == ("__debug__" : Str)) = false) (he : starEach (e :: es) X.env = (false, eval e X.env) :: starEach es X.env) (hpl : (backTo pos (starEach es X.env)).any (·.1) = false)
    (h : AJ G X (e :: es) ρ (fun ds ρ1 => (ds ++ dds).length = m ∧ S (ds ++ dds) (fun z => k z ρ1) (fun x => kx x ρ1)) kx) : EJ G X (.Call (.Name x p) (e :: es) [] pos) ρ k kx := by
  intro P W σ H A Q Wx tk n xp
  refine toE (pe_callG (E := WE Wx) F gd hr hg hm hk hb hd (fun σ => passAt tk σ) sA_pa hdb he hpl) (h P W σ H A _ Wx tk (fun ds ρ1 vs H1 ⟨hl, h1⟩ A1 L1 r1 => ?_) xp)
  refine ⟨W, ds ++ dds, _, _, hl, h1, r1.app (hdr W H1), A1.wd, A1.tb, fun d v H' hz kp tb r' => ?_, fun x cls dd H' hz kp tb r' => ?_⟩
  · exact n _ _ _ _ hz (A1.kp kp tb) (L1.trans (Lx.kp kp)) r'
  · exact xp _ _ _ _ _ hz (A1.kp kp tb) (L1.trans (Lx.kp kp)) r'
theorem ej_callD {j m i : Nat} {f : Addr} {fd : FuncData} {ps : List Str} {S : DSpec} {x y : Str} {es : List Expr} {p p2 : Pos} {l0 : List D} (hG : X.K = G.K ∧ X.mg = G.mg)
    (F : FnG X.prog X.w X.K X.mg X.base (L2.CX X.prog X.w) j f fd ps (spD G m S)) (gd : X.A.guards = some []) (hr : Room j X.A) (hg : Gl X x) (hm : X.mg x = some (.ref f)) (hk : PySem.W.keepIn X.K (.ref f) = true) (hb : Binds X.K fd ps [])
    (hdb : (x == ("__debug__" : Str)) = false) (he : starEach (.Name y p2 :: es) X.env = (false, eval (.Name y p2) X.env) :: starEach es X.env) (hpl : (backTo pos (starEach es X.env)).any (·.1) = false)
    (hN : X.N[i]? = some y) (hv : Vis X.env.scope y) (hd : (y == ("__debug__" : Str)) = false) (hcd : (y == ("__classdict__" : Str)) = false) (hρ : cont ρ i l0)
    (h : AJ G X es ρ (fun ds ρ1 => ∃ l, cont ρ1 i l ∧ ds.length = m ∧ S l ds (fun z l' => k z (putL ρ1 i l'))) kx) : EJ G X (.Call (.Name x p) (.Name y p2 :: es) [] pos) ρ k kx := by
  intro P W σ H A Q Wx tk n xp
  obtain ⟨a, xs, q1, _, _, _⟩ := A.at hρ
  refine toE (pe_callG (E := WE Wx) F gd hr hg hm hk hb .nil (fun σ => passAt tk σ) (pa_cons (pe_var hN hv hd hcd) sA_pa he) hdb he hpl) ?_
  refine ⟨.ref a, q1, ?_⟩
  refine h P W σ H A _ Wx tk (fun ds ρ1 vs H1 ⟨l, c, hl, h1⟩ A1 L1 r1 => ?_) xp
  obtain ⟨a', xs', e1, e2, w, r'⟩ := A1.at c
  rw [q1] at e1; cases e1
  refine ⟨W, a, xs', l, ds, vs, _, hl, by rw [List.append_nil], h1, e2, w, r', r1, A1.wd, A1.tb, fun d l' xs2 v H' hz kp ha rl tb rd => ?_⟩
  exact n _ _ _ _ hz (A1.put c q1 kp ha rl tb) (L1.trans (Lx.put (G := G) (P := P) c q1 kp w)) rd
end
end DL
set_option Elab.async false
set_option linter.all false
set_option maxRecDepth 100000
set_option maxHeartbeats 2000000
namespace DL
open PySem PySem.Spec PyProof.Rows L2

structure Ek where
  nx : Rho → Prop
  rt : D → Rho → Prop
  bk : Rho → Prop := fun _ => False
  ct : Rho → Prop := fun _ => False
  xc : KX := fun _ _ => False
  rf : List D → Rho → Prop := fun _ _ => False
/-- what stands where a def has ended -/
structure AgE (G : Gg) (P : Fp) (ρ : Rho) (H : Hp) : Prop where
  io : ∀ (i : Nat) (l : List D), ρ[i]? = some (.io l) → ∃ a xs, P.ia i = some a ∧ H a = some (.lst xs) ∧ RepL G.K G.mg P.W0 H l xs
  fr : ∀ b o, P.H0 b = some o → ¬ P.M b → H b = some o ∨ ∃ ps ps', o = .tbl ps ∧ H b = some (.tbl ps')
  tb : LamX.Tabs G.T H
theorem Ag.e {G : Gg} {P : Fp} {W : AS} {ρ : Rho} {σ : L2.St} {H : Hp} (A : Ag G P W ρ σ H) : AgE G P ρ H := ⟨fun i l e => by
  obtain ⟨a, xs, h0, _, h2, _, h5⟩ := A.io i l e
  exact ⟨a, xs, h0, h2, RepL.sub A.w0 _ _ h5⟩, A.fr, A.tb⟩
structure EndsOk (G : Gg) (P : Fp) (W : AS) (H : Hp) (E : Ek) (Dn : Ends) (Wx : WX) : Prop where
  nx : ∀ ρ' W' σ' H', E.nx ρ' → Ag G P W' ρ' σ' H' → Le W H W' H' → Dn.nx σ' H'
  rt : ∀ d ρ' v H', E.rt d ρ' → AgE G P ρ' H' → Rep G.K G.mg P.W0 H' d v → Dn.rt v H'
  bk : ∀ ρ' W' σ' H', E.bk ρ' → Ag G P W' ρ' σ' H' → Le W H W' H' → Dn.bk σ' H'
  ct : ∀ ρ' W' σ' H', E.ct ρ' → Ag G P W' ρ' σ' H' → Le W H W' H' → Dn.ct σ' H'
  xc : ∀ x ρ' W' σ' cls dd H', E.xc x ρ' → Ag G P W' ρ' σ' H' → Le W H W' H' → RepX G W' H' x cls dd → Wx cls dd σ' H'
  rf : ∀ l ρ' a xs H', E.rf l ρ' → AgE G P ρ' H' → P.H0 a = none → ¬ P.W0 a → H' a = some (.lst xs) → RepL G.K G.mg (fun b => P.W0 b ∨ b = a) H' l xs → Dn.rt (.ref a) H'
def SJ (G : Gg) (X : Cx) (st : Stmt) (ρ : Rho) (E : Ek) : Prop := ∀ P W σ H, Ag G P W ρ σ H → ∀ (Dn : Ends) (Wx : WX), Takes X Wx → EndsOk G P W H E Dn Wx → sS X st Dn σ H
def BJ (G : Gg) (X : Cx) (ss : List Stmt) (ρ : Rho) (E : Ek) : Prop := ∀ P W σ H, Ag G P W ρ σ H → ∀ (Dn : Ends) (Wx : WX), Takes X Wx → EndsOk G P W H E Dn Wx → sSs X ss Dn σ H
section
variable {G : Gg} {P : Fp} {W W1 : AS} {H H1 : Hp} {E : Ek} {Dn : Ends} {Wx : WX}
theorem EndsOk.le (e : EndsOk G P W H E Dn Wx) (L : Le W H W1 H1) : EndsOk G P W1 H1 E Dn Wx :=
  ⟨fun ρ' W' σ' H' h A l => e.nx ρ' W' σ' H' h A (L.trans l), e.rt, fun ρ' W' σ' H' h A l => e.bk ρ' W' σ' H' h A (L.trans l), fun ρ' W' σ' H' h A l => e.ct ρ' W' σ' H' h A (L.trans l),
    fun x ρ' W' σ' cls dd H' h A l r => e.xc x ρ' W' σ' cls dd H' h A (L.trans l) r, e.rf⟩
theorem EndsOk.xp {ρ : Rho} {σ : L2.St} (e : EndsOk G P W H E Dn Wx) : XP G P W ρ σ H E.xc Wx := fun x ρ' cls dd H' h A L r => e.xc x ρ' W σ cls dd H' h A L.le r
end
section
variable {G : Gg} {X : Cx} {ρ : Rho} {E : Ek} {pos : Pos}
theorem bj_nil (h : E.nx ρ) : BJ G X [] ρ E := fun P W σ H A Dn Wx tk e => toSs pss_nil (e.nx ρ W σ H h A (Le.refl _ _))
theorem bj_cons {st : Stmt} {ss : List Stmt} (h : SJ G X st ρ { E with nx := fun ρ1 => BJ G X ss ρ1 E }) : BJ G X (st :: ss) ρ E := fun P W σ H A Dn Wx tk e =>
  toSs (pss_cons sS_ps sSs_pss) (h P W σ H A { Dn with nx := sSs X ss Dn } Wx tk ⟨fun ρ' W' σ' H' hn A' L => hn P W' σ' H' A' Dn Wx tk (e.le L), e.rt, e.bk, e.ct, e.xc, e.rf⟩)
theorem sj_pass (h : E.nx ρ) : SJ G X (.Pass pos) ρ E := fun P W σ H A Dn Wx tk e => toS ps_pass (e.nx ρ W σ H h A (Le.refl _ _))
theorem sj_break (h : E.bk ρ) : SJ G X (.Break pos) ρ E := fun P W σ H A Dn Wx tk e => toS ps_break (e.bk ρ W σ H h A (Le.refl _ _))
theorem sj_continue (h : E.ct ρ) : SJ G X (.Continue pos) ρ E := fun P W σ H A Dn Wx tk e => toS ps_continue (e.ct ρ W σ H h A (Le.refl _ _))
theorem sj_if {c : Expr} {a b : List Stmt} (h : TJ G X c ρ (fun t ρ1 => if t = true then BJ G X a ρ1 E else BJ G X b ρ1 E) E.xc) : SJ G X (.If c a b pos) ρ E := fun P W σ H A Dn Wx tk e =>
  toS (ps_if sT_pt sSs_pss sSs_pss) (h P W σ H A _ Wx tk (fun t ρ1 H1 h1 A1 L1 => by
    cases t with
    | true => exact (show BJ G X a ρ1 E from h1) P W σ H1 A1 Dn Wx tk (e.le L1.le)
    | false => exact (show BJ G X b ρ1 E from h1) P W σ H1 A1 Dn Wx tk (e.le L1.le)) e.xp)
theorem sj_ret {e : Expr} (h : EJ G X e ρ E.rt E.xc) : SJ G X (.Return (some e) pos) ρ E := fun P W σ H A Dn Wx tk en =>
  toS (ps_ret sE_pe) (h P W σ H A _ Wx tk (fun d ρ1 v H1 h1 A1 L1 r1 => en.rt d ρ1 v H1 h1 A1.e (Rep.sub A1.w0 _ _ r1)) en.xp)
theorem sj_retN (h : E.rt .non ρ) : SJ G X (.Return none pos) ρ E := fun P W σ H A Dn Wx tk en => toS ps_retN (en.rt .non ρ _ H h A.e rfl)
theorem sj_retO {i : Nat} {x : Str} {p : Pos} {l : List D} (hN : X.N[i]? = some x) (hv : Vis X.env.scope x) (hd : (x == ("__debug__" : Str)) = false) (hcd : (x == ("__classdict__" : Str)) = false) (hρ : ρ[i]? = some (.own l)) (h : E.rt (.lst l) ρ) :
    SJ G X (.Return (some (.Name x p)) pos) ρ E := fun P W σ H A Dn Wx tk en => by
  obtain ⟨a, xs, h1, h2, h3, h4, h5⟩ := A.own i l hρ
  refine toS (ps_ret (pe_var hN hv hd hcd)) ⟨.ref a, h1, en.rt _ ρ _ H h A.e ⟨a, xs, rfl, ⟨h2, fun z => ?_⟩, RepL.sub A.w0 _ _ h5⟩⟩
  obtain ⟨o, e⟩ := A.wd0 a z
  rw [h4] at e; cases e
theorem sj_expr {e : Expr} (hs : swapsWith e none pos.line X.env = pure false) (h : EJ G X e ρ (fun _ ρ1 => E.nx ρ1) E.xc) : SJ G X (.Expr e pos) ρ E := fun P W σ H A Dn Wx tk en =>
  toS (ps_expr sE_pe hs) (h P W σ H A _ Wx tk (fun d ρ1 v H1 h1 A1 L1 r1 => en.nx ρ1 W σ H1 h1 A1 L1.le) en.xp)
theorem sj_doc {x : Str} {j : Nat} {p : Pos} (h : E.nx ρ) : SJ G X (.Expr (.Constant (.str x) j p) pos) ρ E := fun P W σ H A Dn Wx tk e => toS ps_doc (e.nx ρ W σ H h A (Le.refl _ _))

/-! ### stores to names -/
def noIo (ρ : Rho) (i : Nat) : Bool := match ρ[i]? with
  | some (.io _) => false
  | _ => true
theorem mu_set {ρ : Rho} {i j : Nat} {s : Sl} (m : Mu (ρ.set i s) j) : (j = i ∧ ((∃ l, s = .own l) ∨ ∃ l, s = .io l)) ∨ (j ≠ i ∧ Mu ρ j) := by
  obtain ⟨l, m⟩ := m
  rcases m with m | m <;> rcases set_at m with ⟨e, q⟩ | ⟨e, q⟩
  · exact .inl ⟨e, .inl ⟨l, q⟩⟩
  · exact .inr ⟨e, l, .inl q⟩
  · exact .inl ⟨e, .inr ⟨l, q⟩⟩
  · exact .inr ⟨e, l, .inr q⟩
section
variable {P : Fp} {W : AS} {σ : L2.St} {H : Hp}
theorem Ag.setV (A : Ag G P W ρ σ H) {i : Nat} {d : D} {v : V} (hi : i < ρ.length) (r : Rep G.K G.mg W H d v) : Ag G P W (ρ.set i (.val d)) (σ.set i (some v)) H := by
  have hs : i < σ.length := by rw [← A.len]; exact hi
  have at_ : ∀ (j : Nat), j ≠ i → (σ.set i (some v))[j]? = σ[j]? := fun j n => List.getElem?_set_ne (Ne.symm n)
  have mu : ∀ j, Mu (ρ.set i (.val d)) j → j ≠ i ∧ Mu ρ j := fun j m => by
    rcases mu_set m with ⟨_, ⟨_, z⟩ | ⟨_, z⟩⟩ | z
    · cases z
    · cases z
    · exact z
  refine ⟨by rw [List.length_set, List.length_set]; exact A.len, fun j d' e => ?_, fun j l e => ?_, fun j l e => ?_, fun j j' a m m' e e' => ?_, A.wd, A.fr, A.w0, A.m0, A.wd0, A.wn, A.tb⟩
  · rcases set_at e with ⟨z, q⟩ | ⟨n, e⟩
    · cases q
      rw [z]
      exact ⟨v, List.getElem?_set_self hs, r⟩
    · obtain ⟨u, h1, h2⟩ := A.val j d' e
      exact ⟨u, by rw [at_ j n]; exact h1, h2⟩
  · rcases set_at e with ⟨_, q⟩ | ⟨n, e⟩
    · cases q
    · obtain ⟨a, xs, h1, h2, h3, h4, h5⟩ := A.own j l e
      exact ⟨a, xs, by rw [at_ j n]; exact h1, h2, h3, h4, h5⟩
  · rcases set_at e with ⟨_, q⟩ | ⟨n, e⟩
    · cases q
    · obtain ⟨a, xs, h0, h1, h2, h3, h5⟩ := A.io j l e
      exact ⟨a, xs, h0, by rw [at_ j n]; exact h1, h2, h3, h5⟩
  · obtain ⟨n, m⟩ := mu j m
    obtain ⟨n', m'⟩ := mu j' m'
    rw [at_ j n] at e
    rw [at_ j' n'] at e'
    exact A.ap j j' a m m' e e'
/-- a list becomes slot i's own -/
theorem Ag.setO (A : Ag G P W ρ σ H) {i : Nat} {l : List D} {a : Addr} {xs : List V} (hi : i < ρ.length) (ha : H a = some (.lst xs)) (w : W a) (h0 : P.H0 a = none) (r : RepL G.K G.mg W H l xs) (nw : ∀ j, Mu ρ j → σ[j]? ≠ some (some (.ref a))) :
    Ag G P W (ρ.set i (.own l)) (σ.set i (some (.ref a))) H := by
  have hs : i < σ.length := by rw [← A.len]; exact hi
  have at_ : ∀ (j : Nat), j ≠ i → (σ.set i (some (.ref a)))[j]? = σ[j]? := fun j n => List.getElem?_set_ne (Ne.symm n)
  refine ⟨by rw [List.length_set, List.length_set]; exact A.len, fun j d' e => ?_, fun j m e => ?_, fun j m e => ?_, fun j j' b m m' e e' => ?_, A.wd, A.fr, A.w0, A.m0, A.wd0, A.wn, A.tb⟩
  · rcases set_at e with ⟨_, q⟩ | ⟨n, e⟩
    · cases q
    · obtain ⟨u, h1, h2⟩ := A.val j d' e
      exact ⟨u, by rw [at_ j n]; exact h1, h2⟩
  · rcases set_at e with ⟨z, q⟩ | ⟨n, e⟩
    · cases q
      rw [z]
      exact ⟨a, xs, List.getElem?_set_self hs, ha, w, h0, r⟩
    · obtain ⟨b, ys, h1, h2, h3, h4, h5⟩ := A.own j m e
      exact ⟨b, ys, by rw [at_ j n]; exact h1, h2, h3, h4, h5⟩
  · rcases set_at e with ⟨_, q⟩ | ⟨n, e⟩
    · cases q
    · obtain ⟨b, ys, h0, h1, h2, h3, h5⟩ := A.io j m e
      exact ⟨b, ys, h0, by rw [at_ j n]; exact h1, h2, h3, h5⟩
  · rcases mu_set m with ⟨z, _⟩ | ⟨n, m⟩
    · rcases mu_set m' with ⟨z', _⟩ | ⟨n', m'⟩
      · rw [z, z']
      · exfalso
        rw [z, List.getElem?_set_self hs] at e
        cases e
        rw [at_ j' n'] at e'
        exact nw j' m' e'
    · rcases mu_set m' with ⟨z', _⟩ | ⟨n', m'⟩
      · exfalso
        rw [z', List.getElem?_set_self hs] at e'
        cases e'
        rw [at_ j n] at e
        exact nw j m e
      · rw [at_ j n] at e
        rw [at_ j' n'] at e'
        exact A.ap j j' b m m' e e'
end
/-- what a name's store asks of the context -/
structure NmOk (X : Cx) (i : Nat) (x : Str) : Prop where
  nd : X.N.Nodup
  at_ : X.N[i]? = some x
  loc : Loc X.env.scope x
  fn : X.fn x = true ∨ X.env.scope.names.lookup x = some .local
theorem NmOk.lt {P : Fp} {W : AS} {σ : L2.St} {H : Hp} {i : Nat} {x : Str} (n : NmOk X i x) (hl : ρ.length = X.N.length) : i < ρ.length := by
  rw [hl]; exact (List.getElem?_eq_some_iff.mp n.at_).1
theorem sj_set {i : Nat} {x : Str} {e : Expr} {p : Pos} (n : NmOk X i x) (hs : swapsWith e (some (.Name x p)) pos.line X.env = pure false)
    (h : EJ G X e ρ (fun d ρ1 => (i < ρ1.length ∧ noIo ρ1 i = true) ∧ E.nx (ρ1.set i (.val d))) E.xc) : SJ G X (.Assign [.Name x p] e pos) ρ E := fun P W σ H A Dn Wx tk en =>
  toS (ps_set n.nd n.at_ n.loc sE_pe hs n.fn) (h P W σ H A _ Wx tk (fun d ρ1 v H1 h1 A1 L1 r1 => en.nx _ W _ H1 h1.2 (A1.setV h1.1.1 r1) L1.le) en.xp)

/-! ### a list that is new -/
abbrev AS.add (W : AS) (a : Addr) : AS := fun b => W b ∨ b = a
structure Ly (W : AS) (ρ : List Sl) (σ : L2.St) (H : Hp) (a : Addr) (ρ' : List Sl) (H' : Hp) : Prop where
  le : Le W H (W.add a) H'
  sh : shape ρ ρ'
  fk : Fk ρ σ H H'
theorem Lx.newW {W : AS} {ρ ρ1 : List Sl} {σ : L2.St} {H H1 : Hp} {p : Addr} {o : HO} (L : Lx W ρ σ H ρ1 H1) (h : H1 p = none) (L2 : Le W H1 (W.add p) (upd H1 p o)) : Ly W ρ σ H p ρ1 (upd H1 p o) :=
  ⟨L.le.trans L2, L.sh, (L.trans (Lx.new h)).fk⟩
def NPf (G : Gg) (P : Fp) (W : AS) (ρ : Rho) (σ : L2.St) (H : Hp) (k : List D → Rho → Prop) (Q : VK) : Prop := ∀ l ρ' a xs H', k l ρ' → H a = none → H' a = some (.lst xs) → RepL G.K G.mg (W.add a) H' l xs → Ag G P (W.add a) ρ' σ H' → Ly W ρ σ H a ρ' H' → Q (.ref a) H'
def FJ (G : Gg) (X : Cx) (e : Expr) (ρ : Rho) (k : List D → Rho → Prop) (kx : KX) : Prop :=
  ∀ P W σ H, Ag G P W ρ σ H → ∀ (Q : VK) (Wx : WX), Takes X Wx → NPf G P W ρ σ H k Q → XP G P W ρ σ H kx Wx → sE X e σ H Q
theorem le_none {W W' : AS} {H H' : Hp} (L : Le W H W' H') (w : ∀ b, W b → ∃ o, H' b = some o) {p : Addr} (h : H' p = none) : H p = none := by
  cases e : H p with
  | none => rfl
  | some o =>
    by_cases n : W p
    · obtain ⟨u, q⟩ := w p n
      rw [h] at q; cases q
    · rcases L.keep p o n e with q | ⟨_, _, _, q⟩ <;> rw [h] at q <;> cases q
theorem fj_lst {es : List Expr} {k : List D → Rho → Prop} {kx : KX} (h : AJ G X es ρ (fun ds ρ1 => ds.length ≤ sizeLine ∧ k ds ρ1) kx) : FJ G X (.List es pos) ρ k kx := by
  intro P W σ H A Q Wx tk n xp
  refine toE (pe_lst sA_pa) (h P W σ H A _ Wx tk (fun ds ρ1 vs H1 ⟨hz, h1⟩ A1 L1 r1 => ⟨by rw [← r1.length]; exact hz, fun p hp => ?_⟩) xp)
  obtain ⟨A2, L2⟩ := A1.newW (o := .lst vs) hp
  exact n _ _ p vs _ h1 (le_none L1.le A1.wd hp) upd_same (RepL.le L2 _ _ r1) A2 (L1.newW hp L2)
theorem own_new {P : Fp} {W : AS} {σ : L2.St} {H : Hp} (A : Ag G P W ρ σ H) {a : Addr} (h : H a = none) : P.H0 a = none ∧ ∀ j, Mu ρ j → σ[j]? ≠ some (some (.ref a)) := by
  constructor
  · cases e : P.H0 a with
    | none => rfl
    | some o =>
      by_cases m : P.M a
      · exact absurd (A.m0 a m) (A.nw h)
      · rcases A.fr a o e m with q | ⟨_, _, _, q⟩ <;> rw [h] at q <;> cases q
  · intro j m e
    obtain ⟨l, m⟩ := m
    have c : cont ρ j l := m
    obtain ⟨a', xs, e1, e2, _⟩ := A.at c
    rw [e] at e1; cases e1
    rw [h] at e2; cases e2
theorem sj_setF {i : Nat} {x : Str} {e : Expr} {p : Pos} (n : NmOk X i x) (hs : swapsWith e (some (.Name x p)) pos.line X.env = pure false)
    (h : FJ G X e ρ (fun l ρ1 => (i < ρ1.length ∧ noIo ρ1 i = true) ∧ E.nx (ρ1.set i (.own l))) E.xc) : SJ G X (.Assign [.Name x p] e pos) ρ E := fun P W σ H A Dn Wx tk en =>
  toS (ps_set n.nd n.at_ n.loc sE_pe hs n.fn) (h P W σ H A _ Wx tk (fun l ρ1 a xs H1 h1 ha hb r1 A1 L1 => by
    obtain ⟨h0, hm⟩ := own_new A ha
    exact en.nx _ _ _ H1 h1.2 (A1.setO h1.1.1 hb (.inr rfl) h0 r1 fun j m => hm j (L1.sh j m)) L1.le) en.xp)
end
end DL
set_option Elab.async false
set_option linter.all false
set_option maxRecDepth 100000
set_option maxHeartbeats 2000000
namespace DL
open PySem PySem.Spec PyProof.Rows L2

section
variable {G : Gg} {X : Cx} {ρ : Rho} {E : Ek} {pos : Pos}
/-! ### targets: names in a tuple -/
def stores : List Nat → List D → Rho → Rho
  | i :: is, d :: ds, ρ => stores is ds (ρ.set i (.val d))
  | _, _, ρ => ρ
def storesOk (n : Nat) : List Nat → Rho → Bool
  | [], ρ => ρ.length == n
  | i :: is, ρ => decide (i < ρ.length) && noIo ρ i && storesOk n is (ρ.set i (.val .non))
def tgt (X : Cx) : List Expr → List Nat → Prop
  | [], [] => True
  | .Name x _ :: es, i :: is => NmOk X i x ∧ tgt X es is
  | _, _ => False
def asOk (X : Cx) : List Expr → Prop
  | [] => True
  | e :: es => (assignEach (e :: es) X.env).map (·.2) = assign e X.env :: (assignEach es X.env).map (·.2) ∧ asOk X es
def gNames : List Nat → TGs
  | [] => gNil
  | i :: is => gCons (gName i) (gNames is)
theorem pgs_names : ∀ {es : List Expr} {is : List Nat}, tgt X es is → asOk X es → PGs X es (gNames is)
  | [], [], _, _ => pgs_nil
  | .Name x p :: es, i :: is, h, a => pgs_cons (pg_name h.1.nd h.1.at_ h.1.loc h.1.fn) (pgs_names h.2 a.2) a.1
theorem stores_set_len : ∀ (is : List Nat) (ds : List D) (ρ : Rho), (stores is ds ρ).length = ρ.length
  | [], _, _ => rfl
  | _ :: _, [], _ => rfl
  | i :: is, d :: ds, ρ => by
    show (stores is ds (ρ.set i (.val d))).length = _
    rw [stores_set_len is ds, List.length_set]
theorem ag_names {P : Fp} {W : AS} {H : Hp} {Q : L2.St → Hp → Prop} : ∀ (is : List Nat) (ds : List D) (vs : List V) (ρ : Rho) (σ : L2.St), is.length = ds.length → (∀ i ∈ is, i < ρ.length) → Ag G P W ρ σ H → RepL G.K G.mg W H ds vs →
    (∀ σ', Ag G P W (stores is ds ρ) σ' H → Q σ' H) → gNames is vs σ H Q
  | [], [], vs, ρ, σ, _, _, A, r, q => ⟨r, q σ A⟩
  | i :: is, d :: ds, vs, ρ, σ, hl, hi, A, r, q => by
    obtain ⟨v, vr, rfl, r1, r2⟩ := r
    refine ⟨v, vr, rfl, ?_⟩
    exact ag_names is ds vr (ρ.set i (.val d)) (σ.set i (some v)) (by simpa using hl) (fun j hj => by rw [List.length_set]; exact hi j (List.mem_cons_of_mem _ hj)) (A.setV (hi i List.mem_cons_self) r1) r2 q
  | [], _ :: _, _, _, _, hl, _, _, _, _ => by cases hl
  | _ :: _, [], _, _, _, hl, _, _, _, _ => by cases hl
theorem sj_tup {es : List Expr} {is : List Nat} {e : Expr} {c n : Nat} {p : Pos} (hK : X.K = G.K) (hc : X.calm = true) (ht : tgt X es is) (ha : asOk X es) (hn : (assignEach es X.env).length = n) (hst : (assignEach es X.env).findIdx? (·.1) = none)
    (hs : swapsWithSole [.Tuple es c p] e pos.line X.env = pure false) (hw : swappedStores [.Tuple es c p] e X.env = pure none) (h1 : (assignEach [.Tuple es c p] X.env).map (·.2) = [assign (.Tuple es c p) X.env])
    (h : EJ G X e ρ (fun d ρ1 => ∃ l, d = .tup l ∧ (l.length = n ∧ is.length = n ∧ (∀ i ∈ is, i < ρ1.length)) ∧ E.nx (stores is l ρ1)) E.xc) : SJ G X (.Assign [.Tuple es c p] e pos) ρ E := fun P W σ H A Dn Wx tk en =>
  toS (ps_asg sE_pe (pg_tup hc (pgs_names ht ha) hn hst) hs hw h1) (h P W σ H A _ Wx tk (fun d ρ1 v H1 ⟨l, e1, ⟨hl, hi, hlt⟩, h2⟩ A1 L1 r1 => by
    subst e1
    obtain ⟨a, xs, rfl, hq, rl⟩ := RepL.sqt r1
    refine ⟨a, xs, rfl, by rw [hK]; exact hq, by rw [← rl.length]; exact hl, ?_⟩
    exact ag_names is l xs ρ1 σ (by rw [hl, hi]) hlt A1 rl fun σ' A' => en.nx _ _ _ _ h2 A' L1.le) en.xp)
theorem sj_par2 {x y : Str} {i j : Nat} {a b : Expr} {px py pt pt2 : Pos} {kt k2 : Nat} (hc : X.calm = true) (n1 : NmOk X i x) (n2 : NmOk X j y) (hij : i ≠ j) (hx : X.env.scope.names.lookup x = some .local) (hy : X.env.scope.names.lookup y = some .local)
    (hw : swappedStores [.Tuple [.Name x px, .Name y py] kt pt] (.Tuple [a, b] k2 pt2) X.env = pure (some [x, y])) (hs : swapsWithSole [.Tuple [.Name x px, .Name y py] kt pt] (.Tuple [a, b] k2 pt2) pos.line X.env = pure false)
    (h : AJ G X [a, b] ρ (fun ds ρ1 => ∃ d e, ds = [d, e] ∧ (i < ρ1.length ∧ j < ρ1.length) ∧ E.nx ((ρ1.set i (.val d)).set j (.val e))) E.xc) : SJ G X (.Assign [.Tuple [.Name x px, .Name y py] kt pt] (.Tuple [a, b] k2 pt2) pos) ρ E := fun P W σ H A Dn Wx tk en =>
  toS (ps_par hc n1.nd n1.at_ n2.at_ hij hx hy sA_pa hw hs) (h P W σ H A _ Wx tk (fun ds ρ1 vs H1 ⟨d, e, e1, ⟨hi, hj⟩, h2⟩ A1 L1 r1 => by
    subst e1
    obtain ⟨v, w, rfl, r1, r2⟩ := repL2 r1
    refine ⟨v, w, rfl, en.nx _ _ _ _ h2 ((A1.setV hi r1).setV (by rw [List.length_set]; exact hj) r2) L1.le⟩) en.xp)
/-- x, y, z = [], m, n: x grows -/
theorem sj_par3O {x y z : Str} {i j l : Nat} {b c : Expr} {m m' : Int} {px py pz pt pt2 pl : Pos} {kt k2 : Nat} (hc : X.calm = true) (n1 : NmOk X i x) (n2 : NmOk X j y) (n3 : NmOk X l z) (hij : i ≠ j) (hil : i ≠ l) (hjl : j ≠ l)
    (hx : X.env.scope.names.lookup x = some .local) (hy : X.env.scope.names.lookup y = some .local) (hz : X.env.scope.names.lookup z = some .local) (hb : PE X b (tC (.int m))) (hcc : PE X c (tC (.int m')))
    (s1 : starEach [.List [] pl, b, c] X.env = (false, eval (.List [] pl) X.env) :: starEach [b, c] X.env) (s2 : starEach [b, c] X.env = (false, eval b X.env) :: starEach [c] X.env) (s3 : starEach [c] X.env = (false, eval c X.env) :: starEach [] X.env)
    (hw : swappedStores [.Tuple [.Name x px, .Name y py, .Name z pz] kt pt] (.Tuple [.List [] pl, b, c] k2 pt2) X.env = pure (some [x, y, z])) (hs : swapsWithSole [.Tuple [.Name x px, .Name y py, .Name z pz] kt pt] (.Tuple [.List [] pl, b, c] k2 pt2) pos.line X.env = pure false)
    (h : (i < ρ.length ∧ j < ρ.length ∧ l < ρ.length) ∧ E.nx (((ρ.set i (.own [])).set j (.val (.int m))).set l (.val (.int m')))) : SJ G X (.Assign [.Tuple [.Name x px, .Name y py, .Name z pz] kt pt] (.Tuple [.List [] pl, b, c] k2 pt2) pos) ρ E := fun P W σ H A Dn Wx tk en =>
  toS (ps_par3 hc n1.nd n1.at_ n2.at_ n3.at_ hij hil hjl hx hy hz (pa_cons (pe_lst pa_nil) (pa_cons hb (pa_cons hcc pa_nil s3) s2) s1) hw hs) ⟨(by show 0 ≤ sizeLine; decide), fun p hp => by
    obtain ⟨A2, L2⟩ := A.newW (o := .lst []) hp
    obtain ⟨h0, hm⟩ := own_new A hp
    refine ⟨.ref p, .int m, .int m', rfl, en.nx _ _ _ _ h.2 (((A2.setO (i := i) h.1.1 upd_same (.inr rfl) h0 (l := []) rfl hm).setV (i := j) (d := .int m) (by rw [List.length_set]; exact h.1.2.1) rfl).setV (i := l) (d := .int m') (by rw [List.length_set, List.length_set]; exact h.1.2.2) rfl) L2⟩⟩

/-! ### lists that grow -/
theorem sj_append {i : Nat} {x : Str} {e : Expr} {p ap cp : Pos} {l0 : List D} (hK : X.K = G.K) (hN : X.N[i]? = some x) (hv : Vis X.env.scope x) (hd : (x == ("__debug__" : Str)) = false) (hcd : (x == ("__classdict__" : Str)) = false) (hρ : cont ρ i l0)
    (hbase : attributeBase (.Name x p) "append" X.env (eval (.Name x p) X.env) = eval (.Name x p) X.env)
    (hfew : ((backTo cp (starEach (e :: []) X.env)).all (fun x => !x.1) && (backToKw cp (keywordEach [] X.env)).all (fun x => x.1.isSome)
      && decide ((e :: []).length + ([] : List Keyword).length + (if ([] : List Keyword).isEmpty then 0 else 1) < 30)) = true)
    (hline : (ap.endLine == cp.line) = true) (hs : starEach (e :: []) X.env = (false, eval e X.env) :: starEach [] X.env) (hplain : (backTo cp (starEach [] X.env)).any (·.1) = false)
    (hsw : swapsWith (.Call (.Attribute (.Name x p) "append" ap) [e] [] cp) none pos.line X.env = pure false)
    (h : EJ G X e ρ (fun d ρ1 => ∃ l, cont ρ1 i l ∧ l.length < sizeLine ∧ E.nx (putL ρ1 i (l ++ [d]))) E.xc) : SJ G X (.Expr (.Call (.Attribute (.Name x p) "append" ap) [e] [] cp) pos) ρ E := fun P W σ H A Dn Wx tk en => by
  obtain ⟨a, xs, q1, q2, q3, q4⟩ := A.at hρ
  refine toS (ps_expr (pe_bm PySem.F.plainAttrs_list PySem.F.slot_list_append PySem.F.type_list_append mt_append (pe_var hN hv hd hcd) (pa_cons sE_pe pa_nil hs) hbase hfew hline hs hplain) hsw) ?_
  refine ⟨.ref a, q1, .inl ⟨rfl, xs, .inl (.inl q2)⟩, ?_⟩
  refine h P W σ H A _ Wx tk (fun d ρ1 v H1 ⟨l, c, hz, h1⟩ A1 L1 r1 => ?_) en.xp
  obtain ⟨a', xs', e1, e2, w, r'⟩ := A1.at c
  rw [q1] at e1; cases e1
  have kb : KpB a H1 (upd H1 a (.lst (xs' ++ [v]))) := fun b o n e => .inl (by rw [upd_ne n]; exact e)
  refine ⟨a, xs', v, rfl, rfl, e2, by rw [← r'.length]; exact hz, ?_⟩
  have L2 := kb.le w
  refine en.nx _ _ _ _ h1 (A1.put c q1 kb upd_same ?_ ?_) (L1.le.trans L2)
  · exact RepL.le L2 _ _ (r'.app ⟨v, [], rfl, r1, rfl⟩)
  · exact tabs_upd A1.tb e2
where
  tabs_upd {T : Tb} {H : Hp} {a : Addr} {xs ys : List V} (t : LamX.Tabs T H) (e : H a = some (.lst xs)) : LamX.Tabs T (upd H a (.lst ys)) := fun q hq => by
    obtain ⟨ps, h1, h2, h3⟩ := t q hq
    have n1 : q.1 ≠ a := fun z => by rw [z, e] at h1; cases h1
    refine ⟨ps, by rw [upd_ne n1]; exact h1, h2, fun pos cv hc => ?_⟩
    obtain ⟨c, e1, e2⟩ := h3 pos cv hc
    refine ⟨c, e1, ?_⟩
    have n2 : c ≠ a := fun z => by
      rw [z, e] at e2
      unfold LamX.CodeO at e2
      cases e2
    rw [upd_ne n2]; exact e2
theorem tabs_upd {T : Tb} {H : Hp} {a : Addr} {xs ys : List V} (t : LamX.Tabs T H) (e : H a = some (.lst xs)) : LamX.Tabs T (upd H a (.lst ys)) := sj_append.tabs_upd t e
theorem ixN_len {n m : Nat} {i : Int} (h : n = m) : ixN n i = ixN m i := by rw [h]
/-- x[i] = e -/
theorem sj_setItem {i : Nat} {x : Str} {b e : Expr} {p sp : Pos} {l0 : List D} (hN : X.N[i]? = some x) (hv : Vis X.env.scope x) (hd : (x == ("__debug__" : Str)) = false) (hcd : (x == ("__classdict__" : Str)) = false)
    (ha : ∀ v, assign (.Subscript (.Name x p) b sp) X.env v = (do
      let ov ← holding [v] (eval (.Name x p) X.env)
      let iv ← holding [v, ov] (eval b X.env)
      standAt sp
      holding [v, ov, iv] (setItem ov iv v)
      release [v, ov, iv] []))
    (hs : swapsWithSole [.Subscript (.Name x p) b sp] e pos.line X.env = pure false) (hw : swappedStores [.Subscript (.Name x p) b sp] e X.env = pure none) (h1 : (assignEach [.Subscript (.Name x p) b sp] X.env).map (·.2) = [assign (.Subscript (.Name x p) b sp) X.env])
    (h : EJ G X e ρ (fun d ρ1 => (∃ l, cont ρ1 i l) ∧ EJ G X b ρ1 (fun y ρ2 => ∃ l j jj, cont ρ2 i l ∧ y = .int j ∧ ixN l.length j = some jj ∧ E.nx (putL ρ2 i (l.set jj d))) E.xc) E.xc) : SJ G X (.Assign [.Subscript (.Name x p) b sp] e pos) ρ E := fun P W σ H A Dn Wx tk en => by
  refine toS (ps_asg sE_pe (pg_sub (pe_var hN hv hd hcd) sE_pe set_list ha) hs hw h1) (h P W σ H A _ Wx tk (fun d ρ1 v H1 ⟨⟨l1, c1⟩, h2⟩ A1 L1 r1 => ?_) en.xp)
  obtain ⟨a, xs, q1, q2, q3, q4⟩ := A1.at c1
  refine ⟨.ref a, q1, ?_⟩
  refine h2 P W σ H1 A1 _ Wx tk (fun y ρ2 w H2 ⟨l, j, jj, c2, ey, ej, hx⟩ A2 L2 r2 => ?_) (en.le L1.le).xp
  obtain ⟨a', xs', e1, e2, w', r'⟩ := A2.at c2
  rw [q1] at e1; cases e1
  subst ey
  have kb : KpB a H2 (upd H2 a (.lst (xs'.set jj v))) := fun b o n e => .inl (by rw [upd_ne n]; exact e)
  have L3 := kb.le w'
  refine ⟨a, xs', j, jj, rfl, r2, e2, by rw [← r'.length]; exact ej, ?_⟩
  refine en.nx _ _ _ _ hx (A2.put c2 q1 kb upd_same ?_ (tabs_upd A2.tb e2)) ((L1.le.trans L2.le).trans L3)
  exact RepL.le L3 _ _ (RepL.set (Rep.le L2.le d v r1) jj r')

/-! ### loops -/
/-- turns over the data l: what holds ahead of each -/
def Loop (G : Gg) (X : Cx) (j : Nat) (body : List Stmt) (l : List D) (ρ : Rho) (E : Ek) : Prop :=
  ∃ I : Nat → Rho → Prop, I 0 ρ ∧ (∀ i d ρ1, l[i]? = some d → I i ρ1 → (j < ρ1.length ∧ noIo ρ1 j = true) ∧ BJ G X body (ρ1.set j (.val d)) { E with nx := I (i + 1), ct := I (i + 1), bk := E.nx }) ∧ ∀ ρ1, I l.length ρ1 → E.nx ρ1
theorem sj_forL {j : Nat} {x : Str} {iter : Expr} {body : List Stmt} {p : Pos} (hK : X.K = G.K) (hp : PassesOwn (model X.prog X.w) X.A X.env X.xe) (hc : X.calm = true) (n : NmOk X j x) (hs : ∀ x, foldedSetIterable iter X.env x = pure x)
    (h : EJ G X iter ρ (fun d ρ1 => ∃ l, d = .lst l ∧ Loop G X j body l ρ1 E) E.xc) : SJ G X (.For (.Name x p) iter body [] pos) ρ E := fun P W σ H A Dn Wx tk en => by
  refine toS (ps_for hp hc (pi_list sE_pe) (pg_name n.nd n.at_ n.loc n.fn) sSs_pss hs) (h P W σ H A _ Wx tk (fun d ρ1 v H1 ⟨l, e1, I, h0, hst, hd⟩ A1 L1 r1 => ?_) en.xp)
  subst e1
  obtain ⟨a, xs, rfl, ⟨ha, na⟩, rl⟩ := r1
  refine ⟨a, rfl, ⟨xs, .inl (.inl ha)⟩, for_list (xs := xs) (fun i σ' H' => ∃ ρ' W', I i ρ' ∧ Ag G P W' ρ' σ' H' ∧ Le W H1 W' H') ⟨ρ1, W, h0, A1, Le.refl _ _⟩ ?_ ?_ ?_⟩
  · rintro i σ' H' _ ⟨ρ', W', _, _, L'⟩
    rcases L'.keep a _ na ha with q | ⟨_, _, q, _⟩
    · exact .inl (.inl q)
    · cases q
  · rintro i y σ' H' hy ⟨ρ', W', hI, A', L'⟩
    obtain ⟨d, hd1, rd⟩ := rl.getV hy
    obtain ⟨⟨hj, _⟩, hb⟩ := hst i d ρ' hd1 hI
    exact hb P W' _ H' (A'.setV hj (Rep.le L' d y rd)) _ Wx tk ⟨fun ρ2 W2 σ2 H2 h2 A2 L2 => ⟨ρ2, W2, h2, A2, L'.trans L2⟩, en.rt, fun ρ2 W2 σ2 H2 h2 A2 L2 => en.nx ρ2 W2 σ2 H2 h2 A2 ((L1.le.trans L').trans L2),
      fun ρ2 W2 σ2 H2 h2 A2 L2 => ⟨ρ2, W2, h2, A2, L'.trans L2⟩, fun x ρ2 W2 σ2 cls dd H2 h2 A2 L2 r2 => en.xc x ρ2 W2 σ2 cls dd H2 h2 A2 ((L1.le.trans L').trans L2) r2, en.rf⟩
  · rintro σ' H' ⟨ρ', W', hI, A', L'⟩
    rw [← rl.length] at hI
    exact en.nx ρ' W' σ' H' (hd ρ' hI) A' (L1.le.trans L')
theorem sj_forT {j : Nat} {x : Str} {iter : Expr} {body : List Stmt} {p : Pos} (hK : X.K = G.K) (hp : PassesOwn (model X.prog X.w) X.A X.env X.xe) (hc : X.calm = true) (n : NmOk X j x) (hs : ∀ x, foldedSetIterable iter X.env x = pure x)
    (h : EJ G X iter ρ (fun d ρ1 => ∃ l, d = .tup l ∧ Loop G X j body l ρ1 E) E.xc) : SJ G X (.For (.Name x p) iter body [] pos) ρ E := fun P W σ H A Dn Wx tk en => by
  refine toS (ps_for hp hc (pi_tup sE_pe) (pg_name n.nd n.at_ n.loc n.fn) sSs_pss hs) (h P W σ H A _ Wx tk (fun d ρ1 v H1 ⟨l, e1, I, h0, hst, hd⟩ A1 L1 r1 => ?_) en.xp)
  subst e1
  have r1' := r1
  obtain ⟨a, xs, rfl, hq, rl⟩ := r1
  have sq : ∀ {W' : AS} {H' : Hp}, Le W H1 W' H' → SqT X.K H' a xs := fun {W' H'} L' => by
    rw [hK]
    rcases hq with ⟨r, na⟩ | r
    · exact .inl (L'.rd (fun ps z => by cases z) r na).1
    · exact .inr r
  refine ⟨a, rfl, ⟨xs, sq (Le.refl _ _)⟩, for_tup (xs := xs) (fun i σ' H' => ∃ ρ' W', I i ρ' ∧ Ag G P W' ρ' σ' H' ∧ Le W H1 W' H') ⟨ρ1, W, h0, A1, Le.refl _ _⟩ ?_ ?_ ?_⟩
  · rintro i σ' H' _ ⟨ρ', W', _, _, L'⟩
    exact sq L'
  · rintro i y σ' H' hy ⟨ρ', W', hI, A', L'⟩
    obtain ⟨d, hd1, rd⟩ := rl.getV hy
    obtain ⟨⟨hj, _⟩, hb⟩ := hst i d ρ' hd1 hI
    exact hb P W' _ H' (A'.setV hj (Rep.le L' d y rd)) _ Wx tk ⟨fun ρ2 W2 σ2 H2 h2 A2 L2 => ⟨ρ2, W2, h2, A2, L'.trans L2⟩, en.rt, fun ρ2 W2 σ2 H2 h2 A2 L2 => en.nx ρ2 W2 σ2 H2 h2 A2 ((L1.le.trans L').trans L2),
      fun ρ2 W2 σ2 H2 h2 A2 L2 => ⟨ρ2, W2, h2, A2, L'.trans L2⟩, fun x ρ2 W2 σ2 cls dd H2 h2 A2 L2 r2 => en.xc x ρ2 W2 σ2 cls dd H2 h2 A2 ((L1.le.trans L').trans L2) r2, en.rf⟩
  · rintro σ' H' ⟨ρ', W', hI, A', L'⟩
    rw [← rl.length] at hI
    exact en.nx ρ' W' σ' H' (hd ρ' hI) A' (L1.le.trans L')
/-- range(n) as data -/
def upto (n : Int) : List D := (List.range n.toNat).map fun (i : Nat) => D.int (i : Int)
theorem upto_at {n : Int} {i : Nat} (h : i < n.toNat) : (upto n)[i]? = some (.int (i : Int)) := by
  unfold upto
  rw [List.getElem?_map, List.getElem?_range h]; rfl
theorem upto_len (n : Int) : (upto n).length = n.toNat := by unfold upto; rw [List.length_map, List.length_range]
theorem sj_forR {j : Nat} {x : Str} {a : Expr} {body : List Stmt} {p p2 p3 : Pos} (hp : PassesOwn (model X.prog X.w) X.A X.env X.xe) (hc : X.calm = true) (n : NmOk X j x) (hg : Gl X "range") (hm : X.mg "range" = none) (hsa : starEach [a] X.env = (false, eval a X.env) :: starEach [] X.env)
    (hs0 : starEach [a] X.env = [(false, eval a X.env)]) (hs : ∀ x, foldedSetIterable (.Call (.Name "range" p2) [a] [] p3) X.env x = pure x)
    (h : EJ G X a ρ (fun d ρ1 => ∃ m, d = .int m ∧ (-(2 ^ 62) ≤ m ∧ m < 2 ^ 62) ∧ Loop G X j body (upto m) ρ1 E) E.xc) : SJ G X (.For (.Name x p) (.Call (.Name "range" p2) [a] [] p3) body [] pos) ρ E := fun P W σ H A Dn Wx tk en => by
  refine toS (ps_for hp hc (pi_range1 hg hm (pa_cons sE_pe pa_nil hsa) hs0) (pg_name n.nd n.at_ n.loc n.fn) sSs_pss hs) (h P W σ H A _ Wx tk (fun d ρ1 v H1 ⟨m, e1, hb, I, h0, hst, hd⟩ A1 L1 r1 => ?_) en.xp)
  subst e1
  refine ⟨m, by rw [show v = .int m from r1], hb.1, hb.2, for_range (lo := 0) (n := m.toNat) (fun i σ' H' => ∃ ρ' W', I i ρ' ∧ Ag G P W' ρ' σ' H' ∧ Le W H1 W' H') ⟨ρ1, W, h0, A1, Le.refl _ _⟩ ?_ ?_⟩
  · rintro i σ' H' hi ⟨ρ', W', hI, A', L'⟩
    obtain ⟨⟨hj, _⟩, hb⟩ := hst i _ ρ' (upto_at hi) hI
    rw [Int.zero_add]
    exact hb P W' _ H' (A'.setV hj rfl) _ Wx tk ⟨fun ρ2 W2 σ2 H2 h2 A2 L2 => ⟨ρ2, W2, h2, A2, L'.trans L2⟩, en.rt, fun ρ2 W2 σ2 H2 h2 A2 L2 => en.nx ρ2 W2 σ2 H2 h2 A2 ((L1.le.trans L').trans L2),
      fun ρ2 W2 σ2 H2 h2 A2 L2 => ⟨ρ2, W2, h2, A2, L'.trans L2⟩, fun x ρ2 W2 σ2 cls dd H2 h2 A2 L2 r2 => en.xc x ρ2 W2 σ2 cls dd H2 h2 A2 ((L1.le.trans L').trans L2) r2, en.rf⟩
  · rintro σ' H' ⟨ρ', W', hI, A', L'⟩
    exact en.nx ρ' W' σ' H' (hd ρ' (by rw [upto_len]; exact hI)) A' (L1.le.trans L')
theorem sj_while {c : Expr} {body : List Stmt} (hp : PassesOwn (model X.prog X.w) X.A X.env X.xe)
    (h : ∃ M : Nat → Rho → Prop, (∃ m, M m ρ) ∧ ∀ m ρ1, M m ρ1 → TJ G X c ρ1 (fun t ρ2 => if t = true then BJ G X body ρ2 { E with nx := fun ρ3 => ∃ m', m' < m ∧ M m' ρ3, ct := fun ρ3 => ∃ m', m' < m ∧ M m' ρ3, bk := E.nx } else E.nx ρ2) E.xc) :
    SJ G X (.While c body [] pos) ρ E := fun P W σ H A Dn Wx tk en => by
  obtain ⟨M, ⟨m0, h0⟩, hst⟩ := h
  refine toS (ps_while hp sT_pt sSs_pss) ⟨fun m σ' H' => ∃ ρ' W', M m ρ' ∧ Ag G P W' ρ' σ' H' ∧ Le W H W' H', ⟨m0, ρ, W, h0, A, Le.refl _ _⟩, ?_⟩
  rintro m σ' H' ⟨ρ', W', hM, A', L'⟩
  refine hst m ρ' hM P W' σ' H' A' _ Wx tk (fun t ρ2 H2 h2 A2 L2 => ?_) (en.le L').xp
  cases t with
  | true =>
    refine ⟨fun σ3 H3 => ∃ m', m' < m ∧ ∃ ρ3 W3, M m' ρ3 ∧ Ag G P W3 ρ3 σ3 H3 ∧ Le W H W3 H3, fun _ _ z => z, ?_⟩
    have hb : BJ G X body ρ2 { E with nx := fun ρ3 => ∃ m', m' < m ∧ M m' ρ3, ct := fun ρ3 => ∃ m', m' < m ∧ M m' ρ3, bk := E.nx } := h2
    have again : ∀ ρ3 W3 σ3 H3, (∃ m', m' < m ∧ M m' ρ3) → Ag G P W3 ρ3 σ3 H3 → Le W' H2 W3 H3 → ∃ m', m' < m ∧ ∃ ρ3 W3, M m' ρ3 ∧ Ag G P W3 ρ3 σ3 H3 ∧ Le W H W3 H3 := fun ρ3 W3 σ3 H3 ⟨m', hm, h3⟩ A3 L3 => ⟨m', hm, ρ3, W3, h3, A3, (L'.trans L2.le).trans L3⟩
    exact hb P W' σ' H2 A2 _ Wx tk ⟨again, en.rt, fun ρ3 W3 σ3 H3 h3 A3 L3 => en.nx ρ3 W3 σ3 H3 h3 A3 ((L'.trans L2.le).trans L3), again, fun x ρ3 W3 σ3 cls dd H3 h3 A3 L3 r3 => en.xc x ρ3 W3 σ3 cls dd H3 h3 A3 ((L'.trans L2.le).trans L3) r3, en.rf⟩
  | false =>
    exact en.nx ρ2 W' σ' H2 h2 A2 (L'.trans L2.le)
end
end DL
set_option Elab.async false
set_option linter.all false
set_option maxRecDepth 100000
set_option maxHeartbeats 2000000
namespace DL
open PySem PySem.Spec PyProof.Rows L2

/-! ### comprehensions -/
abbrev blkX (X : Cx) (scope : Scope) (s : Shared) (H : Hp) (C : Addr) (cl : List (Str × Addr)) (fp : List Addr) : Cx := X.blk s H scope (compEnvC scope cl C X.env) fp
def sEB (X : Cx) (scope : Scope) (e : Expr) : TE := fun σ H Q => ∀ s H0 C cl fp, sE (blkX X scope s H0 C cl fp) e σ H Q
def sTB (X : Cx) (scope : Scope) (e : Expr) : TT := fun σ H Q => ∀ s H0 C cl fp, sT (blkX X scope s H0 C cl fp) e σ H Q
theorem sEB_pe {X : Cx} {scope : Scope} {e : Expr} (s : Shared) (H0 : Hp) (C : Addr) (cl : List (Str × Addr)) (fp : List Addr) : PE (blkX X scope s H0 C cl fp) e (sEB X scope e) := ⟨fun pins s' σ H Q I h => h s H0 C cl fp pins s' I⟩
theorem sTB_pt {X : Cx} {scope : Scope} {e : Expr} (s : Shared) (H0 : Hp) (C : Addr) (cl : List (Str × Addr)) (fp : List Addr) : PT (blkX X scope s H0 C cl fp) e (sTB X scope e) := ⟨fun pins s' σ H Q I h => h s H0 C cl fp pins s' I⟩
def EB (G : Gg) (X : Cx) (scope : Scope) (e : Expr) (ρ : Rho) (k : KD) : Prop := ∀ s H0 C cl fp, EJ G (blkX X scope s H0 C cl fp) e ρ k (fun _ _ => False)
def TB (G : Gg) (X : Cx) (scope : Scope) (e : Expr) (ρ : Rho) (k : Bool → Rho → Prop) : Prop := ∀ s H0 C cl fp, TJ G (blkX X scope s H0 C cl fp) e ρ k (fun _ _ => False)
theorem EB.go {G : Gg} {X : Cx} {scope : Scope} {e : Expr} {ρ : Rho} {k : KD} {P : Fp} {W : AS} {σ : L2.St} {H : Hp} {Q : VK} (h : EB G X scope e ρ k) (A : Ag G P W ρ σ H) (n : NP G P W ρ σ H k Q) : sEB X scope e σ H Q :=
  fun s H0 C cl fp => h s H0 C cl fp P W σ H A Q _ LamX.takes0 n fun _ _ _ _ _ z => z.elim
theorem TB.go {G : Gg} {X : Cx} {scope : Scope} {e : Expr} {ρ : Rho} {k : Bool → Rho → Prop} {P : Fp} {W : AS} {σ : L2.St} {H : Hp} {Q : Bool → Hp → Prop} (h : TB G X scope e ρ k) (A : Ag G P W ρ σ H) (n : NPb G P W ρ σ H k Q) : sTB X scope e σ H Q :=
  fun s H0 C cl fp => h s H0 C cl fp P W σ H A Q _ LamX.takes0 n fun _ _ _ _ _ z => z.elim

def wipeS (ρ : Rho) : List Nat → Rho
  | [] => ρ
  | v :: vs => (wipeS ρ vs).set v .no
def sameK1 : Sl → Sl → Bool
  | .no, .no => true
  | .val _, .val _ => true
  | .own _, .own _ => true
  | .io _, .io _ => true
  | _, _ => false
def sameK : Rho → Rho → Bool
  | [], [] => true
  | s :: r, t :: q => sameK1 s t && sameK r q
  | _, _ => false
def mrg1 : Sl → Sl → Sl
  | .io _, .io l => .io l
  | .own _, .own l => .own l
  | s, _ => s
def mrg : Rho → Rho → Rho
  | s :: r, t :: q => mrg1 s t :: mrg r q
  | r, [] => r
  | [], _ => []
def muAt (ρ : Rho) (i : Nat) : Bool := match ρ[i]? with
  | some (.own _) => true
  | some (.io _) => true
  | _ => false
theorem muAt_of {ρ : Rho} {i : Nat} (h : muAt ρ i = false) : ¬ Mu ρ i := fun ⟨l, m⟩ => by
  unfold muAt at h
  rcases m with m | m <;> rw [m] at h <;> cases h
theorem sameK_at : ∀ {ρ ρ' : Rho} {i : Nat} {s : Sl}, sameK ρ ρ' = true → ρ[i]? = some s → ∃ t, ρ'[i]? = some t ∧ sameK1 s t = true
  | [], [], i, s, _, h => by simp at h
  | [], _ :: _, _, _, h, _ => by cases h
  | _ :: _, [], _, _, h, _ => by cases h
  | a :: r, b :: q, 0, s, h, e => by
    have h' : (sameK1 a b && sameK r q) = true := h
    rw [Bool.and_eq_true] at h'
    have e' : a = s := by simpa using e
    subst e'
    exact ⟨b, rfl, h'.1⟩
  | a :: r, b :: q, i + 1, s, h, e => by
    have h' : (sameK1 a b && sameK r q) = true := h
    rw [Bool.and_eq_true] at h'
    obtain ⟨t, h1, h2⟩ := sameK_at (i := i) h'.2 (by simpa using e)
    exact ⟨t, by simpa using h1, h2⟩
theorem mrg_at : ∀ {ρ ρ' : Rho} {i : Nat} {s : Sl}, (mrg ρ ρ')[i]? = some s → ∃ a, ρ[i]? = some a ∧ (s = a ∧ (∀ l, a = .own l → ∀ m, ρ'[i]? ≠ some (.own m)) ∧ (∀ l, a = .io l → ∀ m, ρ'[i]? ≠ some (.io m)) ∨ (∃ l m, a = .own l ∧ ρ'[i]? = some (.own m) ∧ s = .own m) ∨ (∃ l m, a = .io l ∧ ρ'[i]? = some (.io m) ∧ s = .io m))
  | [], _, i, s, h => by
    have h' : ([] : Rho)[i]? = some s := by
      cases hq : (‹Rho› : Rho) <;> (rw [hq] at h; exact h)
    simp at h'
  | a :: r, [], i, s, h => by
    have h' : (a :: r)[i]? = some s := h
    exact ⟨s, h', .inl ⟨rfl, fun _ _ m z => by simp at z, fun _ _ m z => by simp at z⟩⟩
  | a :: r, b :: q, 0, s, h => by
    have e : mrg1 a b = s := by simpa [mrg] using h
    refine ⟨a, rfl, ?_⟩
    cases a with
    | no => exact .inl ⟨e.symm, fun _ z => by (cases z), fun _ z => by (cases z)⟩
    | val d => exact .inl ⟨e.symm, fun _ z => by (cases z), fun _ z => by (cases z)⟩
    | own l =>
      cases b with
      | own m => exact .inr (.inl ⟨l, m, rfl, rfl, e.symm⟩)
      | no => exact .inl ⟨e.symm, fun _ _ m z => by simp at z, fun _ z => by (cases z)⟩
      | val d => exact .inl ⟨e.symm, fun _ _ m z => by simp at z, fun _ z => by (cases z)⟩
      | io m => exact .inl ⟨e.symm, fun _ _ m z => by simp at z, fun _ z => by (cases z)⟩
    | io l =>
      cases b with
      | io m => exact .inr (.inr ⟨l, m, rfl, rfl, e.symm⟩)
      | no => exact .inl ⟨e.symm, fun _ z => by (cases z), fun _ _ m z => by simp at z⟩
      | val d => exact .inl ⟨e.symm, fun _ z => by (cases z), fun _ _ m z => by simp at z⟩
      | own m => exact .inl ⟨e.symm, fun _ z => by (cases z), fun _ _ m z => by simp at z⟩
  | a :: r, b :: q, i + 1, s, h => by
    have h' : (mrg r q)[i]? = some s := by simpa [mrg] using h
    obtain ⟨c, h1, h2⟩ := mrg_at h'
    exact ⟨c, by simpa using h1, by simpa using h2⟩
theorem mrg_len : ∀ (ρ ρ' : Rho), (mrg ρ ρ').length = ρ.length
  | [], [] => rfl
  | [], _ :: _ => rfl
  | _ :: _, [] => rfl
  | a :: r, b :: q => by
    show (mrg r q).length + 1 = r.length + 1
    rw [mrg_len r q]
theorem mrg_mu {ρ ρ' : Rho} {i : Nat} (m : Mu (mrg ρ ρ') i) : Mu ρ i := by
  obtain ⟨l, m⟩ := m
  rcases m with m | m <;> obtain ⟨a, h1, ⟨h2, _⟩ | ⟨l', m', h2, _, _⟩ | ⟨l', m', h2, _, _⟩⟩ := mrg_at m
  · exact ⟨l, .inl (by rw [h1, h2])⟩
  · exact ⟨l', .inl (by rw [h1, h2])⟩
  · exact ⟨l', .inr (by rw [h1, h2])⟩
  · exact ⟨l, .inr (by rw [h1, h2])⟩
  · exact ⟨l', .inl (by rw [h1, h2])⟩
  · exact ⟨l', .inr (by rw [h1, h2])⟩
section
variable {G : Gg} {P : Fp} {W W' : AS} {ρ ρ3 : Rho} {σ σ3 : L2.St} {H H3 : Hp}
theorem Ag.clr (A : Ag G P W ρ σ H) (i : Nat) : Ag G P W (ρ.set i .no) (σ.set i none) H := by
  have at_ : ∀ (j : Nat), j ≠ i → (σ.set i none)[j]? = σ[j]? := fun j n => List.getElem?_set_ne (Ne.symm n)
  have mu : ∀ j, Mu (ρ.set i .no) j → j ≠ i ∧ Mu ρ j := fun j m => by
    rcases mu_set m with ⟨_, ⟨_, z⟩ | ⟨_, z⟩⟩ | z
    · cases z
    · cases z
    · exact z
  refine ⟨by rw [List.length_set, List.length_set]; exact A.len, fun j d' e => ?_, fun j l e => ?_, fun j l e => ?_, fun j j' a m m' e e' => ?_, A.wd, A.fr, A.w0, A.m0, A.wd0, A.wn, A.tb⟩
  · rcases set_at e with ⟨_, q⟩ | ⟨n, e⟩
    · cases q
    · obtain ⟨u, h1, h2⟩ := A.val j d' e
      exact ⟨u, by rw [at_ j n]; exact h1, h2⟩
  · rcases set_at e with ⟨_, q⟩ | ⟨n, e⟩
    · cases q
    · obtain ⟨a, xs, h1, h2⟩ := A.own j l e
      exact ⟨a, xs, by rw [at_ j n]; exact h1, h2⟩
  · rcases set_at e with ⟨_, q⟩ | ⟨n, e⟩
    · cases q
    · obtain ⟨a, xs, h0, h1, h2⟩ := A.io j l e
      exact ⟨a, xs, h0, by rw [at_ j n]; exact h1, h2⟩
  · obtain ⟨n, m⟩ := mu j m
    obtain ⟨n', m'⟩ := mu j' m'
    rw [at_ j n] at e
    rw [at_ j' n'] at e'
    exact A.ap j j' a m m' e e'
theorem Ag.wipe (A : Ag G P W ρ σ H) : ∀ vs : List Nat, Ag G P W (wipeS ρ vs) (L2.wipe σ vs) H
  | [] => A
  | v :: vs => (Ag.wipe A vs).clr v
theorem wipeS_len (ρ : Rho) : ∀ vs : List Nat, (wipeS ρ vs).length = ρ.length
  | [] => rfl
  | v :: vs => by
    show ((wipeS ρ vs).set v .no).length = _
    rw [List.length_set, wipeS_len ρ vs]
theorem wipeS_out {i : Nat} : ∀ {vs : List Nat}, i ∉ vs → (wipeS ρ vs)[i]? = ρ[i]?
  | [], _ => rfl
  | v :: vs, h => by
    show ((wipeS ρ vs).set v .no)[i]? = _
    rw [List.getElem?_set_ne (fun e => h (by rw [e]; exact List.mem_cons_self)), wipeS_out fun z => h (List.mem_cons_of_mem _ z)]
theorem wipe_set {j : Nat} {x : Option V} : ∀ {vs : List Nat}, j ∈ vs → ∀ τ : L2.St, L2.wipe (τ.set j x) vs = L2.wipe τ vs
  | [], h, _ => by cases h
  | v :: vs, h, τ => by
    show (L2.wipe (τ.set j x) vs).set v none = (L2.wipe τ vs).set v none
    by_cases hv : j ∈ vs
    · rw [wipe_set hv τ]
    · have e : j = v := by
        rcases List.mem_cons.mp h with e | e
        · exact e
        · exact absurd e hv
      subst e
      have com : ∀ ws : List Nat, j ∉ ws → L2.wipe (τ.set j x) ws = (L2.wipe τ ws).set j x := by
        intro ws
        induction ws with
        | nil => intro _; rfl
        | cons w ws ih =>
          intro hw
          show (L2.wipe (τ.set j x) ws).set w none = ((L2.wipe τ ws).set w none).set j x
          rw [ih fun z => hw (List.mem_cons_of_mem _ z), List.set_comm _ _ (fun e => hw (by rw [e]; exact List.mem_cons_self))]
      rw [com vs hv, List.set_set]
theorem wipe_idem (τ : L2.St) : ∀ vs : List Nat, L2.wipe (L2.wipe τ vs) vs = L2.wipe τ vs := by
  have key : ∀ ws vs : List Nat, (∀ w ∈ ws, w ∈ vs) → L2.wipe (L2.wipe τ ws) vs = L2.wipe τ vs := by
    intro ws vs
    induction ws with
    | nil => intro _; rfl
    | cons w ws ih =>
      intro h
      show L2.wipe ((L2.wipe τ ws).set w none) vs = _
      rw [wipe_set (h w List.mem_cons_self) (L2.wipe τ ws), ih fun z hz => h z (List.mem_cons_of_mem _ hz)]
  exact fun vs => key vs vs fun _ h => h
/-- behind a block: its lists, our values -/
theorem Ag.mrg (A : Ag G P W ρ σ H) (A3 : Ag G P W' ρ3 σ3 H3) (L : Le W H W' H3) (hm : ∀ i, Mu ρ i → σ3[i]? = σ[i]? ∧ ∃ s t, ρ[i]? = some s ∧ ρ3[i]? = some t ∧ sameK1 s t = true) : Ag G P W' (DL.mrg ρ ρ3) σ H3 := by
  have val : ∀ (i : Nat) (d : D), (DL.mrg ρ ρ3)[i]? = some (.val d) → ρ[i]? = some (.val d) := fun i d e => by
    obtain ⟨a, h1, ⟨h2, _⟩ | ⟨_, _, _, _, z⟩ | ⟨_, _, _, _, z⟩⟩ := mrg_at e
    · rw [h1, h2]
    · cases z
    · cases z
  refine ⟨by rw [mrg_len]; exact A.len, fun i d e => ?_, fun i l e => ?_, fun i l e => ?_, fun i j a m m' => A.ap i j a (mrg_mu m) (mrg_mu m'), A3.wd, A3.fr, A3.w0, A3.m0, A.wd0, A3.wn, A3.tb⟩
  · obtain ⟨v, h1, h2⟩ := A.val i d (val i d e)
    exact ⟨v, h1, Rep.le L d v h2⟩
  · obtain ⟨a, h1, ⟨h2, h3, _⟩ | ⟨l', m', h2, h3, z⟩ | ⟨_, _, _, _, z⟩⟩ := mrg_at e
    · exfalso
      obtain ⟨_, s, t, e1, e2, e3⟩ := hm i ⟨l, .inl (by rw [h1, h2])⟩
      rw [h1] at e1; cases e1
      rw [← h2] at e3
      cases t with
      | own m => exact h3 l h2.symm m e2
      | no => cases e3
      | val _ => cases e3
      | io _ => cases e3
    · cases z
      obtain ⟨e0, _⟩ := hm i ⟨l', .inl (by rw [h1, h2])⟩
      obtain ⟨b, xs, q1, q2⟩ := A3.own i l h3
      exact ⟨b, xs, by rw [← e0]; exact q1, q2⟩
    · cases z
  · obtain ⟨a, h1, ⟨h2, _, h3⟩ | ⟨_, _, _, _, z⟩ | ⟨l', m', h2, h3, z⟩⟩ := mrg_at e
    · exfalso
      obtain ⟨_, s, t, e1, e2, e3⟩ := hm i ⟨l, .inr (by rw [h1, h2])⟩
      rw [h1] at e1; cases e1
      rw [← h2] at e3
      cases t with
      | io m => exact h3 l h2.symm m e2
      | no => cases e3
      | val _ => cases e3
      | own _ => cases e3
    · cases z
    · cases z
      obtain ⟨e0, _⟩ := hm i ⟨l', .inr (by rw [h1, h2])⟩
      obtain ⟨b, xs, q0, q1, q2⟩ := A3.io i l h3
      exact ⟨b, xs, q0, by rw [← e0]; exact q1, q2⟩
end
end DL
set_option Elab.async false
set_option linter.all false
set_option maxRecDepth 100000
set_option maxHeartbeats 2000000
namespace DL
open PySem PySem.Spec PyProof.Rows L2

/-- one turn of a comprehension: from acc and ρ, at d -/
def CStep (G : Gg) (X : Cx) (scope : Scope) (vs : List Nat) (j : Nat) (ifs : List Expr) (elt : Expr) (d : D) (acc : List D) (ρ : Rho) (next : List D → Rho → Prop) : Prop :=
  match ifs with
  | [] => EB G X scope elt ((wipeS ρ vs).set j (.val d)) fun y ρ3 => (sameK ((wipeS ρ vs).set j (.val d)) ρ3 = true ∧ acc.length < sizeLine) ∧ next (acc ++ [y]) (mrg ρ ρ3)
  | [c] => TB G X scope c ((wipeS ρ vs).set j (.val d)) fun b ρ2 => sameK ((wipeS ρ vs).set j (.val d)) ρ2 = true ∧
      if b = true then EB G X scope elt ρ2 fun y ρ3 => (sameK ((wipeS ρ vs).set j (.val d)) ρ3 = true ∧ acc.length < sizeLine) ∧ next (acc ++ [y]) (mrg ρ ρ3) else next acc (mrg ρ ρ2)
  | _ => False
def CLoop (G : Gg) (X : Cx) (scope : Scope) (vs : List Nat) (j : Nat) (ifs : List Expr) (elt : Expr) (l : List D) (ρ : Rho) (k : List D → Rho → Prop) : Prop :=
  ∃ J : Nat → List D → Rho → Prop, J 0 [] ρ ∧ (∀ i d acc ρ1, l[i]? = some d → J i acc ρ1 → (j ∈ vs ∧ j < ρ1.length ∧ (vs.all fun v => !muAt ρ1 v) = true) ∧ CStep G X scope vs j ifs elt d acc ρ1 (J (i + 1))) ∧ ∀ acc ρ1, J l.length acc ρ1 → k acc ρ1
def ttOf (X : Cx) (scope : Scope) : List Expr → TT
  | [c] => sTB X scope c
  | _ => tYes
section
variable {G : Gg} {X : Cx} {ρ : Rho} {pos : Pos} {scope : Scope} {own : List (Str × Nat)}
theorem pts_of {ifs : List Expr} (h : ifs = [] ∨ ∃ c, ifs = [c]) (s : Shared) (H : Hp) (C : Addr) (cl : List (Str × Addr)) (fp : List Addr) : PTs (blkX X scope s H C cl fp) ifs (ttOf X scope ifs) := by
  rcases h with rfl | ⟨c, rfl⟩
  · exact pts_nil
  · exact pts_one (sTB_pt s H C cl fp)
/-- what holds between two turns -/
structure CInv (G : Gg) (P : Fp) (W : AS) (ρ0 : Rho) (σ : L2.St) (H1 : Hp) (Dl : Addr) (J : List D → Rho → Prop) (H' : Hp) (ρ' : Rho) (acc : List D) (ws : List V) : Prop where
  j : J acc ρ'
  ag : Ag G P (W.add Dl) ρ' σ H'
  le : Le W H1 (W.add Dl) H'
  fk : Fk ρ0 σ H1 H'
  sh : shape ρ0 ρ'
  at_ : H' Dl = some (.lst ws)
  rep : RepL G.K G.mg (W.add Dl) H' acc ws
theorem CInv.upd {P : Fp} {W : AS} {ρ0 : Rho} {σ : L2.St} {H1 H4 : Hp} {Dl : Addr} {J : List D → Rho → Prop} {ρ' : Rho} {acc : List D} {ws us : List V}
    (hD : H1 Dl = none) (hP : P.H0 Dl = none) (nD : ∀ j, Mu ρ0 j → σ[j]? ≠ some (some (.ref Dl))) (hj : J acc ρ') (ag : Ag G P (W.add Dl) ρ' σ H4) (le : Le W H1 (W.add Dl) H4) (fk : Fk ρ0 σ H1 H4) (sh : shape ρ0 ρ') (at_ : H4 Dl = some (.lst us)) (rep : RepL G.K G.mg (W.add Dl) H4 acc ws) :
    CInv G P W ρ0 σ H1 Dl J (L2.upd H4 Dl (.lst ws)) ρ' acc ws := by
  have kb : KpB Dl H4 (L2.upd H4 Dl (.lst ws)) := fun b o n e => .inl (by rw [upd_ne n]; exact e)
  have L : Le (W.add Dl) H4 (W.add Dl) (L2.upd H4 Dl (.lst ws)) := kb.le (.inr rfl)
  have stay : ∀ b ys, b ≠ Dl → H4 b = some (.lst ys) → L2.upd H4 Dl (.lst ws) b = some (.lst ys) := fun b ys n e => by rw [upd_ne n]; exact e
  have nA : ∀ {i : Nat} {a : Addr}, Mu ρ' i → σ[i]? = some (some (.ref a)) → a ≠ Dl := fun {i a} m e z => nD i (sh i m) (by rw [e, z])
  refine ⟨hj, ⟨ag.len, fun i d e => ?_, fun i l e => ?_, fun i l e => ?_, ag.ap, fun b w => ?_, fun b u e n => ?_, ag.w0, ag.m0, ag.wd0, ag.wn, tabs_upd ag.tb at_⟩, le.trans L, fun b o n e => ?_, sh, upd_same, RepL.le L _ _ rep⟩
  · obtain ⟨v, h1, h2⟩ := ag.val i d e
    exact ⟨v, h1, Rep.le L d v h2⟩
  · obtain ⟨a, xs, h1, h2, h3, h4, h5⟩ := ag.own i l e
    exact ⟨a, xs, h1, stay a xs (nA ⟨l, .inl e⟩ h1) h2, h3, h4, RepL.le L l xs h5⟩
  · obtain ⟨a, xs, h0, h1, h2, h3, h5⟩ := ag.io i l e
    exact ⟨a, xs, h0, h1, stay a xs (nA ⟨l, .inr e⟩ h1) h2, h3, RepL.le L l xs h5⟩
  · by_cases n : b = Dl
    · rw [n]; exact ⟨_, upd_same⟩
    · obtain ⟨o, e⟩ := ag.wd b w
      exact ⟨o, by rw [upd_ne n]; exact e⟩
  · have nb : b ≠ Dl := fun z => by rw [z, hP] at e; cases e
    rcases ag.fr b u e n with q | ⟨ps, ps', q1, q2⟩
    · exact .inl (by rw [upd_ne nb]; exact q)
    · exact .inr ⟨ps, ps', q1, by rw [upd_ne nb]; exact q2⟩
  · have nb : b ≠ Dl := fun z => by rw [z, hD] at e; cases e
    rcases fk b o n e with q | ⟨ps, ps', q1, q2⟩
    · exact .inl (by rw [upd_ne nb]; exact q)
    · exact .inr ⟨ps, ps', q1, by rw [upd_ne nb]; exact q2⟩
/-- one turn, as the hand layer asks it -/
theorem cturn {P : Fp} {W : AS} {ρ0 : Rho} {σ : L2.St} {H1 H' : Hp} {Dl : Addr} {J J' : List D → Rho → Prop} {ρ' : Rho} {acc : List D} {ws : List V} {vs : List Nat} {j : Nat} {ifs : List Expr} {elt : Expr} {d : D} {y : V}
    (hD : H1 Dl = none) (hP : P.H0 Dl = none) (nD : ∀ j, Mu ρ0 j → σ[j]? ≠ some (some (.ref Dl))) (c : CInv G P W ρ0 σ H1 Dl J H' ρ' acc ws) (ry : Rep G.K G.mg (W.add Dl) H' d y) (hj : j ∈ vs) (hl : j < ρ'.length) (hm : (vs.all fun v => !muAt ρ' v) = true)
    (st : CStep G X scope vs j ifs elt d acc ρ' J') :
    gName j y (L2.wipe σ vs) H' fun σ2 H2 => L2.wipe σ2 vs = L2.wipe σ vs ∧ ttOf X scope ifs σ2 H2 fun b H3 =>
      if b = true then sEB X scope elt σ2 H3 fun z H4 => ∃ ac, H4 Dl = some (.lst ac) ∧ ac.length < sizeLine ∧ ∃ ρ2 acc2 ws2, CInv G P W ρ0 σ H1 Dl J' (L2.upd H4 Dl (.lst (ac ++ [z]))) ρ2 acc2 ws2 else ∃ ρ2 acc2 ws2, CInv G P W ρ0 σ H1 Dl J' H3 ρ2 acc2 ws2 := by
  obtain ⟨cj, ag, le, fk, sh, at_, rep⟩ := c
  have out : ∀ i, Mu ρ' i → i ∉ vs := fun i m h => by
    have q := List.all_eq_true.mp hm i h
    simp only [Bool.not_eq_true'] at q
    exact muAt_of q m
  have A0 : Ag G P (W.add Dl) ((wipeS ρ' vs).set j (.val d)) ((L2.wipe σ vs).set j (some y)) H' := (ag.wipe vs).setV (by rw [wipeS_len]; exact hl) ry
  have wout : ∀ i, i ∉ vs → ((L2.wipe σ vs).set j (some y))[i]? = σ[i]? := fun i h => by
    rw [List.getElem?_set_ne (fun e => h (by rw [← e]; exact hj))]
    exact wipe_out h
  have muI : ∀ i, Mu ((wipeS ρ' vs).set j (.val d)) i → Mu ρ' i ∧ i ∉ vs := fun i m => by
    rcases mu_set m with ⟨_, ⟨_, z⟩ | ⟨_, z⟩⟩ | ⟨_, m⟩
    · cases z
    · cases z
    · have hi : i ∉ vs := fun h => by
        have key : ∀ us : List Nat, i ∈ us → ¬ Mu (wipeS ρ' us) i := by
          intro us
          induction us with
          | nil => intro h; cases h
          | cons u us ih =>
            intro h m
            have m' : Mu ((wipeS ρ' us).set u .no) i := m
            rcases mu_set m' with ⟨_, ⟨_, z⟩ | ⟨_, z⟩⟩ | ⟨n, m'⟩
            · cases z
            · cases z
            · rcases List.mem_cons.mp h with e | e
              · exact n e
              · exact ih e m'
        exact key vs h m
      refine ⟨?_, hi⟩
      obtain ⟨l, m⟩ := m
      rw [wipeS_out hi] at m
      exact ⟨l, m⟩
  have nDin : ∀ i, Mu ((wipeS ρ' vs).set j (.val d)) i → ((L2.wipe σ vs).set j (some y))[i]? ≠ some (some (.ref Dl)) := fun i m => by
    obtain ⟨m', h⟩ := muI i m
    rw [wout i h]
    exact nD i (sh i m')
  -- behind the block
  have back : ∀ {ρ3 : Rho} {H3 : Hp}, sameK ((wipeS ρ' vs).set j (.val d)) ρ3 = true → Ag G P (W.add Dl) ρ3 ((L2.wipe σ vs).set j (some y)) H3 → Le (W.add Dl) H' (W.add Dl) H3 → Ag G P (W.add Dl) (mrg ρ' ρ3) σ H3 := fun {ρ3 H3} sk A3 L3 => by
    refine Ag.mrg ag A3 L3 fun i m => ?_
    have hi := out i m
    obtain ⟨l, m0⟩ := m
    have e1 : ((wipeS ρ' vs).set j (.val d))[i]? = ρ'[i]? := by
      rw [List.getElem?_set_ne (fun e => hi (by rw [← e]; exact hj))]
      exact wipeS_out hi
    have ⟨s, hs⟩ : ∃ s, ρ'[i]? = some s := m0.elim (fun z => ⟨_, z⟩) (fun z => ⟨_, z⟩)
    obtain ⟨t, h1, h2⟩ := sameK_at sk (by rw [e1]; exact hs)
    exact ⟨wout i hi, s, t, hs, h1, h2⟩
  have fkb : ∀ {H3 : Hp}, Fk ((wipeS ρ' vs).set j (.val d)) ((L2.wipe σ vs).set j (some y)) H' H3 → Fk ρ0 σ H1 H3 := fun {H3} f b o n e => by
    have n' : ∀ i, Mu ((wipeS ρ' vs).set j (.val d)) i → ((L2.wipe σ vs).set j (some y))[i]? ≠ some (some (.ref b)) := fun i m => by
      obtain ⟨m', h⟩ := muI i m
      rw [wout i h]
      exact n i (sh i m')
    rcases fk b o n e with q | ⟨ps, ps', q1, q2⟩
    · exact f b o n' q
    · rcases f b _ n' q2 with z | ⟨_, p3, _, z⟩
      · exact .inr ⟨ps, ps', q1, z⟩
      · exact .inr ⟨ps, p3, q1, z⟩
  have keepD : ∀ {H3 : Hp}, Fk ((wipeS ρ' vs).set j (.val d)) ((L2.wipe σ vs).set j (some y)) H' H3 → H3 Dl = some (.lst ws) := fun {H3} f => by
    rcases f Dl _ nDin at_ with q | ⟨_, _, q, _⟩
    · exact q
    · cases q
  have shb : ∀ ρ3, shape ρ0 (mrg ρ' ρ3) := fun ρ3 i m => sh i (mrg_mu m)
  refine ⟨by rw [wipe_set hj, wipe_idem], ?_⟩
  have elt_ok : ∀ {ρ2 : Rho} {H3 : Hp}, Ag G P (W.add Dl) ρ2 ((L2.wipe σ vs).set j (some y)) H3 → Lx (W.add Dl) ((wipeS ρ' vs).set j (.val d)) ((L2.wipe σ vs).set j (some y)) H' ρ2 H3 →
      (EB G X scope elt ρ2 fun z ρ3 => (sameK ((wipeS ρ' vs).set j (.val d)) ρ3 = true ∧ acc.length < sizeLine) ∧ J' (acc ++ [z]) (mrg ρ' ρ3)) →
      sEB X scope elt ((L2.wipe σ vs).set j (some y)) H3 fun z H4 => ∃ ac, H4 Dl = some (.lst ac) ∧ ac.length < sizeLine ∧ ∃ ρ2 acc2 ws2, CInv G P W ρ0 σ H1 Dl J' (L2.upd H4 Dl (.lst (ac ++ [z]))) ρ2 acc2 ws2 := fun {ρ2 H3} A2 L2 h => by
    refine h.go A2 fun z ρ3 v H4 ⟨⟨sk, hz⟩, hJ⟩ A3 L3 r3 => ?_
    have L := L2.trans L3
    have hat := keepD L.fk
    refine ⟨ws, hat, by rw [← rep.length]; exact hz, mrg ρ' ρ3, acc ++ [z], ws ++ [v], ?_⟩
    exact CInv.upd hD hP nD hJ (back sk A3 L.le) (le.trans L.le) (fkb L.fk) (shb ρ3) hat ((RepL.le L.le _ _ rep).app ⟨v, [], rfl, r3, rfl⟩)
  unfold CStep at st
  split at st
  · exact L2.iteT (B := ∃ ρ2 acc2 ws2, CInv G P W ρ0 σ H1 Dl J' H' ρ2 acc2 ws2) (elt_ok A0 Lx.refl st)
  · rename_i cnd
    show sTB X scope cnd _ _ _
    refine st.go A0 fun b ρ2 H2 ⟨sk, hb⟩ A2 L2 => ?_
    cases b with
    | true =>
      rw [if_pos rfl] at hb ⊢
      exact elt_ok A2 L2 hb
    | false =>
      rw [if_neg Bool.false_ne_true] at hb ⊢
      exact ⟨mrg ρ' ρ2, acc, ws, hb, back sk A2 L2.le, le.trans L2.le, fkb L2.fk, shb ρ2, keepD L2.fk, RepL.le L2.le _ _ rep⟩
  · exact st.elim
section
variable {k : List D → Rho → Prop} {kx : KX} {iter elt : Expr} {ifs : List Expr} {x : Str} {j : Nat} {p : Pos}
/-- a comprehension: what its iterable is -/
theorem fj_comp_of {wi : TI} (hc : X.calm = true) (hN : X.N.Nodup) (hi : PI X (.Name x p) iter wi) (ok : BlkOk X.N X.env.scope scope own) (hg : ∀ (s : Shared) (H : Hp) (C : Addr) (cl : List (Str × Addr)) (fp : List Addr), PG (blkX X scope s H C cl fp) (.Name x p) (gName j)) (hif : ifs = [] ∨ ∃ c, ifs = [c]) (hs : ∀ x, foldedSetIterable iter X.env x = pure x)
    {σ : L2.St} {H : Hp} {Q : VK} (h : tLc wi (gName j) (ttOf X scope ifs) (sEB X scope elt) (own.map (·.2)) σ H Q) : sE X (.ListComp elt [⟨.Name x p, iter, ifs, 0⟩] scope pos) σ H Q :=
  toE (pe_lc hc hN hi ok hg (fun s H C cl fp => pts_of hif s H C cl fp) (fun s H C cl fp => sEB_pe s H C cl fp) hs) h
theorem cstart {P : Fp} {W : AS} {ρ1 : Rho} {σ : L2.St} {H1 : Hp} {Dl : Addr} {J : List D → Rho → Prop} (A1 : Ag G P W ρ1 σ H1) (hD : H1 Dl = none) (h : J [] ρ1) : CInv G P W ρ1 σ H1 Dl J (L2.upd H1 Dl (.lst [])) ρ1 [] [] := by
  obtain ⟨A2, L2⟩ := A1.newW (o := .lst []) hD
  exact ⟨h, A2, L2, fun b o _ e => Kp.new hD b o e, fun _ m => m, upd_same, rfl⟩
/-- a comprehension over data -/
def CJ (G : Gg) (X : Cx) (scope : Scope) (own : List (Str × Nat)) (x : Str) (p : Pos) (j : Nat) (iter : Expr) (ifs : List Expr) (elt : Expr) (ρ : Rho) (k : List D → Rho → Prop) (kx : KX) : Prop :=
  ∃ wi, PI X (.Name x p) iter wi ∧ ∀ P W σ H, Ag G P W ρ σ H → ∀ (Q : VK) (Wx : WX), Takes X Wx → NPf G P W ρ σ H k Q → XP G P W ρ σ H kx Wx → tLc wi (gName j) (ttOf X scope ifs) (sEB X scope elt) (own.map (·.2)) σ H Q
theorem fj_of (hc : X.calm = true) (hN : X.N.Nodup) (ok : BlkOk X.N X.env.scope scope own) (hg : ∀ (s : Shared) (H : Hp) (C : Addr) (cl : List (Str × Addr)) (fp : List Addr), PG (blkX X scope s H C cl fp) (.Name x p) (gName j)) (hif : ifs = [] ∨ ∃ c, ifs = [c]) (hs : ∀ x, foldedSetIterable iter X.env x = pure x)
    (h : CJ G X scope own x p j iter ifs elt ρ k kx) : FJ G X (.ListComp elt [⟨.Name x p, iter, ifs, 0⟩] scope pos) ρ k kx := by
  obtain ⟨wi, hi, h⟩ := h
  exact fun P W σ H A Q Wx tk n xp => fj_comp_of hc hN hi ok hg hif hs (h P W σ H A Q Wx tk n xp)
theorem cj_compL (hK : X.K = G.K) (hc : X.calm = true) (hN : X.N.Nodup) (ok : BlkOk X.N X.env.scope scope own) (hg : ∀ (s : Shared) (H : Hp) (C : Addr) (cl : List (Str × Addr)) (fp : List Addr), PG (blkX X scope s H C cl fp) (.Name x p) (gName j)) (hif : ifs = [] ∨ ∃ c, ifs = [c]) (hs : ∀ x, foldedSetIterable iter X.env x = pure x)
    (h : EJ G X iter ρ (fun d ρ1 => ∃ l, (d = .lst l ∨ d = .fls l) ∧ CLoop G X scope (own.map (·.2)) j ifs elt l ρ1 k) kx) : CJ G X scope own x p j (iter) ifs elt ρ k kx := by
  refine ⟨_, pi_list sE_pe, ?_⟩
  intro P W σ H A Q Wx tk n xp
  refine (h P W σ H A _ Wx tk (fun d ρ1 v H1 ⟨l, e1, J, h0, hst, hd⟩ A1 L1 r1 => ?_) xp)
  obtain ⟨a, xs, rfl, hq, rl⟩ : ∃ a xs, v = .ref a ∧ ((Rd H1 a (.lst xs) ∧ ¬ W a) ∨ WrL G.K a xs) ∧ RepL G.K G.mg W H1 l xs := by
    rcases e1 with rfl | rfl
    · obtain ⟨a, xs, e, r, q⟩ := r1
      exact ⟨a, xs, e, .inl ⟨.inl r.1, r.2⟩, q⟩
    · exact r1
  have sq : ∀ {W' : AS} {H' : Hp}, Le W H1 W' H' → SqL X.K H' a xs := fun {W' H'} L' => by
    rw [hK]
    rcases hq with ⟨r, na⟩ | r
    · exact .inl (L'.rd (fun ps z => by cases z) r na).1
    · exact .inr r
  refine ⟨a, rfl, ⟨xs, sq (Le.refl _ _)⟩, fun Dl hD => ?_⟩
  obtain ⟨hP, nD⟩ := own_new A1 hD
  refine lc_list (xs := xs) (fun i H' => ∃ ρ' acc ws, CInv G P W ρ1 σ H1 Dl (J i) H' ρ' acc ws) ⟨_, _, _, cstart A1 hD h0⟩ (fun i H' _ ⟨_, _, _, c⟩ => sq c.le) (fun i y H' hy ⟨ρ', acc, ws, c⟩ => ?_) (fun H' ⟨ρ', acc, ws, c⟩ => ?_)
  · obtain ⟨d, hd1, rd⟩ := rl.getV hy
    obtain ⟨⟨hj, hlt, hm⟩, st⟩ := hst i d acc ρ' hd1 c.j
    exact cturn hD hP nD c (Rep.le c.le d y rd) hj hlt hm st
  · have hk := hd acc ρ' (by rw [rl.length]; exact c.j)
    exact n acc ρ' Dl ws H' hk (le_none L1.le A1.wd hD) c.at_ c.rep c.ag ⟨L1.le.trans c.le, fun i m => L1.sh i (c.sh i m), fun b o nb e => by
      have n1 : ∀ i, Mu ρ1 i → σ[i]? ≠ some (some (.ref b)) := fun i m => nb i (L1.sh i m)
      rcases L1.fk b o nb e with q | ⟨ps, ps', q1, q2⟩
      · exact c.fk b o n1 q
      · rcases c.fk b _ n1 q2 with z | ⟨_, p3, _, z⟩
        · exact .inr ⟨ps, ps', q1, z⟩
        · exact .inr ⟨ps, p3, q1, z⟩⟩
theorem cj_compT (hK : X.K = G.K) (hc : X.calm = true) (hN : X.N.Nodup) (ok : BlkOk X.N X.env.scope scope own) (hg : ∀ (s : Shared) (H : Hp) (C : Addr) (cl : List (Str × Addr)) (fp : List Addr), PG (blkX X scope s H C cl fp) (.Name x p) (gName j)) (hif : ifs = [] ∨ ∃ c, ifs = [c]) (hs : ∀ x, foldedSetIterable iter X.env x = pure x)
    (h : EJ G X iter ρ (fun d ρ1 => ∃ l, d = .tup l ∧ CLoop G X scope (own.map (·.2)) j ifs elt l ρ1 k) kx) : CJ G X scope own x p j (iter) ifs elt ρ k kx := by
  refine ⟨_, pi_tup sE_pe, ?_⟩
  intro P W σ H A Q Wx tk n xp
  refine (h P W σ H A _ Wx tk (fun d ρ1 v H1 ⟨l, e1, J, h0, hst, hd⟩ A1 L1 r1 => ?_) xp)
  subst e1
  obtain ⟨a, xs, rfl, hq, rl⟩ := r1
  have sq : ∀ {W' : AS} {H' : Hp}, Le W H1 W' H' → SqT X.K H' a xs := fun {W' H'} L' => by
    rw [hK]
    rcases hq with ⟨r, na⟩ | r
    · exact .inl (L'.rd (fun ps z => by cases z) r na).1
    · exact .inr r
  refine ⟨a, rfl, ⟨xs, sq (Le.refl _ _)⟩, fun Dl hD => ?_⟩
  obtain ⟨hP, nD⟩ := own_new A1 hD
  refine lc_tup (xs := xs) (fun i H' => ∃ ρ' acc ws, CInv G P W ρ1 σ H1 Dl (J i) H' ρ' acc ws) ⟨_, _, _, cstart A1 hD h0⟩ (fun i H' _ ⟨_, _, _, c⟩ => sq c.le) (fun i y H' hy ⟨ρ', acc, ws, c⟩ => ?_) (fun H' ⟨ρ', acc, ws, c⟩ => ?_)
  · obtain ⟨d, hd1, rd⟩ := rl.getV hy
    obtain ⟨⟨hj, hlt, hm⟩, st⟩ := hst i d acc ρ' hd1 c.j
    exact cturn hD hP nD c (Rep.le c.le d y rd) hj hlt hm st
  · have hk := hd acc ρ' (by rw [rl.length]; exact c.j)
    exact n acc ρ' Dl ws H' hk (le_none L1.le A1.wd hD) c.at_ c.rep c.ag ⟨L1.le.trans c.le, fun i m => L1.sh i (c.sh i m), fun b o nb e => by
      have n1 : ∀ i, Mu ρ1 i → σ[i]? ≠ some (some (.ref b)) := fun i m => nb i (L1.sh i m)
      rcases L1.fk b o nb e with q | ⟨ps, ps', q1, q2⟩
      · exact c.fk b o n1 q
      · rcases c.fk b _ n1 q2 with z | ⟨_, p3, _, z⟩
        · exact .inr ⟨ps, ps', q1, z⟩
        · exact .inr ⟨ps, p3, q1, z⟩⟩
theorem cj_compR {a : Expr} {p2 p3 : Pos} (hc : X.calm = true) (hN : X.N.Nodup) (ok : BlkOk X.N X.env.scope scope own) (hg : ∀ (s : Shared) (H : Hp) (C : Addr) (cl : List (Str × Addr)) (fp : List Addr), PG (blkX X scope s H C cl fp) (.Name x p) (gName j)) (hif : ifs = [] ∨ ∃ c, ifs = [c])
    (hgr : Gl X "range") (hmr : X.mg "range" = none) (hsa : starEach [a] X.env = (false, eval a X.env) :: starEach [] X.env) (hs0 : starEach [a] X.env = [(false, eval a X.env)]) (hs : ∀ x, foldedSetIterable (.Call (.Name "range" p2) [a] [] p3) X.env x = pure x)
    (h : EJ G X a ρ (fun d ρ1 => ∃ m, d = .int m ∧ (-(2 ^ 62) ≤ m ∧ m < 2 ^ 62) ∧ CLoop G X scope (own.map (·.2)) j ifs elt (upto m) ρ1 k) kx) : CJ G X scope own x p j (.Call (.Name "range" p2) [a] [] p3) ifs elt ρ k kx := by
  refine ⟨_, pi_range1 hgr hmr (pa_cons sE_pe pa_nil hsa) hs0, ?_⟩
  intro P W σ H A Q Wx tk n xp
  refine (h P W σ H A _ Wx tk (fun d ρ1 v H1 ⟨m, e1, hb, J, h0, hst, hd⟩ A1 L1 r1 => ?_) xp)
  subst e1
  refine ⟨m, by rw [show v = .int m from r1], hb.1, hb.2, fun Dl hD => ?_⟩
  obtain ⟨hP, nD⟩ := own_new A1 hD
  refine lc_range (lo := 0) (n := m.toNat) (fun i H' => ∃ ρ' acc ws, CInv G P W ρ1 σ H1 Dl (J i) H' ρ' acc ws) ⟨_, _, _, cstart A1 hD h0⟩ (fun i H' hi ⟨ρ', acc, ws, c⟩ => ?_) (fun H' ⟨ρ', acc, ws, c⟩ => ?_)
  · obtain ⟨⟨hj, hlt, hm⟩, st⟩ := hst i _ acc ρ' (upto_at hi) c.j
    rw [Int.zero_add]
    exact cturn (d := .int (i : Int)) hD hP nD c rfl hj hlt hm st
  · have hk := hd acc ρ' (by rw [upto_len]; exact c.j)
    exact n acc ρ' Dl ws H' hk (le_none L1.le A1.wd hD) c.at_ c.rep c.ag ⟨L1.le.trans c.le, fun i m => L1.sh i (c.sh i m), fun b o nb e => by
      have n1 : ∀ i, Mu ρ1 i → σ[i]? ≠ some (some (.ref b)) := fun i m => nb i (L1.sh i m)
      rcases L1.fk b o nb e with q | ⟨ps, ps', q1, q2⟩
      · exact c.fk b o n1 q
      · rcases c.fk b _ n1 q2 with z | ⟨_, p3, _, z⟩
        · exact .inr ⟨ps, ps', q1, z⟩
        · exact .inr ⟨ps, p3, q1, z⟩⟩
/-- so many numbers from i on, c apart -/
def stepL (i c : Int) (m : Nat) : List D := (List.range m).map fun (t : Nat) => D.int (i + (t : Int) * c)
theorem stepL_at {i c : Int} {m t : Nat} (h : t < m) : (stepL i c m)[t]? = some (.int (i + (t : Int) * c)) := by
  unfold stepL
  rw [List.getElem?_map, List.getElem?_range h]; rfl
theorem stepL_len (i c : Int) (m : Nat) : (stepL i c m).length = m := by unfold stepL; rw [List.length_map, List.length_range]
theorem cj_compR3 {a b d : Expr} {p2 p3 : Pos} (hc : X.calm = true) (hN : X.N.Nodup) (ok : BlkOk X.N X.env.scope scope own)
    (hg : ∀ (s : Shared) (H : Hp) (C : Addr) (cl : List (Str × Addr)) (fp : List Addr), PG (blkX X scope s H C cl fp) (.Name x p) (gName j)) (hif : ifs = [] ∨ ∃ c, ifs = [c]) (hgr : Gl X "range") (hmr : X.mg "range" = none)
    (hsa : starEach [a, b, d] X.env = (false, eval a X.env) :: starEach [b, d] X.env) (hpl : (backTo p3 (starEach [b, d] X.env)).any (·.1) = false)
    (h : AJ G X [a, b, d] ρ (fun ds ρ1 => ∃ i e c m, ds = [.int i, .int e, .int c] ∧ RgC i e c m ∧ CLoop G X scope (own.map (·.2)) j ifs elt (stepL i c m) ρ1 k) kx) : CJ G X scope own x p j (.Call (.Name "range" p2) [a, b, d] [] p3) ifs elt ρ k kx := by
  refine ⟨_, pi_range3 hgr hmr sA_pa hsa hpl, ?_⟩
  intro P W σ H A Q Wx tk n xp
  refine (h P W σ H A _ Wx tk (fun ds ρ1 vs H1 ⟨i, e, c, m, e1, hr, J, h0, hst, hd⟩ A1 L1 r1 => ?_) xp)
  subst e1
  obtain ⟨v1, r, rfl, q1, r⟩ := r1
  obtain ⟨v2, r, rfl, q2, r⟩ := r
  obtain ⟨v3, r4, rfl, q3, q4⟩ := r
  have e4 : r4 = [] := q4
  have f1 : v1 = .int i := q1
  have f2 : v2 = .int e := q2
  have f3 : v3 = .int c := q3
  subst e4 f1 f2 f3
  refine ⟨i, e, c, m, rfl, hr, fun Dl hD => ?_⟩
  obtain ⟨hP, nD⟩ := own_new A1 hD
  refine ⟨fun t q H' => (q = m - t ∧ t ≤ m) ∧ ∃ ρ' acc ws, CInv G P W ρ1 σ H1 Dl (J t) H' ρ' acc ws, ⟨_, ⟨rfl, Nat.zero_le _⟩, _, _, _, cstart A1 hD h0⟩, ?_⟩
  rintro t q H' ⟨⟨rfl, ht⟩, ρ', acc, ws, cc⟩
  by_cases hlt : t < m
  · refine .inr ⟨hlt, fun H2 => ∃ ρ2 acc2 ws2, CInv G P W ρ1 σ H1 Dl (J (t + 1)) H2 ρ2 acc2 ws2, fun H2 c2 => ⟨m - (t + 1), by omega, ⟨rfl, hlt⟩, c2⟩, fun y H2 hy => ?_⟩
    obtain ⟨z1, z2⟩ := hy
    subst z1 z2
    obtain ⟨⟨hj, hl2, hm⟩, st⟩ := hst t _ acc ρ' (stepL_at hlt) cc.j
    exact cturn (d := .int (i + (t : Int) * c)) hD hP nD cc rfl hj hl2 hm st
  · obtain rfl : t = m := by omega
    refine .inl ⟨Nat.le_refl _, ?_⟩
    have hk := hd acc ρ' (by rw [stepL_len]; exact cc.j)
    refine n acc ρ' Dl ws H' hk (le_none L1.le A1.wd hD) cc.at_ cc.rep cc.ag ⟨L1.le.trans cc.le, fun i m => L1.sh i (cc.sh i m), fun b o nb e => ?_⟩
    have n1 : ∀ i, Mu ρ1 i → σ[i]? ≠ some (some (.ref b)) := fun i m => nb i (L1.sh i m)
    rcases L1.fk b o nb e with z | ⟨ps, ps', z1, z2⟩
    · exact cc.fk b o n1 z
    · rcases cc.fk b _ n1 z2 with z | ⟨_, p3, _, z⟩
      · exact .inr ⟨ps, ps', z1, z⟩
      · exact .inr ⟨ps, p3, z1, z⟩
/-- the signs of a text -/
def signs (z : Str) : List D := z.cps.toList.map fun c => D.str ⟨#[c]⟩
theorem cj_compS (hc : X.calm = true) (hN : X.N.Nodup) (ok : BlkOk X.N X.env.scope scope own) (hg : ∀ (s : Shared) (H : Hp) (C : Addr) (cl : List (Str × Addr)) (fp : List Addr), PG (blkX X scope s H C cl fp) (.Name x p) (gName j)) (hif : ifs = [] ∨ ∃ c, ifs = [c]) (hs : ∀ x, foldedSetIterable iter X.env x = pure x)
    (h : EJ G X iter ρ (fun d ρ1 => ∃ z, d = .str z ∧ CLoop G X scope (own.map (·.2)) j ifs elt (signs z) ρ1 k) kx) : CJ G X scope own x p j (iter) ifs elt ρ k kx := by
  refine ⟨_, pi_str sE_pe, ?_⟩
  intro P W σ H A Q Wx tk n xp
  refine (h P W σ H A _ Wx tk (fun d ρ1 v H1 ⟨z, e1, J, h0, hst, hd⟩ A1 L1 r1 => ?_) xp)
  subst e1
  refine ⟨z, r1, fun Dl hD => ?_⟩
  obtain ⟨hP, nD⟩ := own_new A1 hD
  have hlen : (signs z).length = z.cps.size := by unfold signs; rw [List.length_map, Array.length_toList]
  refine ⟨fun i m H' => m = z.cps.size - i ∧ i ≤ z.cps.size ∧ ∃ ρ' acc ws, CInv G P W ρ1 σ H1 Dl (J i) H' ρ' acc ws, ⟨_, rfl, Nat.zero_le _, _, _, _, cstart A1 hD h0⟩, ?_⟩
  rintro i m H' ⟨rfl, hi, ρ', acc, ws, c⟩
  by_cases hlt : i < z.cps.size
  · refine .inr ⟨hlt, fun H2 => ∃ ρ2 acc2 ws2, CInv G P W ρ1 σ H1 Dl (J (i + 1)) H2 ρ2 acc2 ws2, fun H2 c2 => ⟨z.cps.size - (i + 1), by omega, rfl, hlt, c2⟩, fun y H2 hy => ?_⟩
    obtain ⟨e, cc, hcc, hy⟩ := hy
    subst e hy
    have hat : (signs z)[i]? = some (.str ⟨#[cc]⟩) := by
      unfold signs
      rw [List.getElem?_map, Array.getElem?_toList, hcc]; rfl
    obtain ⟨⟨hj, hl2, hm⟩, st⟩ := hst i _ acc ρ' hat c.j
    exact cturn (d := .str ⟨#[cc]⟩) hD hP nD c rfl hj hl2 hm st
  · have e : i = z.cps.size := by omega
    subst e
    refine .inl ⟨Nat.le_refl _, ?_⟩
    have hk := hd acc ρ' (by rw [hlen]; exact c.j)
    exact n acc ρ' Dl ws H' hk (le_none L1.le A1.wd hD) c.at_ c.rep c.ag ⟨L1.le.trans c.le, fun i m => L1.sh i (c.sh i m), fun b o nb e => by
      have n1 : ∀ i, Mu ρ1 i → σ[i]? ≠ some (some (.ref b)) := fun i m => nb i (L1.sh i m)
      rcases L1.fk b o nb e with q | ⟨ps, ps', q1, q2⟩
      · exact c.fk b o n1 q
      · rcases c.fk b _ n1 q2 with z | ⟨_, p3, _, z⟩
        · exact .inr ⟨ps, ps', q1, z⟩
        · exact .inr ⟨ps, p3, q1, z⟩⟩
/-- a new list as a value -/
theorem ej_new {e : Expr} {kv : KD} (h : FJ G X e ρ (fun l ρ1 => kv (.lst l) ρ1) kx) : EJ G X e ρ kv kx := fun P W σ H A Q Wx tk n xp =>
  h P W σ H A Q Wx tk (fun l ρ' a xs H' hk ha hb hr A' L' => by
    have up : ∀ b, W b → (W.add a) b := fun b w => .inl w
    have na : ¬ W a := A.nw ha
    refine n _ _ _ _ hk ?_ ⟨⟨fun b w => w, fun b w => .inl w, fun b o nb e => L'.le.keep b o nb e⟩, L'.sh, L'.fk⟩ ⟨a, xs, rfl, ⟨hb, na⟩, RepL.sub up _ _ hr⟩
    refine ⟨A'.len, fun i d e => ?_, fun i m e => ?_, fun i m e => ?_, A'.ap, fun b w => A'.wd b (.inl w), A'.fr, A.w0, A.m0, A.wd0, A.wn, A'.tb⟩
    · obtain ⟨v, h1, h2⟩ := A'.val i d e
      exact ⟨v, h1, Rep.sub up _ _ h2⟩
    · obtain ⟨b, ys, h1, h2, h3, h4, h5⟩ := A'.own i m e
      have hm := L'.sh i ⟨m, .inl e⟩
      refine ⟨b, ys, h1, h2, ?_, h4, RepL.sub up _ _ h5⟩
      rcases h3 with w | w
      · exact w
      · exfalso
        exact (own_new A ha).2 i hm (by rw [h1, w])
    · obtain ⟨b, ys, h0, h1, h2, h3, h5⟩ := A'.io i m e
      have hm := L'.sh i ⟨m, .inr e⟩
      refine ⟨b, ys, h0, h1, h2, ?_, RepL.sub up _ _ h5⟩
      rcases h3 with w | w
      · exact w
      · exfalso
        exact (own_new A ha).2 i hm (by rw [h1, w])) xp
end
end
end DL
set_option Elab.async false
set_option linter.all false
set_option maxRecDepth 100000
set_option maxHeartbeats 2000000
namespace DL
open PySem PySem.Spec PyProof.Rows L2

/-- what a body's context is -/
structure Cxt (G : Gg) (P : Program) (w : World) (base : Heap) (N : List Str) (scope : Scope) (k : Nat) (qual : Str) (cd : Value) (X : Cx) : Prop where
  code : X.env.code = cd
  qual : X.env.qual = qual ++ ".<locals>."
  prog : X.prog = P
  w : X.w = w
  K : X.K = G.K
  mg : X.mg = G.mg
  base : X.base = base
  N : X.N = N
  sc : X.env.scope = scope
  calm : X.calm = true
  fn : X.fn = fun _ => true
  hp : PassesOwn (model X.prog X.w) X.A X.env X.xe
  room : Room k X.A
  gd : X.A.guards = some []
def rho0 (N : List Str) (ds : List D) : Rho := ds.map Sl.val ++ List.replicate (N.length - ds.length) .no
def EkP (k : D → Prop) (kx : Exn → Prop) : Ek := { nx := fun _ => k .non, rt := fun d _ => k d, xc := fun x _ => kx x }
theorem rho0_get {N : List Str} {ds : List D} {i : Nat} {s : Sl} (h : (rho0 N ds)[i]? = some s) : (∃ d, ds[i]? = some d ∧ s = .val d) ∨ s = .no := by
  unfold rho0 at h
  by_cases hi : i < ds.length
  · rw [List.getElem?_append_left (by simpa using hi), List.getElem?_map] at h
    cases e : ds[i]? with
    | none => rw [e] at h; cases h
    | some d =>
      rw [e] at h
      exact .inl ⟨d, rfl, (Option.some.inj h).symm⟩
  · rw [List.getElem?_append_right (by simpa using hi)] at h
    exact .inr (List.eq_of_mem_replicate (List.mem_of_getElem? h))
theorem ag_start {G : Gg} {W : AS} {N : List Str} {ds : List D} {vs : List V} {H : Hp} (hl : ds.length ≤ N.length) (r : RepL G.K G.mg W H ds vs) (wd : WD W H) (t : LamX.Tabs G.T H) : Ag G ⟨H, W, fun _ => none⟩ W (rho0 N ds) (L2.start N vs) H := by
  have hv := r.length
  refine ⟨?_, fun i d e => ?_, fun i l e => ?_, fun i l e => ?_, fun i j a m => ?_, wd, fun b o e _ => .inl e, fun b w => w, fun b ⟨i, z⟩ => (nomatch z), wd, fun b w => .inl w, t⟩
  · unfold rho0 L2.start
    rw [List.length_append, List.length_append, List.length_map, List.length_map, List.length_replicate, List.length_replicate, hv]
  · rcases rho0_get e with ⟨d', e1, e2⟩ | e
    · cases e2
      obtain ⟨x, hx, rx⟩ := r.get e1
      refine ⟨x, ?_, rx⟩
      have hi := (List.getElem?_eq_some_iff.mp hx).1
      unfold L2.start
      rw [List.getElem?_append_left (by simpa using hi), List.getElem?_map, hx]; rfl
    · cases e
  · rcases rho0_get e with ⟨_, _, e⟩ | e <;> cases e
  · rcases rho0_get e with ⟨_, _, e⟩ | e <;> cases e
  · obtain ⟨l, m⟩ := m
    rcases m with m | m <;> rcases rho0_get m with ⟨_, _, e⟩ | e <;> cases e
/-- the rule for a def, where no repr is under way -/
theorem fnG_of {P : Program} {w : World} {K : PySem.W.Frag} {mg : Str → Option Value} {base : Heap} {x qual : Str} {params : Arguments} {body : List Stmt} {scope : Scope} {dvs : List V} {kws : List (Str × V)} {f : Addr} {fd : FuncData} {C : CXT} {N ps : List Str} {k : Nat} {sp : Sp}
    (F : FunD K x qual params body scope dvs kws f fd) (S : FnScope N ps scope) (len : ∀ vs H Q E, sp vs H Q E → vs.length = ps.length)
    (hb : ∀ (cdv : Value) (A : Around) (outer : List Env) (s : Shared) (H : Hp) (vs : List V) (Q : VK) (E : XK), fd.code = cdv → A.guards = some [] → Room k (A.deeper (envOfC qual scope s.heap.objs.size f cdv)) → sp vs H Q E → ∃ t, PSs (cxOf C P w K mg base N qual scope f cdv A outer s H E) body t ∧ t { nx := fun _ H' => Q .non H', rt := Q } (L2.start N vs) H) :
    FnG P w K mg base C (k + 1) f fd ps sp := by

  obtain ⟨oc, od, dV, kV, doc, pm, an, cdv, ct, osl, rfl, lk, hcd, _, _⟩ := F.ex
  exact ⟨len, fun A outer s H args us vs Q E gd hr e0 hbd r hsp => LamX.run_ofS lk hcd S hr e0 hbd r (len _ _ _ _ hsp) fun hr' => hb cdv A outer s H vs Q E rfl gd hr' hsp⟩
theorem fn_pure {G : Gg} {P : Program} {w : World} {base : Heap} {x qual : Str} {params : Arguments} {body : List Stmt} {scope : Scope} {dvs : List V} {kws : List (Str × V)} {f : Addr} {fd : FuncData} {N ps : List Str} {k : Nat} {S : PSpec}
    (F : FunD G.K x qual params body scope dvs kws f fd) (Sc : FnScope N ps scope) (hps : ps.length ≤ N.length)
    (hb : ∀ X, Cxt G P w base N scope k qual fd.code X → ∀ ds kd kx, ds.length = ps.length → S ds kd kx → BJ G X body (rho0 N ds) (EkP kd kx)) :
    FnG P w G.K G.mg base (L2.CX P w) (k + 1) f fd ps (spP G ps.length S) := by
  refine fnG_of F Sc (fun vs H Q E ⟨W, ds, kd, kx, hn, _, r, _⟩ => by rw [← r.length]; exact hn) ?_
  rintro cdv A outer s H vs Q E hcd gd hr ⟨W, ds, kd, kx, hn, hS, r, wd, t, hQ, hE⟩
  have tk : Takes (cxOf (L2.CX P w) P w G.K G.mg base N qual scope f cdv A outer s H E) (fun cls d _ H => E cls d H) := takes_of rfl rfl rfl rfl
  have C : Cxt G P w base N scope k qual fd.code (cxOf (L2.CX P w) P w G.K G.mg base N qual scope f cdv A outer s H E) := ⟨hcd.symm, rfl, rfl, rfl, rfl, rfl, rfl, rfl, rfl, rfl, rfl, passes_of rfl, hr, gd⟩
  have A0 := ag_start (N := N) (by rw [hn]; exact hps) r wd t
  have kp : ∀ {H' : Hp}, (∀ b o, H b = some o → ¬ Fp.M ⟨H, W, fun _ => none⟩ b → H' b = some o ∨ ∃ ps ps', o = .tbl ps ∧ H' b = some (.tbl ps')) → Kp H H' := fun h b o e => h b o e fun ⟨i, z⟩ => by cases z
  refine ⟨_, sSs_pss, hb _ C ds kd kx hn hS _ W _ H A0 _ _ tk ⟨fun ρ' W' σ' H' h A' L => ?_, fun d ρ' v H' h A' r' => ?_, fun _ _ _ _ h => h.elim, fun _ _ _ _ h => h.elim, fun x ρ' W' σ' cls dd H' h A' L r' => ?_, fun _ _ _ _ _ h => h.elim⟩⟩
  · exact hQ .non .non H' h (kp A'.fr) A'.tb rfl
  · exact hQ d v H' h (kp A'.fr) A'.tb r'
  · refine hE x cls dd H' h (kp A'.fr) A'.tb ⟨r'.1, fun f a e => ?_⟩
    obtain ⟨d', v, e1, e2, e3, e4⟩ := r'.2 f a e
    exact ⟨d', v, e1, e2, fun z => e3 (A'.w0 _ z), Rep.sub A'.w0 _ _ e4⟩
/-! a def whose first argument is a list that it may change -/
def rhoD (N : List Str) (l : List D) (ds : List D) : Rho := .io l :: (ds.map Sl.val ++ List.replicate (N.length - (ds.length + 1)) .no)
def ioOnly (ρ : Rho) (l : List D) : Prop := ρ[0]? = some (.io l)
def EkD (k : D → List D → Prop) : Ek := { nx := fun ρ => ∃ l, ioOnly ρ l ∧ k .non l, rt := fun d ρ => ∃ l, ioOnly ρ l ∧ k d l }
theorem rhoD_get {N : List Str} {l : List D} {ds : List D} {i : Nat} {s : Sl} (h : (rhoD N l ds)[i]? = some s) : (i = 0 ∧ s = .io l) ∨ (∃ d j, i = j + 1 ∧ ds[j]? = some d ∧ s = .val d) ∨ s = .no := by
  unfold rhoD at h
  cases i with
  | zero => exact .inl ⟨rfl, (Option.some.inj h).symm⟩
  | succ j =>
    rw [List.getElem?_cons_succ] at h
    by_cases hi : j < ds.length
    · rw [List.getElem?_append_left (by simpa using hi), List.getElem?_map] at h
      cases e : ds[j]? with
      | none => rw [e] at h; cases h
      | some d =>
        rw [e] at h
        exact .inr (.inl ⟨d, j, rfl, e, (Option.some.inj h).symm⟩)
    · rw [List.getElem?_append_right (by simpa using hi)] at h
      exact .inr (.inr (List.eq_of_mem_replicate (List.mem_of_getElem? h)))
def ia1 (a : Addr) (i : Nat) : Option Addr := if i = 0 then some a else none
theorem ag_startD {G : Gg} {W : AS} {N : List Str} {l ds : List D} {a : Addr} {xs vs : List V} {H : Hp} (ha : H a = some (.lst xs)) (w : W a) (rl : RepL G.K G.mg W H l xs) (r : RepL G.K G.mg W H ds vs) (wd : WD W H) (t : LamX.Tabs G.T H) :
    Ag G ⟨H, W, ia1 a⟩ W (rhoD N l ds) (L2.start N (.ref a :: vs)) H := by
  have hv := r.length
  have z0 : (L2.start N (.ref a :: vs))[0]? = some (some (.ref a)) := rfl
  refine ⟨?_, fun i d e => ?_, fun i l e => ?_, fun i l e => ?_, fun i j a m m' => ?_, wd, fun b o e _ => .inl e, fun b w => w, fun b ⟨i, z⟩ => ?_, wd, fun b w => .inl w, t⟩
  · unfold rhoD L2.start
    rw [List.map_cons, List.cons_append, List.length_cons, List.length_cons, List.length_append, List.length_append, List.length_map, List.length_map, List.length_replicate, List.length_replicate, List.length_cons, hv]
  · rcases rhoD_get e with ⟨_, e⟩ | ⟨d', j, rfl, e1, e2⟩ | e
    · cases e
    · cases e2
      obtain ⟨x, hx, rx⟩ := r.get e1
      refine ⟨x, ?_, rx⟩
      have hi := (List.getElem?_eq_some_iff.mp hx).1
      unfold L2.start
      rw [List.map_cons, List.cons_append, List.getElem?_cons_succ, List.getElem?_append_left (by simpa using hi), List.getElem?_map, hx]; rfl
    · cases e
  · rcases rhoD_get e with ⟨_, e⟩ | ⟨_, _, _, _, e⟩ | e <;> cases e
  · rcases rhoD_get e with ⟨z, e⟩ | ⟨_, _, _, _, e⟩ | e
    · cases e
      subst z
      exact ⟨a, xs, rfl, z0, ha, w, rl⟩
    · cases e
    · cases e
  · have only : ∀ i, Mu (rhoD N l ds) i → i = 0 := fun i ⟨l', m⟩ => by
      rcases m with m | m <;> rcases rhoD_get m with ⟨q, e⟩ | ⟨_, _, _, _, e⟩ | e <;> first | exact q | cases e
    intros
    rw [only i m, only j m']
  · by_cases h0 : i = 0
    · have z' : ia1 a i = some b := z
      unfold ia1 at z'
      rw [if_pos h0] at z'
      cases z'
      exact w
    · have z' : ia1 a i = some b := z
      unfold ia1 at z'
      rw [if_neg h0] at z'
      cases z'
theorem fn_dice {G : Gg} {P : Program} {w : World} {base : Heap} {x qual : Str} {params : Arguments} {body : List Stmt} {scope : Scope} {dvs : List V} {kws : List (Str × V)} {f : Addr} {fd : FuncData} {N ps : List Str} {k n : Nat} {S : DSpec}
    (F : FunD G.K x qual params body scope dvs kws f fd) (Sc : FnScope N ps scope) (hn : ps.length = n + 1)
    (hb : ∀ X, Cxt G P w base N scope k qual fd.code X → ∀ l ds kd, ds.length = n → S l ds kd → BJ G X body (rhoD N l ds) (EkD kd)) :
    FnG P w G.K G.mg base (L2.CX P w) (k + 1) f fd ps (spD G n S) := by
  refine fnG_of F Sc (fun vs H Q E h => ?_) ?_
  · obtain ⟨W, a, xs, l, ds, vs', kd, h1, rfl, _, _, _, _, r, _⟩ := h
    rw [List.length_cons, ← r.length, h1, hn]
  rintro cdv A outer s H vs Q E hcd gd hr ⟨W, a, xs, l, ds, vs', kd, h1, rfl, hS, ha, wa, rl, r, wd, t, hQ⟩
  have tk : Takes (cxOf (L2.CX P w) P w G.K G.mg base N qual scope f cdv A outer s H E) (fun cls d _ H => E cls d H) := takes_of rfl rfl rfl rfl
  have C : Cxt G P w base N scope k qual fd.code (cxOf (L2.CX P w) P w G.K G.mg base N qual scope f cdv A outer s H E) := ⟨hcd.symm, rfl, rfl, rfl, rfl, rfl, rfl, rfl, rfl, rfl, rfl, passes_of rfl, hr, gd⟩
  have A0 := ag_startD (N := N) ha wa rl r wd t
  have kp : ∀ {H' : Hp}, (∀ b o, H b = some o → ¬ Fp.M ⟨H, W, ia1 a⟩ b → H' b = some o ∨ ∃ ps ps', o = .tbl ps ∧ H' b = some (.tbl ps')) → KpB a H H' := fun h b o n e => h b o e fun ⟨i, z⟩ => by
    have z' : ia1 a i = some b := z
    unfold ia1 at z'
    split at z'
    · cases z'
      exact n rfl
    · cases z'
  have io : ∀ {ρ' : Rho} {H' : Hp} {l' : List D}, AgE G ⟨H, W, ia1 a⟩ ρ' H' → ioOnly ρ' l' → ∃ xs', H' a = some (.lst xs') ∧ RepL G.K G.mg W H' l' xs' := fun A' h => by
    obtain ⟨a', xs', z, e1, e2⟩ := A'.io 0 _ h
    have z' : some a = some a' := z
    cases z'
    exact ⟨xs', e1, e2⟩
  refine ⟨_, sSs_pss, hb _ C l ds kd h1 hS _ W _ H A0 _ _ tk ⟨fun ρ' W' σ' H' h A' L => ?_, fun d ρ' v H' h A' r' => ?_, fun _ _ _ _ h => h.elim, fun _ _ _ _ h => h.elim, fun x ρ' W' σ' cls dd H' h A' L r' => h.elim, fun _ _ _ _ _ h => h.elim⟩⟩
  · obtain ⟨l', z, hk⟩ := (show ∃ l, ioOnly ρ' l ∧ kd .non l from h)
    obtain ⟨xs', e1, e2⟩ := io A'.e z
    exact hQ .non l' xs' .non H' hk (kp A'.fr) e1 e2 A'.tb rfl
  · obtain ⟨l', z, hk⟩ := (show ∃ l, ioOnly ρ' l ∧ kd d l from h)
    obtain ⟨xs', e1, e2⟩ := io A' z
    exact hQ d l' xs' v H' hk (kp A'.fr) e1 e2 A'.tb r'
/-! a def that gives a new list -/
abbrev FSpec := List D → (List D → Prop) → Prop
def spF (G : Gg) (n : Nat) (S : FSpec) : Sp := fun vs H Q _ => ∃ (W : AS) (ds : List D) (k : List D → Prop), ds.length = n ∧ S ds k ∧ RepL G.K G.mg W H ds vs ∧ WD W H ∧ LamX.Tabs G.T H ∧
  (∀ l a xs H', k l → Kp H H' → LamX.Tabs G.T H' → H a = none → H' a = some (.lst xs) → RepL G.K G.mg (W.add a) H' l xs → Q (.ref a) H')
def EkF (k : List D → Prop) : Ek := { nx := fun _ => False, rt := fun _ _ => False, rf := fun l _ => k l }
theorem fn_fresh {G : Gg} {P : Program} {w : World} {base : Heap} {x qual : Str} {params : Arguments} {body : List Stmt} {scope : Scope} {dvs : List V} {kws : List (Str × V)} {f : Addr} {fd : FuncData} {N ps : List Str} {k : Nat} {S : FSpec}
    (F : FunD G.K x qual params body scope dvs kws f fd) (Sc : FnScope N ps scope) (hps : ps.length ≤ N.length)
    (hb : ∀ X, Cxt G P w base N scope k qual fd.code X → ∀ ds kd, ds.length = ps.length → S ds kd → BJ G X body (rho0 N ds) (EkF kd)) :
    FnG P w G.K G.mg base (L2.CX P w) (k + 1) f fd ps (spF G ps.length S) := by
  refine fnG_of F Sc (fun vs H Q E ⟨W, ds, kd, hn, _, r, _⟩ => by rw [← r.length]; exact hn) ?_
  rintro cdv A outer s H vs Q E hcd gd hr ⟨W, ds, kd, hn, hS, r, wd, t, hQ⟩
  have tk : Takes (cxOf (L2.CX P w) P w G.K G.mg base N qual scope f cdv A outer s H E) (fun cls d _ H => E cls d H) := takes_of rfl rfl rfl rfl
  have C : Cxt G P w base N scope k qual fd.code (cxOf (L2.CX P w) P w G.K G.mg base N qual scope f cdv A outer s H E) := ⟨hcd.symm, rfl, rfl, rfl, rfl, rfl, rfl, rfl, rfl, rfl, rfl, passes_of rfl, hr, gd⟩
  have A0 := ag_start (N := N) (by rw [hn]; exact hps) r wd t
  refine ⟨_, sSs_pss, hb _ C ds kd hn hS _ W _ H A0 _ _ tk ⟨fun _ _ _ _ h => h.elim, fun _ _ _ _ h => h.elim, fun _ _ _ _ h => h.elim, fun _ _ _ _ h => h.elim, fun _ _ _ _ _ _ _ h => h.elim, fun l ρ' a xs H' h A' h0 nw ha r' => ?_⟩⟩
  exact hQ l a xs H' h (fun b o e => A'.fr b o e fun ⟨i, z⟩ => by cases z) A'.tb h0 ha r'
section
variable {G : Gg} {X : Cx} {P : Fp} {W : AS} {ρ : Rho} {σ : L2.St} {H H' : Hp}
/-- what a call has given anew becomes ours -/
theorem Ag.kpW (A : Ag G P W ρ σ H) (h : Kp H H') (t : LamX.Tabs G.T H') {a : Addr} {o : HO} (n : H a = none) (e' : H' a = some o) : Ag G P (W.add a) ρ σ H' ∧ Le W H (W.add a) H' := by
  have L : Le W H (W.add a) H' := ⟨fun _ w => .inl w, fun b w => w.elim .inl fun e => .inr (by rw [e]; exact n), fun b u _ e => h b u e⟩
  refine ⟨⟨A.len, fun i d e => ?_, fun i l e => ?_, fun i l e => ?_, A.ap, fun b w => ?_, fun b u e n => ?_, fun b w => .inl (A.w0 b w), fun b m => .inl (A.m0 b m), A.wd0, fun b w => ?_, t⟩, L⟩
  · obtain ⟨v, h1, h2⟩ := A.val i d e
    exact ⟨v, h1, Rep.le L d v h2⟩
  · obtain ⟨b, xs, h1, h2, h3, h4, h5⟩ := A.own i l e
    exact ⟨b, xs, h1, h.lst h2, .inl h3, h4, RepL.le L l xs h5⟩
  · obtain ⟨b, xs, h0, h1, h2, h3, h5⟩ := A.io i l e
    exact ⟨b, xs, h0, h1, h.lst h2, .inl h3, RepL.le L l xs h5⟩
  · rcases w with w | w
    · obtain ⟨u, e⟩ := A.wd b w
      rcases h b u e with q | ⟨_, _, _, q⟩
      · exact ⟨_, q⟩
      · exact ⟨_, q⟩
    · rw [w]; exact ⟨_, e'⟩
  · rcases A.fr b u e n with q | ⟨ps, ps', q1, q2⟩
    · exact h b u q
    · rcases h b _ q2 with z | ⟨_, p3, _, z⟩
      · exact .inr ⟨ps, ps', q1, z⟩
      · exact .inr ⟨ps, p3, q1, z⟩
  · rcases w with w | w
    · exact A.wn b w
    · rw [w]
      exact .inr (own_new A n).1
theorem fj_call {j m : Nat} {f : Addr} {fd : FuncData} {ps : List Str} {S : FSpec} {x : Str} {e : Expr} {es : List Expr} {p pos : Pos} {k : List D → Rho → Prop} {kx : KX} (F : FnG X.prog X.w X.K X.mg X.base (L2.CX X.prog X.w) j f fd ps (spF G m S)) (gd : X.A.guards = some []) (hr : Room j X.A) (hg : Gl X x) (hm : X.mg x = some (.ref f)) (hk : PySem.W.keepIn X.K (.ref f) = true) (hb : Binds X.K fd ps [])
    (hdb : (x == ("__debug__" : Str)) = false) (he : starEach (e :: es) X.env = (false, eval e X.env) :: starEach es X.env) (hpl : (backTo pos (starEach es X.env)).any (·.1) = false)
    (h : AJ G X (e :: es) ρ (fun ds ρ1 => ds.length = m ∧ S ds (fun l => k l ρ1)) kx) : FJ G X (.Call (.Name x p) (e :: es) [] pos) ρ k kx := by
  intro P W σ H A Q Wx tk n xp
  refine toE (pe_callG (E := WE Wx) F gd hr hg hm hk hb .nil (fun σ => passAt tk σ) sA_pa hdb he hpl) (h P W σ H A _ Wx tk (fun ds ρ1 vs H1 ⟨hl, h1⟩ A1 L1 r1 => ?_) xp)
  refine ⟨W, ds, _, hl, h1, by rw [List.append_nil]; exact r1, A1.wd, A1.tb, fun l a xs H' hz kp tb h0 ha r' => ?_⟩
  obtain ⟨A2, L2⟩ := A1.kpW kp tb h0 ha
  exact n _ _ a xs _ hz (le_none L1.le A1.wd h0) ha r' A2 ⟨L1.le.trans L2, L1.sh, (L1.trans (Lx.kp kp)).fk⟩
end
end DL
set_option Elab.async false
set_option linter.all false
set_option maxRecDepth 100000
set_option maxHeartbeats 2000000
namespace DLX
open PySem PySem.W PySem.Calls PyProof.Rows PySem.HandSPX Builtin Builtin.ObjectAttr
section
variable {pg : Program} {w : World} {A : Around} {R : Result → Shared → Prop} {hp : Heap} {g : Array GenState} {d : Drawn} {t : Nat} {os : OsState}
/-- the first field of an exception whose class stands over any builtin class -/
theorem osaB {K : W.Frag} {nm : Str} {tk : Tok} {v : Value} {x C : Addr} {fv : Array Value} {cd : ClassData} (kin : K.In hp) (ox : hp.get? x = some { cls := .ref C, data := .fields fv }) (hcl : W.clsIn K C = some cd)
    (ps : ∀ self, refuseLoop self "__setattr__" cd.mro = pure ()) (ne : cd.mro.isEmpty = false) (ob : cd.mro.contains (.type "object") = true) (hd : cd.hasDict = true) (nof : W.findIn K (.ref C) nm = some none)
    (fin : ∀ h' tk' dx, (∀ b o, b ≠ x → hp.get? b = some o → h'.get? b = some o) → hp.objs.size ≤ dx → dx ≠ x → h'.get? x = some { cls := .ref C, dict := some dx, data := .fields fv } → h'.Ns1 dx (fun y => if y = nm then some v else none) → R (.ok (.ret .none)) ⟨h', g, d, tk', os⟩) :
    codeAny (model pg w) A (.call (.builtin "object.__setattr__") ⟨[.ref x, .str nm tk, v], []⟩) R ⟨hp, g, d, t, os⟩ := by
  have inst : W.InstAt hp x { cls := .ref C, data := .fields fv } C none := ⟨ox, rfl, rfl, trivial⟩
  have so := F.store_object
  have far : x ≠ hp.objs.size := Nat.ne_of_lt (Heap.lt_size ox)
  have isO : W.Looks (model pg w) hp (isInstance (.ref x) (.type "object")) true := inst.type.andThen (W.looks_mroIn kin (by unfold W.mroIn; rw [hcl, Option.bind_some, if_neg (by rw [ne]; decide), ob]))
  refine codeAny_call_builtin so.slot.plain so.entry (@W.check_slot (model pg w) _ _ ⟨hp, g, d, t, os⟩ "object.__setattr__" "object" "__setattr__" (.ref x) [.str nm tk, v] [] _ so.kind so.split isO (so.args (.ref x) (.str nm tk) v) ?_)
  have lm : W.Looks (model pg w) hp (mroOf (.ref C)) cd.mro := (W.looks_clsIn kin hcl).andThen .now
  have ls : W.Looks (model pg w) hp (storeTaker? none) none := .now
  have lc : W.Looks (model pg w) hp (classData C) cd := W.looks_clsIn kin hcl
  rw [W.osa_eq, refuse_eq]
  refine wpAny_bind (wpAny_bind (inst.type.at (wpAny_bind (lm.at ?_)))); rw [ps]
  refine wpAny_pure (wpAny_bind (inst.type.at (wpAny_bind ((W.looks_findIn kin nof).at (wpAny_bind (ls.at ?_))))))
  show wpAny _ _ (storeInOwnDict (.ref x) (.ref C) (.str nm tk) nm v false) _ _ _
  obtain ⟨n0, bs, mro, ns, qn, hasD, sn, sb, ab, col, del⟩ := cd
  have hd' : hasD = true := hd
  subst hd'
  unfold storeInOwnDict ownDictForStores
  repeat (first | with_reducible refine store_in_new ?_ ?_ | with_reducible refine wpAny_loadPart_at ox ?_ | with_reducible refine lc.at ?_ | wp_step)
  · exact ⟨_, #[], _, (Heap.get?_update_ne _ _ _ _ far.symm).trans (Heap.get?_push_at rfl rfl), rfl, fun e he => absurd he (by simp), fun _ => rfl⟩
  · intro h' tk' hn' hs
    have ox₁ : (hp.push { cls := .type "dict", data := .dict #[] }).get? x = some { cls := .ref C, data := .fields fv } := Heap.get?_push_of_some _ ox
    refine fin h' tk' hp.objs.size (fun b o hb ho => (hs.2 b (Nat.ne_of_lt (Heap.lt_size ho))).trans ((Heap.get?_update_ne _ _ _ _ hb).trans (Heap.get?_push_of_some _ ho))) (Nat.le_refl _) far.symm ?_ hn'
    exact (hs.2 x far).trans (Heap.get?_update_self _ ox₁ rfl)
end
/-- `def __init__(self, p): self.f = p` -/
def iArgs (p : Str) (p1 p2 : Pos) : Arguments := { posonlyargs := [], args := [{ arg := "self", annotation := none, pos := p1 }, { arg := p, annotation := none, pos := p2 }], vararg := none, kwonlyargs := [], kw_defaults := [], kwarg := none, defaults := [] }
def iBody (p f : Str) (q1 q2 q3 q4 : Pos) : List Stmt := [.Assign [.Attribute (.Name "self" q1) f q2] (.Name p q3) q4]
def iScope (p : Str) : Scope := { kind := .function, names := [(PySem.Str.ofString "self", .local), (p, .local)], isGenerator := false, isCoroutine := false, more := [] }
/-- an own exception class that keeps one field -/
structure FldTxt (K : Frag) (mg : Str → Option Value) (C fI : Addr) (cn p f qi : Str) (B newId initId : String) (bmB : List Value) : Prop where
  base : ExcBaseFacts B newId initId bmB
  ps : ∀ self : Value, refuseLoop self "__setattr__" bmB = pure ()
  ob : bmB.contains (.type "object") = true
  np : ("self" : Str) ≠ p
  dbg : (p == ("__debug__" : Str)) = false
  gC : mg cn = some (.ref C)
  cls : ∃ nm q N bs bm sn sub ab col dd k0 k1 k2 k3 k5, K.lookup C = some (excClassObj nm q C N bs bm true sn sub ab col dd k0 k1 k2 k3 k5 newId) ∧ excTail bmB bm = true
  sa : findIn K (.ref C) "__setattr__" = some (some (.builtin "object.__setattr__"))
  ga : findIn K (.ref C) "__getattribute__" = some (some (.builtin "BaseException.__getattribute__"))
  gg : findIn K (.ref C) "__getattr__" = some none
  noN : findIn K (.ref C) f = some none
  iC : findIn K (.ref C) "__init__" = some (some (.ref fI))
  tC : typeIn K (.ref fI) = some (.type "function")
  kC : keepIn K (.ref C) = true
  exC : subIn K (.ref C) (.type "BaseException") = some true
  tyC : typeIn K (.ref C) = some (.type "type")
  hdC : hasDictIn K C = true
  bnd : ∀ (p1 p2 q1 q2 q3 q4 : Pos) (doc pm : Value) (an : Option Addr) (cdv ct u v : Value), bindArgs (fnOf "__init__" qi (iArgs p p1 p2) (iBody p f q1 q2 q3 q4) (iScope p) .none .none doc pm an cdv ct) ⟨[u, v], []⟩ = pure [(("self" : Str), u), (p, v)]
  rdS : ∀ (L a : Addr) (cd u v : Value), bindL (envOfC qi (iScope p) L a cd).kindOf [("self", u), (p, v)] (fun _ => none) "self" = some u
  rdP : ∀ (L a : Addr) (cd u v : Value), bindL (envOfC qi (iScope p) L a cd).kindOf [("self", u), (p, v)] (fun _ => none) p = some v
  kdS : ∀ (L a : Addr) (cd : Value), (envOfC qi (iScope p) L a cd).kindOf "self" = some .local
  kdP : ∀ (L a : Addr) (cd : Value), (envOfC qi (iScope p) L a cd).kindOf p = some .local
  fn : ∃ (oc : Value) (od : Option Addr) (doc pm : Value) (an : Option Addr) (cdv ct : Value) (osl : Array (Option Value)) (p1 p2 q1 q2 q3 q4 : Pos),
    K.lookup fI = some ⟨oc, od, .func (fnOf "__init__" qi (iArgs p p1 p2) (iBody p f q1 q2 q3 q4) (iScope p) .none .none doc pm an cdv ct), osl⟩ ∧ codeIn K cdv qi = true
section
variable {pg : Program} {w : World} {A : Around} {E : Value → Shared → Prop} {R : Result → Shared → Prop} {s : Shared} {K : Frag} {mg : Str → Option Value} {C fI : Addr} {cn p f qi : Str} {B newId initId : String} {bmB : List Value}
theorem ldN {M : Model} {nm : Str} {sc : Scope} {L a : Addr} {cd : Value} {m : Str → Option Value} {x : Str} {pos : Pos} {v : Value} {Q : Value → Shared → Prop} (ns : s.heap.Ns L m) (at_ : m x = some v) (q : Q v s) (fk : sc.kind = .function)
    (lc : (envOfC nm sc L a cd).kindOf x = some .local) (nd : (x == ("__debug__" : Str)) = false) : wpAny M A (eval (.Name x pos) (envOfC nm sc L a cd)) Q E s := wpAny_Name (wpAny_loadName_local fk lc ns at_ q) nd
/-- how the exception at x stands behind its __init__ -/
structure Kept (h h' : Heap) (x C dx t1 : Addr) (f : Str) (v : Value) : Prop where
  old : ∀ b o, b ≠ x → h.get? b = some o → h'.get? b = some o
  it : h'.get? x = some { cls := .ref C, dict := some dx, data := .fields #[.ref t1, .none, .none, .none, .bool false, .none] }
  far : h.objs.size ≤ dx
  ne : dx ≠ x
  ns : h'.Ns1 dx (fun y => if y = f then some v else none)
theorem fld_init (T : FldTxt K mg C fI cn p f qi B newId initId bmB) {x t0 : Addr} {v : Value} (kin : K.In s.heap) (lim : s.heap.NoLimit) (hx : s.heap.get? x = some (excO C t0)) (rm : A.depth < recursionLimit)
    (fin : ∀ h' tk dx, Kept s.heap h' x C dx t0 f v → R (.ok (.ret .none)) { s with heap := h', toks := tk }) : codeAny (model pg w) A (.call (.ref fI) ⟨[.ref x, v], []⟩) R s := by
  obtain ⟨oc, od, doc, pm, an, cdv, ct, osl, p1, p2, q1, q2, q3, q4, ho, hcd⟩ := T.fn
  obtain ⟨nm, q, N, bs, bm, sn, sub, ab, col, dd, k0, k1, k2, k3, k5, hC, ht⟩ := T.cls
  have hcl : clsIn K C = some { name := nm, bases := bs, mro := .ref C :: bm, ns := N, qualname := q, hasDict := true, slotNames := sn, subclasses := sub, abstract := ab, collection := col, hasDel := false } := by unfold clsIn; rw [hC] <;> rfl
  refine Att.call_fn (binds := [("self", .ref x), (p, v)]) kin lim ho hcd rm (BindsTo.of_eq (T.bnd p1 p2 q1 q2 q3 q4 doc pm an cdv ct (.ref x) v)) ?_ (fun s₁ IC => ?_) rfl rfl rfl
  · have k1 : (iScope p).names.lookup ("self" : Str) = some .local := T.kdS 0 0 .none
    have k2 : (iScope p).names.lookup p = some .local := T.kdP 0 0 .none
    simp only [List.all_cons, List.all_nil, k1, k2]
    decide
  obtain ⟨h₁, tk₁, rfl⟩ := IC.toInCall.same
  have k : ∀ b o, s.heap.get? b = some o → h₁.get? b = some o := IC.toInCall.keep
  have hn := IC.toInCall.ns
  have hx₁ := k _ _ hx
  show wpAny _ _ (execs _ _) _ _ _
  refine wpAny_execs_cons (plainObj_wpAny_Assign_Attribute ?_)
  refine ldN (v := v) hn (T.rdP _ _ _ _ _) (ldN (v := .ref x) hn (T.rdS _ _ _ _ _) ?_ rfl (T.kdS _ _ _) (by decide)) rfl (T.kdP _ _ _) T.dbg
  refine set_plain (kin.keeps k) (ox := excO C t0) (od := none) ⟨hx₁, rfl, rfl, trivial⟩ T.sa ?_
  refine osaB (kin.keeps k) hx₁ hcl (fun u => ?_) rfl ?_ rfl T.noN (fun h₃ tk₃ dx k₃ dn dne hx₃ hn₃ => ?_)
  · show refuseLoop u "__setattr__" (.ref C :: bm) = pure ()
    rw [refuseLoop_ref]; exact excTail_pass u (T.ps u) _ ht
  · show (Value.ref C :: bm).contains (.type "object") = true
    rw [List.contains_cons, excTail_contains _ _ ht, T.ob, Bool.or_true]
  show wpAny _ _ (execs _ _) _ _ _
  exact wpAny_execs_nil (fin h₃ tk₃ dx ⟨fun b o hb e => k₃ b o hb (k b o e), hx₃, Nat.le_of_lt (Nat.lt_of_lt_of_le hn.lt dn), dne, hn₃⟩)
/-- a made one, at e -/
structure Made1 (h h' : Heap) (e C d : Addr) (f : Str) (v : Value) : Prop where
  old : ∀ b o, h.get? b = some o → h'.get? b = some o
  new : h.objs.size ≤ e
  it : ∃ oe vs, h'.get? e = some oe ∧ oe.cls = .ref C ∧ oe.dict = some d ∧ oe.data = .fields vs ∧ vs[1]? = some .none
  far : h.objs.size ≤ d
  ne : d ≠ e
  ns : h'.Ns1 d (fun y => if y = f then some v else none)
theorem fld_made (T : FldTxt K mg C fI cn p f qi B newId initId bmB) {v : Value} (kin : K.In s.heap) (lim : s.heap.NoLimit) (rm : A.depth + 1 < recursionLimit)
    (fin : ∀ h' tk e d, Made1 s.heap h' e C d f v → R (.ok (.ret (.ref e))) { s with heap := h', toks := tk }) : codeAny (model pg w) A (.call (.ref C) ⟨[v], []⟩) R s := by
  obtain ⟨nm, q, N, bs, bm, sn, sub, ab, col, dd, k0, k1, k2, k3, k5, hC, ht⟩ := T.cls
  obtain ⟨hp, g, dr, tk, os⟩ := s
  have k : ∀ b o, hp.get? b = some o → ((hp.push (kdv_tup [v])).push (excO C hp.objs.size)).get? b = some o := fun b o e => Heap.get?_push_of_some _ (Heap.get?_push_of_some _ e)
  have at_ : ((hp.push (kdv_tup [v])).push (excO C hp.objs.size)).get? (hp.objs.size + 1) = some (excO C hp.objs.size) := by heap_get
  refine call_own T.base (fun X => excTail_contains X _ ht) (kin _ _ hC) (looks_findIn kin T.iC) (fun self => bind_fn kin self T.tC) (by rw [sizeLine_eq]; exact (by decide : 1 ≤ 16777216)) ?_
  refine fld_init (s := ⟨(hp.push (kdv_tup [v])).push (excO C hp.objs.size), g, dr, tk, os⟩) T (kin.keeps k) (lim.keeps k) at_ rm fun h' tk' dx Z => ?_
  have up : ∀ b o, hp.get? b = some o → h'.get? b = some o := fun b o e => Z.old b o (Nat.ne_of_lt (Nat.lt_succ_of_lt (Heap.lt_size e))) (k b o e)
  have z : hp.objs.size + 1 + 1 ≤ dx := by
    have q := Z.far
    rw [show (Shared.heap ⟨(hp.push (kdv_tup [v])).push (excO C hp.objs.size), g, dr, tk, os⟩).objs.size = hp.objs.size + 1 + 1 from by simp [Heap.size_push]] at q
    exact q
  exact ⟨rfl, fin h' tk' (hp.objs.size + 1) dx ⟨up, Nat.le_succ _, ⟨_, _, Z.it, rfl, rfl, rfl, rfl⟩, by show hp.objs.size ≤ dx; omega, Z.ne, Z.ns⟩⟩
end
end DLX
set_option Elab.async false
set_option linter.all false
set_option maxRecDepth 100000
set_option maxHeartbeats 2000000
namespace DLX
open PySem PySem.Spec PyProof.Rows L2
theorem rel1 {f : Str} {v : V} {v' : Value} (r : RelV v v') (y : Str) : RelO (List.lookup y [(f, v)]) (if y = f then some v' else none) := by
  by_cases hw : y = f
  · subst hw
    rw [if_pos rfl, show List.lookup y [(y, v)] = some v by simp [List.lookup]]
    exact r
  · rw [if_neg hw, show List.lookup y [(f, v)] = none by simp [List.lookup, show (y == f) = false by simpa using hw]]
    trivial
section
variable {X : Cx} {C fI : Addr} {cn p f qi : Str} {B newId initId : String} {bmB : List Value}
def tMkF (C : Addr) (f : Str) (ta : TA) : L2.St → Hp → XK → Prop := fun σ H Q => ta σ H fun vs H1 => ∃ v, vs = [v] ∧ ∀ d, H1 d = none → Q (.ref C) (some d) (upd H1 d (.xd [(f, v)]))
theorem pmk_fld {a : Expr} {ta : TA} {p1 pos : Pos} {k : Nat} (T : FldTxt X.K X.mg C fI cn p f qi B newId initId bmB) (hr : Room k X.A) (ha : PA X [a] ta) (hg : Gl X cn) (nd : (cn == ("__debug__" : Str)) = false)
    (he : starEach (a :: []) X.env = (false, eval a X.env) :: starEach [] X.env) (hpl : (backTo pos (starEach [] X.env)).any (·.1) = false) : PMk X (.Call (.Name cn p1) [a] [] pos) (tMkF C f ta) := fun pins s σ H Q I h => by
  refine wpAny_Call_Name_kw (ld_glob I hg T.gC (PySem.W.callWith_K (h₀ := X.base) I.ok.mod.kin T.kC (thn (ha.run pos pins s σ H _ I h) fun us s1 hh => ?_) he hpl) nd)
  obtain ⟨vs, H1, I1, r1, v, ev, q1⟩ := hh
  subst ev
  obtain ⟨v', rfl, rv⟩ : ∃ v', us = [v'] ∧ RelV v v' := by
    cases r1 with
    | cons rv rn =>
      cases rn
      exact ⟨_, rfl, rv⟩
  refine ⟨I1.kIn, ?_⟩
  show wpAny _ _ (call (.ref C) [v']) _ _ _
  have lim := I1.nolimit
  obtain ⟨hp, g, dr, tk, os⟩ := s1
  refine wpAny_call (fld_made T I1.kIn lim (by have := hr.dp; omega) fun h' tk' e d M => ?_)
  show MkP X pins σ Q (.ref e) ⟨h', g, dr, tk', os⟩
  obtain ⟨oe, fv, hoe, hc, hd, hdat, h1⟩ := M.it
  obtain ⟨G', g1, g2⟩ := restrict h' fun b => decide (b ≠ e)
  have gk : ∀ b, b ≠ e → G'.get? b = h'.get? b := fun b hb => g1 b (decide_eq_true hb)
  have ge : G'.get? e = none := g2 e (by simp)
  have old : ∀ b o, hp.get? b = some o → G'.get? b = some o := fun b o q => (gk b (Nat.ne_of_lt (Nat.lt_of_lt_of_le (Heap.lt_size q) M.new))).trans (M.old b o q)
  have ob : ObjOk X.prog X.w (upd H1 d (.xd [(f, v)])) G' d (.xd [(f, v)]) := ⟨_, M.ns.at (fun o q => (gk d M.ne).trans q), fun y => rel1 rv y⟩
  have J : Inv X pins σ (upd H1 d (.xd [(f, v)])) ⟨G', g, dr, tk', os⟩ := I1.laid (t' := tk') old M.far ob
  refine ⟨e, oe, fv, ⟨G', g, dr, tk', os⟩, _, .ref C, some d, rfl, J, fun b o q => ?_, ge, hoe, ⟨hc, hd⟩, hdat, h1, ?_, rfl, I1.bare, raises_own T.exC T.tyC, q1 d (I1.hok.fresh M.far)⟩
  · by_cases hb : b = e
    · have q' : G'.get? b = some o := q
      rw [hb, ge] at q'; cases q'
    · exact (gk b hb).symm.trans q
  · rw [upd_ne (Ne.symm M.ne)]
    exact I1.hok.fresh M.new
end
end DLX
namespace DL
open PySem PySem.Spec PyProof.Rows L2
/-- a class of the text, raised with a text -/
structure PlC (G : Gg) (cn : Str) (C : Addr) (B newId initId : String) (bmB : List Value) : Prop where
  base : ExcBaseFacts B newId initId bmB
  ex : PySem.W.excIn G.K C bmB newId = true
  gC : G.mg cn = some (.ref C)
  kC : PySem.W.keepIn G.K (.ref C) = true
  exC : PySem.W.subIn G.K (.ref C) (.type "BaseException") = some true
  tyC : PySem.W.typeIn G.K (.ref C) = some (.type "type")
section
variable {G : Gg} {X : Cx} {ρ : Rho} {E : Ek} {pos pos2 p1 p2 : Pos}
theorem sj_raiseS {cn m : Str} {j : Nat} {C : Addr} {B newId initId : String} {bmB : List Value} (T : PlC G cn C B newId initId bmB) (hK : X.K = G.K) (hm : X.mg = G.mg) (hc : X.calm = true) (hg : Gl X cn) (nd : (cn == ("__debug__" : Str)) = false)
    (h : E.xc (cn, none) ρ) : SJ G X (.Raise (some (.Call (.Name cn p1) [.Constant (.str m) j p2] [] pos)) none pos2) ρ E := fun P W σ H A Dn Wx tk en =>
  toS (ps_raise hc tk (pmk_own T.base (by rw [hK]; exact T.ex) (by rw [hm]; exact T.gC) (by rw [hK]; exact T.kC) (raises_own (by rw [hK]; exact T.exC) (by rw [hK]; exact T.tyC)) hg nd))
    (en.xc (cn, none) ρ W σ (.ref C) none H h A (Le.refl _ _) ⟨T.gC, fun f a z => by cases z⟩)
theorem sj_raiseF {cn p f qi : Str} {a : Expr} {C fI : Addr} {k : Nat} {B newId initId : String} {bmB : List Value} (T : DLX.FldTxt G.K G.mg C fI cn p f qi B newId initId bmB) (hK : X.K = G.K) (hm : X.mg = G.mg) (hc : X.calm = true) (hr : Room k X.A) (hg : Gl X cn) (nd : (cn == ("__debug__" : Str)) = false)
    (he : starEach (a :: []) X.env = (false, eval a X.env) :: starEach [] X.env) (hpl : (backTo pos (starEach [] X.env)).any (·.1) = false)
    (h : AJ G X [a] ρ (fun ds ρ1 => ∃ d, ds = [d] ∧ E.xc (cn, some (f, d)) ρ1) E.xc) : SJ G X (.Raise (some (.Call (.Name cn p1) [a] [] pos)) none pos2) ρ E := fun P W σ H A Dn Wx tk en => by
  have T' : DLX.FldTxt X.K X.mg C fI cn p f qi B newId initId bmB := by rw [hK, hm]; exact T
  refine toS (ps_raise hc tk (DLX.pmk_fld T' hr sA_pa hg nd he hpl)) (h P W σ H A _ Wx tk (fun ds ρ1 vs H1 ⟨d, e1, hx⟩ A1 L1 r1 => ?_) en.xp)
  subst e1
  obtain ⟨v, r, rfl, rv, rn⟩ := r1
  have rn' : r = [] := rn
  subst rn'
  refine ⟨v, rfl, fun dd hd => ?_⟩
  have L2' : Le W H1 W (upd H1 dd (.xd [(f, v)])) := Le.new1 hd
  refine en.xc (cn, some (f, d)) ρ1 W σ (.ref C) (some dd) _ hx (A1.new hd) (L1.le.trans L2') ⟨T.gC, fun f' a' z => ?_⟩
  cases z
  exact ⟨dd, v, rfl, upd_same, A1.nw hd, Rep.le L2' d v rv⟩
end
end DL
set_option Elab.async false
set_option linter.all false
set_option maxRecDepth 100000
set_option maxHeartbeats 2000000
namespace DLX
open PySem PySem.Spec PyProof.Rows L2
/-- an exception that has come down to this frame -/
structure Dwn (X : Cx) (pins : List (Addr × Obj)) (σ : L2.St) (H : Hp) (cls : Value) (d : Option Addr) (a : Addr) (s' : Shared) : Prop where
  ex : ∃ (B : Heap) (sI : Shared), Inv X pins σ H sI ∧ (∀ b o, sI.heap.get? b = some o → b ∉ frs X.stack → B.get? b = some o) ∧ sI.heap.UpToSlots s'.heap ∧ HandSPX.FlyingZ B (X.env :: X.outer) a (Zc cls d) s'.heap ∧ s'.os = sI.os ∧ AllBare s'.gens
  na : H a = none
section
variable {X : Cx} {pins : List (Addr × Obj)} {σ : L2.St} {H : Hp} {cls : Value} {d : Option Addr} {a : Addr} {s' : Shared}
theorem Dwn.inv (z : Dwn X pins σ H cls d a s') : Inv X pins σ H s' := by
  obtain ⟨B, sI, J, nb, up, fl, os, ag⟩ := z.ex
  exact J.landed nb fl.1 up os ag
theorem Dwn.obj (z : Dwn X pins σ H cls d a s') (hf : X.env.frame = some X.env.locals) : ∃ oe vs, s'.heap.get? a = some oe ∧ Zc cls d oe ∧ oe.data = .fields vs ∧ a ≠ X.env.locals ∧ a ∉ X.fs := by
  obtain ⟨B, sI, J, nb, up, fl, os, ag⟩ := z.ex
  obtain ⟨oe, vs, he, hz, hd⟩ := fl.there
  have out : a ∉ frs (X.env :: X.outer) := fun m => by
    obtain ⟨_, o, e, nf⟩ := fl.2.2.1.mem m
    rw [he] at e; cases e; exact nf vs hd
  refine ⟨oe, vs, he, hz, hd, fun q => ?_, fun m => ?_⟩
  · refine out (List.mem_filterMap.mpr ⟨X.env, List.mem_cons_self, ?_⟩)
    rw [hf, q]
  · obtain ⟨e, he, q⟩ := List.mem_filterMap.mp m
    exact out (List.mem_filterMap.mpr ⟨e, List.mem_cons_of_mem _ he, q⟩)
theorem Dwn.again {M : Model} {A : Around} {E : Value → Shared → Prop} {Q : Unit → Shared → Prop} (z : Dwn X pins σ H cls d a s') (h : ∀ s2, Dwn X pins σ H cls d a s2 → Q () s2) : wpAny M A (setFlight (.ref a) none) Q E s' := by
  obtain ⟨B, sI, J, nb, up, fl, os, ag⟩ := z.ex
  exact HandSPX.lands_againZ fl fun h4 fl4 up4 => h _ ⟨⟨B, sI, J, nb, up.trans up4, fl4, os, ag⟩, z.na⟩
/-- no clause is left -/
theorem Dwn.none {D : Ends} {W : WX} (z : Dwn X pins σ H cls d a s') (hs : X.stack = X.env :: X.outer) (hf : X.env.frame = some X.env.locals) (tk : Takes X W) (w : W cls d σ H) : wpAny (model X.prog X.w) X.A (handleBy (.ref a) X.env []) (SP X pins D) X.xe s' := by
  obtain ⟨B, sI, J, nb, up, fl, os, ag⟩ := z.ex
  refine wpAny_handleBy_nil ?_
  obtain ⟨_, _, _, oe, vs, T, _, _, he, _, hd, h1, _⟩ := id fl
  unfold PySem.passOn
  refine wpAny_bind (wpAny_field he hd h1 ?_)
  rw [if_neg (by simp : ¬ ((Value.ref T == Value.none) = true))]
  have fin : wpAny (model X.prog X.w) X.A (setFlight (.ref a) X.env.frame) (fun _ s4 => wpAny (model X.prog X.w) X.A (throw (.ref a) : Sem Flow) (SP X pins D) X.xe s4) X.xe s' := by
    rw [hf]
    exact HandSPX.setFlight_upZ fl fun h4 hh up4 => wpAny_throw (tk _ _ ⟨a, B, sI, pins, σ, H, cls, d, rfl, J, nb, up.trans up4, .inr (.inr (hs ▸ hh)), z.na, os, ag, w⟩)
  first | exact wpAny_bind (wpAny_pure (wpAny_bind fin)) | exact wpAny_bind fin
/-- the clause's test -/
theorem Dwn.test {D : Ends} {x : Str} {c : Value} {np p : Pos} {b : Bool} {nm : Option Str} {b₀ : Stmt} {su : List Stmt} {r : List ExceptHandler} (z : Dwn X pins σ H cls d a s') (hf : X.env.frame = some X.env.locals) (hc : Names X x c) (hb : PySem.W.exmOne X.K cls c = some b)
    (hy : b = true → codeAny (model X.prog X.w) (X.A.mark (some (.ref a))) (.handlers (.ref a) [.ExceptHandler Option.none nm (b₀ :: su) p] X.env) (fun r s₂ => match r with
        | .ok f => (match nm with
          | Option.none => SP X pins D f s₂
          | some n => wpAny (model X.prog X.w) X.A (do bindName X.env n .none; unbindBehindTheSuite X.env n p) (fun _ s₃ => SP X pins D f s₃) X.xe s₂)
        | .error x => cameBackBy (model X.prog X.w) X.A X.env X.xe x s₂) s')
    (hn : b = false → wpAny (model X.prog X.w) X.A (handleBy (.ref a) X.env r) (SP X pins D) X.xe s') : wpAny (model X.prog X.w) X.A (handleBy (.ref a) X.env (.ExceptHandler (some (.Name x np)) nm (b₀ :: su) p :: r)) (SP X pins D) X.xe s' := by
  obtain ⟨oe, vs, he, hz, hd, nL, nF⟩ := z.obj hf
  have J := z.inv
  refine wpAny_handleBy_cons (codeAny_handlers_test ?_) (by intro q; cases q)
  have ty : PySem.W.Looks (model X.prog X.w) s'.heap (typeOf (.ref a)) cls := fun A Q E s k q => wpAny_typeOf_ref (k _ _ he) (by rw [hz.1]; exact q)
  have mt := PySem.W.exm_one (M := model X.prog X.w) J.kIn ty hb
  have S := J.suite he hd z.na nL nF
  have go : ∀ {Q : Value → Shared → Prop} {E : Value → Shared → Prop}, Q c s' → wpAny (model X.prog X.w) (X.A.mark (some (.ref a))) (eval (.Name x np) X.env) Q E s' := fun {Q E} q => by
    obtain ⟨hg, hdbg, hm | ⟨hm, hv, hnn⟩⟩ := hc
    · exact ld_glob (X := X.suite a ((a, oe) :: (X.pn ++ pins))) S hg hm q hdbg
    · exact ld_blt (X := X.suite a ((a, oe) :: (X.pn ++ pins))) S hg hm hv q hnn hdbg
  refine go (mt.here ?_)
  cases b with
  | true => exact hy rfl
  | false => exact hn rfl
end
/-- a clause: its class, the slot of its name, its suite -/
abbrev Clz := Value × Option Nat × (Addr → Value → Option Addr → TS)
def endsAs (i : Nat) (D : Ends) : Ends := { nx := fun σ' H' => D.nx (σ'.set i none) H', rt := D.rt, bk := fun σ' H' => D.bk (σ'.set i none) H', ct := fun σ' H' => D.ct (σ'.set i none) H' }
def wMix (K : PySem.W.Frag) (Wout : WX) (D : Ends) : List Clz → WX
  | [] => Wout
  | (c, none, ts) :: r => fun cls d σ H => ∃ b, PySem.W.exmOne K cls c = some b ∧ (b = true → ∀ a, H a = none → ts a cls d D σ H) ∧ (b = false → wMix K Wout D r cls d σ H)
  | (c, some i, ts) :: r => fun cls d σ H => ∃ b, PySem.W.exmOne K cls c = some b ∧ (b = true → ∀ a, H a = none → ts a cls d (endsAs i D) (σ.set i (some (.ref a))) H) ∧ (b = false → wMix K Wout D r cls d σ H)
abbrev Suits (X : Cx) (su : List Stmt) (ts : Addr → Value → Option Addr → TS) : Prop := ∀ (a : Addr) (oe : Obj) (cls : Value) (d : Option Addr) (pn : List (Addr × Obj)), Zc cls d oe → (∃ vs, oe.data = .fields vs) → PSs (X.suite a ((a, oe) :: pn)) su (ts a cls d)
inductive Hdz (X : Cx) : List ExceptHandler → List Clz → Prop
  | nil : Hdz X [] []
  | plain {x : Str} {c : Value} {ts : Addr → Value → Option Addr → TS} {b₀ : Stmt} {su : List Stmt} {np p : Pos} {hds : List ExceptHandler} {l : List Clz} (hc : Names X x c) (hsu : Suits X (b₀ :: su) ts) (r : Hdz X hds l) : Hdz X (.ExceptHandler (some (.Name x np)) none (b₀ :: su) p :: hds) ((c, none, ts) :: l)
  | as {x n : Str} {i : Nat} {c : Value} {ts : Addr → Value → Option Addr → TS} {b₀ : Stmt} {su : List Stmt} {np p : Pos} {hds : List ExceptHandler} {l : List Clz} (hi : X.N[i]? = some n) (hln : X.env.kindOf n = some .local) (hc : Names X x c) (hsu : Suits X (b₀ :: su) ts) (r : Hdz X hds l) :
      Hdz X (.ExceptHandler (some (.Name x np)) (some n) (b₀ :: su) p :: hds) ((c, some i, ts) :: l)
section
variable {X : Cx} {Wout : WX}
theorem sp_un {pins : List (Addr × Obj)} {a : Addr} {q : Addr × Obj} {D : Ends} {f : Flow} {s : Shared} (ok : X.Ok) (h : SP (X.suite a (q :: (X.pn ++ pins))) [] D f s) : SP X pins D f s := by
  cases f with
  | ret u => obtain ⟨v, σ6, H6, S, r, w⟩ := h; exact ⟨v, σ6, H6, S.unsuite ok, r, w⟩
  | next => obtain ⟨σ6, H6, S, w⟩ := h; exact ⟨σ6, H6, S.unsuite ok, w⟩
  | brk => obtain ⟨σ6, H6, S, w⟩ := h; exact ⟨σ6, H6, S.unsuite ok, w⟩
  | cont => obtain ⟨σ6, H6, S, w⟩ := h; exact ⟨σ6, H6, S.unsuite ok, w⟩
theorem go_mix (hs : X.stack = X.env :: X.outer) (hf : X.env.frame = some X.env.locals) (hN : X.N.Nodup) (tk : Takes X Wout) {hds : List ExceptHandler} {l : List Clz} (hh : Hdz X hds l) {pins : List (Addr × Obj)} {σ : L2.St} {H : Hp} {cls : Value} {d : Option Addr} {a : Addr} {D : Ends} :
    ∀ {s' : Shared}, Dwn X pins σ H cls d a s' → wMix X.K Wout D l cls d σ H → wpAny (model X.prog X.w) X.A (handleBy (.ref a) X.env hds) (SP X pins D) X.xe s' := by
  induction hh with
  | nil => exact fun z w => z.none hs hf tk w
  | plain hc hsu r ih =>
    rintro s' z ⟨b, hb, hy, hn⟩
    refine z.test hf hc hb (fun e => codeAny_handlers_suite (z.again fun s2 z2 => ?_)) fun e => ih z (hn e)
    obtain ⟨oe, vs, he, hz, hd, nL, nF⟩ := z2.obj hf
    have S := z2.inv.suite he hd z2.na nL nF
    exact wpAny_mono ((hsu a oe cls d (X.pn ++ pins) hz ⟨_, hd⟩).run [] _ _ _ _ S (hy e a z2.na)) (fun f s6 q => sp_un z2.inv.ok q) fun _ _ q => False.elim q
  | @as x n i c ts b₀ su np p hds l hi hln hc hsu r ih =>
    rintro s' z ⟨b, hb, hy, hn⟩
    refine z.test hf hc hb (fun e => codeAny_handlers_suite_as (z.again fun s2 z2 => ?_)) fun e => ih z (hn e)
    obtain ⟨oe, vs, he, hz, hd, nL, nF⟩ := z2.obj hf
    have S := z2.inv.suite he hd z2.na nL nF
    refine store_ok (X := X.suite a ((a, oe) :: (X.pn ++ pins))) (v := .ref a) S hN hi (.inl hln) rfl (fun s5 S5 => ?_) (.inr hln)
    refine wpAny_mono ((hsu a oe cls d (X.pn ++ pins) hz ⟨_, hd⟩).run [] s5 _ _ _ S5 (hy e a z2.na)) (fun f s6 q => ?_) fun _ _ q => False.elim q
    have q' := sp_un z2.inv.ok q
    cases f with
    | ret u => obtain ⟨v, σ6, H6, J, r, w⟩ := q'; exact gone_ok J hN hi hln fun s7 J7 => ⟨v, _, H6, J7, r, w⟩
    | next => obtain ⟨σ6, H6, J, w⟩ := q'; exact gone_ok J hN hi hln fun s7 J7 => ⟨_, H6, J7, w⟩
    | brk => obtain ⟨σ6, H6, J, w⟩ := q'; exact gone_ok J hN hi hln fun s7 J7 => ⟨_, H6, J7, w⟩
    | cont => obtain ⟨σ6, H6, J, w⟩ := q'; exact gone_ok J hN hi hln fun s7 J7 => ⟨_, H6, J7, w⟩
/-- several clauses, with or without a name -/
theorem ps_mix {body : List Stmt} {h₀ : ExceptHandler} {hds : List ExceptHandler} {l : List Clz} {pos : Pos} {tb : WX → TS} (hs : X.stack = X.env :: X.outer) (hf : X.env.frame = some X.env.locals) (hN : X.N.Nodup) (tk : Takes X Wout)
    (hb : ∀ (W : WX) (pn : List (Addr × Obj)) (xe : Value → Shared → Prop), Takes (X.tr pn xe) W → PassesOwn (model X.prog X.w) X.A X.env xe → PSs (X.tr pn xe) body (tb W)) (hh : Hdz X (h₀ :: hds) l) :
    PS X (.Try body (h₀ :: hds) [] [] pos) (fun D σ H => tb (wMix X.K Wout D l) D σ H) := by
  refine ⟨fun pins s σ H D I h => wpAny_Try_except ?_⟩
  have ok := I.ok
  let xe' : Value → Shared → Prop := fun e s₁ => wpAny (model X.prog X.w) X.A (noteFrame e X.env) (fun _ s₂ => wpAny (model X.prog X.w) X.A (setFlight e none) (fun _ s₃ => wpAny (model X.prog X.w) X.A (handleBy e X.env (h₀ :: hds)) (SP X pins D) X.xe s₃) X.xe s₂) X.xe s₁
  have tk' : Takes (X.tr (X.pn ++ pins) xe') (wMix X.K Wout D l) := by
    rintro u s' ⟨a, B, sI, pins', σ', H', cls, d, rfl, J', nb, up, sky, na, os, ag, w⟩
    have sky' : Sky B (X.env :: X.outer) a (Zc cls d) X.env.locals s'.heap := hs ▸ sky
    exact Sky.land Zc.steady (ok.frames.trans (by rw [hs])) hf sky' fun h3 fl3 up3 => go_mix hs hf hN tk hh ⟨⟨B, sI, J'.ofTry ok, nb, up.trans up3, fl3, os, ag⟩, na⟩ w
  refine wpAny_mono ((hb (wMix X.K Wout D l) (X.pn ++ pins) xe' tk' PassesOwn.looking).run [] s σ H D (I.toTry _) h) (fun f s1 q => ?_) fun e s1 he => he
  cases f with
  | next => obtain ⟨σ6, H6, J, w⟩ := q; exact wpAny_execs_nil ⟨σ6, H6, J.ofTry ok, w⟩
  | brk => obtain ⟨σ6, H6, J, w⟩ := q; exact ⟨σ6, H6, J.ofTry ok, w⟩
  | cont => obtain ⟨σ6, H6, J, w⟩ := q; exact ⟨σ6, H6, J.ofTry ok, w⟩
  | ret u => obtain ⟨v, σ6, H6, J, r, w⟩ := q; exact ⟨v, σ6, H6, J.ofTry ok, r, w⟩
end
end DLX
set_option Elab.async false
set_option linter.all false
set_option maxRecDepth 100000
set_option maxHeartbeats 2000000
namespace DLX
open PySem PySem.Spec PyProof.Rows L2
/-- data whose repr is told -/
def okR : PyData → Prop
  | .int i => i.natAbs < 10 ^ 4300
  | d => d.showable = true ∧ d.hasDict = false ∧ d.depth ≤ 30 ∧ d.shown.length ≤ sizeLine
section
variable {prog : Program} {w : World} {A : Around} {E : Value → Shared → Prop} {s : Shared} {a : Int} {t : Tok} {Q : Value → Shared → Prop}
theorem repr_int10 (hn : s.heap.NoDigits) (hu : A.units + 1 < cLine) (hb : a.natAbs < 10 ^ 4300) (q : Q (.str (toString a) s.toks) { s with toks := s.toks + 1 }) : wpAny (model prog w) A (call (.builtin "repr") [.int a t]) Q E s := by
  refine call_repr_slot hu (typeIs_int s a t) F.slot_int_repr.toG (wpAny_call_entry F.slot_int_repr (typeIs_int s a t) F.entry_int_repr ?_ (F.args_int_repr_1 _))
  unfold Builtin.«int.__repr__»
  show wpAny _ _ (do let r ← Builtin.overDigitLimit? a; _) _ _ s
  exact wpAny_bind (overDigitLimit_any hn (fun _ => wpAny_bind (wpAny_mkStr (wpAny_pure ⟨_, rfl, _, _, rfl, q⟩) (int_text_fits10 hb))) fun hge => absurd hb (Nat.not_lt.mpr hge))
end
section
variable {X : Cx}
theorem call_reprD (gd : X.A.guards = some []) (un : X.A.units + 100 < cLine) (nd : X.base.NoDigits) : CallR X (.builtin "repr") (fun xs H Q => ∃ v d, xs = [v] ∧ Dp X.K H v d ∧ okR d ∧ Q (.str d.shown) H) := by
  intro pins s σ H xs us Q I r ⟨v, d, e, hd, ok, q⟩
  subst e
  obtain ⟨u, rfl, rv⟩ : ∃ u, us = [u] ∧ RelV v u := by
    cases r with
    | cons rv rn =>
      cases rn
      exact ⟨_, rfl, rv⟩
  have fin : ∀ (h' : Heap) (x : Str) (u : Tok) (tk : Nat), x = d.shown → (∀ b o, s.heap.get? b = some o → h'.get? b = some o) → EP X pins σ Q (.str x u) { s with heap := h', toks := tk } := fun h' x u tk e k => ⟨.str d.shown, H, I.kept k, ⟨u, by rw [e]⟩, q⟩
  have NK : s.heap.NoDigits := nd.keeps fun b o e => (I.bs b o e).1
  cases d with
  | none =>
    cases hd
    obtain rfl : u = Value.none := rv
    exact PySem.P.repr_of_none (fin s.heap "None" _ _ rfl fun _ _ e => e)
  | bool b =>
    cases hd
    obtain rfl : u = Value.bool b := rv
    exact PySem.P.repr_of_bool (fin s.heap _ _ _ rfl fun _ _ e => e)
  | int i =>
    cases hd
    obtain ⟨t, rfl⟩ := rv
    exact repr_int10 NK (by omega) ok (fin s.heap _ _ _ rfl fun _ _ e => e)
  | str x =>
    cases hd
    obtain ⟨t, rfl⟩ := rv
    exact PySem.P.repr_of_str (fin s.heap _ _ _ rfl fun _ _ e => e) (hsz := ok.2.2.2)
  | list ds =>
    obtain ⟨as, rr⟩ := Dp.reads I _ v u hd rv
    cases hd with
    | lst hq ha =>
      obtain rfl : u = _ := rv
      exact repr_of_reads' rr ok.1 (fun z => by rw [ok.2.1] at z; cases z) gd (by have := ok.2.2.1; omega) (fun b o e => e) (fun h' u tk k => fin h' _ u tk rfl k) ok.2.2.2
  | tuple ds =>
    obtain ⟨as, rr⟩ := Dp.reads I _ v u hd rv
    cases hd with
    | tup hq ha =>
      obtain rfl : u = _ := rv
      exact repr_of_reads' rr ok.1 (fun z => by rw [ok.2.1] at z; cases z) gd (by have := ok.2.2.1; omega) (fun b o e => e) (fun h' u tk k => fin h' _ u tk rfl k) ok.2.2.2
  | dict kvs => cases hd
end
end DLX
set_option Elab.async false
set_option linter.all false
set_option maxRecDepth 100000
set_option maxHeartbeats 2000000
namespace DLX
open PySem PySem.Spec PyProof.Rows L2 LamX DL
section
variable {X : Cx} {pins : List (Addr × Obj)} {σ : L2.St} {H HZ : Hp} {s s1 : Shared}
/-- a lambda is made: nothing but tables changes -/
theorem lam_made {T : List (Addr × Str)} {c P : Addr} {params : Arguments} {body : Expr} {scope : Scope} {pos : Pos} {E : Value → Shared → Prop} {Q : Value → Shared → Prop} (I : Inv X pins σ H s) (B : TabB X.base X.mg c P) (cd : X.env.code = .ref c)
    (mT : (P, X.env.qual ++ "<lambda>") ∈ T) (uT : ∀ p ∈ T, p.1 = P → p.2 = X.env.qual ++ "<lambda>") (tT : Tabs T H) (df : defaultsOf params X.env = ([], [])) (fr : ∀ y ∈ scope.names, y.2 = .free → ∃ c, X.env.cells.lookup y.1 = some c)
    (go : ∀ (f c' : Addr) (pm tv : Value) (H1 : Hp) (s' : Shared), Inv X pins σ H1 s' → Kp H H1 → Tabs T H1 → s'.heap.get? f = some (PySem.W.kla_obj "<lambda>" (X.env.qual ++ "<lambda>") params body scope (cloFrom X.env.cells scope.names []) pm c' tv) → H1 f = none → f ∉ frs X.stack → H1 c' = some (CodeO c' (X.env.qual ++ "<lambda>")) → Q (.ref f) s') :
    wpAny (model X.prog X.w) X.A (eval (.Lambda params body scope pos) X.env) Q E s := by
  obtain ⟨ps, eP, tr, am⟩ := tT _ mT
  have bP : s.heap.BuiltinsAt X.mg P := B.bm.keeps I.bk
  have oP : s.heap.get? P = some { cls := .none, data := .fields ps } := I.hok P _ eP
  have out : ∀ f, s.heap.objs.size ≤ f → f ∉ frs X.stack := fun f hf z => (List.mem_cons.mp (I.stkSub _ z)).elim (fun e => Nat.lt_irrefl _ (Nat.lt_of_lt_of_le (e ▸ I.lt) hf)) (fun e => I.nofs hf e)
  refine PySem.W.kla_eval df ?_
  cases hit : codeAmong pos ps.toList with
  | some cv =>
    obtain ⟨c', rfl, ec⟩ := am pos cv hit
    exact PySem.W.kla_makeFunctionHit (mg := X.mg) (c := c) (P := P) (ps := ps) (closure_ok fr) I.ok.glob (I.mod.glob.keeps I.bk) cd (B.code.keeps I.bk) oP tr hit bP fun tv h' tk hx hs =>
      go h'.objs.size c' ((X.mg "__name__").getD .none) tv H _ (I.kept fun b o e => Heap.get?_push_of_some _ (hx b o e)) (Kp.refl H) tT (Heap.get?_push_size _ rfl) (I.hok.fresh hs) (out _ hs) ec
  | none =>
    refine PySem.W.kla_makeFunction (mg := X.mg) (c := c) (P := P) (ps := ps) (closure_ok fr) I.ok.glob (I.mod.glob.keeps I.bk) cd (B.code.keeps I.bk) oP tr hit B.gP bP fun c' tv h' tk hx ge lt rec_ tb => ?_
    obtain ⟨c2, oc, vs, t, e2, hoc, hd, hv⟩ := rec_
    cases e2
    have sz : s.heap.objs.size ≤ h'.objs.size := Nat.le_trans ge (Nat.le_of_lt lt)
    have nc : H c' = none := I.hok.fresh ge
    let ps' : Array Value := ps ++ #[rawInt pos.line, rawInt pos.col, .ref c']
    let H1 : Hp := upd (upd H P (.tbl ps')) c' (CodeO c' (X.env.qual ++ "<lambda>"))
    have J : Inv X pins σ H1 { s with heap := h'.push (PySem.W.kla_obj "<lambda>" (X.env.qual ++ "<lambda>") params body scope (cloFrom X.env.cells scope.names []) ((X.mg "__name__").getD .none) c' tv), toks := tk } :=
      inv_table (more := #[rawInt pos.line, rawInt pos.col, .ref c']) I eP (fun b o hb e => Heap.get?_push_of_some _ (hx b o hb e)) (Heap.get?_push_of_some _ tb) ge ⟨oc, vs, t, Heap.get?_push_of_some _ hoc, hd, hv⟩
    have keep : ∀ b o, H b = some o → b ≠ P → H1 b = some o := fun b o e n => by
      show upd (upd H P (.tbl ps')) c' _ b = some o
      rw [upd_ne (ne_of_none e nc), upd_ne n]; exact e
    have atP : H1 P = some (.tbl ps') := by
      show upd (upd H P (.tbl ps')) c' _ P = _
      rw [upd_ne (ne_of_none eP nc), upd_same]
    have atc : H1 c' = some (CodeO c' (X.env.qual ++ "<lambda>")) := upd_same
    have kp : Kp H H1 := fun b o e => by
      by_cases n : b = P
      · subst n
        rw [eP] at e; cases e
        exact .inr ⟨ps, ps', rfl, atP⟩
      · exact .inl (keep b o e n)
    have cdk : ∀ b, H b = some (CodeO b (X.env.qual ++ "<lambda>")) → H1 b = some (CodeO b (X.env.qual ++ "<lambda>")) := fun b e => keep b _ e fun z => by
      rw [z, eP] at e
      exact codeO_ne ps (Option.some.inj e).symm
    have eL : ps'.toList = ps.toList ++ [rawInt pos.line, rawInt pos.col, .ref c'] := by simp [ps']
    refine go h'.objs.size c' _ tv H1 _ J kp (fun p hp => ?_) (Heap.get?_push_size _ rfl) ?_ (out _ sz) atc
    · by_cases hb : p.1 = P
      · rw [uT p hp hb, hb]
        refine ⟨ps', atP, by rw [eL]; exact PySem.TriplesOk_snoc _ _ _ _ tr, fun p' cv hc => ?_⟩
        rw [eL] at hc
        rcases among_app _ tr hc with z | z
        · obtain ⟨c0, e1, e2⟩ := am p' cv z
          exact ⟨c0, e1, cdk c0 e2⟩
        · exact ⟨c', z, atc⟩
      · obtain ⟨qs, a1, a2, a3⟩ := tT p hp
        refine ⟨qs, keep _ _ a1 hb, a2, fun p' cv hc => ?_⟩
        obtain ⟨c0, e1, e2⟩ := a3 p' cv hc
        refine ⟨c0, e1, keep _ _ e2 fun z => ?_⟩
        rw [z, eP] at e2
        exact codeO_ne ps (Option.some.inj e2).symm
    · have n1 : h'.objs.size ≠ c' := Nat.ne_of_gt lt
      have n2 : h'.objs.size ≠ P := Nat.ne_of_gt (Nat.lt_of_lt_of_le (Heap.lt_size oP) sz)
      show upd (upd H P (.tbl ps')) c' _ h'.objs.size = none
      rw [upd_ne n1, upd_ne n2]
      exact I.hok.fresh sz
/-- the call of the lambda that a def has got -/
theorem act {C : CXT} {Eg E : XK} {Ng : List Str} {qg : Str} {sg : Scope} {g f c' : Addr} {cdg pm tv : Value} {params : Arguments} {body : Expr} {scope : Scope} {k i : Nat} {a : Str} {pn : List (Addr × Obj)} {xe : Value → Shared → Prop} {W : WX} {tb : TE} {p1 p2 : Pos}
    (I : Inv X pins σ H s) (L : LamS X.env.scope scope) (at_ : s.heap.get? f = some (PySem.W.kla_obj "<lambda>" (X.env.qual ++ "<lambda>") params body scope (cloFrom X.env.cells scope.names []) pm c' tv)) (nf : H f = none) (nr : f ∉ frs X.stack)
    (bd : bindArgs (PySem.W.kla_fn "<lambda>" (X.env.qual ++ "<lambda>") params body scope (cloFrom X.env.cells scope.names []) pm (.ref c') tv) ⟨[], []⟩ = pure [])
    (tk : Takes ((cxOf C X.prog X.w X.K X.mg X.base Ng qg sg g cdg X.A X.stack s H Eg).tr pn xe) W) (hW : ∀ cls d σ' H', E cls d H' → W cls d σ' H') (hr : Room (k + 1) (X.A.deeper (envOfC qg sg s.heap.objs.size g cdg)))
    (hb : ∀ (outer : List Env) (s2 : Shared) (H2 : Hp), Room k ((X.A.deeper (envOfC qg sg s.heap.objs.size g cdg)).deeper (lamEnv X scope s2.heap.objs.size f c')) → PE (lamCx X (X.A.deeper (envOfC qg sg s.heap.objs.size g cdg)) outer s2 H2 E scope f c') body tb)
    (hN : Ng[i]? = some a) (hv : Vis sg a) (nd : (a == ("__debug__" : Str)) = false) (nc : (a == ("__classdict__" : Str)) = false) :
    PE ((cxOf C X.prog X.w X.K X.mg X.base Ng qg sg g cdg X.A X.stack s H Eg).tr pn xe) (.Call (.Name a p1) [] [] p2) (fun τ HZ Q => τ[i]? = some (some (.ref f)) ∧ HZ c' = some (CodeO c' (X.env.qual ++ "<lambda>")) ∧ tb σ HZ Q) := ⟨fun pinsZ sZ τ HZ Q IZ ⟨hs, hc, ht⟩ => by
  refine wpAny_Call_Name_kw (thn ((pe_var (pos := p1) (i := i) hN hv nd nc).run pinsZ sZ τ HZ (fun v H1 => v = .ref f ∧ H1 = HZ) IZ ⟨.ref f, hs, rfl, rfl⟩) ?_)
  rintro u s1 ⟨v, H1, I1, r1, rfl, rfl⟩
  cases r1
  have of1 := I1.base.keep f _ at_ nf nr (fun z => nomatch (show f ∈ ([] : List Addr) from z))
  have un : Un (frs X.stack) [] H H1 s.heap s1.heap := I1.base
  obtain ⟨⟨oc, vs, t, hoc, hdc, hvc⟩, _, _⟩ := I1.hok c' _ hc
  refine PySem.W.callWith_F0 ⟨_, _, _, _, of1⟩ (wpAny_call (codeAny_mono (R := CR (L2.CX X.prog X.w) (envOfC qg sg s.heap.objs.size g cdg :: X.stack) X.prog X.w H1 s1 Q E) (PySem.W.kla_callFunE hr.depth of1 rfl L.co L.gen rfl ⟨c', oc, vs, t, rfl, hoc, hdc, hvc⟩ ?_) ?_))
  · rw [List.nil_append, bd]
    refine wpAny_pure (wpAny_newFunctionEnv (fun y hy => (L.own y hy).2) (fun y hy => absurd hy (by simp)) (fun h₁ hns hsb => ⟨I1.nolimit.fresh _ hsb, ?_⟩) L.kind)
    have kp : ∀ b o, s1.heap.get? b = some o → h₁.get? b = some o := fun b o e => hsb.extBut b o (Nat.ne_of_lt (Heap.lt_size e)) (Heap.get?_push_of_some _ e)
    show codeAny _ _ (.expr body (lamEnv X scope s1.heap.objs.size f c')) _ _
    refine PySem.W.kla_codeExpr (wpAny_mono ((hb _ s1 H1 (hr.deeper _)).run [] _ σ H1 Q (lam_start2 I L I1.env0 hr.hd un hns kp) ht) ?_ fun e s' hq => hq)
    rintro v s' ⟨w', H', J, rv, q⟩
    exact ⟨w', H', J.os, J.bare, J.base, J.hok, rv, q⟩
  · rintro (er | (_ | _ | _ | _)) s' z
    all_goals first | exact passes_call tk hW pinsZ τ H1 s1 er s' I1 z | exact I1.after z | exact False.elim z⟩
end
end DLX
set_option Elab.async false
set_option linter.all false
set_option maxRecDepth 100000
set_option maxHeartbeats 2000000
namespace DL
open PySem PySem.Spec PyProof.Rows L2 LamX DLX
/-- a clause of the def that tells what a call met: its class, a text, a field whose repr is told behind it -/
structure Mc where
  cn : Str
  txt : Str
  C : Addr
  fld : Option Str
abbrev rRepr (K : PySem.W.Frag) : List V → Hp → VK → Prop := fun xs H Q => ∃ v d, xs = [v] ∧ Dp K H v d ∧ okR d ∧ Q (.str d.shown) H
abbrev rStrs : R2 := fun x y H Q => ∃ i j, x = .str i ∧ y = .str j ∧ i.length + j.length ≤ sizeLine ∧ Q (.str (i ++ j)) H
def clz (K : PySem.W.Frag) : Mc → Clz
  | ⟨_, txt, C, none⟩ => (.ref C, none, fun _ _ _ => tRet (tC (.str txt)))
  | ⟨_, txt, C, some f⟩ => (.ref C, some 1, fun a cls d => tRet (tOp rStrs (tC (.str txt)) (tCB (rRepr K) (tCons (tXf a cls d C f (tVar 1)) tNil))))
inductive McTxt (ex : Str) : List ExceptHandler → List Mc → Prop
  | nil : McTxt ex [] []
  | plain {cn txt : Str} {C : Addr} {j : Nat} {p1 p2 p3 p4 : Pos} {hds : List ExceptHandler} {l : List Mc} (r : McTxt ex hds l) : McTxt ex (.ExceptHandler (some (.Name cn p1)) none [.Return (some (.Constant (.str txt) j p2)) p3] p4 :: hds) (⟨cn, txt, C, none⟩ :: l)
  | fld {cn txt f : Str} {C : Addr} {j : Nat} {p1 p2 p3 p4 p5 p6 p7 p8 p9 : Pos} {hds : List ExceptHandler} {l : List Mc} (r : McTxt ex hds l) :
      McTxt ex (.ExceptHandler (some (.Name cn p1)) (some ex) [.Return (some (.BinOp (.Constant (.str txt) j p2) .Add (.Call (.Name "repr" p5) [.Attribute (.Name ex p6) f p7] [] p8) p9)) p3] p4 :: hds) (⟨cn, txt, C, some f⟩ :: l)
structure McOk (K : PySem.W.Frag) (mg : Str → Option Value) (sg : Scope) (c : Mc) : Prop where
  gl : sg.names.lookup c.cn = some .globalImplicit
  nd : (c.cn == ("__debug__" : Str)) = false
  mg : mg c.cn = some (.ref c.C)
  xf : ∀ f, c.fld = some f → XfC K c.C ∧ PySem.W.findIn K (.ref c.C) f = some none
/-- what the def makes of an exception -/
def metP (isa : List (Str × Str × Bool)) : List Mc → Exn → (Str → Prop) → Prop
  | [], _, _ => False
  | c :: r, x, k => ∃ b, (x.1, c.cn, b) ∈ isa ∧ if b = true then (match c.fld with
      | none => k c.txt
      | some f => x.1 = c.cn ∧ ∃ d, x.2 = some (f, d) ∧ isPy d = true ∧ okR (toPy d) ∧ c.txt.length + (toPy d).shown.length ≤ sizeLine ∧ k (c.txt ++ (toPy d).shown)) else metP isa r x k
def IsaOk (K : PySem.W.Frag) (mg : Str → Option Value) (isa : List (Str × Str × Bool)) : Prop := ∀ x y b, (x, y, b) ∈ isa → ∀ Cx Cy, mg x = some Cx → mg y = some Cy → PySem.W.exmOne K Cx Cy = some b
theorem hdz_of {Z : Cx} {ex : Str} (hi : Z.N[1]? = some ex) (hv : Z.env.kindOf ex = some .local) (h1 : (ex == ("__debug__" : Str)) = false) (h2 : (ex == ("__classdict__" : Str)) = false) (gr : Gl Z "repr") (mr : Z.mg "repr" = none) (gd : Z.A.guards = some []) (un : Z.A.units + 100 < cLine) (nd : Z.base.NoDigits) :
    ∀ {hds : List ExceptHandler} {l : List Mc}, McTxt ex hds l → (∀ c ∈ l, McOk Z.K Z.mg Z.env.scope c) → Hdz Z hds (l.map (clz Z.K))
  | _, _, .nil, _ => .nil
  | _, _, .plain (cn := cn) (txt := txt) (C := C) r, h => by
    have o := h ⟨cn, txt, C, none⟩ List.mem_cons_self
    exact .plain ⟨o.gl, o.nd, .inl o.mg⟩ (fun a oe cls d pn _ _ => pss_one (ps_ret pe_str)) (hdz_of hi hv h1 h2 gr mr gd un nd r fun c hc => h c (List.mem_cons_of_mem _ hc))
  | _, _, .fld (cn := cn) (txt := txt) (f := f) (C := C) r, h => by
    have o := h ⟨cn, txt, C, some f⟩ List.mem_cons_self
    obtain ⟨xf, no⟩ := o.xf f rfl
    refine .as hi hv ⟨o.gl, o.nd, .inl o.mg⟩ (fun a oe cls d pn hz hf => pss_one (ps_ret (pe_op op_add_str pe_str (pe_callB (X := Z.suite a ((a, oe) :: pn)) (call_reprD (X := Z.suite a ((a, oe) :: pn)) gd un nd) gr mr (by rfl) (pa_cons (pe_xf xf no hz hf (pe_var (X := Z.suite a ((a, oe) :: pn)) (i := 1) hi (.inl hv) h1 h2)) pa_nil)))))
      (hdz_of hi hv h1 h2 gr mr gd un nd r fun c hc => h c (List.mem_cons_of_mem _ hc))
/-- what the clauses want, from what they make -/
theorem wMix_of {K : PySem.W.Frag} {mg : Str → Option Value} {sg : Scope} {isa : List (Str × Str × Bool)} (hisa : IsaOk K mg isa) {Q : VK} {W : AS} {H : Hp} {T : Tb} {x : Exn} {cls : Value} {dd : Option Addr} {σ : L2.St} {nx bk ct : L2.St → Hp → Prop} (hs : 1 < σ.length) (rx : RepX ⟨K, mg, T⟩ W H x cls dd) :
    ∀ {l : List Mc}, (∀ c ∈ l, McOk K mg sg c) → metP isa l x (fun s => Q (.str s) H) → wMix K (fun _ _ _ _ => False) { nx := nx, rt := Q, bk := bk, ct := ct } (l.map (clz K)) cls dd σ H
  | [], _, h => h.elim
  | ⟨cn, txt, C, fl⟩ :: l, ho, h => by
    obtain ⟨b, hb, h⟩ := h
    have o := ho ⟨cn, txt, C, fl⟩ List.mem_cons_self
    have e := hisa _ _ _ hb cls (.ref C) rx.1 o.mg
    have rest : b = false → wMix K (fun _ _ _ _ => False) { nx := nx, rt := Q, bk := bk, ct := ct } (l.map (clz K)) cls dd σ H := fun z => by
      subst z
      exact wMix_of hisa hs rx (fun c hc => ho c (List.mem_cons_of_mem _ hc)) h
    cases fl with
    | none =>
      refine ⟨b, e, fun z a _ => ?_, rest⟩
      subst z
      exact h
    | some f =>
      refine ⟨b, e, fun z a _ => ?_, rest⟩
      subst z
      obtain ⟨ex, d, e2, py, ok, len, hk⟩ := h
      have ec : cls = .ref C := by
        have q := rx.1
        rw [ex] at q
        exact Option.some.inj (q.symm.trans o.mg)
      obtain ⟨da, v, e3, e4, _, r⟩ := rx.2 f d e2
      exact ⟨.ref a, List.getElem?_set_self hs, rfl, ec, da, _, v, e3, e4, by simp [List.lookup], v, toPy d, rfl, Rep.dp d v py r, ok, _, _, rfl, rfl, len, hk⟩
end DL
set_option Elab.async false
set_option linter.all false
set_option maxRecDepth 100000
set_option maxHeartbeats 2000000
namespace DL
open PySem PySem.Spec PyProof.Rows L2 LamX DLX
theorem takes_len {X : Cx} {W W' : WX} (t : Takes X W) (h : ∀ c d σ H, σ.length = X.N.length → W' c d σ H → W c d σ H) : Takes X W' := fun u s' ⟨a, B, sI, pins, σ, H, cls, d, e, I, nb, up, sky, na, os, ag, w⟩ =>
  t u s' ⟨a, B, sI, pins, σ, H, cls, d, e, I, nb, up, sky, na, os, ag, h _ _ _ _ I.len w⟩
theorem metP_mono {isa : List (Str × Str × Bool)} {x : Exn} {k k' : Str → Prop} (hk : ∀ s, k s → k' s) : ∀ {l : List Mc}, metP isa l x k → metP isa l x k'
  | [], h => h
  | ⟨cn, txt, C, fl⟩ :: l, ⟨b, hb, h⟩ => by
    refine ⟨b, hb, ?_⟩
    cases b with
    | false => exact metP_mono hk (show metP isa l x k from h)
    | true =>
      cases fl with
      | none => exact hk _ h
      | some f =>
        obtain ⟨e, d, e2, py, ok, len, q⟩ := h
        exact ⟨e, d, e2, py, ok, len, hk _ q⟩
/-- the lambda's body, wherever it is run -/
def LamJ (G : Gg) (X : Cx) (scope : Scope) (k : Nat) (body : Expr) (ρ : Rho) (kv : KD) (kx : KX) : Prop := ∀ (A : Around) (outer : List Env) (s : Shared) (H : Hp) (E : XK) (f c' : Addr), A.guards = some [] → Room k (A.deeper (lamEnv X scope s.heap.objs.size f c')) → EJ G (lamCx X A outer s H E scope f c') body ρ kv kx
/-- what a call of the telling def with a lambda asks of the places -/
structure MetC (G : Gg) (X : Cx) (k : Nat) (x a ex fine : Str) (l : List Mc) (isa : List (Str × Str × Bool)) (params : Arguments) (scope : Scope) : Prop where
  hK : X.K = G.K
  hm : X.mg = G.mg
  gd : X.A.guards = some []
  hr : Room (k + 2) X.A
  nd : X.base.NoDigits
  gx : Gl X x
  dx : (x == ("__debug__" : Str)) = false
  def_ : ∃ (g : Addr) (fd : FuncData) (pg : Arguments) (bg : List Stmt) (sg : Scope) (hds : List ExceptHandler) (Ng : List Str) (j : Nat) (p1 p2 p3 p4 p5 p6 : Pos), G.mg x = some (.ref g) ∧ FunD G.K x x pg bg sg [] [] g fd ∧ bg = [.Try [.Expr (.Call (.Name a p1) [] [] p2) p3] hds [] [] p4, .Return (some (.Constant (.str fine) j p5)) p6] ∧
    FnScope Ng [a] sg ∧ Ng[0]? = some a ∧ Ng[1]? = some ex ∧ sg.names.lookup ex = some .local ∧ sg.names.lookup ("repr" : Str) = some .globalImplicit ∧ Vis sg a ∧ McTxt ex hds l ∧ (∀ c ∈ l, McOk G.K G.mg sg c) ∧ L2.Binds G.K fd [a] [] ∧ hds ≠ []
  mr : G.mg "repr" = none
  isaK : IsaOk G.K G.mg isa
  da : (a == ("__debug__" : Str)) = false
  ca : (a == ("__classdict__" : Str)) = false
  de : (ex == ("__debug__" : Str)) = false
  ce : (ex == ("__classdict__" : Str)) = false
  tab : ∃ c P, TabB X.base X.mg c P ∧ X.env.code = .ref c ∧ (P, X.env.qual ++ "<lambda>") ∈ G.T ∧ ∀ p ∈ G.T, p.1 = P → p.2 = X.env.qual ++ "<lambda>"
  ls : LamS X.env.scope scope
  df : defaultsOf params X.env = ([], [])
theorem ej_met {G : Gg} {X : Cx} {k : Nat} {x a ex fine : Str} {l : List Mc} {isa : List (Str × Str × Bool)} {params : Arguments} {scope : Scope} {body : Expr} {ρ : Rho} {kv : KD} {kx : KX} {p lpos pos : Pos} (M : MetC G X k x a ex fine l isa params scope)
    (bd : ∀ (q : Str) (cl : List (Str × Addr)) (pm cv tv : Value), bindArgs (PySem.W.kla_fn "<lambda>" q params body scope cl pm cv tv) ⟨[], []⟩ = pure [])
    (h : LamJ G X scope k body ρ (fun _ ρ1 => kv (.str fine) ρ1) (fun x ρ1 => metP isa l x fun s => kv (.str s) ρ1)) : EJ G X (.Call (.Name x p) [.Lambda params body scope lpos] [] pos) ρ kv kx := by
  intro P W σ H A Q Wx tk n xp pins s I
  obtain ⟨g, fd, pg, bg, sg, hds, Ng, j, p1, p2, p3, p4, p5, p6, hm, F, rfl, Sg, n0, n1, hex, hrp, va, hT, hl, hbd, hne⟩ := M.def_
  obtain ⟨c, Pt, TB, hcode, mT, uT⟩ := M.tab
  obtain ⟨oc, od, dV, kV, doc, pm, an, cdv, ct, osl, rfl, lk, hcd, _, _⟩ := F.ex
  refine wpAny_Call_Name_kw (ld_glob I M.gx (by rw [M.hm]; exact hm) (PySem.W.callWith_K (h₀ := X.base) I.ok.mod.kin (by rw [M.hK]; exact F.kp) ?_ (by rfl) (by rfl)) M.dx)
  show wpAny _ _ (spliced ((false, eval (.Lambda params body scope lpos) X.env) :: backTo pos (starEach [] X.env))) _ _ s
  refine Calls.spliced_cons (lam_made I TB hcode mT uT A.tb M.df (M.ls.has I.ok) fun f c' pm' tv H1 s' I1 kp T1 hf hfn hfr hco => Calls.spliced_nil ⟨I1.kIn, ?_⟩)
  have A1 := A.kp kp T1
  have L1 : Lx W ρ σ H ρ H1 := Lx.kp kp
  have rc : codeAny (model X.prog X.w) X.A (.call (.ref g) ⟨[.ref f], []⟩) (CR C8.CX0 X.stack X.prog X.w H1 s' Q C8.E0) s' := by
    refine run_ofS (N := Ng) (ps := [a]) (us := [.ref f]) (vs := [.ref f]) (by rw [M.hK]; exact lk) (by rw [M.hK]; exact hcd) Sg M.hr I1.env0 (hbd s' [.ref f] (M.hK ▸ I1.kIn) rfl) (.cons rfl .nil) rfl fun hr' => ?_
    let Z : Cx := cxOf C8.CX0 X.prog X.w X.K X.mg X.base Ng x sg g cdv X.A X.stack s' H1 C8.E0
    have ng2 : 1 < Ng.length := (List.getElem?_eq_some_iff.mp n1).1
    obtain ⟨h0, hs0, rfl⟩ : ∃ h0 hs0, hds = h0 :: hs0 := by
      cases hds with
      | nil => exact absurd rfl hne
      | cons h0 hs0 => exact ⟨h0, hs0, rfl⟩
    let tl : XK → TE := fun E τ HZ Q' => ∀ (outer : List Env) (s2 : Shared) (H2 : Hp), Room k ((X.A.deeper (envOfC x sg s'.heap.objs.size g cdv)).deeper (lamEnv X scope s2.heap.objs.size f c')) → sE (lamCx X (X.A.deeper (envOfC x sg s'.heap.objs.size g cdv)) outer s2 H2 E scope f c') body τ HZ Q'
    have hd : Hdz Z.nox (h0 :: hs0) (l.map (clz X.K)) := hdz_of (Z := Z.nox) n1 hex M.de M.ce hrp (by rw [show Z.nox.mg = G.mg from M.hm]; exact M.mr) M.gd (by have := hr'.un; show (X.A.deeper _).units + 100 < _; omega) M.nd hT (by rw [show Z.nox.K = G.K from M.hK, show Z.nox.mg = G.mg from M.hm]; exact hl)
    let tb : WX → TS := fun W' D τ HZ => ∃ Ech : XK, (∀ cls d σ' H', σ'.length = Ng.length → Ech cls d H' → W' cls d σ' H') ∧ τ[0]? = some (some (.ref f)) ∧ HZ c' = some (CodeO c' (X.env.qual ++ "<lambda>")) ∧ tl Ech σ HZ (fun _ H' => D.nx τ H')
    have pt : PS Z.nox (.Try [.Expr (.Call (.Name a p1) [] [] p2) p3] (h0 :: hs0) [] [] p4) (fun D τ HZ => tb (wMix Z.nox.K (fun _ _ _ _ => False) D (l.map (clz X.K))) D τ HZ) := by
      refine ps_mix (X := Z.nox) rfl rfl Sg.nd LamX.takes0 (fun W' pn xe tk' _ => ?_) hd
      refine ⟨fun pinsZ sZ τ HZ D IZ ⟨Ech, hW, e1, e2, e3⟩ => ?_⟩
      have pa := act (C := C8.CX0) (Eg := C8.E0) (i := 0) (E := Ech) (W := fun cls d _ H' => Ech cls d H') (tb := tl Ech) (p1 := p1) (p2 := p2) I1 M.ls hf hfn hfr (bd _ _ _ _ _) (takes_len tk' fun cls d σ' H' q e => hW cls d σ' H' q e) (fun _ _ _ _ e => e) hr'
        (fun outer s2 H2 hr2 => ⟨fun pins2 s3 σ3 H3 Q3 I3 q3 => q3 outer s2 H2 hr2 pins2 s3 I3⟩) n0 va M.da M.ca
      exact (pss_one (ps_expr pa)).run pinsZ sZ τ HZ D IZ ⟨e1, e2, e3⟩
    refine ⟨_, (pss_cons pt (pss_one (ps_ret pe_str))).nox, ?_⟩
    refine ⟨fun cls d H' => ∀ σ' : L2.St, σ'.length = Ng.length → wMix X.K (fun _ _ _ _ => False) { nx := fun _ H' => Q (.str fine) H', rt := Q } (l.map (clz X.K)) cls d σ' H', fun cls d σ' H' e q => q σ' e, rfl, hco, fun outer s2 H2 hr2 => ?_⟩
    refine h (X.A.deeper (envOfC x sg s'.heap.objs.size g cdv)) outer s2 H2 _ f c' M.gd hr2 P W σ H1 A1 _ (fun cls d _ H' => ∀ σ' : L2.St, σ'.length = Ng.length → wMix X.K (fun _ _ _ _ => False) { nx := fun _ H' => Q (.str fine) H', rt := Q } (l.map (clz X.K)) cls d σ' H') (takes_of rfl rfl rfl rfl) ?_ ?_
    · intro d ρ1 v H' hk A' L' _
      exact n _ ρ1 _ H' hk A' (L1.trans L') rfl
    · intro xx ρ1 cls dd H' hk A' L' rx σ' hl'
      rw [M.hK]
      refine wMix_of (T := G.T) (W := W) M.isaK (by omega) rx hl (metP_mono (fun s q => ?_) hk)
      exact n _ ρ1 _ H' q A' (L1.trans L') rfl
  refine wpAny_call (codeAny_mono rc ?_)
  rintro (er | (_ | _ | _ | _)) s2 z
  all_goals first | exact I1.after z | exact False.elim z
end DL
set_option Elab.async false
set_option linter.all false
set_option maxRecDepth 100000
set_option maxHeartbeats 2000000
namespace DLX
open PySem PySem.Spec PyProof.Rows L2 LamX DL
section
variable {P : Program} {w : World} {K : PySem.W.Frag} {mg mb : Str → Option Value} {C : CXT} {k : Nat} {fa a : Addr} {cs : List (Addr × Addr)} {fd : FuncData} {x : Str} {sp : Sp} {s₁ : Shared} {vs : List Value} {ns : List Int}
/-- the law's call, from a heap H in which the script and the tables alone may be tracked -/
theorem lawG1 {H : Hp} (KX : K.In s₁.heap) (g1 : s₁.heap.Ns mainGlobals mg) (g2 : s₁.heap.Ns builtinsNs mb) (g3 : ∀ x : Str, x ≠ "__name__" → mb x = bootBuiltins x) (g4 : s₁.heap.NoLimit) (g5 : s₁.gens = #[]) (g6 : s₁.heap.NoDigits)
    (tb : ∀ p ∈ cs, s₁.heap.get? p.2 = some { cls := .none, data := .fields #[] }) (tK : ∀ p ∈ cs, K.lookup p.2 = none) (tc : ∀ p ∈ cs, PySem.W.CodeHd s₁.heap p.1 p.2)
    (bm : ∃ (bm : Addr) (ob : Obj), mg "__builtins__" = some (.ref bm) ∧ bm ≠ builtinsNs ∧ s₁.heap.get? bm = some ob ∧ ob.cls = .type "module" ∧ ob.dict = some builtinsNs ∧ ob.data = .plain)
    (ha : s₁.heap.get? a = some { cls := .type "list", data := .seq vs.toArray }) (hr : Room k callerA)
    (F : ∀ base : Heap, K.In base → base.Ns mainGlobals mg → base.NoDigits → (∀ p ∈ cs, TabB base mg p.1 p.2) → FnG P w K mg base C k fa fd [x] sp) (bd : ∀ (s : Shared) (u : Value), BindsTo s fd ⟨[u], []⟩ [(x, u)])
    (hsp : sp [.ref a] H (fun v _ => v = .bl true) fun _ _ _ => False) (noX : ∀ H e s', C [] H s₁ (fun _ _ _ => False) e s' → False)
    (hH : ∀ p ∈ cs, H p.2 = some (.tbl #[])) (hO : ∀ b, H b = none ∨ b ∈ cs.map (·.2) ∨ ∃ o xs, H b = some (.frz o (.lst xs))) (hok : HOk P w H s₁.heap) (hA : ∀ b, H b ≠ none → b = a ∨ b ∈ cs.map (·.2)) (hK : H a ≠ none → K.lookup a = none) :
    codeAny (model P w) callerA (.call (.ref fa) ⟨[.ref a], []⟩) (fun r s' => r = .ok (.ret (.bool true)) ∧ OldK s₁.heap s'.heap ∧ s'.os = s₁.os ∧ AllBare s'.gens) s₁ := by
  have free : ∀ {b : Addr} {o : Obj}, s₁.heap.get? b = some o → (∀ vs n, o.data ≠ .seq vs n) → o.data ≠ .fields #[] → H b = none := fun {b o} e n1 n2 => Classical.byContradiction fun q => by
    rcases hA b q with z | z
    · rw [z, ha] at e; cases e; exact n1 _ _ rfl
    · obtain ⟨p, hp, ep⟩ := List.mem_map.mp z
      rw [← ep, tb p hp] at e; cases e; exact n2 rfl
  have old : ∀ {b : Addr} {o : Obj}, s₁.heap.get? b = some o → H b = none → (hidT s₁.heap H).get? b = some o := fun e n => hidT_get e n
  have nsO : ∀ {b : Addr} {m : Str → Option Value}, s₁.heap.Ns b m → (hidT s₁.heap H).Ns b m := fun {b m} ⟨o, es, ep, e, d, r⟩ => ⟨o, es, ep, old e (free e (fun _ _ z => by rw [d] at z; cases z) fun z => by rw [d] at z; cases z), d, r⟩
  have KB : K.In (hidT s₁.heap H) := fun b o e => old (KX b o e) (Classical.byContradiction fun q => by
    rcases hA b q with z | z
    · rw [z] at e q; rw [hK q] at e; cases e
    · obtain ⟨p, hp, ep⟩ := List.mem_map.mp z
      rw [← ep, tK p hp] at e; cases e)
  obtain ⟨mc, l1, l2⟩ := g4
  obtain ⟨md, d1, d2⟩ := g6
  have M : L2.Mod K mg (hidT s₁.heap H) := ⟨KB, nsO g1, ⟨mb, nsO g2, g3⟩, mc, nsO l1, l2⟩
  have TB : ∀ p ∈ cs, TabB (hidT s₁.heap H) mg p.1 p.2 := fun p hp => by
    refine ⟨?_, ?_, fun z => ?_⟩
    · obtain ⟨o, us, file, tf, flags, tg, inF, text, tt, e1, r1, r2, r3, r⟩ := tc p hp
      refine ⟨o, us, file, tf, flags, tg, inF, text, tt, old e1 (free e1 (fun _ _ z => ?_) fun z => ?_), r1, r2, r3, r⟩
      · rw [r2] at z; cases z
      · rw [r2] at z; cases z; simp at r3
    · obtain ⟨m, ob, b1, b2, b3, b4, b5, b6⟩ := bm
      refine ⟨m, ob, b1, b2, fun q => ?_, fun q => ?_, old b3 (free b3 (fun _ _ z => ?_) fun z => ?_), b4, b5, b6⟩
      · obtain ⟨o, es, ep, e, hd, _⟩ := g1
        rw [q, e] at b3; cases b3; rw [hd] at b6; cases b6
      · rw [q, tb p hp] at b3; cases b3; cases b6
      · rw [b6] at z; cases z
      · rw [b6] at z; cases z
    · obtain ⟨o, es, ep, e, hd, _⟩ := g1
      rw [z, tb p hp] at e; cases e; cases hd
  have e0 : Env0 P w K mg (hidT s₁.heap H) callerA [] s₁ H := ⟨rfl, M, fun b o e => of_hidT e, Nat.le_of_eq (hidT_size _ _), trivial, fun b hb => absurd hb (by simp [frs]), hok, .of_eq g5⟩
  refine codeAny_mono ((F _ KB (nsO g1) ⟨md, nsO d1, d2⟩ TB).go callerA [] s₁ H ⟨[.ref a], []⟩ [.ref a] [.ref a] _ _ rfl hr e0 (bd s₁ (.ref a)) (.cons rfl .nil) hsp) ?_
  rintro (e | fl) s' h
  · exact (noX H e s' h).elim
  obtain ⟨u, rfl⟩ : ∃ u, fl = .ret u := by
    cases fl with
    | ret u => exact ⟨u, rfl⟩
    | next => exact False.elim h
    | brk => exact False.elim h
    | cont => exact False.elim h
  obtain ⟨v, H', os, bare, un, hok', r', q⟩ := h
  have q' : v = .bl true := q
  subst q'
  obtain rfl : u = Value.bool true := r'
  have still : ∀ b o, b ∉ cs.map (·.2) → s₁.heap.get? b = some o → s'.heap.get? b = some o := fun b o nb e => by
    rcases hO b with z | z | ⟨ob, xs, z⟩
    · exact un.keep b o e z (by simp [frs]) (by simp)
    · exact absurd z nb
    · obtain ⟨e1, _⟩ := hok b _ z
      obtain ⟨e2, _⟩ := hok' b _ (un.frzs b ob _ z)
      rw [e] at e1; cases e1; exact e2
  have more : ∀ p ∈ cs, ∃ m : Array Value, s'.heap.get? p.2 = some { cls := .none, data := .fields m } := fun p hp => by
    obtain ⟨m, z⟩ := un.tbls p.2 #[] (hH p hp)
    exact ⟨_, hok' p.2 _ z⟩
  refine ⟨rfl, ⟨fun b o e => ?_, fun b o e => ?_⟩, os, bare⟩
  · by_cases hb : b ∈ cs.map (·.2)
    · obtain ⟨p, hp, rfl⟩ := List.mem_map.mp hb
      obtain ⟨m, hm⟩ := more p hp
      rw [tb p hp] at e; cases e
      exact .inr (.inl ⟨((tc p hp).tab (tb p hp)).isCodeTable, rfl, #[], m, rfl, by rw [Array.empty_append]; exact hm⟩)
    · exact .inl (still b o hb e)
  · by_cases hb : b ∈ cs.map (·.2)
    · obtain ⟨p, hp, rfl⟩ := List.mem_map.mp hb
      obtain ⟨m, hm⟩ := more p hp
      exact ⟨_, hm⟩
    · exact ⟨o, still b o hb e⟩
/-- the law's call -/
theorem lawG (KX : K.In s₁.heap) (g1 : s₁.heap.Ns mainGlobals mg) (g2 : s₁.heap.Ns builtinsNs mb) (g3 : ∀ x : Str, x ≠ "__name__" → mb x = bootBuiltins x) (g4 : s₁.heap.NoLimit) (g5 : s₁.gens = #[]) (g6 : s₁.heap.NoDigits)
    (tb : ∀ p ∈ cs, s₁.heap.get? p.2 = some { cls := .none, data := .fields #[] }) (tK : ∀ p ∈ cs, K.lookup p.2 = none) (tc : ∀ p ∈ cs, PySem.W.CodeHd s₁.heap p.1 p.2)
    (bm : ∃ (bm : Addr) (ob : Obj), mg "__builtins__" = some (.ref bm) ∧ bm ≠ builtinsNs ∧ s₁.heap.get? bm = some ob ∧ ob.cls = .type "module" ∧ ob.dict = some builtinsNs ∧ ob.data = .plain)
    (ha : s₁.heap.get? a = some { cls := .type "list", data := .seq vs.toArray }) (hi : IntsAre vs ns) (hl : ns.length ≤ sizeLine) (hr : Room k callerA)
    (F : ∀ base : Heap, K.In base → base.Ns mainGlobals mg → base.NoDigits → (∀ p ∈ cs, TabB base mg p.1 p.2) → FnG P w K mg base C k fa fd [x] sp) (bd : ∀ (s : Shared) (u : Value), BindsTo s fd ⟨[u], []⟩ [(x, u)])
    (hsp : ∀ H : Hp, (∀ p ∈ cs, H p.2 = some (.tbl #[])) → SqL K H a (ns.map V.int) → sp [.ref a] H (fun v _ => v = .bl true) fun _ _ _ => False) (noX : ∀ H e s', C [] H s₁ (fun _ _ _ => False) e s' → False) :
    codeAny (model P w) callerA (.call (.ref fa) ⟨[.ref a], []⟩) (fun r s' => r = .ok (.ret (.bool true)) ∧ OldK s₁.heap s'.heap ∧ s'.os = s₁.os ∧ AllBare s'.gens) s₁ := by
  have rv := vals_ints hi
  have n := hi.length
  have inT : ∀ {p : Addr × Addr}, p ∈ cs → p.2 ∈ cs.map (·.2) := fun hp => List.mem_map.mpr ⟨_, hp, rfl⟩
  have isT : ∀ {b : Addr}, b ∈ cs.map (·.2) → s₁.heap.get? b = some { cls := .none, data := .fields #[] } := fun hb => by
    obtain ⟨p, hp, rfl⟩ := List.mem_map.mp hb
    exact tb p hp
  have aT : a ∉ cs.map (·.2) := fun z => by
    have q := isT z
    rw [ha] at q; cases q
  let T0 : Hp := fun b => if b ∈ cs.map (·.2) then some (.tbl #[]) else none
  have T1 : ∀ {b u}, T0 b = some u → b ∈ cs.map (·.2) ∧ u = .tbl #[] := fun {b u} z => by
    by_cases hb : b ∈ cs.map (·.2)
    · exact ⟨hb, (Option.some.inj ((if_pos hb).symm.trans z)).symm⟩
    · have z' := (if_neg hb).symm.trans z
      cases z'
  cases hk : K.lookup a with
  | some o =>
    have e := KX a o hk
    rw [ha] at e; cases e
    have hH : ∀ p ∈ cs, T0 p.2 = some (.tbl #[]) := fun p hp => if_pos (inT hp)
    refine lawG1 (H := T0) KX g1 g2 g3 g4 g5 g6 tb tK tc bm ha hr F bd (hsp T0 hH (.inr ⟨_, vs.toArray, _, hk, rfl, rfl, rfl, by rw [List.size_toArray, n]; exact hl, by simpa using rv⟩)) noX hH (fun b => ?_) (fun b u z => ?_) (fun b z => ?_) fun z => absurd (if_neg aT) z
    · by_cases hb : b ∈ cs.map (·.2)
      · exact .inr (.inl hb)
      · exact .inl (if_neg hb)
    · obtain ⟨hb, rfl⟩ := T1 z
      exact isT hb
    · exact .inr (Classical.byContradiction fun hb => z (if_neg hb))
  | none =>
    let H : Hp := fun b => if b = a then some (.frz { cls := .type "list", data := .seq vs.toArray } (.lst (ns.map V.int))) else T0 b
    have hH : ∀ p ∈ cs, H p.2 = some (.tbl #[]) := fun p hp => (if_neg (fun (z : p.2 = a) => aT (z ▸ inT hp))).trans (if_pos (inT hp))
    refine lawG1 (H := H) KX g1 g2 g3 g4 g5 g6 tb tK tc bm ha hr F bd (hsp H hH (.inl (.inr ⟨_, if_pos rfl⟩))) noX hH (fun b => ?_) (fun b u z => ?_) (fun b z => ?_) fun _ => hk
    · by_cases hb : b = a
      · exact .inr (.inr ⟨_, _, if_pos hb⟩)
      · by_cases h2 : b ∈ cs.map (·.2)
        · exact .inr (.inl h2)
        · exact .inl ((if_neg hb).trans (if_neg h2))
    · by_cases hb : b = a
      · have z' := (if_pos hb).symm.trans z
        cases z'
        rw [hb]
        exact ⟨ha, by rw [List.length_map]; exact hl, vs, _, rv, ha⟩
      · obtain ⟨h2, rfl⟩ := T1 ((if_neg hb).symm.trans z)
        exact isT h2
    · by_cases hb : b = a
      · exact .inl hb
      · exact .inr (Classical.byContradiction fun h2 => z ((if_neg hb).trans (if_neg h2)))
end
end DLX
namespace DLX
open PySem PySem.Spec PyProof.Rows L2 LamX DL
/-- what the law's def keeps at the head's heap h -/
def LawG (l : PySem.W.OpenLaw) (w : World) (K : PySem.W.Frag) (k n : Nat) (x : Str) (mg : Str → Option Value) (fa : Addr) (h : Heap) : Prop :=
  ∃ (fd : FuncData) (cs : List (Addr × Addr)) (sp : Sp), (∀ p ∈ cs, h.get? p.2 = some { cls := .none, data := .fields #[] }) ∧ (∀ p ∈ cs, K.lookup p.2 = none) ∧ (∀ p ∈ cs, PySem.W.CodeHd h p.1 p.2) ∧ (∀ (s : Shared) (u : Value), BindsTo s fd ⟨[u], []⟩ [(x, u)]) ∧
    (∀ (H : Hp) (a : Addr) (ns : List Int), ns.length ≤ n → (∀ z ∈ ns, Builtin.Int.intBits z ≤ 1048576) → (∀ p ∈ cs, H p.2 = some (.tbl #[])) → SqL K H a (ns.map V.int) → sp [.ref a] H (fun v _ => v = .bl true) fun _ _ _ => False) ∧
    ∀ base : Heap, K.In base → base.Ns mainGlobals mg → base.NoDigits → (∀ p ∈ cs, TabB base mg p.1 p.2) → FnG l.prog w K mg base (L2.CX l.prog w) k fa fd [x] sp
theorem noCX {P : Program} {w : World} (H : Hp) (s : Shared) (e : Value) (s' : Shared) (h : L2.CX P w [] H s (fun _ _ _ => False) e s') : False := by
  obtain ⟨_, _, _, _, _, _, _, _, _, _, _, _, z⟩ := h
  exact z
theorem walkG {l : PySem.W.OpenLaw} {n k : Nat} {q : Program} {loose : List Str} {XP : (Str → Option Value) → Heap → Prop} {YP : World → Heap → Prop} {d : DefRec} {x : Str} (hn : l.most = some n) (hz : n ≤ sizeLine) (hd : d.params.defaults = []) (hr : Room k callerA)
    (F : ∀ (w : World) (mg : Str → Option Value) (fa : Addr) (h : Heap), YP w h → h.Ns mainGlobals mg → mg d.name = some (.ref fa) → ∃ K : PySem.W.Frag, K.In h ∧ LawG l w K k n x mg fa h) : PySem.W.WalkO q loose XP YP l.row.toRowW d [] (fun f vs => PySem.call f vs) := by
  refine Att.attach_callB hn hd fun w s₀ s₁ mg mb fa o pm cd doc a vs ns G Y ho hdo hcd hmg hobj hints hlen hbits hg => ?_
  obtain ⟨K, KX, fd, cs, sp, tb, tK, tc, bd, hsp, hF⟩ := F w mg fa _ Y G.T.g hmg
  exact lawG KX G.T.g G.T.b G.T.builtins G.T.nolimit hg G.T.nodigits tb tK tc G.T.bmain hobj hints (Nat.le_trans hlen hz) hr hF bd (fun H hH hS => hsp H a ns hlen hbits hH hS) fun H e s' => noCX H s₁ e s'
end DLX
set_option Elab.async false
set_option linter.all false
set_option maxRecDepth 100000
set_option maxHeartbeats 2000000
/-! a for loop in a generator def -/
namespace L2
open PySem PySem.Spec PyProof.Rows GenW
section
variable {M : Model} {A : Around} {R : GenEnd} {Y : Protocol} {n : Nat} {s₀ : Shared} {c : Code} {fs : List Frame} {s : Shared} {env : Env}
theorem seg_bindw {α β : Type} {m : Sem α} {f : α → Sem β} {K : β → Sem PySem.Fin} {J : Value → Sem PySem.Fin} {gd : Bool → Bool} {lv : List Value → List Value}
    (h : wpAny M (A.over c fs) m (fun a s' => Seg M A R Y n s₀ c ((f a).wrap K J gd lv) fs s') (fun e s' => Seg M A R Y n s₀ c (J e) fs s') s) : Seg M A R Y n s₀ c ((m >>= f).wrap K J gd lv) fs s := by
  rw [Sem.bind_eq_wrap', Sem.wrap_wrap]
  exact seg_wrap h
theorem seg_For {target iter : Expr} {body orelse : List Stmt} {pos : Pos} {K : Flow → Sem PySem.Fin} {J : Value → Sem PySem.Fin} {gd : Bool → Bool} {lv : List Value → List Value}
    (h : wpAny M (A.over c fs) (eval iter env) (fun x s1 => wpAny M (A.over c fs) (pyIter x) (fun it s2 => ∀ p, Seg M A R Y n s₀ (.forLoop target it body orelse env) (M.den (.forLoop target it body orelse env))
      (.ret (fun r => ((match r with | .ok f => (.pure f : Sem Flow) | .error e => .raise e).onRaise (cameBack env)).wrap K J gd lv) none (gd false) (lv []) c p [] :: fs) s2)
      (fun e s' => Seg M A R Y n s₀ c (J e) fs s') s1) (fun e s' => Seg M A R Y n s₀ c (J e) fs s') s)
    (hs : ∀ x, foldedSetIterable iter env x = pure x) : Seg M A R Y n s₀ c ((exec (.For target iter body orelse pos) env).wrap K J gd lv) fs s := by
  rw [exec_For]
  refine seg_bindw (wpAny_standAt ?_)
  refine seg_bindw (wpAny_mono h (fun x s1 h1 => ?_) fun _ _ h' => h')
  refine seg_bindw (wpAny_of_eq (hs x) ?_)
  refine seg_bindw (wpAny_standAt ?_)
  refine seg_bindw (wpAny_holding (wpAny_mono h1 (fun it s2 h2 => ?_) fun _ _ h' => h'))
  exact seg_call h2
end
section
variable {prog : Program} {w : World} {A : Around} {R : GenEnd} {Y : Protocol} {n : Nat} {s₀ : Shared} {fs : List Frame} {s : Shared} {env : Env}
theorem seg_forLoop {target : Expr} {it : Value} {body orelse : List Stmt} (c : Code) (ec : c = .forLoop target it body orelse env) {EE : Value → Shared → Prop}
    (hE : ∀ x s', EE x s' → Seg (model prog w) A R Y n s₀ c ((do noteFrame x env; theTreesLotGoes x : Sem Unit).wrap (fun _ => .raise x) .raise id id) fs s')
    (h : wpAny (model prog w) (A.over c fs) (pyNext it) (fun r s' => match r with
      | none => Seg (model prog w) A R Y n s₀ c (.pure (.again (.block orelse env))) fs s'
      | some v => wpAny (model prog w) (A.over c fs) (letOwnedTupleGo target it v) (fun _ s2 => wpAny (model prog w) (A.over c fs) (assign target env v) (fun _ s3 =>
          Seg (model prog w) A R Y n s₀ c ((execs body env).wrap (fun f => match f with
            | .next | .cont => .pure (.again (.forLoop target it body orelse env))
            | .brk => .pure (.done .next)
            | .ret v => .pure (.done (.ret v))) (fun e => (do noteFrame e env; theTreesLotGoes e : Sem Unit).wrap (fun _ => .raise e) .raise id id) id id) fs s3) EE s2) EE s') EE s) :
    Seg (model prog w) A R Y n s₀ c ((model prog w).den (.forLoop target it body orelse env)) fs s := by
  show Seg _ A R Y n s₀ _ ((forTurn target it body orelse env).onRaise (fun x => do noteFrame x env; theTreesLotGoes x)) fs s
  have e0 : ∀ x s', EE x s' → Seg (model prog w) A R Y n s₀ c ((do noteFrame x env; theTreesLotGoes x : Sem Unit).bind fun _ => .raise x) fs s' := fun x s' hx => by
    rw [Sem.bind_eq_wrap]; exact hE x s' hx
  unfold forTurn
  rw [Sem.onRaise_eq_wrap]
  refine seg_bindw (wpAny_standAt ?_)
  refine seg_bindw (wpAny_onRaise (wpAny_mono h (fun r s1 h1 => ?_) fun x s' hx => wpAny_standAt (e0 x s' hx)))
  cases r with
  | none => exact h1
  | some v =>
    refine seg_bindw (wpAny_mono h1 (fun _ s2 h2 => ?_) e0)
    refine seg_bindw (wpAny_mono h2 (fun _ s3 h3 => ?_) e0)
    rw [Sem.bind_eq_wrap', Sem.wrap_wrap]
    rw [Sem.wrap_congr (execs body env) _ _ (K' := fun f => match f with
            | .next | .cont => .pure (.again (.forLoop target it body orelse env))
            | .brk => .pure (.done .next)
            | .ret v => .pure (.done (.ret v))) (H' := (fun e => (do noteFrame e env; theTreesLotGoes e : Sem Unit).wrap (fun _ => .raise e) .raise id id))
        (fun f => by cases f <;> rfl)
        (fun e => by first | exact Sem.bind_eq_wrap _ _ | (show (do noteFrame e env; theTreesLotGoes e : Sem Unit).bind (fun _ => .raise e) = _; rw [Sem.bind_eq_wrap]))]
    exact h3
end
section
variable {X : Cx}
def tGFor (wi : TI) (g : TG) (tb : TGn) : TGn := fun D ys σ H => wi σ H fun J H1 => ∃ W : Nat → Nat → List V → St → Hp → Prop, (∃ m, W 0 m ys σ H1) ∧ ∀ i m ys σ H, W i m ys σ H →
  (J.stop i H ∧ D.nx ys σ H) ∨ (J.go i H ∧ ∃ N : List V → St → Hp → Prop, (∀ ys' σ' H', N ys' σ' H' → ∃ m', m' < m ∧ W (i + 1) m' ys' σ' H') ∧ ∀ x H', J.yld i H x H' → g x σ H' fun σ2 H2 => tb { D with nx := N, ct := N, bk := D.nx } ys σ2 H2)
theorem FpOk.of_pins {pins pins' : List (Addr × Obj)} {H H' : Hp} {b : Addr} (h : FpOk X pins H b) (hn : H' b = none) (hp : ∀ p ∈ pins', ∃ q ∈ pins, q.1 = p.1) : FpOk X pins' H' b := by
  obtain ⟨_, h2, h3, h4, h5, h6⟩ := h
  refine ⟨hn, h2, h3, h4, h5, fun p hm => ?_⟩
  rcases List.mem_append.mp hm with q | q
  · exact h6 p (List.mem_append_left _ q)
  · obtain ⟨z, z1, z2⟩ := hp p q
    rw [← z2]
    exact h6 z (List.mem_append_right _ z1)
theorem gs_for {tg iter : Expr} {body : List Stmt} {wi : TI} {g : TG} {tb : TGn} {pos : Pos} (hp : PassesOwn (model X.prog X.w) X.A X.env X.xe) (hc : X.calm = true) (hi : PI X tg iter wi) (hg : PG X tg g) (hb : GSs X body tb)
    (hs : ∀ x, foldedSetIterable iter X.env x = pure x := by intro _; rfl) : GS X (.For tg iter body [] pos) (tGFor wi g tb) := by
  refine ⟨fun A S ip R n ys s₀ c fs K J gd lv s σ H D g0 hn k hI ht => ?_⟩
  obtain ⟨acc, cc, r, I⟩ := hI
  refine seg_For ?_ hs
  rw [g0.over]
  refine wpAny_mono (hi.run _ s σ H _ I ht) (fun v s1 h1 => wpAny_mono h1 (fun itv s2 h2 p => ?_) fun x s' hx => k.exc n s₀ x s' hx) fun x s' hx => k.exc n s₀ x s' hx
  obtain ⟨it, fp, tn, Jt, H2, e, I2, T, st2, f2, W, ⟨m0, w0⟩, turn⟩ := h2
  subst e
  have gl := fun (kk : Result → Sem PySem.Fin) => gc_loop (k := kk) (c' := .forLoop tg (.ref it) body [] X.env) (l := lv []) (kp := []) (p := p) g0 rfl rfl
  have gb := fun (kk : Result → Sem PySem.Fin) => gc_loop (k := kk) (c' := .block [] X.env) (l := lv []) (kp := []) (p := p) g0 rfl rfl
  have fpS : ∀ b ∈ fp, b ≠ S := fun b hb e => (f2 b hb).2.2.2.2.2 (S, lstObj acc cc) (List.mem_append_right _ List.mem_cons_self) e.symm
  have stat : ∀ {acc' : Array Value} {cc' : Nat} {H' : Hp}, (∀ b ∈ fp, H' b = none) → ∀ b ∈ fp, FpOk X ((S, lstObj acc' cc') :: ip) H' b := fun {acc' cc' H'} hn b hb => (f2 b hb).of_pins (hn b hb) fun p hp => by
    rcases List.mem_cons.mp hp with q | q
    · exact ⟨_, List.mem_cons_self, by rw [q]⟩
    · exact ⟨p, List.mem_cons_of_mem _ q, rfl⟩
  have loop : ∀ (m i n : Nat) (ys : List V) (s₀ s : Shared) (σ : St) (H : Hp), n + ys.length = sizeLine → W i m ys σ H → GI X S ip ys σ H s → tn i s.heap → (∀ b ∈ fp, H b = none) →
      Seg (model X.prog X.w) A R (GY X S) n s₀ (.forLoop tg (.ref it) body [] X.env) ((model X.prog X.w).den (.forLoop tg (.ref it) body [] X.env))
        (.ret (fun r => ((match r with | .ok f => (.pure f : Sem Flow) | .error e => .raise e).onRaise (cameBack X.env)).wrap K J gd lv) none (gd false) (lv []) c p [] :: fs) s := by
    intro m
    induction m using Nat.strongRecOn with
    | ind m ih =>
      intro i n ys s₀ s σ H hn w hI st3 fr3
      have ee : ∀ (n : Nat) (s₀ : Shared) (x : Value) (s' : Shared), X.xe x s' → Seg (model X.prog X.w) A R (GY X S) n s₀ (.forLoop tg (.ref it) body [] X.env)
          ((do noteFrame x X.env; theTreesLotGoes x : Sem Unit).wrap (fun _ => .raise x) .raise id id)
          (.ret (fun r => ((match r with | .ok f => (.pure f : Sem Flow) | .error e => .raise e).onRaise (cameBack X.env)).wrap K J gd lv) none (gd false) (lv []) c p [] :: fs) s' := fun n s₀ x s' hx => by
        refine seg_wrap ?_
        rw [(gl _).over]
        refine wpAny_bind (wpAny_mono (hp x s' hx) (fun _ s'' hcb => wpAny_theTreesLotGoes ?_) fun y s'' hcb => ?_)
        · exact seg_leaf (.error x) (seg_cameBack g0 k hcb)
        · exact seg_leaf (.error y) (seg_cameBack g0 k hcb)
      refine seg_forLoop _ rfl (fun x s' hx => ee n s₀ x s' hx) ?_
      rw [(gl _).over]
      obtain ⟨acc3, cc3, r3, I3⟩ := hI
      rcases turn i m ys σ H w with ⟨stop, qn⟩ | ⟨go, N, hN, step⟩
      · refine wpAny_mono (T.done X rfl rfl rfl hc i _ s σ H X.xe I3 (stat fr3) st3 stop) (fun r s4 ⟨hr, I4⟩ => ?_) fun _ _ x => x
        subst hr
        refine seg_again rfl ?_
        show Seg _ _ _ _ _ _ _ (leafOf (.ok .next)) _ _
        exact seg_leaf (.ok .next) (k.ok n ys s₀ s4 .next hn ⟨σ, H, ⟨acc3, cc3, r3, I4⟩, qn⟩)
      · refine wpAny_mono (T.item X rfl rfl rfl hc i _ s σ H X.xe I3 (stat fr3) st3 go) (fun r s4 ⟨u, hr, h4⟩ => ?_) fun _ _ x => x
        subst hr
        refine wpAny_mono h4 (fun _ s5 ⟨x, H5, I5, r5, y5, st5, fr5⟩ => ?_) fun _ _ x => x
        have I5' : Inv X ((S, lstObj acc3 cc3) :: (ip ++ pinsAt fp s5.heap)) σ H5 s5 := I5.pinned (stat fr5) (T.obj _ _ st5)
        refine wpAny_mono (hg.run _ s5 σ H5 x u _ I5' r5 (step x H5 y5)) (fun _ s6 ⟨σ6, H6, I6, q6⟩ => ?_) fun _ _ x => x
        have gc : GC X S (ip ++ pinsAt fp s5.heap) A (.forLoop tg (.ref it) body [] X.env) (.ret (fun r => ((match r with | .ok f => (.pure f : Sem Flow) | .error e => .raise e).onRaise (cameBack X.env)).wrap K J gd lv) none (gd false) (lv []) c p [] :: fs) id :=
          have G := gl (fun r => ((match r with | .ok f => (.pure f : Sem Flow) | .error e => .raise e).onRaise (cameBack X.env)).wrap K J gd lv)
          ⟨g0.pn, fun q hq => (List.mem_append.mp hq).elim (fun z => g0.ip q z) fun z => fpS _ (of_pinsAt z).1, g0.apart, G.over, G.split, G.guard, G.gd⟩
        have again : ∀ {n' : Nat} {ys' : List V} {s₀' s7 : Shared} {σ7 : St} {H7 : Hp}, n' + ys'.length = sizeLine → GI X S (ip ++ pinsAt fp s5.heap) ys' σ7 H7 s7 → N ys' σ7 H7 → Seg (model X.prog X.w) A R (GY X S) n' s₀' (.forLoop tg (.ref it) body [] X.env) (.pure (.again (.forLoop tg (.ref it) body [] X.env)))
            (.ret (fun r => ((match r with | .ok f => (.pure f : Sem Flow) | .error e => .raise e).onRaise (cameBack X.env)).wrap K J gd lv) none (gd false) (lv []) c p [] :: fs) s7 := fun {n' ys' s₀' s7 σ7 H7} hn' hI7 n7 => by
          obtain ⟨acc7, cc7, r7, I7⟩ := hI7
          obtain ⟨m', hm, w7⟩ := hN ys' σ7 H7 n7
          have mem : ∀ {b : Addr} {o : Obj}, b ∈ fp → s5.heap.get? b = some o → (b, o) ∈ X.pn ++ ((S, lstObj acc7 cc7) :: (ip ++ pinsAt fp s5.heap)) := fun hb e => List.mem_append_right _ (List.mem_cons_of_mem _ (List.mem_append_right _ (mem_pinsAt hb e)))
          refine seg_again rfl (ih m' hm (i + 1) n' ys' s₀' s7 σ7 H7 hn' w7 ⟨acc7, cc7, r7, Inv.unpinned (pins := (S, lstObj acc7 cc7) :: ip) I7⟩ (T.keep _ _ _ st5 fun b hb o e => (I7.pin (b, o) (mem hb e)).1) fun b hb => ?_)
          obtain ⟨o, e, d⟩ := T.obj _ _ st5 b hb
          exact (I7.pin (b, o) (mem hb e)).2.1
        have off : ∀ {ys' : List V} {σ' : St} {H' : Hp} {s' : Shared}, GI X S (ip ++ pinsAt fp s5.heap) ys' σ' H' s' → GI X S ip ys' σ' H' s' := fun {ys' σ' H' s'} hI' => by
          obtain ⟨a1, c1, r1, I1⟩ := hI'
          exact ⟨a1, c1, r1, Inv.unpinned (pins := (S, lstObj a1 c1) :: ip) I1⟩
        refine hb.run A S (ip ++ pinsAt fp s5.heap) R n ys s₀ _ _ _ _ id id s6 σ6 H6 { D with nx := N, ct := N, bk := D.nx } gc hn ⟨fun n' ys' s₀' s7 f hn' hs' => ?_, fun n' s₀' x s7 hx => ee n' s₀' x s7 hx⟩ ⟨acc3, cc3, r3, I6⟩ q6
        cases f with
        | next =>
          obtain ⟨σ7, H7, I7, n7⟩ := hs'
          exact again hn' I7 n7
        | cont =>
          obtain ⟨σ7, H7, I7, n7⟩ := hs'
          exact again hn' I7 n7
        | brk =>
          obtain ⟨σ7, H7, I7, q7⟩ := hs'
          exact seg_leaf (.ok .next) (k.ok n' ys' s₀' s7 .next hn' ⟨σ7, H7, off I7, q7⟩)
        | ret v =>
          obtain ⟨x7, σ7, H7, I7, rv, q7⟩ := hs'
          exact seg_leaf (.ok (.ret v)) (k.ok n' ys' s₀' s7 (.ret v) hn' ⟨x7, σ7, H7, off I7, rv, q7⟩)
  exact loop m0 0 n ys s₀ s2 σ H2 hn w0 ⟨acc, cc, r, I2⟩ st2 fun b hb => (f2 b hb).1
end
end L2
set_option Elab.async false
set_option linter.all false
set_option maxRecDepth 100000
set_option maxHeartbeats 2000000
/-! a generator def's promise, and list(..) of its call, where no repr is under way -/
namespace L2
open PySem PySem.Spec PyProof.Rows GenW

/-- a generator that has not begun, to be drained where no repr is under way -/
def QMade (P : Program) (w : World) (k : Nat) (outer : List Env) (H : Hp) (s : Shared) (Q : List V → Hp → Prop) (E : XK) (u : Value) (s1 : Shared) : Prop :=
  ∃ (a : Addr) (g : Nat) (c : Code), (u = .ref a ∧ s.heap.objs.size ≤ a ∧ a < s1.heap.objs.size) ∧ (s1.heap.IsGen a g ∧ s1.gens[g]? = some (.fresh c) ∧ s1.os = s.os ∧ AllBare s1.gens ∧ s1.heap.NoLimit) ∧ (∀ b o, s.heap.get? b = some o → s1.heap.get? b = some o) ∧
    ∀ (A : Around) (S : Addr) (s2 : Shared), A.guards = some [] → Room k A → A.frames = some outer → s1.heap.objs.size ≤ S → (∀ b o, s1.heap.get? b = some o → s2.heap.get? b = some o) → (∃ c, s2.heap.get? S = some (lstObj #[] c)) → s2.os = s.os → AllBare s2.gens →
      Seg (model P w) A (REnd P w outer H s [] S a g Q E) (YItem s S a g) sizeLine s2 c ((model P w).den c) [] s2
structure QFn (P : Program) (w : World) (K : PySem.W.Frag) (mg : Str → Option Value) (base : Heap) (k : Nat) (f : Addr) (fd : FuncData) (ps : List Str) (sp : SpG) : Prop where
  len : ∀ vs H Q E, sp vs H Q E → vs.length = ps.length
  go : ∀ (A : Around) (outer : List Env) (s : Shared) (H : Hp) (args : Args) (us : List Value) (vs : List V) (Q : List V → Hp → Prop) (E : XK), Room k A → Env0 P w K mg base A outer s H → BindsTo s fd args (ps.zip us) → Vals vs us → sp vs H Q E →
    codeAny (model P w) A (.call (.ref f) args) (fun r s' => ∃ u, r = .ok (.ret u) ∧ QMade P w k outer H s Q E u s') s

section
variable {P : Program} {w : World} {K : PySem.W.Frag} {mg : Str → Option Value} {base : Heap} {k : Nat} {N ps : List Str} {qual : Str} {scope : Scope} {f : Addr} {cd : Value} {A : Around} {outer : List Env} {s s1 : Shared} {H : Hp} {Q : List V → Hp → Prop} {E : XK} {us : List Value} {vs : List V} {body : List Stmt}
/-- what the body of a generator def asks -/
def QBody (P : Program) (w : World) (K : PySem.W.Frag) (mg : Str → Option Value) (base : Heap) (N : List Str) (qual : Str) (scope : Scope) (f : Addr) (cd : Value) (k : Nat) (outer : List Env) (s : Shared) (H : Hp) (E : XK) (body : List Stmt) (vs : List V) (Q : List V → Hp → Prop) : Prop :=
  ∀ (A : Around) (pn : List (Addr × Obj)), A.guards = some [] → Room k (A.deeper (envOfC qual scope s.heap.objs.size f cd)) →
    ∃ t, GSs (gcxOf P w K mg base N qual scope f cd A outer s H E pn) body t ∧ t { nx := fun ys _ H' => Q ys H', rt := fun ys v H' => v = .non ∧ Q ys H' } [] (start N vs) H
/-- what lies behind the frame's own objects -/
theorem q_young (I : Inv (gcxOf P w K mg base N qual scope f cd A outer s H E []) [] (start N vs) H s1) (lt : s.heap.objs.size < s1.heap.objs.size) {b : Addr} (hb : s1.heap.objs.size ≤ b) :
    (H b = none ∧ b ≠ s.heap.objs.size ∧ b ∉ frs outer) ∧ s.heap.objs.size ≤ b ∧ ∀ y c, (cellsFrom (s.heap.objs.size + 1) scope.names []).lookup y = some c → c ≠ b := by
  refine ⟨⟨I.hok.fresh hb, Nat.ne_of_gt (Nat.lt_of_lt_of_le lt hb), I.nofs hb⟩, Nat.le_trans (Nat.le_of_lt lt) hb, fun y c e z => ?_⟩
  obtain ⟨_, ob, ho, _⟩ := I.cell y c e
  have q := Heap.lt_size ho
  rw [z] at q
  exact absurd (Nat.lt_of_lt_of_le q hb) (Nat.lt_irrefl _)
/-- the run of the whole body, from the first item on -/
theorem q_run (hb : QBody P w K mg base N qual scope f cd k outer s H E body vs Q) (I1 : Inv (gcxOf P w K mg base N qual scope f cd A outer s H E []) [] (start N vs) H s1) (lt : s.heap.objs.size < s1.heap.objs.size) (gd : A.guards = some []) (hr : Room k (A.deeper (envOfC qual scope s.heap.objs.size f cd)))
    {a S : Addr} {g : Nat} {go : Obj} {s2 : Shared} (ea : a = s1.heap.objs.size) (hS : a < S) (hgc : ∀ v, go.data ≠ .cell v) (isg : ∀ h : Heap, h.get? a = some go → h.IsGen a g) (k2 : ∀ b o, s1.heap.get? b = some o → s2.heap.get? b = some o) (e2 : s2.heap.get? a = some go) (hSo : ∃ c, s2.heap.get? S = some (lstObj #[] c)) (os2 : s2.os = s1.os) (bare : AllBare s2.gens) :
    Seg (model P w) A (REnd P w outer H s [] S a g Q E) (YItem s S a g) sizeLine s2 (.func body (envOfC qual scope s.heap.objs.size f cd)) ((model P w).den (.func body (envOfC qual scope s.heap.objs.size f cd))) [] s2 := by
  obtain ⟨t, ht, hq⟩ := hb A [(a, go)] gd hr
  have I2 : Inv (gcxOf P w K mg base N qual scope f cd A outer s H E []) [] (start N vs) H s2 :=
    I1.call' (ch := []) os2 (Un.kept k2) (I1.hok.kept k2) bare fun b z => nomatch z
  obtain ⟨cS, eS⟩ := hSo
  obtain ⟨⟨a1, a2, a3⟩, _, _⟩ := q_young I1 lt (b := a) (by rw [ea]; exact Nat.le_refl _)
  obtain ⟨⟨b1, b2, b3⟩, b4, b5⟩ := q_young I1 lt (b := S) (Nat.le_of_lt (by rw [← ea]; exact hS))
  have off : ∀ p ∈ [(a, go)], p.1 ≠ S := fun p hp => by
    rw [List.mem_singleton.mp hp]
    exact Nat.ne_of_lt hS
  have hG : GI (gcxOf P w K mg base N qual scope f cd A outer s H E [(a, go)]) S [] [] (start N vs) H s2 := by
    refine ⟨#[], cS, .nil, Inv.pinnedG I2 fun p hp => ?_⟩
    have hp' : p = (a, go) ∨ p = (S, lstObj #[] cS) := by simpa using hp
    rcases hp' with rfl | rfl
    · exact ⟨e2, a1, a2, a3, hgc⟩
    · exact ⟨eS, b1, b2, b3, fun v q => nomatch q⟩
  have gen : ∀ {ip : List (Addr × Obj)} {ys : List V} {s' : Shared} {σ' : L2.St} {H' : Hp}, GI (gcxOf P w K mg base N qual scope f cd A outer s H E [(a, go)]) S ip ys σ' H' s' → s'.heap.IsGen a g := fun {ip ys s' σ' H'} hI => by
    obtain ⟨_, _, _, J⟩ := hI
    exact isg _ (J.pin (a, go) (List.mem_append_left _ List.mem_cons_self)).1
  refine seg_func (seg_imp (R := GR (gcxOf P w K mg base N qual scope f cd A outer s H E [(a, go)]) S (fun ys v H' => v = .non ∧ Q ys H') fun e s' => CX P w outer H s E e s' ∧ ∀ p ∈ [(a, go)], s'.heap.get? p.1 = some p.2)
    (Y := GY (gcxOf P w K mg base N qual scope f cd A outer s H E [(a, go)]) S) (fun n s₀ r s' hR => ?_) (fun n s₀ v s' kap kap' hk hY => ?_) sizeLine ?_)
  · match r, hR with
    | .error e, hR => exact .inr ⟨e, rfl, hR.1, isg _ (hR.2 (a, go) List.mem_cons_self)⟩
    | .ok (.ret u), ⟨ys, v, ip, σ', H', hn, hI, rv, ev, hQ⟩ =>
      subst ev
      cases (show u = Value.none from rv)
      obtain ⟨z1, _, _, acc, cc, ra, ez⟩ := hI.at
      obtain ⟨_, _, _, J⟩ := hI
      exact .inl ⟨.inl rfl, H', ys, acc, cc, J.os, J.bare, J.base, J.hok, z1, ez, ra, by omega, hQ⟩
    | .ok .next, hR => exact False.elim hR
    | .ok .brk, hR => exact False.elim hR
    | .ok .cont, hR => exact False.elim hR
  · obtain ⟨ys, _, ip, σ', H', hn, _, hI, h3⟩ := hY
    obtain ⟨_, _, _, acc, cc, ra, ez⟩ := hI.at
    have hg := gen hI
    obtain ⟨_, _, _, J⟩ := hI
    have hz : acc.size = ys.length := by rw [ra.length, Array.length_toList]
    exact ⟨J.os, J.bare, J.nolimit, hg, ⟨acc, cc, ez, by rw [hz]; exact hn⟩, fun s'' z => hk _ _ (h3 s'' z)⟩
  · refine ht.run A S [] _ sizeLine [] s2 _ [] _ _ id id s2 (start N vs) H _ ⟨off, fun p hp => absurd hp List.not_mem_nil, ⟨b4, b2, b5⟩, over_func, rfl, rfl, rfl⟩ (Nat.add_zero _) ⟨fun n ys s₀ s' fl hn hs => ?_, fun n s₀ e s' hx => ?_⟩ hG hq
    · match fl, hs with
      | .next, ⟨σ', H', hI, hQ⟩ => exact seg_end (.ok (.ret .none)) ⟨ys, .non, [], σ', H', hn, hI, rfl, rfl, hQ⟩
      | .ret u, ⟨v, σ', H', hI, rv, ev, hQ⟩ => exact seg_end (.ok (.ret u)) ⟨ys, v, [], σ', H', hn, hI, rv, ev, hQ⟩
      | .brk, ⟨_, _, _, q⟩ => exact False.elim q
      | .cont, ⟨_, _, _, q⟩ => exact False.elim q
    · refine seg_wrap ?_
      rw [over_func]
      exact wpAny_mono (show wpAny (model P w) (A.deeper (envOfC qual scope s.heap.objs.size f cd)) (leaving (envOfC qual scope s.heap.objs.size f cd) e) (fun _ s'' => CX P w outer H s E e s'' ∧ ∀ p ∈ [(a, go)], s''.heap.get? p.1 = some p.2) (fun _ _ => False) s' from hx) (fun _ s'' q => seg_end (.error e) q) fun _ _ q => q.elim
end
/-- THE RULE for a generator def -/
theorem qfn_of {P : Program} {w : World} {K : PySem.W.Frag} {mg : Str → Option Value} {base : Heap} {k : Nat} {f : Addr} {name qual : Str} {params : Arguments} {body : List Stmt} {scope : Scope} {dV kV doc pm cdv ct oc : Value} {an od : Option Addr} {osl : Array (Option Value)} {N ps : List Str} {sp : SpG}
    (lk : K.lookup f = some ⟨oc, od, .func (PySem.W.fnOf name qual params body scope dV kV doc pm an cdv ct), osl⟩) (hcd : PySem.W.codeIn K cdv qual = true) (S : GScope N ps scope) (len : ∀ vs H Q E, sp vs H Q E → vs.length = ps.length)
    (hb : ∀ (outer : List Env) (s : Shared) (H : Hp) (vs : List V) (Q : List V → Hp → Prop) (E : XK), sp vs H Q E → QBody P w K mg base N qual scope f cdv k outer s H E body vs Q) :
    QFn P w K mg base (k + 1) f (PySem.W.fnOf name qual params body scope dV kV doc pm an cdv ct) ps sp := by
  refine ⟨len, fun A outer s H args us vs Q E hr e0 bd r hsp => ?_⟩
  have up := fun b o (e : base.get? b = some o) => (e0.bs b o e).1
  have names : ∀ y ∈ ps.zip us, scope.names.lookup y.1 = some .local ∨ (scope.names.lookup y.1 = some .cell ∧ ((cellsFrom (s.heap.objs.size + 1) scope.names []).lookup y.1).isSome = true) := fun y hy =>
    (S.par y.1 (List.of_mem_zip hy).1).imp id fun q => ⟨q, PySem.W.cellsFrom_some _ _ _ (.inl q)⟩
  refine codeAny_call_generator hr.depth (e0.mod.kin.keeps up _ _ lk) rfl S.co S.gen rfl (PySem.W.codeRec_of (e0.mod.kin.keeps up) hcd) (bd _ _ _ _ (wpAny_newFunctionEnv_cells S.kind names fun env he s1 x => ?_))
  subst he
  obtain ⟨h1, tk, es1, hk1⟩ := x.done
  have lt : s.heap.objs.size < s1.heap.objs.size := x.toInCall.ns.lt
  have lim : s1.heap.NoLimit := (e0.mod.nolimit.keeps up).keeps x.toInCall.keep
  have os1 : s1.os = s.os := by rw [es1]
  have gs1 : s1.gens = s.gens := by rw [es1]
  refine ⟨lim, ?_⟩
  have main : ∀ (go : Obj) (nm qn : Value) (tk2 : Nat), go.cls = .type "generator" → go.data = .fields #[.int s1.gens.size 0, nm, qn] → go.slots = #[] → (∀ h : Heap, (h.push go).get? h.objs.size = some go) →
      QMade P w (k + 1) outer H s Q E (.ref s1.heap.objs.size) { s1 with gens := s1.gens.push (.fresh (.func body (envOfC qual scope s.heap.objs.size f cdv))), toks := tk2, heap := s1.heap.push go } := by
    intro go nm qn tk2 gc gd0 gsl gp
    have isg : ∀ h : Heap, h.get? s1.heap.objs.size = some go → h.IsGen s1.heap.objs.size s1.gens.size := fun h e => ⟨go, nm, qn, e, gc, gd0, gsl⟩
    have sz : (s1.heap.push go).objs.size = s1.heap.objs.size + 1 := Heap.size_push _ _
    refine ⟨s1.heap.objs.size, s1.gens.size, _, ⟨rfl, Nat.le_of_lt lt, (by show _ < (s1.heap.push go).objs.size; rw [sz]; exact Nat.lt_succ_self _)⟩, ⟨isg _ (gp _), Array.getElem?_push_size .., os1, AllBare.push (by rw [gs1]; exact e0.bare) rfl, lim.keeps fun b o e => Heap.get?_push_of_some _ e⟩,
      fun b o e => Heap.get?_push_of_some _ (x.toInCall.keep b o e), ?_⟩
    intro Aw Sx s2 gd hrw hfr hSx k2 hSo os2 ba2
    have ew : Env0 P w K mg base Aw outer s H := ⟨hfr, e0.mod, e0.bs, e0.bsz, e0.funs, e0.frf, e0.hok, e0.bare⟩
    have hSx' : (s1.heap.push go).objs.size ≤ Sx := hSx
    exact q_run (hb outer s H vs Q E hsp) (inv_startG S hrw.hd ew (len _ _ _ _ hsp) r x) lt gd (hrw.deeper _) rfl (by rw [sz] at hSx'; exact hSx') (fun v q => by rw [gd0] at q; cases q) isg (fun b o e => k2 b o (Heap.get?_push_of_some _ e)) (k2 _ _ (gp _)) hSo (os2.trans os1.symm) ba2
  exact ⟨_, rfl, main _ _ _ _ rfl rfl rfl fun h => Heap.get?_push_size _ rfl⟩
section
variable {P : Program} {w : World} {outer : List Env} {H : Hp} {sc s : Shared} {Q : List V → Hp → Prop} {EX : XK} {A : Around} {k : Nat} {u : Value} {Q' : Value → Shared → Prop} {E : Value → Shared → Prop}
/-- a new list takes up all that a generator gives -/
theorem q_extend {a S : Addr} {g : Nat} {c : Code} {c0 : Nat} {R : Result → Shared → Prop} (gd : A.guards = some []) (hh : A.handled = none) (hd : A.depth < recursionLimit) (rk : Room k A.in1.in1) (hfr : A.frames = some outer) (hSa : S ≠ a)
    (hS : s.heap.get? S = some (lstObj #[] c0)) (hg : s.heap.IsGen a g) (hgs : s.gens[g]? = some (.fresh c)) (os : s.os = sc.os) (hb : AllBare s.gens) (hl : s.heap.NoLimit) (hSc : S ≠ cStatics)
    (wake : ∀ (A : Around) (s2 : Shared), A.guards = some [] → Room k A → A.frames = some outer → (∀ b o, b ≠ S → s.heap.get? b = some o → s2.heap.get? b = some o) → (∃ c, s2.heap.get? S = some (lstObj #[] c)) → s2.os = sc.os → AllBare s2.gens →
      Seg (model P w) A (REnd P w outer H sc [] S a g Q EX) (YItem sc S a g) sizeLine s2 c ((model P w).den c) [] s2)
    (hend : ∀ s' acc c H' ys, s'.heap.get? S = some (lstObj acc c) → Vals ys acc.toList → ys.length ≤ sizeLine → s'.os = sc.os → AllBare s'.gens → Un (frs outer) [] H H' sc.heap s'.heap → HOk P w H' s'.heap → H' S = none → Q ys H' → R (.ok (.ret .none)) s')
    (hexc : ∀ e s', CX P w outer H sc EX e s' → NotStop (model P w) e s'.heap ∧ R (.error e) (s'.setGen g .finished)) :
    wpAny (model P w) A.in1 (Builtin.List.listExtendWith (.ref S) (.ref a) .none) (fun fin s' => match fin with | .done f => R (.ok f) s' | .again c' => c'.quiet = true ∧ codeAny (model P w) A c' R s') (fun e s' => R (.error e) s') s := by
  unfold Builtin.List.listExtendWith
  refine wpAny_bind (wpAny_typeOf (Heap.IsGen.typeIs hg) ?_)
  have n1 : (Builtin.List.listSameRef (.ref S) (.ref a) || Value.type "generator" == Value.type "list" || Value.type "generator" == Value.type "tuple") = false := by
    have : Builtin.List.listSameRef (.ref S) (.ref a) = false := by simp [Builtin.List.listSameRef, hSa]
    rw [this]; rfl
  rw [if_neg (by rw [n1]; decide)]
  refine wpAny_bind (wpAny_pyIter_gen hg (wpAny_bind (wpAny_holding ?_)))
  unfold Builtin.List.listLengthHint
  refine wpAny_bind (wpAny_specialOf (Heap.IsGen.typeIs hg) F.gen_no_len ?_)
  show wpAny _ A.in1 (specialOf (Value.ref a) (Str.ofString "__length_hint__") >>= _) _ _ _
  refine wpAny_bind (wpAny_specialOf (Heap.IsGen.typeIs hg) F.gen_no_hint (wpAny_pure ?_))
  show wpAny _ A.in1 (rule "list.extend.makes-room" >>= fun _ => (updateSeq S (·.push .none) >>= fun _ => updateSeq S (·.pop)) >>= fun _ => again (.builtin "list.extend.loop" ⟨[.ref S, .ref a, .none], []⟩)) _ _ _
  refine wpAny_bind (wpAny_rule (wpAny_bind (wpAny_bind (wpAny_updateSeq hS rfl ?_))))
  have h3 := Heap.get?_update_self (Obj.mapSeq (·.push Value.none)) hS rfl
  refine wpAny_updateSeq (hz := by seq_fits) h3 rfl (wpAny_pure ⟨plainId_quiet F.plain_extend_loop _, ?_⟩)
  have h4 := Heap.get?_update_self (Obj.mapSeq (·.pop)) h3 rfl
  have stay : ∀ b o, b ≠ S → s.heap.get? b = some o → ((s.heap.update S (Obj.mapSeq (·.push Value.none))).update S (Obj.mapSeq (·.pop))).get? b = some o := fun b o n e =>
    (Heap.get?_update_other _ _ (Ne.symm n)).trans ((Heap.get?_update_other _ _ (Ne.symm n)).trans e)
  have gen4 : ((s.heap.update S (Obj.mapSeq (·.push Value.none))).update S (Obj.mapSeq (·.pop))).IsGen a g := by
    obtain ⟨o, nm, qn, ho, r⟩ := hg
    exact ⟨o, nm, qn, stay a o (Ne.symm hSa) ho, r⟩
  have lim4 : ((s.heap.update S (Obj.mapSeq (·.push Value.none))).update S (Obj.mapSeq (·.pop))).NoLimit := by
    obtain ⟨mc, hns, hnn⟩ := hl
    exact ⟨mc, hns.at' fun o e => stay _ o (Ne.symm hSc) e, hnn⟩
  exact drain (ex := []) (EX := EX) (Q := Q) hh hd hSa hSc hend hexc sizeLine _ gen4 lim4 ⟨_, hgs, rfl, wake _ _ gd rk hfr stay ⟨_, h4⟩ os (allBare_setGen (s := { s with heap := _ }) hb rfl)⟩
/-- list(g), g a generator that has not begun -/
theorem q_list (hr : Room (k + 3) A) (gd : A.guards = some []) (hfr : A.frames = some outer) (h : QMade P w k outer H sc Q EX u s)
    (hQ : ∀ S s' acc c H' ys, s.heap.objs.size ≤ S → s'.heap.get? S = some (lstObj acc c) → Vals ys acc.toList → ys.length ≤ sizeLine → s'.os = sc.os → AllBare s'.gens → Un (frs outer) [] H H' sc.heap s'.heap → HOk P w H' s'.heap → H' S = none → Q ys H' → Q' (.ref S) s')
    (hexc : ∀ e s' g, CX P w outer H sc EX e s' → NotStop (model P w) e s'.heap ∧ E e (s'.setGen g .finished)) : wpAny (model P w) A (call (.type "list") [u]) Q' E s := by
  obtain ⟨a, g, c, ⟨rfl, _, ha2⟩, ⟨hg, hgs, hos, hb, hl⟩, _, wake⟩ := h
  have hSc : s.heap.objs.size ≠ cStatics := by
    obtain ⟨_, hn, _⟩ := id hl
    exact Nat.ne_of_gt hn.lt
  refine callType_codes (Q₁ := fun obj s₁ => obj = .ref s.heap.objs.size ∧ s₁ = { s with heap := s.heap.push { cls := .type "list", data := .seq #[] } }) F.called_list (F.typeCall_list_1 _) F.entry_list_init (code_list_new _ ⟨rfl, rfl⟩) ?_
  rintro obj s₁ ⟨rfl, rfl⟩
  have hS : (s.heap.push { cls := .type "list", data := .seq #[] }).get? s.heap.objs.size = some { cls := .type "list", data := .seq #[] } := Heap.get?_push_size _ rfl
  have k1 : ∀ b o, s.heap.get? b = some o → (s.heap.push { cls := .type "list", data := .seq #[] }).get? b = some o := fun b o e => Heap.get?_push_of_some _ e
  refine ⟨⟨_, hS, rfl⟩, F.args_list_init_2 _ _, ?_⟩
  show wpAny _ A.in1.in1 (Builtin.List.listItems (.ref s.heap.objs.size) >>= fun old => updateSeq s.heap.objs.size (fun _ => #[]) >>= fun _ => letGo old.toList.reverse >>= fun _ => Builtin.List.listExtendWith (.ref s.heap.objs.size) (.ref a) .none) _ _ _
  refine wpAny_bind ?_
  unfold Builtin.List.listItems
  refine wpAny_bind (wpAny_seqItems hS rfl (wpAny_pure (wpAny_bind (wpAny_updateSeq hS rfl (wpAny_bind (wpAny_letGo ?_))))))
  have h2 := Heap.get?_update_self (Obj.mapSeq (fun _ => (#[] : Array Value))) hS rfl
  have k2 : ∀ b o, s.heap.get? b = some o → ((s.heap.push { cls := .type "list", data := .seq #[] }).update s.heap.objs.size (Obj.mapSeq fun _ => #[])).get? b = some o := fun b o e =>
    (Heap.get?_update_other _ _ (Ne.symm (Nat.ne_of_lt (Heap.lt_size e)))).trans (k1 b o e)
  refine q_extend (A := A.in1) (outer := outer) (sc := sc) (H := H) (Q := Q) (EX := EX) (g := g) (c := c) (k := k) gd hr.hd (by have := hr.dp; show A.depth < _; omega) ⟨hr.hd, ?_, ?_⟩ hfr (Nat.ne_of_gt ha2) h2 (hg.keeps k2) hgs hos hb (hl.keeps k2) hSc
    (fun B s2 g1 r1 f1 kp so o1 b1 => wake B _ s2 g1 r1 f1 (Nat.le_refl _) (fun b o e => kp b o (Nat.ne_of_lt (Heap.lt_size e)) (k2 b o e)) so o1 b1)
    (fun s' acc c H' ys q1 q2 q3 q4 q5 q6 q7 q8 q9 => ⟨rfl, hQ _ s' acc c H' ys (Nat.le_refl _) q1 q2 q3 q4 q5 q6 q7 q8 q9⟩) (fun e s' hc => hexc e s' g hc)
  · have := hr.dp
    show A.depth + 3 * k + 5 < _
    omega
  · have := hr.un
    show A.units + 1 + 1 + 1 + 16 * k + 200 < _
    omega
end
end L2
set_option Elab.async false
set_option linter.all false
set_option maxRecDepth 100000
set_option maxHeartbeats 4000000
/-! a generator def's promise over data; list(f(..)) -/
namespace DL
open PySem PySem.Spec PyProof.Rows L2 LamX DLX GenW
/-- the arguments, what is wanted of all that is handed out, what is wanted where it raises -/
abbrev GSpec := List D → (List D → Prop) → (Exn → Prop) → Prop
def spG (G : Gg) (m : Nat) (S : GSpec) : SpG := fun vs H cont E => ∃ (W : AS) (ds : List D) (kd : List D → Prop) (kx : Exn → Prop), ds.length = m ∧ S ds kd kx ∧ RepL G.K G.mg W H ds vs ∧ WD W H ∧ LamX.Tabs G.T H ∧
  (∀ l xs H', kd l → Kp H H' → LamX.Tabs G.T H' → RepL G.K G.mg W H' l xs → cont xs H') ∧ (∀ x cls dd H', kx x → Kp H H' → LamX.Tabs G.T H' → RepX G W H' x cls dd → E cls dd H')
section
variable {G : Gg} {X : Cx} {ρ : Rho} {k : KD} {kx : KX} {pos : Pos}
/-- these classes end no iterator -/
def NoStopX (G : Gg) (x : Str) : Prop := ∀ cls, G.mg x = some cls → PySem.W.subIn G.K cls (.type "StopIteration") = some false
/-- list(f(e, ..)), f a generator def -/
theorem ej_listG {j m : Nat} {fl x : Str} {f : Addr} {fd : FuncData} {ps : List Str} {S : GSpec} {xs : List Str} {e : Expr} {es : List Expr} {p p2 p3 : Pos} {dds : List D} {dvs : List V} {dsv : List Value} (hP : X.K = G.K ∧ X.mg = G.mg)
    (F : QFn X.prog X.w X.K X.mg X.base j f fd ps (spG G m S)) (gd : X.A.guards = some []) (hr : Room (j + 3) X.A) (hg : Gl X x) (hm : X.mg x = some (.ref f)) (hk : PySem.W.keepIn X.K (.ref f) = true) (hb : Binds X.K fd ps dsv) (hd : Vals dvs dsv) (hdr : ∀ W H, RepL G.K G.mg W H dds dvs)
    (hdb : (x == ("__debug__" : Str)) = false) (he : starEach (e :: es) X.env = (false, eval e X.env) :: starEach es X.env) (hpl : (backTo p3 (starEach es X.env)).any (·.1) = false)
    (hgl : Gl X fl) (hml : X.mg fl = none) (hvl : bootBuiltins fl = some (.type "list")) (hnl : fl ≠ "__name__") (hdl : (fl == ("__debug__" : Str)) = false) (hx : ∀ y ∈ xs, NoStopX G y)
    (h : AJ G X (e :: es) ρ (fun ds ρ1 => (ds ++ dds).length = m ∧ S (ds ++ dds) (fun l => k (.lst l) ρ1) (fun y => y.1 ∈ xs ∧ kx y ρ1)) kx) :
    EJ G X (.Call (.Name fl p) [.Call (.Name x p2) (e :: es) [] p3] [] pos) ρ k kx := by
  intro P W σ H A Q Wx tk n xp pins s I
  refine wpAny_Call_Name_kw (ld_blt I hgl hml hvl ?_ hnl hdl)
  have he1 : starEach [.Call (.Name x p2) (e :: es) [] p3] X.env = (false, eval (.Call (.Name x p2) (e :: es) [] p3) X.env) :: starEach [] X.env := rfl
  refine PyProof.Rows.callWith_type1 ?_ he1 rfl
  rw [he1]
  show wpAny _ _ (spliced ((false, eval (.Call (.Name x p2) (e :: es) [] p3) X.env) :: backTo pos (starEach [] X.env))) _ _ s
  refine Calls.spliced_cons (wpAny_mono (Q := fun u s' => ∃ (H1 : Hp) (sc : Shared) (E : XK) (cont : List V → Hp → Prop), Inv X pins σ H1 sc ∧ QMade X.prog X.w j X.stack H1 sc cont E u s' ∧ (∀ out H2, cont out H2 → ∀ p, H2 p = none → Q (.ref p) (upd H2 p (.lst out))) ∧ (∀ cls d H2, E cls d H2 → WE Wx σ cls d H2 ∧ PySem.W.subIn X.K cls (.type "StopIteration") = some false)) (E := X.xe) ?_ (fun u s1 z => ?_) fun _ _ z => z)
  · refine wpAny_Call_Name_kw (ld_glob I hg hm ?_ hdb)
    refine PySem.W.callWith_K (h₀ := X.base) I.ok.mod.kin hk (thn (h P W σ H A (fun vs H1 => ∃ (E : XK) (cont : List V → Hp → Prop), spG G m S (vs ++ dvs) H1 cont E ∧ (∀ out H2, cont out H2 → ∀ p, H2 p = none → Q (.ref p) (upd H2 p (.lst out))) ∧ (∀ cls d H2, E cls d H2 → WE Wx σ cls d H2 ∧ PySem.W.subIn X.K cls (.type "StopIteration") = some false)) Wx tk (fun ds ρ1 vs H1 ⟨hl, h1⟩ A1 L1 r1 => ?_) xp p3 pins s I) ?_) he hpl
    · refine ⟨fun cls d H2 => WE Wx σ cls d H2 ∧ PySem.W.subIn X.K cls (.type "StopIteration") = some false, fun out H2 => ∀ p, H2 p = none → Q (.ref p) (upd H2 p (.lst out)), ⟨W, ds ++ dds, _, _, hl, h1, r1.app (hdr W H1), A1.wd, A1.tb, fun l zs H' hz kp tb rl q hq => ?_, fun y cls dd H' hz kp tb r' => ⟨?_, ?_⟩⟩, fun _ _ z => z, fun _ _ _ z => z⟩
      · have A2 := A1.kp kp tb
        exact n _ _ _ _ hz (A2.new hq) (L1.trans ((Lx.kp kp).trans (Lx.new hq))) ⟨q, zs, rfl, ⟨upd_same, A2.nw hq⟩, RepL.le (Le.new1 hq) _ _ rl⟩
      · exact xp _ _ _ _ _ hz.2 (A1.kp kp tb) (L1.trans (Lx.kp kp)) r'
      · rw [hP.1]
        exact hx y.1 hz.1 cls r'.1
    · rintro us s1 ⟨vs, H1, I1, r, E, cont, hsp, q1, q2⟩
      refine ⟨I1.kIn, ?_⟩
      have r2 : Vals (vs ++ dvs) (us ++ dsv) := r.append hd
      have hl2 : (us ++ dsv).length = ps.length := by rw [← r2.length]; exact F.len _ _ _ _ hsp
      refine wpAny_call (codeAny_mono (F.go X.A X.stack s1 H1 ⟨us, []⟩ (us ++ dsv) (vs ++ dvs) cont E (hr.mono (by omega)) I1.env0 (hb s1 us I1.kIn hl2) r2 hsp) fun r s' hq => ?_)
      obtain ⟨u, rfl, hM⟩ := hq
      exact ⟨H1, s1, E, cont, I1, hM, q1, q2⟩
  · obtain ⟨H1, sc, E, cont, I1, hM, q1, q2⟩ := z
    refine Calls.spliced_nil ?_
    have hsz : sc.heap.objs.size ≤ s1.heap.objs.size := by
      obtain ⟨a, g, c, ⟨_, h1, h2⟩, _⟩ := hM
      exact Nat.le_trans h1 (Nat.le_of_lt h2)
    refine q_list hr gd I1.ok.frames hM (fun S s' acc c H' ys z0 z1 z2 hl z3 z4 z5 z6 z7 z8 => ?_) fun e s' g hc => ?_
    · exact ⟨.ref S, upd H' S (.lst ys), I1.drained (Nat.le_trans hsz z0) hl z1 z2 .nil z3 z4 z5 z6 z7, rfl, q1 _ _ z8 S z7⟩
    · obtain ⟨a, B, H', cls, d, w1, fl, w2, ub, w3, w4, w5, w6⟩ := id hc
      have kin : X.K.In s'.heap := I1.ok.mod.kin.keeps fun b o eb => fl.1 b o (ub.keep b o (I1.bs b o eb).1 (I1.bs b o eb).2 fun hm => by
        rcases List.mem_cons.mp (I1.stkSub b hm) with z | z
        · have h1 := Heap.lt_size eb
          rw [z] at h1
          exact absurd (Nat.lt_of_lt_of_le h1 (Nat.le_trans I1.ok.bsz I1.ok.above)) (Nat.lt_irrefl _)
        · exact I1.ok.nofr eb z)
      refine ⟨notStop_of (fun cls d H z => (q2 cls d H z).2) kin hc, passAt tk σ pins H1 sc e _ I1 ?_⟩
      exact ⟨a, B, H', cls, d, w1, fl, w2, ub, w3, w4, allBare_setGen w5 rfl, (q2 _ _ _ w6).1⟩
end
end DL
set_option Elab.async false
set_option linter.all false
set_option maxRecDepth 100000
set_option maxHeartbeats 2000000
/-! texts in order: sorted(..) of texts of any number, of a list, a tuple or a set -/
namespace TX
open PySem PySem.Spec PyProof.Rows L2

/-! ### the order of texts -/
def ltS (x y : Str) : Bool := decide (x.cps.toList < y.cps.toList)
theorem ltS_no {x y : Str} : ltS x y = false ↔ y.cps.toList ≤ x.cps.toList := by
  unfold ltS
  rw [decide_eq_false_iff_not]
  exact List.not_lt
theorem ltS_yes {x y : Str} : ltS x y = true ↔ x.cps.toList < y.cps.toList := by
  unfold ltS
  exact decide_eq_true_iff
theorem ltS_irr (x : Str) : ltS x x = false := ltS_no.mpr (List.le_refl _)
theorem ltS_asym {x y : Str} (h : ltS x y = true) : ltS y x = false := ltS_no.mpr (List.le_of_lt (ltS_yes.mp h))
theorem ltS_anti {x y : Str} (h1 : ltS x y = false) (h2 : ltS y x = false) : x = y := by
  have e : x.cps.toList = y.cps.toList := List.le_antisymm (ltS_no.mp h2) (ltS_no.mp h1)
  obtain ⟨⟨x⟩⟩ := x
  obtain ⟨⟨y⟩⟩ := y
  cases (show x = y from e)
  rfl
theorem ltS_tr {x y z : Str} (h1 : ltS x y = true) (h2 : ltS y z = true) : ltS x z = true := ltS_yes.mpr (List.lt_trans (ltS_yes.mp h1) (ltS_yes.mp h2))
def ltSv (v u : Value) : Bool := ltS (strOf v) (strOf u)
theorem swoT : SrtO.Swo ltSv :=
  ⟨fun _ _ h => ltS_asym h, fun _ _ _ h1 h2 => ltS_no.mpr (List.le_trans (ltS_no.mp h1) (ltS_no.mp h2))⟩

/-! ### the one ordered list of some texts, without doubles -/
def insT (x : Str) : List Str → List Str
  | [] => [x]
  | y :: l => if ltS x y then x :: y :: l else if ltS y x then y :: insT x l else y :: l
def lotS : List Str → List Str
  | [] => []
  | x :: l => insT x (lotS l)
abbrev Upw (l : List Str) : Prop := l.Pairwise fun x y => ltS x y = true
theorem insT_mem {x z : Str} : ∀ {l : List Str}, z ∈ insT x l ↔ z = x ∨ z ∈ l
  | [] => by simp [insT]
  | y :: l => by
    unfold insT
    split
    · simp
    · split
      · rw [List.mem_cons, insT_mem, List.mem_cons]
        constructor
        · rintro (h | h | h) <;> simp [h]
        · rintro (h | h | h) <;> simp [h]
      · rename_i h1 h2
        have e : x = y := ltS_anti (by simpa using h1) (by simpa using h2)
        subst e
        simp
theorem insT_up {x : Str} : ∀ {l : List Str}, Upw l → Upw (insT x l)
  | [], _ => List.pairwise_singleton _ _
  | y :: l, h => by
    obtain ⟨h1, h2⟩ := List.pairwise_cons.mp h
    unfold insT
    split
    · rename_i c
      exact List.pairwise_cons.mpr ⟨fun z hz => (List.mem_cons.mp hz).elim (fun e => e ▸ c) fun hz => ltS_tr c (h1 z hz), h⟩
    · split
      · rename_i c
        exact List.pairwise_cons.mpr ⟨fun z hz => (insT_mem.mp hz).elim (fun e => e ▸ c) (h1 z), insT_up h2⟩
      · exact h
theorem lotS_mem {z : Str} : ∀ {l : List Str}, z ∈ lotS l ↔ z ∈ l
  | [] => Iff.rfl
  | x :: l => by
    unfold lotS
    rw [insT_mem, lotS_mem, List.mem_cons]
theorem lotS_up : ∀ (l : List Str), Upw (lotS l)
  | [] => List.Pairwise.nil
  | x :: l => insT_up (lotS_up l)
theorem up_one : ∀ {l m : List Str}, Upw l → Upw m → (∀ z, z ∈ l ↔ z ∈ m) → l = m
  | [], [], _, _, _ => rfl
  | [], y :: m, _, _, h => absurd ((h y).mpr List.mem_cons_self) (by simp)
  | x :: l, [], _, _, h => absurd ((h x).mp List.mem_cons_self) (by simp)
  | x :: l, y :: m, hl, hm, h => by
    obtain ⟨l1, l2⟩ := List.pairwise_cons.mp hl
    obtain ⟨m1, m2⟩ := List.pairwise_cons.mp hm
    have e : x = y := by
      rcases List.mem_cons.mp ((h x).mp List.mem_cons_self) with e | hx
      · exact e
      · rcases List.mem_cons.mp ((h y).mpr List.mem_cons_self) with e | hy
        · exact e.symm
        · have a := ltS_asym (l1 y hy)
          rw [m1 x hx] at a
          cases a
    subst e
    have nx : x ∉ l := fun hx => by have a := l1 x hx; rw [ltS_irr] at a; cases a
    have ny : x ∉ m := fun hx => by have a := m1 x hx; rw [ltS_irr] at a; cases a
    rw [up_one l2 m2 fun z => ?_]
    have hz := h z
    rw [List.mem_cons, List.mem_cons] at hz
    constructor
    · intro q
      rcases hz.mp (.inr q) with e | q'
      · exact absurd (e ▸ q) nx
      · exact q'
    · intro q
      rcases hz.mpr (.inr q) with e | q'
      · exact absurd (e ▸ q) ny
      · exact q'
/-- an ordered list without doubles is its own -/
theorem lotS_self {l : List Str} (h : Upw l) : lotS l = l := up_one (lotS_up l) h fun _ => lotS_mem
theorem up_nodup {l : List Str} (h : Upw l) : l.Nodup := h.imp fun {x y} a e => by rw [e, ltS_irr] at a; cases a
/-- ordered, doubles let; then none: it rises -/
theorem up_of : ∀ {l : List Str}, (l.Pairwise fun x y => ltS y x = false) → l.Nodup → Upw l
  | [], _, _ => List.Pairwise.nil
  | x :: l, h, d => by
    obtain ⟨h1, h2⟩ := List.pairwise_cons.mp h
    obtain ⟨d1, d2⟩ := List.nodup_cons.mp d
    refine List.pairwise_cons.mpr ⟨fun y hy => ?_, up_of h2 d2⟩
    cases c : ltS x y with
    | true => rfl
    | false => exact absurd (ltS_anti c (h1 y hy) ▸ hy) d1
/-- with doubles: put in behind what is less -/
def putT (x : Str) : List Str → List Str
  | [] => [x]
  | y :: l => if ltS y x then y :: putT x l else x :: y :: l
def srtS : List Str → List Str
  | [] => []
  | x :: l => putT x (srtS l)
theorem putT_perm {x : Str} : ∀ {l : List Str}, (putT x l).Perm (x :: l)
  | [] => List.Perm.refl _
  | y :: l => by
    unfold putT
    split
    · exact (List.Perm.cons y putT_perm).trans (List.Perm.swap x y l)
    · exact List.Perm.refl _
theorem srtS_perm : ∀ {l : List Str}, (srtS l).Perm l
  | [] => List.Perm.refl _
  | x :: l => putT_perm.trans (List.Perm.cons x srtS_perm)
abbrev Ord (l : List Str) : Prop := l.Pairwise fun x y => ltS y x = false
theorem putT_ord {x : Str} : ∀ {l : List Str}, Ord l → Ord (putT x l)
  | [], _ => List.pairwise_singleton _ _
  | y :: l, h => by
    obtain ⟨h1, h2⟩ := List.pairwise_cons.mp h
    unfold putT
    split
    · rename_i c
      refine List.pairwise_cons.mpr ⟨fun z hz => ?_, putT_ord h2⟩
      rcases List.mem_cons.mp (putT_perm.mem_iff.mp hz) with e | hz
      · rw [e]; exact ltS_asym c
      · exact h1 z hz
    · rename_i c
      have c' : ltS y x = false := by simpa using c
      refine List.pairwise_cons.mpr ⟨fun z hz => ?_, h⟩
      rcases List.mem_cons.mp hz with e | hz
      · rw [e]; exact c'
      · exact ltS_no.mpr (List.le_trans (ltS_no.mp c') (ltS_no.mp (h1 z hz)))
theorem srtS_ord : ∀ (l : List Str), Ord (srtS l)
  | [] => List.Pairwise.nil
  | x :: l => putT_ord (srtS_ord l)
theorem ord_one : ∀ {l m : List Str}, Ord l → Ord m → l.Perm m → l = m
  | [], m, _, _, h => (List.Perm.eq_nil h.symm).symm
  | x :: l, [], _, _, h => absurd h.length_eq (by simp)
  | x :: l, y :: m, hl, hm, h => by
    obtain ⟨l1, l2⟩ := List.pairwise_cons.mp hl
    obtain ⟨m1, m2⟩ := List.pairwise_cons.mp hm
    have e : x = y := by
      rcases List.mem_cons.mp (h.mem_iff.mp List.mem_cons_self) with e | hx
      · exact e
      · rcases List.mem_cons.mp (h.mem_iff.mpr List.mem_cons_self) with e | hy
        · exact e.symm
        · exact ltS_anti (m1 x hx) (l1 y hy)
    subst e
    rw [ord_one l2 m2 h.cons_inv]
theorem up_ord {l : List Str} (h : Upw l) : Ord l := h.imp ltS_asym
/-- a list that rises is its own order -/
theorem srtS_self {l : List Str} (h : Ord l) : srtS l = l := ord_one (srtS_ord l) h srtS_perm

/-! ### comparing, ordering -/
section
variable {prog : Program} {w : World} {A : Around} {E : Value → Shared → Prop} {s : Shared}
theorem cmpT {vs : List Value} {xs : List Str} (hS : StrsAre vs xs) : SrtO.Cmp prog w A s oneType' (fun p => p.1 ∈ vs) (SrtO.lt2 ltSv) := by
  intro p q hp hq
  obtain ⟨x, t, e1⟩ := hS.all _ hp
  obtain ⟨y, u, e2⟩ := hS.all _ hq
  show wpAny (model prog w) A (keyLt' oneType' p.1 q.1) (fun r s' => s' = s ∧ r = ltS (strOf p.1) (strOf q.1)) (fun _ _ => False) s
  rw [e1, e2, keyLt'_oneType]
  exact oneLt_str ⟨rfl, rfl⟩
theorem ableT {a : Addr} {vs : List Value} {xs : List Str} (hS : StrsAre vs xs) (h2 : 2 ≤ vs.length) : SrtO.SortableO prog w A s a vs ltSv := by
  intro h' _
  refine ⟨oneType', fun Q E hq => ?_, cmpT hS⟩
  match vs, hS, h2 with
  | v1 :: v2 :: rest, hS, _ =>
    rw [keyKind_strs hS]
    exact wpAny_pure hq
  | [], _, h => exact absurd h (by decide)
  | [v], _, h => exact absurd h (by simp)
theorem outT {vs out : List Value} {xs : List Str} (hS : StrsAre vs xs) (h1 : SrtO.Srtd ltSv out) (h2 : SrtO.Stb ltSv out vs) : StrsAre out (srtS xs) := by
  have a : StrsAre out (out.map strOf) := strsAre_map out fun v hv => hS.all v (h2.perm.mem_iff.mp hv)
  have p : (out.map strOf).Perm xs := by
    have q := h2.perm.map strOf
    rw [hS.strs] at q
    exact q
  have o : Ord (out.map strOf) := List.pairwise_map.mpr h1
  rw [ord_one o (srtS_ord xs) (p.trans srtS_perm.symm)] at a
  exact a
/-- sorted(x), by what x is gathered to -/
theorem sortedT {x : Value} (Z : Shared → List Value → Prop) {xs : List Str} {Q : Value → Shared → Prop} (hc : ∀ Q' : List Value → Shared → Prop, (∀ s1 vs, Z s1 vs → Q' vs s1) → wpAny (model prog w) A.in1 (collect x) Q' E s)
    (hZ : ∀ s1 vs, Z s1 vs → vs.length ≤ sizeLine ∧ ∃ ys, StrsAre vs ys ∧ srtS ys = xs)
    (hQ : ∀ s1 vs out c h', Z s1 vs → StrsAre out xs → out.length = vs.length → (∀ b o, s1.heap.get? b = some o → h'.get? b = some o) → h'.get? s1.heap.objs.size = some (seqObj "list" out.toArray c) → Q (.ref s1.heap.objs.size) { s1 with heap := h' }) :
    wpAny (model prog w) A (call (.builtin "sorted") [x]) Q E s := by
  refine Calls.call_function_entry kind_sorted plain_sorted entry_sorted (args_sorted1 _) ?_
  unfold Builtin.«sorted»
  refine wpAny_bind (m := checkCount "sorted" 1 1 _) (wpAny_pure ?_)
  refine wpAny_bind (hc _ fun s1 vs z => ?_)
  obtain ⟨hz, ys, hS, hx⟩ := hZ s1 vs z
  refine wpAny_bind (wpAny_newList ?_ hz)
  have hoL : (s1.heap.push (seqObj "list" vs.toArray 0)).get? s1.heap.objs.size = some (seqObj "list" vs.toArray 0) := Heap.get?_push_size _ rfl
  refine wpAny_bind (wpAny_holding (wpAny_call_entry PyProof.Rows.slot_list_sort ⟨_, hoL, rfl⟩ PyProof.Rows.entry_list_sort
    (SrtO.list_sort_ord swoT hoL hz (fun h2 => ableT hS h2) fun out h1 h2 => ⟨.none, rfl, ?_⟩) (PyProof.Rows.args_list_sort _)))
  obtain ⟨c, hc'⟩ := PyProof.Rows.sortedHeap_at (vs := vs) (out := out.toArray) hoL
  have so := outT hS h1 h2
  rw [hx] at so
  refine wpAny_pure ⟨_, rfl, hQ s1 vs out c _ z so h2.perm.length_eq (fun b o e => ?_) hc'⟩
  have hlt := Heap.lt_size e
  rw [PyProof.Rows.sortedHeap_old (Nat.ne_of_lt hlt) (by rw [Heap.size_push]; exact Nat.lt_succ_of_lt hlt)]
  exact Heap.get?_push_of_some _ e
end
end TX
set_option Elab.async false
set_option linter.all false
set_option maxRecDepth 100000
set_option maxHeartbeats 2000000
/-! sets of texts: what lies in them, one more text -/
namespace TX
open PySem PySem.Spec PyProof.Rows L2 PySem.Froz

/-- the texts of a set's rows -/
def rowsT (D : SD) : List Str := D.1.toList.map fun e => strOf e.2
/-- at a lies a set of just the texts l; its table rises -/
def SetT (P : Program) (w : World) (h : Heap) (a : Addr) (l : List Str) : Prop :=
  ∃ D : SD, h.get? a = some (sObj "set" D) ∧ TxOk P w D l ∧ (rowsT D).Perm l ∧ l.Nodup ∧ Ris D.2.2.place.toList ∧ (w.params.followText "set-order" = true ∨ D.2.2.led = true)
section
variable {P : Program} {w : World} {A : Around} {E : Value → Shared → Prop} {s : Shared} {h h' : Heap} {a : Addr} {l : List Str}
theorem SetT.at (R : SetT P w h a l) (k : ∀ o, h.get? a = some o → h'.get? a = some o) : SetT P w h' a l := by
  obtain ⟨D, g, r⟩ := R
  exact ⟨D, k _ g, r⟩
theorem tail_rows (ep : Nat) (es : Array (Int × Value)) (t : SetTable) (d : Bool) (r : Ris t.place.toList) : (tailTx ep es t d).1.toList.Perm es.toList ∧ Ris (tailTx ep es t d).2.2.place.toList ∧ (tailTx ep es t d).2.2.led = t.led := by
  unfold tailTx
  by_cases c : (!d && t.tooFull) = true
  · rw [if_pos c]
    exact ⟨relayAll_perm _ _ _, relayAll_ris _ _ _, relayAll_led _ _ _⟩
  · rw [if_neg c]
    exact ⟨List.Perm.refl _, r, rfl⟩
theorem addTx_all (w : World) (k : Str) (u : Tok) (D : SD) (r : Ris D.2.2.place.toList) : (rowsT (addTx (hashStr w k) (.str k u) D)).Perm (k :: rowsT D) ∧ Ris (addTx (hashStr w k) (.str k u) D).2.2.place.toList ∧ (addTx (hashStr w k) (.str k u) D).2.2.led = D.2.2.led := by
  obtain ⟨es, ep, t⟩ := D
  have p1 := layNew_perm t es (hashStr w k) (.str k u)
  rw [Array.toList_push] at p1
  have r1 := layNew_ris t es (hashStr w k) (.str k u) r
  have r2 := layNew_led t es (hashStr w k) (.str k u)
  have q : ∀ t2 : SetTable, Ris t2.place.toList → t2.led = t.led → ∀ d, (rowsT (tailTx ep (layNew t es (hashStr w k) (.str k u)).1 t2 d)).Perm (k :: es.toList.map fun e => strOf e.2) ∧ Ris (tailTx ep (layNew t es (hashStr w k) (.str k u)).1 t2 d).2.2.place.toList ∧
      (tailTx ep (layNew t es (hashStr w k) (.str k u)).1 t2 d).2.2.led = t.led := fun t2 a b d => by
    obtain ⟨z1, z2, z3⟩ := tail_rows ep (layNew t es (hashStr w k) (.str k u)).1 t2 d a
    exact ⟨(z1.trans (p1.trans (List.perm_append_singleton _ _))).map fun e : Int × Value => strOf e.2, z2, z3.trans b⟩
  unfold addTx
  refine q _ ?_ ?_ _
  · dsimp only
    split <;> exact r1
  · dsimp only
    split <;> exact r2
/-- a text that is there already -/
theorem dupT {k : Str} {u : Tok} {Q : Bool → Shared → Prop} {D : SD} (g : s.heap.get? a = some (sObj "set" D)) (F : TxOk P w D l) (hk : k ∈ l) (hb : l.length < scanBound) (q : Q false s) :
    wpAny (model P w) A (setAddHashed a (.str k u) (hashStr w k)) Q E s := by
  obtain ⟨rows, ep, tab⟩ := D
  have gd : (sObj "set" (rows, ep, tab)).data = .set rows ep tab := rfl
  have gf : tab.fits rows.size = true := F.fit
  have ge : ElemsOf (strKind P w) rows.toList := F.el
  have gs : rows.size < scanBound := by
    have z : rows.size = l.length := F.sz
    omega
  unfold setAddHashed setAddHashedIn
  refine wpAny_holding (wpAny_bind (wpAny_setState_of g gd gf ?_))
  dsimp only
  rw [byScan_of rfl gs ge]
  simp only [↓reduceIte]
  unfold setAddByScan
  refine wpAny_bind ?_
  refine wpAny_bind (wpAny_rule ?_)
  refine wpAny_bind (wpAny_setScan_of (is_str k u) g gd gf ge ?_)
  cases fi : List.findIdx? (fun e => (strKind P w).is k e.2) rows.toList with
  | some j => exact wpAny_pure (wpAny_pure q)
  | none =>
    obtain ⟨e, he, z⟩ := (F.mem k).mp hk
    have c := List.findIdx?_eq_none_iff.mp fi e he
    rw [z] at c
    cases c
/-- a text more -/
theorem addT {k : Str} {u : Tok} {Q : Bool → Shared → Prop} (R : SetT P w s.heap a l) (hb : l.length + 1 < scanBound)
    (q : ∀ (b : Bool) (h' : Heap), (∀ c o, c ≠ a → s.heap.get? c = some o → h'.get? c = some o) → SetT P w h' a (if k ∈ l then l else k :: l) → Q b { s with heap := h' }) :
    wpAny (model P w) A (setAddHashed a (.str k u) (hashStr w k)) Q E s := by
  obtain ⟨D, g, F, pm, nd, ri, ld⟩ := R
  by_cases hk : k ∈ l
  · refine dupT g F hk (by omega) ?_
    have z := q false s.heap (fun _ _ _ e => e) ⟨D, g, by rw [if_pos hk]; exact F, by rw [if_pos hk]; exact pm, by rw [if_pos hk]; exact nd, ri, ld⟩
    exact z
  · refine add_x g F hk hb (q true _ (fun c o n e => ?_) ?_)
    · exact (Heap.get?_update_other _ _ (Ne.symm n)).trans e
    · rw [if_neg hk]
      obtain ⟨a1, a2, a3⟩ := addTx_all w k u D ri
      exact ⟨_, get_upd _ g rfl, add_ok u F, a1.trans (List.Perm.cons k pm), List.nodup_cons.mpr ⟨hk, nd⟩, a2, ld.imp id fun z => a3.trans z⟩
theorem freshT (w : World) (g : h.get? a = some { cls := .type "set", dict := none, data := .set #[] 0 (.fresh 0 0 (!w.params.followText "set-order")) }) : SetT P w h a [] :=
  ⟨(#[], 0, .fresh 0 0 (!w.params.followText "set-order")), g, TxOk.nil rfl, List.Perm.refl _, List.nodup_nil, List.Pairwise.nil, by
    cases e : w.params.followText "set-order"
    · exact .inr rfl
    · exact .inl rfl⟩
/-- the loop that lays texts into a set -/
theorem loopT {I : Addr} {fp wr : List Addr} {G : Array GenState → Array GenState → Prop} {n : Nat} {Pv : Nat → Value → Prop} {St : Nat → Shared → Prop} {R : Result → Shared → Prop}
    (W : WalksS P w A.in1 I fp wr G n Pv St) (S : Addr) (nf : S ∉ fp) (xs : List Str) (hn : n = xs.length) (hb : xs.length + 1 < scanBound) (hv : ∀ i v, Pv i v → ∃ x t, xs[i]? = some x ∧ v = .str x t) :
    ∀ (k i : Nat) (s : Shared), n - i = k → i ≤ n → St i s → (∃ l, l.length ≤ i ∧ (∀ z, z ∈ l ↔ z ∈ xs.take i) ∧ SetT P w s.heap S l) →
      (∀ s' l, Moved (S :: wr) G s s' → l.length ≤ n → (∀ z, z ∈ l ↔ z ∈ xs) → SetT P w s'.heap S l → R (.ok (.ret .none)) s') →
      codeAny (model P w) A (.builtin "set.update.loop" ⟨[.ref S, .ref I], []⟩) R s := by
  have nw : S ∉ wr := fun z => nf (W.sub _ z)
  have up : ∀ c ∈ wr, c ∈ S :: wr := fun c z => List.mem_cons_of_mem _ z
  intro k
  induction k with
  | zero =>
    intro i s ek ei st ⟨l, c1, c2, c3⟩ fin
    have en : i = n := by omega
    subst en
    refine codeAny_builtin PyProof.Rows.F.entry_set_update_loop ?_
    rw [Around.under_plainId PyProof.Rows.F.plain_set_update_loop _]
    show wpAny _ A.in1 (pyNext (.ref I) >>= _) _ _ s
    refine wpAny_bind (W.done s _ _ st fun s' mv => ?_)
    show wpAny _ A.in1 (ret Value.none) _ _ s'
    have et : xs.take i = xs := List.take_of_length_le (by omega)
    rw [et] at c2
    exact wpAny_pure (fin s' l (mv.mono up) c1 c2 (c3.at fun o e => mv.heap S o nw e))
  | succ k ih =>
    intro i s ek ei st ⟨l, c1, c2, c3⟩ fin
    have lt : i < n := by omega
    refine codeAny_builtin PyProof.Rows.F.entry_set_update_loop ?_
    rw [Around.under_plainId PyProof.Rows.F.plain_set_update_loop _]
    show wpAny _ A.in1 (pyNext (.ref I) >>= _) _ _ s
    refine wpAny_bind (W.item i s _ _ lt st fun v s' pv st' mv => ?_)
    obtain ⟨x, t, ex, rfl⟩ := hv i v pv
    have c3' : SetT P w s'.heap S l := c3.at fun o e => mv.heap S o nw e
    show wpAny _ A.in1 (holding [Value.str x t] (setAdd S (.str x t)) >>= _) _ _ s'
    refine wpAny_bind (wpAny_holding ?_)
    unfold setAdd
    refine wpAny_holding ?_
    refine wpAny_bind ((strKind P w).pyHash (k := x) (is_str x t) ?_)
    refine addT (s := { s' with toks := s'.toks + 1 }) c3' (by omega) fun b h' kp new => ?_
    refine wpAny_pure ⟨plainId_quiet PyProof.Rows.F.plain_set_update_loop _, ih (i + 1) _ (by omega) lt (W.frame _ s' _ _ st' (Nat.le_succ _) fun c hc o e => ?_) ⟨_, ?_, ?_, new⟩ fun s2 l2 mv2 d1 d2 d3 => ?_⟩
    · exact kp c o (fun z => nf (by rw [← z]; exact hc)) e
    · split
      · omega
      · rw [List.length_cons]; omega
    · intro z
      rw [List.take_add_one, ex]
      split
      · rename_i hx
        rw [List.mem_append, c2 z]
        refine ⟨.inl, fun q => q.elim id fun q => ?_⟩
        have e : z = x := by simpa using q
        rw [e]
        exact (c2 x).mp hx
      · rw [List.mem_cons, List.mem_append, c2 z]
        simp [or_comm]
    · refine fin s2 l2 (Moved.trans W.gtrans ((mv.mono up).then_heap (Nat.le_succ _) fun c o hc e => ?_) mv2) d1 d2 d3
      exact kp c o (fun z => hc (by rw [z]; exact List.mem_cons_self)) e
/-- sorted(..) of such a set -/
theorem sortedSetT {xs : List Str} {Q : Value → Shared → Prop} (R : SetT P w s.heap a l) (hb : l.length < scanBound) (hh : A.handled = none) (hm : ∀ z, z ∈ l ↔ z ∈ xs)
    (q : ∀ s' p out c, (∀ b o, s.heap.get? b = some o → s'.heap.get? b = some o) → s'.gens = s.gens → s'.os = s.os → s.heap.objs.size ≤ p → s'.heap.get? p = some (seqObj "list" out c) → StrsAre out.toList (lotS xs) → out.size ≤ sizeLine → Q (.ref p) s') :
    wpAny (model P w) A (call (.builtin "sorted") [.ref a]) Q E s := by
  obtain ⟨⟨rows, ep, tab⟩, g, F, pm, nd, ri, ld⟩ := R
  have gs : rows.size = l.length := F.sz
  have gb : rows.size < scanBound := by rw [gs]; exact hb
  refine sortedT (x := .ref a) (xs := lotS xs) (fun s1 vs => (∀ b o, s.heap.get? b = some o → s1.heap.get? b = some o) ∧ s.heap.objs.size ≤ s1.heap.objs.size ∧ s1.gens = s.gens ∧ s1.os = s.os ∧ vs.Perm (rows.toList.map (·.2)))
    (fun Q' go => collect_set (A := A.in1) hh ⟨_, g, rfl, rfl⟩ F.fit gb ri ld fun s1 out k1 k2 k3 k4 k5 => go s1 out ⟨k1, k2, k3, k4, k5⟩) (fun s1 vs z => ?_) fun s1 vs out c h' z so ol kp hp => ?_
  · obtain ⟨_, _, _, _, pv⟩ := z
    have len : vs.length = l.length := by rw [pv.length_eq, List.length_map, Array.length_toList]; exact gs
    refine ⟨by rw [len, ← gs]; exact fits_of_scanBound gb, vs.map strOf, strsAre_map vs fun v hv => ?_, ?_⟩
    · obtain ⟨e, he, rfl⟩ := List.mem_map.mp (pv.mem_iff.mp hv)
      obtain ⟨⟨k, z1, _⟩, _⟩ := F.el e he
      obtain ⟨tk, z2⟩ := Value.isStrOf_shape (x := k) (v := e.2) z1
      exact ⟨k, tk, z2⟩
    · have p1 : (vs.map strOf).Perm l := by
        have z := pv.map strOf
        rw [List.map_map] at z
        exact z.trans pm
      have p2 : (srtS (vs.map strOf)).Perm l := srtS_perm.trans p1
      exact up_one (up_of (srtS_ord _) (p2.nodup_iff.mpr nd)) (lotS_up xs) fun z => by rw [p2.mem_iff, hm z, lotS_mem]
  · obtain ⟨k1, k2, k3, k4, pv⟩ := z
    have len : vs.length = l.length := by rw [pv.length_eq, List.length_map, Array.length_toList]; exact gs
    refine q _ _ out.toArray c (fun b o e => kp b o (k1 b o e)) k3 k4 k2 hp so ?_
    rw [List.size_toArray, ol, len, ← gs]
    exact fits_of_scanBound gb
end
end TX
set_option Elab.async false
set_option linter.all false
set_option maxRecDepth 100000
set_option maxHeartbeats 4000000
/-! set(x), x a list or a tuple of texts -/
namespace TX
open PySem PySem.Spec PyProof.Rows L2 PySem.Froz
section
variable {P : Program} {w : World} {A : Around} {E : Value → Shared → Prop} {s : Shared}
/-- the heap behind a new set -/
abbrev setH (w : World) (h : Heap) : Heap := h.push { cls := .type "set", dict := none, data := .set #[] 0 (.fresh 0 0 (!w.params.followText "set-order")) }
/-- what a new set of the texts xs is -/
def NewT (P : Program) (w : World) (h : Heap) (xs : List Str) (h' : Heap) : Prop := ∃ l, l.length ≤ xs.length ∧ (∀ z, z ∈ l ↔ z ∈ xs) ∧ SetT P w h' h.objs.size l ∧ ∀ b o, h.get? b = some o → h'.get? b = some o

theorem setFrom_l {q : Addr} {items : Array Value} (xs : List Str) {Q : Value → Shared → Prop} (hh : A.handled = none) (is : s.heap.IsList q items) (tx : StrsAre items.toList xs) (hb : xs.length + 1 < scanBound)
    (go : ∀ h' tk, NewT P w s.heap xs h' → Q (.ref s.heap.objs.size) { s with heap := h', toks := tk }) : wpAny (model P w) A (call (.type "set") [.ref q]) Q E s := by
  have sz : items.size = xs.length := by
    have z := StrsAre.length tx
    rw [Array.length_toList] at z
    exact z
  obtain ⟨c0, tl0, f1⟩ := PySem.F.called_set.mro
  have f2 := PySem.F.called_set.made
  have f3 := PySem.F.called_set.sub
  refine wpAny_call (codeAny_of_tree ?_)
  show wpAny _ _ (callAny (.type "set") _) _ _ _
  refine wpAny_pure ⟨Code.quiet_builtin _ (by decide +kernel), codeAny_builtin PySem.F.entry_type_call ?_⟩
  rw [Around.under_plain (weight_type_call_type "set" [.ref q] []) rfl]
  have f4 := PySem.F.called_set.notType
  have f5 := PySem.F.called_set.canCreate
  have f6 := PySem.F.typeCall_set_1 (.ref q)
  repeat (any_goals (first | assumption | wp_step))
  refine codeAny_mono (code_set_led1 (.ref q) (E := E) (Q₁ := fun u s1 => u = .ref s.heap.objs.size ∧ s1 = { s with heap := setH w s.heap }) ⟨rfl, rfl⟩) fun r s1 er => ?_
  cases r with
  | error e => exact er
  | ok fl =>
    cases fl with
    | ret u =>
      obtain ⟨rfl, rfl⟩ := er
      have g0 : (setH w s.heap).get? s.heap.objs.size = some { cls := .type "set", dict := none, data := .set #[] 0 (.fresh 0 0 (!w.params.followText "set-order")) } := Heap.get?_push_size _ rfl
      have g1 : Shared.TypeIs { s with heap := setH w s.heap } (.ref s.heap.objs.size) "set" := ⟨_, g0, rfl⟩
      have f7 := PySem.F.called_set.init.lookup
      have f8 := PySem.F.called_set.init.bind (.ref s.heap.objs.size)
      repeat (any_goals (first | assumption | wp_step))
      refine codeAny_mono (codeAny_call_builtin (R := wants (fun r s2 => r = .none ∧ ∃ h' tk, s2 = { s with heap := h', toks := tk } ∧ NewT P w s.heap xs h') E) PySem.F.called_set.init.plain PySem.F.entry_set_init (check_set_init_1 g1 ?_)) fun r2 s2 er2 => ?_
      · obtain ⟨ob, e1, e2, m, e3⟩ := is
        obtain ⟨o1, o2, o3, o4⟩ := ob
        simp only at e2 e3
        subst e2; subst e3
        have g2 : (setH w s.heap).get? q = some { cls := .type "list", dict := o2, data := .seq items m, slots := o4 } := Heap.get?_push_of_some _ e1
        have f9 := PySem.F.sub_list_set
        have f10 := PySem.F.sub_list_frozenset
        have f11 : (Value.type "list" == Value.type "dict") = false := by decide
        have g3 : (setH w s.heap).IsList q items := ⟨_, g2, rfl, m, rfl⟩
        unfold Builtin.«set.__init__» noKeywords Builtin.Frozenset.updateFrom
        generalize hPI : pyIter = PI
        wp_walk
        subst hPI
        refine wpAny_pyIter_list g3 ?_
        refine wpAny_bind (wpAny_runValue ?_)
        have lq : q < s.heap.objs.size := Heap.lt_size e1
        have hh3 : A.in1.in1.in1.handled = none := by simp [hh]
        have n1 : (setH w s.heap).objs.size = s.heap.objs.size + 1 := Heap.size_push ..
        have n2 : q ≠ (setH w s.heap).objs.size := by rw [n1]; exact Nat.ne_of_lt (Nat.lt_succ_of_lt lq)
        have n3 : s.heap.objs.size ∉ [(setH w s.heap).objs.size, q] := by
          rw [n1]
          simp only [List.mem_cons, List.mem_singleton, List.not_mem_nil, or_false, not_or]
          exact ⟨Nat.ne_of_lt (Nat.lt_succ_self _), Nat.ne_of_gt lq⟩
        have n4 : ∀ (i : Nat) (v : Value), items[i]? = some v → ∃ x t, xs[i]? = some x ∧ v = .str x t := fun i v hv => by
          have hi : i < xs.length := by rw [← sz]; exact (Array.getElem?_eq_some_iff.mp hv).1
          obtain ⟨t, e⟩ := SS.strs_at tx i v (by rw [Array.getElem?_toList]; exact hv)
          refine ⟨xs[i], t, List.getElem?_eq_getElem hi, ?_⟩
          rw [e, List.getD_eq_getElem?_getD, List.getElem?_eq_getElem hi] <;> rfl
        refine loopT ((Walks.list hh3 _ q n2 items).toS) s.heap.objs.size n3 xs sz hb n4 (items.size - 0) 0 _ (by omega) (Nat.zero_le _)
          ⟨⟨_, Heap.get?_push_size _ rfl, rfl, rfl⟩, (g3.push _)⟩ ⟨[], Nat.le_refl 0, by simp, freshT w (Heap.get?_push_of_some _ g0)⟩ fun s' l mv d1 d2 d3 => ?_
        obtain ⟨h', g', d', tk', os'⟩ := s'
        have eg : g' = s.gens := mv.gens
        have ed : d' = s.drawn := mv.drawn
        have eo : os' = s.os := mv.os
        subst eg; subst ed; subst eo
        show wpAny _ _ _ _ _ _
        refine wpAny_pure ?_
        show wpAny _ _ (ret Value.none) _ _ _
        rw [sz] at d1
        refine wpAny_pure ⟨rfl, h', tk', rfl, l, d1, d2, d3, fun b o e => ?_⟩
        have hb0 : b < s.heap.objs.size := Heap.lt_size e
        have hb1 : b ≠ s.heap.objs.size := Nat.ne_of_lt hb0
        have hb2 : b ≠ (setH w s.heap).objs.size := by rw [n1]; exact Nat.ne_of_lt (Nat.lt_succ_of_lt hb0)
        exact mv.heap b o (by simp only [List.mem_cons, List.mem_singleton, List.not_mem_nil, or_false, not_or]; exact ⟨hb1, hb2⟩) (Heap.get?_push_of_some _ (Heap.get?_push_of_some _ e))
      · cases r2 with
        | error e => exact er2
        | ok fl2 =>
          cases fl2 with
          | ret r =>
            obtain ⟨rfl, h', tk, rfl, nt⟩ := er2
            repeat (any_goals (first | assumption | wp_step))
            exact go _ _ nt
          | _ => exact er2.elim
    | _ => exact er.elim

theorem setFrom_t {q : Addr} {items : Array Value} (xs : List Str) {Q : Value → Shared → Prop} (hh : A.handled = none) (is : s.heap.IsTuple q items) (tx : StrsAre items.toList xs) (hb : xs.length + 1 < scanBound)
    (go : ∀ h' tk, NewT P w s.heap xs h' → Q (.ref s.heap.objs.size) { s with heap := h', toks := tk }) : wpAny (model P w) A (call (.type "set") [.ref q]) Q E s := by
  have sz : items.size = xs.length := by
    have z := StrsAre.length tx
    rw [Array.length_toList] at z
    exact z
  obtain ⟨c0, tl0, f1⟩ := PySem.F.called_set.mro
  have f2 := PySem.F.called_set.made
  have f3 := PySem.F.called_set.sub
  refine wpAny_call (codeAny_of_tree ?_)
  show wpAny _ _ (callAny (.type "set") _) _ _ _
  refine wpAny_pure ⟨Code.quiet_builtin _ (by decide +kernel), codeAny_builtin PySem.F.entry_type_call ?_⟩
  rw [Around.under_plain (weight_type_call_type "set" [.ref q] []) rfl]
  have f4 := PySem.F.called_set.notType
  have f5 := PySem.F.called_set.canCreate
  have f6 := PySem.F.typeCall_set_1 (.ref q)
  repeat (any_goals (first | assumption | wp_step))
  refine codeAny_mono (code_set_led1 (.ref q) (E := E) (Q₁ := fun u s1 => u = .ref s.heap.objs.size ∧ s1 = { s with heap := setH w s.heap }) ⟨rfl, rfl⟩) fun r s1 er => ?_
  cases r with
  | error e => exact er
  | ok fl =>
    cases fl with
    | ret u =>
      obtain ⟨rfl, rfl⟩ := er
      have g0 : (setH w s.heap).get? s.heap.objs.size = some { cls := .type "set", dict := none, data := .set #[] 0 (.fresh 0 0 (!w.params.followText "set-order")) } := Heap.get?_push_size _ rfl
      have g1 : Shared.TypeIs { s with heap := setH w s.heap } (.ref s.heap.objs.size) "set" := ⟨_, g0, rfl⟩
      have f7 := PySem.F.called_set.init.lookup
      have f8 := PySem.F.called_set.init.bind (.ref s.heap.objs.size)
      repeat (any_goals (first | assumption | wp_step))
      refine codeAny_mono (codeAny_call_builtin (R := wants (fun r s2 => r = .none ∧ ∃ h' tk, s2 = { s with heap := h', toks := tk } ∧ NewT P w s.heap xs h') E) PySem.F.called_set.init.plain PySem.F.entry_set_init (check_set_init_1 g1 ?_)) fun r2 s2 er2 => ?_
      · obtain ⟨ob, e1, e2, m, e3⟩ := is
        obtain ⟨o1, o2, o3, o4⟩ := ob
        simp only at e2 e3
        subst e2; subst e3
        have g2 : (setH w s.heap).get? q = some { cls := .type "tuple", dict := o2, data := .seq items m, slots := o4 } := Heap.get?_push_of_some _ e1
        have f9 := PySem.F.sub_tuple_set
        have f10 := PySem.F.sub_tuple_frozenset
        have f11 : (Value.type "tuple" == Value.type "dict") = false := by decide
        have g3 : (setH w s.heap).IsTuple q items := ⟨_, g2, rfl, m, rfl⟩
        unfold Builtin.«set.__init__» noKeywords Builtin.Frozenset.updateFrom
        generalize hPI : pyIter = PI
        wp_walk
        subst hPI
        refine wpAny_pyIter_tuple g3 ?_
        refine wpAny_bind (wpAny_runValue ?_)
        have lq : q < s.heap.objs.size := Heap.lt_size e1
        have hh3 : A.in1.in1.in1.handled = none := by simp [hh]
        have n1 : (setH w s.heap).objs.size = s.heap.objs.size + 1 := Heap.size_push ..
        have n2 : q ≠ (setH w s.heap).objs.size := by rw [n1]; exact Nat.ne_of_lt (Nat.lt_succ_of_lt lq)
        have n3 : s.heap.objs.size ∉ [(setH w s.heap).objs.size, q] := by
          rw [n1]
          simp only [List.mem_cons, List.mem_singleton, List.not_mem_nil, or_false, not_or]
          exact ⟨Nat.ne_of_lt (Nat.lt_succ_self _), Nat.ne_of_gt lq⟩
        have n4 : ∀ (i : Nat) (v : Value), items[i]? = some v → ∃ x t, xs[i]? = some x ∧ v = .str x t := fun i v hv => by
          have hi : i < xs.length := by rw [← sz]; exact (Array.getElem?_eq_some_iff.mp hv).1
          obtain ⟨t, e⟩ := SS.strs_at tx i v (by rw [Array.getElem?_toList]; exact hv)
          refine ⟨xs[i], t, List.getElem?_eq_getElem hi, ?_⟩
          rw [e, List.getD_eq_getElem?_getD, List.getElem?_eq_getElem hi] <;> rfl
        refine loopT ((Walks.tuple hh3 _ q n2 items).toS) s.heap.objs.size n3 xs sz hb n4 (items.size - 0) 0 _ (by omega) (Nat.zero_le _)
          ⟨⟨_, Heap.get?_push_size _ rfl, rfl, rfl⟩, (g3.push _)⟩ ⟨[], Nat.le_refl 0, by simp, freshT w (Heap.get?_push_of_some _ g0)⟩ fun s' l mv d1 d2 d3 => ?_
        obtain ⟨h', g', d', tk', os'⟩ := s'
        have eg : g' = s.gens := mv.gens
        have ed : d' = s.drawn := mv.drawn
        have eo : os' = s.os := mv.os
        subst eg; subst ed; subst eo
        show wpAny _ _ _ _ _ _
        refine wpAny_pure ?_
        show wpAny _ _ (ret Value.none) _ _ _
        rw [sz] at d1
        refine wpAny_pure ⟨rfl, h', tk', rfl, l, d1, d2, d3, fun b o e => ?_⟩
        have hb0 : b < s.heap.objs.size := Heap.lt_size e
        have hb1 : b ≠ s.heap.objs.size := Nat.ne_of_lt hb0
        have hb2 : b ≠ (setH w s.heap).objs.size := by rw [n1]; exact Nat.ne_of_lt (Nat.lt_succ_of_lt hb0)
        exact mv.heap b o (by simp only [List.mem_cons, List.mem_singleton, List.not_mem_nil, or_false, not_or]; exact ⟨hb1, hb2⟩) (Heap.get?_push_of_some _ (Heap.get?_push_of_some _ e))
      · cases r2 with
        | error e => exact er2
        | ok fl2 =>
          cases fl2 with
          | ret r =>
            obtain ⟨rfl, h', tk, rfl, nt⟩ := er2
            repeat (any_goals (first | assumption | wp_step))
            exact go _ _ nt
          | _ => exact er2.elim
    | _ => exact er.elim
end
end TX
set_option Elab.async false
set_option linter.all false
set_option maxRecDepth 100000
set_option maxHeartbeats 2000000
/-! sorted(set(x)), sorted(x) of texts, as rules over data -/
namespace TX
open PySem PySem.Spec PyProof.Rows L2 DL
/-- the set of the texts xs at a -/
def SetHO (P : Program) (w : World) (a : Addr) (xs : List Str) : HO := .ext fun h => ∃ l, l.length < scanBound ∧ (∀ z, z ∈ l ↔ z ∈ xs) ∧ SetT P w h a l
def rSetT (X : Cx) : List V → Hp → VK → Prop := fun vs H Q => ∃ (q : Addr) (xs : List Str), vs = [V.ref q] ∧ (SqL X.K H q (xs.map V.str) ∨ SqT X.K H q (xs.map V.str)) ∧ xs.length + 1 < scanBound ∧ ∀ p, H p = none → Q (.ref p) (upd H p (SetHO X.prog X.w p xs))
def rSortSetT (X : Cx) : List V → Hp → VK → Prop := fun vs H Q => ∃ (a : Addr) (xs : List Str), vs = [V.ref a] ∧ H a = some (SetHO X.prog X.w a xs) ∧ ∀ p, H p = none → Q (.ref p) (upd H p (.lst ((lotS xs).map V.str)))
def rSortT (X : Cx) : List V → Hp → VK → Prop := fun vs H Q => ∃ (a : Addr) (xs : List Str), vs = [V.ref a] ∧ SqL X.K H a (xs.map V.str) ∧ ∀ p, H p = none → Q (.ref p) (upd H p (.lst ((srtS xs).map V.str)))
section
variable {X : Cx}
theorem cr_setT (hc : X.calm = true) : CallR X (.type "set") (rSetT X) := by
  intro pins s σ H vs us Q I r h
  obtain ⟨q, xs, rfl, hs, hb, go⟩ := h
  rw [Vals.ref1 r]
  have fin : ∀ h' tk, NewT X.prog X.w s.heap xs h' → EP X pins σ Q (.ref s.heap.objs.size) { s with heap := h', toks := tk } := fun h' tk nt => by
    obtain ⟨l, d1, d2, d3, d4⟩ := nt
    have ob : ObjOk X.prog X.w (upd H s.heap.objs.size (SetHO X.prog X.w s.heap.objs.size xs)) h' s.heap.objs.size (SetHO X.prog X.w s.heap.objs.size xs) := by
      refine ⟨⟨l, by omega, d2, d3⟩, ?_, fun h1 h2 z k => ?_⟩
      · obtain ⟨D, g, _⟩ := d3
        exact ⟨_, g⟩
      · obtain ⟨l', e1, e2, e3⟩ := z
        exact ⟨l', e1, e2, e3.at k⟩
    exact ⟨.ref s.heap.objs.size, _, I.laid (t' := tk) d4 (Nat.le_refl _) ob, rfl, go _ (I.hok.fresh (Nat.le_refl _))⟩
  rcases hs with hs | hs
  · obtain ⟨its, rv, pl, _⟩ := I.list hs
    exact setFrom_l xs (I.ok.hd hc) pl.isList (by simpa using rv.strs) hb fin
  · obtain ⟨its, rv, pl, _⟩ := I.tuple hs
    exact setFrom_t xs (I.ok.hd hc) pl (by simpa using rv.strs) hb fin
theorem cr_sortSetT (hc : X.calm = true) : CallR X (.builtin "sorted") (rSortSetT X) := by
  intro pins s σ H vs us Q I r h
  obtain ⟨a, xs, rfl, ha, go⟩ := h
  rw [Vals.ref1 r]
  obtain ⟨⟨l, d1, d2, d3⟩, _, _⟩ := I.hok a _ ha
  refine sortedSetT d3 d1 (I.ok.hd hc) d2 fun s' p out c kp eg eo hp hg so sz => ?_
  have hn : H p = none := I.hok.fresh hp
  have ln : ((lotS xs).map V.str).length ≤ sizeLine := by
    rw [List.length_map, ← so.length, Array.length_toList]
    exact sz
  have J : Inv X pins σ (upd H p (.lst ((lotS xs).map V.str))) { s with heap := s'.heap, gens := s'.gens, drawn := s'.drawn, toks := s'.toks } :=
    I.call (ch := []) (Un.laid kp hp hn) (I.hok.laid kp hp ⟨ln, out.toList, c, vals_of_strs so, hg⟩) (by rw [eg]; exact I.bare) (fun _ z => nomatch z)
  have e : s' = { s with heap := s'.heap, gens := s'.gens, drawn := s'.drawn, toks := s'.toks } := by
    cases s'; cases s; cases eo; rfl
  rw [e]
  exact ⟨.ref p, _, J, rfl, go p hn⟩
theorem cr_sortT : CallR X (.builtin "sorted") (rSortT X) := by
  intro pins s σ H vs us Q I r h
  obtain ⟨a, xs, rfl, hs, go⟩ := h
  obtain ⟨its, rv, hl, hz⟩ := I.list hs
  rw [Vals.ref1 r]
  have st := rv.strs
  refine SrtO.sorted_ord swoT hl.isList (by rw [← rv.length]; exact hz) (fun h2 h₁ a' _ _ => ableT st h2) fun out h1 h2 => ?_
  have so := outT st h1 h2
  obtain ⟨c, hg⟩ := PyProof.Rows.sortedAll_at s.heap its out.toArray
  have ln : ((srtS xs).map V.str).length ≤ sizeLine := by
    rw [List.length_map, srtS_perm.length_eq]
    rw [List.length_map] at hz
    exact hz
  exact ⟨.ref _, upd H (s.heap.objs.size + 1) (.lst ((srtS xs).map V.str)), I.laid (t' := s.toks) (fun _ _ => PyProof.Rows.sortedAll_old) (Nat.le_succ _) ⟨ln, out, c, vals_of_strs so, hg⟩, rfl, go _ (I.hok.fresh (Nat.le_succ _))⟩
end
/-- the texts of a list or a tuple -/
inductive Txs : D → List Str → Prop where
  | l (xs : List Str) : Txs (.lst (xs.map .str)) xs
  | t (xs : List Str) : Txs (.tup (xs.map .str)) xs
  | f (xs : List Str) : Txs (.fls (xs.map .str)) xs
theorem repL_strs {K : PySem.W.Frag} {mg : Str → Option Value} {W : AS} {H : Hp} : ∀ {xs : List Str} {vs : List V}, RepL K mg W H (xs.map D.str) vs → vs = xs.map V.str
  | [], vs, h => h
  | b :: bs, vs, h => by
    obtain ⟨x, r, rfl, h1, h2⟩ := h
    rw [show x = .str b from h1, repL_strs h2]; rfl
theorem strs_rep {K : PySem.W.Frag} {mg : Str → Option Value} {W : AS} {H : Hp} : ∀ (xs : List Str), RepL K mg W H (xs.map D.str) (xs.map V.str)
  | [] => rfl
  | b :: bs => ⟨_, _, rfl, rfl, strs_rep bs⟩
theorem txs_rep {K : PySem.W.Frag} {mg : Str → Option Value} {W : AS} {H : Hp} {d : D} {xs : List Str} {v : V} (t : Txs d xs) (r : Rep K mg W H d v) : ∃ q, v = .ref q ∧ (SqL K H q (xs.map V.str) ∨ SqT K H q (xs.map V.str)) := by
  cases t with
  | l =>
    obtain ⟨q, ys, e, sq, rl⟩ := RepL.sql r
    exact ⟨q, e, .inl (by rw [← repL_strs rl]; exact sq)⟩
  | t =>
    obtain ⟨q, ys, e, sq, rl⟩ := RepL.sqt r
    exact ⟨q, e, .inr (by rw [← repL_strs rl]; exact sq)⟩
  | f =>
    obtain ⟨q, ys, e, sq, rl⟩ := RepL.sqf r
    exact ⟨q, e, .inl (by rw [← repL_strs rl]; exact sq)⟩
section
variable {G : Gg} {X : Cx} {ρ : Rho} {k : KD} {kx : KX} {pos : Pos}
theorem ej_lot {a : Expr} {p p2 p3 : Pos} (hK : X.K = G.K) (hc : X.calm = true) (hg : Gl X "sorted") (hm : X.mg "sorted" = none) (hg2 : Gl X "set") (hm2 : X.mg "set" = none)
    (e1 : starEach [.Call (.Name "set" p2) [a] [] p3] X.env = (false, eval (.Call (.Name "set" p2) [a] [] p3) X.env) :: starEach [] X.env) (e2 : (backTo pos (starEach [] X.env)).any (·.1) = false)
    (e3 : starEach [a] X.env = (false, eval a X.env) :: starEach [] X.env) (e4 : (backTo p3 (starEach [] X.env)).any (·.1) = false)
    (h : EJ G X a ρ (fun d ρ1 => ∃ xs, Txs d xs ∧ xs.length + 1 < scanBound ∧ k (.lst ((lotS xs).map .str)) ρ1) kx) :
    EJ G X (.Call (.Name "sorted" p) [.Call (.Name "set" p2) [a] [] p3] [] pos) ρ k kx := by
  intro P W σ H A Q Wx tk n xp
  refine toE (pe_callB (cr_sortSetT hc) hg hm boot_sorted (pa_cons (pe_callTy (cr_setT hc) hg2 hm2 boot_set (pa_cons sE_pe pa_nil e3) (by decide) (by decide) e3 e4) pa_nil e1) (by decide) (by decide) e1 e2) ?_
  refine h P W σ H A _ Wx tk (fun d ρ1 v H1 hh A1 L1 r1 => ?_) xp
  obtain ⟨xs, t, hb, hk⟩ := hh
  obtain ⟨q, rfl, sq⟩ := txs_rep t r1
  refine ⟨q, xs, rfl, by rw [hK]; exact sq, hb, fun p hp => ?_⟩
  refine ⟨p, xs, rfl, upd_same, fun p' hp' => ?_⟩
  exact n _ ρ1 _ _ hk ((A1.new hp).new hp') ((L1.trans (Lx.new hp)).trans (Lx.new hp')) ⟨p', _, rfl, ⟨upd_same, (A1.new hp).nw hp'⟩, strs_rep _⟩
theorem ej_sorted {a : Expr} {p : Pos} (hK : X.K = G.K) (hg : Gl X "sorted") (hm : X.mg "sorted" = none)
    (e3 : starEach [a] X.env = (false, eval a X.env) :: starEach [] X.env) (e4 : (backTo pos (starEach [] X.env)).any (·.1) = false)
    (h : EJ G X a ρ (fun d ρ1 => ∃ xs, (d = .lst (xs.map .str) ∨ d = .fls (xs.map .str)) ∧ k (.lst ((srtS xs).map .str)) ρ1) kx) :
    EJ G X (.Call (.Name "sorted" p) [a] [] pos) ρ k kx := by
  intro P W σ H A Q Wx tk n xp
  refine toE (pe_callB cr_sortT hg hm boot_sorted (pa_cons sE_pe pa_nil e3) (by decide) (by decide) e3 e4) ?_
  refine h P W σ H A _ Wx tk (fun d ρ1 v H1 hh A1 L1 r1 => ?_) xp
  obtain ⟨xs, t, hk⟩ := hh
  obtain ⟨q, rfl, sq⟩ : ∃ q, v = .ref q ∧ SqL G.K H1 q (xs.map V.str) := by
    rcases t with rfl | rfl
    · obtain ⟨q, ys, e, sq, rl⟩ := RepL.sql r1
      exact ⟨q, e, by rw [← repL_strs rl]; exact sq⟩
    · obtain ⟨q, ys, e, sq, rl⟩ := RepL.sqf r1
      exact ⟨q, e, by rw [← repL_strs rl]; exact sq⟩
  refine ⟨q, xs, rfl, by rw [hK]; exact sq, fun p hp => ?_⟩
  exact n _ ρ1 _ _ hk (A1.new hp) (L1.trans (Lx.new hp)) ⟨p, _, rfl, ⟨upd_same, A1.nw hp⟩, strs_rep _⟩
end
end TX
set_option Elab.async false
set_option linter.all false
set_option maxRecDepth 100000
set_option maxHeartbeats 2000000
/-! parts of texts, tuples, lists; f-strings; methods of texts, as rules over data -/
namespace TX
open PySem PySem.Spec PyProof.Rows L2 DL
/-! ### parts -/
def dSl : D → Option Int → Option Int → (D → Prop) → Prop
  | .lst l, lo, hi, k => k (.lst (cutD l lo hi))
  | .fls l, lo, hi, k => k (.lst (cutD l lo hi))
  | .tup l, lo, hi, k => k (.tup (cutD l lo hi))
  | .str x, lo, hi, k => x.length ≤ sizeLine ∧ k (.str (L2.cutS x lo hi))
  | _, _, _, _ => False
def tO (X : Cx) : Option Expr → TO
  | none => tNoPart
  | some e => tPart (sE X e)
theorem po_all {X : Cx} : ∀ e : Option Expr, PO X e (tO X e)
  | none => po_none
  | some _ => po_some sE_pe
/-- an expression that may be left out -/
def OJ (G : Gg) (X : Cx) (e : Option Expr) (ρ : Rho) (k : Option Int → Rho → Prop) (kx : KX) : Prop := match e with
  | none => k none ρ
  | some e => EJ G X e ρ (fun y ρ1 => ∃ j, y = .int j ∧ k (some j) ρ1) kx
section
variable {G : Gg} {X : Cx} {ρ : Rho} {k : KD} {kx : KX} {pos : Pos}
theorem oj_run {e : Option Expr} {P : Fp} {W : AS} {σ : L2.St} {H : Hp} {Wx : WX} {kk : Option Int → Rho → Prop} {Q : Option Int → Hp → Prop} (A : Ag G P W ρ σ H) (tk : Takes X Wx) (xp : XP G P W ρ σ H kx Wx) (h : OJ G X e ρ kk kx)
    (q : ∀ o ρ1 H1, kk o ρ1 → Ag G P W ρ1 σ H1 → Lx W ρ σ H ρ1 H1 → Q o H1) : tO X e σ H Q := by
  cases e with
  | none => exact q none ρ H h A Lx.refl
  | some e =>
    show sE X e σ H fun x H1 => ∃ i, x = .int i ∧ Q (some i) H1
    refine h P W σ H A _ Wx tk (fun y ρ1 v H1 hh A1 L1 r1 => ?_) xp
    obtain ⟨j, rfl, hk⟩ := hh
    exact ⟨j, r1, q _ _ _ hk A1 L1⟩
theorem cut_whole {l : List D} {lo hi : Option Int} {n : Nat} (e : l.length = n) (h : HT.sIx n 0 lo = 0 ∧ HT.sIx n n hi = n) : cutD l lo hi = l := by
  unfold DL.cutD
  dsimp only
  rw [e, h.1, h.2, List.drop_zero, Nat.sub_zero, ← e, List.take_length]
theorem ej_sl {a : Expr} {lo hi : Option Expr} {p2 : Pos} (hK : X.K = G.K) (h : EJ G X a ρ (fun x ρ1 => OJ G X lo ρ1 (fun i ρ2 => OJ G X hi ρ2 (fun j ρ3 => dSl x i j fun z => k z ρ3) kx) kx) kx) :
    EJ G X (.Subscript a (.Slice lo hi none p2) pos) ρ k kx := by
  intro P W σ H A Q Wx tk n xp
  refine toE (pe_slice (SlR.or sl_list (SlR.or sl_tupA sl_str)) sE_pe (po_all lo) (po_all hi)) ?_
  refine h P W σ H A _ Wx tk (fun x ρ1 v H1 h1 A1 L1 r1 => ?_) xp
  refine oj_run A1 tk (xp.le L1) h1 fun i ρ2 H2 h2 A2 L2 => ?_
  refine oj_run A2 tk ((xp.le L1).le L2) h2 fun j ρ3 H3 h3 A3 L3 => ?_
  have LL := (L1.trans L2).trans L3
  have r3 := Rep.le (L2.trans L3).le x v r1
  have h3 : dSl x i j fun z => k z ρ3 := h3
  unfold dSl at h3
  split at h3
  · obtain ⟨q, xs, rfl, sq, rl⟩ := RepL.sql r3
    exact .inl ⟨q, xs, rfl, by rw [hK]; exact sq, fun p hp => n _ ρ3 _ _ h3 (A3.new hp) (LL.trans (Lx.new hp)) ⟨p, _, rfl, ⟨upd_same, A3.nw hp⟩, RepL.le (Le.new1 hp) _ _ (rl.cut _ _)⟩⟩
  · obtain ⟨q, xs, rfl, sq, rl⟩ := RepL.sqf r3
    exact .inl ⟨q, xs, rfl, by rw [hK]; exact sq, fun p hp => n _ ρ3 _ _ h3 (A3.new hp) (LL.trans (Lx.new hp)) ⟨p, _, rfl, ⟨upd_same, A3.nw hp⟩, RepL.le (Le.new1 hp) _ _ (rl.cut _ _)⟩⟩
  · rename_i l _ _ _
    have r4 := r3
    obtain ⟨q, xs, rfl, sq, rl⟩ := RepL.sqt r3
    refine .inr (.inl ⟨q, xs, rfl, by rw [hK]; exact sq, fun w => ?_, fun w p hp => ?_⟩)
    · rw [cut_whole rl.length w] at h3
      exact n _ ρ3 _ _ h3 A3 LL r4
    · exact n _ ρ3 _ _ h3 (A3.new hp) (LL.trans (Lx.new hp)) ⟨p, _, rfl, .inl ⟨.inl upd_same, A3.nw hp⟩, RepL.le (Le.new1 hp) _ _ (rl.cut _ _)⟩
  · exact .inr (.inr ⟨_, r3, h3.1, n _ ρ3 _ _ h3.2 A3 LL rfl⟩)
  · exact h3.elim
/-! ### f-strings -/
def dFmt : D → (D → Prop) → Prop
  | .str y, k => y.length ≤ sizeLine ∧ k (.str y)
  | .int i, k => i.natAbs.log2 < 1920 ∧ k (.str (toString i))
  | _, _ => False
theorem ej_fmt {e : Expr} (h : EJ G X e ρ (fun x ρ1 => dFmt x fun z => k z ρ1) kx) : EJ G X (.FormattedValue e (-1) none pos) ρ k kx := by
  intro P W σ H A Q Wx tk n xp
  refine toE (pe_fmt sE_pe) (h P W σ H A _ Wx tk (fun x ρ1 v H1 h1 A1 L1 r1 => ?_) xp)
  have h1 : dFmt x fun z => k z ρ1 := h1
  unfold dFmt at h1
  split at h1
  · exact .inl ⟨_, r1, h1.1, n _ ρ1 _ _ h1.2 A1 L1 rfl⟩
  · exact .inr ⟨_, r1, h1.1, n _ ρ1 _ _ h1.2 A1 L1 rfl⟩
  · exact h1.elim
/-- the parts of an f-string, one behind the other -/
def JJ (G : Gg) (X : Cx) (kx : KX) : List Expr → Str → Rho → (Str → Rho → Prop) → Prop
  | [], acc, ρ, k => k acc ρ
  | e :: r, acc, ρ, k => EJ G X e ρ (fun x ρ1 => ∃ y, x = .str y ∧ (acc ++ y).length ≤ sizeLine ∧ JJ G X kx r (acc ++ y) ρ1 k) kx
def tsE (X : Cx) : List Expr → List TE
  | [] => []
  | e :: r => sE X e :: tsE X r
theorem pj_all {X : Cx} : ∀ es : List Expr, PJ X es (tsE X es)
  | [] => .nil
  | _ :: r => .cons sE_pe (pj_all r)
theorem jj_run {P : Fp} {W : AS} {σ : L2.St} {Wx : WX} (tk : Takes X Wx) {kk : Str → Rho → Prop} {Q : Str → Hp → Prop} : ∀ (es : List Expr) (acc : Str) (ρ : Rho) (H : Hp), Ag G P W ρ σ H → XP G P W ρ σ H kx Wx → JJ G X kx es acc ρ kk →
    (∀ out ρ1 H1, kk out ρ1 → Ag G P W ρ1 σ H1 → Lx W ρ σ H ρ1 H1 → Q out H1) → tJs (tsE X es) acc σ H Q
  | [], acc, ρ, H, A, _, h, q => q acc ρ H h A Lx.refl
  | e :: r, acc, ρ, H, A, xp, h, q => by
    show sE X e σ H fun x H1 => ∃ y : Str, x = .str y ∧ (acc ++ y).length ≤ sizeLine ∧ tJs (tsE X r) (acc ++ y) σ H1 Q
    refine h P W σ H A _ Wx tk (fun x ρ1 v H1 h1 A1 L1 r1 => ?_) xp
    obtain ⟨y, rfl, hl, h2⟩ := h1
    exact ⟨y, r1, hl, jj_run tk r (acc ++ y) ρ1 H1 A1 (xp.le L1) h2 fun out ρ2 H2 hk A2 L2 => q out ρ2 H2 hk A2 (L1.trans L2)⟩
theorem ej_js {v1 v2 : Expr} {rest : List Expr} (h : JJ G X kx (v1 :: v2 :: rest) Str.empty ρ fun out ρ1 => k (.str out) ρ1) : EJ G X (.JoinedStr (v1 :: v2 :: rest) pos) ρ k kx := by
  intro P W σ H A Q Wx tk n xp
  refine toE (pe_joined (pj_all (v1 :: v2 :: rest))) ?_
  exact jj_run tk _ _ ρ H A xp h fun out ρ1 H1 hk A1 L1 => n _ ρ1 _ _ hk A1 L1 rfl
theorem ej_js1 {e : Expr} (h : EJ G X e ρ k kx) : EJ G X (.JoinedStr [e] pos) ρ k kx := fun P W σ H A Q Wx tk n xp => toE (pe_joined1 sE_pe) (h P W σ H A Q Wx tk n xp)
/-! ### methods of texts -/
theorem two_st {a b : Expr} {P : Fp} {W : AS} {σ : L2.St} {H : Hp} {Wx : WX} {kk : Str → Str → Rho → Prop} {Q : V → V → Hp → Prop} (A : Ag G P W ρ σ H) (tk : Takes X Wx) (xp : XP G P W ρ σ H kx Wx)
    (h : EJ G X a ρ (fun x ρ1 => ∃ s, x = .str s ∧ EJ G X b ρ1 (fun y ρ2 => ∃ t, y = .str t ∧ kk s t ρ2) kx) kx) (q : ∀ s t ρ2 H2, kk s t ρ2 → Ag G P W ρ2 σ H2 → Lx W ρ σ H ρ2 H2 → Q (.str s) (.str t) H2) :
    sE X a σ H fun x H1 => (∃ s, x = .str s) ∧ sE X b σ H1 fun y H2 => Q x y H2 := by
  refine h P W σ H A _ Wx tk (fun x ρ1 v H1 h1 A1 L1 r1 => ?_) xp
  obtain ⟨s, rfl, h2⟩ := h1
  cases (show v = .str s from r1)
  refine ⟨⟨s, rfl⟩, h2 P W σ H1 A1 _ Wx tk (fun y ρ2 w H2 h3 A2 L2 r2 => ?_) (xp.le L1)⟩
  obtain ⟨t, rfl, hk⟩ := h3
  cases (show w = .str t from r2)
  exact q s t ρ2 H2 hk A2 (L1.trans L2)
theorem ej_starts {x : Str} {p ap : Pos} {e : Expr} (hs : starEach [e] X.env = [(false, eval e X.env)]) (hl : (ap.endLine == pos.line) = true)
    (h : EJ G X (.Name x p) ρ (fun d ρ1 => ∃ s, d = .str s ∧ EJ G X e ρ1 (fun y ρ2 => ∃ t, y = .str t ∧ k (.bl (Txt.startswith s t)) ρ2) kx) kx) : EJ G X (.Call (.Attribute (.Name x p) "startswith" ap) [e] [] pos) ρ k kx := by
  intro P W σ H A Q Wx tk n xp
  refine toE (pe_m1 F.slot_str_startswith F.type_str_startswith mt_startswith sE_pe sE_pe hs rfl hl) ?_
  exact two_st A tk xp h fun s t ρ2 H2 hk A2 L2 => ⟨s, t, rfl, rfl, n _ ρ2 _ _ hk A2 L2 rfl⟩
theorem ej_split {x : Str} {p ap : Pos} {e : Expr} (hs : starEach [e] X.env = [(false, eval e X.env)]) (hl : (ap.endLine == pos.line) = true)
    (h : EJ G X (.Name x p) ρ (fun d ρ1 => ∃ s, d = .str s ∧ EJ G X e ρ1 (fun y ρ2 => ∃ t, y = .str t ∧ ((t.length == 0) = false ∧ s.length + 2 ≤ sizeLine) ∧ k (.lst ((Txt.split s t).map .str)) ρ2) kx) kx) : EJ G X (.Call (.Attribute (.Name x p) "split" ap) [e] [] pos) ρ k kx := by
  intro P W σ H A Q Wx tk n xp
  refine toE (pe_split sE_pe sE_pe hs rfl hl) ?_
  refine two_st A tk xp h fun s t ρ2 H2 hk A2 L2 => ?_
  obtain ⟨⟨h1, h2⟩, hk⟩ := hk
  exact ⟨s, t, rfl, rfl, h1, h2, fun p hp => n _ ρ2 _ _ hk (A2.new hp) (L2.trans (Lx.new hp)) ⟨p, _, rfl, ⟨upd_same, A2.nw hp⟩, strs_rep _⟩⟩
end
end TX
set_option Elab.async false
set_option linter.all false
set_option maxRecDepth 100000
set_option maxHeartbeats 2000000
/-! taking from a list that is grown; two lists of one's own in one row -/
namespace TX
open PySem PySem.Spec PyProof.Rows L2 DL
section
variable {G : Gg} {X : Cx} {ρ : Rho} {k : KD} {kx : KX} {pos : Pos}
/-- x.pop(e), x a list that is grown or given -/
theorem ej_pop {i : Nat} {x : Str} {e : Expr} {p ap : Pos} {l0 : List D} (hN : X.N[i]? = some x) (hv : Vis X.env.scope x) (hd : (x == ("__debug__" : Str)) = false) (hcd : (x == ("__classdict__" : Str)) = false) (hρ : cont ρ i l0)
    (hs : starEach [e] X.env = (false, eval e X.env) :: starEach [] X.env) (hl : (ap.endLine == pos.line) = true)
    (hfew : ((backTo pos (starEach (e :: []) X.env)).all (fun x => !x.1) && (backToKw pos (keywordEach [] X.env)).all (fun x => x.1.isSome)
      && decide ((e :: []).length + ([] : List Keyword).length + (if ([] : List Keyword).isEmpty then 0 else 1) < 30)) = true)
    (hplain : (backTo pos (starEach [] X.env)).any (·.1) = false)
    (h : EJ G X e ρ (fun y ρ1 => ∃ j, y = .int j ∧ ∃ l, cont ρ1 i l ∧ (-(2 ^ 63) ≤ j ∧ j < 2 ^ 63) ∧ ∃ kk, seqIndex? j l.length = some kk ∧ ∃ d, l[kk]? = some d ∧ k d (putL ρ1 i (l.eraseIdx kk))) kx) :
    EJ G X (.Call (.Attribute (.Name x p) "pop" ap) [e] [] pos) ρ k kx := by
  intro P W σ H A Q Wx tk n xp
  obtain ⟨a, xs, q1, q2, q3, q4⟩ := A.at hρ
  refine toE (pe_bm PySem.F.plainAttrs_list PySem.F.slot_list_pop PySem.F.type_list_pop mt_popAt (pe_var hN hv hd hcd) (pa_cons sE_pe pa_nil hs) rfl hfew hl hs hplain) ?_
  refine ⟨.ref a, q1, .inl ⟨rfl, xs, .inl (.inl q2)⟩, ?_⟩
  refine h P W σ H A _ Wx tk (fun y ρ1 v H1 h1 A1 L1 r1 => ?_) xp
  obtain ⟨j, rfl, l, c, ⟨j1, j2⟩, kk, e1, d, e2, hk⟩ := h1
  obtain ⟨a', xs', c1, c2, w, r'⟩ := A1.at c
  rw [q1] at c1; cases c1
  obtain ⟨y, ey, ry⟩ := r'.get e2
  cases (show v = .int j from r1)
  have kb : KpB a H1 (upd H1 a (.lst (xs'.eraseIdx kk))) := fun b o n e => .inl (by rw [upd_ne n]; exact e)
  refine ⟨a, xs', j, kk, y, rfl, rfl, c2, j1, j2, by rw [← r'.length]; exact e1, ey, ?_⟩
  have L2 := kb.le w
  have er : RepL G.K G.mg W H1 (l.eraseIdx kk) (xs'.eraseIdx kk) := by
    rw [List.eraseIdx_eq_take_drop_succ, List.eraseIdx_eq_take_drop_succ]
    exact (r'.take _).app (r'.drop _)
  exact n _ _ _ _ hk (A1.put c q1 kb upd_same (RepL.le L2 _ _ er) (tabs_upd A1.tb c2)) (L1.trans (Lx.put (G := G) (P := P) c q1 kb w)) (Rep.le L2 _ _ ry)
/-- x, y = e, []: both grow -/
theorem sj_par2O {x y : Str} {i j : Nat} {a : Expr} {px py pt pt2 pl : Pos} {kt k2 : Nat} {E : Ek} (hc : X.calm = true) (n1 : NmOk X i x) (n2 : NmOk X j y) (hij : i ≠ j) (hx : X.env.scope.names.lookup x = some .local) (hy : X.env.scope.names.lookup y = some .local)
    (s1 : starEach [a, .List [] pl] X.env = (false, eval a X.env) :: starEach [.List [] pl] X.env) (s2 : starEach [.List [] pl] X.env = (false, eval (.List [] pl) X.env) :: starEach [] X.env)
    (hw : swappedStores [.Tuple [.Name x px, .Name y py] kt pt] (.Tuple [a, .List [] pl] k2 pt2) X.env = pure (some [x, y])) (hs : swapsWithSole [.Tuple [.Name x px, .Name y py] kt pt] (.Tuple [a, .List [] pl] k2 pt2) pos.line X.env = pure false)
    (h : FJ G X a ρ (fun l ρ1 => (i < ρ1.length ∧ j < ρ1.length) ∧ E.nx ((ρ1.set i (.own l)).set j (.own []))) E.xc) : SJ G X (.Assign [.Tuple [.Name x px, .Name y py] kt pt] (.Tuple [a, .List [] pl] k2 pt2) pos) ρ E := fun P W σ H A Dn Wx tk en =>
  toS (ps_par hc n1.nd n1.at_ n2.at_ hij hx hy (pa_cons sE_pe (pa_cons (pe_lst pa_nil) pa_nil s2) s1) hw hs) (h P W σ H A _ Wx tk (fun l ρ1 p xs H1 h1 hp hb r1 A1 L1 => by
    obtain ⟨⟨l1, l2⟩, hk⟩ := h1
    refine ⟨(by show 0 ≤ sizeLine; decide), fun q hq => ?_⟩
    obtain ⟨A2, L2⟩ := A1.newW (o := .lst []) hq
    obtain ⟨z0, zm⟩ := own_new A hp
    obtain ⟨w0, wm⟩ := own_new A1 hq
    have npq : p ≠ q := fun e => by rw [e, hq] at hb; cases hb
    have hb2 : upd H1 q (.lst []) p = some (.lst xs) := by rw [upd_ne npq]; exact hb
    have A3 := A2.setO (i := i) l1 hb2 (.inl (.inr rfl)) z0 (RepL.le L2 _ _ r1) fun m mm => zm m (L1.sh m mm)
    refine ⟨.ref p, .ref q, rfl, en.nx _ _ _ _ hk (A3.setO (i := j) (by rw [List.length_set]; exact l2) upd_same (.inr rfl) w0 (l := []) rfl fun m mm => ?_) (L1.le.trans L2)⟩
    by_cases e : m = i
    · subst e
      have hlt : m < σ.length := by rw [← A.len]; have := L1.sh; rw [A.len, ← A1.len]; exact l1
      rw [List.getElem?_set_self hlt]
      intro z
      cases z
      exact npq rfl
    · rw [List.getElem?_set_ne (Ne.symm e)]
      obtain ⟨m0, hm⟩ := mm
      rw [List.getElem?_set_ne (Ne.symm e)] at hm
      exact wm m ⟨m0, hm⟩) en.xp)
/-- len(x), x a list that is grown or given -/
theorem ej_lenO {i : Nat} {x f : Str} {p p2 : Pos} {l : List D} (hg : Gl X f) (hm : X.mg f = none) (hv0 : bootBuiltins f = some (.builtin "len")) (hn : f ≠ "__name__") (hdb : (f == ("__debug__" : Str)) = false) (hN : X.N[i]? = some x) (hv : Vis X.env.scope x) (hd : (x == ("__debug__" : Str)) = false) (hcd : (x == ("__classdict__" : Str)) = false) (hρ : cont ρ i l)
    (he : starEach [.Name x p2] X.env = (false, eval (.Name x p2) X.env) :: starEach [] X.env) (hpl : (backTo pos (starEach [] X.env)).any (·.1) = false) (h : k (.int l.length) ρ) : EJ G X (.Call (.Name f p) [.Name x p2] [] pos) ρ k kx := by
  intro P W σ H A Q Wx tk n xp
  obtain ⟨a, xs, h1, h2, _, h3⟩ := A.at hρ
  refine toE (pe_callB call_len_seq hg hm hv0 (pa_cons (pe_var hN hv hd hcd) pa_nil he) hn hdb he hpl) ?_
  exact ⟨.ref a, h1, a, xs, rfl, .inl (.inl (.inl h2)), by rw [← h3.length]; exact n _ _ _ _ h A Lx.refl rfl⟩
/-- x += e, ints -/
theorem sj_aug {i : Nat} {x : Str} {e : Expr} {p : Pos} {E : Ek} (m : NmOk X i x) {a : Int} (h0 : ρ[i]? = some (.val (.int a))) (h : EJ G X e ρ (fun d ρ1 => ∃ b, d = .int b ∧ (i < ρ1.length ∧ noIo ρ1 i = true) ∧ E.nx (ρ1.set i (.val (.int (a + b))))) E.xc) :
    SJ G X (.AugAssign (.Name x p) .Add e pos) ρ E := fun P W σ H A Dn Wx tk en =>
  toS (ps_aug m.nd m.at_ m.loc sE_pe ip_add m.fn) (by
    obtain ⟨v, h1, h2⟩ := A.val i _ h0
    cases (show v = .int a from h2)
    refine ⟨_, h1, h P W σ H A _ Wx tk (fun d ρ1 w H1 hh A1 L1 r1 => ?_) en.xp⟩
    obtain ⟨b, rfl, ⟨l1, l2⟩, hk⟩ := hh
    cases (show w = .int b from r1)
    exact ⟨a, b, rfl, rfl, en.nx _ _ _ _ hk (A1.setV l1 rfl) L1.le⟩)
/-- list(e): a new list -/
theorem fj_list {f : Str} {a : Expr} {p : Pos} {k : List D → Rho → Prop} (hK : X.K = G.K) (hg : Gl X f) (hm : X.mg f = none) (hv : bootBuiltins f = some (.type "list")) (hn : f ≠ "__name__") (hdb : (f == ("__debug__" : Str)) = false)
    (e3 : starEach [a] X.env = (false, eval a X.env) :: starEach [] X.env) (e4 : (backTo pos (starEach [] X.env)).any (·.1) = false)
    (h : EJ G X a ρ (fun d ρ1 => ∃ l, (d = .lst l ∨ d = .fls l ∨ d = .tup l) ∧ k l ρ1) kx) : FJ G X (.Call (.Name f p) [a] [] pos) ρ k kx := by
  intro P W σ H A Q Wx tk n xp
  refine toE (pe_callTy call_list_of hg hm hv (pa_cons sE_pe pa_nil e3) hn hdb e3 e4) (h P W σ H A _ Wx tk (fun d ρ1 v H1 h1 A1 L1 r1 => ?_) xp)
  obtain ⟨l, t, hk⟩ := h1
  have fin : ∀ (xs : List V), RepL G.K G.mg W H1 l xs → ∀ p, H1 p = none → Q (.ref p) (upd H1 p (.lst xs)) := fun xs rl p hp => by
    obtain ⟨A2, L2⟩ := A1.newW (o := .lst xs) hp
    exact n _ _ p xs _ hk (le_none L1.le A1.wd hp) upd_same (RepL.le L2 _ _ rl) A2 (L1.newW hp L2)
  rcases t with rfl | rfl | rfl
  · obtain ⟨q, xs, rfl, sq, rl⟩ := RepL.sql r1
    exact ⟨q, xs, rfl, .inl (by rw [hK]; exact sq), fin xs rl⟩
  · obtain ⟨q, xs, rfl, sq, rl⟩ := RepL.sqf r1
    exact ⟨q, xs, rfl, .inl (by rw [hK]; exact sq), fin xs rl⟩
  · obtain ⟨q, xs, rfl, sq, rl⟩ := RepL.sqt r1
    exact ⟨q, xs, rfl, .inr (by rw [hK]; exact sq), fin xs rl⟩
end
end TX
set_option Elab.async false
set_option linter.all false
set_option maxRecDepth 100000
set_option maxHeartbeats 4000000
/-! int(text), texts of more than 640 signs too -/
namespace TX
open PySem PySem.Calls PySem.NumText PyProof.Rows PySem.W
theorem maxDigits {M : Model} {A : Around} {E : Value → Shared → Prop} {s : Shared} {Q : Nat → Shared → Prop} (nd : s.heap.NoDigits) (q : Q 4300 s) : wpAny M A Builtin.intMaxStrDigits Q E s := by
  obtain ⟨mc, h1, h2⟩ := nd
  unfold Builtin.intMaxStrDigits
  refine wpAny_bind (wpAny_nsGet h1 ?_)
  rw [h2]
  exact wpAny_pure q
theorem longText {M : Model} {A : Around} {E : Value → Shared → Prop} {s : Shared} {Q : Value → Shared → Prop} {v : Value} {text : List Nat} {n : Int} (nd : s.heap.NoDigits)
    (long : ¬ (text.takeWhile (· != 0)).length ≤ 640) (rd : (int_private% "readNumeral") 4300 10 (text.takeWhile (· != 0)) = (int_private% "Numeral.value") n)
    (whole : ((text.takeWhile (· != 0)).length == text.length) = true) (q : Q (.int n s.toks) { s with toks := s.toks + 1 }) : wpAny M A ((int_private% "intFromText") v text 10) Q E s := by
  obtain ⟨hp, g, d, tk, os⟩ := s
  have lim := fun (Q : Nat → Shared → Prop) (q : Q 4300 { heap := hp, gens := g, drawn := d, toks := tk, os := os }) => maxDigits (M := M) (A := A) (E := E) nd q
  repeat (any_goals (first
    | assumption
    | (with_reducible refine wpAny_ite_false (decide_eq_false long) ?_)
    | (with_reducible refine wpAny_ite_true (decide_eq_true whole) ?_)
    | ((with_reducible show wpAny _ _ Builtin.intMaxStrDigits _ _ _); refine lim _ ?_)
    | wp_step))
  all_goals rw [rd]
  all_goals dsimp only
  repeat (any_goals (first
    | assumption
    | (with_reducible refine wpAny_ite_true (decide_eq_true whole) ?_)
    | wp_step))
/-- what a text of many signs asks -/
def LongT (x : PySem.Str) (n : Int) : PySem.Spec := fun _ R s => s.heap.NoDigits ∧ R (.ok (.ret (.int n s.toks))) { s with toks := s.toks + 1 }
structure Two (p q r : Prop) : Prop where
  a : p
  b : q
  c : r
theorem meets_long {x : PySem.Str} {u : Tok} {n : Int} (hl : x.length ≤ sizeLine) (hn : PySem.intText? x = some n) (long : ¬ (numSeenOf x).length ≤ 640) : Meets (Builtin.«int.__new__» ⟨[.type "int", .str x u], []⟩) (LongT x n) := by
  intro prog w A R s h
  obtain ⟨nd, h⟩ := h
  obtain ⟨hp, g, d, tk, os⟩ := s
  have f1 := F.conv_sub_int
  have f2 := F.madeHere_int
  have f3 := KIN.str_int
  have f4 := KIN.str_idx
  have f5 := KIN.str_trunc
  have f6 : typeOf (.str x u) = pure (.type "str") := rfl
  have rd : (int_private% "readNumeral") 4300 10 (numSeenOf x) = (int_private% "Numeral.value") n ∧ ((numSeenOf x).length == (numTextOf x).length) = true := by
    rcases read4300 x hl with ⟨m, h1, h2, h3⟩ | ⟨h1, _⟩
    · rw [hn] at h1
      injection h1 with h1
      subst h1
      exact ⟨h3, h2⟩
    · rw [hn] at h1
      cases h1
  have hk := Two.mk long rd.1 rd.2
  clear long rd hn hl
  repeat (any_goals (first
    | assumption
    | ((with_reducible show wpAny _ _ ((int_private% "intFromText") _ _ _) _ _ _); refine longText nd hk.a hk.b hk.c ?_)
    | wp_step))
end TX
namespace TX
open PySem PySem.Spec PyProof.Rows L2 DL
/-- int(x) is n -/
def intOf (x : Str) (n : Int) : Prop := PySem.intText? x = some n ∧ x.length ≤ sizeLine ∧ (x.length ≤ 640 ∨ ¬ (PySem.numSeenOf x).length ≤ 640)
def dTyN : String → List D → (D → Prop) → Prop
  | "int", [.str x], k => ∃ n, intOf x n ∧ k (.int n)
  | T, ds, k => dTy T ds k
section
variable {G : Gg} {X : Cx} {ρ : Rho} {k : KD} {kx : KX} {pos : Pos}
theorem cr_intT (nd : X.base.NoDigits) : CallR X (.type "int") (fun xs H Q => ∃ a n, xs = [.str a] ∧ intOf a n ∧ Q (.int n) H) := by
  intro pins s σ H xs us Q I r h
  obtain ⟨a, n, rfl, ⟨hn, hl, hs⟩, q⟩ := h
  cases r with
  | cons r1 rs =>
    cases rs
    obtain ⟨t, rfl⟩ := r1
    have NK : s.heap.NoDigits := nd.keeps fun b o e => (I.bs b o e).1
    rcases hs with h2 | h2
    · exact PySem.W.KIN.call_text hn h2 ⟨.int n, H, I.tok _, ⟨_, rfl⟩, q⟩
    · exact PySem.call_int_1 (meets_long hl hn h2) ⟨NK, typeIs_int _ _ _, ⟨.int n, H, I.tok _, ⟨_, rfl⟩, q⟩⟩
theorem dTyN_ok (hK : X.K = G.K) (nd : X.base.NoDigits) {T : String} {ds : List D} {k : D → Prop} (h : dTyN T ds k) : SemK G X (.type T) ds k := by
  unfold dTyN at h
  split at h
  · intro P W ρ σ0 H A vs Q rx q pins s σ us I rv
    obtain ⟨n, h1, h2⟩ := h
    obtain ⟨v, rfl, r⟩ := repL1 rx
    rw [show v = .str _ from r] at rv
    exact cr_intT nd pins s σ H _ us Q I rv ⟨_, n, rfl, h1, q _ _ _ h2 A (Kp.refl _) rfl⟩
  · exact dTy_ok hK h
theorem ej_callTN {x : Str} {T : String} {e : Expr} {es : List Expr} {p : Pos} (hK : X.K = G.K) (nd : X.base.NoDigits) (hg : Gl X x) (hm : X.mg x = none) (hv : bootBuiltins x = some (.type T)) (hn : x ≠ "__name__") (hdb : (x == ("__debug__" : Str)) = false)
    (he : starEach (e :: es) X.env = (false, eval e X.env) :: starEach es X.env) (hpl : (backTo pos (starEach es X.env)).any (·.1) = false)
    (h : AJ G X (e :: es) ρ (fun ds ρ1 => dTyN T ds fun z => k z ρ1) kx) : EJ G X (.Call (.Name x p) (e :: es) [] pos) ρ k kx := by
  intro P W σ H A Q Wx tk n xp
  refine toE (pe_callTy sC_r hg hm hv sA_pa hn hdb he hpl) (h P W σ H A _ Wx tk (fun ds ρ1 vs H1 h1 A1 L1 r1 => ?_) xp)
  exact dTyN_ok hK nd h1 P W ρ1 σ H1 A1 vs Q r1 fun z u H' hz A' L' r' => n z ρ1 u H' hz A' (L1.trans (Lx.kp L')) r'
end
end TX
set_option Elab.async false
set_option linter.all false
set_option maxRecDepth 100000
set_option maxHeartbeats 2000000
/-! sorted(..) of data that are alike; list(text), tuple(text) -/
namespace TX
open PySem PySem.Spec PyProof.Rows L2 DL
open PySem.W (EachIs AllAlike Sortable dataLe dataKind SortsAt)
/-- data in Python's order -/
def srtD (l : List D) : List D := l.mergeSort (dataLe false toPy)
def sortOk (l : List D) : Prop := isPy.isPys l = true ∧ AllAlike (l.map toPy) ∧ Sortable (l.map toPy) ∧ ∀ d ∈ l, (toPy d).depth ≤ 60
section
variable {G : Gg} {X : Cx} {ρ : Rho} {k : KD} {kx : KX} {pos : Pos}
theorem isPys_all : ∀ {l : List D}, isPy.isPys l = true → ∀ d ∈ l, isPy d = true
  | [], _, d, hd => by cases hd
  | x :: r, h, d, hd => by
    obtain ⟨h1, h2⟩ := Bool.and_eq_true_iff.mp (show (isPy x && isPy.isPys r) = true from h)
    rcases List.mem_cons.mp hd with rfl | hd
    · exact h1
    · exact isPys_all h2 d hd
/-- values beside their data -/
theorem each_rep {K : PySem.W.Frag} {mg : Str → Option Value} {W : AS} {H : Hp} : ∀ {l : List D} {xs : List V} {us : List Value}, RepL K mg W H l xs → Vals xs us → EachIs (fun u d => d ∈ l ∧ ∃ x, RelV x u ∧ Rep K mg W H d x) us l
  | [], xs, us, h, r => by
    cases (show xs = [] from h)
    cases r
    exact .nil
  | d :: l, xs, us, h, r => by
    obtain ⟨x, rest, rfl, h1, h2⟩ := h
    cases r with
    | cons r1 r2 => exact .cons ⟨List.mem_cons_self, x, r1, h1⟩ ((each_rep h2 r2).mono fun _ _ z => ⟨List.mem_cons_of_mem _ z.1, z.2⟩)
theorem rep_each {K : PySem.W.Frag} {mg : Str → Option Value} {W : AS} {H : Hp} {l0 : List D} : ∀ {us : List Value} {l : List D}, EachIs (fun u d => d ∈ l0 ∧ ∃ x, RelV x u ∧ Rep K mg W H d x) us l → ∃ xs, Vals xs us ∧ RepL K mg W H l xs
  | [], [], _ => ⟨[], .nil, rfl⟩
  | u :: us, d :: l, h => by
    cases h with
    | cons h1 t =>
      obtain ⟨_, x, r1, r2⟩ := h1
      obtain ⟨xs, q1, q2⟩ := rep_each t
      exact ⟨x :: xs, .cons r1 q1, x, xs, rfl, r2, q2⟩
  | [], _ :: _, h => by cases h
  | _ :: _, [], h => by cases h
theorem each_map {α β γ : Type} {R : α → γ → Prop} (f : β → γ) : ∀ {as : List α} {bs : List β}, EachIs (fun a b => R a (f b)) as bs → EachIs R as (bs.map f)
  | [], [], _ => .nil
  | _ :: _, _ :: _, h => by
    cases h with
    | cons h1 t => exact .cons h1 (each_map f t)
  | [], _ :: _, h => by cases h
  | _ :: _, [], h => by cases h
/-- sorted(e), e a list of texts, or of data that are alike -/
theorem ej_sortD {a : Expr} {p : Pos} (hK : X.K = G.K) (un : X.A.units + 100 < cLine) (hg : Gl X "sorted") (hm : X.mg "sorted" = none)
    (e3 : starEach [a] X.env = (false, eval a X.env) :: starEach [] X.env) (e4 : (backTo pos (starEach [] X.env)).any (·.1) = false)
    (h : EJ G X a ρ (fun d ρ1 => (∃ xs, (d = .lst (xs.map .str) ∨ d = .fls (xs.map .str)) ∧ k (.lst ((srtS xs).map .str)) ρ1) ∨ ∃ l, (d = .lst l ∨ d = .fls l) ∧ sortOk l ∧ k (.lst (srtD l)) ρ1) kx) :
    EJ G X (.Call (.Name "sorted" p) [a] [] pos) ρ k kx := by
  intro P W σ H A Q Wx tk n xp
  refine toE (pe_callB sC_r hg hm boot_sorted (pa_cons sE_pe pa_nil e3) (by decide) (by decide) e3 e4) ?_
  refine h P W σ H A _ Wx tk (fun d ρ1 v H1 h1 A1 L1 r1 => ?_) xp
  rcases h1 with ⟨xs, t, hk⟩ | ⟨l, t, ⟨py, al, so, dp⟩, hk⟩
  · obtain ⟨q, rfl, sq⟩ : ∃ q, v = .ref q ∧ SqL G.K H1 q (xs.map V.str) := by
      rcases t with rfl | rfl
      · obtain ⟨q, ys, e, sq, rl⟩ := RepL.sql r1
        exact ⟨q, e, by rw [← repL_strs rl]; exact sq⟩
      · obtain ⟨q, ys, e, sq, rl⟩ := RepL.sqf r1
        exact ⟨q, e, by rw [← repL_strs rl]; exact sq⟩
    exact fun pins s σ' us I rv => cr_sortT pins s σ' H1 _ us Q I rv ⟨q, xs, rfl, by rw [hK]; exact sq, fun p hp => n _ ρ1 _ _ hk (A1.new hp) (L1.trans (Lx.new hp)) ⟨p, _, rfl, ⟨upd_same, A1.nw hp⟩, strs_rep _⟩⟩
  obtain ⟨q, xs, rfl, sq, rl⟩ : ∃ q xs, v = .ref q ∧ SqL G.K H1 q xs ∧ RepL G.K G.mg W H1 l xs := by
    rcases t with rfl | rfl
    · exact RepL.sql r1
    · exact RepL.sqf r1
  intro pins s σ' us I rv
  rw [Vals.ref1 rv]
  obtain ⟨its, rvs, hl, hz⟩ := I.list (hK ▸ sq)
  have er := each_rep rl rvs
  have readsAt : ∀ h' : Heap, (∀ b o, s.heap.get? b = some o → h'.get? b = some o) → EachIs (fun u d => ∃ as, Reads h' u d as) its (l.map toPy) := fun h' up => each_map toPy (er.mono fun u d z => by
    obtain ⟨m, x, r1, r2⟩ := z
    obtain ⟨as, rd⟩ := Dp.reads I (toPy d) x u (by rw [hK]; exact Rep.dp d x (isPys_all py d m) r2) r1
    exact ⟨as, PyProof.Rows.Reads.keeps up rd⟩)
  refine PySem.W.sorted_vals (κ := dataKind (PySem.W.sortingHeap (PySem.W.copyHeap s.heap its) (s.heap.objs.size + 1) its) (l.map toPy)) hl.isList (SortsAt.data (readsAt _ fun b o e => PySem.W.sorting_copy_old e) al so fun d hd => ?_) (by rw [← rvs.length]; exact hz) ?_
  · obtain ⟨d0, hd0, rfl⟩ := List.mem_map.mp hd
    have := dp d0 hd0
    show X.A.units + 1 + 1 + _ < _
    omega
  · have out := PySem.W.sortVals_each (κ := dataKind (PySem.W.sortingHeap (PySem.W.copyHeap s.heap its) (s.heap.objs.size + 1) its) (l.map toPy)) (rev := false) (fun d => PySem.W.keyToks (toPy d)) er
      (PySem.W.each_of_map toPy (PySem.W.each_keys al (readsAt _ fun b o e => PySem.W.sorting_copy_old e)))
    obtain ⟨zs, q1, q2⟩ := rep_each out
    obtain ⟨c, hgt⟩ := PyProof.Rows.sortedAll_at s.heap its (PySem.W.sortVals (dataKind (PySem.W.sortingHeap (PySem.W.copyHeap s.heap its) (s.heap.objs.size + 1) its) (l.map toPy)) false its its).toArray
    have ln : zs.length ≤ sizeLine := by rw [← q2.length, List.length_mergeSort, rl.length]; exact hz
    refine ⟨.ref _, upd H1 (s.heap.objs.size + 1) (.lst zs), I.laid (t' := s.toks) (fun _ _ => PyProof.Rows.sortedAll_old) (Nat.le_succ _) ⟨ln, _, c, q1, hgt⟩, rfl, ?_⟩
    have hn : H1 (s.heap.objs.size + 1) = none := I.hok.fresh (Nat.le_succ _)
    exact n _ ρ1 _ _ hk (A1.new hn) (L1.trans (Lx.new hn)) ⟨_, zs, rfl, ⟨upd_same, A1.nw hn⟩, RepL.le (Le.new1 hn) _ _ q2⟩
end
/-! ### the signs of a text -/
theorem vals_at : ∀ {xs : List V} {us : List Value}, us.length = xs.length → (∀ (i : Nat) (u : Value), us[i]? = some u → ∃ x, xs[i]? = some x ∧ RelV x u) → Vals xs us
  | [], [], _, _ => .nil
  | x :: xs, u :: us, hl, h => by
    obtain ⟨y, e, r⟩ := h 0 u rfl
    cases (show x = y by simpa using e)
    exact .cons r (vals_at (by simpa using hl) fun i w hw => h (i + 1) w (by simpa using hw))
  | [], _ :: _, hl, _ => by simp at hl
  | _ :: _, [], hl, _ => by simp at hl
theorem items_signs {x : Str} {acc : Array Value} (h : ItemsOf (SignAt x) acc x.cps.size) : Vals ((x.cps.toList.map fun c => (⟨#[c]⟩ : Str)).map V.str) acc.toList := by
  refine vals_at (by simp [h.1]) fun i u hu => ?_
  obtain ⟨c, t, hc, rfl⟩ := h.2 i u (by simpa using hu)
  refine ⟨.str ⟨#[c]⟩, ?_, t, rfl⟩
  rw [List.getElem?_map, List.getElem?_map, Array.getElem?_toList, hc]
  rfl
section
variable {X : Cx}
theorem cr_listT (hc : X.calm = true) : CallR X (.type "list") (fun vs H Q => ∃ x : Str, vs = [.str x] ∧ x.length ≤ sizeLine ∧ ∀ p, H p = none → Q (.ref p) (upd H p (.lst ((x.cps.toList.map fun c => (⟨#[c]⟩ : Str)).map V.str)))) := by
  intro pins s σ H vs us Q I r h
  obtain ⟨x, rfl, hx, go⟩ := h
  obtain ⟨u, rfl, t, rfl⟩ := vals1 r
  refine PySem.call_list_str (hn := hx) (I.ok.hd hc) x t fun h' tk acc c up hg hi => ?_
  have rv := items_signs hi
  have hn := I.hok.fresh (Nat.le_refl s.heap.objs.size)
  have ob : ObjOk X.prog X.w (upd H s.heap.objs.size (.lst ((x.cps.toList.map fun c => (⟨#[c]⟩ : Str)).map V.str))) h' s.heap.objs.size (.lst ((x.cps.toList.map fun c => (⟨#[c]⟩ : Str)).map V.str)) :=
    ⟨by rw [List.length_map, List.length_map, Array.length_toList]; exact hx, acc.toList, c, rv, hg⟩
  exact ⟨.ref _, _, I.laid (t' := tk) up (Nat.le_refl _) ob, rfl, go _ hn⟩
theorem cr_tupT (hc : X.calm = true) : CallR X (.type "tuple") (fun vs H Q => ∃ x : Str, vs = [.str x] ∧ x.length ≤ sizeLine ∧ ∀ p, H p = none → Q (.ref p) (upd H p (.tup ((x.cps.toList.map fun c => (⟨#[c]⟩ : Str)).map V.str)))) := by
  intro pins s σ H vs us Q I r h
  obtain ⟨x, rfl, hx, go⟩ := h
  obtain ⟨u, rfl, t, rfl⟩ := vals1 r
  refine PySem.call_tuple_str (hsz := hx) (I.ok.hd hc) x t fun h' tk acc up hi => ?_
  have rv := items_signs hi
  have I1 : Inv X pins σ H { s with heap := h' } := I.kept (t' := s.toks) up
  have hn := I1.hok.fresh (Nat.le_refl h'.objs.size)
  have ob : ObjOk X.prog X.w (upd H h'.objs.size (.tup ((x.cps.toList.map fun c => (⟨#[c]⟩ : Str)).map V.str))) (h'.push { cls := .type "tuple", data := .seq acc }) h'.objs.size (.tup ((x.cps.toList.map fun c => (⟨#[c]⟩ : Str)).map V.str)) :=
    ⟨by rw [List.length_map, List.length_map, Array.length_toList]; exact hx, acc.toList, rv, IsTup.new _ _⟩
  exact ⟨.ref _, _, I1.laid (t' := tk) (fun b o e => Heap.get?_push_of_some _ e) (Nat.le_refl _) ob, rfl, go _ hn⟩
end
/-- the types that take a text, too -/
def dTyT : String → List D → (D → Prop) → Prop
  | "list", [.str x], k => x.length ≤ sizeLine ∧ k (.lst ((x.cps.toList.map fun c => (⟨#[c]⟩ : Str)).map .str))
  | "tuple", [.str x], k => x.length ≤ sizeLine ∧ k (.tup ((x.cps.toList.map fun c => (⟨#[c]⟩ : Str)).map .str))
  | T, ds, k => dTyN T ds k
section
variable {G : Gg} {X : Cx} {ρ : Rho} {k : KD} {kx : KX} {pos : Pos}
theorem dTyT_ok (hK : X.K = G.K) (hc : X.calm = true) (nd : X.base.NoDigits) {T : String} {ds : List D} {k : D → Prop} (h : dTyT T ds k) : SemK G X (.type T) ds k := by
  unfold dTyT at h
  split at h
  · intro P W ρ σ0 H A vs Q rx q pins s σ us I rv
    obtain ⟨v, rfl, r⟩ := repL1 rx
    rw [show v = .str _ from r] at rv
    exact cr_listT hc pins s σ H _ us Q I rv ⟨_, rfl, h.1, fun p hp => q _ _ _ h.2 (A.new hp) (Kp.new hp) ⟨p, _, rfl, ⟨upd_same, A.nw hp⟩, strs_rep _⟩⟩
  · intro P W ρ σ0 H A vs Q rx q pins s σ us I rv
    obtain ⟨v, rfl, r⟩ := repL1 rx
    rw [show v = .str _ from r] at rv
    exact cr_tupT hc pins s σ H _ us Q I rv ⟨_, rfl, h.1, fun p hp => q _ _ _ h.2 (A.new hp) (Kp.new hp) ⟨p, _, rfl, .inl ⟨.inl upd_same, A.nw hp⟩, strs_rep _⟩⟩
  · exact dTyN_ok hK nd h
theorem ej_callTT {x : Str} {T : String} {e : Expr} {es : List Expr} {p : Pos} (hK : X.K = G.K) (hc : X.calm = true) (nd : X.base.NoDigits) (hg : Gl X x) (hm : X.mg x = none) (hv : bootBuiltins x = some (.type T)) (hn : x ≠ "__name__") (hdb : (x == ("__debug__" : Str)) = false)
    (he : starEach (e :: es) X.env = (false, eval e X.env) :: starEach es X.env) (hpl : (backTo pos (starEach es X.env)).any (·.1) = false)
    (h : AJ G X (e :: es) ρ (fun ds ρ1 => dTyT T ds fun z => k z ρ1) kx) : EJ G X (.Call (.Name x p) (e :: es) [] pos) ρ k kx := by
  intro P W σ H A Q Wx tk n xp
  refine toE (pe_callTy sC_r hg hm hv sA_pa hn hdb he hpl) (h P W σ H A _ Wx tk (fun ds ρ1 vs H1 h1 A1 L1 r1 => ?_) xp)
  exact dTyT_ok hK hc nd h1 P W ρ1 σ H1 A1 vs Q r1 fun z u H' hz A' L' r' => n z ρ1 u H' hz A' (L1.trans (Lx.kp L')) r'
end
end TX
set_option Elab.async false
set_option linter.all false
set_option maxRecDepth 100000
set_option maxHeartbeats 2000000
namespace DL
open PySem PySem.Spec PyProof.Rows L2 LamX DLX
/-! ### what an expression asks, by its text: the conditions -/
inductive Gk where
  | pf (j : Nat) (S : PSpec) (m : Nat) (dds : List D)
  | df (j : Nat) (S : DSpec) (m : Nat)
  | ff (j : Nat) (S : FSpec) (m : Nat)
  | con (d : D)
  | blt (id : String)
  | bfn (id : String)
  | typ (T : String)
  | exS
  | exF (f : Str)
  | gf (j : Nat) (S : GSpec) (m : Nat) (dds : List D) (xs : List Str)
  | isa (l : List (Str × Str × Bool))
structure Ci where
  N : List Str
  sc : Scope
  k : Nat
  gs : List (Str × Gk)
  own : List Str
  met : Option (Str × Str × List Mc × List (Str × Str × Bool))
  md : List (Str × Nat)
inductive Nk where
  | slot (i : Nat) | glo | bad
def okN (x : Str) : Bool := !(x == ("__debug__" : Str)) && (!(x == ("__classdict__" : Str)) && !(x == ("__name__" : Str)))
def idx (x : Str) : List Str → Nat → Option Nat
  | [], _ => none
  | y :: r, i => if y == x then some i else idx x r (i + 1)
def kind (c : Ci) (x : Str) : Nk := match okN x with
  | false => .bad
  | true => match c.sc.names.lookup x with
    | some .globalImplicit => .glo
    | some .local => (match idx x c.N 0 with | some i => .slot i | none => .bad)
    | some .cell => (match idx x c.N 0 with | some i => .slot i | none => .bad)
    | some .free => (match idx x c.N 0 with | some i => .slot i | none => .bad)
    | _ => .bad
def contL (ρ : Rho) (i : Nat) : Option (List D) := match ρ[i]? with
  | some (.own l) => some l
  | some (.io l) => some l
  | _ => none
/-- the slot of a list that is grown or given, if e is its name -/
def ownOf (c : Ci) (ρ : Rho) : Expr → Option Nat
  | .Name x _ => (match kind c x with
    | .slot i => (match contL ρ i with | some _ => some i | none => none)
    | _ => none)
  | _ => none
def noStar : List Expr → Bool
  | [] => true
  | .Starred _ _ :: _ => false
  | _ :: r => noStar r
def plainB : Expr → Bool
  | .Slice _ _ _ _ => false
  | .Tuple _ _ _ => false
  | .Name _ _ => true
  | .Constant (.int _) _ _ => true
  | .BinOp _ _ _ _ => true
  | .Call _ _ _ _ => true
  | .Subscript _ _ _ => true
  | .UnaryOp _ _ _ => true
  | _ => false
def noParams : Arguments → Bool
  | ⟨[], [], none, [], [], none, []⟩ => true
  | _ => false
def vVal (ρ : Rho) (i : Nat) (k : D → Prop) : Prop := match ρ[i]? with
  | some (.val d) => k d
  | _ => False
def vName (c : Ci) (x : Str) (ρ : Rho) (k : KD) : Prop := match kind c x with
  | .slot i => vVal ρ i fun d => k d ρ
  | .glo => (match c.gs.lookup x with
    | some (.con d) => k d ρ
    | some (.typ T) => k (.ty T) ρ
    | some (.pf _ _ _ _) => k (.fn x) ρ
    | _ => False)
  | .bad => False
def vBl (x : D) (k : Bool → Prop) : Prop := match x with
  | .bl b => k b
  | _ => False
def vInt (x : D) (k : Int → Prop) : Prop := match x with
  | .int b => k b
  | _ => False
def vInt3 (ds : List D) (k : Int → Int → Int → Prop) : Prop := match ds with
  | [.int i, .int e, .int s] => k i e s
  | _ => False
def vSome {α : Type} (x : Option α) (k : α → Prop) : Prop := match x with
  | some b => k b
  | none => False
def vFn (x : D) (k : Str → Prop) : Prop := match x with
  | .fn g => k g
  | _ => False
def vLst (x : D) (k : List D → Prop) : Prop := match x with
  | .lst l => k l
  | .fls l => k l
  | _ => False
def vSeq (x : D) (k : List D → Prop) : Prop := match x with
  | .lst l => k l
  | .fls l => k l
  | .tup l => k l
  | _ => False
def vTup (x : D) (k : List D → Prop) : Prop := match x with
  | .tup l => k l
  | _ => False
def vStr (x : D) (k : Str → Prop) : Prop := match x with
  | .str l => k l
  | _ => False
def okIfs : List Expr → Bool
  | [] => true
  | [_] => true
  | _ => false
def noSet : Expr → Bool
  | .Set _ _ _ => false
  | _ => true
/-- the name's built-in function -/
def vGl (c : Ci) (x : Str) (g : Gk) (P : Prop) : Prop := match c.gs.lookup x, g with
  | some (.typ id), .typ id' => (match id == id' with
    | true => P
    | false => False)
  | _, _ => False
def vRep (x : D) (k : D → Prop) : Prop := (isPy x = true ∧ okR (toPy x)) ∧ k (.str (toPy x).shown)
def modeOf (c : Ci) (x : Str) : Nat := (c.md.lookup x).getD 0
/-- a name that stands for two walks (10): a tuple's in the for statement, a list's in the comprehensions -/
def modeF (c : Ci) (x : Str) : Nat := match modeOf c x with
  | 10 => 1
  | m => m
def modeC (c : Ci) (x : Str) : Nat := match modeOf c x with
  | 10 => 0
  | m => m
def ownC (N : List Str) : List (Str × NameKind) → List (Str × Nat)
  | [] => []
  | (y, k) :: r => match k == .local || k == .cell, idx y N 0 with
    | true, some i => (y, i) :: ownC N r
    | _, _ => ownC N r
def inBlk (c : Ci) (scope : Scope) : Ci := { c with sc := relS scope c.sc, met := none }
/-- the defaults that fill up n arguments -/
def dfl (m : Nat) (dds : List D) (n : Nat) : List D := dds.drop (dds.length - (m - n))
/-- set(b), by the name of the built-in type -/
def setArg (c : Ci) : Expr → Option Expr
  | .Call (.Name g _) [b] [] _ => (match kind c g with
    | .glo => (match c.gs.lookup g with
      | some (.typ T) => (match T == "set" && (g == ("set" : Str) && noStar [b]) with
        | true => some b
        | false => none)
      | _ => none)
    | _ => none)
  | _ => none
/-- a call of a generator def -/
def genArg (c : Ci) : Expr → Option (Nat × GSpec × Nat × List D × List Str × List Expr)
  | .Call (.Name g _) (a :: r) [] _ => (match kind c g with
    | .glo => (match c.gs.lookup g with
      | some (.gf j S m dds xs) => some (j, S, m, dds, xs, a :: r)
      | _ => none)
    | _ => none)
  | _ => none
/-- a method of a text, by its name -/
def vM (m s t : Str) (k : D → Prop) : Prop := match m == ("startswith" : Str), m == ("split" : Str) with
  | true, _ => k (.bl (Txt.startswith s t))
  | _, true => ((t.length == 0) = false ∧ s.length + 2 ≤ sizeLine) ∧ k (.lst ((Txt.split s t).map .str))
  | _, _ => False
def twoUp : List Expr → Bool
  | _ :: _ :: _ => true
  | _ => false
/-- a check of the text alone -/
def gd (b : Bool) (P : Prop) : Prop := match b with
  | true => P
  | false => False
mutual
def vE : Nat → Ci → Expr → Rho → KD → KX → Prop
  | 0, _, _, _, _, _ => False
  | n + 1, c, e, ρ, k, kx => match e with
    | .Constant (.int i) _ _ => k (.int i) ρ
    | .Constant (.bool b) _ _ => k (.bl b) ρ
    | .Constant (.str x) _ _ => k (.str x) ρ
    | .Constant .none _ _ => k .non ρ
    | .Name x _ => vName c x ρ k
    | .BinOp a op b _ => vE n c a ρ (fun x ρ1 => vE n c b ρ1 (fun y ρ2 => dBin op x y fun z => k z ρ2) kx) kx
    | .Compare a [op] [b] _ => gd (!behindInMarks op b) (match ownOf c ρ a with
      | some i => vE n c b ρ (fun y ρ2 => vSome (contL ρ2 i) fun l => dCmp op (.lst l) y fun z => k (.bl z) ρ2) kx
      | none => vE n c a ρ (fun x ρ1 => vE n c b ρ1 (fun y ρ2 => dCmp op x y fun z => k (.bl z) ρ2) kx) kx)
    | .Compare a [op, op'] [b, d] _ => gd (!lastMarks [op, op'] [b, d]) (vE n c a ρ (fun x ρ1 => vE n c b ρ1 (fun y ρ2 => dCmp op x y fun z => if z = true then vE n c d ρ2 (fun w ρ3 => dCmp op' y w fun z' => k (.bl z') ρ3) kx else k (.bl false) ρ2) kx) kx)
    | .UnaryOp .USub a _ => vE n c a ρ (fun x ρ1 => vInt x fun i => k (.int (-i)) ρ1) kx
    | .UnaryOp .Not a _ => vE n c a ρ (fun x ρ1 => vBl x fun b => k (.bl (!b)) ρ1) kx
    | .BoolOp .And es _ => vAnd n c es ρ k kx
    | .BoolOp .Or es _ => vOr n c es ρ k kx
    | .IfExp t a b _ => vT n c t ρ (fun z ρ1 => if z = true then vE n c a ρ1 k kx else vE n c b ρ1 k kx) kx
    | .Subscript a (.Slice lo hi none _) _ => vE n c a ρ (fun x ρ1 => vO n c lo ρ1 (fun i ρ2 => vO n c hi ρ2 (fun j ρ3 => TX.dSl x i j fun z => k z ρ3) kx) kx) kx
    | .Subscript a b _ => gd (plainB b) (match ownOf c ρ a with
      | some i => vE n c b ρ (fun y ρ2 => vInt y fun j => vSome (contL ρ2 i) fun l => vSome (atI l j) fun d => k d ρ2) kx
      | none => vE n c a ρ (fun x ρ1 => vE n c b ρ1 (fun y ρ2 => dIx x y fun z => k z ρ2) kx) kx)
    | .Tuple es _ _ => vA n c es ρ (fun ds ρ1 => ds.length ≤ sizeLine ∧ k (.tup ds) ρ1) kx
    | .List es _ => vA n c es ρ (fun ds ρ1 => ds.length ≤ sizeLine ∧ k (.lst ds) ρ1) kx
    | .Call (.Name f _) args [] _ => vCall n c f args ρ k kx
    | .ListComp elt gs scope p => vF n c (.ListComp elt gs scope p) ρ (fun l ρ1 => k (.lst l) ρ1) kx
    | .Call (.Attribute (.Name x p) m ap) [a] [] cp => (match ownOf c ρ (.Name x p) with
      | some i => gd ((m == ("pop" : Str)) && ((ap.endLine == cp.line) && noStar [a])) (vE n c a ρ (fun y ρ1 => vInt y fun j => vSome (contL ρ1 i) fun l => (-(2 ^ 63) ≤ j ∧ j < 2 ^ 63) ∧ vSome (seqIndex? j l.length) fun kk => vSome l[kk]? fun d => k d (putL ρ1 i (l.eraseIdx kk))) kx)
      | none => gd ((ap.endLine == cp.line) && (noStar [a] && ((m == ("startswith" : Str)) || (m == ("split" : Str))))) (vE n c (.Name x p) ρ (fun d ρ1 => vStr d fun s => vE n c a ρ1 (fun y ρ2 => vStr y fun t => vM m s t fun z => k z ρ2) kx) kx))
    | .JoinedStr [a] _ => vE n c a ρ k kx
    | .JoinedStr es _ => gd (twoUp es) (vJ n c es Str.empty ρ (fun out ρ1 => k (.str out) ρ1) kx)
    | .FormattedValue a m none _ => gd (m == -1) (vE n c a ρ (fun x ρ1 => TX.dFmt x fun z => k z ρ1) kx)
    | _ => False
def vO : Nat → Ci → Option Expr → Rho → (Option Int → Rho → Prop) → KX → Prop
  | 0, _, _, _, _, _ => False
  | n + 1, c, e, ρ, k, kx => match e with
    | none => k none ρ
    | some e => vE n c e ρ (fun y ρ1 => vInt y fun j => k (some j) ρ1) kx
def vJ : Nat → Ci → List Expr → Str → Rho → (Str → Rho → Prop) → KX → Prop
  | 0, _, _, _, _, _, _ => False
  | n + 1, c, es, acc, ρ, k, kx => match es with
    | [] => k acc ρ
    | e :: r => vE n c e ρ (fun x ρ1 => vStr x fun y => (acc ++ y).length ≤ sizeLine ∧ vJ n c r (acc ++ y) ρ1 k kx) kx
def vT : Nat → Ci → Expr → Rho → (Bool → Rho → Prop) → KX → Prop
  | 0, _, _, _, _, _ => False
  | n + 1, c, e, ρ, kb, kx => match e with
    | .Compare a [op] [b] _ => gd (!behindInMarks op b) (match ownOf c ρ a with
      | some i => vE n c b ρ (fun y ρ2 => vSome (contL ρ2 i) fun l => dCmp op (.lst l) y fun z => kb z ρ2) kx
      | none => vE n c a ρ (fun x ρ1 => vE n c b ρ1 (fun y ρ2 => dCmp op x y fun z => kb z ρ2) kx) kx)
    | .Compare a [op, op'] [b, d] _ => gd (!lastMarks [op, op'] [b, d]) (vE n c a ρ (fun x ρ1 => vE n c b ρ1 (fun y ρ2 => dCmp op x y fun z => if z = true then vE n c d ρ2 (fun w ρ3 => dCmp op' y w fun z' => kb z' ρ3) kx else kb false ρ2) kx) kx)
    | .UnaryOp .Not a _ => vT n c a ρ (fun b ρ1 => kb (!b) ρ1) kx
    | .BoolOp .And es _ => vTAnd n c es ρ kb kx
    | .BoolOp .Or es _ => vTOr n c es ρ kb kx
    | .Name x p => vE n c (.Name x p) ρ (fun x ρ1 => vBl x fun b => kb b ρ1) kx
    | .Call f args kws p => vE n c (.Call f args kws p) ρ (fun x ρ1 => vBl x fun b => kb b ρ1) kx
    | _ => False
def vAnd : Nat → Ci → List Expr → Rho → KD → KX → Prop
  | 0, _, _, _, _, _ => False
  | n + 1, c, es, ρ, k, kx => match es with
    | [] => False
    | [a] => vE n c a ρ k kx
    | a :: b :: r => vE n c a ρ (fun x ρ1 => vBl x fun t => if t = true then vAnd n c (b :: r) ρ1 k kx else k (.bl false) ρ1) kx
def vOr : Nat → Ci → List Expr → Rho → KD → KX → Prop
  | 0, _, _, _, _, _ => False
  | n + 1, c, es, ρ, k, kx => match es with
    | [] => False
    | [a] => vE n c a ρ k kx
    | a :: b :: r => vE n c a ρ (fun x ρ1 => vBl x fun t => if t = true then k (.bl true) ρ1 else vOr n c (b :: r) ρ1 k kx) kx
def vTAnd : Nat → Ci → List Expr → Rho → (Bool → Rho → Prop) → KX → Prop
  | 0, _, _, _, _, _ => False
  | n + 1, c, es, ρ, kb, kx => match es with
    | [] => False
    | [a] => vT n c a ρ kb kx
    | a :: b :: r => vT n c a ρ (fun t ρ1 => if t = true then vTAnd n c (b :: r) ρ1 kb kx else kb false ρ1) kx
def vTOr : Nat → Ci → List Expr → Rho → (Bool → Rho → Prop) → KX → Prop
  | 0, _, _, _, _, _ => False
  | n + 1, c, es, ρ, kb, kx => match es with
    | [] => False
    | [a] => vT n c a ρ kb kx
    | a :: b :: r => vT n c a ρ (fun t ρ1 => if t = true then kb true ρ1 else vTOr n c (b :: r) ρ1 kb kx) kx
def vA : Nat → Ci → List Expr → Rho → (List D → Rho → Prop) → KX → Prop
  | 0, _, _, _, _, _ => False
  | n + 1, c, es, ρ, ka, kx => match es with
    | [] => ka [] ρ
    | e :: r => gd (noStar (e :: r)) (vE n c e ρ (fun d ρ1 => vA n c r ρ1 (fun ds ρ2 => ka (d :: ds) ρ2) kx) kx)
def vCall : Nat → Ci → Str → List Expr → Rho → KD → KX → Prop
  | 0, _, _, _, _, _, _ => False
  | n + 1, c, f, args, ρ, k, kx => match kind c f with
    | .bad => False
    | .slot i => match args with
      | [] => False
      | a :: r => vVal ρ i fun d => vFn d fun g => (match c.gs.lookup g with
        | some (.pf j S m dds) => gd (dds.isEmpty && Nat.ble j c.k) (vA n c (a :: r) ρ (fun ds ρ1 => gd (Nat.beq ds.length m) (S ds (fun z => k z ρ1) (fun x => kx x ρ1))) kx)
        | _ => False)
    | .glo => match args with
      | [] => False
      | [.Lambda params body scope _] => (match c.met with
        | some (x, fine, l, isa) => gd (x == f && (noParams params && (lamSB c.sc scope && Nat.ble 2 c.k))) (vE n { c with sc := scope, k := c.k - 2, met := none } body ρ (fun _ ρ1 => k (.str fine) ρ1) (fun x ρ1 => metP isa l x fun s => k (.str s) ρ1))
        | none => False)
      | a :: r => match c.gs.lookup f with
        | some (.pf j S m dds) => gd (Nat.ble j c.k) (vA n c (a :: r) ρ (fun ds ρ1 => gd (Nat.beq (ds ++ dfl m dds (a :: r).length).length m) (S (ds ++ dfl m dds (a :: r).length) (fun z => k z ρ1) (fun x => kx x ρ1))) kx)
        | some (.df j S m) => gd (Nat.ble j c.k && noStar (a :: r)) (vSome (ownOf c ρ a) fun i => vA n c r ρ (fun ds ρ1 => vSome (contL ρ1 i) fun l => gd (Nat.beq ds.length m) (S l ds (fun z l' => k z (putL ρ1 i l')))) kx)
        | some (.blt "repr") => gd (r.isEmpty && noStar (a :: r)) (vE n c a ρ (fun x ρ1 => vRep x fun z => k z ρ1) kx)
        | some (.blt "sorted") => gd (r.isEmpty && (f == ("sorted" : Str) && noStar (a :: r))) (match setArg c a with
          | some b => vE n c b ρ (fun d ρ1 => ∃ xs, TX.Txs d xs ∧ xs.length + 1 < scanBound ∧ k (.lst ((TX.lotS xs).map .str)) ρ1) kx
          | none => vE n c a ρ (fun d ρ1 => (∃ xs, (d = .lst (xs.map .str) ∨ d = .fls (xs.map .str)) ∧ k (.lst ((TX.srtS xs).map .str)) ρ1) ∨ ∃ l, (d = .lst l ∨ d = .fls l) ∧ TX.sortOk l ∧ k (.lst (TX.srtD l)) ρ1) kx)
        | some (.blt "len") => gd (r.isEmpty && noStar (a :: r)) (match ownOf c ρ a with
          | some i => vSome (contL ρ i) fun l => k (.int l.length) ρ
          | none => vA n c (a :: r) ρ (fun ds ρ1 => dBi "len" ds fun z => k z ρ1) kx)
        | some (.blt id) => vA n c (a :: r) ρ (fun ds ρ1 => dBi id ds fun z => k z ρ1) kx
        | some (.bfn id) => vA n c (a :: r) ρ (fun ds ρ1 => dBi id ds fun z => k z ρ1) kx
        | some (.typ T) => (match genArg c a with
          | some (j, S, m, dds, xs, es) => gd (T == "list" && (r.isEmpty && Nat.ble (j + 3) c.k)) (vA n c es ρ (fun ds ρ1 => gd (Nat.beq (ds ++ dfl m dds es.length).length m) (S (ds ++ dfl m dds es.length) (fun l => k (.lst l) ρ1) (fun y => gd (xs.contains y.1) (kx y ρ1)))) kx)
          | none => match ownOf c ρ a with
            | some i => gd (T == "tuple" && (r.isEmpty && f == ("tuple" : Str))) (vSome (contL ρ i) fun l => k (.tup l) ρ)
            | none => vA n c (a :: r) ρ (fun ds ρ1 => TX.dTyT T ds fun z => k z ρ1) kx)
        | _ => False
def vF : Nat → Ci → Expr → Rho → (List D → Rho → Prop) → KX → Prop
  | 0, _, _, _, _, _ => False
  | n + 1, c, e, ρ, k, kx => match e with
    | .List es _ => vA n c es ρ (fun ds ρ1 => ds.length ≤ sizeLine ∧ k ds ρ1) kx
    | .Call (.Name f _) (a :: r) [] _ => (match kind c f with
      | .glo => (match c.gs.lookup f with
        | some (.ff j S m) => gd (Nat.ble j c.k) (vA n c (a :: r) ρ (fun ds ρ1 => gd (Nat.beq ds.length m) (S ds fun l => k l ρ1)) kx)
        | some (.typ T) => gd (T == "list" && (r.isEmpty && noStar (a :: r))) (vE n c a ρ (fun d ρ1 => vSeq d fun l => k l ρ1) kx)
        | _ => False)
      | _ => False)
    | .ListComp elt [⟨.Name x _, iter, ifs, 0⟩] scope _ => vSome (idx x c.N 0) fun j => gd (okIfs ifs && (blkC c.N c.sc scope (ownC c.N scope.names) && decide ((relS scope c.sc).names.lookup x = some .local))) (match iter, modeC c x with
      | .Call (.Name rg _) [a] [] _, 3 => gd (rg == ("range" : Str) && (noStar [a] && decide (c.sc.names.lookup rg = some .globalImplicit))) (vGl c rg (.typ "range") (vE n c a ρ (fun d ρ1 => vInt d fun m => (-(2 ^ 62) ≤ m ∧ m < 2 ^ 62) ∧ vCLoop n c scope ((ownC c.N scope.names).map (·.2)) j ifs elt (upto m) ρ1 k) kx))
      | .Call (.Name rg _) [a, b, d] [] _, 4 => gd (rg == ("range" : Str) && (noStar [a, b, d] && decide (c.sc.names.lookup rg = some .globalImplicit))) (vGl c rg (.typ "range") (vA n c [a, b, d] ρ (fun ds ρ1 => vInt3 ds fun i e s => ∃ m, RgC i e s m ∧ vCLoop n c scope ((ownC c.N scope.names).map (·.2)) j ifs elt (stepL i s m) ρ1 k) kx))
      | it, 0 => gd (noSet it) (vE n c it ρ (fun d ρ1 => vLst d fun l => vCLoop n c scope ((ownC c.N scope.names).map (·.2)) j ifs elt l ρ1 k) kx)
      | it, 1 => gd (noSet it) (vE n c it ρ (fun d ρ1 => vTup d fun l => vCLoop n c scope ((ownC c.N scope.names).map (·.2)) j ifs elt l ρ1 k) kx)
      | it, 2 => gd (noSet it) (vE n c it ρ (fun d ρ1 => vStr d fun z => vCLoop n c scope ((ownC c.N scope.names).map (·.2)) j ifs elt (signs z) ρ1 k) kx)
      | _, _ => False)
    | _ => False
def vCLoop : Nat → Ci → Scope → List Nat → Nat → List Expr → Expr → List D → Rho → (List D → Rho → Prop) → Prop
  | 0, _, _, _, _, _, _, _, _, _ => False
  | n + 1, c, scope, vs, j, ifs, elt, l, ρ, k => ∃ J : Nat → List D → Rho → Prop, J 0 [] ρ ∧ (∀ i d acc ρ1, l[i]? = some d → J i acc ρ1 → (j ∈ vs ∧ j < ρ1.length ∧ (vs.all fun v => !muAt ρ1 v) = true) ∧ (match ifs with
      | [] => vE n (inBlk c scope) elt ((wipeS ρ1 vs).set j (.val d)) (fun y ρ3 => (sameK ((wipeS ρ1 vs).set j (.val d)) ρ3 = true ∧ acc.length < sizeLine) ∧ J (i + 1) (acc ++ [y]) (mrg ρ1 ρ3)) (fun _ _ => False)
      | [t] => vT n (inBlk c scope) t ((wipeS ρ1 vs).set j (.val d)) (fun b ρ2 => sameK ((wipeS ρ1 vs).set j (.val d)) ρ2 = true ∧
          if b = true then vE n (inBlk c scope) elt ρ2 (fun y ρ3 => (sameK ((wipeS ρ1 vs).set j (.val d)) ρ3 = true ∧ acc.length < sizeLine) ∧ J (i + 1) (acc ++ [y]) (mrg ρ1 ρ3)) (fun _ _ => False) else J (i + 1) acc (mrg ρ1 ρ2)) (fun _ _ => False)
      | _ => False)) ∧ ∀ acc ρ1, J l.length acc ρ1 → k acc ρ1
end
end DL
set_option Elab.async false
set_option linter.all false
set_option maxRecDepth 100000
set_option maxHeartbeats 2000000
namespace DL
open PySem PySem.Spec PyProof.Rows L2 LamX DLX
theorem FnG.mono {P : Program} {w : World} {K : PySem.W.Frag} {mg : Str → Option Value} {base : Heap} {C : CXT} {j k : Nat} {f : Addr} {fd : FuncData} {ps : List Str} {sp : Sp} (F : FnG P w K mg base C j f fd ps sp) (h : j ≤ k) : FnG P w K mg base C k f fd ps sp :=
  ⟨F.len, fun A outer s H args us vs Q E gd hr => F.go A outer s H args us vs Q E gd (hr.mono h)⟩
theorem gd_ok {b : Bool} {P : Prop} (h : gd b P) : b = true ∧ P := by
  cases b with
  | true => exact ⟨rfl, h⟩
  | false => exact h.elim
/-- what stands behind a global name -/
def GkOk (G : Gg) (P : Program) (w : World) (base : Heap) (x : Str) : Gk → Prop
  | .pf j S m dds => ∃ (f : Addr) (fd : FuncData) (ps : List Str), G.mg x = some (.ref f) ∧ FnG P w G.K G.mg base (L2.CX P w) j f fd ps (spP G m S) ∧ PySem.W.keepIn G.K (.ref f) = true ∧ ∀ n, ∃ (dvs : List V) (dsv : List Value), Binds G.K fd ps dsv ∧ Vals dvs dsv ∧ ∀ W H, RepL G.K G.mg W H (dfl m dds n) dvs
  | .df j S m => ∃ (f : Addr) (fd : FuncData) (ps : List Str), G.mg x = some (.ref f) ∧ FnG P w G.K G.mg base (L2.CX P w) j f fd ps (spD G m S) ∧ PySem.W.keepIn G.K (.ref f) = true ∧ Binds G.K fd ps []
  | .ff j S m => ∃ (f : Addr) (fd : FuncData) (ps : List Str), G.mg x = some (.ref f) ∧ FnG P w G.K G.mg base (L2.CX P w) j f fd ps (spF G m S) ∧ PySem.W.keepIn G.K (.ref f) = true ∧ Binds G.K fd ps []
  | .con d => (∃ u v, G.mg x = some u ∧ RelV v u ∧ ∀ W H, Rep G.K G.mg W H d v) ∨ (∃ T, d = .ty T ∧ G.mg x = none ∧ bootBuiltins x = some (.type T))
  | .blt id => G.mg x = none ∧ bootBuiltins x = some (.builtin id)
  | .bfn id => G.mg x = some (.builtin id)
  | .typ T => G.mg x = none ∧ bootBuiltins x = some (.type T)
  | .exS => ∃ (C : Addr) (B newId initId : String) (bmB : List Value), PlC G x C B newId initId bmB
  | .exF f => ∃ (C fI : Addr) (p qi : Str) (B newId initId : String) (bmB : List Value), FldTxt G.K G.mg C fI x p f qi B newId initId bmB
  | .gf j S m dds xs => ∃ (f : Addr) (fd : FuncData) (ps : List Str), G.mg x = some (.ref f) ∧ QFn P w G.K G.mg base j f fd ps (spG G m S) ∧ PySem.W.keepIn G.K (.ref f) = true ∧ (∀ n, ∃ (dvs : List V) (dsv : List Value), Binds G.K fd ps dsv ∧ Vals dvs dsv ∧ ∀ W H, RepL G.K G.mg W H (dfl m dds n) dvs) ∧ ∀ y ∈ xs, NoStopX G y
  | .isa l => IsaOk G.K G.mg l
structure CiOk (c : Ci) (G : Gg) (P : Program) (w : World) (base : Heap) (X : Cx) : Prop where
  prog : X.prog = P
  wo : X.w = w
  K : X.K = G.K
  mg : X.mg = G.mg
  bas : X.base = base
  N : X.N = c.N
  sc : X.env.scope = c.sc
  nd : c.N.Nodup
  calm : X.calm = true
  room : Room c.k X.A
  gd : X.A.guards = some []
  dig : base.NoDigits
  gs : ∀ x g, c.gs.lookup x = some g → GkOk G P w base x g
  met : ∀ x fine l isa, c.met = some (x, fine, l, isa) → ∃ a ex, ∀ params scope, noParams params = true → lamSB c.sc scope = true → 2 ≤ c.k → MetC G X (c.k - 2) x a ex fine l isa params scope
section
variable {c : Ci} {G : Gg} {P : Program} {w : World} {base : Heap} {X : Cx}
theorem idx_ok {x : Str} : ∀ {l : List Str} {i j : Nat}, idx x l i = some j → ∃ m, j = i + m ∧ l[m]? = some x
  | [], _, _, h => by cases h
  | y :: r, i, j, h => by
    unfold idx at h
    split at h
    · rename_i q
      cases h
      exact ⟨0, rfl, by rw [beq_iff_eq.mp q]; rfl⟩
    · obtain ⟨m, e, q⟩ := idx_ok h
      exact ⟨m + 1, by omega, by simpa using q⟩
theorem okN_ok {x : Str} (h : okN x = true) : (x == ("__debug__" : Str)) = false ∧ (x == ("__classdict__" : Str)) = false ∧ x ≠ "__name__" := by
  unfold okN at h
  simp only [Bool.and_eq_true, Bool.not_eq_true'] at h
  obtain ⟨h1, h2, h3⟩ := h
  exact ⟨h1, h2, by simpa using h3⟩
theorem kind_ok (C : CiOk c G P w base X) {x : Str} : (∀ i, kind c x = .slot i → X.N[i]? = some x ∧ Vis X.env.scope x ∧ (x == ("__debug__" : Str)) = false ∧ (x == ("__classdict__" : Str)) = false) ∧ (kind c x = .glo → Gl X x ∧ (x == ("__debug__" : Str)) = false ∧ x ≠ "__name__") := by
  unfold kind
  cases ho : okN x with
  | false => exact ⟨fun i h => by simp at h, fun h => by simp at h⟩
  | true =>
    obtain ⟨o1, o2, o3⟩ := okN_ok ho
    have sl : ∀ {i : Nat}, Vis c.sc x → (match idx x c.N 0 with | some i => Nk.slot i | none => Nk.bad) = .slot i → X.N[i]? = some x ∧ Vis X.env.scope x ∧ (x == ("__debug__" : Str)) = false ∧ (x == ("__classdict__" : Str)) = false := fun {i} hv h => by
      cases e : idx x c.N 0 with
      | none => rw [e] at h; simp at h
      | some j =>
        rw [e] at h
        have h' : j = i := by simpa using h
        obtain ⟨m, em, q⟩ := idx_ok e
        rw [C.N, C.sc]
        exact ⟨by rw [← h', em, Nat.zero_add]; exact q, hv, o1, o2⟩
    have nog : ∀ {o : Option Nat}, (match o with | some i => Nk.slot i | none => Nk.bad) = .glo → False := fun {o} h => by cases o <;> simp at h
    dsimp only
    cases hl : c.sc.names.lookup x with
    | none => exact ⟨fun i h => by simp at h, fun h => by simp at h⟩
    | some q =>
      cases q with
      | «local» => exact ⟨fun i h => sl (.inl hl) h, fun h => (nog h).elim⟩
      | cell => exact ⟨fun i h => sl (.inr (.inl hl)) h, fun h => (nog h).elim⟩
      | free => exact ⟨fun i h => sl (.inr (.inr hl)) h, fun h => (nog h).elim⟩
      | globalImplicit => exact ⟨fun i h => by simp at h, fun _ => ⟨by show X.env.scope.names.lookup x = _; rw [C.sc]; exact hl, o1, o3⟩⟩
      | _ => exact ⟨fun i h => by simp at h, fun h => by simp at h⟩
theorem contL_ok {ρ : Rho} {i : Nat} {l : List D} (h : contL ρ i = some l) : cont ρ i l := by
  unfold contL at h
  split at h
  · rename_i m e
    cases h; exact .inl e
  · rename_i m e
    cases h; exact .inr e
  · cases h
theorem vVal_ok {ρ : Rho} {i : Nat} {k : D → Prop} (h : vVal ρ i k) : ∃ d, ρ[i]? = some (.val d) ∧ k d := by
  unfold vVal at h
  split at h
  · rename_i d e
    exact ⟨d, e, h⟩
  · exact h.elim
theorem vBl_ok {x : D} {k : Bool → Prop} (h : vBl x k) : ∃ b, x = .bl b ∧ k b := by
  unfold vBl at h
  split at h
  · exact ⟨_, rfl, h⟩
  · exact h.elim
theorem vInt_ok {x : D} {k : Int → Prop} (h : vInt x k) : ∃ b, x = .int b ∧ k b := by
  unfold vInt at h
  split at h
  · exact ⟨_, rfl, h⟩
  · exact h.elim
theorem vSome_ok {α : Type} {x : Option α} {k : α → Prop} (h : vSome x k) : ∃ b, x = some b ∧ k b := by
  unfold vSome at h
  split at h
  · exact ⟨_, rfl, h⟩
  · exact h.elim
theorem ownOf_ok (C : CiOk c G P w base X) {ρ : Rho} {e : Expr} {i : Nat} (h : ownOf c ρ e = some i) : ∃ x p l, e = .Name x p ∧ cont ρ i l ∧ X.N[i]? = some x ∧ Vis X.env.scope x ∧ (x == ("__debug__" : Str)) = false ∧ (x == ("__classdict__" : Str)) = false := by
  unfold ownOf at h
  split at h
  · rename_i x p
    split at h
    · rename_i j e
      split at h
      · rename_i l e2
        cases h
        exact ⟨x, p, l, rfl, contL_ok e2, (kind_ok C).1 _ e⟩
      · cases h
    · cases h
  · cases h
theorem star_ok {e : Expr} {r : List Expr} {env : Env} (h : noStar (e :: r) = true) : starEach (e :: r) env = (false, eval e env) :: starEach r env ∧ noStar r = true := by
  cases e <;> first | exact ⟨rfl, h⟩ | cases h
theorem back_ok {pos : Pos} {env : Env} : ∀ {r : List Expr}, noStar r = true → (backTo pos (starEach r env)).any (·.1) = false := by
  intro r h
  have key : ∀ r : List Expr, noStar r = true → (starEach r env).any (·.1) = false := by
    intro r
    induction r with
    | nil => intro _; rfl
    | cons e r ih =>
      intro h
      obtain ⟨e1, e2⟩ := star_ok (env := env) h
      rw [e1, List.any_cons, ih e2]; rfl
  have q := key r h
  unfold backTo
  rw [List.any_map]
  exact q
theorem plain_ok {b : Expr} (h : plainB b = true) : PlainIx b := by
  intro o i
  cases b <;> first | rfl | cases h
theorem cond_lt {k : Nat} {A : Around} (r : Room k A) : A.units + 65 < cLine ∧ A.units + 100 < cLine := by have := r.un; omega
end
end DL
set_option Elab.async false
set_option linter.all false
set_option maxRecDepth 100000
set_option maxHeartbeats 4000000
namespace DL
open PySem PySem.Spec PyProof.Rows L2 LamX DLX
section
variable {G : Gg} {X : Cx} {ρ : Rho} {kx : KX}
theorem ej_mono {e : Expr} {k k' : KD} (h : EJ G X e ρ k kx) (m : ∀ d ρ1, k d ρ1 → k' d ρ1) : EJ G X e ρ k' kx := fun P W σ H A Q Wx tk n xp => h P W σ H A Q Wx tk (fun d ρ' v H' hk => n d ρ' v H' (m d ρ' hk)) xp
theorem tj_mono {e : Expr} {k k' : Bool → Rho → Prop} (h : TJ G X e ρ k kx) (m : ∀ d ρ1, k d ρ1 → k' d ρ1) : TJ G X e ρ k' kx := fun P W σ H A Q Wx tk n xp => h P W σ H A Q Wx tk (fun d ρ' H' hk => n d ρ' H' (m d ρ' hk)) xp
theorem aj_mono {es : List Expr} {k k' : List D → Rho → Prop} (h : AJ G X es ρ k kx) (m : ∀ d ρ1, k d ρ1 → k' d ρ1) : AJ G X es ρ k' kx := fun P W σ H A Q Wx tk n xp => h P W σ H A Q Wx tk (fun d ρ' v H' hk => n d ρ' v H' (m d ρ' hk)) xp
end
section
variable {X : Cx} {G : Gg} {ρ : Rho} {k : KD} {kx : KX} {pos : Pos}
theorem ej_repr {x : Str} {e : Expr} {p : Pos} (hv : bootBuiltins x = some (.builtin "repr")) (hn : x ≠ "__name__") (hd : (x == ("__debug__" : Str)) = false) (hK : X.K = G.K) (gd : X.A.guards = some []) (un : X.A.units + 100 < cLine) (nd : X.base.NoDigits) (hg : Gl X x) (hm : X.mg x = none) (he : starEach [e] X.env = (false, eval e X.env) :: starEach [] X.env) (hpl : (backTo pos (starEach [] X.env)).any (·.1) = false)
    (h : EJ G X e ρ (fun x ρ1 => (isPy x = true ∧ okR (toPy x)) ∧ k (.str (toPy x).shown) ρ1) kx) : EJ G X (.Call (.Name x p) [e] [] pos) ρ k kx := by
  intro P W σ H A Q Wx tk n xp
  refine toE (pe_callB (call_reprD gd un nd) hg hm hv (pa_cons sE_pe pa_nil he) hn hd he hpl) (h P W σ H A _ Wx tk (fun x ρ1 v H1 ⟨⟨py, ok⟩, h1⟩ A1 L1 r1 => ?_) xp)
  exact ⟨v, toPy x, rfl, by rw [hK]; exact Rep.dp x v py r1, ok, n _ _ _ _ h1 A1 L1 rfl⟩
/-- the name of a built-in class -/
theorem ej_ty {x : Str} {T : String} (hg : Gl X x) (hm : X.mg x = none) (hv : bootBuiltins x = some (.type T)) (hn : x ≠ "__name__") (hd : (x == ("__debug__" : Str)) = false) (h : k (.ty T) ρ) : EJ G X (.Name x pos) ρ k kx :=
  fun P W σ H A Q Wx tk n xp pins s I => ld_blt I hg hm hv ⟨.ty T, H, I, rfl, n _ _ _ _ h A Lx.refl rfl⟩ hn hd
end

theorem dCmp_mono {op : CmpOp} {x y : D} {k k' : Bool → Prop} (m : ∀ z, k z → k' z) (h : dCmp op x y k) : dCmp op x y k' := by
  unfold dCmp at h ⊢
  split at h <;> first | exact m _ h | exact ⟨h.1, m _ h.2⟩ | exact h.elim
structure Snd (G : Gg) (P : Program) (w : World) (base : Heap) (n : Nat) : Prop where
  e : ∀ {c : Ci} {X : Cx} {e : Expr} {ρ : Rho} {k : KD} {kx : KX}, CiOk c G P w base X → vE n c e ρ k kx → EJ G X e ρ k kx
  t : ∀ {c : Ci} {X : Cx} {e : Expr} {ρ : Rho} {k : Bool → Rho → Prop} {kx : KX}, CiOk c G P w base X → vT n c e ρ k kx → TJ G X e ρ k kx
  an : ∀ {c : Ci} {X : Cx} {es : List Expr} {ρ : Rho} {k : KD} {kx : KX} {pos : Pos}, CiOk c G P w base X → vAnd n c es ρ k kx → EJ G X (.BoolOp .And es pos) ρ k kx
  orr : ∀ {c : Ci} {X : Cx} {es : List Expr} {ρ : Rho} {k : KD} {kx : KX} {pos : Pos}, CiOk c G P w base X → vOr n c es ρ k kx → EJ G X (.BoolOp .Or es pos) ρ k kx
  ta : ∀ {c : Ci} {X : Cx} {es : List Expr} {ρ : Rho} {k : Bool → Rho → Prop} {kx : KX} {pos : Pos}, CiOk c G P w base X → vTAnd n c es ρ k kx → WJ G X (.BoolOp .And es pos) ρ k kx
  to : ∀ {c : Ci} {X : Cx} {es : List Expr} {ρ : Rho} {k : Bool → Rho → Prop} {kx : KX} {pos : Pos}, CiOk c G P w base X → vTOr n c es ρ k kx → WJ G X (.BoolOp .Or es pos) ρ k kx
  a : ∀ {c : Ci} {X : Cx} {es : List Expr} {ρ : Rho} {k : List D → Rho → Prop} {kx : KX}, CiOk c G P w base X → vA n c es ρ k kx → AJ G X es ρ k kx
  ca : ∀ {c : Ci} {X : Cx} {f : Str} {args : List Expr} {p pos : Pos} {ρ : Rho} {k : KD} {kx : KX}, CiOk c G P w base X → vCall n c f args ρ k kx → EJ G X (.Call (.Name f p) args [] pos) ρ k kx
  f : ∀ {c : Ci} {X : Cx} {e : Expr} {ρ : Rho} {k : List D → Rho → Prop} {kx : KX}, CiOk c G P w base X → vF n c e ρ k kx → FJ G X e ρ k kx
  cl : ∀ {c : Ci} {X : Cx} {scope : Scope} {vs : List Nat} {j : Nat} {ifs : List Expr} {elt : Expr} {l : List D} {ρ : Rho} {k : List D → Rho → Prop}, CiOk c G P w base X → vCLoop n c scope vs j ifs elt l ρ k → CLoop G X scope vs j ifs elt l ρ k ∧ (l = [] ∨ ifs = [] ∨ ∃ t, ifs = [t])
  o : ∀ {c : Ci} {X : Cx} {e : Option Expr} {ρ : Rho} {k : Option Int → Rho → Prop} {kx : KX}, CiOk c G P w base X → vO n c e ρ k kx → TX.OJ G X e ρ k kx
  j : ∀ {c : Ci} {X : Cx} {es : List Expr} {acc : Str} {ρ : Rho} {k : Str → Rho → Prop} {kx : KX}, CiOk c G P w base X → vJ n c es acc ρ k kx → TX.JJ G X kx es acc ρ k
section
variable {G : Gg} {P : Program} {w : World} {base : Heap} {n : Nat}
theorem vA_star {c : Ci} {es : List Expr} {ρ : Rho} {k : List D → Rho → Prop} {kx : KX} (h : vA n c es ρ k kx) : noStar es = true := by
  cases n with
  | zero => unfold vA at h; exact h.elim
  | succ n =>
    cases es with
    | nil => rfl
    | cons e r => unfold vA at h; exact (gd_ok h).1
theorem s_a (S : Snd G P w base n) {c : Ci} {X : Cx} {es : List Expr} {ρ : Rho} {k : List D → Rho → Prop} {kx : KX} (C : CiOk c G P w base X) (h : vA (n + 1) c es ρ k kx) : AJ G X es ρ k kx := by
  unfold vA at h
  split at h
  · exact aj_nil h
  · obtain ⟨hs, h⟩ := gd_ok h
    exact aj_cons (star_ok hs).1 (ej_mono (S.e C h) fun d ρ1 q => S.a C q)
theorem s_and (S : Snd G P w base n) {c : Ci} {X : Cx} {es : List Expr} {ρ : Rho} {k : KD} {kx : KX} {pos : Pos} (C : CiOk c G P w base X) (h : vAnd (n + 1) c es ρ k kx) : EJ G X (.BoolOp .And es pos) ρ k kx := by
  unfold vAnd at h
  split at h
  · exact h.elim
  · exact ej_one (S.e C h)
  · refine ej_and (ej_mono (S.e C h) fun d ρ1 q => ?_)
    obtain ⟨b, e, q⟩ := vBl_ok q
    refine ⟨b, e, ?_⟩
    cases b with
    | true => exact S.an C q
    | false => exact q
theorem s_or (S : Snd G P w base n) {c : Ci} {X : Cx} {es : List Expr} {ρ : Rho} {k : KD} {kx : KX} {pos : Pos} (C : CiOk c G P w base X) (h : vOr (n + 1) c es ρ k kx) : EJ G X (.BoolOp .Or es pos) ρ k kx := by
  unfold vOr at h
  split at h
  · exact h.elim
  · exact ej_one (S.e C h)
  · refine ej_or (ej_mono (S.e C h) fun d ρ1 q => ?_)
    obtain ⟨b, e, q⟩ := vBl_ok q
    refine ⟨b, e, ?_⟩
    cases b with
    | true => exact q
    | false => exact S.orr C q
theorem s_ta (S : Snd G P w base n) {c : Ci} {X : Cx} {es : List Expr} {ρ : Rho} {k : Bool → Rho → Prop} {kx : KX} {pos : Pos} (C : CiOk c G P w base X) (h : vTAnd (n + 1) c es ρ k kx) : WJ G X (.BoolOp .And es pos) ρ k kx := by
  unfold vTAnd at h
  split at h
  · exact h.elim
  · exact wj_and1 (S.t C h)
  · refine wj_and (tj_mono (S.t C h) fun b ρ1 q => ?_)
    cases b with
    | true => exact S.ta C q
    | false => exact q
theorem s_to (S : Snd G P w base n) {c : Ci} {X : Cx} {es : List Expr} {ρ : Rho} {k : Bool → Rho → Prop} {kx : KX} {pos : Pos} (C : CiOk c G P w base X) (h : vTOr (n + 1) c es ρ k kx) : WJ G X (.BoolOp .Or es pos) ρ k kx := by
  unfold vTOr at h
  split at h
  · exact h.elim
  · exact wj_or1 (S.t C h)
  · refine wj_or (tj_mono (S.t C h) fun b ρ1 q => ?_)
    cases b with
    | true => exact q
    | false => exact S.to C q
theorem ci_blk {c : Ci} {X : Cx} (C : CiOk c G P w base X) {scope : Scope} (s : Shared) (H0 : Hp) (Cd : Addr) (cl : List (Str × Addr)) (fp : List Addr) : CiOk (inBlk c scope) G P w base (blkX X scope s H0 Cd cl fp) :=
  ⟨C.prog, C.wo, C.K, C.mg, C.bas, C.N, by show relS scope X.env.scope = relS scope c.sc; rw [C.sc], C.nd, C.calm, C.room, C.gd, C.dig, C.gs, fun x fine l isa z => by cases z⟩
theorem s_cl (S : Snd G P w base n) {c : Ci} {X : Cx} {scope : Scope} {vs : List Nat} {j : Nat} {ifs : List Expr} {elt : Expr} {l : List D} {ρ : Rho} {k : List D → Rho → Prop} (C : CiOk c G P w base X) (h : vCLoop (n + 1) c scope vs j ifs elt l ρ k) : CLoop G X scope vs j ifs elt l ρ k ∧ (l = [] ∨ ifs = [] ∨ ∃ t, ifs = [t]) := by
  unfold vCLoop at h
  obtain ⟨J, h0, hst, hd⟩ := h
  refine ⟨⟨J, h0, fun i d acc ρ1 e hJ => ?_, hd⟩, ?_⟩
  · obtain ⟨h1, h2⟩ := hst i d acc ρ1 e hJ
    refine ⟨h1, ?_⟩
    unfold CStep
    split at h2
    · exact fun s H0 Cd cl fp => S.e (ci_blk C s H0 Cd cl fp) h2
    · intro s H0 Cd cl fp
      refine tj_mono (S.t (ci_blk C s H0 Cd cl fp) h2) fun b ρ2 ⟨q1, q2⟩ => ⟨q1, ?_⟩
      cases b with
      | true => exact fun s H0 Cd cl fp => S.e (ci_blk C s H0 Cd cl fp) q2
      | false => exact q2
    · exact h2.elim
  · cases l with
    | nil => exact .inl rfl
    | cons d r =>
      obtain ⟨_, h2⟩ := hst 0 d [] ρ rfl h0
      split at h2
      · exact .inr (.inl rfl)
      · exact .inr (.inr ⟨_, rfl⟩)
      · exact h2.elim
theorem vLst_ok {x : D} {k : List D → Prop} (h : vLst x k) : ∃ l, (x = .lst l ∨ x = .fls l) ∧ k l := by
  unfold vLst at h
  split at h
  · exact ⟨_, .inl rfl, h⟩
  · exact ⟨_, .inr rfl, h⟩
  · exact h.elim
theorem vTup_ok {x : D} {k : List D → Prop} (h : vTup x k) : ∃ l, x = .tup l ∧ k l := by
  unfold vTup at h
  split at h
  · exact ⟨_, rfl, h⟩
  · exact h.elim
theorem vStr_ok {x : D} {k : Str → Prop} (h : vStr x k) : ∃ l, x = .str l ∧ k l := by
  unfold vStr at h
  split at h
  · exact ⟨_, rfl, h⟩
  · exact h.elim
theorem vInt3_ok {ds : List D} {k : Int → Int → Int → Prop} (h : vInt3 ds k) : ∃ i e s, ds = [.int i, .int e, .int s] ∧ k i e s := by
  unfold vInt3 at h
  split at h
  · exact ⟨_, _, _, rfl, h⟩
  · exact h.elim
theorem vGl_ok {c : Ci} {x : Str} {id : String} {P : Prop} (h : vGl c x (.typ id) P) : c.gs.lookup x = some (.typ id) ∧ P := by
  unfold vGl at h
  split at h
  · rename_i i1 i2 h1 h2
    split at h
    · rename_i e
      cases h2
      rw [← (beq_iff_eq.mp e)]
      exact ⟨h1, h⟩
    · exact h.elim
  · exact h.elim
theorem set_ok {e : Expr} {env : Env} (h : noSet e = true) : ∀ x, foldedSetIterable e env x = pure x := by
  intro x
  cases e <;> first | rfl | cases h
theorem ownC_map (N : List Str) : ∀ ns : List (Str × NameKind), ∀ p ∈ ownC N ns, True := fun _ _ _ => trivial
/-- what stands of a comprehension -/
structure CF (G : Gg) (X : Cx) (elt : Expr) (x : Str) (p : Pos) (iter : Expr) (ifs : List Expr) (scope : Scope) (ρ : Rho) (k : List D → Rho → Prop) (kx : KX) (own : List (Str × Nat)) (j : Nat) : Prop where
  nd : X.N.Nodup
  ok : BlkOk X.N X.env.scope scope own
  hg : ∀ (s : Shared) (H : Hp) (Cd : Addr) (cl : List (Str × Addr)) (fp : List Addr), PG (blkX X scope s H Cd cl fp) (.Name x p) (gName j)
  hif : ifs = [] ∨ ∃ t, ifs = [t]
  hs : ∀ v, foldedSetIterable iter X.env v = pure v
  cj : CJ G X scope own x p j iter ifs elt ρ k kx
theorem s_c (S : Snd G P w base n) {c : Ci} {X : Cx} {elt : Expr} {x : Str} {p : Pos} {iter : Expr} {ifs : List Expr} {scope : Scope} {pos : Pos} {ρ : Rho} {k : List D → Rho → Prop} {kx : KX} (C : CiOk c G P w base X) (h : vF (n + 1) c (.ListComp elt [⟨.Name x p, iter, ifs, 0⟩] scope pos) ρ k kx) :
    ∃ own j, CF G X elt x p iter ifs scope ρ k kx own j := by
  unfold vF at h
  obtain ⟨j, hj, h⟩ := vSome_ok h
  obtain ⟨hb, h⟩ := gd_ok h
  obtain ⟨b0, b1⟩ := Bool.and_eq_true_iff.mp hb
  obtain ⟨b1, b2⟩ := Bool.and_eq_true_iff.mp b1
  have hifs : ifs = [] ∨ ∃ t, ifs = [t] := by
    unfold okIfs at b0
    split at b0
    · exact .inl rfl
    · exact .inr ⟨_, rfl⟩
    · cases b0
  have ok : BlkOk X.N X.env.scope scope (ownC c.N scope.names) := by rw [C.N, C.sc]; exact blkOk_by b1
  have hN : X.N.Nodup := by rw [C.N]; exact C.nd
  obtain ⟨m, em, hm⟩ := idx_ok hj
  have hjx : X.N[j]? = some x := by rw [C.N, em, Nat.zero_add]; exact hm
  have lc : (relS scope X.env.scope).names.lookup x = some .local := by rw [C.sc]; exact of_decide_eq_true b2
  have hg : ∀ (s : Shared) (H : Hp) (Cd : Addr) (cl : List (Str × Addr)) (fp : List Addr), PG (blkX X scope s H Cd cl fp) (.Name x p) (gName j) := fun s H Cd cl fp => pg_name (X := blkX X scope s H Cd cl fp) hN hjx (.inl lc) (.inr lc)
  split at h
  · rename_i rg rp a rpos _ _ _
    obtain ⟨hb, h⟩ := gd_ok h
    obtain ⟨b3, b34⟩ := Bool.and_eq_true_iff.mp hb
    obtain ⟨b4, b5⟩ := Bool.and_eq_true_iff.mp b34
    clear b34
    obtain rfl : rg = ("range" : Str) := by simpa using b3
    obtain ⟨hl, h⟩ := vGl_ok h
    obtain ⟨g1, g2⟩ := C.gs _ _ hl
    obtain ⟨s1, s2⟩ := star_ok (env := X.env) b4
    refine ⟨_, j, hN, ok, hg, hifs, fun v => rfl, cj_compR C.calm hN ok hg hifs (by show X.env.scope.names.lookup _ = _; rw [C.sc]; exact of_decide_eq_true b5) (by rw [C.mg]; exact g1) s1 s1 (fun x => rfl) (ej_mono (S.e C h) fun d ρ1 q => ?_)⟩
    obtain ⟨m, e, q⟩ := vInt_ok q
    exact ⟨m, e, q.1, (S.cl C q.2).1⟩
  · rename_i rg rp a b d rpos _ _ _
    obtain ⟨hb, h⟩ := gd_ok h
    obtain ⟨b3, b34⟩ := Bool.and_eq_true_iff.mp hb
    obtain ⟨b4, b5⟩ := Bool.and_eq_true_iff.mp b34
    clear b34
    obtain rfl : rg = ("range" : Str) := by simpa using b3
    obtain ⟨hl, h⟩ := vGl_ok h
    obtain ⟨g1, g2⟩ := C.gs _ _ hl
    obtain ⟨s1, s2⟩ := star_ok (env := X.env) b4
    refine ⟨_, j, hN, ok, hg, hifs, fun v => rfl, cj_compR3 C.calm hN ok hg hifs (by show X.env.scope.names.lookup _ = _; rw [C.sc]; exact of_decide_eq_true b5) (by rw [C.mg]; exact g1) s1 (back_ok s2) (aj_mono (S.a C h) fun ds ρ1 q => ?_)⟩
    obtain ⟨i, e, s, e1, m, q1, q2⟩ := vInt3_ok q
    exact ⟨i, e, s, m, e1, q1, (S.cl C q2).1⟩
  · obtain ⟨hb, h⟩ := gd_ok h
    refine ⟨_, j, hN, ok, hg, hifs, set_ok hb, cj_compL C.K C.calm hN ok hg hifs (set_ok hb) (ej_mono (S.e C h) fun d ρ1 q => ?_)⟩
    obtain ⟨l, e, q⟩ := vLst_ok q
    exact ⟨l, e, (S.cl C q).1⟩
  · obtain ⟨hb, h⟩ := gd_ok h
    refine ⟨_, j, hN, ok, hg, hifs, set_ok hb, cj_compT C.K C.calm hN ok hg hifs (set_ok hb) (ej_mono (S.e C h) fun d ρ1 q => ?_)⟩
    obtain ⟨l, e, q⟩ := vTup_ok q
    exact ⟨l, e, (S.cl C q).1⟩
  · obtain ⟨hb, h⟩ := gd_ok h
    refine ⟨_, j, hN, ok, hg, hifs, set_ok hb, cj_compS C.calm hN ok hg hifs (set_ok hb) (ej_mono (S.e C h) fun d ρ1 q => ?_)⟩
    obtain ⟨l, e, q⟩ := vStr_ok q
    exact ⟨l, e, (S.cl C q).1⟩
  · exact h.elim
theorem s_f (S : Snd G P w base n) {c : Ci} {X : Cx} {e : Expr} {ρ : Rho} {k : List D → Rho → Prop} {kx : KX} (C : CiOk c G P w base X) (h : vF (n + 1) c e ρ k kx) : FJ G X e ρ k kx := by
  have h0 := h
  unfold vF at h
  split at h
  · exact fj_lst (S.a C h)
  · rename_i f p a r pos
    split at h
    · rename_i hk
      obtain ⟨hg, hd, hn⟩ := (kind_ok C).2 hk
      split at h
      · rename_i j Sp m hl
        obtain ⟨hj, h2⟩ := gd_ok h
        obtain ⟨g, fd, ps, h1, F, hkk, hb⟩ := C.gs _ _ hl
        obtain ⟨e1, e2⟩ := star_ok (env := X.env) (vA_star h2)
        refine fj_call (j := c.k) (f := g) (fd := fd) (ps := ps) (S := Sp) (m := m) (by rw [C.prog, C.wo, C.K, C.mg, C.bas]; exact F.mono (Nat.ble_eq.mp hj)) C.gd C.room hg (by rw [C.mg]; exact h1) (by rw [C.K]; exact hkk) (by rw [C.K]; exact hb) hd e1 (back_ok e2) (aj_mono (S.a C h2) fun ds ρ1 q => ?_)
        obtain ⟨q1, q2⟩ := gd_ok q
        exact ⟨Nat.eq_of_beq_eq_true q1, q2⟩
      · rename_i T hl
        obtain ⟨hb, h2⟩ := gd_ok h
        obtain ⟨b1, b2⟩ := Bool.and_eq_true_iff.mp hb
        obtain ⟨b3, b4⟩ := Bool.and_eq_true_iff.mp b2
        clear hb b2 h h0
        obtain rfl : r = [] := List.isEmpty_iff.mp b3
        obtain rfl : T = "list" := by simpa using b1
        obtain ⟨h3, h4⟩ := C.gs _ _ hl
        obtain ⟨e1, e2⟩ := star_ok (env := X.env) b4
        exact TX.fj_list C.K hg (by rw [C.mg]; exact h3) h4 hn hd e1 (back_ok e2) (ej_mono (S.e C h2) fun d ρ1 q => by
          unfold vSeq at q
          split at q
          · exact ⟨_, .inl rfl, q⟩
          · exact ⟨_, .inr (.inl rfl), q⟩
          · exact ⟨_, .inr (.inr rfl), q⟩
          · exact q.elim)
      · exact h.elim
    · exact h.elim
  · obtain ⟨own, j, F⟩ := s_c S C h0
    exact fj_of C.calm F.nd F.ok F.hg F.hif F.hs F.cj
  · exact h.elim
theorem s_t (S : Snd G P w base n) {c : Ci} {X : Cx} {e : Expr} {ρ : Rho} {k : Bool → Rho → Prop} {kx : KX} (C : CiOk c G P w base X) (h : vT (n + 1) c e ρ k kx) : TJ G X e ρ k kx := by
  have hu := (cond_lt C.room).1
  unfold vT at h
  split at h
  · obtain ⟨hm, h2⟩ := gd_ok h
    clear h
    have hm' := Bool.not_eq_true' _ ▸ hm
    split at h2
    · rename_i i ho
      obtain ⟨x, p, l, e, hc, hN, hv, hd, hcd⟩ := ownOf_ok C ho
      subst e
      refine tj_cmpO C.K hu hm' hN hv hd hcd hc (ej_mono (S.e C h2) fun y ρ2 q => ?_)
      obtain ⟨l, e, q⟩ := vSome_ok q
      exact ⟨l, contL_ok e, q⟩
    · exact tj_cmp C.K hu hm' (ej_mono (S.e C h2) fun x ρ1 q => S.e C q)
  · obtain ⟨hm, h2⟩ := gd_ok h
    have hm' := Bool.not_eq_true' _ ▸ hm
    refine tj_chain C.K hu hm' (ej_mono (S.e C h2) fun x ρ1 q => ej_mono (S.e C q) fun y ρ2 q => dCmp_mono (fun z q => ?_) q)
    cases z with
    | true => exact S.e C q
    | false => exact q
  · exact tj_not (S.t C h)
  · exact tj_bool (S.ta C h)
  · exact tj_bool (S.to C h)
  · exact tj_val (fun _ => rfl) (ej_mono (S.e C h) fun d ρ1 q => vBl_ok q)
  · exact tj_val (fun _ => rfl) (ej_mono (S.e C h) fun d ρ1 q => vBl_ok q)
  · exact h.elim
end
end DL
set_option Elab.async false
set_option linter.all false
set_option maxRecDepth 100000
set_option maxHeartbeats 4000000
namespace DL
open PySem PySem.Spec PyProof.Rows L2 LamX DLX
section
variable {G : Gg} {P : Program} {w : World} {base : Heap} {n : Nat}
theorem s_name {c : Ci} {X : Cx} {x : Str} {ρ : Rho} {k : KD} {kx : KX} {pos : Pos} (C : CiOk c G P w base X) (h : vName c x ρ k) : EJ G X (.Name x pos) ρ k kx := by
  obtain ⟨ks, kg⟩ := kind_ok C (x := x)
  unfold vName at h
  split at h
  · rename_i i e
    obtain ⟨hN, hv, hd, hcd⟩ := ks i e
    obtain ⟨d, e1, q⟩ := vVal_ok h
    exact ej_var hN hv hd hcd e1 q
  · rename_i e
    obtain ⟨hg, hd, hn⟩ := kg e
    split at h
    · rename_i d hl
      rcases C.gs x _ hl with ⟨u, v, h1, h2, h3⟩ | ⟨T, e1, h1, h2⟩
      · exact ej_glob hg (by rw [C.mg]; exact h1) h2 h3 hd h
      · subst e1
        exact ej_ty hg (by rw [C.mg]; exact h1) h2 hn hd h
    · rename_i T hl
      obtain ⟨h1, h2⟩ := C.gs x _ hl
      exact ej_ty hg (by rw [C.mg]; exact h1) h2 hn hd h
    · rename_i hl
      obtain ⟨f, fd, ps, h1, _⟩ := C.gs x _ hl
      exact ej_glob (d := .fn x) (v := .ref f) hg (by rw [C.mg]; exact h1) rfl (fun W H => ⟨f, rfl, h1⟩) hd h
    · exact h.elim
  · exact h.elim
theorem vStr_ok2 {x : D} {k : Str → Prop} (h : vStr x k) : ∃ l, x = .str l ∧ k l := by
  unfold vStr at h
  split at h
  · exact ⟨_, rfl, h⟩
  · exact h.elim
theorem s_o (S : Snd G P w base n) {c : Ci} {X : Cx} {e : Option Expr} {ρ : Rho} {k : Option Int → Rho → Prop} {kx : KX} (C : CiOk c G P w base X) (h : vO (n + 1) c e ρ k kx) : TX.OJ G X e ρ k kx := by
  unfold vO at h
  cases e with
  | none => exact h
  | some e => exact ej_mono (S.e C h) fun y ρ1 q => vInt_ok q
theorem s_j (S : Snd G P w base n) {c : Ci} {X : Cx} {es : List Expr} {acc : Str} {ρ : Rho} {k : Str → Rho → Prop} {kx : KX} (C : CiOk c G P w base X) (h : vJ (n + 1) c es acc ρ k kx) : TX.JJ G X kx es acc ρ k := by
  unfold vJ at h
  cases es with
  | nil => exact h
  | cons e r =>
    refine ej_mono (S.e C h) fun y ρ1 q => ?_
    obtain ⟨y, e1, q1, q2⟩ := vStr_ok2 q
    exact ⟨y, e1, q1, S.j C q2⟩
theorem setArg_ok {c : Ci} {X : Cx} (C : CiOk c G P w base X) {a b : Expr} (h : setArg c a = some b) : ∃ p2 p3, a = .Call (.Name "set" p2) [b] [] p3 ∧ Gl X "set" ∧ X.mg "set" = none ∧ noStar [b] = true := by
  unfold setArg at h
  split at h
  · rename_i g p2 b' p3
    split at h
    · rename_i hk
      obtain ⟨hg, _, _⟩ := (kind_ok C (x := g)).2 hk
      split at h
      · rename_i T hl
        split at h
        · rename_i hb
          obtain ⟨_, h2⟩ := Bool.and_eq_true_iff.mp hb
          obtain ⟨h2, h3⟩ := Bool.and_eq_true_iff.mp h2
          obtain rfl : g = ("set" : Str) := by simpa using h2
          cases h
          exact ⟨p2, p3, rfl, hg, by rw [C.mg]; exact (C.gs _ _ hl).1, h3⟩
        · cases h
      · cases h
    · cases h
  · cases h
theorem genArg_ok {c : Ci} {a : Expr} {j m : Nat} {Sg : GSpec} {dds : List D} {xs : List Str} {es : List Expr} (h : genArg c a = some (j, Sg, m, dds, xs, es)) : ∃ g p2 e r p3, a = .Call (.Name g p2) (e :: r) [] p3 ∧ es = e :: r ∧ kind c g = .glo ∧ c.gs.lookup g = some (.gf j Sg m dds xs) := by
  unfold genArg at h
  split at h
  · rename_i g p2 e r p3
    split at h
    · rename_i hk
      split at h
      · rename_i hl
        cases h
        exact ⟨g, p2, e, r, p3, rfl, rfl, hk, hl⟩
      · cases h
    · cases h
  · cases h
theorem s_e (S : Snd G P w base n) {c : Ci} {X : Cx} {e : Expr} {ρ : Rho} {k : KD} {kx : KX} (C : CiOk c G P w base X) (h : vE (n + 1) c e ρ k kx) : EJ G X e ρ k kx := by
  have hu := (cond_lt C.room).1
  unfold vE at h
  split at h
  · exact ej_int h
  · exact ej_bl h
  · exact ej_str h
  · exact ej_non h
  · exact s_name C h
  · exact ej_bin C.K (ej_mono (S.e C h) fun x ρ1 q => S.e C q)
  · obtain ⟨hm, h2⟩ := gd_ok h
    clear h
    have hm' := Bool.not_eq_true' _ ▸ hm
    split at h2
    · rename_i i ho
      obtain ⟨x, p, l, e, hc, hN, hv, hd, hcd⟩ := ownOf_ok C ho
      subst e
      refine ej_cmpO C.K hu hm' hN hv hd hcd hc (ej_mono (S.e C h2) fun y ρ2 q => ?_)
      obtain ⟨l, e, q⟩ := vSome_ok q
      exact ⟨l, contL_ok e, q⟩
    · exact ej_cmp C.K hu hm' (ej_mono (S.e C h2) fun x ρ1 q => S.e C q)
  · obtain ⟨hm, h2⟩ := gd_ok h
    have hm' := Bool.not_eq_true' _ ▸ hm
    refine ej_chain C.K hu hm' (ej_mono (S.e C h2) fun x ρ1 q => ej_mono (S.e C q) fun y ρ2 q => dCmp_mono (fun z q => ?_) q)
    cases z with
    | true => exact S.e C q
    | false => exact q
  · exact ej_neg (ej_mono (S.e C h) fun x ρ1 q => vInt_ok q)
  · exact ej_not (ej_mono (S.e C h) fun x ρ1 q => vBl_ok q)
  · exact S.an C h
  · exact S.orr C h
  · refine ej_if (tj_mono (S.t C h) fun z ρ1 q => ?_)
    cases z with
    | true => exact S.e C q
    | false => exact S.e C q
  · refine TX.ej_sl C.K (ej_mono (S.e C h) fun x ρ1 q => ?_)
    have oj_mono : ∀ {e : Option Expr} {ρ : Rho} {k k' : Option Int → Rho → Prop} {kx : KX}, TX.OJ G X e ρ k kx → (∀ o ρ1, k o ρ1 → k' o ρ1) → TX.OJ G X e ρ k' kx := fun {e} {ρ} {k} {k'} {kx} h m => by
      cases e with
      | none => exact m _ _ h
      | some e => exact ej_mono h fun y ρ1 ⟨j, e1, q⟩ => ⟨j, e1, m _ _ q⟩
    exact oj_mono (S.o C q) fun i ρ2 q => S.o C q
  · obtain ⟨hp, h2⟩ := gd_ok h
    clear h
    split at h2
    · rename_i i ho
      obtain ⟨x, p, l, e, hc, hN, hv, hd, hcd⟩ := ownOf_ok C ho
      subst e
      refine ej_ixO C.K (plain_ok hp) hN hv hd hcd hc (ej_mono (S.e C h2) fun y ρ2 q => ?_)
      obtain ⟨j, e, q⟩ := vInt_ok q
      obtain ⟨l, e2, q⟩ := vSome_ok q
      obtain ⟨d, e3, q⟩ := vSome_ok q
      exact ⟨l, contL_ok e2, j, d, e, e3, q⟩
    · exact ej_ix C.K (plain_ok hp) (ej_mono (S.e C h2) fun x ρ1 q => S.e C q)
  · exact ej_tup (S.a C h)
  · exact ej_lst (S.a C h)
  · exact S.ca C h
  · exact ej_new (S.f C h)
  · rename_i x p m ap a cp
    split at h
    · rename_i i ho
      obtain ⟨x', p', l, e, hc, hN, hv, hd, hcd⟩ := ownOf_ok C ho
      cases e
      obtain ⟨hb, h2⟩ := gd_ok h
      obtain ⟨b1, b2⟩ := Bool.and_eq_true_iff.mp hb
      obtain ⟨b3, b4⟩ := Bool.and_eq_true_iff.mp b2
      clear h hb b2
      obtain rfl : m = ("pop" : Str) := by simpa using b1
      obtain ⟨s1, s2⟩ := star_ok (env := X.env) b4
      have hfew : ((backTo cp (starEach (a :: []) X.env)).all (fun x => !x.1) && (backToKw cp (keywordEach [] X.env)).all (fun x => x.1.isSome)
          && decide ((a :: []).length + ([] : List Keyword).length + (if ([] : List Keyword).isEmpty then 0 else 1) < 30)) = true := by rw [s1]; rfl
      refine TX.ej_pop hN hv hd hcd hc s1 b3 hfew (back_ok s2) (ej_mono (S.e C h2) fun y ρ1 q => ?_)
      obtain ⟨j, e, q⟩ := vInt_ok q
      obtain ⟨l', e2, q⟩ := vSome_ok q
      obtain ⟨q0, q⟩ := q
      obtain ⟨kk, e3, q⟩ := vSome_ok q
      obtain ⟨d, e4, q⟩ := vSome_ok q
      exact ⟨j, e, l', contL_ok e2, q0, kk, e3, d, e4, q⟩
    · skip
      obtain ⟨hb, h2⟩ := gd_ok h
      clear h
      obtain ⟨b1, b2⟩ := Bool.and_eq_true_iff.mp hb
      obtain ⟨b2, b3⟩ := Bool.and_eq_true_iff.mp b2
      have s1 := (star_ok (env := X.env) b2).1
      have h3 : EJ G X (.Name x p) ρ (fun d ρ1 => ∃ s, d = .str s ∧ EJ G X a ρ1 (fun y ρ2 => ∃ t, y = .str t ∧ vM m s t fun z => k z ρ2) kx) kx := ej_mono (S.e C h2) fun d ρ1 q => by
        obtain ⟨s, e, q⟩ := vStr_ok2 q
        exact ⟨s, e, ej_mono (S.e C q) fun y ρ2 q => vStr_ok2 q⟩
      cases m1 : m == ("startswith" : Str) with
      | true =>
        obtain rfl : m = ("startswith" : Str) := by simpa using m1
        exact TX.ej_starts s1 b1 (ej_mono h3 fun d ρ1 ⟨s, e, q⟩ => ⟨s, e, ej_mono q fun y ρ2 ⟨t, e2, q⟩ => ⟨t, e2, q⟩⟩)
      | false =>
        cases m2 : m == ("split" : Str) with
        | true =>
          obtain rfl : m = ("split" : Str) := by simpa using m2
          exact TX.ej_split s1 b1 (ej_mono h3 fun d ρ1 ⟨s, e, q⟩ => ⟨s, e, ej_mono q fun y ρ2 ⟨t, e2, q⟩ => ⟨t, e2, q⟩⟩)
        | false =>
          rw [m1, m2] at b3
          cases b3
  · exact TX.ej_js1 (S.e C h)
  · rename_i es _ _
    obtain ⟨hb, h2⟩ := gd_ok h
    match es, hb, h2 with
    | v1 :: v2 :: r, _, h2 => exact TX.ej_js (S.j C h2)
    | [_], hb, _ => cases hb
    | [], hb, _ => cases hb
  · obtain ⟨hb, h2⟩ := gd_ok h
    have hm := eq_of_beq hb
    subst hm
    exact TX.ej_fmt (S.e C h2)
  · exact h.elim
theorem bo2 {a b : Bool} (h : (a && b) = true) : a = true ∧ b = true := Bool.and_eq_true_iff.mp h
theorem noParams_ok {ps : Arguments} (h : noParams ps = true) : ps = ⟨[], [], none, [], [], none, []⟩ := by
  unfold noParams at h
  split at h
  · rfl
  · cases h
theorem ci_lam {c : Ci} {X : Cx} (C : CiOk c G P w base X) {scope : Scope} {A : Around} {outer : List Env} {s : Shared} {H : Hp} {E : XK} {f c' : Addr} (gd : A.guards = some []) (r : Room (c.k - 2) (A.deeper (lamEnv X scope s.heap.objs.size f c'))) :
    CiOk { c with sc := scope, k := c.k - 2, met := none } G P w base (lamCx X A outer s H E scope f c') :=
  ⟨C.prog, C.wo, C.K, C.mg, C.bas, C.N, rfl, C.nd, rfl, r, gd, C.dig, C.gs, fun x fine l isa z => by cases z⟩
theorem vFn_ok {x : D} {k : Str → Prop} (h : vFn x k) : ∃ g, x = .fn g ∧ k g := by
  unfold vFn at h
  split at h
  · exact ⟨_, rfl, h⟩
  · exact h.elim
/-- a call of a local name that holds a def -/
theorem ej_callL {X : Cx} {ρ : Rho} {k : KD} {kx : KX} {pos p : Pos} {i j m : Nat} {f : Addr} {fd : FuncData} {ps : List Str} {Sp' : PSpec} {x g : Str} {e : Expr} {es : List Expr} (hm : G.mg g = some (.ref f)) (hP : X.K = G.K ∧ X.mg = G.mg)
    (F : FnG X.prog X.w X.K X.mg X.base (L2.CX X.prog X.w) j f fd ps (spP G m Sp')) (gd : X.A.guards = some []) (hr : Room j X.A) (kk : PySem.W.keepIn X.K (.ref f) = true) (hb : Binds X.K fd ps []) (hN : X.N[i]? = some x) (hv : Vis X.env.scope x) (hd : (x == ("__debug__" : Str)) = false) (hcd : (x == ("__classdict__" : Str)) = false)
    (he : starEach (e :: es) X.env = (false, eval e X.env) :: starEach es X.env) (hpl : (backTo pos (starEach es X.env)).any (·.1) = false) (hρ : ρ[i]? = some (.val (.fn g)))
    (h : AJ G X (e :: es) ρ (fun ds ρ1 => ds.length = m ∧ Sp' ds (fun z => k z ρ1) (fun x => kx x ρ1)) kx) : EJ G X (.Call (.Name x p) (e :: es) [] pos) ρ k kx := by
  intro P W σ H A Q Wx tk n xp pins s I
  obtain ⟨v0, h1, f', rfl, h2⟩ := A.val i _ hρ
  rw [hm] at h2; cases h2
  refine wpAny_Call_Name_kw (thn ((pe_var (pos := p) hN hv hd hcd).run pins s σ H (fun v H1 => v = .ref f ∧ H1 = H) I ⟨.ref f, h1, rfl, rfl⟩) ?_)
  rintro u s1 ⟨v, H1, I1, r1, rfl, rfl⟩
  cases r1
  have sa := h P W σ H1 A (fun vs H2 => spP G m Sp' vs H2 Q (WE Wx σ)) Wx tk (fun ds ρ1 vs H2 ⟨hl, hS⟩ A1 L1 r1 => ⟨W, ds, _, _, hl, hS, r1, A1.wd, A1.tb, fun d v H' hz kp tb r' => n _ _ _ _ hz (A1.kp kp tb) (L1.trans (Lx.kp kp)) r', fun x cls dd H' hz kp tb r' => xp _ _ _ _ _ hz (A1.kp kp tb) (L1.trans (Lx.kp kp)) r'⟩) xp
  refine PySem.W.callWith_K (h₀ := X.base) I1.ok.mod.kin kk (thn (sa pos pins s1 I1) ?_) he hpl
  rintro us s2 ⟨vs, H2, I2, r2, q2⟩
  exact ⟨I2.kIn, run_G (dvs := []) (dsv := []) F gd hr hb .nil (passAt tk σ) I2 r2 (by rw [List.append_nil]; exact q2)⟩
theorem s_ca (S : Snd G P w base n) {c : Ci} {X : Cx} {f : Str} {args : List Expr} {p pos : Pos} {ρ : Rho} {k : KD} {kx : KX} (C : CiOk c G P w base X) (h : vCall (n + 1) c f args ρ k kx) : EJ G X (.Call (.Name f p) args [] pos) ρ k kx := by
  obtain ⟨ks, kg⟩ := kind_ok C (x := f)
  have hu := cond_lt C.room
  unfold vCall at h
  split at h
  · exact h.elim
  · rename_i i e
    obtain ⟨hN, hv, hd, hcd⟩ := ks i e
    split at h
    · exact h.elim
    · rename_i a r
      obtain ⟨d, e1, h0⟩ := vVal_ok h
      obtain ⟨g, ed, h1⟩ := vFn_ok h0
      clear h h0
      subst ed
      split at h1
      · rename_i j Sp m dds hl
        obtain ⟨hb, h2⟩ := gd_ok h1
        obtain ⟨b1, b2⟩ := bo2 hb
        obtain rfl : dds = [] := List.isEmpty_iff.mp b1
        obtain ⟨fa, fd, ps, h1, F, hk, hall⟩ := C.gs _ _ hl
        obtain ⟨dvs, dsv, hb, hv', hr⟩ := hall m
        obtain rfl : dvs = [] := by
          have q := hr (fun _ => False) (fun _ => none)
          unfold dfl at q
          rw [List.drop_nil] at q
          exact q
        cases hv'
        obtain ⟨s1, s2⟩ := star_ok (env := X.env) (vA_star h2)
        refine ej_callL (j := c.k) (f := fa) (fd := fd) (ps := ps) (Sp' := Sp) (m := m) h1 ⟨C.K, C.mg⟩ (by rw [C.prog, C.wo, C.K, C.mg, C.bas]; exact F.mono (Nat.ble_eq.mp b2)) C.gd C.room (by rw [C.K]; exact hk) (by rw [C.K]; exact hb) hN hv hd hcd s1 (back_ok s2) e1 (aj_mono (S.a C h2) fun ds ρ1 q => ?_)
        obtain ⟨q1, q2⟩ := gd_ok q
        exact ⟨Nat.eq_of_beq_eq_true q1, q2⟩
      · exact h1.elim
  rename_i e
  obtain ⟨hg, hd, hn⟩ := kg e
  split at h
  · exact h.elim
  · split at h
    · rename_i x fine l isa hm
      obtain ⟨hb, h2⟩ := gd_ok h
      obtain ⟨b1, b2⟩ := bo2 hb
      obtain ⟨b2, b3⟩ := bo2 b2
      obtain ⟨b3, b4⟩ := bo2 b3
      obtain rfl : x = f := by simpa using b1
      obtain ⟨a, ex, M⟩ := C.met _ _ _ _ hm
      have hk : 2 ≤ c.k := Nat.ble_eq.mp b4
      refine ej_met (M _ _ b2 b3 hk) (fun q cl pm cv tv => by rw [noParams_ok b2]; rfl) fun A outer s H E f' c' gd r => ?_
      exact S.e (ci_lam C gd r) h2
    · exact h.elim
  · rename_i a r _
    have st : ∀ {c : Ci} {ρ : Rho} {ka : List D → Rho → Prop} {kx : KX}, vA n c (a :: r) ρ ka kx → (starEach (a :: r) X.env = (false, eval a X.env) :: starEach r X.env ∧ (backTo pos (starEach r X.env)).any (·.1) = false) := fun q => by
      obtain ⟨e1, e2⟩ := star_ok (env := X.env) (vA_star q)
      exact ⟨e1, back_ok e2⟩
    split at h
    · rename_i j Sp m dds hl
      obtain ⟨hj, h2⟩ := gd_ok h
      obtain ⟨g, fd, ps, h1, F, hk, hall⟩ := C.gs _ _ hl
      obtain ⟨dvs, dsv, hb, hv, hr⟩ := hall (a :: r).length
      obtain ⟨s1, s2⟩ := st h2
      refine ej_call ⟨C.K, C.mg⟩ (j := c.k) (f := g) (fd := fd) (ps := ps) (S := Sp) (m := m) (dds := dfl m dds (a :: r).length) (dvs := dvs) (dsv := dsv) (by rw [C.prog, C.wo, C.K, C.mg, C.bas]; exact F.mono (Nat.ble_eq.mp hj)) C.gd C.room hg (by rw [C.mg]; exact h1) (by rw [C.K]; exact hk) (by rw [C.K]; exact hb) hv hr hd s1 s2 (aj_mono (S.a C h2) fun ds ρ1 q => ?_)
      obtain ⟨q1, q2⟩ := gd_ok q
      exact ⟨Nat.eq_of_beq_eq_true q1, q2⟩
    · rename_i j Sp m hl
      obtain ⟨hj, h2⟩ := gd_ok h
      obtain ⟨hj1, hst⟩ := bo2 hj
      obtain ⟨g, fd, ps, h1, F, hk, hb⟩ := C.gs _ _ hl
      obtain ⟨i, ho, h3⟩ := vSome_ok h2
      obtain ⟨x, p', l, e, hc, hN, hv, hd', hcd⟩ := ownOf_ok C ho
      subst e
      obtain ⟨s1, s2⟩ := star_ok (env := X.env) hst
      refine ej_callD ⟨C.K, C.mg⟩ (j := c.k) (f := g) (fd := fd) (ps := ps) (S := Sp) (m := m) (by rw [C.prog, C.wo, C.K, C.mg, C.bas]; exact F.mono (Nat.ble_eq.mp hj1)) C.gd C.room hg (by rw [C.mg]; exact h1) (by rw [C.K]; exact hk) (by rw [C.K]; exact hb) hd s1 (back_ok s2) hN hv hd' hcd hc (aj_mono (S.a C h3) fun ds ρ1 q => ?_)
      obtain ⟨l, e, q⟩ := vSome_ok q
      obtain ⟨q1, q2⟩ := gd_ok q
      exact ⟨l, contL_ok e, Nat.eq_of_beq_eq_true q1, q2⟩
    · rename_i hl
      obtain ⟨h1, h2⟩ := C.gs _ _ hl
      obtain ⟨hb, h3⟩ := gd_ok h
      obtain ⟨b1, b2⟩ := bo2 hb
      obtain rfl : r = [] := List.isEmpty_iff.mp b1
      obtain ⟨s1, s2⟩ := star_ok (env := X.env) b2
      exact ej_repr h2 hn hd C.K C.gd hu.2 (C.bas ▸ C.dig) hg (by rw [C.mg]; exact h1) s1 (back_ok s2) (S.e C h3)
    · rename_i hl
      obtain ⟨h1, h2⟩ := C.gs _ _ hl
      obtain ⟨hb, h3⟩ := gd_ok h
      clear h
      obtain ⟨b1, b2⟩ := bo2 hb
      obtain ⟨c1, c2⟩ := bo2 b2
      clear b2 hb
      obtain rfl : r = [] := List.isEmpty_iff.mp b1
      obtain rfl : f = ("sorted" : Str) := by simpa using c1
      obtain ⟨s1, s2⟩ := star_ok (env := X.env) c2
      split at h3
      · rename_i b hs
        obtain ⟨p2, p3, e, g1, g2, g3⟩ := setArg_ok C hs
        subst e
        obtain ⟨t1, t2⟩ := star_ok (env := X.env) g3
        exact TX.ej_lot C.K C.calm hg (by rw [C.mg]; exact h1) g1 g2 s1 (back_ok s2) t1 (back_ok t2) (S.e C h3)
      · exact TX.ej_sortD C.K hu.2 hg (by rw [C.mg]; exact h1) s1 (back_ok s2) (S.e C h3)
    · rename_i hl
      obtain ⟨h1, h2⟩ := C.gs _ _ hl
      obtain ⟨hb, h3⟩ := gd_ok h
      clear h
      obtain ⟨b1, b2⟩ := bo2 hb
      clear hb
      obtain rfl : r = [] := List.isEmpty_iff.mp b1
      obtain ⟨s1, s2⟩ := star_ok (env := X.env) b2
      split at h3
      · rename_i i ho
        obtain ⟨x, p', l, e, hc, hN, hv, hd', hcd⟩ := ownOf_ok C ho
        subst e
        obtain ⟨l', e, q⟩ := vSome_ok h3
        exact TX.ej_lenO hg (by rw [C.mg]; exact h1) h2 hn hd hN hv hd' hcd (contL_ok e) s1 (back_ok s2) q
      · exact ej_callB C.K C.calm hg (by rw [C.mg]; exact h1) h2 hn hd s1 (back_ok s2) (S.a C h3)
    · rename_i id _ _ _ hl
      obtain ⟨h1, h2⟩ := C.gs _ _ hl
      obtain ⟨s1, s2⟩ := st h
      exact ej_callB C.K C.calm hg (by rw [C.mg]; exact h1) h2 hn hd s1 s2 (S.a C h)
    · rename_i id hl
      obtain ⟨s1, s2⟩ := st h
      exact ej_callBf C.K C.calm hg (by rw [C.mg]; exact C.gs _ _ hl) hd s1 s2 (S.a C h)
    · rename_i T hl
      obtain ⟨h1, h2⟩ := C.gs _ _ hl
      split at h
      · rename_i jj Sg m dds xs es hga
        obtain ⟨hb, h3⟩ := gd_ok h
        clear h
        obtain ⟨b1, b2⟩ := bo2 hb
        obtain ⟨b2, b3⟩ := bo2 b2
        obtain rfl : r = [] := List.isEmpty_iff.mp b2
        obtain rfl : T = "list" := by simpa using b1
        obtain ⟨gn, p2, e1, r1, p3, rfl, rfl, hk', hl'⟩ := genArg_ok hga
        obtain ⟨g1, g2, _⟩ := (kind_ok C (x := gn)).2 hk'
        obtain ⟨fa, fd, ps, q1, F, q2, q3, q4⟩ := C.gs _ _ hl'
        obtain ⟨dvs, dsv, hb', hv', hr'⟩ := q3 (e1 :: r1).length
        obtain ⟨s1, s2⟩ := star_ok (env := X.env) (vA_star h3)
        exact ej_listG (j := jj) (f := fa) (fd := fd) (ps := ps) (S := Sg) (m := m) (xs := xs) (dds := dfl m dds (e1 :: r1).length) (dvs := dvs) (dsv := dsv) ⟨C.K, C.mg⟩ (by rw [C.prog, C.wo, C.K, C.mg, C.bas]; exact F) C.gd (C.room.mono (Nat.ble_eq.mp b3)) g1 (by rw [C.mg]; exact q1) (by rw [C.K]; exact q2) (by rw [C.K]; exact hb') hv' hr' g2 s1 (back_ok s2)
          hg (by rw [C.mg]; exact h1) h2 hn hd q4 (aj_mono (S.a C h3) fun ds ρ1 q => by
            obtain ⟨z1, z2⟩ := gd_ok q
            have e : (fun y : Exn => gd (xs.contains y.1) (kx y ρ1)) = fun y => y.1 ∈ xs ∧ kx y ρ1 := funext fun y => propext ⟨fun z => ⟨List.contains_iff_mem.mp (gd_ok z).1, (gd_ok z).2⟩, fun ⟨u1, u2⟩ => by
              show gd (xs.contains y.1) (kx y ρ1)
              rw [List.contains_iff_mem.mpr u1]
              exact u2⟩
            exact ⟨Nat.eq_of_beq_eq_true z1, e ▸ z2⟩)
      · split at h
        · rename_i i ho
          obtain ⟨hb, h3⟩ := gd_ok h
          obtain ⟨b1, b2⟩ := bo2 hb
          obtain ⟨b2, b3⟩ := bo2 b2
          obtain rfl : r = [] := List.isEmpty_iff.mp b2
          obtain rfl : f = ("tuple" : Str) := by simpa using b3
          obtain ⟨x, p', l, e, hc, hN, hv, hd', hcd⟩ := ownOf_ok C ho
          subst e
          obtain ⟨l', e, q⟩ := vSome_ok h3
          exact ej_tupO hg (by rw [C.mg]; exact h1) hN hv hd' hcd (contL_ok e) rfl rfl q
        · obtain ⟨s1, s2⟩ := st h
          exact TX.ej_callTT C.K C.calm (C.bas ▸ C.dig) hg (by rw [C.mg]; exact h1) h2 hn hd s1 s2 (S.a C h)
    · exact h.elim
end
section
variable {G : Gg} {P : Program} {w : World} {base : Heap}
theorem snd : ∀ n : Nat, Snd G P w base n
  | 0 => ⟨fun _ h => h.elim, fun _ h => h.elim, fun _ h => h.elim, fun _ h => h.elim, fun _ h => h.elim, fun _ h => h.elim, fun _ h => h.elim, fun _ h => h.elim, fun _ h => h.elim, fun _ h => h.elim, fun _ h => h.elim, fun _ h => h.elim⟩
  | n + 1 => ⟨s_e (snd n), s_t (snd n), s_and (snd n), s_or (snd n), s_ta (snd n), s_to (snd n), s_a (snd n), s_ca (snd n), s_f (snd n), s_cl (snd n), s_o (snd n), s_j (snd n)⟩
end
end DL
set_option Elab.async false
set_option linter.all false
set_option maxRecDepth 100000
set_option maxHeartbeats 4000000
namespace DL
open PySem PySem.Spec PyProof.Rows L2 LamX DLX
/-! ### stores of displays -/
theorem any_star : ∀ {l : List Expr}, noStar l = true → (l.any fun | .Starred .. => true | _ => false) = false := by
  intro l
  induction l with
  | nil => intro _; rfl
  | cons e r ih =>
    intro h
    have h2 := (star_ok (env := default) h).2
    rw [List.any_cons, ih h2]
    cases e <;> first | rfl | cases h
theorem fun_block {env : Env} (hk : env.scope.kind = .function) : env.blockKind = .function := by unfold Env.blockKind; rw [hk]; rfl
theorem sw_par2 {x y : Str} {px py pt pt2 : Pos} {kt k2 : Nat} {a b : Expr} {env : Env} (hk : env.scope.kind = .function) (hx : env.scope.names.lookup x = some .local) (hy : env.scope.names.lookup y = some .local) (hl : (py.line == px.line) = true) (ne : (y == x) = false) (st : noStar [a, b] = true)
    (h1 : ([a, b].all (foldedForSure 8)) = false) (h2 : ([a, b].all (constantsAlone 8)) = false) : swappedStores [.Tuple [.Name x px, .Name y py] kt pt] (.Tuple [a, b] k2 pt2) env = pure (some [x, y]) := by
  have kx : env.kindOf x = some .local := hx
  have ky : env.kindOf y = some .local := hy
  have s2 := (star_ok (env := default) st).2
  unfold swappedStores
  simp [fun_block hk, kx, ky, h1, h2, Expr.pos, beq_iff_eq.mp hl, ne, List.eraseDups, List.eraseDupsBy, List.eraseDupsBy.loop]
  rintro (h | h)
  · clear s2 h1 h2; cases a <;> first | (cases h; done) | (cases st; done)
  · clear st h1 h2; cases b <;> first | (cases h; done) | (cases s2; done)
theorem sw_par3 {x y z : Str} {px py pz pt pt2 : Pos} {kt k2 : Nat} {a b d : Expr} {env : Env} (hk : env.scope.kind = .function) (hx : env.scope.names.lookup x = some .local) (hy : env.scope.names.lookup y = some .local) (hz : env.scope.names.lookup z = some .local) (hl : (py.line == px.line) = true) (hl2 : (pz.line == px.line) = true) (ne : (y == x) = false) (ne2 : (z == x) = false) (ne3 : (z == y) = false) (st : noStar [a, b, d] = true)
    (h1 : ([a, b, d].all (foldedForSure 8)) = false) (h2 : ([a, b, d].all (constantsAlone 8)) = false) : swappedStores [.Tuple [.Name x px, .Name y py, .Name z pz] kt pt] (.Tuple [a, b, d] k2 pt2) env = pure (some [x, y, z]) := by
  have kx : env.kindOf x = some .local := hx
  have ky : env.kindOf y = some .local := hy
  have kz : env.kindOf z = some .local := hz
  have s2 := (star_ok (env := default) st).2
  have s3 := (star_ok (env := default) s2).2
  unfold swappedStores
  simp [fun_block hk, kx, ky, kz, h1, h2, Expr.pos, beq_iff_eq.mp hl, beq_iff_eq.mp hl2, ne, ne2, ne3, List.eraseDups, List.eraseDupsBy, List.eraseDupsBy.loop]
  rintro (h | h | h)
  · clear s2 s3 h1 h2; cases a <;> first | (cases h; done) | (cases st; done)
  · clear st s3 h1 h2; cases b <;> first | (cases h; done) | (cases s2; done)
  · clear st s2 h1 h2; cases d <;> first | (cases h; done) | (cases s3; done)

theorem sw_cell2 {x y : Str} {px py pt pt2 : Pos} {kt k2 : Nat} {a b : Expr} {env : Env} (hx : env.scope.names.lookup x = some .cell) : swappedStores [.Tuple [.Name x px, .Name y py] kt pt] (.Tuple [a, b] k2 pt2) env = pure none := by
  have kx : env.kindOf x = some .cell := hx
  unfold swappedStores
  cases hb : (env.kindOf y == some .local && py.line == px.line) <;> simp [kx, hb, Expr.pos, List.filterMap]
/-! ### statements -/
def vLst1 (x : D) (k : List D → Prop) : Prop := match x with
  | .lst l => k l
  | _ => False
def noComp : Expr → Bool
  | .ListComp _ _ _ _ => false
  | .SetComp _ _ _ _ => false
  | .DictComp _ _ _ _ _ => false
  | _ => true
def isFun (c : Ci) : Bool := match c.sc.kind with
  | .function => true
  | _ => false
def isLoc (c : Ci) (x : Str) : Bool := decide (c.sc.names.lookup x = some .local)
def isCel (c : Ci) (x : Str) : Bool := decide (c.sc.names.lookup x = some .cell)
def noTup : Expr → Bool
  | .Tuple _ _ _ => false
  | .List _ _ => false
  | _ => true
/-- a slot that may be written -/
def wr (ρ : Rho) (i : Nat) : Bool := Nat.blt i ρ.length && noIo ρ i
/-- the slot of a name that is stored -/
def vSlot (c : Ci) (x : Str) (k : Nat → Prop) : Prop := match okN x && (isFun c && (isLoc c x || decide (c.sc.names.lookup x = some .cell))), idx x c.N 0 with
  | true, some i => k i
  | _, _ => False
def swB (c : Ci) (y : Str) (py p : Pos) (scope : Scope) : Bool := isFun c && (isLoc c y && ((py.line == p.line) && !(scope.names.any fun (n, k) => n == y && (k == .local || k == .cell))))
def setAs (o : Bool) (i : Nat) (l : List D) (ρ : Rho) : Rho := match o with
  | true => ρ.set i (.own l)
  | false => ρ.set i (.val (.lst l))
def slotsOf (c : Ci) : List Expr → Option (List Nat)
  | [] => some []
  | .Name x _ :: r => (match okN x && (isFun c && (isLoc c x || decide (c.sc.names.lookup x = some .cell))), idx x c.N 0, slotsOf c r with
    | true, some i, some is => some (i :: is)
    | _, _, _ => none)
  | _ => none
def vTupN (x : D) (n : Nat) (k : List D → Prop) : Prop := match x with
  | .tup l => gd (Nat.beq l.length n) (k l)
  | _ => False
mutual
def vS : Nat → Ci → Stmt → Rho → Ek → Prop
  | 0, _, _, _, _ => False
  | n + 1, c, st, ρ, E => match st with
    | .Pass _ => E.nx ρ
    | .Break _ => E.bk ρ
    | .Continue _ => E.ct ρ
    | .Expr (.Constant (.str _) _ _) _ => E.nx ρ
    | .Expr (.Call (.Attribute (.Name x _) at_ ap) [e] [] cp) _ => gd (at_ == ("append" : Str) && ((ap.endLine == cp.line) && noStar [e])) (match kind c x with
      | .slot i => vSome (contL ρ i) fun _ => vE n c e ρ (fun d ρ1 => vSome (contL ρ1 i) fun l => l.length < sizeLine ∧ E.nx (putL ρ1 i (l ++ [d]))) E.xc
      | _ => False)
    | .Expr (.Call (.Name f p) args kws p2) _ => vE n c (.Call (.Name f p) args kws p2) ρ (fun _ ρ1 => E.nx ρ1) E.xc
    | .Return none _ => E.rt .non ρ
    | .Return (some e) _ => (match ownOf c ρ e with
      | some i => (match ρ[i]? with
        | some (.own l) => E.rt (.lst l) ρ ∨ E.rf l ρ
        | _ => False)
      | none => match e with
        | .List es p => vF n c (.List es p) ρ (fun l ρ1 => E.rt (.lst l) ρ1 ∨ E.rf l ρ1) E.xc
        | e => vE n c e ρ E.rt E.xc)
    | .If t a b _ => vT n c t ρ (fun z ρ1 => if z = true then vB n c a ρ1 E else vB n c b ρ1 E) E.xc
    | .Assign [.Name x px] e _ => vSlot c x fun i => (match e with
      | .ListComp elt gs scope p => gd (swB c x px p scope) (vF n c (.ListComp elt gs scope p) ρ (fun l ρ1 => gd (wr ρ1 i) (E.nx (setAs (c.own.contains x) i l ρ1))) E.xc)
      | e => gd (noComp e) (match c.own.contains x with
        | true => vF n c e ρ (fun l ρ1 => gd (wr ρ1 i) (E.nx (ρ1.set i (.own l)))) E.xc
        | false => vE n c e ρ (fun d ρ1 => gd (wr ρ1 i) (E.nx (ρ1.set i (.val d)))) E.xc))
    | .Assign [.Subscript (.Name x p) b sp] e _ => (match kind c x with
      | .slot i => gd (noComp e && plainB b) (vSome (contL ρ i) fun _ => vE n c e ρ (fun d ρ1 => vSome (contL ρ1 i) fun _ => vE n c b ρ1 (fun y ρ2 => vInt y fun j => vSome (contL ρ2 i) fun l => vSome (ixN l.length j) fun jj => E.nx (putL ρ2 i (l.set jj d))) E.xc) E.xc)
      | _ => False)
    | .Assign [.Tuple [.Name x px, .Name y py] _ _] (.Tuple [a, b] k2 pt2) _ => (match isCel c x with
      | true => vSome (slotsOf c [.Name x px, .Name y py]) fun is => vE n c (.Tuple [a, b] k2 pt2) ρ (fun d ρ1 => vTupN d 2 fun l => gd (is.all fun i => wr ρ1 i) (E.nx (stores is l ρ1))) E.xc
      | false => gd (isFun c && (isLoc c x && (isLoc c y && ((py.line == px.line) && (!(y == x) && (noStar [a, b] && (!([a, b].all (foldedForSure 8)) && !([a, b].all (constantsAlone 8))))))))) (vSlot c x fun i => vSlot c y fun j =>
        match c.own.contains x && c.own.contains y, b with
        | true, .List [] _ => vF n c a ρ (fun l ρ1 => gd (wr ρ1 i && wr ρ1 j) (E.nx ((ρ1.set i (.own l)).set j (.own [])))) E.xc
        | _, b => vA n c [a, b] ρ (fun ds ρ1 => match ds with
          | [d, e] => gd (wr ρ1 i && wr ρ1 j) (E.nx ((ρ1.set i (.val d)).set j (.val e)))
          | _ => False) E.xc))
    | .Assign [.Tuple [.Name x px, .Name y py, .Name z pz] _ _] (.Tuple [a, b, d] _ _) _ => gd (isFun c && (isLoc c x && (isLoc c y && (isLoc c z && ((py.line == px.line) && ((pz.line == px.line) && (!(y == x) && (!(z == x) && (!(z == y) && (noStar [a, b, d] && (!([a, b, d].all (foldedForSure 8)) && !([a, b, d].all (constantsAlone 8))))))))))))) (vSlot c x fun i => vSlot c y fun j => vSlot c z fun l =>
        match c.own.contains x, a, b, d with
        | true, .List [] _, .Constant (.int m) _ _, .Constant (.int m') _ _ => gd (wr ρ i && (wr ρ j && wr ρ l)) (E.nx (((ρ.set i (.own [])).set j (.val (.int m))).set l (.val (.int m'))))
        | false, a, b, d => vA n c [a, b, d] ρ (fun ds ρ1 => match ds with
          | [u, v, w] => gd (wr ρ1 i && (wr ρ1 j && wr ρ1 l)) (E.nx (((ρ1.set i (.val u)).set j (.val v)).set l (.val w)))
          | _ => False) E.xc
        | _, _, _, _ => False)
    | .Assign [.Tuple es _ _] e _ => gd (noComp e && (noTup e && noStar es)) (vSome (slotsOf c es) fun is => vE n c e ρ (fun d ρ1 => vTupN d es.length fun l => gd (is.all fun i => wr ρ1 i) (E.nx (stores is l ρ1))) E.xc)
    | .For (.Name x _) iter body [] _ => vSlot c x fun j => (match iter, modeF c x with
      | .Call (.Name rg _) [a] [] _, 3 => gd (rg == ("range" : Str) && (noStar [a] && decide (c.sc.names.lookup rg = some .globalImplicit))) (vGl c rg (.typ "range") (vE n c a ρ (fun d ρ1 => vInt d fun m => (-(2 ^ 62) ≤ m ∧ m < 2 ^ 62) ∧ vLoop n c j body (upto m) ρ1 E) E.xc))
      | it, 0 => gd (noSet it) (vE n c it ρ (fun d ρ1 => vLst1 d fun l => vLoop n c j body l ρ1 E) E.xc)
      | it, 1 => gd (noSet it) (vE n c it ρ (fun d ρ1 => vTup d fun l => vLoop n c j body l ρ1 E) E.xc)
      | _, _ => False)
    | .While t body [] _ => ∃ M : Nat → Rho → Prop, (∃ m, M m ρ) ∧ ∀ m ρ1, M m ρ1 → vT n c t ρ1 (fun z ρ2 => if z = true then vB n c body ρ2 { E with nx := fun ρ3 => ∃ m', m' < m ∧ M m' ρ3, ct := fun ρ3 => ∃ m', m' < m ∧ M m' ρ3, bk := E.nx } else E.nx ρ2) E.xc
    | .AugAssign (.Name x _) .Add e _ => vSlot c x fun i => (match ρ[i]? with
      | some (.val (.int a)) => vE n c e ρ (fun d ρ1 => vInt d fun b => gd (wr ρ1 i) (E.nx (ρ1.set i (.val (.int (a + b)))))) E.xc
      | _ => False)
    | .Raise (some (.Call (.Name cn _) [a] [] _)) none _ => (match kind c cn with
      | .glo => (match c.gs.lookup cn, a with
        | some .exS, .Constant (.str _) _ _ => E.xc (cn, none) ρ
        | some (.exF f), a => vA n c [a] ρ (fun ds ρ1 => match ds with
          | [d] => E.xc (cn, some (f, d)) ρ1
          | _ => False) E.xc
        | _, _ => False)
      | _ => False)
    | _ => False
def vB : Nat → Ci → List Stmt → Rho → Ek → Prop
  | 0, _, _, _, _ => False
  | n + 1, c, ss, ρ, E => match ss with
    | [] => E.nx ρ
    | st :: r => vS n c st ρ { E with nx := fun ρ1 => vB n c r ρ1 E }
def vLoop : Nat → Ci → Nat → List Stmt → List D → Rho → Ek → Prop
  | 0, _, _, _, _, _, _ => False
  | n + 1, c, j, body, l, ρ, E => ∃ I : Nat → Rho → Prop, I 0 ρ ∧ (∀ i d ρ1, l[i]? = some d → I i ρ1 → gd (wr ρ1 j) (vB n c body (ρ1.set j (.val d)) { E with nx := I (i + 1), ct := I (i + 1), bk := E.nx })) ∧ ∀ ρ1, I l.length ρ1 → E.nx ρ1
end
end DL
set_option Elab.async false
set_option linter.all false
set_option maxRecDepth 100000
set_option maxHeartbeats 4000000
namespace DL
open PySem PySem.Spec PyProof.Rows L2 LamX DLX
structure EkLe (E E' : Ek) : Prop where
  nx : ∀ ρ, E.nx ρ → E'.nx ρ
  rt : ∀ d ρ, E.rt d ρ → E'.rt d ρ
  bk : ∀ ρ, E.bk ρ → E'.bk ρ
  ct : ∀ ρ, E.ct ρ → E'.ct ρ
  xc : ∀ x ρ, E.xc x ρ → E'.xc x ρ
  rf : ∀ x ρ, E.rf x ρ → E'.rf x ρ
section
variable {G : Gg} {X : Cx} {ρ : Rho} {E E' : Ek}
theorem ends_le {P : Fp} {W : AS} {H : Hp} {Dn : Ends} {Wx : WX} (l : EkLe E E') (e : EndsOk G P W H E' Dn Wx) : EndsOk G P W H E Dn Wx :=
  ⟨fun ρ' W' σ' H' h => e.nx ρ' W' σ' H' (l.nx _ h), fun d ρ' v H' h => e.rt d ρ' v H' (l.rt _ _ h), fun ρ' W' σ' H' h => e.bk ρ' W' σ' H' (l.bk _ h), fun ρ' W' σ' H' h => e.ct ρ' W' σ' H' (l.ct _ h), fun x ρ' W' σ' cls dd H' h => e.xc x ρ' W' σ' cls dd H' (l.xc _ _ h), fun l' ρ' a xs H' h => e.rf l' ρ' a xs H' (l.rf _ _ h)⟩
theorem sj_mono {st : Stmt} (h : SJ G X st ρ E) (l : EkLe E E') : SJ G X st ρ E' := fun P W σ H A Dn Wx tk e => h P W σ H A Dn Wx tk (ends_le l e)
theorem bj_mono {st : List Stmt} (h : BJ G X st ρ E) (l : EkLe E E') : BJ G X st ρ E' := fun P W σ H A Dn Wx tk e => h P W σ H A Dn Wx tk (ends_le l e)
theorem le_nx {nx : Rho → Prop} (h : ∀ ρ, E.nx ρ → nx ρ) : EkLe E { E with nx := nx } := ⟨h, fun _ _ q => q, fun _ q => q, fun _ q => q, fun _ _ q => q, fun _ _ q => q⟩
theorem le_nx2 {nx nx' : Rho → Prop} (h : ∀ ρ, nx ρ → nx' ρ) : EkLe { E with nx := nx } { E with nx := nx' } := ⟨h, fun _ _ q => q, fun _ q => q, fun _ q => q, fun _ _ q => q, fun _ _ q => q⟩
theorem fj_mono {e : Expr} {k k' : List D → Rho → Prop} {kx : KX} (h : FJ G X e ρ k kx) (m : ∀ l ρ1, k l ρ1 → k' l ρ1) : FJ G X e ρ k' kx := fun P W σ H A Q Wx tk n xp => h P W σ H A Q Wx tk (fun l ρ' a xs H' hk => n l ρ' a xs H' (m l ρ' hk)) xp
/-- a new list, given out as a value -/
theorem drop_new {P : Fp} {W : AS} {σ : L2.St} {H H' : Hp} {ρ' : Rho} {l : List D} {a : Addr} {xs : List V} (A : Ag G P W ρ σ H) (ha : H a = none) (hb : H' a = some (.lst xs)) (hr : RepL G.K G.mg (W.add a) H' l xs) (A' : Ag G P (W.add a) ρ' σ H') (L' : Ly W ρ σ H a ρ' H') :
    Ag G P W ρ' σ H' ∧ Le W H W H' ∧ Rep G.K G.mg W H' (.lst l) (.ref a) := by
  have up : ∀ b, W b → (W.add a) b := fun b w => .inl w
  have na : ¬ W a := A.nw ha
  have ow : ∀ {b : Addr} {i : Nat}, (W.add a) b → Mu ρ' i → σ[i]? = some (some (.ref b)) → W b := fun {b i} w m e => by
    rcases w with w | w
    · exact w
    · exact absurd (by rw [e, w]) ((own_new A ha).2 i (L'.sh i m))
  refine ⟨⟨A'.len, fun i d e => ?_, fun i m e => ?_, fun i m e => ?_, A'.ap, fun b w => A'.wd b (.inl w), A'.fr, A.w0, A.m0, A.wd0, A.wn, A'.tb⟩, ⟨fun b w => w, fun b w => .inl w, fun b o nb e => L'.le.keep b o nb e⟩, ⟨a, xs, rfl, ⟨hb, na⟩, RepL.sub up _ _ hr⟩⟩
  · obtain ⟨v, h1, h2⟩ := A'.val i d e
    exact ⟨v, h1, Rep.sub up _ _ h2⟩
  · obtain ⟨b, ys, h1, h2, h3, h4, h5⟩ := A'.own i m e
    exact ⟨b, ys, h1, h2, ow h3 ⟨m, .inl e⟩ h1, h4, RepL.sub up _ _ h5⟩
  · obtain ⟨b, ys, h0, h1, h2, h3, h5⟩ := A'.io i m e
    exact ⟨b, ys, h0, h1, h2, ow h3 ⟨m, .inr e⟩ h1, RepL.sub up _ _ h5⟩
theorem sj_retF {e : Expr} {pos : Pos} (h : FJ G X e ρ (fun l ρ1 => E.rt (.lst l) ρ1 ∨ E.rf l ρ1) E.xc) : SJ G X (.Return (some e) pos) ρ E := fun P W σ H A Dn Wx tk en =>
  toS (ps_ret sE_pe) (h P W σ H A _ Wx tk (fun l ρ1 a xs H1 h1 ha hb r1 A1 L1 => by
    obtain ⟨A2, _, r2⟩ := drop_new A ha hb r1 A1 L1
    rcases h1 with h1 | h1
    · exact en.rt _ ρ1 _ H1 h1 A2.e (Rep.sub A2.w0 _ _ r2)
    · exact en.rf l ρ1 a xs H1 h1 A2.e (own_new A ha).1 (fun w => A.nw ha (A.w0 a w)) hb (RepL.sub (fun b w => w.elim (fun w => .inl (A.w0 b w)) .inr) _ _ r1)) en.xp)
theorem sj_retOF {i : Nat} {x : Str} {p pos : Pos} {l : List D} (hN : X.N[i]? = some x) (hv : Vis X.env.scope x) (hd : (x == ("__debug__" : Str)) = false) (hcd : (x == ("__classdict__" : Str)) = false) (hρ : ρ[i]? = some (.own l)) (h : E.rf l ρ) :
    SJ G X (.Return (some (.Name x p)) pos) ρ E := fun P W σ H A Dn Wx tk en => by
  obtain ⟨a, xs, h1, h2, h3, h4, h5⟩ := A.own i l hρ
  refine toS (ps_ret (pe_var hN hv hd hcd)) ⟨.ref a, h1, en.rf l ρ a xs H h A.e h4 (fun z => ?_) h2 (RepL.sub (fun b w => w.elim (A.w0 b) fun e => by rw [e]; exact h3) _ _ h5)⟩
  obtain ⟨o, e⟩ := A.wd0 a z
  rw [h4] at e; cases e
/-- name = [..] on one line -/
theorem sj_setLc {i : Nat} {y x : Str} {py p pos spos : Pos} {elt iter : Expr} {ifs : List Expr} {scope : Scope} {own : List (Str × Nat)} {j : Nat} {o : Bool} (hc : X.calm = true) (hy : X.N[i]? = some y) (hyl : X.env.scope.names.lookup y = some .local)
    (hsw : swapsWith (.ListComp elt [⟨.Name x p, iter, ifs, 0⟩] scope pos) (some (.Name y py)) spos.line X.env = pure true) {k : List D → Rho → Prop} (F : CF G X elt x p iter ifs scope ρ k E.xc own j) (hk : ∀ l ρ1, k l ρ1 → (i < ρ1.length ∧ noIo ρ1 i = true) ∧ E.nx (setAs o i l ρ1)) :
    SJ G X (.Assign [.Name y py] (.ListComp elt [⟨.Name x p, iter, ifs, 0⟩] scope pos) spos) ρ E := fun P W σ H A Dn Wx tk en => by
  obtain ⟨wi, hi, h⟩ := F.cj
  refine toS (ps_setLc hc F.nd hy hyl hsw hi F.ok F.hg (fun s H C cl fp => pts_of F.hif s H C cl fp) (fun s H C cl fp => sEB_pe s H C cl fp) F.hs) (h P W σ H A _ Wx tk (fun l ρ1 a xs H1 h1 ha hb r1 A1 L1 => ?_) en.xp)
  obtain ⟨⟨q1, _⟩, q2⟩ := hk l ρ1 h1
  obtain ⟨h0, hm⟩ := own_new A ha
  cases o with
  | true => exact en.nx _ _ _ H1 q2 (A1.setO q1 hb (.inr rfl) h0 r1 fun j m => hm j (L1.sh j m)) L1.le
  | false =>
    obtain ⟨A2, L2, r2⟩ := drop_new A ha hb r1 A1 L1
    exact en.nx _ W _ H1 q2 (A2.setV q1 r2) L2
end
theorem repL3 {K : PySem.W.Frag} {mg : Str → Option Value} {W : AS} {H : Hp} {d e f : D} {vs : List V} (h : RepL K mg W H [d, e, f] vs) : ∃ u v w, vs = [u, v, w] ∧ Rep K mg W H d u ∧ Rep K mg W H e v ∧ Rep K mg W H f w := by
  obtain ⟨x, r, rfl, h1, h2⟩ := h
  obtain ⟨y, z, rfl, h3, h4⟩ := repL2 h2
  exact ⟨x, y, z, rfl, h1, h3, h4⟩
theorem sj_par3 {x y z : Str} {i j l : Nat} {a b d : Expr} {px py pz pt pt2 : Pos} {kt k2 : Nat} {pos : Pos} (hc : X.calm = true) (n1 : NmOk X i x) (n2 : NmOk X j y) (n3 : NmOk X l z) (hij : i ≠ j) (hil : i ≠ l) (hjl : j ≠ l) (hx : X.env.scope.names.lookup x = some .local) (hy : X.env.scope.names.lookup y = some .local) (hz : X.env.scope.names.lookup z = some .local)
    (hw : swappedStores [.Tuple [.Name x px, .Name y py, .Name z pz] kt pt] (.Tuple [a, b, d] k2 pt2) X.env = pure (some [x, y, z])) (hs : swapsWithSole [.Tuple [.Name x px, .Name y py, .Name z pz] kt pt] (.Tuple [a, b, d] k2 pt2) pos.line X.env = pure false)
    (h : AJ G X [a, b, d] ρ (fun ds ρ1 => ∃ u v w, ds = [u, v, w] ∧ (i < ρ1.length ∧ j < ρ1.length ∧ l < ρ1.length) ∧ E.nx (((ρ1.set i (.val u)).set j (.val v)).set l (.val w))) E.xc) : SJ G X (.Assign [.Tuple [.Name x px, .Name y py, .Name z pz] kt pt] (.Tuple [a, b, d] k2 pt2) pos) ρ E := fun P W σ H A Dn Wx tk en =>
  toS (ps_par3 hc n1.nd n1.at_ n2.at_ n3.at_ hij hil hjl hx hy hz sA_pa hw hs) (h P W σ H A _ Wx tk (fun ds ρ1 vs H1 ⟨d, e, f, e1, ⟨hi, hj, hl⟩, h2⟩ A1 L1 r1 => by
    subst e1
    obtain ⟨u, v, w, rfl, r1, r2, r3⟩ := repL3 r1
    exact ⟨u, v, w, rfl, en.nx _ _ _ _ h2 (((A1.setV hi r1).setV (by rw [List.length_set]; exact hj) r2).setV (by rw [List.length_set, List.length_set]; exact hl) r3) L1.le⟩) en.xp)
structure CsOk (c : Ci) (G : Gg) (P : Program) (w : World) (base : Heap) (X : Cx) : Prop where
  ci : CiOk c G P w base X
  fn : X.fn = fun _ => true
  hp : PassesOwn (model X.prog X.w) X.A X.env X.xe
structure SndS (G : Gg) (P : Program) (w : World) (base : Heap) (n : Nat) : Prop where
  s : ∀ {c : Ci} {X : Cx} {st : Stmt} {ρ : Rho} {E : Ek}, CsOk c G P w base X → vS n c st ρ E → SJ G X st ρ E
  b : ∀ {c : Ci} {X : Cx} {ss : List Stmt} {ρ : Rho} {E : Ek}, CsOk c G P w base X → vB n c ss ρ E → BJ G X ss ρ E
  l : ∀ {c : Ci} {X : Cx} {j : Nat} {body : List Stmt} {l : List D} {ρ : Rho} {E : Ek}, CsOk c G P w base X → vLoop n c j body l ρ E → Loop G X j body l ρ E
section
variable {G : Gg} {P : Program} {w : World} {base : Heap} {n : Nat} {c : Ci} {X : Cx} {ρ : Rho} {E : Ek}
theorem wr_ok {ρ : Rho} {i : Nat} (h : wr ρ i = true) : i < ρ.length ∧ noIo ρ i = true := by
  obtain ⟨h1, h2⟩ := bo2 h
  exact ⟨Nat.blt_eq.mp h1, h2⟩
theorem isFun_ok (h : isFun c = true) : c.sc.kind = .function := by
  unfold isFun at h
  split at h
  · assumption
  · cases h
theorem locs_ok (C : CsOk c G P w base X) {x : Str} {i : Nat} (h : (okN x && (isFun c && (isLoc c x || decide (c.sc.names.lookup x = some .cell)))) = true) (e : idx x c.N 0 = some i) : NmOk X i x := by
  obtain ⟨h1, h2⟩ := bo2 h
  obtain ⟨h2, h3⟩ := bo2 h2
  obtain ⟨m, em, hm⟩ := idx_ok e
  refine ⟨by rw [C.ci.N]; exact C.ci.nd, by rw [C.ci.N, em, Nat.zero_add]; exact hm, ?_, .inl (by rw [C.fn])⟩
  unfold L2.Loc
  rw [C.ci.sc]
  rcases Bool.or_eq_true_iff.mp h3 with q | q
  · exact .inl (of_decide_eq_true q)
  · exact .inr (of_decide_eq_true q)
theorem vSlot_ok (C : CsOk c G P w base X) {x : Str} {k : Nat → Prop} (h : vSlot c x k) : ∃ i, NmOk X i x ∧ k i := by
  unfold vSlot at h
  split at h
  · rename_i i e1 e2
    exact ⟨i, locs_ok C e1 e2, h⟩
  · exact h.elim
theorem loc_ok (C : CsOk c G P w base X) {x : Str} (h : isLoc c x = true) : X.env.scope.names.lookup x = some .local := by
  rw [C.ci.sc]; exact of_decide_eq_true h
theorem noComp_sw {e : Expr} {t : Option Expr} {l : Nat} {env : Env} (h : noComp e = true) : swapsWith e t l env = pure false := by
  cases e <;> first | rfl | cases h
theorem noComp_sole {e : Expr} {t : Expr} {l : Nat} {env : Env} (h : noComp e = true) : swapsWithSole [t] e l env = pure false := noComp_sw h
theorem s_loop (S : SndS G P w base n) {c : Ci} {X : Cx} {j : Nat} {body : List Stmt} {l : List D} {ρ : Rho} {E : Ek} (C : CsOk c G P w base X) (h : vLoop (n + 1) c j body l ρ E) : Loop G X j body l ρ E := by
  unfold vLoop at h
  obtain ⟨I, h0, hst, hd⟩ := h
  refine ⟨I, h0, fun i d ρ1 e hI => ?_, hd⟩
  obtain ⟨h1, h2⟩ := gd_ok (hst i d ρ1 e hI)
  exact ⟨wr_ok h1, S.b C h2⟩
theorem s_b (S : SndS G P w base n) {c : Ci} {X : Cx} {ρ : Rho} {E : Ek} (C : CsOk c G P w base X) {ss : List Stmt} (h : vB (n + 1) c ss ρ E) : BJ G X ss ρ E := by
  unfold vB at h
  split at h
  · exact bj_nil h
  · exact bj_cons (sj_mono (S.s C h) (le_nx2 fun ρ q => S.b C q))
theorem slots_ok (C : CsOk c G P w base X) : ∀ {es : List Expr} {is : List Nat}, slotsOf c es = some is → tgt X es is ∧ asOk X es ∧ (assignEach es X.env).length = es.length ∧ (assignEach es X.env).findIdx? (·.1) = none ∧ is.length = es.length := by
  intro es
  induction es with
  | nil => intro is h; cases h; exact ⟨trivial, trivial, rfl, rfl, rfl⟩
  | cons e r ih =>
    intro is h
    unfold slotsOf at h
    split at h
    · cases ‹_ :: _ = []›
    · rename_i x p r' he
      cases he
      split at h
      · rename_i i is' e1 e2 e3
        cases h
        obtain ⟨t1, t2, t3, t4, t5⟩ := ih e3
        refine ⟨⟨locs_ok C e1 e2, t1⟩, ⟨rfl, t2⟩, congrArg Nat.succ t3, ?_, congrArg Nat.succ t5⟩
        show List.findIdx? _ ((false, assign (.Name x p) X.env) :: assignEach r X.env) = none
        rw [List.findIdx?_cons, t4]
        rfl
      · cases h
    · cases h
theorem vTupN_ok {x : D} {n : Nat} {k : List D → Prop} (h : vTupN x n k) : ∃ l, x = .tup l ∧ l.length = n ∧ k l := by
  unfold vTupN at h
  split at h
  · obtain ⟨h1, h2⟩ := gd_ok h
    exact ⟨_, rfl, Nat.eq_of_beq_eq_true h1, h2⟩
  · exact h.elim
theorem vLst1_ok {x : D} {k : List D → Prop} (h : vLst1 x k) : ∃ l, x = .lst l ∧ k l := by
  unfold vLst1 at h
  split at h
  · exact ⟨_, rfl, h⟩
  · exact h.elim
theorem setAs_own {o : Bool} {x : Str} {i : Nat} {l : List D} {ρ : Rho} : setAs o i l ρ = setAs o i l ρ := rfl
theorem sw_none {e : Expr} {es : List Expr} {k : Nat} {p : Pos} {env : Env} (h : noTup e = true) : swappedStores [.Tuple es k p] e env = pure none := by
  cases e <;> first | rfl | cases h
theorem sw_sub {e a b : Expr} {p : Pos} {env : Env} : swappedStores [.Subscript a b p] e env = pure none := by
  cases e <;> rfl
theorem plain_as {o b : Expr} {sp : Pos} {env : Env} {v : Value} (h : plainB b = true) : assign (.Subscript o b sp) env v = (do
      let ov ← holding [v] (eval o env)
      let iv ← holding [v, ov] (eval b env)
      standAt sp
      holding [v, ov, iv] (setItem ov iv v)
      release [v, ov, iv] []) := by
  cases b <;> first | rfl | cases h
theorem all_wr {is : List Nat} {ρ : Rho} (h : (is.all fun i => wr ρ i) = true) : ∀ i ∈ is, i < ρ.length := fun i hi => (wr_ok (List.all_eq_true.mp h i hi)).1
theorem s_s (S : SndS G P w base n) {c : Ci} {X : Cx} {ρ : Rho} {E : Ek} (C : CsOk c G P w base X) {st : Stmt} (h : vS (n + 1) c st ρ E) : SJ G X st ρ E := by
  have N := snd (G := G) (P := P) (w := w) (base := base) n
  have Cc := C.ci
  unfold vS at h
  split at h
  · exact sj_pass h
  · exact sj_break h
  · exact sj_continue h
  · exact sj_doc h
  · -- append
    rename_i x p at_ ap e cp p2
    obtain ⟨hb, h1⟩ := gd_ok h
    clear h
    obtain ⟨b1, b23⟩ := bo2 hb
    obtain ⟨b2, b3⟩ := bo2 b23
    obtain rfl : at_ = ("append" : Str) := by simpa using b1
    split at h1
    · rename_i i hk
      obtain ⟨hN, hv, hd, hcd⟩ := (kind_ok Cc).1 i hk
      obtain ⟨l0, e0, h⟩ := vSome_ok h1
      obtain ⟨s1, s2⟩ := star_ok (env := X.env) b3
      refine sj_append Cc.K hN hv hd hcd (contL_ok e0) rfl (by rw [s1]; rfl) b2 s1 (back_ok s2) rfl (ej_mono (N.e Cc h) fun d ρ1 q => ?_)
      obtain ⟨l, e1, q⟩ := vSome_ok q
      exact ⟨l, contL_ok e1, q.1, q.2⟩
    · exact h1.elim
  · exact sj_expr rfl (N.e Cc h)
  · exact sj_retN h
  · split at h
    · rename_i i ho
      obtain ⟨x, p, l, e, hc, hN, hv, hd, hcd⟩ := ownOf_ok Cc ho
      subst e
      split at h
      · rename_i l' e'
        rcases h with h | h
        · exact sj_retO hN hv hd hcd e' h
        · exact sj_retOF hN hv hd hcd e' h
      · exact h.elim
    · split at h
      · exact sj_retF (N.f Cc h)
      · exact sj_ret (N.e Cc h)
  · refine sj_if (tj_mono (N.t Cc h) fun z ρ1 q => ?_)
    cases z with
    | true => exact S.b C q
    | false => exact S.b C q
  · rename_i x0 px0 e0 pos0
    obtain ⟨i, nm, h⟩ := vSlot_ok C h
    split at h
    · rename_i elt gs scope p
      obtain ⟨hb, h⟩ := gd_ok h
      cases n with
      | zero => exact h.elim
      | succ n' =>
        have h' := h
        unfold vF at h'
        split at h'
        · rename_i hh
          cases hh
        · rename_i hh
          cases hh
        · rename_i hh
          cases hh
          clear h'
          obtain ⟨b1, b2⟩ := bo2 hb
          obtain ⟨b2, b3⟩ := bo2 b2
          obtain ⟨b3, b4⟩ := bo2 b3
          obtain ⟨own, j, F⟩ := s_c (snd n') Cc h
          refine sj_setLc (o := c.own.contains x0) Cc.calm nm.at_ (loc_ok C b2) (sw_true (by rw [Cc.sc]; exact isFun_ok b1) (loc_ok C b2) b3 (by simpa using b4)) F fun l ρ1 q => ?_
          obtain ⟨q1, q2⟩ := gd_ok q
          exact ⟨wr_ok q1, q2⟩
        · exact h'.elim
    · obtain ⟨hb, h⟩ := gd_ok h
      split at h
      · exact sj_setF nm (noComp_sw hb) (fj_mono (N.f Cc h) fun l ρ1 q => by
          obtain ⟨q1, q2⟩ := gd_ok q
          exact ⟨wr_ok q1, q2⟩)
      · exact sj_set nm (noComp_sw hb) (ej_mono (N.e Cc h) fun l ρ1 q => by
          obtain ⟨q1, q2⟩ := gd_ok q
          exact ⟨wr_ok q1, q2⟩)
  · split at h
    · rename_i i hk
      obtain ⟨hN, hv, hd, hcd⟩ := (kind_ok Cc).1 i hk
      obtain ⟨hb, h⟩ := gd_ok h
      obtain ⟨b1, b2⟩ := bo2 hb
      obtain ⟨l0, e0, h⟩ := vSome_ok h
      refine sj_setItem (l0 := l0) hN hv hd hcd (fun v => plain_as b2) (noComp_sole b1) sw_sub rfl (ej_mono (N.e Cc h) fun d ρ1 q => ?_)
      obtain ⟨l1, e1, q⟩ := vSome_ok q
      refine ⟨⟨l1, contL_ok e1⟩, ej_mono (N.e Cc q) fun y ρ2 q => ?_⟩
      obtain ⟨jj, ey, q⟩ := vInt_ok q
      obtain ⟨l, e2, q⟩ := vSome_ok q
      obtain ⟨m, e3, q⟩ := vSome_ok q
      exact ⟨l, jj, m, contL_ok e2, ey, e3, q⟩
    · exact h.elim
  · rename_i x px y py kt pt a b k2 pt2 pos
    split at h
    · rename_i hcel
      obtain ⟨is, hi, h⟩ := vSome_ok h
      obtain ⟨t1, t2, t3, t4, t5⟩ := slots_ok C hi
      have hx : X.env.scope.names.lookup x = some .cell := by rw [Cc.sc]; exact of_decide_eq_true hcel
      refine sj_tup Cc.K Cc.calm t1 t2 t3 t4 (noComp_sole rfl) (sw_cell2 hx) rfl (ej_mono (N.e Cc h) fun d ρ1 q => ?_)
      obtain ⟨l, ed, hl, q⟩ := vTupN_ok q
      obtain ⟨q1, q2⟩ := gd_ok q
      exact ⟨l, ed, ⟨hl, t5, all_wr q1⟩, q2⟩
    ·
      obtain ⟨hb, h⟩ := gd_ok h
      obtain ⟨b0, b1⟩ := bo2 hb
      obtain ⟨b1, b2⟩ := bo2 b1
      obtain ⟨b2, b3⟩ := bo2 b2
      obtain ⟨b3, b4⟩ := bo2 b3
      obtain ⟨b4, b5⟩ := bo2 b4
      obtain ⟨b5, b6⟩ := bo2 b5
      obtain ⟨b6, b7⟩ := bo2 b6
      obtain ⟨i, n1, h⟩ := vSlot_ok C h
      obtain ⟨j, n2, h⟩ := vSlot_ok C h
      have hne : (y == x) = false := by simpa using b4
      have hk : X.env.scope.kind = .function := by rw [Cc.sc]; exact isFun_ok b0
      have nij : i ≠ j := fun z => by
        subst z
        have q := n1.at_.symm.trans n2.at_
        cases q
        simp at hne
      have sw := sw_par2 (pt := pt) (pt2 := pt2) (kt := kt) (k2 := k2) hk (loc_ok C b1) (loc_ok C b2) b3 hne b5 (Bool.not_eq_true' _ ▸ b6) (Bool.not_eq_true' _ ▸ b7)
      have lx := loc_ok C b1
      have ly := loc_ok C b2
      have b55 := b5
      clear b0 b1 b2 b3 b4 b5 b6 b7 hb
      split at h
      · obtain ⟨s1, s2⟩ := star_ok (env := X.env) b55
        refine TX.sj_par2O Cc.calm n1 n2 nij lx ly s1 rfl sw rfl (fj_mono (N.f Cc h) fun l ρ1 q => ?_)
        obtain ⟨q1, q2⟩ := gd_ok q
        obtain ⟨w1, w2⟩ := bo2 q1
        exact ⟨⟨(wr_ok w1).1, (wr_ok w2).1⟩, q2⟩
      · refine sj_par2 Cc.calm n1 n2 nij lx ly sw rfl (aj_mono (N.a Cc h) fun ds ρ1 q => ?_)
        split at q
        · rename_i d e
          obtain ⟨q1, q2⟩ := gd_ok q
          obtain ⟨w1, w2⟩ := bo2 q1
          exact ⟨d, e, rfl, ⟨(wr_ok w1).1, (wr_ok w2).1⟩, q2⟩
        · exact q.elim
  · rename_i x px y py z pz kt pt a b d k2 pt2 pos
    obtain ⟨hb, h⟩ := gd_ok h
    obtain ⟨c0, r0⟩ := bo2 hb
    obtain ⟨c1, r1⟩ := bo2 r0
    obtain ⟨c2, r2⟩ := bo2 r1
    obtain ⟨c3, r3⟩ := bo2 r2
    obtain ⟨c4, r4⟩ := bo2 r3
    obtain ⟨c5, r5⟩ := bo2 r4
    obtain ⟨c6, r6⟩ := bo2 r5
    obtain ⟨c7, r7⟩ := bo2 r6
    obtain ⟨c8, r8⟩ := bo2 r7
    obtain ⟨c9, r9⟩ := bo2 r8
    obtain ⟨c10, c11⟩ := bo2 r9
    clear r0 r1 r2 r3 r4 r5 r6 r7 r8 r9
    obtain ⟨i, n1, h⟩ := vSlot_ok C h
    obtain ⟨j, n2, h⟩ := vSlot_ok C h
    obtain ⟨l, n3, h⟩ := vSlot_ok C h
    have q1 : (y == x) = false := by simpa using c6
    have q2 : (z == x) = false := by simpa using c7
    have q3 : (z == y) = false := by simpa using c8
    have hk : X.env.scope.kind = .function := by rw [Cc.sc]; exact isFun_ok c0
    have nn : ∀ {x y : Str} {i j : Nat}, NmOk X i x → NmOk X j y → (y == x) = false → i ≠ j := fun n1 n2 q z => by
      subst z
      have e := n1.at_.symm.trans n2.at_
      cases e
      simp at q
    have sw := sw_par3 (px := px) (py := py) (pz := pz) (pt := pt) (pt2 := pt2) (kt := kt) (k2 := k2) hk (loc_ok C c1) (loc_ok C c2) (loc_ok C c3) c4 c5 q1 q2 q3 c9 (Bool.not_eq_true' _ ▸ c10) (Bool.not_eq_true' _ ▸ c11)
    split at h
    · rename_i pl m jm pm m' jm' pm' _
      obtain ⟨w0, h⟩ := gd_ok h
      obtain ⟨w1, w2⟩ := bo2 w0
      obtain ⟨w2, w3⟩ := bo2 w2
      obtain ⟨s1, t1⟩ := star_ok (env := X.env) c9
      obtain ⟨s2, t2⟩ := star_ok (env := X.env) t1
      obtain ⟨s3, t3⟩ := star_ok (env := X.env) t2
      exact sj_par3O Cc.calm n1 n2 n3 (nn n1 n2 q1) (nn n1 n3 q2) (nn n2 n3 q3) (loc_ok C c1) (loc_ok C c2) (loc_ok C c3) pe_int pe_int s1 s2 s3 sw rfl ⟨⟨(wr_ok w1).1, (wr_ok w2).1, (wr_ok w3).1⟩, h⟩
    · refine sj_par3 Cc.calm n1 n2 n3 (nn n1 n2 q1) (nn n1 n3 q2) (nn n2 n3 q3) (loc_ok C c1) (loc_ok C c2) (loc_ok C c3) sw rfl (aj_mono (N.a Cc h) fun ds ρ1 q => ?_)
      split at q
      · rename_i u v w
        obtain ⟨w0, q⟩ := gd_ok q
        obtain ⟨w1, w2⟩ := bo2 w0
        obtain ⟨w2, w3⟩ := bo2 w2
        exact ⟨u, v, w, rfl, ⟨(wr_ok w1).1, (wr_ok w2).1, (wr_ok w3).1⟩, q⟩
      · exact q.elim
    · exact h.elim
  · rename_i es kt pt e pos _
    obtain ⟨hb, h⟩ := gd_ok h
    obtain ⟨b1, b2⟩ := bo2 hb
    obtain ⟨b2, b3⟩ := bo2 b2
    obtain ⟨is, hi, h⟩ := vSome_ok h
    obtain ⟨t1, t2, t3, t4, t5⟩ := slots_ok C hi
    refine sj_tup Cc.K Cc.calm t1 t2 t3 t4 (noComp_sole b1) (sw_none b2) rfl (ej_mono (N.e Cc h) fun d ρ1 q => ?_)
    obtain ⟨l, ed, hl, q⟩ := vTupN_ok q
    obtain ⟨q1, q2⟩ := gd_ok q
    exact ⟨l, ed, ⟨hl, t5, all_wr q1⟩, q2⟩
  · obtain ⟨j, nm, h⟩ := vSlot_ok C h
    split at h
    · rename_i rg rp a rpos _ _
      obtain ⟨hb, h⟩ := gd_ok h
      obtain ⟨b1, b23⟩ := bo2 hb
      obtain ⟨b2, b3⟩ := bo2 b23
      clear b23
      obtain rfl : rg = ("range" : Str) := by simpa using b1
      obtain ⟨hl, h⟩ := vGl_ok h
      obtain ⟨g1, g2⟩ := Cc.gs _ _ hl
      obtain ⟨s1, s2⟩ := star_ok (env := X.env) b2
      refine sj_forR C.hp Cc.calm nm (by show X.env.scope.names.lookup _ = _; rw [Cc.sc]; exact of_decide_eq_true b3) (by rw [Cc.mg]; exact g1) s1 s1 (fun x => rfl) (ej_mono (N.e Cc h) fun d ρ1 q => ?_)
      obtain ⟨m, e, q⟩ := vInt_ok q
      exact ⟨m, e, q.1, S.l C q.2⟩
    · obtain ⟨hb, h⟩ := gd_ok h
      refine sj_forL Cc.K C.hp Cc.calm nm (set_ok hb) (ej_mono (N.e Cc h) fun d ρ1 q => ?_)
      obtain ⟨l, e, q⟩ := vLst1_ok q
      exact ⟨l, e, S.l C q⟩
    · obtain ⟨hb, h⟩ := gd_ok h
      refine sj_forT Cc.K C.hp Cc.calm nm (set_ok hb) (ej_mono (N.e Cc h) fun d ρ1 q => ?_)
      obtain ⟨l, e, q⟩ := vTup_ok q
      exact ⟨l, e, S.l C q⟩
    · exact h.elim
  · obtain ⟨M, h0, hst⟩ := h
    refine sj_while C.hp ⟨M, h0, fun m ρ1 hM => tj_mono (N.t Cc (hst m ρ1 hM)) fun z ρ2 q => ?_⟩
    cases z with
    | true => exact S.b C q
    | false => exact q
  · obtain ⟨i, nm, h⟩ := vSlot_ok C h
    split at h
    · rename_i a ha
      refine TX.sj_aug nm ha (ej_mono (N.e Cc h) fun d ρ1 q => ?_)
      obtain ⟨b, e, q⟩ := vInt_ok q
      obtain ⟨q1, q2⟩ := gd_ok q
      exact ⟨b, e, wr_ok q1, q2⟩
    · exact h.elim
  · split at h
    · rename_i hk
      obtain ⟨hg, hd, hn⟩ := (kind_ok Cc).2 hk
      split at h
      · rename_i hl
        obtain ⟨Ca, B, newId, initId, bmB, T⟩ := Cc.gs _ _ hl
        exact sj_raiseS T Cc.K Cc.mg Cc.calm hg hd h
      · rename_i f hl
        obtain ⟨Ca, fI, p, qi, B, newId, initId, bmB, T⟩ := Cc.gs _ _ hl
        obtain ⟨s1, s2⟩ := star_ok (env := X.env) (vA_star h)
        refine sj_raiseF T Cc.K Cc.mg Cc.calm Cc.room hg hd s1 (back_ok s2) (aj_mono (N.a Cc h) fun ds ρ1 q => ?_)
        split at q
        · exact ⟨_, rfl, q⟩
        · exact q.elim
      · exact h.elim
    · exact h.elim
  · exact h.elim
theorem sndS : ∀ n : Nat, SndS G P w base n
  | 0 => ⟨fun _ h => h.elim, fun _ h => h.elim, fun _ h => h.elim⟩
  | n + 1 => ⟨fun C h => s_s (sndS n) C h, fun C h => s_b (sndS n) C h, fun C h => s_loop (sndS n) C h⟩
end
end DL
set_option Elab.async false
set_option linter.all false
set_option maxRecDepth 100000
set_option maxHeartbeats 4000000
namespace DL
open PySem PySem.Spec PyProof.Rows L2 LamX DLX
/-- what stands of the telling def, and of the code of the def that calls it -/
structure MetS (G : Gg) (base : Heap) (sc : Scope) (cd : Value) (qual x fine : Str) (l : List Mc) (isa : List (Str × Str × Bool)) (a ex : Str) : Prop where
  gx : sc.names.lookup x = some .globalImplicit
  dx : (x == ("__debug__" : Str)) = false
  def_ : ∃ (g : Addr) (fd : FuncData) (pg : Arguments) (bg : List Stmt) (sg : Scope) (hds : List ExceptHandler) (Ng : List Str) (j : Nat) (p1 p2 p3 p4 p5 p6 : Pos), G.mg x = some (.ref g) ∧ FunD G.K x x pg bg sg [] [] g fd ∧ bg = [.Try [.Expr (.Call (.Name a p1) [] [] p2) p3] hds [] [] p4, .Return (some (.Constant (.str fine) j p5)) p6] ∧
    FnScope Ng [a] sg ∧ Ng[0]? = some a ∧ Ng[1]? = some ex ∧ sg.names.lookup ex = some .local ∧ sg.names.lookup ("repr" : Str) = some .globalImplicit ∧ Vis sg a ∧ McTxt ex hds l ∧ (∀ c ∈ l, McOk G.K G.mg sg c) ∧ L2.Binds G.K fd [a] [] ∧ hds ≠ []
  mr : G.mg "repr" = none
  isaK : IsaOk G.K G.mg isa
  da : (a == ("__debug__" : Str)) = false
  ca : (a == ("__classdict__" : Str)) = false
  de : (ex == ("__debug__" : Str)) = false
  ce : (ex == ("__classdict__" : Str)) = false
  tab : ∃ c P, TabB base G.mg c P ∧ cd = .ref c ∧ (P, qual ++ ".<locals>." ++ "<lambda>") ∈ G.T ∧ ∀ p ∈ G.T, p.1 = P → p.2 = qual ++ ".<locals>." ++ "<lambda>"
section
variable {G : Gg} {P : Program} {w : World} {base : Heap} {x qual : Str} {params : Arguments} {body : List Stmt} {scope : Scope} {dvs : List V} {kws : List (Str × V)} {f : Addr} {fd : FuncData} {N ps : List Str} {k : Nat}
theorem cs_of {c : Ci} {X : Cx} (C : Cxt G P w base c.N c.sc c.k qual fd.code X) (nd : c.N.Nodup) (gs : ∀ x g, c.gs.lookup x = some g → GkOk G P w base x g) (dig : base.NoDigits) (met : ∀ x fine l isa, c.met = some (x, fine, l, isa) → ∃ a ex, MetS G base c.sc fd.code qual x fine l isa a ex) : CsOk c G P w base X := by
  refine ⟨⟨C.prog, C.w, C.K, C.mg, C.base, C.N, C.sc, nd, C.calm, C.room, C.gd, dig, gs, fun x fine l isa e => ?_⟩, C.fn, C.hp⟩
  obtain ⟨a, ex, M⟩ := met x fine l isa e
  refine ⟨a, ex, fun ps sc' hn hl hk => ?_⟩
  obtain ⟨cc, Pt, t1, t2, t3, t4⟩ := M.tab
  exact ⟨C.K, C.mg, C.gd, by rw [Nat.sub_add_cancel hk]; exact C.room, by rw [C.base]; exact dig, by show X.env.scope.names.lookup x = _; rw [C.sc]; exact M.gx, M.dx, M.def_, M.mr, M.isaK, M.da, M.ca, M.de, M.ce, ⟨cc, Pt, by rw [C.base, C.mg]; exact t1, by rw [C.code]; exact t2, by rw [C.qual]; exact t3, by rw [C.qual]; exact t4⟩,
    by rw [C.sc]; exact lamS_by hl, by rw [noParams_ok hn]; rfl⟩
/-- a def, by what its text asks -/
theorem fnP {c : Ci} {S : PSpec} (n : Nat) (F : FunD G.K x qual params body c.sc dvs kws f fd) (Sc : FnScope c.N ps c.sc) (hps : ps.length ≤ c.N.length) (gs : ∀ x g, c.gs.lookup x = some g → GkOk G P w base x g) (dig : base.NoDigits) (met : ∀ x fine l isa, c.met = some (x, fine, l, isa) → ∃ a ex, MetS G base c.sc fd.code qual x fine l isa a ex)
    (hv : ∀ ds kd kx, ds.length = ps.length → S ds kd kx → vB n c body (rho0 c.N ds) (EkP kd kx)) : FnG P w G.K G.mg base (L2.CX P w) (c.k + 1) f fd ps (spP G ps.length S) :=
  fn_pure F Sc hps fun X C ds kd kx hl hS => (sndS n).b (cs_of C Sc.nd gs dig met) (hv ds kd kx hl hS)
theorem fnD {c : Ci} {S : DSpec} {m : Nat} (n : Nat) (F : FunD G.K x qual params body c.sc dvs kws f fd) (Sc : FnScope c.N ps c.sc) (hps : ps.length = m + 1) (gs : ∀ x g, c.gs.lookup x = some g → GkOk G P w base x g) (dig : base.NoDigits) (met : ∀ x fine l isa, c.met = some (x, fine, l, isa) → ∃ a ex, MetS G base c.sc fd.code qual x fine l isa a ex)
    (hv : ∀ l ds kd, ds.length = m → S l ds kd → vB n c body (rhoD c.N l ds) (EkD kd)) : FnG P w G.K G.mg base (L2.CX P w) (c.k + 1) f fd ps (spD G m S) :=
  fn_dice F Sc hps fun X C l ds kd hl hS => (sndS n).b (cs_of C Sc.nd gs dig met) (hv l ds kd hl hS)
theorem fnF {c : Ci} {S : FSpec} (n : Nat) (F : FunD G.K x qual params body c.sc dvs kws f fd) (Sc : FnScope c.N ps c.sc) (hps : ps.length ≤ c.N.length) (gs : ∀ x g, c.gs.lookup x = some g → GkOk G P w base x g) (dig : base.NoDigits) (met : ∀ x fine l isa, c.met = some (x, fine, l, isa) → ∃ a ex, MetS G base c.sc fd.code qual x fine l isa a ex)
    (hv : ∀ ds kd, ds.length = ps.length → S ds kd → vB n c body (rho0 c.N ds) (EkF kd)) : FnG P w G.K G.mg base (L2.CX P w) (c.k + 1) f fd ps (spF G ps.length S) :=
  fn_fresh F Sc hps fun X C ds kd hl hS => (sndS n).b (cs_of C Sc.nd gs dig met) (hv ds kd hl hS)
end
end DL
set_option Elab.async false
set_option linter.all false
set_option maxRecDepth 100000
set_option maxHeartbeats 2000000
namespace DL
open PySem PySem.Spec PyProof.Rows L2 LamX DLX
/-! ### what the head tells, as what stands behind the names -/
section
variable {G : Gg} {P : Program} {w : World} {base : Heap} {x : Str}
theorem gk_nil : ∀ x g, ([] : List (Str × Gk)).lookup x = some g → GkOk G P w base x g := fun _ _ h => by cases h
theorem gk_cons {y : Str} {g0 : Gk} {r : List (Str × Gk)} (h0 : GkOk G P w base y g0) (hr : ∀ x g, r.lookup x = some g → GkOk G P w base x g) : ∀ x g, List.lookup x ((y, g0) :: r) = some g → GkOk G P w base x g := by
  intro x g h
  have h' : (match x == y with | true => some g0 | false => r.lookup x) = some g := h
  cases e : x == y with
  | true =>
    rw [e] at h'
    rw [← Option.some.inj h', eq_of_beq e]
    exact h0
  | false =>
    rw [e] at h'
    exact hr x g h'
theorem gk_pf {j m : Nat} {S : PSpec} {f : Addr} {fd : FuncData} {ps : List Str} (hm : G.mg x = some (.ref f)) (F : FnG P w G.K G.mg base (L2.CX P w) j f fd ps (spP G m S)) (kp : PySem.W.keepIn G.K (.ref f) = true) (b : L2.Binds G.K fd ps []) : GkOk G P w base x (.pf j S m []) :=
  ⟨f, fd, ps, hm, F, kp, fun n => ⟨[], [], b, .nil, fun W H => by
    have e : dfl m [] n = [] := List.drop_nil
    rw [e]; exact rfl⟩⟩
theorem gk_df {j m : Nat} {S : DSpec} {f : Addr} {fd : FuncData} {ps : List Str} (hm : G.mg x = some (.ref f)) (F : FnG P w G.K G.mg base (L2.CX P w) j f fd ps (spD G m S)) (kp : PySem.W.keepIn G.K (.ref f) = true) (b : L2.Binds G.K fd ps []) : GkOk G P w base x (.df j S m) := ⟨f, fd, ps, hm, F, kp, b⟩
theorem gk_ff {j m : Nat} {S : FSpec} {f : Addr} {fd : FuncData} {ps : List Str} (hm : G.mg x = some (.ref f)) (F : FnG P w G.K G.mg base (L2.CX P w) j f fd ps (spF G m S)) (kp : PySem.W.keepIn G.K (.ref f) = true) (b : L2.Binds G.K fd ps []) : GkOk G P w base x (.ff j S m) := ⟨f, fd, ps, hm, F, kp, b⟩
theorem gk_int {i : Int} (h : ∃ t, G.mg x = some (.int i t)) : GkOk G P w base x (.con (.int i)) := by
  obtain ⟨t, h⟩ := h
  exact .inl ⟨_, .int i, h, ⟨t, rfl⟩, fun _ _ => rfl⟩
theorem gk_str {z : Str} (h : ∃ t, G.mg x = some (.str z t)) : GkOk G P w base x (.con (.str z)) := by
  obtain ⟨t, h⟩ := h
  exact .inl ⟨_, .str z, h, ⟨t, rfl⟩, fun _ _ => rfl⟩
theorem wrT_of {K : PySem.W.Frag} {x : Str} {vs : List He.Dv} (h : He.tupB K x vs = true) : WrT K (He.ga K x) (vs.map (He.Dv.v K)) := by
  rcases He.tupB_ok h (fun _ => none) with (h | ⟨o, h⟩) | h
  · cases h
  · cases h
  · exact h
theorem gk_tup2 {i j : Int} (hm : G.mg x = some (.ref (He.ga G.K x))) (h : He.tupB G.K x [.int i, .int j] = true) : GkOk G P w base x (.con (.tup [.int i, .int j])) :=
  .inl ⟨_, .ref (He.ga G.K x), hm, rfl, fun _ _ => ⟨_, _, rfl, .inr (wrT_of h), _, _, rfl, rfl, _, _, rfl, rfl, rfl⟩⟩
theorem gk_exS (hm : G.mg x = some (.ref (He.ga G.K x))) (c : (He.Fa.exc x).ok G.K = true) : GkOk G P w base x .exS := by
  obtain ⟨h1, h2, h3, h4⟩ := He.exc_ok c
  exact ⟨He.ga G.K x, _, _, _, _, ⟨F.excBase_ValueError, h1, hm, h2, h3, h4⟩⟩
end
/-! ### an exception class of one field -/
def kwNone (K : PySem.W.Frag) (f : Addr) : Bool := match K.lookup f with
  | some ⟨_, _, .func fd, _⟩ => (match fd.kwdefaults with
    | .none => true
    | _ => false)
  | _ => false
def clsB (K : PySem.W.Frag) (C : Addr) (bmB : List Value) (newId : String) : Bool := match K.lookup C with
  | some ⟨.type c, _, .cls cd, sl⟩ => (match cd.mro, sl.toList with
    | .ref C' :: bm, [_, _, _, _, some (.builtin n), _] => decide (c = "type") && (decide (C' = C) && (PySem.W.excTail bmB bm && (decide (n = newId) && (cd.hasDict && !cd.hasDel))))
    | _, _ => false)
  | _ => false
theorem clsB_ok {K : PySem.W.Frag} {C : Addr} {bmB : List Value} {newId : String} (h : clsB K C bmB newId = true) : ∃ nm q N bs bm sn sub ab col dd k0 k1 k2 k3 k5, K.lookup C = some (excClassObj nm q C N bs bm true sn sub ab col dd k0 k1 k2 k3 k5 newId) ∧ PySem.W.excTail bmB bm = true := by
  unfold clsB at h
  split at h
  · rename_i c dd cd sl hl
    split at h
    · rename_i C' bm k0 k1 k2 k3 n k5 hm hs
      obtain ⟨nm, bs, mro, ns, qn, hd, sn, sub, ab, col, del⟩ := cd
      obtain ⟨h1, h⟩ := He.ba h
      obtain ⟨h2, h⟩ := He.ba h
      obtain ⟨h3, h⟩ := He.ba h
      obtain ⟨h4, h⟩ := He.ba h
      obtain ⟨h5, h6⟩ := He.ba h
      have e1 := of_decide_eq_true h1
      have e2 := of_decide_eq_true h2
      have e4 := of_decide_eq_true h4
      dsimp only at hm h5 h6
      have e6 : del = false := by simpa using h6
      subst e1 e2 e4 h5 e6 hm
      have hsl : sl = #[k0, k1, k2, k3, some (.builtin n), k5] := by
        obtain ⟨l⟩ := sl
        simp only at hs
        rw [hs]
      subst hsl
      exact ⟨nm, qn, ns, bs, bm, sn, sub, ab, col, dd, k0, k1, k2, k3, k5, hl, h3⟩
    · cases h
  · cases h
def fldB (K : PySem.W.Frag) (cn f : Str) (bmB : List Value) (newId : String) : Bool :=
  clsB K (He.ga K cn) bmB newId && (He.eqO (PySem.W.findIn K (.ref (He.ga K cn)) "__setattr__") (some (some (.builtin "object.__setattr__"))) && (xfB K (He.ga K cn) && (He.eqO (PySem.W.findIn K (.ref (He.ga K cn)) f) (some none) && (He.eqO (PySem.W.findIn K (.ref (He.ga K cn)) "__init__") (some (some (.ref (He.ma K (He.ga K cn) "__init__")))) &&
    (decide (PySem.W.typeIn K (.ref (He.ma K (He.ga K cn) "__init__")) = some (.type "function")) && (PySem.W.keepIn K (.ref (He.ga K cn)) && (decide (PySem.W.typeIn K (.ref (He.ga K cn)) = some (.type "type")) && kwNone K (He.ma K (He.ga K cn) "__init__"))))))))
theorem fld_of {K : PySem.W.Frag} {mg : Str → Option Value} {cn p f qi : Str} {B newId initId : String} {bmB : List Value} {p1 p2 q1 q2 q3 q4 : Pos} {fd : FuncData} (h : fldB K cn f bmB newId = true) (hb : ExcBaseFacts B newId initId bmB) (ps : ∀ self : Value, refuseLoop self "__setattr__" bmB = pure ()) (gC : mg cn = some (.ref (He.ga K cn)))
    (Fi : FunD K "__init__" qi (iArgs p p1 p2) (iBody p f q1 q2 q3 q4) (iScope p) [] [] (He.ma K (He.ga K cn) "__init__") fd) (ob : bmB.contains (.type "object") = true) (np : ("self" : Str) ≠ p) (dbg : (p == ("__debug__" : Str)) = false)
    (bnd : ∀ (p1 p2 q1 q2 q3 q4 : Pos) (doc pm : Value) (an : Option Addr) (cdv ct u v : Value), bindArgs (PySem.W.fnOf "__init__" qi (iArgs p p1 p2) (iBody p f q1 q2 q3 q4) (iScope p) .none .none doc pm an cdv ct) ⟨[u, v], []⟩ = pure [(("self" : Str), u), (p, v)])
    (rdS : ∀ (L a : Addr) (cd u v : Value), bindL (envOfC qi (iScope p) L a cd).kindOf [("self", u), (p, v)] (fun _ => none) "self" = some u) (rdP : ∀ (L a : Addr) (cd u v : Value), bindL (envOfC qi (iScope p) L a cd).kindOf [("self", u), (p, v)] (fun _ => none) p = some v)
    (kdS : ∀ (L a : Addr) (cd : Value), (envOfC qi (iScope p) L a cd).kindOf "self" = some .local) (kdP : ∀ (L a : Addr) (cd : Value), (envOfC qi (iScope p) L a cd).kindOf p = some .local) :
    FldTxt K mg (He.ga K cn) (He.ma K (He.ga K cn) "__init__") cn p f qi B newId initId bmB := by
  unfold fldB at h
  obtain ⟨h1, h⟩ := He.ba h
  obtain ⟨h2, h⟩ := He.ba h
  obtain ⟨h3, h⟩ := He.ba h
  obtain ⟨h4, h⟩ := He.ba h
  obtain ⟨h5, h⟩ := He.ba h
  obtain ⟨h6, h⟩ := He.ba h
  obtain ⟨h7, h⟩ := He.ba h
  obtain ⟨h8, h9⟩ := He.ba h
  obtain ⟨ga, gg, exC, hdC⟩ := xfB_ok h3
  obtain ⟨oc, od, dV, kV, doc, pm, an, cdv, ct, osl, rfl, lk, hcd, hD, _⟩ := Fi.ex
  have ed : dV = .none := by
    rcases hD with ⟨_, e⟩ | ⟨e, _⟩
    · exact e
    · exact absurd rfl e
  have ek : kV = .none := by
    unfold kwNone at h9
    rw [lk] at h9
    cases kV with
    | none => rfl
    | _ => cases h9
  subst ed ek
  exact ⟨hb, ps, ob, np, dbg, gC, clsB_ok h1, He.eqO_ok h2, ga, gg, He.eqO_ok h4, He.eqO_ok h5, of_decide_eq_true h6, h7, exC, of_decide_eq_true h8, hdC, bnd, rdS, rdP, kdS, kdP, ⟨oc, od, doc, pm, an, cdv, ct, osl, p1, p2, q1, q2, q3, q4, lk, hcd⟩⟩
theorem fld_xf {K : PySem.W.Frag} {mg : Str → Option Value} {C fI : Addr} {cn p f qi : Str} {B newId initId : String} {bmB : List Value} (T : FldTxt K mg C fI cn p f qi B newId initId bmB) : XfC K C ∧ PySem.W.findIn K (.ref C) f = some none := ⟨⟨T.ga, T.gg, T.exC, T.hdC⟩, T.noN⟩
/-- the law's promise, at its call -/
theorem law_sp {G : Gg} {S : PSpec} {n : Nat} (hS : ∀ (ns : List Int) (kd : D → Prop) (kx : Exn → Prop), ns.length ≤ n → kd (.bl true) → S [.fls (ns.map .int)] kd kx) (H : Hp) (a : Addr) (ns : List Int) (hl : ns.length ≤ n) (tb : ∀ p ∈ G.T, H p.1 = some (.tbl #[])) (sq : SqL G.K H a (ns.map V.int)) :
    spP G 1 S [.ref a] H (fun v _ => v = .bl true) fun _ _ _ => False := by
  refine ⟨fun _ => False, [.fls (ns.map .int)], fun d => d = .bl true, fun _ => False, rfl, hS ns _ _ hl rfl, ⟨_, _, rfl, ⟨a, ns.map V.int, rfl, ?_, ?_⟩, rfl⟩, fun b w => w.elim, fun p hp => TabS.nil (tb p hp), fun d v H' e _ _ r => ?_, fun _ _ _ _ z => z.elim⟩
  · rcases sq with r | r
    · exact .inl ⟨r, fun z => z⟩
    · exact .inr r
  · clear hl sq
    induction ns with
    | nil => rfl
    | cons i r ih => exact ⟨_, _, rfl, rfl, ih⟩
  · subst e
    exact r
end DL
set_option Elab.async false
set_option linter.all false
set_option maxRecDepth 100000
set_option maxHeartbeats 4000000
/-! a def that is one try: what its error keeps is returned -/
namespace DL
open PySem PySem.Spec PyProof.Rows L2 LamX DLX
section
variable {G : Gg} {P : Program} {w : World} {base : Heap}
theorem CsOk.tr {c : Ci} {X : Cx} (C : CsOk c G P w base X) (pn : List (Addr × Obj)) {xe : Value → Shared → Prop} (hp : PassesOwn (model X.prog X.w) X.A X.env xe) : CsOk { c with met := none } G P w base (X.tr pn xe) :=
  ⟨⟨C.ci.prog, C.ci.wo, C.ci.K, C.ci.mg, C.ci.bas, C.ci.N, C.ci.sc, C.ci.nd, C.ci.calm, C.ci.room, C.ci.gd, C.ci.dig, C.ci.gs, fun _ _ _ _ e => by cases e⟩, C.fn, hp⟩
/-- what the clause makes of an exception -/
def toldX (isa : List (Str × Str × Bool)) (cn fld : Str) (kd : D → Rho → Prop) (kx : KX) : KX := fun x ρ => ∃ b, (x.1, cn, b) ∈ isa ∧ if b = true then x.1 = cn ∧ ∃ d, x.2 = some (fld, d) ∧ kd d ρ else kx x ρ
theorem sj_try1 {X : Cx} {ρ : Rho} {E : Ek} {i : Nat} {ex cn fld : Str} {C : Addr} {isa : List (Str × Str × Bool)} {body : List Stmt} {np p1 p2 p3 p4 pos : Pos} (hK : X.K = G.K) (hm : X.mg = G.mg) (hs : X.stack = X.env :: X.outer) (hf : X.env.frame = some X.env.locals) (hN : X.N.Nodup)
    (hi : X.N[i]? = some ex) (hk : X.env.kindOf ex = some .local) (h1 : (ex == ("__debug__" : Str)) = false) (h2 : (ex == ("__classdict__" : Str)) = false) (gl : Gl X cn) (nd : (cn == ("__debug__" : Str)) = false) (mg : G.mg cn = some (.ref C))
    (xf : XfC G.K C) (no : PySem.W.findIn G.K (.ref C) fld = some none) (isaK : IsaOk G.K G.mg isa)
    (hb : ∀ pn xe, PassesOwn (model X.prog X.w) X.A X.env xe → BJ G (X.tr pn xe) body ρ { E with xc := toldX isa cn fld E.rt E.xc }) :
    SJ G X (.Try body [.ExceptHandler (some (.Name cn np)) (some ex) [.Return (some (.Attribute (.Name ex p1) fld p2)) p3] p4] [] [] pos) ρ E := by
  intro P W σ H A Dn Wx tk en
  let cl : Clz := (.ref C, some i, fun a cls d => tRet (tXf a cls d C fld (tVar i)))
  have hh : Hdz X [.ExceptHandler (some (.Name cn np)) (some ex) [.Return (some (.Attribute (.Name ex p1) fld p2)) p3] p4] [cl] := by
    refine .as hi hk ⟨gl, nd, .inl (by rw [hm]; exact mg)⟩ (fun a oe cls d pn hz hf' => pss_one (ps_ret (pe_xf (X := X.suite a ((a, oe) :: pn)) (by rw [hK]; exact xf) (by rw [hK]; exact no) hz hf' (pe_var (X := X.suite a ((a, oe) :: pn)) (i := i) hi (.inl hk) h1 h2)))) .nil
  let tb : WX → TS := fun W' D σ' H' => ∃ (W1 : AS) (W2 : WX), Ag G P W1 ρ σ' H' ∧ (∀ c d σ H, σ.length = X.N.length → W2 c d σ H → W' c d σ H) ∧ EndsOk G P W1 H' { E with xc := toldX isa cn fld E.rt E.xc } D W2
  refine toS (ps_mix (tb := tb) hs hf hN tk (fun W' pn xe tk' hp => ⟨fun pins s σ' H' D I ⟨W1, W2, A1, l2, e1⟩ => ?_⟩) hh) ⟨W, fun c d σ H => σ.length = X.N.length → wMix X.K Wx Dn [cl] c d σ H, A, fun _ _ _ _ l z => z l, ⟨en.nx, en.rt, en.bk, en.ct, fun x ρ' W' σ' cls dd H' h A' L r hln => ?_, en.rf⟩⟩
  · exact hb pn xe hp P W1 σ' H' A1 D W2 (takes_len tk' l2) e1 pins s I
  · obtain ⟨b, hbm, h⟩ := h
    have e := isaK _ _ _ hbm cls (.ref C) r.1 mg
    refine ⟨b, by rw [hK]; exact e, fun z a na => ?_, fun z => ?_⟩
    · subst z
      rw [if_pos rfl] at h
      obtain ⟨ex', d, e2, hd⟩ := h
      have ec : cls = .ref C := by
        have q := r.1
        rw [ex'] at q
        exact Option.some.inj (q.symm.trans mg)
      obtain ⟨da, v, e3, e4, _, rr⟩ := r.2 fld d e2
      have hl : i < σ'.length := by rw [hln]; exact (List.getElem?_eq_some_iff.mp hi).1
      exact ⟨.ref a, List.getElem?_set_self hl, rfl, ec, da, _, v, e3, e4, by simp [List.lookup], en.rt d ρ' v H' hd A'.e (Rep.sub A'.w0 _ _ rr)⟩
    · subst z
      exact en.xc x ρ' W' σ' cls dd H' (by simpa using h) A' L r
theorem fn_pureT {x qual : Str} {params : Arguments} {body : List Stmt} {scope : Scope} {dvs : List V} {kws : List (Str × V)} {f : Addr} {fd : FuncData} {N ps : List Str} {k : Nat} {S : PSpec}
    (F : FunD G.K x qual params body scope dvs kws f fd) (Sc : FnScope N ps scope) (hps : ps.length ≤ N.length)
    (hb : ∀ X, Cxt G P w base N scope k qual fd.code X → X.stack = X.env :: X.outer → X.env.frame = some X.env.locals → ∀ ds kd kx, ds.length = ps.length → S ds kd kx → BJ G X body (rho0 N ds) (EkP kd kx)) :
    FnG P w G.K G.mg base (L2.CX P w) (k + 1) f fd ps (spP G ps.length S) := by
  refine fnG_of F Sc (fun vs H Q E ⟨W, ds, kd, kx, hn, _, r, _⟩ => by rw [← r.length]; exact hn) ?_
  rintro cdv A outer s H vs Q E hcd gd hr ⟨W, ds, kd, kx, hn, hS, r, wd, t, hQ, hE⟩
  have tk : Takes (cxOf (L2.CX P w) P w G.K G.mg base N qual scope f cdv A outer s H E) (fun cls d _ H => E cls d H) := takes_of rfl rfl rfl rfl
  have C : Cxt G P w base N scope k qual fd.code (cxOf (L2.CX P w) P w G.K G.mg base N qual scope f cdv A outer s H E) := ⟨hcd.symm, rfl, rfl, rfl, rfl, rfl, rfl, rfl, rfl, rfl, rfl, passes_of rfl, hr, gd⟩
  have A0 := ag_start (N := N) (by rw [hn]; exact hps) r wd t
  have kp : ∀ {H' : Hp}, (∀ b o, H b = some o → ¬ Fp.M ⟨H, W, fun _ => none⟩ b → H' b = some o ∨ ∃ ps ps', o = .tbl ps ∧ H' b = some (.tbl ps')) → Kp H H' := fun h b o e => h b o e fun ⟨i, z⟩ => by cases z
  refine ⟨_, sSs_pss, hb _ C rfl rfl ds kd kx hn hS _ W _ H A0 _ _ tk ⟨fun ρ' W' σ' H' h A' L => ?_, fun d ρ' v H' h A' r' => ?_, fun _ _ _ _ h => h.elim, fun _ _ _ _ h => h.elim, fun x ρ' W' σ' cls dd H' h A' L r' => ?_, fun _ _ _ _ _ h => h.elim⟩⟩
  · exact hQ .non .non H' h (kp A'.fr) A'.tb rfl
  · exact hQ d v H' h (kp A'.fr) A'.tb r'
  · refine hE x cls dd H' h (kp A'.fr) A'.tb ⟨r'.1, fun f a e => ?_⟩
    obtain ⟨d', v, e1, e2, e3, e4⟩ := r'.2 f a e
    exact ⟨d', v, e1, e2, fun z => e3 (A'.w0 _ z), Rep.sub A'.w0 _ _ e4⟩
/-- a def that is one try, by what its text asks -/
theorem fnT {c : Ci} {S : PSpec} {x qual : Str} {params : Arguments} {dvs : List V} {kws : List (Str × V)} {f : Addr} {fd : FuncData} {ps : List Str} {i : Nat} {ex cn fld : Str} {C : Addr} {isa : List (Str × Str × Bool)} {body : List Stmt} {np p1 p2 p3 p4 pos : Pos} (n : Nat)
    (F : FunD G.K x qual params [.Try body [.ExceptHandler (some (.Name cn np)) (some ex) [.Return (some (.Attribute (.Name ex p1) fld p2)) p3] p4] [] [] pos] c.sc dvs kws f fd) (Sc : FnScope c.N ps c.sc) (hps : ps.length ≤ c.N.length) (gs : ∀ x g, c.gs.lookup x = some g → GkOk G P w base x g) (dig : base.NoDigits)
    (met : c.met = none) (hi : c.N[i]? = some ex) (hk : c.sc.names.lookup ex = some .local) (h1 : (ex == ("__debug__" : Str)) = false) (h2 : (ex == ("__classdict__" : Str)) = false) (gl : c.sc.names.lookup cn = some .globalImplicit) (nd : (cn == ("__debug__" : Str)) = false) (mg : G.mg cn = some (.ref C))
    (xf : XfC G.K C) (no : PySem.W.findIn G.K (.ref C) fld = some none) (isaK : IsaOk G.K G.mg isa)
    (hv : ∀ ds kd kx, ds.length = ps.length → S ds kd kx → vB n c body (rho0 c.N ds) { nx := fun _ => kd .non, rt := fun d _ => kd d, xc := toldX isa cn fld (fun d _ => kd d) fun x _ => kx x }) :
    FnG P w G.K G.mg base (L2.CX P w) (c.k + 1) f fd ps (spP G ps.length S) :=
  fn_pureT F Sc hps fun X Cc hs hf ds kd kx hl hS => bj_cons (sj_try1 Cc.K Cc.mg hs hf (by rw [Cc.N]; exact Sc.nd) (by rw [Cc.N]; exact hi) (by show X.env.scope.names.lookup _ = _; rw [Cc.sc]; exact hk) h1 h2 (by show X.env.scope.names.lookup _ = _; rw [Cc.sc]; exact gl) nd mg xf no isaK fun pn xe hp => by
    have CS : CsOk c G P w base X := cs_of Cc Sc.nd gs dig fun _ _ _ _ e => by rw [met] at e; cases e
    have := (sndS n).b (CS.tr pn hp) (c := { c with met := none }) (by
      have q := hv ds kd kx hl hS
      have ec : { c with met := none } = c := by cases c; simp_all
      rw [ec]; exact q)
    exact bj_mono this ⟨fun ρ q => bj_nil q, fun _ _ q => q, fun _ q => q, fun _ q => q, fun _ _ q => q, fun _ _ q => q⟩)
end
end DL
set_option Elab.async false
set_option linter.all false
set_option maxRecDepth 100000
set_option maxHeartbeats 1000000
set_option exponentiation.threshold 3000
/-! what does not hang on the text: whole numbers, fractions, lots -/
namespace KM
open PySem PySem.Spec PyProof.Rows L2 DL
theorem abs_eq (i : Int) : (if i < 0 then -i else i) = (i.natAbs : Int) := by split <;> omega
theorem fdiv_root (n : Nat) : decide ((n : Int).fdiv (10 ^ 500) < 10 ^ 500) = decide (n < 10 ^ 1000) := by
  have e : (10 : Int) ^ 500 = ((10 ^ 500 : Nat) : Int) := by rw [Int.natCast_pow]; rfl
  have h : (10 : Nat) ^ 1000 = 10 ^ 500 * 10 ^ 500 := by rw [← Nat.pow_add]
  have p : 0 < (10 : Nat) ^ 500 := Nat.pow_pos (by decide)
  rw [e, h]
  generalize (10 : Nat) ^ 500 = r at p ⊢
  rw [← Int.ofNat_fdiv]
  apply decide_eq_decide.mpr
  rw [Int.ofNat_lt, Nat.div_lt_iff_lt_mul p]
theorem tyOk {d : D} (h : isPy d = true) : tyName d ≠ "?" := by
  cases d <;> first | (show _ ≠ _; simp [tyName]; done) | cases h
theorem ifT {c : Bool} {a b : Prop} (h : c = true) (x : a) : if c = true then a else b := by rw [if_pos h]; exact x
theorem ifF {c : Bool} {a b : Prop} (h : c = false) (x : b) : if c = true then a else b := by rw [h, if_neg Bool.false_ne_true]; exact x
/-! ### the data -/
abbrev frD (t b : Int) : D := .tup [.int t, .int b]
def isWh : D → Bool
  | .int i => decide (i.natAbs < 10 ^ 1000)
  | _ => false
def isWi (d : D) (a b : Int) : Bool := match d with
  | .int i => isWh d && (decide (a ≤ i) && decide (i ≤ b))
  | _ => false
def gI (t b : Int) : Int := ((Nat.gcd t.natAbs b.natAbs : Nat) : Int)
/-- lowest terms -/
def low (t b : Int) : Int × Int := if 0 < b then (t.fdiv (gI t b), b.fdiv (gI t b)) else (t.fdiv (-gI t b), b.fdiv (-gI t b))
def frB : D → D → Bool
  | .int t, .int b => decide (1 ≤ b) && decide (gI t b = 1)
  | _, _ => false
def isFr : D → Bool
  | .tup [x, y] => isWh x && (isWh y && frB x y)
  | _ => false
theorem isWh_int {x : D} (h : isWh x = true) : ∃ i, x = .int i := by
  cases x <;> first | exact ⟨_, rfl⟩ | cases h
theorem gI_log {t b : Int} (h0 : b ≠ 0) (hz : b.natAbs < 2 ^ 8999) : (gI t b).natAbs.log2 < 9000 := by
  have hb : 0 < b.natAbs := Int.natAbs_pos.mpr h0
  have h1 : Nat.gcd t.natAbs b.natAbs ≤ b.natAbs := Nat.gcd_le_right _ hb
  have h2 : 0 < Nat.gcd t.natAbs b.natAbs := Nat.gcd_pos_of_pos_right _ hb
  show (Nat.gcd t.natAbs b.natAbs).log2 < 9000
  have h3 := (Nat.log2_lt (Nat.ne_of_gt h2)).mpr (Nat.lt_of_le_of_lt h1 hz)
  omega
theorem sz1 {a : D} : [a].length ≤ sizeLine := by show 1 ≤ sizeLine; rw [sizeLine_eq]; decide
theorem sz2 {a b : D} : [a, b].length ≤ sizeLine := by show 2 ≤ sizeLine; rw [sizeLine_eq]; decide
theorem sz3 {a b c : D} : [a, b, c].length ≤ sizeLine := by show 3 ≤ sizeLine; rw [sizeLine_eq]; decide
theorem eq_int (i j : Int) : eqD (.int i) (.int j) = decide (i = j) := rfl
theorem eq_fr (p q : Int × Int) : eqD (frD p.1 p.2) (frD q.1 q.2) = decide (p = q) := by
  obtain ⟨a, b⟩ := p
  obtain ⟨c, d⟩ := q
  have e : eqD (frD a b) (frD c d) = (decide (a = c) && (decide (b = d) && true)) := by rfl
  show eqD (frD a b) (frD c d) = _
  rw [e]
  by_cases h1 : a = c <;> by_cases h2 : b = d <;> simp [h1, h2]
abbrev frP (p : Int × Int) : D := frD p.1 p.2
/-- a comprehension that only reads -/
theorem vcl_pure {n : Nat} {c : Ci} {scope : Scope} {vs : List Nat} {j : Nat} {elt : Expr} {l : List D} {ρ : Rho} {k : List D → Rho → Prop} (f : D → D) (hl : l.length ≤ 1000) (hj : j ∈ vs ∧ j < ρ.length ∧ (vs.all fun v => !muAt ρ v) = true)
    (he : ∀ d ∈ l, ∀ K : KD, K (f d) ((wipeS ρ vs).set j (.val d)) → vE n (inBlk c scope) elt ((wipeS ρ vs).set j (.val d)) K (fun _ _ => False)) (hm : ∀ d, sameK ((wipeS ρ vs).set j (.val d)) ((wipeS ρ vs).set j (.val d)) = true ∧ mrg ρ ((wipeS ρ vs).set j (.val d)) = ρ) (h : k (l.map f) ρ) :
    vCLoop (n + 1) c scope vs j [] elt l ρ k := by
  refine ⟨fun i acc ρ1 => acc = (l.take i).map f ∧ ρ1 = ρ, ⟨rfl, rfl⟩, ?_, ?_⟩
  · rintro i d acc ρ1 e ⟨rfl, rfl⟩
    refine ⟨hj, he d (List.mem_of_getElem? e) _ ⟨⟨(hm d).1, ?_⟩, ?_, (hm d).2⟩⟩
    · rw [List.length_map, List.length_take]
      have : 1000 < sizeLine := by rw [sizeLine_eq]; decide
      omega
    · have hi := (List.getElem?_eq_some_iff.mp e).1
      rw [List.take_add_one, e, List.map_append]
      rfl
  · rintro acc ρ1 ⟨rfl, rfl⟩
    rw [List.take_length]
    exact h
def prs1 : D → Int × Int
  | .tup [.int t, .int b] => (t, b)
  | _ => (0, 0)
theorem isFr_eq {d : D} (h : isFr d = true) : d = frP (prs1 d) := by
  unfold isFr at h
  split at h
  · rename_i x y
    obtain ⟨h1, h23⟩ := bo2 h
    obtain ⟨h2, h3⟩ := bo2 h23
    obtain ⟨t, e1⟩ := isWh_int h1
    obtain ⟨b, e2⟩ := isWh_int h2
    subst e1 e2
    rfl
  · cases h
theorem isPys_mem {l : List D} (h : isPy.isPys l = true) : ∀ d ∈ l, isPy d = true := by
  induction l with
  | nil => intro d hd; cases hd
  | cons x r ih =>
    obtain ⟨h1, h2⟩ := bo2 (show (isPy x && isPy.isPys r) = true from h)
    intro d hd
    rcases List.mem_cons.mp hd with rfl | hd
    · exact h1
    · exact ih h2 d hd
theorem at0 {α : Type} {c : α} {r : List α} : atI (c :: r) 0 = some c := by
  unfold L2.atI L2.ixN
  simp
def inT (x y : Str) : Bool := !(Builtin.Str.occurrences y x 0 y.length 1).isEmpty
def letters : Str := "abcdefghijklmnopqrstuvwxyz"
def nsigns : Str := "abcdefghijklmnopqrstuvwxyz0123456789"
def sgB : D → Bool
  | .str x => inT x nsigns
  | _ => false
def hdB : List Nat → Bool
  | c :: _ => inT ⟨#[c]⟩ letters
  | [] => false
def isNm : D → Bool
  | .str x => (decide (1 ≤ (x.length : Int)) && decide ((x.length : Int) ≤ 8)) && (hdB x.cps.toList && (DL.signs x).all sgB)
  | _ => false
/-- a comprehension with a test, both only read -/
theorem vcl_filt {n : Nat} {c : Ci} {scope : Scope} {vs : List Nat} {j : Nat} {t elt : Expr} {l : List D} {ρ : Rho} {k : List D → Rho → Prop} (p : D → Bool) (f : D → D) (hl : l.length ≤ 1000) (hj : j ∈ vs ∧ j < ρ.length ∧ (vs.all fun v => !muAt ρ v) = true)
    (ht : ∀ d ∈ l, ∀ K : Bool → Rho → Prop, K (p d) ((wipeS ρ vs).set j (.val d)) → vT n (inBlk c scope) t ((wipeS ρ vs).set j (.val d)) K (fun _ _ => False))
    (he : ∀ d ∈ l, ∀ K : KD, K (f d) ((wipeS ρ vs).set j (.val d)) → vE n (inBlk c scope) elt ((wipeS ρ vs).set j (.val d)) K (fun _ _ => False)) (hm : ∀ d, sameK ((wipeS ρ vs).set j (.val d)) ((wipeS ρ vs).set j (.val d)) = true ∧ mrg ρ ((wipeS ρ vs).set j (.val d)) = ρ)
    (h : k ((l.filter p).map f) ρ) : vCLoop (n + 1) c scope vs j [t] elt l ρ k := by
  refine ⟨fun i acc ρ1 => acc = ((l.take i).filter p).map f ∧ ρ1 = ρ, ⟨rfl, rfl⟩, ?_, ?_⟩
  · rintro i d acc ρ1 e ⟨rfl, rfl⟩
    have et : (l.take (i + 1)).filter p = (l.take i).filter p ++ [d].filter p := by rw [List.take_add_one, e, List.filter_append]; rfl
    refine ⟨hj, ht d (List.mem_of_getElem? e) _ ⟨(hm d).1, ?_⟩⟩
    cases hp : p d with
    | true =>
      refine he d (List.mem_of_getElem? e) _ ⟨⟨(hm d).1, ?_⟩, ?_, (hm d).2⟩
      · have h1 : ((l.take i).filter p).length ≤ (l.take i).length := List.length_filter_le _ _
        rw [List.length_map]
        rw [List.length_take] at h1
        have h2 : 1000 < sizeLine := by rw [sizeLine_eq]; decide
        omega
      · rw [et, List.map_append, List.filter_cons_of_pos hp]
        rfl
    | false =>
      refine ⟨?_, (hm d).2⟩
      rw [et, List.map_append, List.filter_cons_of_neg (by rw [hp]; decide)]
      simp
  · rintro acc ρ1 ⟨rfl, rfl⟩
    rw [List.take_length]
    exact h
/-! ### texts as data -/
theorem pys_strs : ∀ xs : List Str, toPy.toPys (xs.map D.str) = xs.map PyData.str
  | [] => rfl
  | x :: r => by
    show PyData.str x :: toPy.toPys (r.map D.str) = _
    rw [pys_strs r]; rfl
theorem isPys_strs : ∀ xs : List Str, isPy.isPys (xs.map D.str) = true
  | [] => rfl
  | x :: r => isPys_strs r
theorem shp_str {x : Str} (h : PyData.strOk x = true) : shp (.str x) = true := by
  show (true && (PyData.strOk x && decide (0 ≤ 64))) = true
  rw [h]; rfl
theorem shp_strs {xs : List Str} (h : xs.all PyData.strOk = true) : shp (.tup (xs.map .str)) = true := by
  show (isPy.isPys (xs.map D.str) && (PyData.canLayAll0 (toPy.toPys (xs.map D.str)) && decide (PyData.depthAll (toPy.toPys (xs.map D.str)) + 1 ≤ 64))) = true
  rw [isPys_strs, pys_strs, canLayAll_strs', depthAll_strs', h]; rfl
theorem inD_strs (x : Str) (ys : List Str) : inD (.str x) (ys.map .str) = decide (x ∈ ys) := by
  unfold inD
  rw [pys_strs]
  induction ys with
  | nil => rfl
  | cons y r ih =>
    rw [List.map_cons, List.any_cons, ih]
    show ((y == x) || decide (x ∈ r)) = decide (x ∈ y :: r)
    by_cases e : x = y
    · subst e; simp
    · have e2 : (y == x) = false := by simpa using fun z : y = x => e z.symm
      rw [e2, Bool.false_or]
      simp [e]
end KM
set_option Elab.async false
set_option linter.all false
set_option maxRecDepth 100000
set_option maxHeartbeats 1000000
set_option exponentiation.threshold 3000
namespace K01
open PySem PySem.Spec PyProof.Rows L2 DL KM TX
def top (i : Nat) : Stmt := PySem.Challenge.pw_seenanddone_k01_lots_and_texts_of_fracti.main.body.getD i (.Pass ⟨0, 0, 0, 0⟩)
/-! ### texts that rise -/
def upB : List Str → Bool
  | x :: y :: r => ltS x y && upB (y :: r)
  | _ => true
def strD : D → Str
  | .str x => x
  | _ => Str.empty
def isLt : D → Bool
  | .tup l => l.all isNm && upB (l.map strD)
  | _ => false
theorem nm_str {d : D} (h : isNm d = true) : d = .str (strD d) := by
  cases d <;> first | rfl | cases h
theorem nms_str {l : List D} (h : l.all isNm = true) : l = (l.map strD).map D.str := by
  rw [List.map_map]
  exact ((List.map_congr_left (g := id) fun d hm => (nm_str (List.all_eq_true.mp h d hm)).symm).trans (List.map_id l)).symm
theorem upB_iff : ∀ {xs : List Str}, upB xs = true ↔ Upw xs
  | [] => ⟨fun _ => List.Pairwise.nil, fun _ => rfl⟩
  | [x] => ⟨fun _ => List.pairwise_singleton _ _, fun _ => rfl⟩
  | x :: y :: r => by
    have e : upB (x :: y :: r) = (ltS x y && upB (y :: r)) := rfl
    rw [e, Bool.and_eq_true, upB_iff]
    constructor
    · rintro ⟨h1, h2⟩
      refine List.pairwise_cons.mpr ⟨fun z hz => ?_, h2⟩
      rcases List.mem_cons.mp hz with rfl | hz
      · exact h1
      · exact ltS_tr h1 ((List.pairwise_cons.mp h2).1 z hz)
    · intro h
      obtain ⟨h1, h2⟩ := List.pairwise_cons.mp h
      exact ⟨h1 y List.mem_cons_self, h2⟩
/-- each with the next one -/
def stepB (xs : List Str) (d : D) : Bool := match d with
  | .int i => ltS (xs.getD i.toNat Str.empty) (xs.getD (i.toNat + 1) Str.empty)
  | _ => false
theorem range_all (p : Nat → Bool) : ∀ n, ((List.range n).map p).all id = (List.range n).all p := fun n => by rw [List.all_map]; rfl
theorem upB_steps : ∀ xs : List Str, upB xs = (List.range (xs.length - 1)).all fun i => ltS (xs.getD i Str.empty) (xs.getD (i + 1) Str.empty)
  | [] => rfl
  | [x] => rfl
  | x :: y :: r => by
    have e : upB (x :: y :: r) = (ltS x y && upB (y :: r)) := rfl
    rw [e, upB_steps (y :: r)]
    show _ = (List.range (r.length + 1)).all _
    rw [List.range_succ_eq_map, List.all_cons, List.all_map]
    rfl
def S_is_whole : PSpec := fun ds kd _ => ∃ d, ds = [d] ∧ isPy d = true ∧ kd (.bl (isWh d))
def S_asc : PSpec := fun ds kd _ => ∃ xs : List Str, ds = [.tup (xs.map .str)] ∧ xs.length ≤ 1000 ∧ kd (.bl (upB xs))
def S_lot_of : PSpec := fun ds kd _ => ∃ d xs, ds = [d] ∧ Txs d xs ∧ xs.length + 1 < scanBound ∧ kd (.tup ((lotS xs).map .str))
def S_is_name : PSpec := fun ds kd _ => ∃ d, ds = [d] ∧ isPy d = true ∧ (∀ x, d = .str x → x.length ≤ 1000) ∧ kd (.bl (isNm d))
/-- a value whose parts are small -/
def smallL (d : D) : Prop := isPy d = true ∧ ∀ l, d = .tup l → l.length ≤ 1000 ∧ ∀ x, D.str x ∈ l → x.length ≤ 1000 ∧ PyData.strOk x = true
def S_is_lot : PSpec := fun ds kd _ => ∃ d, ds = [d] ∧ smallL d ∧ kd (.bl (isLt d))
def gs0 : List (Str × Gk) := [("isinstance", .blt "isinstance"), ("int", .typ "int"), ("bool", .con (.ty "bool")), ("tuple", .typ "tuple"), ("str", .typ "str"), ("list", .typ "list"), ("set", .typ "set"), ("sorted", .blt "sorted"), ("abs", .blt "abs"), ("len", .blt "len"), ("all", .blt "all"), ("min", .blt "min"), ("range", .typ "range"), ("gcd", .bfn "math.gcd"),
  ("_ROOT", .con (.int (10 ^ 500))), ("_LETTERS", .con (.str "abcdefghijklmnopqrstuvwxyz")), ("_DIGITS", .con (.str "0123456789")), ("_SIGNS", .con (.str "abcdefghijklmnopqrstuvwxyz0123456789")), ("_LONGEST_NAME", .con (.int 8)), ("_MOST_DIGITS", .con (.int 1000)), ("_MOST_NAMES", .con (.int 10)),
  ("InvalidFraction", .exS), ("InvalidLot", .exS), ("InvalidNumber", .exF "given"), ("ParseError", .exF "spot")]
def gs1 : List (Str × Gk) := ("is_whole", .pf 1 S_is_whole 1 []) :: gs0
def gs2 : List (Str × Gk) := ("is_ascending", .pf 1 S_asc 1 []) :: gs1
def gs3 : List (Str × Gk) := ("lot_of", .pf 1 S_lot_of 1 []) :: gs2
def gs4 : List (Str × Gk) := ("is_name", .pf 1 S_is_name 1 []) :: gs3
def gs5 : List (Str × Gk) := ("is_lot", .pf 2 S_is_lot 1 []) :: gs4
def c4 : Ci := ⟨["values", "index"], defScope (top 4), 0, gs1, [], none, [("index", 3)]⟩
theorem at_str {xs : List Str} {i : Nat} (h : i < xs.length) : atI (xs.map D.str) (i : Int) = some (.str (xs.getD i Str.empty)) := by
  unfold L2.atI L2.ixN
  rw [if_pos (by omega), if_pos (by rw [List.length_map]; omega)]
  show (xs.map D.str)[((i : Int)).toNat]? = _
  rw [Int.toNat_natCast, List.getElem?_map, List.getElem?_eq_getElem h, List.getD_eq_getElem?_getD, List.getElem?_eq_getElem h]
  rfl
theorem v4 (ds : List D) (kd : D → Prop) (kx : Exn → Prop) (h : S_asc ds kd kx) : vB 40 c4 (defBody (top 4)) (rho0 c4.N ds) (EkP kd kx) := by
  obtain ⟨xs, rfl, hl, hk⟩ := h
  have el : (xs.map D.str).length = xs.length := List.length_map _
  refine ⟨by rw [el]; omega, ?_⟩
  refine vcl_pure (fun d => .bl (stepB xs d)) (by rw [upto_len, el]; omega) ⟨by decide, (by show 1 < 2; decide), rfl⟩ (fun d hm K hK => ?_) (fun d => ⟨rfl, rfl⟩) ?_
  · unfold upto at hm
    obtain ⟨i, hi, rfl⟩ := List.mem_map.mp hm
    rw [List.mem_range, el] at hi
    have h1 : i < xs.length := by omega
    have h2 : i + 1 < xs.length := by omega
    refine ⟨_, at_str h1, _, (by exact at_str h2), ?_⟩
    exact hK
  · refine ⟨(upto ((((xs.map D.str).length : Nat) : Int) - 1)).map (stepB xs), by rw [List.map_map]; rfl, ?_⟩
    refine (congrArg kd (congrArg D.bl ?_)).mp hk
    rw [upB_steps, List.all_map]
    unfold upto
    rw [List.all_map, el]
    have e2 : ((xs.length : Int) - 1).toNat = xs.length - 1 := by omega
    rw [e2]
    rfl
def c5 : Ci := ⟨["names"], defScope (top 5), 0, gs2, [], none, []⟩
theorem v5 (ds : List D) (kd : D → Prop) (kx : Exn → Prop) (h : S_lot_of ds kd kx) : vB 40 c5 (defBody (top 5)) (rho0 c5.N ds) (EkP kd kx) := by
  obtain ⟨d, xs, rfl, t, hb, hk⟩ := h
  exact ⟨xs, t, hb, hk⟩
end K01
set_option Elab.async false
set_option linter.all false
set_option maxRecDepth 100000
set_option maxHeartbeats 1000000
set_option exponentiation.threshold 3000
namespace K01
open PySem PySem.Spec PyProof.Rows L2 DL KM TX
def S_lowest : PSpec := fun ds kd _ => ∃ t b, ds = [.int t, .int b] ∧ b ≠ 0 ∧ b.natAbs < 2 ^ 8999 ∧ kd (frD (low t b).1 (low t b).2)
def S_is_fraction : PSpec := fun ds kd _ => ∃ d, ds = [d] ∧ isPy d = true ∧ kd (.bl (isFr d))
def c3 : Ci := ⟨["value"], defScope (top 3), 0, gs0, [], none, []⟩
theorem v3 (ds : List D) (kd : D → Prop) (kx : Exn → Prop) (h : S_is_whole ds kd kx) : vB 30 c3 (defBody (top 3)) (rho0 c3.N ds) (EkP kd kx) := by
  obtain ⟨d, rfl, hd, hk⟩ := h
  cases d with
  | int i =>
    refine ⟨⟨rfl, tyOk rfl⟩, ?_⟩
    refine ⟨⟨rfl, tyOk rfl⟩, ?_⟩
    refine ⟨⟨by decide, by decide +kernel⟩, ?_⟩
    refine (congrArg kd (congrArg D.bl ?_)).mp hk
    show decide (i.natAbs < 10 ^ 1000) = decide ((if i < 0 then -i else i).fdiv (10 ^ 500) < 10 ^ 500)
    rw [abs_eq, fdiv_root]
  | non => exact ⟨⟨rfl, tyOk rfl⟩, hk⟩
  | bl b => exact ⟨⟨rfl, tyOk rfl⟩, ⟨rfl, tyOk rfl⟩, hk⟩
  | str x => exact ⟨⟨rfl, tyOk rfl⟩, hk⟩
  | tup l => exact ⟨⟨rfl, tyOk hd⟩, hk⟩
  | lst l => exact ⟨⟨rfl, tyOk hd⟩, hk⟩
  | fls l => exact ⟨⟨rfl, tyOk hd⟩, hk⟩
  | fn x => cases hd
  | ty x => cases hd
def c6 : Ci := ⟨["top", "bottom", "shared"], defScope (top 6), 0, gs0, [], none, []⟩
theorem v6 (ds : List D) (kd : D → Prop) (kx : Exn → Prop) (h : S_lowest ds kd kx) : vB 30 c6 (defBody (top 6)) (rho0 c6.N ds) (EkP kd kx) := by
  obtain ⟨t, b, rfl, h0, hz, hk⟩ := h
  have hg : gI t b ≠ 0 := fun z => h0 (by have := Int.natCast_eq_zero.mp z; exact Int.natAbs_eq_zero.mp (Nat.gcd_eq_zero_iff.mp this).2)
  have hl : (gI t b).natAbs.log2 < 9000 := gI_log h0 hz
  unfold low at hk
  by_cases hb : 0 < b
  · refine ifT (decide_eq_true hb) ?_
    rw [if_pos hb] at hk
    exact ⟨⟨hg, hl⟩, ⟨hg, hl⟩, sz2, hk⟩
  · refine ifF (decide_eq_false hb) ?_
    rw [if_neg hb] at hk
    exact ⟨⟨Int.neg_ne_zero.mpr hg, by rw [Int.natAbs_neg]; exact hl⟩, ⟨Int.neg_ne_zero.mpr hg, by rw [Int.natAbs_neg]; exact hl⟩, sz2, hk⟩
def c21 : Ci := ⟨["value", "top", "bottom"], defScope (top 21), 1, gs1, [], none, []⟩
theorem v21 (ds : List D) (kd : D → Prop) (kx : Exn → Prop) (h : S_is_fraction ds kd kx) : vB 40 c21 (defBody (top 21)) (rho0 c21.N ds) (EkP kd kx) := by
  obtain ⟨d, rfl, hd, hk⟩ := h
  cases d with
  | tup l =>
    refine ⟨⟨rfl, tyOk hd⟩, ?_⟩
    match l, hd, hk with
    | [], hd, hk => exact ⟨⟨rfl, rfl⟩, hk⟩
    | [x], hd, hk => exact ⟨⟨rfl, rfl⟩, hk⟩
    | [x, y], hd, hk =>
      obtain ⟨hx, hd⟩ := bo2 (show (isPy x && (isPy y && true)) = true from hd)
      obtain ⟨hy, _⟩ := bo2 hd
      refine ⟨⟨rfl, rfl⟩, x, rfl, hx, ?_⟩
      have e : isFr (.tup [x, y]) = (isWh x && (isWh y && frB x y)) := rfl
      rw [e] at hk
      cases h1 : isWh x with
      | false => rw [h1] at hk; exact hk
      | true =>
        rw [h1] at hk
        refine ⟨y, rfl, hy, ?_⟩
        cases h2 : isWh y with
        | false => rw [h2] at hk; exact hk
        | true =>
          rw [h2] at hk
          obtain ⟨t, rfl⟩ := isWh_int h1
          obtain ⟨b, rfl⟩ := isWh_int h2
          have e : frB (.int t) (.int b) = (decide (1 ≤ b) && decide (gI t b = 1)) := rfl
          rw [e] at hk
          by_cases h3 : 1 ≤ b
          · rw [decide_eq_true h3] at hk
            refine ifT (decide_eq_true h3) ?_
            exact ⟨⟨rfl, rfl⟩, hk⟩
          · rw [decide_eq_false h3] at hk
            exact ifF (decide_eq_false h3) hk
    | x :: y :: z :: r, hd, hk =>
      refine ⟨⟨rfl, rfl⟩, ifT ?_ hk⟩
      show (!eqD (.int ((r.length + 3 : Nat) : Int)) (.int 2)) = true
      rw [KM.eq_int, decide_eq_false (by omega)]
      rfl
  | fn x => cases hd
  | ty x => cases hd
  | _ => exact ⟨⟨rfl, tyOk hd⟩, hk⟩
def c22 : Ci := ⟨["value", "sign"], defScope (top 22), 0, gs0, [], none, [("sign", 2)]⟩
theorem v22 (ds : List D) (kd : D → Prop) (kx : Exn → Prop) (h : S_is_name ds kd kx) : vB 40 c22 (defBody (top 22)) (rho0 c22.N ds) (EkP kd kx) := by
  obtain ⟨d, rfl, hd, hs, hk⟩ := h
  cases d with
  | str x =>
    have hx := hs x rfl
    have hz : x.length ≤ sizeLine := Nat.le_trans hx (by rw [sizeLine_eq]; decide)
    refine ⟨⟨rfl, tyOk hd⟩, hz, ?_⟩
    have e : isNm (.str x) = ((decide (1 ≤ (x.length : Int)) && decide ((x.length : Int) ≤ 8)) && (hdB x.cps.toList && (DL.signs x).all sgB)) := rfl
    rw [e] at hk
    by_cases h1 : 1 ≤ (x.length : Int)
    · refine ifT (decide_eq_true h1) ?_
      rw [decide_eq_true h1] at hk
      by_cases h2 : (x.length : Int) ≤ 8
      · rw [decide_eq_true h2] at hk
        refine ifF (by rw [decide_eq_true h2]; rfl) ?_
        obtain ⟨c, r, hc⟩ : ∃ c r, x.cps.toList = c :: r := by
          cases q : x.cps.toList with
          | cons c r => exact ⟨c, r, rfl⟩
          | nil =>
            have q2 : x.cps.size = 0 := by rw [← Array.length_toList, q]; rfl
            have q3 : x.length = x.cps.size := rfl
            omega
        have e0 : atI x.cps.toList 0 = some c := by rw [hc]; exact at0
        refine ⟨hz, c, e0, ?_⟩
        rw [hc] at hk
        cases h3 : inT ⟨#[c]⟩ letters with
        | false =>
          rw [show hdB (c :: r) = inT ⟨#[c]⟩ letters from rfl, h3] at hk
          exact ifF h3 hk
        | true =>
          rw [show hdB (c :: r) = inT ⟨#[c]⟩ letters from rfl, h3] at hk
          refine ifT h3 ?_
          refine vcl_pure (fun d => .bl (sgB d)) (by rw [show (DL.signs x).length = x.length from by unfold DL.signs; rw [List.length_map, Array.length_toList]; rfl]; exact hx) ⟨by decide, (by show 1 < 2; decide), rfl⟩ (fun d hm K hK => ?_) (fun d => ⟨rfl, rfl⟩) ?_
          · unfold DL.signs at hm
            obtain ⟨c', _, rfl⟩ := List.mem_map.mp hm
            exact hK
          · refine ⟨(DL.signs x).map sgB, by rw [List.map_map]; rfl, ?_⟩
            rw [show ((DL.signs x).map sgB).all id = (DL.signs x).all sgB by rw [List.all_map]; rfl]
            exact hk
      · rw [decide_eq_false h2] at hk
        refine ifT (by rw [decide_eq_false h2]; rfl) hk
    · rw [decide_eq_false h1] at hk
      exact ifF (decide_eq_false h1) hk
  | fn x => cases hd
  | ty x => cases hd
  | _ => exact ⟨⟨rfl, tyOk hd⟩, hk⟩

def gs6 : List (Str × Gk) := ("lowest", .pf 1 S_lowest 2 []) :: gs5
def gs7 : List (Str × Gk) := ("is_fraction", .pf 2 S_is_fraction 1 []) :: gs6
def c23 : Ci := ⟨["value", "name"], defScope (top 23), 1, gs4, [], none, [("name", 1)]⟩
theorem v23 (ds : List D) (kd : D → Prop) (kx : Exn → Prop) (h : S_is_lot ds kd kx) : vB 40 c23 (defBody (top 23)) (rho0 c23.N ds) (EkP kd kx) := by
  obtain ⟨d, rfl, ⟨hd, hs⟩, hk⟩ := h
  cases d with
  | tup l =>
    obtain ⟨hl, hx⟩ := hs l rfl
    refine ⟨⟨rfl, tyOk hd⟩, ?_⟩
    refine vcl_pure (fun d => .bl (isNm d)) hl ⟨by decide, (by show 1 < 2; decide), rfl⟩ (fun d hm K hK => ?_) (fun d => ⟨rfl, rfl⟩) ?_
    · exact ⟨d, rfl, isPys_mem (show isPy.isPys l = true from hd) d hm, fun x e => (hx x (e ▸ hm)).1, hK⟩
    · refine ⟨l.map isNm, by rw [List.map_map]; rfl, ?_⟩
      have e : isLt (.tup l) = (l.all isNm && upB (l.map strD)) := rfl
      rw [e] at hk
      rw [show (l.map isNm).all id = l.all isNm by rw [List.all_map]; rfl]
      cases ha : l.all isNm with
      | false => rw [ha] at hk; exact hk
      | true =>
        rw [ha] at hk
        exact ⟨l.map strD, by rw [← nms_str ha]; rfl, by rw [List.length_map]; exact hl, hk⟩
  | fn x => cases hd
  | ty x => cases hd
  | _ => exact ⟨⟨rfl, tyOk hd⟩, hk⟩
/-! ### what is refused -/
def S_need_fraction : PSpec := fun ds kd kx => ∃ d, ds = [d] ∧ isPy d = true ∧ if isFr d = true then kd .non else kx ("InvalidFraction", none)
def S_need_lots : PSpec := fun ds kd kx => ∃ d e, ds = [d, e] ∧ smallL d ∧ smallL e ∧ if (isLt d && isLt e) = true then kd .non else kx ("InvalidLot", none)
def lotD (d : D) : List Str := match d with
  | .tup l => l.map strD
  | _ => []
def S_lots2 (f : List Str → List Str → List Str) : PSpec := fun ds kd kx => ∃ d e, ds = [d, e] ∧ smallL d ∧ smallL e ∧ if (isLt d && isLt e) = true then kd (.tup ((f (lotD d) (lotD e)).map .str)) else kx ("InvalidLot", none)
def unionS (xs ys : List Str) : List Str := lotS (xs ++ ys)
def commonS (xs ys : List Str) : List Str := xs.filter fun x => decide (x ∈ ys)
def withoutS (xs ys : List Str) : List Str := xs.filter fun x => !decide (x ∈ ys)
def gs8 : List (Str × Gk) := ("_need_fraction", .pf 3 S_need_fraction 1 []) :: gs7
def gs9 : List (Str × Gk) := ("_need_lots", .pf 3 S_need_lots 2 []) :: gs8
def c24 : Ci := ⟨["value"], defScope (top 24), 2, gs7, [], none, []⟩
theorem v24 (ds : List D) (kd : D → Prop) (kx : Exn → Prop) (h : S_need_fraction ds kd kx) : vB 40 c24 (defBody (top 24)) (rho0 c24.N ds) (EkP kd kx) := by
  obtain ⟨d, rfl, hd, hk⟩ := h
  refine ⟨d, rfl, hd, ?_⟩
  cases hf : isFr d with
  | true => rw [hf] at hk; exact hk
  | false => rw [hf] at hk; exact hk
def c25 : Ci := ⟨["one", "other"], defScope (top 25), 2, gs7, [], none, []⟩
theorem v25 (ds : List D) (kd : D → Prop) (kx : Exn → Prop) (h : S_need_lots ds kd kx) : vB 40 c25 (defBody (top 25)) (rho0 c25.N ds) (EkP kd kx) := by
  obtain ⟨d, e, rfl, hd, he, hk⟩ := h
  refine ⟨d, rfl, hd, ?_⟩
  cases hf : isLt d with
  | false => rw [hf] at hk; exact hk
  | true =>
    rw [hf] at hk
    refine ⟨e, rfl, he, ?_⟩
    cases hg : isLt e with
    | false => rw [hg] at hk; exact hk
    | true => rw [hg] at hk; exact hk
end K01
set_option Elab.async false
set_option linter.all false
set_option maxRecDepth 100000
set_option maxHeartbeats 1000000
set_option exponentiation.threshold 3000
namespace K01
open PySem PySem.Spec PyProof.Rows L2 DL KM TX
theorem lt_tup {d : D} (h : isLt d = true) : d = .tup ((lotD d).map .str) ∧ Upw (lotD d) := by
  cases d with
  | tup l =>
    obtain ⟨h1, h2⟩ := bo2 (show (l.all isNm && upB (l.map strD)) = true from h)
    exact ⟨congrArg D.tup (nms_str h1), upB_iff.mp h2⟩
  | _ => cases h
theorem small_lot {d : D} (hs : smallL d) (h : isLt d = true) : (lotD d).length ≤ 1000 ∧ (lotD d).all PyData.strOk = true := by
  obtain ⟨e, _⟩ := lt_tup h
  obtain ⟨h1, h2⟩ := hs.2 _ e
  rw [List.length_map] at h1
  exact ⟨h1, List.all_eq_true.mpr fun x hx => (h2 x (List.mem_map.mpr ⟨x, hx, rfl⟩)).2⟩
theorem if_use {b : Bool} {p q : Prop} (h : if b = true then p else q) : (b = true → p) ∧ (b = false → q) := by
  cases b with
  | false => exact ⟨fun z => (by cases z), fun _ => h⟩
  | true => exact ⟨fun _ => h, fun z => (by cases z)⟩
def c26 : Ci := ⟨["one", "other"], defScope (top 26), 3, gs9, [], none, []⟩
theorem v26 (ds : List D) (kd : D → Prop) (kx : Exn → Prop) (h : S_lots2 unionS ds kd kx) : vB 40 c26 (defBody (top 26)) (rho0 c26.N ds) (EkP kd kx) := by
  obtain ⟨d, e, rfl, hd, he, hk⟩ := h
  obtain ⟨k1, k2⟩ := if_use hk
  refine ⟨d, e, rfl, hd, he, ?_⟩
  by_cases hb : (isLt d && isLt e) = true
  case neg => exact ifF (Bool.eq_false_iff.mpr hb) (k2 (Bool.eq_false_iff.mpr hb))
  refine ifT hb ?_
  obtain ⟨b1, b2⟩ := bo2 hb
  have q := k1 hb
  have s1 := small_lot hd b1
  have s2 := small_lot he b2
  have t1 := (lt_tup b1).1
  have t2 := (lt_tup b2).1
  generalize lotD d = xs at q s1 t1
  generalize lotD e = ys at q s2 t2
  subst t1 t2
  have h1 : 4000 < sizeLine := by rw [sizeLine_eq]; decide
  refine ⟨by rw [List.length_map, List.length_map]; omega, ?_⟩
  refine ⟨.tup (xs.map .str ++ ys.map .str), xs ++ ys, rfl, by rw [← List.map_append]; exact .t _, ?_, q⟩
  rw [List.length_append]
  have h2 : 4000 < scanBound := by decide
  omega
def c27 : Ci := ⟨["one", "other", "name"], defScope (top 27), 3, gs9, [], none, [("name", 1)]⟩
theorem v27 (ds : List D) (kd : D → Prop) (kx : Exn → Prop) (h : S_lots2 commonS ds kd kx) : vB 40 c27 (defBody (top 27)) (rho0 c27.N ds) (EkP kd kx) := by
  obtain ⟨d, e, rfl, hd, he, hk⟩ := h
  obtain ⟨k1, k2⟩ := if_use hk
  refine ⟨d, e, rfl, hd, he, ?_⟩
  by_cases hb : (isLt d && isLt e) = true
  case neg => exact ifF (Bool.eq_false_iff.mpr hb) (k2 (Bool.eq_false_iff.mpr hb))
  refine ifT hb ?_
  obtain ⟨b1, b2⟩ := bo2 hb
  have q := k1 hb
  have s1 := small_lot hd b1
  have s2 := small_lot he b2
  have t1 := (lt_tup b1).1
  have t2 := (lt_tup b2).1
  generalize lotD d = xs at q s1 t1
  generalize lotD e = ys at q s2 t2
  subst t1 t2
  refine vcl_filt (fun d => decide (strD d ∈ ys)) (fun d => d) (by rw [List.length_map]; exact s1.1) ⟨by decide, (by show 2 < 3; decide), rfl⟩ (fun d hm K hK => ?_) (fun d hm K hK => hK) (fun d => ⟨rfl, rfl⟩) ?_
  · obtain ⟨x, hx, rfl⟩ := List.mem_map.mp hm
    refine ⟨⟨shp_str (List.all_eq_true.mp s1.2 x hx), shp_strs s2.2⟩, ?_⟩
    rw [inD_strs]
    exact hK
  · refine (congrArg kd (congrArg D.tup ?_)).mp q
    unfold commonS
    rw [List.map_id', List.filter_map]
    rfl
def c28 : Ci := ⟨["one", "other", "name"], defScope (top 28), 3, gs9, [], none, [("name", 1)]⟩
theorem v28 (ds : List D) (kd : D → Prop) (kx : Exn → Prop) (h : S_lots2 withoutS ds kd kx) : vB 40 c28 (defBody (top 28)) (rho0 c28.N ds) (EkP kd kx) := by
  obtain ⟨d, e, rfl, hd, he, hk⟩ := h
  obtain ⟨k1, k2⟩ := if_use hk
  refine ⟨d, e, rfl, hd, he, ?_⟩
  by_cases hb : (isLt d && isLt e) = true
  case neg => exact ifF (Bool.eq_false_iff.mpr hb) (k2 (Bool.eq_false_iff.mpr hb))
  refine ifT hb ?_
  obtain ⟨b1, b2⟩ := bo2 hb
  have q := k1 hb
  have s1 := small_lot hd b1
  have s2 := small_lot he b2
  have t1 := (lt_tup b1).1
  have t2 := (lt_tup b2).1
  generalize lotD d = xs at q s1 t1
  generalize lotD e = ys at q s2 t2
  subst t1 t2
  refine vcl_filt (fun d => !decide (strD d ∈ ys)) (fun d => d) (by rw [List.length_map]; exact s1.1) ⟨by decide, (by show 2 < 3; decide), rfl⟩ (fun d hm K hK => ?_) (fun d hm K hK => hK) (fun d => ⟨rfl, rfl⟩) ?_
  · obtain ⟨x, hx, rfl⟩ := List.mem_map.mp hm
    refine ⟨⟨shp_str (List.all_eq_true.mp s1.2 x hx), shp_strs s2.2⟩, ?_⟩
    rw [inD_strs]
    exact hK
  · refine (congrArg kd (congrArg D.tup ?_)).mp q
    unfold withoutS
    rw [List.map_id', List.filter_map]
    rfl
/-! ### a fraction's text -/
def fracT (p : Int × Int) : Str := if p.2 = 1 then toString p.1 else toString p.1 ++ ("/" : Str) ++ toString p.2
end K01
set_option Elab.async false
set_option linter.all false
set_option maxRecDepth 100000
set_option maxHeartbeats 1000000
set_option exponentiation.threshold 9500
namespace K01
open PySem PySem.Spec PyProof.Rows L2 DL KM TX
theorem big {n : Nat} (h : n < 10 ^ 1000) : n < 2 ^ 4000 := by
  have h1 : (10 : Nat) ^ 1000 ≤ 16 ^ 1000 := Nat.pow_le_pow_left (by decide) _
  have h2 : (16 : Nat) ^ 1000 = 2 ^ 4000 := by rw [show (16 : Nat) = 2 ^ 4 from rfl, ← Nat.pow_mul]
  rw [h2] at h1
  exact Nat.lt_of_lt_of_le h h1
theorem cm {i j : Int} {a b : Nat} (ha : i.natAbs < 2 ^ a) (hb : j.natAbs < 2 ^ b) (h0 : 0 < a) (h1 : 0 < b) (h : a + b ≤ 1000000) : CMulW i j := wide_mul ha hb h0 h1 h
theorem mulB {i j : Int} {a b : Nat} (ha : i.natAbs < 2 ^ a) (hb : j.natAbs < 2 ^ b) : (i * j).natAbs < 2 ^ (a + b) := wide_lt ha hb
theorem upP {n a b : Nat} (h : n < 2 ^ a) (l : a ≤ b) : n < 2 ^ b := Nat.lt_of_lt_of_le h (Nat.pow_le_pow_right (by decide) l)
structure FrP (p : Int × Int) : Prop where
  t : p.1.natAbs < 2 ^ 4000
  b : p.2.natAbs < 2 ^ 4000
  pos : 1 ≤ p.2
  co : gI p.1 p.2 = 1
theorem fr_facts {d : D} (h : isFr d = true) : d = frP (prs1 d) ∧ FrP (prs1 d) := by
  have e := isFr_eq h
  refine ⟨e, ?_⟩
  rw [e] at h
  generalize prs1 d = p at h ⊢
  obtain ⟨t, b⟩ := p
  obtain ⟨h1, h23⟩ := bo2 (show (isWh (.int t) && (isWh (.int b) && frB (.int t) (.int b))) = true from h)
  obtain ⟨h2, h3⟩ := bo2 h23
  obtain ⟨h3, h4⟩ := bo2 h3
  exact ⟨big (of_decide_eq_true h1), big (of_decide_eq_true h2), of_decide_eq_true h3, of_decide_eq_true h4⟩
theorem gI_split {t b : Int} (h : b ≠ 0) : ∃ t' b' : Int, 0 < gI t b ∧ t = gI t b * t' ∧ b = gI t b * b' ∧ Nat.gcd t'.natAbs b'.natAbs = 1 := by
  have hb : 0 < b.natAbs := Int.natAbs_pos.mpr h
  have hg : 0 < Nat.gcd t.natAbs b.natAbs := Nat.gcd_pos_of_pos_right _ hb
  obtain ⟨n, hn⟩ : ∃ n, n = Nat.gcd t.natAbs b.natAbs := ⟨_, rfl⟩
  have hgI : gI t b = (n : Int) := by rw [hn]; rfl
  rw [← hn] at hg
  obtain ⟨t', et⟩ : (n : Int) ∣ t := Int.ofNat_dvd_left.mpr (hn ▸ Nat.gcd_dvd_left _ _)
  obtain ⟨b', eb⟩ : (n : Int) ∣ b := Int.ofNat_dvd_left.mpr (hn ▸ Nat.gcd_dvd_right _ _)
  have e1 : t.natAbs = n * t'.natAbs := by rw [et, Int.natAbs_mul]; rfl
  have e2 : b.natAbs = n * b'.natAbs := by rw [eb, Int.natAbs_mul]; rfl
  have e3 : n = n * Nat.gcd t'.natAbs b'.natAbs := by rw [← Nat.gcd_mul_left, ← e1, ← e2]; exact hn
  refine ⟨t', b', by rw [hgI]; omega, by rw [hgI]; exact et, by rw [hgI]; exact eb, ?_⟩
  exact (Nat.eq_of_mul_eq_mul_left hg (by rw [Nat.mul_one]; exact e3)).symm
theorem fdiv_neg' {g x : Int} (h : g ≠ 0) : (g * x).fdiv (-g) = -x := by
  have e : g * x = (-g) * (-x) := by rw [Int.neg_mul_neg]
  rw [e, Int.mul_fdiv_cancel_left _ (Int.neg_ne_zero.mpr h)]
/-- what low gives -/
theorem low_spec {t b : Int} (h : b ≠ 0) : ∃ g : Int, g ≠ 0 ∧ t = g * (low t b).1 ∧ b = g * (low t b).2 ∧ 0 < (low t b).2 ∧ gI (low t b).1 (low t b).2 = 1 := by
  obtain ⟨t', b', gp, et, eb, co⟩ := gI_split (t := t) h
  unfold low
  generalize gI t b = g at gp et eb ⊢
  have g0 : g ≠ 0 := by omega
  have co' : gI t' b' = 1 := by show ((Nat.gcd t'.natAbs b'.natAbs : Nat) : Int) = 1; rw [co]; rfl
  by_cases hp : 0 < b
  · rw [if_pos hp]
    have q1 : t.fdiv g = t' := by rw [et, Int.mul_fdiv_cancel_left _ g0]
    have q2 : b.fdiv g = b' := by rw [eb, Int.mul_fdiv_cancel_left _ g0]
    rw [q1, q2]
    refine ⟨g, g0, et, eb, ?_, co'⟩
    rw [eb] at hp
    rcases Int.lt_trichotomy b' 0 with q | q | q
    · have := Int.mul_neg_of_pos_of_neg gp q
      omega
    · rw [q] at hp; simp at hp
    · exact q
  · rw [if_neg hp]
    have q1 : t.fdiv (-g) = -t' := by rw [et, fdiv_neg' g0]
    have q2 : b.fdiv (-g) = -b' := by rw [eb, fdiv_neg' g0]
    rw [q1, q2]
    refine ⟨-g, Int.neg_ne_zero.mpr g0, by rw [Int.neg_mul_neg]; exact et, by rw [Int.neg_mul_neg]; exact eb, ?_, ?_⟩
    · show 0 < -b'
      have hb : b < 0 := by omega
      rw [eb] at hb
      rcases Int.lt_trichotomy b' 0 with q | q | q
      · omega
      · rw [q] at hb; simp at hb
      · have := Int.mul_pos gp q
        omega
    · show ((Nat.gcd (-t').natAbs (-b').natAbs : Nat) : Int) = 1
      rw [Int.natAbs_neg, Int.natAbs_neg]
      exact co'
theorem low_bd {t b : Int} (h : b ≠ 0) : (low t b).1.natAbs ≤ t.natAbs ∧ (low t b).2.natAbs ≤ b.natAbs ∧ 0 < (low t b).2 ∧ gI (low t b).1 (low t b).2 = 1 := by
  obtain ⟨g, g0, et, eb, h1, h2⟩ := low_spec (t := t) h
  have hg : 1 ≤ g.natAbs := Int.natAbs_pos.mpr g0
  refine ⟨?_, ?_, h1, h2⟩
  · conv => rhs; rw [et, Int.natAbs_mul]
    exact Nat.le_mul_of_pos_left _ hg
  · conv => rhs; rw [eb, Int.natAbs_mul]
    exact Nat.le_mul_of_pos_left _ hg
/-- what is in lowest terms stays -/
theorem low_id {t b : Int} (hb : 1 ≤ b) (co : gI t b = 1) : low t b = (t, b) := by
  unfold low
  rw [if_pos (by omega), co, Int.fdiv_one, Int.fdiv_one]
def gs9a : List (Str × Gk) := ("union", .pf 4 (S_lots2 unionS) 2 []) :: gs9
def gs9b : List (Str × Gk) := ("common", .pf 4 (S_lots2 commonS) 2 []) :: gs9a
def gs10 : List (Str × Gk) := ("without", .pf 4 (S_lots2 withoutS) 2 []) :: gs9b
def S_dice : FSpec := fun ds k => ∃ (ns : List Int) (m : Int), ds = [.fls (ns.map .int), .int m] ∧ 0 ≤ m ∧ m < 100 ∧ ∀ a b : Int, 0 ≤ a → a.natAbs < 2 ^ 2400 → 0 ≤ b → b.natAbs < 2 ^ 31 → k [.int a, .int b, .int 0]
def gs11 : List (Str × Gk) := ("_law_dice", .ff 1 S_dice 2) :: gs10
def c34 : Ci := ⟨["_law_script", "_law_at", "_law_cell", "_law_great", "_law_left", "_law_mixed_here"], defScope (top 34), 0, gs10, [], none, []⟩
theorem fmodB {i m : Int} (h : 0 < m) : 0 ≤ i.fmod m ∧ i.fmod m < m := ⟨Int.fmod_nonneg_of_pos i h, Int.fmod_lt_of_pos i h⟩
theorem natB {i : Int} {m : Int} {k : Nat} (h0 : 0 ≤ i) (h : i < m) (hm : m.natAbs ≤ 2 ^ k) : i.natAbs < 2 ^ k := by omega
theorem fdivB {i m : Int} {k : Nat} (h : 0 ≤ i) (hb : i.natAbs < 2 ^ k) (hm : 0 ≤ m := by decide) : (i.fdiv m).natAbs < 2 ^ k := by
  obtain ⟨n, rfl⟩ := Int.eq_ofNat_of_zero_le h
  obtain ⟨d, rfl⟩ := Int.eq_ofNat_of_zero_le hm
  rw [← Int.ofNat_fdiv]
  exact Nat.lt_of_le_of_lt (Nat.div_le_self _ _) hb
theorem bit1 (b : Bool) : (if b = true then (1 : Int) else 0).natAbs < 2 ^ 1 := by cases b <;> decide
theorem bit01 (b : Bool) : (if b = true then (1 : Int) else 0) = 0 ∨ (if b = true then (1 : Int) else 0) = 1 := by cases b <;> simp
theorem atI_nat {α : Type} {l : List α} {m : Int} (h : 0 ≤ m) (hl : m < l.length) : atI l m = l[m.toNat]? := by
  unfold L2.atI L2.ixN
  rw [if_pos h, if_pos hl]
  rfl
theorem v34 (ds : List D) (kd : List D → Prop) (h : S_dice ds kd) : vB 40 c34 (defBody (top 34)) (rho0 c34.N ds) (EkF kd) := by
  obtain ⟨ns, m, rfl, m0, m1, hk⟩ := h
  have mB : m.natAbs < 2 ^ 7 := by omega
  have fin : ∀ great y : Int, 0 ≤ great → great.natAbs < 2 ^ 2400 → (y = 0 ∨ y = 1) → kd [.int (great.fdiv (10 ^ (18 : Int).toNat)), .int ((great.fmod 2147482739 * 60493 + 3517 * m + 83 * y + 107).fmod 2147482693), .int 0] := fun great y g0 g1 hy => by
    refine hk _ _ (Int.fdiv_nonneg g0 (by decide)) (fdivB g0 g1) (fmodB (by decide)).1 (natB (fmodB (by decide)).1 (fmodB (by decide)).2 (by decide))
  refine ⟨cm (a := 7) (b := 7) (by decide) mB (by decide) (by decide) (by decide), ?_⟩
  by_cases h1 : m < (((ns.map D.int).length : Nat) : Int)
  · refine ifT (decide_eq_true h1) ?_
    obtain ⟨z, hz⟩ : ∃ z, ns[m.toNat]? = some z := by
      rw [List.length_map] at h1
      exact ⟨_, List.getElem?_eq_getElem (by omega)⟩
    have e : atI (ns.map D.int) m = some (.int z) := by
      rw [atI_nat m0 h1, List.getElem?_map, hz]; rfl
    exact ⟨_, e, ⟨by decide, by decide +kernel⟩, ⟨by decide, by decide +kernel⟩, by decide +kernel, ⟨by decide, by decide +kernel⟩, ⟨by decide +kernel, by decide +kernel⟩, by decide, cm (a := 31) (b := 16) (natB (fmodB (by decide)).1 (fmodB (by decide)).2 (by decide)) (by decide) (by decide) (by decide) (by decide), cm (a := 12) (b := 7) (by decide) mB (by decide) (by decide) (by decide), cm (a := 7) (b := 1) (by decide) (bit1 _) (by decide) (by decide) (by decide), by decide, sz3, .inr (fin _ _ (fmodB (by decide +kernel)).1 (natB (fmodB (by decide +kernel)).1 (fmodB (by decide +kernel)).2 (by decide +kernel)) (bit01 _))⟩
  · refine ifF (decide_eq_false h1) ?_
    exact ⟨⟨by decide, by decide +kernel⟩, ⟨by decide, by decide +kernel⟩, by decide +kernel, ⟨by decide, by decide +kernel⟩, ⟨by decide +kernel, by decide +kernel⟩, by decide, cm (a := 31) (b := 16) (natB (fmodB (by decide)).1 (fmodB (by decide)).2 (by decide)) (by decide) (by decide) (by decide) (by decide), cm (a := 12) (b := 7) (by decide) mB (by decide) (by decide) (by decide), cm (a := 7) (b := 1) (by decide) (bit1 _) (by decide) (by decide) (by decide), by decide, sz3, .inr (fin _ _ (fmodB (by decide +kernel)).1 (natB (fmodB (by decide +kernel)).1 (fmodB (by decide +kernel)).2 (by decide +kernel)) (bit01 _))⟩
/-- the dice: at most n rolls were counted -/
def Dice (n : Nat) (l : List D) : Prop := ∃ a b c : Int, l = [.int a, .int b, .int c] ∧ 0 ≤ a ∧ a.natAbs < 2 ^ 2400 ∧ 0 ≤ b ∧ b.natAbs < 2 ^ 31 ∧ 0 ≤ c ∧ c ≤ n
def S_roll : DSpec := fun l ds k => ∃ (n : Nat) (m : Int), ds = [.int m] ∧ Dice n l ∧ n ≤ 1000000 ∧ 1 ≤ m ∧ m.natAbs < 2 ^ 200 ∧ ∀ (r : Int) (l' : List D), 0 ≤ r → r < m → Dice (n + 1) l' → k (.int r) l'
def gs12 : List (Str × Gk) := ("_law_roll", .df 1 S_roll 1) :: gs11
def c35 : Ci := ⟨["_law_dice_here", "_law_total", "_law_size", "_law_drawn", "_law_one", "_law_two"], defScope (top 35), 0, gs11, [], none, []⟩
theorem v35 (l ds : List D) (kd : D → List D → Prop) (h : S_roll l ds kd) : vB 40 c35 (defBody (top 35)) (rhoD c35.N l ds) (EkD kd) := by
  obtain ⟨n, m, rfl, ⟨a, b, c, rfl, a0, aB, b0, bB, c0, cB⟩, hn, m1, mB, hk⟩ := h
  have mn : m ≠ 0 := by omega
  have ml : m.natAbs.log2 < 9000 := by
    have := (Nat.log2_lt (by omega : m.natAbs ≠ 0)).mpr mB
    omega
  by_cases h0 : 0 < a
  · refine ifT (decide_eq_true h0) ?_
    refine ⟨mn, ⟨mn, ml⟩, _, rfl, ?_⟩
    exact hk _ _ (fmodB (by omega)).1 (fmodB (by omega)).2 ⟨_, b, c, rfl, Int.fdiv_nonneg a0 (by omega), fdivB a0 aB (by omega), b0, bB, c0, by omega⟩
  · refine ifF (decide_eq_false h0) ?_
    have c1 : (c + 1).natAbs < 2 ^ 31 := by omega
    have o1 : ∀ i : Int, (i.fmod 2305843009213693951).natAbs < 2 ^ 61 := fun i => natB (fmodB (by decide)).1 (fmodB (by decide)).2 (by decide)
    have o2 : ∀ i : Int, (i.fmod 2305843009213693921).natAbs < 2 ^ 61 := fun i => natB (fmodB (by decide)).1 (fmodB (by decide)).2 (by decide)
    refine ⟨cm (a := 20) (b := 31) (by decide) c1 (by decide) (by decide) (by decide), by decide, cm (o1 _) (o1 _) (by decide) (by decide) (by decide), by decide, cm (o2 _) (o1 _) (by decide) (by decide) (by decide), cm (a := 14) (b := 31) (by decide) c1 (by decide) (by decide) (by decide), by decide, ⟨by decide, by decide +kernel⟩, mn, _, rfl, ?_⟩
    exact hk _ _ (fmodB (by omega)).1 (fmodB (by omega)).2 ⟨a, b, c + 1, rfl, a0, aB, b0, bB, by omega, by omega⟩
def S_one : DSpec := fun l ds k => ∃ (n : Nat) (xs : List D), ds = [.lst xs] ∧ Dice n l ∧ n ≤ 1000000 ∧ 1 ≤ xs.length ∧ xs.length < 2 ^ 60 ∧ ∀ (d : D) (l' : List D), d ∈ xs → Dice (n + 1) l' → k d l'
def gs13 : List (Str × Gk) := ("_law_one_of", .df 2 S_one 1) :: gs12
def c36 : Ci := ⟨["_law_dice_here", "_law_items"], defScope (top 36), 1, gs12, [], none, []⟩
theorem v36 (l ds : List D) (kd : D → List D → Prop) (h : S_one l ds kd) : vB 40 c36 (defBody (top 36)) (rhoD c36.N l ds) (EkD kd) := by
  obtain ⟨n, xs, rfl, hD, hn, h1, h2, hk⟩ := h
  refine ⟨n, _, rfl, hD, hn, by omega, by omega, fun r l' r0 r1 hD' => ?_⟩
  obtain ⟨d, hd⟩ : ∃ d, xs[r.toNat]? = some d := ⟨_, List.getElem?_eq_getElem (by omega)⟩
  refine ⟨d, by rw [atI_nat r0 r1]; exact hd, ?_⟩
  exact ⟨l', rfl, hk d l' (List.mem_of_getElem? hd) hD'⟩
def gs14 : List (Str × Gk) := ("_law_lowest", .pf 1 S_lowest 2 []) :: gs13
def c38 : Ci := ⟨["_law_top", "_law_bottom", "_law_one", "_law_other"], defScope (top 38), 0, gs13, [], none, []⟩
theorem fmod_nat (x y : Nat) : (x : Int).fmod (y : Int) = ((x % y : Nat) : Int) := (Int.ofNat_fmod x y).symm
theorem v38 (ds : List D) (kd : D → Prop) (kx : Exn → Prop) (h : S_lowest ds kd kx) : vB 40 c38 (defBody (top 38)) (rho0 c38.N ds) (EkP kd kx) := by
  obtain ⟨t, b, rfl, h0, hz, hk⟩ := h
  have hl : (gI t b).natAbs.log2 < 9000 := gI_log h0 hz
  have hg : gI t b ≠ 0 := fun z => h0 (by have := Int.natCast_eq_zero.mp z; exact Int.natAbs_eq_zero.mp (Nat.gcd_eq_zero_iff.mp this).2)
  refine ⟨fun m ρ => ∃ x y : Nat, ρ = [.val (.int t), .val (.int b), .val (.int (x : Int)), .val (.int (y : Int))] ∧ Nat.gcd x y = Nat.gcd t.natAbs b.natAbs ∧ m = y, ⟨b.natAbs, t.natAbs, b.natAbs, by rw [← abs_eq, ← abs_eq]; rfl, rfl, rfl⟩, ?_⟩
  rintro m ρ1 ⟨x, y, rfl, hgc, rfl⟩
  refine ⟨⟨rfl, rfl⟩, ?_⟩
  by_cases hy : m = 0
  · subst hy
    refine ifF ?_ ?_
    · rw [KM.eq_int]; rfl
    rw [Nat.gcd_zero_right] at hgc
    have ex : (x : Int) = gI t b := by rw [hgc]; rfl
    rw [ex]
    unfold low at hk
    by_cases hb : 0 < b
    · refine ifF (decide_eq_false (by omega)) ?_
      rw [if_pos hb] at hk
      exact ⟨⟨hg, hl⟩, ⟨hg, hl⟩, sz2, hk⟩
    · refine ifT (decide_eq_true (by omega)) ?_
      rw [if_neg hb] at hk
      have e : 0 - gI t b = -gI t b := by omega
      have n0 : 0 - gI t b ≠ 0 := by omega
      have nl : (0 - gI t b).natAbs.log2 < 9000 := by rw [e, Int.natAbs_neg]; exact hl
      rw [← e] at hk
      exact ⟨⟨n0, nl⟩, ⟨n0, nl⟩, sz2, hk⟩
  · refine ifT ?_ ?_
    · rw [KM.eq_int, decide_eq_false (by omega)]; rfl
    refine ⟨by omega, x % m, Nat.mod_lt _ (by omega), m, x % m, ?_, ?_, rfl⟩
    · rw [← fmod_nat]; rfl
    · rw [Nat.gcd_comm m, ← Nat.gcd_rec, Nat.gcd_comm]
      exact hgc
theorem Dice.mono {n m : Nat} {l : List D} (h : Dice n l) (le : n ≤ m) : Dice m l := by
  obtain ⟨a, b, c, e, h1, h2, h3, h4, h5, h6⟩ := h
  exact ⟨a, b, c, e, h1, h2, h3, h4, h5, by omega⟩
end K01
set_option Elab.async false
set_option linter.all false
set_option maxRecDepth 100000
set_option maxHeartbeats 0
set_option exponentiation.threshold 9500
namespace K01
open PySem PySem.Spec PyProof.Rows L2 DL KM TX
/-- the lots of so many names within one, by their first name -/
def combs : List Str → Nat → List (List Str)
  | _, 0 => [[]]
  | [], _ + 1 => []
  | x :: r, s + 1 => (combs r s).map (x :: ·) ++ combs r (s + 1)
theorem combs_len : ∀ (xs : List Str) (s : Nat), (combs xs s).length ≤ 2 ^ xs.length
  | [], 0 => by simp [combs]
  | x :: r, 0 => by simp only [combs, List.length_singleton]; exact Nat.one_le_two_pow
  | [], _ + 1 => by simp [combs]
  | x :: r, s + 1 => by
    have h1 := combs_len r s
    have h2 := combs_len r (s + 1)
    simp only [combs, List.length_append, List.length_map, List.length_cons, Nat.pow_succ]
    omega
theorem combs_size : ∀ (xs : List Str) (s : Nat), ∀ c ∈ combs xs s, c.length = s
  | [], 0, c, h => by
    have : c = [] := by simpa [combs] using h
    rw [this]; rfl
  | x :: r, 0, c, h => by
    have : c = [] := by simpa [combs] using h
    rw [this]; rfl
  | [], _ + 1, c, h => by simp [combs] at h
  | x :: r, s + 1, c, h => by
    have h' : c ∈ (combs r s).map (x :: ·) ++ combs r (s + 1) := h
    rcases List.mem_append.mp h' with h | h
    · obtain ⟨d, hd, rfl⟩ := List.mem_map.mp h
      rw [List.length_cons, combs_size r s d hd]
    · exact combs_size r (s + 1) c h
def rowsAt (xs : List Str) (s i : Nat) : List (List Str) := (combs (xs.drop (i + 1)) s).map (xs.getD i Str.empty :: ·)
theorem combs_rows : ∀ (xs : List Str) (s : Nat), combs xs (s + 1) = (List.range xs.length).flatMap (rowsAt xs s)
  | [], s => rfl
  | x :: r, s => by
    rw [List.length_cons, List.range_succ_eq_map, List.flatMap_cons, List.flatMap_map]
    show (combs r s).map (x :: ·) ++ combs r (s + 1) = rowsAt (x :: r) s 0 ++ _
    rw [combs_rows r s]
    rfl
def pre (xs : List Str) (s i : Nat) : List (List Str) := (List.range i).flatMap (rowsAt xs s)
theorem pre_succ (xs : List Str) (s i : Nat) : pre xs s (i + 1) = pre xs s i ++ rowsAt xs s i := by
  unfold pre
  rw [List.range_succ, List.flatMap_append]
  simp
theorem pre_le (xs : List Str) (s : Nat) : ∀ {i j : Nat}, i ≤ j → (pre xs s i).length ≤ (pre xs s j).length := by
  intro i j h
  induction j with
  | zero => rw [Nat.le_zero.mp h]; exact Nat.le_refl _
  | succ j ih =>
    rcases Nat.eq_or_lt_of_le h with e | l
    · rw [e]; exact Nat.le_refl _
    · rw [pre_succ, List.length_append]
      have := ih (by omega)
      omega
def vo (x : Sl) : Prop := x = .no ∨ ∃ d, x = .val d
abbrev tupS (c : List Str) : D := .tup (c.map .str)
def S_parts (k : Nat) : PSpec := fun ds kd _ => ∃ (xs : List Str) (s : Nat), ds = [.tup (xs.map .str), .int s] ∧ s ≤ k ∧ xs.length ≤ 12 ∧ kd (.lst ((combs xs s).map tupS))
def c7 (k : Nat) (gs : List (Str × Gk)) : Ci := ⟨["values", "size", "found", "index", "rest"], defScope (top 7), k, gs, ["found"], none, [("index", 3), ("rest", 0)]⟩
theorem v7_0 (gs : List (Str × Gk)) (ds : List D) (kd : D → Prop) (kx : Exn → Prop) (h : S_parts 0 ds kd kx) : vB 40 (c7 0 gs) (defBody (top 7)) (rho0 (c7 0 gs).N ds) (EkP kd kx) := by
  obtain ⟨xs, s, rfl, hs, hx, hk⟩ := h
  obtain rfl : s = 0 := by omega
  have e : combs xs 0 = [[]] := by cases xs <;> rfl
  rw [e] at hk
  exact ⟨⟨rfl, rfl⟩, Nat.zero_le _, sz1, .inl hk⟩
theorem v7_s (k : Nat) (k10 : k ≤ 10) (ds : List D) (kd : D → Prop) (kx : Exn → Prop) (h : S_parts (k + 1) ds kd kx) :
    vB 40 (c7 (k + 1) (("parts_of", .pf (k + 1) (S_parts k) 2 []) :: gs2)) (defBody (top 7)) (rho0 (c7 (k + 1) gs2).N ds) (EkP kd kx) := by
  have kk : k = 0 ∨ k = 1 ∨ k = 2 ∨ k = 3 ∨ k = 4 ∨ k = 5 ∨ k = 6 ∨ k = 7 ∨ k = 8 ∨ k = 9 ∨ k = 10 := by omega
  clear k10
  rcases kk with rfl | rfl | rfl | rfl | rfl | rfl | rfl | rfl | rfl | rfl | rfl
  all_goals (
      obtain ⟨xs, s, rfl, hs, hx, hk⟩ := h
      refine ⟨⟨rfl, rfl⟩, ?_⟩
      cases s with
      | zero =>
        have e : combs xs 0 = [[]] := by cases xs <;> rfl
        rw [e] at hk
        exact ⟨Nat.zero_le _, sz1, .inl hk⟩
      | succ s =>
        refine ifF (by rw [KM.eq_int, decide_eq_false (by omega)]) ?_
        have hz : 200000 < sizeLine := by rw [sizeLine_eq]; decide
        have el : (xs.map D.str).length = xs.length := List.length_map _
        have all : pre xs s xs.length = combs xs (s + 1) := (combs_rows xs s).symm
        have fullB : (pre xs s xs.length).length ≤ 4096 := by
          rw [all]
          refine Nat.le_trans (combs_len xs (s + 1)) ?_
          exact Nat.le_trans (Nat.pow_le_pow_right (by decide) hx) (by decide)
        refine ⟨Nat.zero_le _, ⟨by omega, by omega⟩, fun i ρ => ∃ x y, ρ = [.val (.tup (xs.map .str)), .val (.int ((s + 1 : Nat) : Int)), .own ((pre xs s i).map tupS), x, y] ∧ vo x ∧ vo y, ⟨.no, .no, rfl, .inl rfl, .inl rfl⟩, ?_, ?_⟩
        · rintro i d ρ1 hd ⟨x, y, rfl, hx1, hy1⟩
          have hi : i < xs.length := by
            have := (List.getElem?_eq_some_iff.mp hd).1
            rw [upto_len, el] at this
            omega
          have ed : d = .int (i : Int) := by
            rw [upto_at (by rw [el]; omega)] at hd
            exact (Option.some.inj hd).symm
          subst ed
          have cutE : D.tup (DL.cutD (xs.map D.str) (some ((i : Int) + 1)) none) = .tup ((xs.drop (i + 1)).map .str) := by
            unfold DL.cutD
            dsimp only
            rw [show (i : Int) + 1 = ((i + 1 : Nat) : Int) by omega, HT.sIx_nat, HT.sIx_none, el, Nat.min_eq_left (by omega), List.take_of_length_le (by rw [List.length_drop, el]; omega), List.map_drop]
          have eS : (((s + 1 : Nat) : Int) - 1) = (s : Int) := by omega
          have preB : (pre xs s i).length + (rowsAt xs s i).length ≤ 4096 := by
            have := pre_le xs s (i := i + 1) (j := xs.length) (by omega)
            rw [pre_succ, List.length_append] at this
            omega
          have rl : (rowsAt xs s i).length = (combs (xs.drop (i + 1)) s).length := by unfold rowsAt; rw [List.length_map]
          rcases hx1 with rfl | ⟨dx, rfl⟩ <;> rcases hy1 with rfl | ⟨dy, rfl⟩ <;>
          exact ⟨xs.drop (i + 1), s, (by rw [cutE, eS]; rfl), by omega, by rw [List.length_drop]; omega,
            fun b ρ => ∃ y, ρ = [.val (.tup (xs.map .str)), .val (.int ((s + 1 : Nat) : Int)), .own ((pre xs s i ++ (rowsAt xs s i).take b).map tupS), .val (.int (i : Int)), y] ∧ vo y,
            ⟨_, by rw [List.take_zero, List.append_nil]; rfl, by first | exact .inl rfl | exact .inr ⟨_, rfl⟩⟩,
            fun b d ρ2 hb ⟨y, e2, hy2⟩ => by
              subst e2
              rw [List.getElem?_map] at hb
              obtain ⟨c, hc, rfl⟩ := Option.map_eq_some_iff.mp hb
              have hbl := (List.getElem?_eq_some_iff.mp hc).1
              have tk : (rowsAt xs s i).take (b + 1) = (rowsAt xs s i).take b ++ [xs.getD i Str.empty :: c] := by
                rw [List.take_add_one]
                congr 1
                unfold rowsAt
                rw [List.getElem?_map, hc]; rfl
              have nm : (pre xs s i ++ (rowsAt xs s i).take (b + 1)).map tupS = (pre xs s i ++ (rowsAt xs s i).take b).map tupS ++ [.tup (.str (xs.getD i Str.empty) :: c.map .str)] := by
                rw [tk, ← List.append_assoc, List.map_append]; rfl
              have cl : c.length ≤ 12 := by have := combs_size _ _ c (List.mem_of_getElem? hc); omega
              have tl : ((rowsAt xs s i).take b).length ≤ (rowsAt xs s i).length := by rw [List.length_take]; omega
              rcases hy2 with rfl | ⟨dy, rfl⟩ <;>
              exact ⟨_, at_str hi, sz1, by rw [List.length_map]; show 1 + c.length ≤ sizeLine; omega, by rw [List.length_map, List.length_append]; omega, _, (by rw [nm]; rfl), .inr ⟨_, rfl⟩⟩,
            fun ρ2 ⟨y, e2, hy2⟩ => by
              subst e2
              refine ⟨.val (.int (i : Int)), y, ?_, .inr ⟨_, rfl⟩, hy2⟩
              rw [pre_succ, List.length_map, ← rl, List.take_length]⟩
        · rintro ρ1 ⟨x, y, rfl, _, _⟩
          rw [upto_len, el, Int.toNat_natCast, all]
          exact .inl hk)
end K01
set_option Elab.async false
set_option linter.all false
set_option maxRecDepth 100000
set_option maxHeartbeats 4000000
/-! generator defs over data -/
namespace DL
open PySem PySem.Spec PyProof.Rows L2 LamX DLX

/-! ### the readings -/
def sG (X : Cx) (st : Stmt) : TGn := fun D ys σ H => ∀ (A : Around) (S : Addr) (ip : List (Addr × Obj)) (R : GenEnd) (n : Nat) (s₀ : Shared) (c : Code) (fs : List Frame) (K : Flow → Sem PySem.Fin) (J : Value → Sem PySem.Fin) (gd : Bool → Bool) (lv : List Value → List Value) (s : Shared),
  GC X S ip A c fs gd → n + ys.length = sizeLine → GK X S ip A R c fs K J D → GI X S ip ys σ H s → Seg (model X.prog X.w) A R (GY X S) n s₀ c ((exec st X.env).wrap K J gd lv) fs s
def sGs (X : Cx) (ss : List Stmt) : TGn := fun D ys σ H => ∀ (A : Around) (S : Addr) (ip : List (Addr × Obj)) (R : GenEnd) (n : Nat) (s₀ : Shared) (c : Code) (fs : List Frame) (K : Flow → Sem PySem.Fin) (J : Value → Sem PySem.Fin) (gd : Bool → Bool) (lv : List Value → List Value) (s : Shared),
  GC X S ip A c fs gd → n + ys.length = sizeLine → GK X S ip A R c fs K J D → GI X S ip ys σ H s → Seg (model X.prog X.w) A R (GY X S) n s₀ c ((execs ss X.env).wrap K J gd lv) fs s
section
variable {X : Cx} {st : Stmt} {ss : List Stmt}
theorem sG_gs : GS X st (sG X st) := ⟨fun A S ip R n ys s₀ c fs K J gd lv s σ H D g hn k hI h => h A S ip R n s₀ c fs K J gd lv s g hn k hI⟩
theorem sGs_gss : GSs X ss (sGs X ss) := ⟨fun A S ip R n ys s₀ c fs K J gd lv s σ H D g hn k hI h => h A S ip R n s₀ c fs K J gd lv s g hn k hI⟩
theorem toG {t : TGn} {D : GEnds} {ys : List V} {σ : L2.St} {H : Hp} (h : GS X st t) (q : t D ys σ H) : sG X st D ys σ H := fun A S ip R n s₀ c fs K J gd lv s g hn k hI => h.run A S ip R n ys s₀ c fs K J gd lv s σ H D g hn k hI q
theorem toGs {t : TGn} {D : GEnds} {ys : List V} {σ : L2.St} {H : Hp} (h : GSs X ss t) (q : t D ys σ H) : sGs X ss D ys σ H := fun A S ip R n s₀ c fs K J gd lv s g hn k hI => h.run A S ip R n ys s₀ c fs K J gd lv s σ H D g hn k hI q
end
/-! ### judgements: what is out so far stands beside the slots -/
structure GEk where
  nx : List D → Rho → Prop
  xc : KX
structure GOk (G : Gg) (P : Fp) (W : AS) (H : Hp) (E : GEk) (Dn : GEnds) (Wx : WX) : Prop where
  nx : ∀ ys ρ' W' σ' zs H', E.nx ys ρ' → Ag G P W' ρ' σ' H' → Le W H W' H' → RepL G.K G.mg W' H' ys zs → Dn.nx zs σ' H'
  xc : ∀ x ρ' W' σ' cls dd H', E.xc x ρ' → Ag G P W' ρ' σ' H' → Le W H W' H' → RepX G W' H' x cls dd → Wx cls dd σ' H'
def GSJ (G : Gg) (X : Cx) (st : Stmt) (ys : List D) (ρ : Rho) (E : GEk) : Prop := ∀ P W σ H zs, Ag G P W ρ σ H → RepL G.K G.mg W H ys zs → ∀ (Dn : GEnds) (Wx : WX), Takes X Wx → GOk G P W H E Dn Wx → sG X st Dn zs σ H
def GBJ (G : Gg) (X : Cx) (ss : List Stmt) (ys : List D) (ρ : Rho) (E : GEk) : Prop := ∀ P W σ H zs, Ag G P W ρ σ H → RepL G.K G.mg W H ys zs → ∀ (Dn : GEnds) (Wx : WX), Takes X Wx → GOk G P W H E Dn Wx → sGs X ss Dn zs σ H
section
variable {G : Gg} {P : Fp} {W W1 : AS} {H H1 : Hp} {E : GEk} {Dn : GEnds} {Wx : WX}
theorem GOk.le (e : GOk G P W H E Dn Wx) (L : Le W H W1 H1) : GOk G P W1 H1 E Dn Wx :=
  ⟨fun ys ρ' W' σ' zs H' h A l => e.nx ys ρ' W' σ' zs H' h A (L.trans l), fun x ρ' W' σ' cls dd H' h A l r => e.xc x ρ' W' σ' cls dd H' h A (L.trans l) r⟩
theorem GOk.xp {ρ : Rho} {σ : L2.St} (e : GOk G P W H E Dn Wx) : XP G P W ρ σ H E.xc Wx := fun x ρ' cls dd H' h A L r => e.xc x ρ' W σ cls dd H' h A L.le r
end
section
variable {G : Gg} {X : Cx} {ρ : Rho} {E : GEk} {ys : List D} {pos : Pos}
theorem gbj_nil (h : E.nx ys ρ) : GBJ G X [] ys ρ E := fun P W σ H zs A r Dn Wx tk e => toGs gss_nil (e.nx ys ρ W σ zs H h A (Le.refl _ _) r)
theorem gbj_cons {st : Stmt} {ss : List Stmt} (h : GSJ G X st ys ρ { E with nx := fun ys1 ρ1 => GBJ G X ss ys1 ρ1 E }) : GBJ G X (st :: ss) ys ρ E := fun P W σ H zs A r Dn Wx tk e =>
  toGs (gss_cons sG_gs sGs_gss) (h P W σ H zs A r { Dn with nx := sGs X ss Dn } Wx tk ⟨fun ys1 ρ' W' σ' zs' H' hn A' L r' => hn P W' σ' H' zs' A' r' Dn Wx tk (e.le L), e.xc⟩)
/-- a statement that hands out nothing -/
theorem gsj_plain {st : Stmt} (h : SJ G X st ρ { nx := fun ρ1 => E.nx ys ρ1, rt := fun _ _ => False, xc := E.xc }) : GSJ G X st ys ρ E := fun P W σ H zs A r Dn Wx tk e =>
  toG (gs_ps sS_ps) (h P W σ H A _ Wx tk ⟨fun ρ' W' σ' H' hn A' L => e.nx ys ρ' W' σ' zs H' hn A' L (RepL.le L _ _ r), fun _ _ _ _ q => q.elim, fun _ _ _ _ q => q.elim, fun _ _ _ _ q => q.elim, e.xc, fun _ _ _ _ _ q => q.elim⟩)
theorem gsj_yield {a : Expr} {yp : Pos} (hco : X.env.scope.isCoroutine = false) (hi : interactive X.env = false) (hz : ys.length < sizeLine) (h : EJ G X a ρ (fun d ρ1 => E.nx (ys ++ [d]) ρ1) E.xc) : GSJ G X (.Expr (.Yield (some a) yp) pos) ys ρ E := fun P W σ H zs A r Dn Wx tk e =>
  toG (gs_yield sE_pe hco hi) ⟨by rw [← r.length]; exact hz, h P W σ H A _ Wx tk (fun d ρ1 v H1 h1 A1 L1 r1 => e.nx _ ρ1 W σ _ H1 h1 A1 L1.le (RepL.app (RepL.le L1.le _ _ r) ⟨v, [], rfl, r1, rfl⟩)) e.xp⟩
def GLoop (G : Gg) (X : Cx) (j : Nat) (body : List Stmt) (l : List D) (ys : List D) (ρ : Rho) (E : GEk) : Prop :=
  ∃ I : Nat → List D → Rho → Prop, I 0 ys ρ ∧ (∀ i d ys1 ρ1, l[i]? = some d → I i ys1 ρ1 → (j < ρ1.length ∧ noIo ρ1 j = true) ∧ GBJ G X body ys1 (ρ1.set j (.val d)) { E with nx := I (i + 1) }) ∧ ∀ ys1 ρ1, I l.length ys1 ρ1 → E.nx ys1 ρ1
theorem gsj_forL {j : Nat} {x : Str} {iter : Expr} {body : List Stmt} {p : Pos} (hK : X.K = G.K) (hp : PassesOwn (model X.prog X.w) X.A X.env X.xe) (hc : X.calm = true) (n : NmOk X j x) (hs : ∀ x, foldedSetIterable iter X.env x = pure x)
    (h : EJ G X iter ρ (fun d ρ1 => ∃ l, d = .lst l ∧ GLoop G X j body l ys ρ1 E) E.xc) : GSJ G X (.For (.Name x p) iter body [] pos) ys ρ E := fun P W σ H zs A r Dn Wx tk e => by
  refine toG (gs_for hp hc (pi_list sE_pe) (pg_name n.nd n.at_ n.loc n.fn) sGs_gss hs) (h P W σ H A _ Wx tk (fun d ρ1 v H1 ⟨l, e1, I, h0, hst, hd⟩ A1 L1 r1 => ?_) e.xp)
  subst e1
  obtain ⟨a, xs, rfl, ⟨ha, na⟩, rl⟩ := r1
  have at_ : ∀ {W' : AS} {H' : Hp}, Le W H1 W' H' → SqL X.K H' a xs := fun {W' H'} L' => by
    rcases L'.keep a _ na ha with q | ⟨_, _, q, _⟩
    · exact .inl (.inl q)
    · cases q
  refine ⟨a, rfl, ⟨xs, .inl (.inl ha)⟩, fun i m zs' σ' H' => m = xs.length - i ∧ i ≤ xs.length ∧ ∃ ys' ρ' W', I i ys' ρ' ∧ Ag G P W' ρ' σ' H' ∧ Le W H1 W' H' ∧ RepL G.K G.mg W' H' ys' zs', ⟨_, rfl, Nat.zero_le _, ys, ρ1, W, h0, A1, Le.refl _ _, RepL.le L1.le _ _ r⟩, ?_⟩
  rintro i m zs' σ' H' ⟨rfl, hi, ys', ρ', W', hI, A', L', rz⟩
  by_cases hlt : i < xs.length
  · obtain ⟨d, hd1, rd⟩ := rl.getV (List.getElem?_eq_getElem hlt)
    obtain ⟨⟨hj, _⟩, hb⟩ := hst i d ys' ρ' hd1 hI
    refine .inr ⟨⟨xs, xs[i], at_ L', List.getElem?_eq_getElem hlt⟩, fun zs2 σ2 H2 => ∃ ys2 ρ2 W2, I (i + 1) ys2 ρ2 ∧ Ag G P W2 ρ2 σ2 H2 ∧ Le W H1 W2 H2 ∧ RepL G.K G.mg W2 H2 ys2 zs2, fun zs2 σ2 H2 q => ⟨xs.length - (i + 1), by omega, rfl, hlt, q⟩, ?_⟩
    rintro x H2 ⟨rfl, y⟩
    have ex : xs[i] = x := by
      have := y xs (at_ L')
      rw [List.getElem?_eq_getElem hlt] at this
      exact Option.some.inj this
    subst ex
    exact hb P W' _ H2 zs' (A'.setV hj (Rep.le L' d _ rd)) rz _ Wx tk ⟨fun ys2 ρ2 W2 σ2 zs2 H2 h2 A2 L2 r2 => ⟨ys2, ρ2, W2, h2, A2, L'.trans L2, r2⟩, fun x ρ2 W2 σ2 cls dd H2 h2 A2 L2 r2 => e.xc x ρ2 W2 σ2 cls dd H2 h2 A2 ((L1.le.trans L').trans L2) r2⟩
  · have hi' : i = xs.length := by omega
    subst hi'
    rw [← rl.length] at hI
    exact .inl ⟨⟨xs, at_ L', Nat.le_refl _⟩, e.nx _ ρ' W' σ' zs' H' (hd ys' ρ' hI) A' (L1.le.trans L') rz⟩
theorem gsj_forR {j : Nat} {x : Str} {a : Expr} {body : List Stmt} {p p2 p3 : Pos} (hp : PassesOwn (model X.prog X.w) X.A X.env X.xe) (hc : X.calm = true) (n : NmOk X j x) (hg : Gl X "range") (hm : X.mg "range" = none) (hsa : starEach [a] X.env = (false, eval a X.env) :: starEach [] X.env)
    (hs0 : starEach [a] X.env = [(false, eval a X.env)]) (hs : ∀ x, foldedSetIterable (.Call (.Name "range" p2) [a] [] p3) X.env x = pure x)
    (h : EJ G X a ρ (fun d ρ1 => ∃ m, d = .int m ∧ (-(2 ^ 62) ≤ m ∧ m < 2 ^ 62) ∧ GLoop G X j body (upto m) ys ρ1 E) E.xc) : GSJ G X (.For (.Name x p) (.Call (.Name "range" p2) [a] [] p3) body [] pos) ys ρ E := fun P W σ H zs A r Dn Wx tk e => by
  refine toG (gs_for hp hc (pi_range1 hg hm (pa_cons sE_pe pa_nil hsa) hs0) (pg_name n.nd n.at_ n.loc n.fn) sGs_gss hs) (h P W σ H A _ Wx tk (fun d ρ1 v H1 ⟨m, e1, hb, I, h0, hst, hd⟩ A1 L1 r1 => ?_) e.xp)
  subst e1
  cases (show v = .int m from r1)
  refine ⟨m, rfl, hb.1, hb.2, fun i k zs' σ' H' => k = m.toNat - i ∧ i ≤ m.toNat ∧ ∃ ys' ρ' W', I i ys' ρ' ∧ Ag G P W' ρ' σ' H' ∧ Le W H1 W' H' ∧ RepL G.K G.mg W' H' ys' zs', ⟨_, rfl, Nat.zero_le _, ys, ρ1, W, h0, A1, Le.refl _ _, RepL.le L1.le _ _ r⟩, ?_⟩
  rintro i k zs' σ' H' ⟨rfl, hi, ys', ρ', W', hI, A', L', rz⟩
  by_cases hlt : i < m.toNat
  · obtain ⟨⟨hj, _⟩, hb⟩ := hst i _ ys' ρ' (upto_at hlt) hI
    refine .inr ⟨hlt, fun zs2 σ2 H2 => ∃ ys2 ρ2 W2, I (i + 1) ys2 ρ2 ∧ Ag G P W2 ρ2 σ2 H2 ∧ Le W H1 W2 H2 ∧ RepL G.K G.mg W2 H2 ys2 zs2, fun zs2 σ2 H2 q => ⟨m.toNat - (i + 1), by omega, rfl, hlt, q⟩, ?_⟩
    rintro x H2 ⟨rfl, rfl⟩
    refine hb P W' _ H2 zs' (A'.setV hj (by show _ = _; rw [Int.zero_add])) rz _ Wx tk ⟨fun ys2 ρ2 W2 σ2 zs2 H2 h2 A2 L2 r2 => ⟨ys2, ρ2, W2, h2, A2, L'.trans L2, r2⟩, fun x ρ2 W2 σ2 cls dd H2 h2 A2 L2 r2 => e.xc x ρ2 W2 σ2 cls dd H2 h2 A2 ((L1.le.trans L').trans L2) r2⟩
  · have hi' : i = m.toNat := by omega
    subst hi'
    rw [← upto_len] at hI
    exact .inl ⟨Nat.le_refl _, e.nx _ ρ' W' σ' zs' H' (hd ys' ρ' hI) A' (L1.le.trans L') rz⟩
end

/-! ### what a generator's body asks, by its text -/
mutual
def vGB : Nat → Ci → List Stmt → List D → Rho → GEk → Prop
  | 0, _, _, _, _, _ => False
  | n + 1, c, ss, ys, ρ, E => match ss with
    | [] => E.nx ys ρ
    | .Expr (.Yield (some e) _) _ :: r => gd (!c.sc.isCoroutine) (ys.length < sizeLine ∧ vE n c e ρ (fun d ρ1 => vGB n c r (ys ++ [d]) ρ1 E) E.xc)
    | .For (.Name x _) iter body [] _ :: r => vSlot c x fun j => (match iter, modeOf c x with
      | .Call (.Name rg _) [a] [] _, 3 => gd (rg == ("range" : Str) && (noStar [a] && decide (c.sc.names.lookup rg = some .globalImplicit))) (vGl c rg (.typ "range") (vE n c a ρ (fun d ρ1 => vInt d fun m => (-(2 ^ 62) ≤ m ∧ m < 2 ^ 62) ∧ vGLoop n c j body (upto m) ys ρ1 { E with nx := fun ys1 ρ1 => vGB n c r ys1 ρ1 E }) E.xc))
      | it, 0 => gd (noSet it) (vE n c it ρ (fun d ρ1 => vLst1 d fun l => vGLoop n c j body l ys ρ1 { E with nx := fun ys1 ρ1 => vGB n c r ys1 ρ1 E }) E.xc)
      | _, _ => False)
    | st :: r => vS n c st ρ { nx := fun ρ1 => vGB n c r ys ρ1 E, rt := fun _ _ => False, xc := E.xc }
def vGLoop : Nat → Ci → Nat → List Stmt → List D → List D → Rho → GEk → Prop
  | 0, _, _, _, _, _, _, _ => False
  | n + 1, c, j, body, l, ys, ρ, E => ∃ I : Nat → List D → Rho → Prop, I 0 ys ρ ∧ (∀ i d ys1 ρ1, l[i]? = some d → I i ys1 ρ1 → gd (wr ρ1 j) (vGB n c body ys1 (ρ1.set j (.val d)) { E with nx := I (i + 1) })) ∧ ∀ ys1 ρ1, I l.length ys1 ρ1 → E.nx ys1 ρ1
end
structure SndG (G : Gg) (P : Program) (w : World) (base : Heap) (n : Nat) : Prop where
  b : ∀ {c : Ci} {X : Cx} {ss : List Stmt} {ys : List D} {ρ : Rho} {E : GEk}, CsOk c G P w base X → interactive X.env = false → vGB n c ss ys ρ E → GBJ G X ss ys ρ E
  l : ∀ {c : Ci} {X : Cx} {j : Nat} {body : List Stmt} {l ys : List D} {ρ : Rho} {E : GEk}, CsOk c G P w base X → interactive X.env = false → vGLoop n c j body l ys ρ E → GLoop G X j body l ys ρ E
section
variable {G : Gg} {P : Program} {w : World} {base : Heap} {n : Nat}
theorem sg_b (S : SndG G P w base n) {c : Ci} {X : Cx} {ss : List Stmt} {ys : List D} {ρ : Rho} {E : GEk} (C : CsOk c G P w base X) (hi : interactive X.env = false) (h : vGB (n + 1) c ss ys ρ E) : GBJ G X ss ys ρ E := by
  have Cc := C.ci
  have N := snd (G := G) (P := P) (w := w) (base := base) n
  unfold vGB at h
  split at h
  · exact gbj_nil h
  · obtain ⟨hb, h1, h2⟩ := gd_ok h
    refine gbj_cons (gsj_yield (by rw [Cc.sc]; simpa using hb) hi h1 (ej_mono (N.e Cc h2) fun d ρ1 q => S.b C hi q))
  · obtain ⟨j, nm, h⟩ := vSlot_ok C h
    refine gbj_cons ?_
    split at h
    · rename_i rg rp a rpos _ _
      obtain ⟨hb, h⟩ := gd_ok h
      obtain ⟨b1, b23⟩ := bo2 hb
      obtain ⟨b2, b3⟩ := bo2 b23
      clear b23
      obtain rfl : rg = ("range" : Str) := by simpa using b1
      obtain ⟨hl, h⟩ := vGl_ok h
      obtain ⟨g1, g2⟩ := Cc.gs _ _ hl
      obtain ⟨s1, s2⟩ := star_ok (env := X.env) b2
      refine gsj_forR C.hp Cc.calm nm (by show X.env.scope.names.lookup _ = _; rw [Cc.sc]; exact of_decide_eq_true b3) (by rw [Cc.mg]; exact g1) s1 s1 (fun x => rfl) (ej_mono (N.e Cc h) fun d ρ1 q => ?_)
      obtain ⟨m, e, q⟩ := vInt_ok q
      obtain ⟨I, h0, hst, hd⟩ := S.l C hi q.2
      exact ⟨m, e, q.1, I, h0, hst, fun ys1 ρ1 z => S.b C hi (hd ys1 ρ1 z)⟩
    · obtain ⟨hb, h⟩ := gd_ok h
      refine gsj_forL Cc.K C.hp Cc.calm nm (set_ok hb) (ej_mono (N.e Cc h) fun d ρ1 q => ?_)
      obtain ⟨l, e, q⟩ := vLst1_ok q
      obtain ⟨I, h0, hst, hd⟩ := S.l C hi q
      exact ⟨l, e, I, h0, hst, fun ys1 ρ1 z => S.b C hi (hd ys1 ρ1 z)⟩
    · exact h.elim
  · refine gbj_cons (gsj_plain ?_)
    have q := (sndS (G := G) (P := P) (w := w) (base := base) n).s C h
    exact fun P W σ H A Dn Wx tk e => q P W σ H A Dn Wx tk ⟨fun ρ' W' σ' H' z => e.nx ρ' W' σ' H' (S.b C hi z), e.rt, e.bk, e.ct, e.xc, e.rf⟩
theorem sg_l (S : SndG G P w base n) {c : Ci} {X : Cx} {j : Nat} {body : List Stmt} {l ys : List D} {ρ : Rho} {E : GEk} (C : CsOk c G P w base X) (hi : interactive X.env = false) (h : vGLoop (n + 1) c j body l ys ρ E) : GLoop G X j body l ys ρ E := by
  unfold vGLoop at h
  obtain ⟨I, h0, hst, hd⟩ := h
  refine ⟨I, h0, fun i d ys1 ρ1 e hI => ?_, hd⟩
  obtain ⟨h1, h2⟩ := gd_ok (hst i d ys1 ρ1 e hI)
  exact ⟨wr_ok h1, S.b C hi h2⟩
theorem sndG : ∀ n : Nat, SndG G P w base n
  | 0 => ⟨fun _ _ h => by unfold vGB at h; exact h.elim, fun _ _ h => by unfold vGLoop at h; exact h.elim⟩
  | n + 1 => ⟨fun C hi h => sg_b (sndG n) C hi h, fun C hi h => sg_l (sndG n) C hi h⟩
end
end DL
set_option Elab.async false
set_option linter.all false
set_option maxRecDepth 100000
set_option maxHeartbeats 4000000
/-! a generator def, by what its text asks -/
namespace DL
open PySem PySem.Spec PyProof.Rows L2 LamX DLX GenW
section
variable {G : Gg} {P : Program} {w : World} {base : Heap} {x qual : Str} {params : Arguments} {body : List Stmt} {dvs : List V} {kws : List (Str × V)} {f : Addr} {fd : FuncData} {ps : List Str}
/-- a generator def, by what its text asks -/
theorem qfn_data {c : Ci} {S : GSpec} (n : Nat) (F : FunD G.K x qual params body c.sc dvs kws f fd) (Sc : GScope c.N ps c.sc) (hps : ps.length ≤ c.N.length) (gs : ∀ x g, c.gs.lookup x = some g → GkOk G P w base x g) (dig : base.NoDigits) (nm : c.met = none)
    (hv : ∀ ds kd kx, ds.length = ps.length → S ds kd kx → vGB n c body [] (rho0 c.N ds) ⟨fun ys _ => kd ys, fun x _ => kx x⟩) : QFn P w G.K G.mg base (c.k + 1) f fd ps (spG G ps.length S) := by
  obtain ⟨oc, od, dV, kV, doc, pm, an, cdv, ct, osl, rfl, lk, hcd, _, _⟩ := F.ex
  refine qfn_of lk hcd Sc (fun vs H Q E ⟨W, ds, kd, kx, hn, _, r, _⟩ => by rw [← r.length]; exact hn) ?_
  rintro outer s H vs Q E ⟨W, ds, kd, kx, hn, hS, r, wd, t, hQ, hE⟩ A pn gd hr
  have A0 := ag_start (N := c.N) (by rw [hn]; exact hps) r wd t
  have C : CsOk c G P w base (gcxOf P w G.K G.mg base c.N qual c.sc f cdv A outer s H E pn) :=
    ⟨⟨rfl, rfl, rfl, rfl, rfl, rfl, rfl, Sc.nd, rfl, hr, gd, dig, gs, fun x fine l isa e => by rw [nm] at e; cases e⟩, rfl, owns_gcx⟩
  have kp : ∀ {H' : Hp}, (∀ b o, H b = some o → ¬ Fp.M ⟨H, W, fun _ => none⟩ b → H' b = some o ∨ ∃ ps ps', o = .tbl ps ∧ H' b = some (.tbl ps')) → Kp H H' := fun h b o e => h b o e fun ⟨i, z⟩ => by cases z
  have hi : interactive (gcxOf P w G.K G.mg base c.N qual c.sc f cdv A outer s H E pn).env = false := by
    show (c.sc.kind == .module && _) = false
    rw [Sc.kind]; rfl
  refine ⟨_, sGs_gss, (sndG n).b C hi (hv ds kd kx hn hS) _ W _ H [] A0 rfl _ _ takes_gcx ⟨fun ys ρ' W' σ' zs H' h A' L rz => ?_, fun x ρ' W' σ' cls dd H' h A' L r' => ?_⟩⟩
  · exact hQ ys zs H' h (kp A'.fr) A'.tb (RepL.sub A'.w0 _ _ rz)
  · refine hE x cls dd H' h (kp A'.fr) A'.tb ⟨r'.1, fun f a e => ?_⟩
    obtain ⟨d', v, e1, e2, e3, e4⟩ := r'.2 f a e
    exact ⟨d', v, e1, e2, fun z => e3 (A'.w0 _ z), Rep.sub A'.w0 _ _ e4⟩
end
end DL
set_option Elab.async false
set_option linter.all false
set_option maxRecDepth 100000
set_option maxHeartbeats 1000000
set_option exponentiation.threshold 9500
namespace K01
open PySem PySem.Spec PyProof.Rows L2 DL KM TX
/-- the lots of at most L names within a lot, the shorter ones first -/
def lotsPre (xs : List Str) (i : Nat) : List (List Str) := (List.range i).flatMap (combs xs)
def lotsRows (xs : List Str) (L : Nat) : List D := (lotsPre xs (L + 1)).map tupS
def lotsM (l : List D) (m : D) (kd : List D → Prop) (kx : Exn → Prop) : Prop := match m with
  | .non => kd (lotsRows (l.map strD) l.length)
  | .int n => (match isWh (.int n) && decide (0 ≤ n) with
    | true => kd (lotsRows (l.map strD) (min l.length n.toNat))
    | false => kx ("InvalidNumber", some ("given", .int n)))
  | m => kx ("InvalidNumber", some ("given", m))
def lotsT (l : List D) (m : D) (kd : List D → Prop) (kx : Exn → Prop) : Prop := match isLt (.tup l) && decide (l.length ≤ 10) with
  | true => lotsM l m kd kx
  | false => kx ("InvalidLot", none)
def lotsK (d m : D) (kd : List D → Prop) (kx : Exn → Prop) : Prop := match d with
  | .tup l => lotsT l m kd kx
  | _ => kx ("InvalidLot", none)
def S_lots : GSpec := fun ds kd kx => ∃ d m, ds = [d, m] ∧ smallL d ∧ isPy m = true ∧ lotsK d m kd kx
def gs9p : List (Str × Gk) := ("parts_of", .pf 11 (S_parts 10) 2 []) :: gs9
def c29 : Ci := ⟨["lot", "most", "longest", "size", "part"], defScope (top 29), 11, gs9p, [], none, [("size", 3), ("part", 0)]⟩
theorem lotsPre_succ (xs : List Str) (i : Nat) : lotsPre xs (i + 1) = lotsPre xs i ++ combs xs i := by
  unfold lotsPre
  rw [List.range_succ, List.flatMap_append]
  simp
theorem lotsPre_le (xs : List Str) (hx : xs.length ≤ 10) : ∀ i, i ≤ 11 → (lotsPre xs i).length ≤ i * 1024
  | 0, _ => Nat.zero_le _
  | i + 1, h => by
    rw [lotsPre_succ, List.length_append]
    have h1 := lotsPre_le xs hx i (by omega)
    have h2 := combs_len xs i
    have h3 : 2 ^ xs.length ≤ 2 ^ 10 := Nat.pow_le_pow_right (by decide) hx
    have h4 : (2 : Nat) ^ 10 = 1024 := by decide
    omega
theorem v29_run {l : List D} {m : D} {L : Nat} {kd : List D → Prop} {kx : Exn → Prop} (hl : l.all isNm = true) (h10 : l.length ≤ 10) (hL : L ≤ l.length) (hk : kd (lotsRows (l.map strD) L)) :
    vGB 37 c29 ((defBody (top 29)).drop 3) [] [.val (.tup l), .val m, .val (.int (L : Int)), .no, .no] ⟨fun ys _ => kd ys, fun x _ => kx x⟩ := by
  have el : l = (l.map strD).map .str := nms_str hl
  have hz : 200000 < sizeLine := by rw [sizeLine_eq]; decide
  generalize hxs : l.map strD = xs at el hk
  have lx : xs.length = l.length := by rw [← hxs, List.length_map]
  refine ⟨⟨by omega, by omega⟩, fun i ys ρ => ys = (lotsPre xs i).map tupS ∧ ∃ x y, ρ = [.val (.tup l), .val m, .val (.int (L : Int)), x, y] ∧ vo x ∧ vo y, ⟨rfl, .no, .no, rfl, .inl rfl, .inl rfl⟩, ?_, ?_⟩
  · rintro i d ys1 ρ1 hd ⟨rfl, x, y, rfl, hx1, hy1⟩
    have hi : i < L + 1 := by
      have := (List.getElem?_eq_some_iff.mp hd).1
      rw [upto_len] at this
      omega
    have ed : d = .int (i : Int) := by
      rw [upto_at (by omega)] at hd
      exact (Option.some.inj hd).symm
    subst ed
    have pb := lotsPre_le xs (by omega) i (by omega)
    have cb : (combs xs i).length ≤ 1024 := by
      have h2 := combs_len xs i
      have h3 : 2 ^ xs.length ≤ 2 ^ 10 := Nat.pow_le_pow_right (by decide) (by omega)
      have h4 : (2 : Nat) ^ 10 = 1024 := by decide
      omega
    rcases hx1 with rfl | ⟨dx, rfl⟩ <;> rcases hy1 with rfl | ⟨dy, rfl⟩ <;>
    exact ⟨xs, i, (by rw [el]; rfl), by omega, by omega,
      fun b ys ρ => ys = (lotsPre xs i ++ (combs xs i).take b).map tupS ∧ ∃ y, ρ = [.val (.tup l), .val m, .val (.int (L : Int)), .val (.int (i : Int)), y] ∧ vo y,
      ⟨by rw [List.take_zero, List.append_nil], _, rfl, by first | exact .inl rfl | exact .inr ⟨_, rfl⟩⟩,
      fun b d ys2 ρ2 hb ⟨e1, y, e2, hy2⟩ => by
        subst e1 e2
        rw [List.getElem?_map] at hb
        obtain ⟨c, hc, rfl⟩ := Option.map_eq_some_iff.mp hb
        have tk : (combs xs i).take (b + 1) = (combs xs i).take b ++ [c] := by
          rw [List.take_add_one, hc]; rfl
        have tl : ((combs xs i).take b).length ≤ (combs xs i).length := by rw [List.length_take]; omega
        have nm : (lotsPre xs i ++ (combs xs i).take (b + 1)).map tupS = (lotsPre xs i ++ (combs xs i).take b).map tupS ++ [tupS c] := by
          rw [tk, ← List.append_assoc, List.map_append]; rfl
        rcases hy2 with rfl | ⟨dy, rfl⟩ <;>
        exact ⟨by rw [List.length_map, List.length_append]; omega, nm.symm, _, rfl, .inr ⟨_, rfl⟩⟩,
      fun ys2 ρ2 ⟨e1, y, e2, hy2⟩ => by
        subst e1 e2
        refine ⟨?_, .val (.int (i : Int)), y, rfl, .inr ⟨_, rfl⟩, hy2⟩
        rw [lotsPre_succ, List.length_map, List.take_length]⟩
  · rintro ys1 ρ1 ⟨rfl, x, y, rfl, _, _⟩
    rw [upto_len]
    have : ((L : Int) + 1).toNat = L + 1 := by omega
    rw [this]
    exact hk
theorem v29 (ds : List D) (kd : List D → Prop) (kx : Exn → Prop) (h : S_lots ds kd kx) : vGB 40 c29 (defBody (top 29)) [] (rho0 c29.N ds) ⟨fun ys _ => kd ys, fun x _ => kx x⟩ := by
  obtain ⟨d, m, rfl, hd, hm, hk⟩ := h
  refine ⟨d, rfl, hd, ?_⟩
  cases hf : isLt d with
  | false =>
    cases d with
    | tup l =>
      have hk : lotsT l m kd kx := hk
      unfold lotsT at hk
      rw [hf] at hk; exact hk
    | _ => exact hk
  | true =>
    cases d with
    | tup l =>
      have hk : lotsT l m kd kx := hk
      unfold lotsT at hk
      rw [hf] at hk
      by_cases h10 : l.length ≤ 10
      · rw [decide_eq_true h10] at hk
        refine ifF (decide_eq_false (show ¬ ((10 : Int) < ((l.length : Nat) : Int)) by omega)) ?_
        have hl : l.all isNm = true := (bo2 hf).1
        cases m with
        | non => exact v29_run hl h10 (Nat.le_refl _) hk
        | int n =>
          have hk : (match isWh (.int n) && decide (0 ≤ n) with
            | true => kd (lotsRows (l.map strD) (min l.length n.toNat))
            | false => kx ("InvalidNumber", some ("given", .int n))) := hk
          refine ⟨.int n, rfl, rfl, ?_⟩
          cases hw : isWh (.int n) with
          | false => rw [hw] at hk; exact hk
          | true =>
            rw [hw] at hk
            by_cases h0 : 0 ≤ n
            · rw [decide_eq_true h0] at hk
              refine ifF (decide_eq_false (show ¬ (n < 0) by omega)) ?_
              have e : D.int (if n < ((l.length : Nat) : Int) then n else ((l.length : Nat) : Int)) = .int ((min l.length n.toNat : Nat) : Int) := by
                congr 1
                split <;> omega
              show vGB 37 c29 ((defBody (top 29)).drop 3) [] [.val (.tup l), .val (.int n), .val (.int (if n < ((l.length : Nat) : Int) then n else ((l.length : Nat) : Int))), .no, .no] ⟨fun ys _ => kd ys, fun x _ => kx x⟩
              rw [e]
              exact v29_run hl h10 (Nat.min_le_left _ _) hk
            · rw [decide_eq_false h0] at hk
              exact ifT (decide_eq_true (show n < 0 by omega)) hk
        | bl b => exact ⟨_, rfl, hm, hk⟩
        | str x => exact ⟨_, rfl, hm, hk⟩
        | tup l => exact ⟨_, rfl, hm, hk⟩
        | lst l => exact ⟨_, rfl, hm, hk⟩
        | fls l => exact ⟨_, rfl, hm, hk⟩
        | fn x => cases hm
        | ty x => cases hm
      · rw [decide_eq_false h10] at hk
        exact ifT (decide_eq_true (show ((10 : Int) < ((l.length : Nat) : Int)) by omega)) hk
    | _ => cases hf
end K01
set_option Elab.async false
set_option linter.all false
set_option maxRecDepth 100000
set_option maxHeartbeats 1000000
set_option exponentiation.threshold 9500
namespace K01
open PySem PySem.Spec PyProof.Rows L2 DL KM TX
def S_mixed : DSpec := fun l ds k => ∃ (n : Nat) (xs : List Str), ds = [.lst (xs.map .str)] ∧ Dice n l ∧ n ≤ 900000 ∧ xs.length ≤ 60 ∧ xs.all PyData.strOk = true ∧ ∀ (ys : List Str) (l' : List D), ys.Perm xs → Dice (n + xs.length) l' → k (.lst (ys.map .str)) l'
def gs15 : List (Str × Gk) := ("_law_mixed", .df 2 S_mixed 1) :: gs14
def c37 : Ci := ⟨["_law_dice_here", "_law_items", "_law_left", "_law_found"], defScope (top 37), 1, gs14, ["_law_left", "_law_found"], none, []⟩
theorem shp_lstrs {xs : List Str} (h : xs.all PyData.strOk = true) : shp (.lst (xs.map .str)) = true := by
  show (isPy.isPys (xs.map D.str) && (PyData.canLayAll0 (toPy.toPys (xs.map D.str)) && decide (PyData.depthAll (toPy.toPys (xs.map D.str)) + 1 ≤ 64))) = true
  rw [isPys_strs, pys_strs, canLayAll_strs', depthAll_strs', h]; rfl
theorem eq_nilS (xs : List Str) : eqD (.lst (xs.map .str)) (.lst []) = xs.isEmpty := by
  cases xs <;> rfl
theorem seqI {r : Int} {n : Nat} (h0 : 0 ≤ r) (h1 : r < n) : seqIndex? r n = some r.toNat := by
  unfold seqIndex?
  have h2 : ¬ r < 0 := by omega
  simp only [if_neg h2]
  rw [if_pos (by rw [Bool.and_eq_true]; exact ⟨decide_eq_true h0, decide_eq_true h1⟩)]
theorem erase_map (f : Str → D) (l : List Str) (i : Nat) : (l.eraseIdx i).map f = (l.map f).eraseIdx i := by
  rw [List.eraseIdx_eq_take_drop_succ, List.eraseIdx_eq_take_drop_succ, List.map_append, List.map_take, List.map_drop]
theorem erase_perm' {α : Type} {l : List α} {i : Nat} {y : α} (h : l[i]? = some y) : (y :: l.eraseIdx i).Perm l := L2.erase_perm l i y h
theorem v37 (l ds : List D) (kd : D → List D → Prop) (h : S_mixed l ds kd) : vB 40 c37 (defBody (top 37)) (rhoD c37.N l ds) (EkD kd) := by
  obtain ⟨n, xs, rfl, hD, hn, hx, hs, hk⟩ := h
  refine ⟨fun m ρ => ∃ (left found : List Str) (dl : List D), ρ = [.io dl, .val (.lst (xs.map .str)), .own (left.map .str), .own (found.map .str)] ∧ (found ++ left).Perm xs ∧ Dice (n + found.length) dl ∧ m = left.length, ⟨_, xs, [], l, rfl, List.Perm.refl _, hD, rfl⟩, ?_⟩
  rintro m ρ1 ⟨left, found, dl, rfl, pm, hDi, rfl⟩
  have sl : left.all PyData.strOk = true := List.all_eq_true.mpr fun x hm => List.all_eq_true.mp hs x (pm.mem_iff.mp (List.mem_append_right _ hm))
  have ln := pm.length_eq
  rw [List.length_append] at ln
  refine ⟨Nat.zero_le _, ⟨shp_lstrs sl, rfl⟩, ?_⟩
  cases left with
  | nil =>
    refine .inl ?_
    rw [List.append_nil] at pm
    exact ⟨dl, rfl, hk found dl pm (hDi.mono (by omega))⟩
  | cons x0 r0 =>
    refine ⟨n + found.length, _, rfl, hDi, by omega, by rw [List.length_map, List.length_cons]; omega, by rw [List.length_map]; omega, fun r l' r0' r1' hD' => ?_⟩
    rw [List.length_map] at r1'
    have hr : r.toNat < (x0 :: r0).length := by omega
    refine ⟨⟨by omega, by rw [List.length_cons] at r1'; omega⟩, ?_⟩
    rw [List.length_map, seqI r0' r1']
    show vSome ((x0 :: r0).map D.str)[r.toNat]? _
    rw [List.getElem?_map, List.getElem?_eq_getElem hr]
    have hz : 1000 < sizeLine := by rw [sizeLine_eq]; decide
    refine ⟨by rw [List.length_map]; omega, ?_⟩
    have he := L2.erase_perm (x0 :: r0) r.toNat _ (List.getElem?_eq_getElem hr)
    refine ⟨((x0 :: r0).eraseIdx r.toNat).length, ?_, (x0 :: r0).eraseIdx r.toNat, found ++ [(x0 :: r0)[r.toNat]], l', ?_, ?_, ?_, rfl⟩
    · rw [List.length_eraseIdx_of_lt hr]
      omega
    · rw [List.map_append, erase_map]
      rfl
    · rw [List.append_assoc]
      exact (List.Perm.append_left found he).trans pm
    · rw [List.length_append]
      exact hD'.mono (by show n + found.length + 1 ≤ n + (found.length + 1); omega)
end K01
set_option Elab.async false
set_option linter.all false
set_option maxRecDepth 100000
set_option maxHeartbeats 1000000
set_option exponentiation.threshold 9500
namespace K01
open PySem PySem.Spec PyProof.Rows L2 DL KM TX
@[irreducible] def eleven : List Str := ["a", "a0", "ab", "b", "c7", "d", "e", "f", "longname", "z", "z9"]
theorem eleven_ok : eleven.length = 11 ∧ eleven.all PyData.strOk = true ∧ eleven.Nodup ∧ eleven.all (fun x => isNm (.str x)) = true := by
  unfold eleven
  refine ⟨rfl, by decide +kernel, by decide +kernel, by decide +kernel⟩
theorem cut_to {l : List D} {r : Int} (h0 : 0 ≤ r) : DL.cutD l none (some r) = l.take r.toNat := by
  unfold DL.cutD
  have e1 : HT.sIx l.length 0 none = 0 := rfl
  have e2 : HT.sIx l.length l.length (some r) = min r.toNat l.length := by
    unfold HT.sIx
    simp only
    split <;> omega
  dsimp only
  rw [e1, e2, List.drop_zero, Nat.sub_zero]
  rcases Nat.le_total r.toNat l.length with h | h
  · rw [Nat.min_eq_left h]
  · rw [Nat.min_eq_right h, List.take_length, List.take_of_length_le h]
/-- a lot that the law draws -/
structure LotD (xs : List Str) : Prop where
  up : Upw xs
  nm : xs.all (fun x => isNm (.str x)) = true
  ok : xs.all PyData.strOk = true
  len : xs.length ≤ 11
def S_names : DSpec := fun l ds k => ∃ (n : Nat) (m : Int), ds = [.int m] ∧ Dice n l ∧ n ≤ 800000 ∧ 0 ≤ m ∧ m ≤ 20 ∧ ∀ (xs : List Str) (l' : List D), LotD xs → xs.length ≤ m.toNat → Dice (n + 12) l' → k (.tup (xs.map .str)) l'
def gs16 : List (Str × Gk) := ("_law_names", .df 3 S_names 1) :: gs15
def c39 : Ci := ⟨["_law_dice_here", "_law_most", "_law_names_here"], defScope (top 39), 2, gs15, [], none, []⟩
theorem v39 (l ds : List D) (kd : D → List D → Prop) (h : S_names l ds kd) : vB 40 c39 (defBody (top 39)) (rhoD c39.N l ds) (EkD kd) := by
  obtain ⟨n, m, rfl, hD, hn, m0, m1, hk⟩ := h
  have hz : 1000 < sizeLine := by rw [sizeLine_eq]; decide
  obtain ⟨e1, e2, e3, e4⟩ := eleven_ok
  refine ⟨by show 11 ≤ sizeLine; omega, ?_⟩
  refine ⟨n, eleven, by unfold eleven; rfl, hD, by omega, by omega, e2, fun ys l1 pm hD1 => ?_⟩
  refine ⟨n + eleven.length, m + 1, rfl, hD1, by omega, by omega, by omega, fun r l2 r0 r1 hD2 => ?_⟩
  refine .inl ⟨ys.take r.toNat, .inl (congrArg D.lst (by rw [cut_to r0, List.map_take])), ?_⟩
  have pt : (srtS (ys.take r.toNat)).Perm (ys.take r.toNat) := srtS_perm
  have sub : ∀ x ∈ srtS (ys.take r.toNat), x ∈ eleven := fun x hx => pm.mem_iff.mp (List.mem_of_mem_take (pt.mem_iff.mp hx))
  have nd : (srtS (ys.take r.toNat)).Nodup := pt.nodup_iff.mpr ((pm.nodup_iff.mpr e3).sublist (List.take_sublist _ _))
  have ln : (srtS (ys.take r.toNat)).length ≤ min r.toNat ys.length := by rw [pt.length_eq, List.length_take]; exact Nat.le_refl _
  have ly : ys.length = 11 := by rw [pm.length_eq]; exact e1
  refine ⟨l2, rfl, hk _ _ ⟨up_of (srtS_ord _) nd, List.all_eq_true.mpr fun x hx => List.all_eq_true.mp e4 x (sub x hx), List.all_eq_true.mpr fun x hx => List.all_eq_true.mp e2 x (sub x hx), by omega⟩ (by omega) (hD2.mono (by omega))⟩
end K01
set_option Elab.async false
set_option linter.all false
set_option maxRecDepth 100000
set_option maxHeartbeats 1000000
set_option exponentiation.threshold 9500
namespace K01
open PySem PySem.Spec PyProof.Rows L2 DL KM TX
/-- a number's text -/
def numT (i : Int) : Str := Str.ofString (toString i)
def fracS (p : Int × Int) : Str := if p.2 = 1 then numT p.1 else Str.empty ++ numT p.1 ++ ("/" : Str) ++ numT p.2
/-- numbers whose texts the law asks for -/
def tellable (p : Int × Int) : Prop := (p.1.natAbs.log2 < 1920 ∧ p.2.natAbs.log2 < 1920) ∧ (numT p.1).length ≤ 1000 ∧ (numT p.2).length ≤ 1000
def S_ftext : PSpec := fun ds kd kx => ∃ d, ds = [d] ∧ isPy d = true ∧ (isFr d = true → tellable (prs1 d)) ∧ if isFr d = true then kd (.str (fracS (prs1 d))) else kx ("InvalidFraction", none)
def gs17 : List (Str × Gk) := ("fraction_text", .pf 4 S_ftext 1 []) :: gs16
def c30 : Ci := ⟨["value", "top", "bottom"], defScope (top 30), 3, gs16, [], none, []⟩
theorem app_len (x y : Str) : (x ++ y).length = x.length + y.length := by
  show (x.cps ++ y.cps).size = x.cps.size + y.cps.size
  exact Array.size_append ..
theorem v30 (ds : List D) (kd : D → Prop) (kx : Exn → Prop) (h : S_ftext ds kd kx) : vB 40 c30 (defBody (top 30)) (rho0 c30.N ds) (EkP kd kx) := by
  obtain ⟨d, rfl, hd, ht, hk⟩ := h
  obtain ⟨k1, k2⟩ := if_use hk
  refine ⟨d, rfl, hd, ?_⟩
  by_cases hf : isFr d = true
  case neg => exact ifF (Bool.eq_false_iff.mpr hf) (k2 (Bool.eq_false_iff.mpr hf))
  refine ifT hf ?_
  have q := k1 hf
  have t := ht hf
  have e := isFr_eq hf
  generalize prs1 d = p at q t e
  subst e
  obtain ⟨⟨t1, t2⟩, t3, t4⟩ := t
  have hz : 4000 < sizeLine := by rw [sizeLine_eq]; decide
  have l1 : ("/" : Str).length = 1 := rfl
  have l0 : (Str.empty : Str).length = 0 := rfl
  refine ⟨⟨rfl, rfl⟩, ?_⟩
  by_cases hb : p.2 = 1
  · refine ifT (by rw [KM.eq_int, decide_eq_true hb]) ?_
    unfold fracS at q
    rw [if_pos hb] at q
    exact ⟨t1, q⟩
  · refine ifF (by rw [KM.eq_int, decide_eq_false hb]) ?_
    unfold fracS at q
    rw [if_neg hb] at q
    have a1 : (Str.empty ++ numT p.1).length ≤ 1000 := by rw [app_len]; omega
    have a2 : (Str.empty ++ numT p.1 ++ ("/" : Str)).length ≤ 1001 := by rw [app_len]; omega
    have a3 : (Str.empty ++ numT p.1 ++ ("/" : Str) ++ numT p.2).length ≤ 2001 := by rw [app_len]; omega
    exact ⟨t1, Nat.le_trans a1 (by omega), Nat.le_trans a2 (by omega), t2, Nat.le_trans a3 (by omega), q⟩
end K01
set_option Elab.async false
set_option linter.all false
set_option maxRecDepth 100000
set_option maxHeartbeats 1000000
set_option exponentiation.threshold 9500
namespace K01
open PySem PySem.Spec PyProof.Rows L2 DL KM TX
/-! ### where a number ends -/
def digs : Str := "0123456789"
def isDg (c : Nat) : Bool := inT ⟨#[c]⟩ digs
/-- the index behind the number that begins l (inl), or that of the first wrong sign (inr) -/
def nEnd (l : List Nat) (z : Bool) : Nat ⊕ Nat :=
  if (z && l.head? == some 48) = true then .inl 1 else
  if (l.takeWhile isDg).length = 0 then .inr 0 else
  if l.head? = some 48 then .inr 0 else
  if 1000 < (l.takeWhile isDg).length then .inr 1000 else .inl (l.takeWhile isDg).length
def S_nend : PSpec := fun ds kd kx => ∃ (x : Str) (s : Nat) (z : Bool), ds = [.str x, .int s, .bl z] ∧ s ≤ x.length ∧ x.length ≤ 100000 ∧ PyData.strOk x = true ∧
  match nEnd (x.cps.toList.drop s) z with
  | .inl e => kd (.int (s + e : Nat))
  | .inr e => kx ("ParseError", some ("spot", .int (s + e : Nat)))
def gs18 : List (Str × Gk) := ("_number_end", .pf 2 S_nend 3 []) :: gs17
def c32 : Ci := ⟨["text", "start", "may_be_zero", "end"], defScope (top 32), 1, gs17, [], none, []⟩
theorem str1 {c : Nat} (h : c < 0x110000) : shp (.str ⟨#[c]⟩) = true := shp_str (by unfold PyData.strOk; simp [h])
theorem eq_zero {c : Nat} : eqD (.str ⟨#[c]⟩) (.str "0") = decide (c = 48) := by
  show ((⟨#[c]⟩ : Str) == ("0" : Str)) = _
  by_cases h : c = 48
  · subst h; rfl
  · rw [decide_eq_false h]
    refine beq_eq_false_iff_ne.mpr fun e => h ?_
    have e2 : (#[c] : Array Nat) = #[48] := congrArg Str.cps e
    simpa using e2
theorem at_nat {α : Type} {l : List α} {i : Nat} {c : α} (h : l[i]? = some c) : atI l (i : Int) = some c := by
  have hl := (List.getElem?_eq_some_iff.mp h).1
  rw [atI_nat (by omega) (by omega), Int.toNat_natCast]
  exact h
theorem sub_ok {x : Str} (h : PyData.strOk x = true) {c : Nat} {i : Nat} (e : x.cps.toList[i]? = some c) : c < 0x110000 := by
  unfold PyData.strOk at h
  have m : c ∈ x.cps.toList := List.mem_of_getElem? e
  rw [Array.mem_toList_iff] at m
  simpa using Array.all_eq_true_iff_forall_mem.mp h c m
theorem tw_le {p : Nat → Bool} : ∀ (k : Nat) (l : List Nat), (∀ i, i < k → ∃ c, l[i]? = some c ∧ p c = true) → k ≤ (l.takeWhile p).length
  | 0, _, _ => Nat.zero_le _
  | k + 1, [], h => by
    obtain ⟨c, e, _⟩ := h 0 (by omega)
    cases e
  | k + 1, a :: l, h => by
    obtain ⟨c, e, pc⟩ := h 0 (by omega)
    cases e
    rw [List.takeWhile_cons_of_pos pc, List.length_cons]
    have := tw_le k l fun i hi => h (i + 1) (by omega)
    omega
theorem tw_eq {p : Nat → Bool} : ∀ (k : Nat) (l : List Nat), (∀ i, i < k → ∃ c, l[i]? = some c ∧ p c = true) → (l[k]? = none ∨ ∃ c, l[k]? = some c ∧ p c = false) → (l.takeWhile p).length = k
  | 0, [], _, _ => rfl
  | 0, a :: l, _, h => by
    rcases h with h | ⟨c, e, pc⟩
    · cases h
    · cases e
      rw [List.takeWhile_cons_of_neg (by rw [pc]; decide)]
      rfl
  | k + 1, [], h, _ => by
    obtain ⟨c, e, _⟩ := h 0 (by omega)
    cases e
  | k + 1, a :: l, h, g => by
    obtain ⟨c, e, pc⟩ := h 0 (by omega)
    cases e
    rw [List.takeWhile_cons_of_pos pc, List.length_cons, tw_eq k l (fun i hi => h (i + 1) (by omega)) g]
theorem v32 (ds : List D) (kd : D → Prop) (kx : Exn → Prop) (h : S_nend ds kd kx) : vB 40 c32 (defBody (top 32)) (rho0 c32.N ds) (EkP kd kx) := by
  obtain ⟨x, s, z, rfl, hs, hx, ok, hk⟩ := h
  have hz : 200000 < sizeLine := by rw [sizeLine_eq]; decide
  have key : (z && (x.cps.toList.drop s).head? == some 48) = false → vB 39 c32 ((defBody (top 32)).drop 1) (rho0 c32.N [.str x, .int s, .bl z]) (EkP kd kx) := fun h0 => by
    unfold nEnd at hk
    rw [h0, if_neg Bool.false_ne_true] at hk
    have ok' : ∀ {c : Nat} {i : Nat}, x.cps.toList[i]? = some c → c < 0x110000 := fun e => sub_ok ok e
    have hd : (x.cps.toList.drop s).head? = x.cps.toList[s]? := by rw [List.head?_drop]
    rw [hd] at hk
    generalize hl : x.cps.toList = xs at *
    have xl : xs.length = x.length := by rw [← hl, Array.length_toList]; rfl
    have dr : ∀ i, (xs.drop s)[i]? = xs[s + i]? := fun i => List.getElem?_drop
    refine ⟨fun m ρ => ∃ e : Nat, ρ = [.val (.str x), .val (.int s), .val (.bl z), .val (.int e)] ∧ s ≤ e ∧ e ≤ xs.length ∧ (∀ i, i < e - s → ∃ c, (xs.drop s)[i]? = some c ∧ isDg c = true) ∧ e ≤ s + 1000 ∧ (s < e → xs[s]? ≠ some 48) ∧ m = xs.length - e, ⟨_, s, rfl, Nat.le_refl _, by omega, fun i a => by omega, by omega, fun z => by omega, rfl⟩, ?_⟩
    rintro m ρ1 ⟨e, rfl, e1, e2, e3, e4, e5, rfl⟩
    have es : s + (e - s) = e := by omega
    have fin : (xs[e]? = none ∨ ∃ c, xs[e]? = some c ∧ isDg c = false) → vB 38 c32 ((defBody (top 32)).drop 3) [.val (.str x), .val (.int s), .val (.bl z), .val (.int e)] (EkP kd kx) := fun hn => by
      have run := tw_eq (p := isDg) (e - s) (xs.drop s) e3 (by rw [dr, es]; exact hn)
      rw [run] at hk
      refine ⟨⟨rfl, rfl⟩, ?_⟩
      by_cases q : e = s
      · refine ifT (by rw [KM.eq_int, decide_eq_true (by omega)]) ?_
        rw [if_pos (by omega)] at hk
        exact hk
      · refine ifF (by rw [KM.eq_int, decide_eq_false (by omega)]) ?_
        rw [if_neg (by omega), if_neg (e5 (by omega)), if_neg (by omega)] at hk
        have hk' : kd (.int (s + (e - s) : Nat)) := hk
        rw [es] at hk'
        exact hk'
    refine ⟨by omega, ?_⟩
    by_cases h1 : e < xs.length
    case neg =>
      refine ifF (decide_eq_false (by omega)) ?_
      exact fin (.inl (List.getElem?_eq_none (by omega)))
    refine ifT (decide_eq_true (by omega)) ?_
    obtain ⟨c, hc⟩ : ∃ c, xs[e]? = some c := ⟨_, List.getElem?_eq_getElem h1⟩
    refine ⟨by omega, c, by rw [hl]; exact at_nat hc, ?_⟩
    cases hdg : isDg c with
    | false => exact ifF hdg (fin (.inr ⟨c, hc, hdg⟩))
    | true =>
      refine ifT hdg ?_
      have all1 : ∀ i, i < e - s + 1 → ∃ c, (xs.drop s)[i]? = some c ∧ isDg c = true := fun i hi => by
        by_cases q : i < e - s
        · exact e3 i q
        · have : i = e - s := by omega
          subst this
          exact ⟨c, by rw [dr, es]; exact hc, hdg⟩
      have lower := tw_le (p := isDg) (e - s + 1) (xs.drop s) all1
      obtain ⟨c0, hc0⟩ : ∃ c, xs[s]? = some c := ⟨_, List.getElem?_eq_getElem (by omega)⟩
      refine ⟨by omega, c0, by rw [hl]; exact at_nat hc0, ⟨str1 (ok' hc0), by decide +kernel⟩, ?_⟩
      by_cases q0 : c0 = 48
      · refine ifT (by rw [eq_zero, decide_eq_true q0]) ?_
        rw [if_neg (by omega), if_pos (by rw [hc0, q0])] at hk
        have : e = s := by
          by_cases q : s < e
          · exact absurd (by rw [hc0, q0]) (e5 q)
          · omega
        subst this
        exact hk
      · refine ifF (by rw [eq_zero, decide_eq_false q0]) ?_
        have nz : ¬ xs[s]? = some 48 := by
          rw [hc0]
          intro z
          cases z
          exact q0 rfl
        refine ⟨⟨rfl, rfl⟩, ?_⟩
        by_cases q1 : e = s + 1000
        · refine ifT (by rw [KM.eq_int, decide_eq_true (by omega)]) ?_
          rw [if_neg (by omega), if_neg nz, if_pos (by omega)] at hk
          subst q1
          exact hk
        · refine ifF (by rw [KM.eq_int, decide_eq_false (by omega)]) ?_
          exact ⟨_, by omega, e + 1, rfl, by omega, by omega, fun i hi => all1 i (by omega), by omega, fun _ => nz, rfl⟩
  cases z with
  | false => exact key rfl
  | true =>
    have cs : L2.cutS x (some (s : Int)) (some ((s : Int) + 1)) = ⟨((x.cps.toList.drop s).take 1).toArray⟩ := by
      unfold L2.cutS
      have e1 : HT.sIx x.length 0 (some (s : Int)) = s := by rw [HT.sIx_nat]; omega
      have e2 : HT.sIx x.length x.length (some ((s : Int) + 1)) = min (s + 1) x.length := by rw [show (s : Int) + 1 = ((s + 1 : Nat) : Int) by omega, HT.sIx_nat]
      rw [e1, e2]
      have xl : x.cps.toList.length = x.length := by rw [Array.length_toList]; rfl
      have e3 : (x.cps.toList.drop s).take (min (s + 1) x.length - s) = (x.cps.toList.drop s).take 1 := by
        rcases Nat.lt_or_ge s x.length with q | q
        · rw [show min (s + 1) x.length - s = 1 by omega]
        · rw [show x.cps.toList.drop s = [] from List.drop_eq_nil_of_le (by omega), List.take_nil, List.take_nil]
      rw [e3]
    have go : eqD (.str (L2.cutS x (some (s : Int)) (some ((s : Int) + 1)))) (.str "0") = ((x.cps.toList.drop s).head? == some 48) ∧ shp (.str (L2.cutS x (some (s : Int)) (some ((s : Int) + 1)))) = true := by
      rw [cs]
      cases hh : x.cps.toList.drop s with
      | nil => exact ⟨rfl, by decide +kernel⟩
      | cons c r =>
        have hc : x.cps.toList[s]? = some c := by rw [← List.head?_drop, hh]; rfl
        refine ⟨?_, str1 (sub_ok ok hc)⟩
        refine (eq_zero (c := c)).trans ?_
        by_cases q : c = 48
        · subst q; rfl
        · rw [decide_eq_false q]
          refine (beq_eq_false_iff_ne.mpr fun z => q ?_).symm
          cases z
          rfl
    refine ⟨by omega, ⟨go.2, by decide +kernel⟩, ?_⟩
    cases hz0 : (x.cps.toList.drop s).head? == some 48 with
    | false => exact ifF (go.1.trans hz0) (key (by rw [hz0]; rfl))
    | true =>
      refine ifT (go.1.trans hz0) ?_
      unfold nEnd at hk
      rw [hz0, if_pos (show (true && true) = true from rfl)] at hk
      exact hk
end K01
set_option Elab.async false
set_option linter.all false
set_option maxRecDepth 100000
set_option maxHeartbeats 1000000
set_option exponentiation.threshold 9500
namespace K01
open PySem PySem.Spec PyProof.Rows L2 DL KM TX
theorem one_in (c : Nat) (y : Str) : inT ⟨#[c]⟩ y = true ↔ c ∈ y.cps.toList := by
  unfold inT
  rw [PySem.StrLaws.found_iff, List.mem_iff_getElem?]
  exact ⟨fun ⟨i, h⟩ => ⟨i, (PySem.StrLaws.subAt_one y c i).mp h⟩, fun ⟨i, h⟩ => ⟨i, (PySem.StrLaws.subAt_one y c i).mpr h⟩⟩
theorem dg_iff (c : Nat) : isDg c = true ↔ 48 ≤ c ∧ c ≤ 57 := by
  unfold isDg
  rw [one_in]
  show c ∈ [48, 49, 50, 51, 52, 53, 54, 55, 56, 57] ↔ _
  simp only [List.mem_cons, List.not_mem_nil, or_false]
  omega
theorem starts_minus (x : Str) : Txt.startswith x "-" = (x.cps.toList[0]? == some 45) := by
  have h := PySem.StrLaws.subAt_one x 45 0
  have e : Txt.startswith x "-" = true ↔ x.cps.toList[0]? = some 45 := by
    unfold Txt.startswith
    rw [Bool.and_eq_true]
    have e2 : decide (0 + ("-" : Str).length ≤ x.length) = true ↔ 0 + (⟨#[45]⟩ : Str).length ≤ x.length := decide_eq_true_iff
    exact (and_congr e2 Iff.rfl).trans h
  cases hb : (x.cps.toList[0]? == some 45) with
  | true => exact e.mpr (eq_of_beq hb)
  | false =>
    cases hc : Txt.startswith x "-" with
    | false => rfl
    | true => rw [e.mp hc] at hb; cases hb
/-- the worth of a row of digits, perhaps behind a minus -/
def valT : List Nat → Int
  | 45 :: r => -((NumText.digitsVal r : Nat) : Int)
  | cs => ((NumText.digitsVal cs : Nat) : Int)
theorem tw_self {p : Nat → Bool} : ∀ {l : List Nat}, (∀ c ∈ l, p c = true) → l.takeWhile p = l
  | [], _ => rfl
  | a :: l, h => by rw [List.takeWhile_cons_of_pos (h a List.mem_cons_self), tw_self fun c hc => h c (List.mem_cons_of_mem _ hc)]
theorem tw_mem {p : Nat → Bool} {c : Nat} : ∀ {l : List Nat}, c ∈ l.takeWhile p → p c = true
  | [], h => by cases h
  | a :: l, h => by
    by_cases q : p a = true
    · rw [List.takeWhile_cons_of_pos q] at h
      rcases List.mem_cons.mp h with e | h
      · rw [e]; exact q
      · exact tw_mem h
    · rw [List.takeWhile_cons_of_neg q] at h
      cases h
theorem seen_all {x : Str} (h : ∀ c ∈ x.cps.toList, c ≠ 0 ∧ c < 128) : (numSeenOf x).length = x.length := by
  have h1 : x.cps.all (· < 128) = true := by
    rw [Array.all_eq_true_iff_forall_mem]
    intro c hc
    exact decide_eq_true (h c (Array.mem_toList_iff.mpr hc)).2
  unfold PySem.numSeenOf PySem.numTextOf
  rw [if_pos h1]
  have e : x.cps.toList.takeWhile (· != 0) = x.cps.toList := tw_self fun c hc => by simpa using (h c hc).1
  rw [e, Array.length_toList]
  rfl
theorem int_dig {x : Str} (h : NumText.AllDigits x.cps.toList) (h1 : x.cps.toList ≠ []) (h2 : x.length ≤ 4300) : intOf x ((NumText.digitsVal x.cps.toList : Nat) : Int) := by
  refine ⟨PySem.intText_digits h h1 h2, Nat.le_trans h2 (by rw [sizeLine_eq]; decide), ?_⟩
  rw [seen_all fun c hc => by have := h c hc; omega]
  omega
theorem int_neg {x : Str} {cs : List Nat} (e : x.cps.toList = 45 :: cs) (h : NumText.AllDigits cs) (h1 : cs ≠ []) (h2 : x.length ≤ 4300) : intOf x (-((NumText.digitsVal cs : Nat) : Int)) := by
  refine ⟨PySem.intText_neg e h h1 h2, Nat.le_trans h2 (by rw [sizeLine_eq]; decide), ?_⟩
  rw [seen_all fun c hc => by
    rw [e] at hc
    rcases List.mem_cons.mp hc with q | q
    · omega
    · have := h c q; omega]
  omega
/-- what nEnd tells of the signs -/
theorem nEnd_ok {l : List Nat} {z : Bool} {e : Nat} (h : nEnd l z = .inl e) : (1 ≤ e ∧ e ≤ 1000 ∧ e ≤ l.length) ∧ NumText.AllDigits (l.take e) ∧ (z = false → l.head? ≠ some 48) := by
  unfold nEnd at h
  split at h
  · rename_i c
    obtain ⟨c1, c2⟩ := Bool.and_eq_true_iff.mp c
    cases h
    have hh : l.head? = some 48 := eq_of_beq c2
    cases l with
    | nil => cases hh
    | cons a r =>
      cases hh
      refine ⟨⟨by omega, by omega, by simp⟩, fun c hc => ?_, fun q => by rw [c1] at q; cases q⟩
      have : c = 48 := by simpa using hc
      omega
  · split at h
    · cases h
    · split at h
      · cases h
      · split at h
        · cases h
        · rename_i n1 n2 n3
          cases h
          have ht : l.take (l.takeWhile isDg).length = l.takeWhile isDg := by
            have := List.takeWhile_append_dropWhile (p := isDg) (l := l)
            conv => lhs; rw [← this]
            rw [List.takeWhile_append_dropWhile]
            conv => lhs; arg 2; rw [← this]
            exact List.take_left
          refine ⟨⟨by omega, by omega, ?_⟩, ?_, fun _ => n2⟩
          · have := List.takeWhile_append_dropWhile (p := isDg) (l := l)
            have := congrArg List.length this
            rw [List.length_append] at this
            omega
          · rw [ht]
            intro c hc
            have := tw_mem hc
            exact (dg_iff c).mp this
end K01
set_option Elab.async false
set_option linter.all false
set_option maxRecDepth 100000
set_option maxHeartbeats 2000000
set_option exponentiation.threshold 9500
namespace K01
open PySem PySem.Spec PyProof.Rows L2 DL KM TX
theorem foldl_lt : ∀ (cs : List Nat) (a : Nat), NumText.AllDigits cs → cs.foldl (fun acc c => acc * 10 + (c - 48)) a < (a + 1) * 10 ^ cs.length
  | [], a, _ => by simp
  | c :: cs, a, h => by
    have hc := h c List.mem_cons_self
    have ih := foldl_lt cs (a * 10 + (c - 48)) fun d hd => h d (List.mem_cons_of_mem _ hd)
    show cs.foldl _ (a * 10 + (c - 48)) < (a + 1) * 10 ^ (cs.length + 1)
    refine Nat.lt_of_lt_of_le ih ?_
    rw [Nat.pow_succ, Nat.mul_comm (10 ^ cs.length) 10, ← Nat.mul_assoc]
    exact Nat.mul_le_mul_right _ (by omega)
theorem digits_lt {cs : List Nat} (h : NumText.AllDigits cs) : NumText.digitsVal cs < 10 ^ cs.length := by
  have := foldl_lt cs 0 h
  rw [Nat.zero_add, Nat.one_mul] at this
  exact this
theorem valT_pos {l : List Nat} (h : (l[0]? == some 45) = false) : valT l = ((NumText.digitsVal l : Nat) : Int) := by
  unfold valT
  split
  · rename_i r
    simp at h
  · rfl
theorem int_part {y : Str} {neg : Bool} (h0 : (y.cps.toList[0]? == some 45) = neg) (dg : NumText.AllDigits (y.cps.toList.drop (if neg = true then 1 else 0))) (ne : y.cps.toList.drop (if neg = true then 1 else 0) ≠ []) (hl : y.length ≤ 4300) : intOf y (valT y.cps.toList) := by
  cases neg with
  | false =>
    rw [valT_pos h0]
    exact int_dig dg ne hl
  | true =>
    have e : y.cps.toList = 45 :: y.cps.toList.drop 1 := by
      cases hy : y.cps.toList with
      | nil => rw [hy] at h0; cases h0
      | cons a r =>
        rw [hy] at h0
        have : a = 45 := by simpa using h0
        rw [this]; rfl
    have q := int_neg e dg ne hl
    rw [e]
    exact q
/-- what a text is read as: a fraction, or the first wrong sign -/
def stOf (l : List Nat) : Nat := if (l[0]? == some 45) = true then 1 else 0
def readB (l : List Nat) (sl : Nat) : (Int × Int) ⊕ Nat :=
  match nEnd (l.drop (sl + 1)) false with
  | .inr e => .inr (sl + 1 + e)
  | .inl e => if sl + 1 + e < l.length then .inr (sl + 1 + e) else .inl (low (valT (l.take sl)) (valT (l.drop (sl + 1))))
def readR (l : List Nat) : (Int × Int) ⊕ Nat :=
  match nEnd (l.drop (stOf l)) (!(l[0]? == some 45)) with
  | .inr e => .inr (stOf l + e)
  | .inl e => if stOf l + e = l.length then .inl (valT l, 1) else if l[stOf l + e]? = some 47 then readB l (stOf l + e) else .inr (stOf l + e)
def S_read : PSpec := fun ds kd kx => ∃ d, ds = [d] ∧ isPy d = true ∧ (∀ x, d = .str x → x.length ≤ 3000 ∧ PyData.strOk x = true) ∧ match d with
  | .str x => (match readR x.cps.toList with
    | .inl p => kd (frP p)
    | .inr e => kx ("ParseError", some ("spot", .int (e : Nat))))
  | _ => kx ("ParseError", some ("spot", .non))
def gs19 : List (Str × Gk) := ("read_fraction", .pf 3 S_read 1 []) :: gs18
def c31 : Ci := ⟨["text", "is_negative", "start", "slash", "end"], defScope (top 31), 2, gs18, [], none, []⟩
theorem cut_l (x : Str) (n : Nat) (h : n ≤ x.length) : (L2.cutS x none (some (n : Int))).cps.toList = x.cps.toList.take n := by
  unfold L2.cutS
  rw [HT.sIx_none, HT.sIx_nat, List.drop_zero, Nat.sub_zero, Nat.min_eq_left h]
theorem cut_r (x : Str) (n : Nat) (h : n ≤ x.length) : (L2.cutS x (some (n : Int)) none).cps.toList = x.cps.toList.drop n := by
  unfold L2.cutS
  rw [HT.sIx_none, HT.sIx_nat, Nat.min_eq_left h]
  have : x.cps.toList.length = x.length := by rw [Array.length_toList]; rfl
  rw [List.take_of_length_le (by rw [List.length_drop]; omega)]
theorem eq_slash {c : Nat} : eqD (.str ⟨#[c]⟩) (.str "/") = decide (c = 47) := by
  show ((⟨#[c]⟩ : Str) == ("/" : Str)) = _
  by_cases h : c = 47
  · subst h; rfl
  · rw [decide_eq_false h]
    refine beq_eq_false_iff_ne.mpr fun e => h ?_
    have e2 : (#[c] : Array Nat) = #[47] := congrArg Str.cps e
    simpa using e2
/-- a part as a number -/
theorem int_of {y : Str} {cs : List Nat} {neg : Bool} (ey : y.cps.toList = cs) (h0 : (cs[0]? == some 45) = neg) (dg : NumText.AllDigits (cs.drop (if neg = true then 1 else 0))) (ne : 0 < (cs.drop (if neg = true then 1 else 0)).length) (hl : cs.length ≤ 4300) : intOf y (valT cs) := by
  subst ey
  have : y.cps.toList.length = y.length := by rw [Array.length_toList]; rfl
  exact int_part h0 dg (fun e => by rw [e] at ne; cases ne) (by omega)
theorem v31 (ds : List D) (kd : D → Prop) (kx : Exn → Prop) (h : S_read ds kd kx) : vB 60 c31 (defBody (top 31)) (rho0 c31.N ds) (EkP kd kx) := by
  obtain ⟨d, rfl, hd, hs, hk⟩ := h
  cases d with
  | str x =>
    obtain ⟨hx, ok⟩ := hs x rfl
    have hz : 200000 < sizeLine := by rw [sizeLine_eq]; decide
    have xl : x.cps.toList.length = x.length := by rw [Array.length_toList]; rfl
    refine ⟨⟨rfl, tyOk hd⟩, ?_⟩
    have sm := starts_minus x
    have s1 : stOf x.cps.toList ≤ x.length := by
      unfold stOf
      split
      · rename_i q
        have : x.cps.toList[0]? = some 45 := eq_of_beq q
        have := (List.getElem?_eq_some_iff.mp this).1
        omega
      · omega
    have main : ∀ (st : Nat) (i : Int), i = (st : Int) → st = stOf x.cps.toList → vB 57 c31 ((defBody (top 31)).drop 3) [.val (.str x), .val (.bl (Txt.startswith x "-")), .val (.int i), .no, .no] (EkP kd kx) := by
      rintro st i rfl e0
      have hk : (match readR x.cps.toList with | .inl p => kd (frP p) | .inr e => kx ("ParseError", some ("spot", .int (e : Nat)))) := hk
      unfold readR at hk
      rw [← e0] at hk s1
      refine ⟨x, st, !(Txt.startswith x "-"), rfl, s1, by omega, ok, ?_⟩
      rw [sm]
      cases hn : nEnd (x.cps.toList.drop st) (!(x.cps.toList[0]? == some 45)) with
      | inr e =>
        rw [hn] at hk
        exact hk
      | inl e =>
        rw [hn] at hk
        have hk : (match (if st + e = x.cps.toList.length then .inl (valT x.cps.toList, 1) else if x.cps.toList[st + e]? = some 47 then readB x.cps.toList (st + e) else .inr (st + e) : (Int × Int) ⊕ Nat) with | .inl p => kd (frP p) | .inr e => kx ("ParseError", some ("spot", .int (e : Nat)))) := hk
        obtain ⟨⟨n1, n2, n3⟩, dg, _⟩ := nEnd_ok hn
        rw [List.length_drop] at n3
        refine ⟨by omega, ⟨rfl, rfl⟩, ?_⟩
        have st1 : st = if (x.cps.toList[0]? == some 45) = true then 1 else 0 := e0
        by_cases q : st + e = x.length
        · refine ifT (by rw [KM.eq_int, decide_eq_true (by omega)]) ?_
          rw [if_pos (by omega)] at hk
          have dg1 : NumText.AllDigits (x.cps.toList.drop st) := by
            rw [List.take_of_length_le (by rw [List.length_drop]; omega)] at dg
            exact dg
          refine ⟨valT x.cps.toList, int_of rfl rfl (st1 ▸ dg1) (by rw [← st1, List.length_drop]; omega) (by omega), sz2, hk⟩
        · refine ifF (by rw [KM.eq_int, decide_eq_false (by omega)]) ?_
          rw [if_neg (by omega)] at hk
          obtain ⟨c, hc⟩ : ∃ c, x.cps.toList[st + e]? = some c := ⟨_, List.getElem?_eq_getElem (by omega)⟩
          refine ⟨by omega, c, at_nat hc, ⟨str1 (sub_ok ok hc), by decide +kernel⟩, ?_⟩
          by_cases q1 : c = 47
          case neg =>
            refine ifT (by rw [eq_slash, decide_eq_false q1]; rfl) ?_
            rw [hc, if_neg (fun z => q1 (Option.some.inj z))] at hk
            exact hk
          refine ifF (by rw [eq_slash, decide_eq_true q1]; rfl) ?_
          rw [hc, if_pos (by rw [q1])] at hk
          unfold readB at hk
          refine ⟨x, st + e + 1, false, rfl, by omega, by omega, ok, ?_⟩
          cases hn2 : nEnd (x.cps.toList.drop (st + e + 1)) false with
          | inr e2 =>
            rw [hn2] at hk
            exact hk
          | inl e2 =>
            rw [hn2] at hk
            have hk : (match (if st + e + 1 + e2 < x.cps.toList.length then .inr (st + e + 1 + e2) else .inl (low (valT (x.cps.toList.take (st + e))) (valT (x.cps.toList.drop (st + e + 1)))) : (Int × Int) ⊕ Nat) with | .inl p => kd (frP p) | .inr e => kx ("ParseError", some ("spot", .int (e : Nat)))) := hk
            obtain ⟨⟨m1, m2, m3⟩, dg2, hz2⟩ := nEnd_ok hn2
            rw [List.length_drop] at m3
            refine ⟨by omega, ?_⟩
            by_cases q2 : st + e + 1 + e2 < x.length
            · refine ifT (decide_eq_true (by omega)) ?_
              rw [if_pos (by omega)] at hk
              exact hk
            · refine ifF (decide_eq_false (by omega)) ?_
              rw [if_neg (by omega)] at hk
              have dgB : NumText.AllDigits (x.cps.toList.drop (st + e + 1)) := by
                rw [List.take_of_length_le (by rw [List.length_drop]; omega)] at dg2
                exact dg2
              have lB : (x.cps.toList.drop (st + e + 1)).length = e2 := by rw [List.length_drop]; omega
              obtain ⟨b0, br, hB⟩ : ∃ b r, x.cps.toList.drop (st + e + 1) = b :: r := by
                cases hh : x.cps.toList.drop (st + e + 1) with
                | nil => rw [hh] at lB; simp at lB; omega
                | cons b r => exact ⟨b, r, rfl⟩
              have hz3 := hz2 rfl
              rw [hB] at hz3
              have hb0 := dgB b0 (by rw [hB]; exact List.mem_cons_self)
              have b49 : 49 ≤ b0 := by
                have : b0 ≠ 48 := fun z => hz3 (by rw [z]; rfl)
                omega
              have nB : ((x.cps.toList.drop (st + e + 1))[0]? == some 45) = false := by
                rw [hB]
                have : b0 ≠ 45 := by omega
                simpa using this
              have vB : valT (x.cps.toList.drop (st + e + 1)) = ((NumText.digitsVal (x.cps.toList.drop (st + e + 1)) : Nat) : Int) := valT_pos nB
              have pB : 0 < NumText.digitsVal (x.cps.toList.drop (st + e + 1)) := by rw [hB]; exact NumText.digitsVal_pos b49
              have uB : NumText.digitsVal (x.cps.toList.drop (st + e + 1)) < 2 ^ 8999 := by
                have h1 := digits_lt dgB
                rw [lB] at h1
                have h2 : (10 : Nat) ^ e2 ≤ 10 ^ 1000 := Nat.pow_le_pow_right (by decide) m2
                exact upP (big (Nat.lt_of_lt_of_le h1 h2)) (by decide)
              have e1 : (x.cps.toList.take (st + e)).drop st = (x.cps.toList.drop st).take e := by
                rw [List.drop_take]
                congr 1
                omega
              have nA : ((x.cps.toList.take (st + e))[0]? == some 45) = (x.cps.toList[0]? == some 45) := by
                rw [List.getElem?_take_of_lt (by omega)]
              have iA : intOf (L2.cutS x none (some ((st + e : Nat) : Int))) (valT (x.cps.toList.take (st + e))) := by
                refine int_of (cut_l x _ (by omega)) nA ?_ ?_ (by rw [List.length_take]; omega)
                · rw [← st1, e1]; exact dg
                · rw [← st1, e1, List.length_take, List.length_drop]; omega
              have iB : intOf (L2.cutS x (some ((st + e + 1 : Nat) : Int)) none) (valT (x.cps.toList.drop (st + e + 1))) :=
                int_of (cut_r x _ (by omega)) nB dgB (by show 0 < (x.cps.toList.drop (st + e + 1)).length; omega) (by omega)
              refine ⟨by omega, _, iA, by omega, _, iB, _, _, rfl, ?_, ?_, hk⟩
              · rw [vB]; omega
              · rw [vB]; exact uB
    have hk0 := hk
    cases hb : (x.cps.toList[0]? == some 45) with
    | true =>
      refine ifT (sm.trans hb) ?_
      exact main 1 1 rfl (by unfold stOf; rw [hb]; rfl)
    | false =>
      refine ifF (sm.trans hb) ?_
      exact main 0 0 rfl (by unfold stOf; rw [hb]; rfl)
  | fn x => cases hd
  | ty x => cases hd
  | _ => exact ⟨⟨rfl, tyOk hd⟩, hk⟩
end K01
set_option Elab.async false
set_option linter.all false
set_option maxRecDepth 100000
set_option maxHeartbeats 2000000
set_option exponentiation.threshold 9500
namespace K01
open PySem PySem.Spec PyProof.Rows L2 DL KM TX
@[irreducible] def no10 : List D := [.lst [.str "a"], .tup [.str "b", .str "a"], .tup [.str "a", .str "a"], .tup [.str "A"], .tup [.str "a", .int 1], .str "a", .non, .tup [.str "a", .str ""], .int 3, .tup [.tup [.str "a"]]]
def S_nolot : DSpec := fun l ds k => ∃ n : Nat, ds = [] ∧ Dice n l ∧ n ≤ 900000 ∧ ∀ (d : D) (l' : List D), d ∈ no10 → Dice (n + 1) l' → k d l'
def gs20 : List (Str × Gk) := ("_law_no_lot", .df 3 S_nolot 0) :: gs19
def c40 : Ci := ⟨["_law_dice_here"], defScope (top 40), 2, gs19, [], none, []⟩
theorem v40 (l ds : List D) (kd : D → List D → Prop) (h : S_nolot l ds kd) : vB 40 c40 (defBody (top 40)) (rhoD c40.N l ds) (EkD kd) := by
  obtain ⟨n, rfl, hD, hn, hk⟩ := h
  have hz : 200000 < sizeLine := by rw [sizeLine_eq]; decide
  refine ⟨sz1, sz2, sz2, sz1, sz2, sz2, sz1, sz1, by show 10 ≤ sizeLine; omega, ?_⟩
  refine ⟨n, _, rfl, hD, by omega, by show 1 ≤ 10; decide, by show 10 < 2 ^ 60; decide, fun d l1 hd hD1 => ⟨l1, rfl, hk d l1 (by unfold no10; exact hd) hD1⟩⟩
/-- none of these is a lot; all are small -/
theorem no10_ok : ∀ d ∈ no10, isLt d = false ∧ smallL d := by
  have sm : ∀ d : D, isPy d = true → (∀ l, d = .tup l → l.length ≤ 1000 ∧ (l.all fun x => match x with | .str y => decide (y.length ≤ 1000) && PyData.strOk y | _ => true) = true) → smallL d := fun d h1 h2 => ⟨h1, fun l e => ⟨(h2 l e).1, fun x hx => by
    have := List.all_eq_true.mp (h2 l e).2 _ hx
    obtain ⟨a, b⟩ := Bool.and_eq_true_iff.mp this
    exact ⟨of_decide_eq_true a, b⟩⟩⟩
  intro d hd
  unfold no10 at hd
  simp only [List.mem_cons, List.not_mem_nil, or_false] at hd
  rcases hd with rfl | rfl | rfl | rfl | rfl | rfl | rfl | rfl | rfl | rfl
  all_goals refine ⟨by decide +kernel, sm _ rfl fun l e => ?_⟩
  all_goals first | (cases e; done) | (cases e; exact ⟨by decide, by decide +kernel⟩)
end K01
set_option Elab.async false
set_option linter.all false
set_option maxRecDepth 100000
set_option maxHeartbeats 2000000
set_option exponentiation.threshold 9500
namespace K01
open PySem PySem.Spec PyProof.Rows L2 DL KM TX
/-- a text that the law draws: so many signs at most -/
structure TxtD (b : Nat) (x : Str) : Prop where
  len : x.length ≤ b
  ok : PyData.strOk x = true
theorem ok_app {x y : Str} (h1 : PyData.strOk x = true) (h2 : PyData.strOk y = true) : PyData.strOk (x ++ y) = true := by
  unfold PyData.strOk at *
  show (x.cps ++ y.cps).all _ = true
  rw [Array.all_append, h1, h2]; rfl
theorem ok_str (s : String) : PyData.strOk (Str.ofString s) = true := by
  unfold PyData.strOk
  rw [Array.all_eq_true_iff_forall_mem]
  intro c hc
  have : c ∈ (Str.ofString s).cps.toList := Array.mem_toList_iff.mpr hc
  rw [signs_ofString] at this
  obtain ⟨ch, _, rfl⟩ := List.mem_map.mp this
  refine decide_eq_true ?_
  have := ch.valid
  rcases this with h | ⟨_, h⟩
  · have : ch.toNat < 0xd800 := h
    omega
  · exact h
theorem numT_len {i : Int} {k : Nat} (h0 : 0 < k) (h : i.natAbs < 10 ^ k) : (numT i).length ≤ k + 1 := by
  unfold numT
  rw [PySem.ofString_length]
  exact int_text_length_le10 h0 h
theorem numD {i : Int} {k : Nat} (h0 : 0 < k) (h : i.natAbs < 10 ^ k) : TxtD (k + 1) (numT i) := ⟨numT_len h0 h, ok_str _⟩
theorem log_small {i : Int} (h : i.natAbs < 10 ^ 40) : i.natAbs.log2 < 1920 := by
  by_cases z : i.natAbs = 0
  · rw [z]; decide
  · have := (Nat.log2_lt z (k := 1920)).mpr (Nat.lt_trans h (by decide +kernel))
    exact this
def S_text : DSpec := fun l ds k => ∃ n : Nat, ds = [] ∧ Dice n l ∧ n ≤ 800000 ∧ ∀ (x : Str) (l' : List D), TxtD 40 x → Dice (n + 10) l' → k (.str x) l'
def gs21 : List (Str × Gk) := ("_law_text", .df 3 S_text 0) :: gs20
def c48 : Ci := ⟨["_law_dice_here", "_law_text_here"], defScope (top 48), 2, gs20, [], none, []⟩
theorem v48 (l ds : List D) (kd : D → List D → Prop) (h : S_text l ds kd) : vB 40 c48 (defBody (top 48)) (rhoD c48.N l ds) (EkD kd) := by
  obtain ⟨n, rfl, hD, hn, hk⟩ := h
  have hz : 200000 < sizeLine := by rw [sizeLine_eq]; decide
  refine ⟨⟨by decide, by decide +kernel⟩, by show 4 ≤ sizeLine; omega, ?_⟩
  refine ⟨n, _, rfl, hD, by omega, by show 1 ≤ 4; decide, by show 4 < 2 ^ 60; decide, fun d l1 hd hD1 => ?_⟩
  obtain ⟨m, rfl, m1, m2⟩ : ∃ m, d = .int m ∧ 1 ≤ m ∧ m ≤ 10 ^ 30 := by
    simp only [List.mem_cons, List.not_mem_nil, or_false] at hd
    rcases hd with rfl | rfl | rfl | rfl <;> exact ⟨_, rfl, by decide +kernel, by decide +kernel⟩
  refine ⟨n + 1, m, rfl, hD1, by omega, m1, by omega, fun r l2 r0 r1 hD2 => ?_⟩
  have rB : r.natAbs < 10 ^ 31 := by omega
  have rC : r.natAbs < 10 ^ 40 := Nat.lt_trans rB (by decide)
  have t0 := numD (i := r) (k := 31) (by decide) rB
  refine ⟨log_small rC, ?_⟩
  have ending : ∀ (x : Str) (l3 : List D), TxtD 33 x → Dice (n + 3) l3 → vB 36 c48 ((defBody (top 48)).drop 2) [.io l3, .val (.str x)] (EkD kd) := fun x l3 hx hD3 => by
    refine ⟨n + 3, 3, rfl, hD3, by omega, by decide, by decide, fun q l4 q0 q1 hD4 => ?_⟩
    refine ⟨⟨rfl, rfl⟩, ?_⟩
    by_cases qz : q = 0
    · refine ifT (by rw [KM.eq_int, decide_eq_true qz]) ?_
      exact ⟨l4, rfl, hk x l4 ⟨Nat.le_trans hx.len (by decide), hx.ok⟩ (hD4.mono (by omega))⟩
    · refine ifF (by rw [KM.eq_int, decide_eq_false qz]) ?_
      have l1 : ("/" : Str).length = 1 := rfl
      have a1 : (x ++ ("/" : Str)).length ≤ 34 := by rw [app_len]; have := hx.len; omega
      refine ⟨by have := hx.len; omega, sz2, ?_⟩
      refine ⟨n + 3 + 1, _, rfl, hD4, by omega, by show 1 ≤ 2; decide, by show 2 < 2 ^ 60; decide, fun d l5 hd hD5 => ?_⟩
      obtain ⟨m, rfl, m1, m2⟩ : ∃ m, d = .int m ∧ 1 ≤ m ∧ m ≤ 600 := by
        simp only [List.mem_cons, List.not_mem_nil, or_false] at hd
        rcases hd with rfl | rfl <;> exact ⟨_, rfl, by decide +kernel, by decide +kernel⟩
      refine ⟨n + 3 + 1 + 1, m, rfl, hD5, by omega, m1, by omega, fun b l6 b0 b1 hD6 => ?_⟩
      have bB : (1 + b).natAbs < 10 ^ 3 := by omega
      have t1 := numD (i := 1 + b) (k := 3) (by decide) bB
      have tl := t1.len
      refine ⟨log_small (Nat.lt_trans bB (by decide)), ?_⟩
      have a2 : (x ++ ("/" : Str)).length + (numT (1 + b)).length ≤ 40 := by omega
      refine ⟨Nat.le_trans a2 (by omega), l6, rfl, hk _ l6 ⟨by rw [app_len]; exact a2, ok_app (ok_app hx.ok (by decide +kernel)) t1.ok⟩ (hD6.mono (by omega))⟩
  refine ⟨n + 1 + 1, 3, rfl, hD2, by omega, by decide, by decide, fun q l3 q0 q1 hD3 => ?_⟩
  refine ⟨⟨rfl, rfl⟩, ?_⟩
  by_cases qz : q = 0
  · refine ifT (by rw [KM.eq_int, decide_eq_true qz]) ?_
    refine ⟨⟨shp_str t0.ok, by decide +kernel⟩, ?_⟩
    cases he : !eqD (.str (numT r)) (.str "0") with
    | false => exact ifF he (ending (numT r) l3 ⟨Nat.le_trans t0.len (by decide), t0.ok⟩ (hD3.mono (by omega)))
    | true =>
      refine ifT he ?_
      have l1 : ("-" : Str).length = 1 := rfl
      have tl := t0.len
      refine ⟨by show 1 + (numT r).length ≤ sizeLine; omega, ?_⟩
      exact ending (("-" : Str) ++ numT r) l3 ⟨by rw [app_len]; omega, ok_app (by decide +kernel) t0.ok⟩ (hD3.mono (by omega))
  · refine ifF (by rw [KM.eq_int, decide_eq_false qz]) ?_
    exact ending (numT r) l3 ⟨Nat.le_trans t0.len (by decide), t0.ok⟩ (hD3.mono (by omega))
end K01
set_option Elab.async false
set_option linter.all false
set_option maxRecDepth 100000
set_option maxHeartbeats 2000000
set_option exponentiation.threshold 9500
namespace K01
open PySem PySem.Spec PyProof.Rows L2 DL KM TX
def rowB (l : List Nat) : Bool := !l.isEmpty && l.all isDg
def S_row : PSpec := fun ds kd _ => ∃ x : Str, ds = [.str x] ∧ x.length ≤ 1000 ∧ PyData.strOk x = true ∧ kd (.bl (rowB x.cps.toList))
def gs22 : List (Str × Gk) := ("_law_is_row", .pf 1 S_row 1 []) :: gs21
def c43 : Ci := ⟨["_law_text_here", "_law_sign"], defScope (top 43), 0, gs21, [], none, [("_law_sign", 2)]⟩
theorem eq_empty (x : Str) : eqD (.str x) (.str "") = x.cps.toList.isEmpty := by
  show (x == ("" : Str)) = _
  obtain ⟨⟨l⟩⟩ := x
  cases l with
  | nil => rfl
  | cons a r =>
    refine beq_eq_false_iff_ne.mpr fun e => ?_
    have e2 : (⟨a :: r⟩ : Array Nat) = #[] := congrArg Str.cps e
    have e3 : a :: r = [] := congrArg Array.toList e2
    cases e3
theorem eq_nilD (l : List D) : eqD (.lst l) (.lst []) = l.isEmpty := by
  cases l <;> rfl
theorem v43 (ds : List D) (kd : D → Prop) (kx : Exn → Prop) (h : S_row ds kd kx) : vB 40 c43 (defBody (top 43)) (rho0 c43.N ds) (EkP kd kx) := by
  obtain ⟨x, rfl, hx, ok, hk⟩ := h
  have e : rowB x.cps.toList = (!x.cps.toList.isEmpty && x.cps.toList.all isDg) := rfl
  rw [e] at hk
  refine ⟨⟨shp_str ok, by decide +kernel⟩, ?_⟩
  cases he : x.cps.toList.isEmpty with
  | true =>
    rw [he] at hk
    refine ifF ?_ hk
    rw [eq_empty, he]; rfl
  | false =>
    rw [he] at hk
    refine ifT ?_ ?_
    · rw [eq_empty, he]; rfl
    have sl : (DL.signs x).length = x.length := by unfold DL.signs; rw [List.length_map, Array.length_toList]; rfl
    refine vcl_filt (fun d => match d with | .str y => !inT y digs | _ => false) (fun d => d) (by rw [sl]; exact hx) ⟨by decide, (by show 1 < 2; decide), rfl⟩ (fun d hm K hK => ?_) (fun d hm K hK => hK) (fun d => ⟨rfl, rfl⟩) ?_
    · unfold DL.signs at hm
      obtain ⟨c, _, rfl⟩ := List.mem_map.mp hm
      exact hK
    · have ef : ((DL.signs x).filter (fun d => match d with | .str y => !inT y digs | _ => false)).map (fun d => d) = ((x.cps.toList.filter fun c => !isDg c).map fun c => (⟨#[c]⟩ : Str)).map D.str := by
        rw [List.map_id', DL.signs, List.filter_map, List.map_map]
        rfl
      rw [ef]
      have okc : ((x.cps.toList.filter fun c => !isDg c).map fun c => (⟨#[c]⟩ : Str)).all PyData.strOk = true := by
        rw [List.all_map]
        refine List.all_eq_true.mpr fun c hc => ?_
        obtain ⟨i, hi⟩ := List.mem_iff_getElem?.mp ((List.mem_filter.mp hc).1)
        have := sub_ok ok hi
        show PyData.strOk ⟨#[c]⟩ = true
        unfold PyData.strOk
        simp [this]
      refine ⟨Nat.zero_le _, ⟨shp_lstrs okc, rfl⟩, ?_⟩
      refine (congrArg kd (congrArg D.bl ?_)).mp hk
      rw [eq_nilD]
      show x.cps.toList.all isDg = _
      generalize x.cps.toList = l
      induction l with
      | nil => rfl
      | cons c r ih =>
        rw [List.all_cons, ih]
        cases hc : isDg c with
        | true => rw [List.filter_cons_of_neg (by rw [hc]; decide)]; rfl
        | false => rw [List.filter_cons_of_pos (by rw [hc]; rfl)]; rfl
end K01
set_option Elab.async false
set_option linter.all false
set_option maxRecDepth 100000
set_option maxHeartbeats 2000000
set_option exponentiation.threshold 9500
namespace K01
open PySem PySem.Spec PyProof.Rows L2 DL KM TX
/-! ### a text cut at a sign -/
def splitL (c : Nat) : List Nat → List (List Nat)
  | [] => [[]]
  | a :: r => if a = c then [] :: splitL c r else match splitL c r with
    | p :: q => (a :: p) :: q
    | [] => [[a]]
theorem splitL_ne (c : Nat) : ∀ l, ∃ p q, splitL c l = p :: q
  | [] => ⟨[], [], rfl⟩
  | a :: r => by
    obtain ⟨p, q, e⟩ := splitL_ne c r
    unfold splitL
    rw [e]
    split
    · exact ⟨_, _, rfl⟩
    · exact ⟨_, _, rfl⟩
theorem splitL_app {c : Nat} : ∀ {p : List Nat}, c ∉ p → ∀ r, splitL c (p ++ c :: r) = p :: splitL c r
  | [], _, r => by
    show (if c = c then _ else _) = _
    rw [if_pos rfl]
  | a :: p, h, r => by
    have ha : a ≠ c := fun e => h (by rw [e]; exact List.mem_cons_self)
    have ih := splitL_app (c := c) (p := p) (fun z => h (List.mem_cons_of_mem _ z)) r
    show (if a = c then [] :: splitL c (p ++ c :: r) else match splitL c (p ++ c :: r) with | p :: q => (a :: p) :: q | [] => [[a]]) = _
    rw [if_neg ha, ih]
theorem splitL_free {c : Nat} : ∀ {p : List Nat}, c ∉ p → splitL c p = [p]
  | [], _ => rfl
  | a :: p, h => by
    have ha : a ≠ c := fun e => h (by rw [e]; exact List.mem_cons_self)
    have ih := splitL_free (c := c) (p := p) fun z => h (List.mem_cons_of_mem _ z)
    show (if a = c then [] :: splitL c p else match splitL c p with | p :: q => (a :: p) :: q | [] => [[a]]) = _
    rw [if_neg ha, ih]
theorem app_list' (x y : Str) : (x ++ y).cps.toList = x.cps.toList ++ y.cps.toList := by
  show (x.cps ++ y.cps).toList = _
  exact Array.toList_append
theorem split_join {c : Nat} : ∀ {ps : List Str}, ps ≠ [] → (∀ p ∈ ps, c ∉ p.cps.toList) → splitL c (Str.join ⟨#[c]⟩ ps).cps.toList = ps.map fun p => p.cps.toList
  | [], h, _ => absurd rfl h
  | [p], _, h => by
    show splitL c p.cps.toList = [p.cps.toList]
    exact splitL_free (h p List.mem_cons_self)
  | p :: q :: r, _, h => by
    have ih := split_join (c := c) (ps := q :: r) (by simp) fun z hz => h z (List.mem_cons_of_mem _ hz)
    show splitL c (p ++ ⟨#[c]⟩ ++ Str.join ⟨#[c]⟩ (q :: r)).cps.toList = p.cps.toList :: (q :: r).map fun p => p.cps.toList
    rw [app_list', app_list', List.append_assoc]
    show splitL c (p.cps.toList ++ c :: (Str.join ⟨#[c]⟩ (q :: r)).cps.toList) = _
    rw [splitL_app (h p List.mem_cons_self), ih]
theorem split_ne (x y : Str) : Txt.split x y ≠ [] := by
  unfold Txt.split
  split
  · simp
  · split
    · simp
    · rw [StrLaws.partsBetween_eq]
      obtain ⟨p, r, e⟩ := StrLaws.partsFrom_ne x y.length 0 (Builtin.Str.occurrences x y 0 x.length (x.length + 1))
      rw [e]
      simp
/-- the parts of a text, as lists of signs -/
theorem split_one (x : Str) (c : Nat) : (Txt.split x ⟨#[c]⟩).map (fun p => p.cps.toList) = splitL c x.cps.toList := by
  have h := split_join (c := c) (ps := Txt.split x ⟨#[c]⟩) (split_ne x _) (StrLaws.split_free x c)
  rw [StrLaws.join_split] at h
  exact h.symm
end K01
set_option Elab.async false
set_option linter.all false
set_option maxRecDepth 100000
set_option maxHeartbeats 2000000
set_option exponentiation.threshold 9500
namespace K01
open PySem PySem.Spec PyProof.Rows L2 DL KM TX
theorem splitL_in {c : Nat} : ∀ (l : List Nat) (p : List Nat), p ∈ splitL c l → p.length ≤ l.length ∧ ∀ z ∈ p, z ∈ l
  | [], p, h => by
    have : p = [] := by simpa [splitL] using h
    subst this
    exact ⟨Nat.le_refl _, fun z hz => by cases hz⟩
  | a :: r, p, h => by
    have ih := splitL_in (c := c) r
    obtain ⟨u, v, e⟩ := splitL_ne c r
    rw [e] at ih
    unfold splitL at h
    rw [e] at h
    split at h
    · rcases List.mem_cons.mp h with rfl | h
      · exact ⟨Nat.zero_le _, fun z hz => by cases hz⟩
      · obtain ⟨h1, h2⟩ := ih p h
        exact ⟨Nat.le_succ_of_le h1, fun z hz => List.mem_cons_of_mem _ (h2 z hz)⟩
    · rcases List.mem_cons.mp h with rfl | h
      · obtain ⟨h1, h2⟩ := ih u List.mem_cons_self
        refine ⟨by rw [List.length_cons, List.length_cons]; omega, fun z hz => ?_⟩
        rcases List.mem_cons.mp hz with rfl | hz
        · exact List.mem_cons_self
        · exact List.mem_cons_of_mem _ (h2 z hz)
      · obtain ⟨h1, h2⟩ := ih p (List.mem_cons_of_mem _ h)
        exact ⟨Nat.le_succ_of_le h1, fun z hz => List.mem_cons_of_mem _ (h2 z hz)⟩
theorem part_ok {x p : Str} {c : Nat} (h : p ∈ Txt.split x ⟨#[c]⟩) (ok : PyData.strOk x = true) : p.length ≤ x.length ∧ PyData.strOk p = true := by
  have m : p.cps.toList ∈ splitL c x.cps.toList := by rw [← split_one]; exact List.mem_map.mpr ⟨p, h, rfl⟩
  obtain ⟨h1, h2⟩ := splitL_in _ _ m
  rw [Array.length_toList, Array.length_toList] at h1
  refine ⟨h1, ?_⟩
  unfold PyData.strOk at ok ⊢
  rw [Array.all_eq_true_iff_forall_mem] at ok ⊢
  exact fun z hz => ok z (Array.mem_toList_iff.mp (h2 z (Array.mem_toList_iff.mpr hz)))
/-- whether the text of some fraction begins with a text, by its parts -/
def beginP (x rest p : Str) (r : List Str) : Bool :=
  if p.cps.toList.isEmpty = true then r.isEmpty else
  if (!rowB p.cps.toList || decide (1000 < p.length)) = true then false else
  if ((p.cps.toList[0]? == some 48) && (decide (1 < p.length) || !decide (rest = x))) = true then false else
  match r with
  | [] => true
  | q :: _ => if q.cps.toList.isEmpty = true then true else rowB q.cps.toList && (!(q.cps.toList[0]? == some 48) && decide (q.length ≤ 1000))
def restS (x : Str) : Str := if (x.cps.toList[0]? == some 45) = true then L2.cutS x (some 1) none else x
def beginS (x : Str) : Bool := match Txt.split (restS x) "/" with
  | [p] => beginP x (restS x) p []
  | [p, q] => beginP x (restS x) p [q]
  | _ => false
def S_begin : PSpec := fun ds kd _ => ∃ x : Str, ds = [.str x] ∧ x.length ≤ 900 ∧ PyData.strOk x = true ∧ kd (.bl (beginS x))
def gs23 : List (Str × Gk) := ("_law_can_begin", .pf 2 S_begin 1 []) :: gs22
def c44 : Ci := ⟨["_law_text_here", "_law_rest", "_law_parts"], defScope (top 44), 1, gs22, [], none, []⟩
theorem one_cut (x : Str) (n : Nat) : eqD (.str (L2.cutS x none (some 1))) (.str ⟨#[n]⟩) = (x.cps.toList[0]? == some n) := by
  have e : L2.cutS x none (some 1) = ⟨(x.cps.toList.take (min 1 x.length)).toArray⟩ := by
    unfold L2.cutS
    rw [HT.sIx_none, show (some (1 : Int)) = some ((1 : Nat) : Int) from rfl, HT.sIx_nat, List.drop_zero, Nat.sub_zero]
  rw [e]
  show ((⟨(x.cps.toList.take (min 1 x.length)).toArray⟩ : Str) == (⟨#[n]⟩ : Str)) = _
  have xl : x.cps.toList.length = x.length := by rw [Array.length_toList]; rfl
  generalize x.cps.toList = l at *
  rw [← xl]
  cases l with
  | nil => rfl
  | cons a r =>
    rw [show min 1 (a :: r).length = 1 by rw [List.length_cons]; omega]
    show ((⟨#[a]⟩ : Str) == ⟨#[n]⟩) = (some a == some n)
    by_cases q : a = n
    · subst q; simp
    · have e1 : (some a == some n) = false := by simpa using q
      rw [e1]
      refine beq_eq_false_iff_ne.mpr fun e => q ?_
      have e2 : (#[a] : Array Nat) = #[n] := congrArg Str.cps e
      simpa using e2
theorem ok_cut {x : Str} (ok : PyData.strOk x = true) (lo hi : Option Int) : PyData.strOk (L2.cutS x lo hi) = true := by
  unfold PyData.strOk at ok ⊢
  rw [Array.all_eq_true_iff_forall_mem] at ok ⊢
  intro c hc
  have : c ∈ (L2.cutS x lo hi).cps.toList := Array.mem_toList_iff.mpr hc
  unfold L2.cutS at this
  exact ok c (Array.mem_toList_iff.mp (List.mem_of_mem_drop (List.mem_of_mem_take this)))
theorem eq_strs (x y : Str) : eqD (.str x) (.str y) = decide (x = y) := by
  show (x == y) = _
  by_cases h : x = y
  · rw [decide_eq_true h]; simpa using h
  · rw [decide_eq_false h]; simpa using h
abbrev st44 (x rest : Str) (ps : List Str) : Rho := [.val (.str x), .val (.str rest), .val (.lst (ps.map .str))]
theorem at1S {p q : Str} {r : List Str} : atI ((p :: q :: r).map D.str) 1 = some (.str q) := at_nat (i := 1) rfl
theorem at0S {p : Str} {r : List Str} : atI ((p :: r).map D.str) 0 = some (.str p) := at0
theorem first_of {p : Str} (he : p.cps.toList.isEmpty = false) : ∃ c, p.cps.toList[0]? = some c := by
  cases hp : p.cps.toList with
  | nil => rw [hp] at he; cases he
  | cons c r => exact ⟨c, rfl⟩
theorem some_beq {c : Nat} : (some c == some 48) = decide (c = 48) := by
  by_cases h : c = 48
  · subst h; rfl
  · rw [decide_eq_false h]
    simpa using h
def tail7 (q : Str) : Bool := rowB q.cps.toList && (!(q.cps.toList[0]? == some 48) && decide (q.length ≤ 1000))
theorem v44_7 {x rest p q : Str} {kd : D → Prop} {kx : Exn → Prop} (ql : q.length ≤ 900) (qo : PyData.strOk q = true) (hk : kd (.bl (tail7 q))) :
    vB 53 c44 ((defBody (top 44)).drop 7) (st44 x rest [p, q]) (EkP kd kx) := by
  have hz : 200000 < sizeLine := by rw [sizeLine_eq]; decide
  refine ⟨_, at1S, q, rfl, by omega, qo, ?_⟩
  unfold tail7 at hk
  cases hrow : rowB q.cps.toList with
  | false => rw [hrow] at hk; exact hk
  | true =>
    rw [hrow] at hk
    have he : q.cps.toList.isEmpty = false := by
      cases h : q.cps.toList.isEmpty with
      | false => rfl
      | true => unfold rowB at hrow; rw [h] at hrow; cases hrow
    obtain ⟨c, hc⟩ := first_of he
    refine ⟨_, at1S, by omega, c, at_nat (i := 0) hc, ⟨str1 (sub_ok qo hc), by decide +kernel⟩, ?_⟩
    rw [hc, some_beq] at hk
    by_cases h0 : c = 48
    · rw [decide_eq_true h0] at hk
      refine ifF (by rw [eq_zero, decide_eq_true h0]; rfl) ?_
      exact hk
    · rw [decide_eq_false h0] at hk
      refine ifT (by rw [eq_zero, decide_eq_false h0]; rfl) ?_
      refine ⟨_, at1S, by omega, ?_⟩
      refine (congrArg kd (congrArg D.bl ?_)).mp hk
      show decide (q.length ≤ 1000) = decide ((q.length : Int) ≤ 1000)
      exact decide_eq_decide.mpr (by omega)
def rest6 (r : List Str) : Bool := match r with
  | [] => true
  | q :: _ => if q.cps.toList.isEmpty = true then true else tail7 q
theorem v44_6 {x rest p : Str} {r : List Str} {kd : D → Prop} {kx : Exn → Prop} (hr : r.length ≤ 1) (ok : ∀ q ∈ r, q.length ≤ 900 ∧ PyData.strOk q = true) (hk : kd (.bl (rest6 r))) :
    vB 54 c44 ((defBody (top 44)).drop 6) (st44 x rest (p :: r)) (EkP kd kx) := by
  refine ⟨⟨rfl, rfl⟩, ?_⟩
  match r, hr, ok, hk with
  | [], _, _, hk => exact ifT (by rw [KM.eq_int]; rfl) hk
  | [q], _, ok, hk =>
    obtain ⟨ql, qo⟩ := ok q List.mem_cons_self
    refine ifF (by rw [KM.eq_int]; rfl) ?_
    refine ⟨_, at1S, ⟨shp_str qo, by decide +kernel⟩, ?_⟩
    have hk : kd (.bl (if q.cps.toList.isEmpty = true then true else tail7 q)) := hk
    cases he : q.cps.toList.isEmpty with
    | true =>
      rw [he] at hk
      exact ifT ((eq_empty q).trans he) hk
    | false =>
      rw [he] at hk
      refine ifF ((eq_empty q).trans he) ?_
      exact v44_7 ql qo hk
theorem v44_5 {x rest p : Str} {r : List Str} {kd : D → Prop} {kx : Exn → Prop} (hr : r.length ≤ 1) (ok : ∀ q ∈ p :: r, q.length ≤ 900 ∧ PyData.strOk q = true) (xo : PyData.strOk x = true) (ro : PyData.strOk rest = true) (he : p.cps.toList.isEmpty = false)
    (hk : kd (.bl (if ((p.cps.toList[0]? == some 48) && (decide (1 < p.length) || !decide (rest = x))) = true then false else rest6 r))) :
    vB 55 c44 ((defBody (top 44)).drop 5) (st44 x rest (p :: r)) (EkP kd kx) := by
  have hz : 200000 < sizeLine := by rw [sizeLine_eq]; decide
  obtain ⟨pl, po⟩ := ok p List.mem_cons_self
  obtain ⟨c, hc⟩ := first_of he
  have go := v44_6 (x := x) (rest := rest) (p := p) (kd := kd) (kx := kx) hr fun q hq => ok q (List.mem_cons_of_mem _ hq)
  refine ⟨_, at0S, by omega, c, at_nat (i := 0) hc, ⟨str1 (sub_ok po hc), by decide +kernel⟩, ?_⟩
  rw [hc, some_beq] at hk
  by_cases h0 : c = 48
  · refine ifT (by rw [eq_zero, decide_eq_true h0]) ?_
    rw [decide_eq_true h0] at hk
    refine ⟨_, at0S, by omega, ?_⟩
    by_cases h1 : 1 < p.length
    · rw [decide_eq_true h1] at hk
      exact ifT (decide_eq_true (by omega)) hk
    · rw [decide_eq_false h1] at hk
      refine ifF (decide_eq_false (by omega)) ⟨⟨shp_str ro, shp_str xo⟩, ?_⟩
      by_cases h2 : rest = x
      · rw [decide_eq_true h2] at hk
        refine ifF (by rw [eq_strs, decide_eq_true h2]; rfl) ?_
        exact go hk
      · rw [decide_eq_false h2] at hk
        exact ifT (by rw [eq_strs, decide_eq_false h2]; rfl) hk
  · rw [decide_eq_false h0] at hk
    refine ifF (by rw [eq_zero, decide_eq_false h0]) ?_
    exact go hk
theorem v44_2 {x rest p : Str} {r : List Str} {kd : D → Prop} {kx : Exn → Prop} (hr : r.length ≤ 1) (ok : ∀ q ∈ p :: r, q.length ≤ 900 ∧ PyData.strOk q = true) (xo : PyData.strOk x = true) (ro : PyData.strOk rest = true)
    (hk : kd (.bl (beginP x rest p r))) : vB 58 c44 ((defBody (top 44)).drop 2) (st44 x rest (p :: r)) (EkP kd kx) := by
  have hz : 200000 < sizeLine := by rw [sizeLine_eq]; decide
  obtain ⟨pl, po⟩ := ok p List.mem_cons_self
  unfold beginP at hk
  refine ifF (decide_eq_false (by rw [List.length_map, List.length_cons]; omega)) ?_
  refine ⟨_, at0S, ⟨shp_str po, by decide +kernel⟩, ?_⟩
  cases he : p.cps.toList.isEmpty with
  | true =>
    rw [he, if_pos rfl] at hk
    refine ifT ((eq_empty p).trans he) ⟨⟨rfl, rfl⟩, ?_⟩
    refine (congrArg kd (congrArg D.bl ?_)).mp hk
    rw [KM.eq_int, List.length_map, List.length_cons]
    cases r with
    | nil => rfl
    | cons q s =>
      rw [decide_eq_false (by rw [List.length_cons]; omega)]
      rfl
  | false =>
    rw [he, if_neg Bool.false_ne_true] at hk
    refine ifF ((eq_empty p).trans he) ?_
    refine ⟨_, at0S, p, rfl, by omega, po, ?_⟩
    cases hrow : rowB p.cps.toList with
    | false =>
      rw [hrow] at hk
      exact hk
    | true =>
      rw [hrow] at hk
      refine ⟨_, at0S, by omega, ?_⟩
      refine ifF (decide_eq_false (by omega)) ?_
      rw [decide_eq_false (by omega), if_neg (show ¬ (!true || false) = true by decide)] at hk
      exact v44_5 hr ok xo ro he hk
theorem v44_big {x rest p q u : Str} {r : List Str} {kd : D → Prop} {kx : Exn → Prop} (hk : kd (.bl false)) : vB 58 c44 ((defBody (top 44)).drop 2) (st44 x rest (p :: q :: u :: r)) (EkP kd kx) := by
  refine ifT (decide_eq_true ?_) hk
  rw [List.length_map, List.length_cons, List.length_cons, List.length_cons]
  omega
theorem v44_1 {x rest : Str} {kd : D → Prop} {kx : Exn → Prop} (rl : rest.length ≤ 900) (xo : PyData.strOk x = true) (ro : PyData.strOk rest = true)
    (hk : kd (.bl (match Txt.split rest "/" with | [p] => beginP x rest p [] | [p, q] => beginP x rest p [q] | _ => false))) : vB 59 c44 ((defBody (top 44)).drop 1) [.val (.str x), .val (.str rest), .no] (EkP kd kx) := by
  have hz : 200000 < sizeLine := by rw [sizeLine_eq]; decide
  refine ⟨⟨rfl, by omega⟩, ?_⟩
  have spne := split_ne rest "/"
  have pk : ∀ p ∈ Txt.split rest "/", p.length ≤ 900 ∧ PyData.strOk p = true := fun p hp => by
    obtain ⟨h1, h2⟩ := part_ok (x := rest) (p := p) (c := 47) hp ro
    exact ⟨by omega, h2⟩
  generalize Txt.split rest "/" = ps at hk spne pk ⊢
  match ps, spne, pk, hk with
  | [], h, _, _ => exact absurd rfl h
  | [p], _, pk, hk => exact v44_2 (Nat.zero_le _) pk xo ro hk
  | [p, q], _, pk, hk => exact v44_2 (Nat.le_refl _) pk xo ro hk
  | p :: q :: u :: r, _, _, hk => exact v44_big hk
theorem v44 (ds : List D) (kd : D → Prop) (kx : Exn → Prop) (h : S_begin ds kd kx) : vB 60 c44 (defBody (top 44)) (rho0 c44.N ds) (EkP kd kx) := by
  obtain ⟨x, rfl, hx, ok, hk⟩ := h
  have hz : 200000 < sizeLine := by rw [sizeLine_eq]; decide
  have rl : (restS x).length ≤ x.length ∧ PyData.strOk (restS x) = true := by
    unfold restS
    split
    · exact ⟨cutS_length x _ _, ok_cut ok _ _⟩
    · exact ⟨Nat.le_refl _, ok⟩
  have main := v44_1 (x := x) (rest := restS x) (kd := kd) (kx := kx) (by omega) ok rl.2 hk
  refine ⟨by omega, ⟨shp_str (ok_cut ok _ _), by decide +kernel⟩, ?_⟩
  have e0 : eqD (.str (L2.cutS x none (some 1))) (.str "-") = (x.cps.toList[0]? == some 45) := one_cut x 45
  unfold restS at main
  cases hb : (x.cps.toList[0]? == some 45) with
  | true =>
    rw [hb, if_pos rfl] at main
    exact ifT (e0.trans hb) ⟨by omega, main⟩
  | false =>
    rw [hb, if_neg Bool.false_ne_true] at main
    exact ifF (e0.trans hb) main
end K01
set_option Elab.async false
set_option linter.all false
set_option maxRecDepth 100000
set_option maxHeartbeats 1000000
set_option exponentiation.threshold 9500
namespace K01
open PySem PySem.Spec PyProof.Rows L2 DL KM TX
def tryBody : List Stmt → List Stmt
  | [.Try b _ _ _ _] => b
  | _ => []
/-- what the try gives: what is read, in a list by itself, or what its error keeps -/
def toldL (l : List Nat) : D := match readR l with
  | .inl p => .lst [frP p]
  | .inr e => .int (e : Nat)
def toldD : D → D
  | .str x => toldL x.cps.toList
  | _ => .non
def S_told : PSpec := fun ds kd _ => ∃ d, ds = [d] ∧ isPy d = true ∧ (∀ x, d = .str x → x.length ≤ 3000 ∧ PyData.strOk x = true) ∧ kd (toldD d)
def isa46 : List (Str × Str × Bool) := [("ParseError", "ParseError", true)]
def c46 : Ci := ⟨["_law_text_here", "e"], defScope (top 46), 3, gs23, [], none, []⟩
theorem v46 (ds : List D) (kd : D → Prop) (kx : Exn → Prop) (h : S_told ds kd kx) : vB 40 c46 (tryBody (defBody (top 46))) (rho0 c46.N ds) { nx := fun _ => kd .non, rt := fun d _ => kd d, xc := toldX isa46 "ParseError" "spot" (fun d _ => kd d) fun x _ => kx x } := by
  obtain ⟨d, rfl, hd, hs, hk⟩ := h
  refine ⟨d, rfl, hd, hs, ?_⟩
  cases d with
  | str x =>
    have hk : kd (toldL x.cps.toList) := hk
    unfold toldL at hk
    show (match readR x.cps.toList with | .inl p => _ | .inr e => _)
    cases hr : readR x.cps.toList with
    | inl p =>
      rw [hr] at hk
      exact ⟨sz1, .inl hk⟩
    | inr e =>
      rw [hr] at hk
      exact ⟨true, List.mem_singleton.mpr rfl, rfl, _, rfl, hk⟩
  | _ => exact ⟨true, List.mem_singleton.mpr rfl, rfl, _, rfl, hk⟩
end K01
set_option Elab.async false
set_option linter.all false
set_option maxRecDepth 100000
set_option maxHeartbeats 2000000
set_option exponentiation.threshold 9500
namespace K01
open PySem PySem.Spec PyProof.Rows L2 DL KM TX
/-! ### texts that some fraction's text begins with -/
def bP (neg : Bool) (p : List Nat) (r : List (List Nat)) : Bool :=
  if p.isEmpty = true then r.isEmpty else
  if (!rowB p || decide (1000 < p.length)) = true then false else
  if ((p[0]? == some 48) && (decide (1 < p.length) || neg)) = true then false else
  match r with
  | [] => true
  | q :: _ => if q.isEmpty = true then true else rowB q && (!(q[0]? == some 48) && decide (q.length ≤ 1000))
def beginL (neg : Bool) (r : List Nat) : Bool := match splitL 47 r with
  | [p] => bP neg p []
  | [p, q] => bP neg p [q]
  | _ => false
def ngL (l : List Nat) : Bool := l[0]? == some 45
abbrev rsL (l : List Nat) : List Nat := l.drop (stOf l)
theorem str_ext {x y : Str} (h : x.cps.toList = y.cps.toList) : x = y := by
  cases x; cases y
  congr 1
  exact Array.toList_inj.mp h
theorem rest_list (x : Str) : (restS x).cps.toList = rsL x.cps.toList := by
  unfold restS rsL stOf
  split
  · rename_i h
    have h1 : x.cps.toList[0]? = some 45 := eq_of_beq h
    have := (List.getElem?_eq_some_iff.mp h1).1
    have e := cut_r x 1 (by rw [Array.length_toList] at this; exact this)
    exact e
  · rw [List.drop_zero]
theorem rest_eq (x : Str) : decide (restS x = x) = !(ngL x.cps.toList) := by
  cases h : ngL x.cps.toList with
  | false =>
    have e : restS x = x := by
      unfold restS
      rw [if_neg (by unfold ngL at h; rw [h]; decide)]
    rw [decide_eq_true e]; rfl
  | true =>
    have n : restS x ≠ x := fun e => by
      have e2 := rest_list x
      rw [e] at e2
      unfold rsL stOf at e2
      have h' : (x.cps.toList[0]? == some 45) = true := h
      rw [if_pos h'] at e2
      have h1 : x.cps.toList[0]? = some 45 := eq_of_beq h'
      have := (List.getElem?_eq_some_iff.mp h1).1
      have e3 := congrArg List.length e2
      rw [List.length_drop] at e3
      omega
    rw [decide_eq_false n]; rfl
theorem str_len (x : Str) : x.cps.toList.length = x.length := by rw [Array.length_toList]; rfl
theorem beginP_eq (x p : Str) (r : List Str) : beginP x (restS x) p r = bP (ngL x.cps.toList) p.cps.toList (r.map fun q => q.cps.toList) := by
  unfold beginP bP
  rw [rest_eq, str_len, Bool.not_not]
  cases r with
  | nil => rfl
  | cons q r =>
    simp only [List.map_cons, List.isEmpty_cons, str_len]
theorem beginS_eq (x : Str) : beginS x = beginL (ngL x.cps.toList) (rsL x.cps.toList) := by
  have e := split_one (restS x) 47
  rw [rest_list] at e
  have e' : (Txt.split (restS x) "/").map (fun p => p.cps.toList) = splitL 47 (rsL x.cps.toList) := e
  unfold beginS beginL
  rw [← e']
  match Txt.split (restS x) "/" with
  | [] => rfl
  | [p] => exact beginP_eq x p []
  | [p, q] => exact beginP_eq x p [q]
  | p :: q :: u :: r => rfl
/-- .. as its parts are -/
def Gd (neg : Bool) (r : List Nat) : Prop := r = [] ∨ ∃ d t, r = d ++ t ∧ d ≠ [] ∧ (∀ c ∈ d, isDg c = true) ∧ (d.head? = some 48 → d.length = 1 ∧ neg = false) ∧ (t = [] ∨ ∃ q, t = 47 :: q ∧ (∀ c ∈ q, isDg c = true) ∧ q.head? ≠ some 48)
theorem splitL_cases (r : List Nat) : (47 ∉ r ∧ splitL 47 r = [r]) ∨ ∃ p r', r = p ++ 47 :: r' ∧ 47 ∉ p ∧ splitL 47 r = p :: splitL 47 r' := by
  by_cases h : 47 ∈ r
  · obtain ⟨p, r', e, hp⟩ := List.eq_append_cons_of_mem h
    exact .inr ⟨p, r', e, hp, by rw [e]; exact splitL_app hp r'⟩
  · exact .inl ⟨h, splitL_free h⟩
theorem dg47 : isDg 47 = false := by
  cases h : isDg 47 with
  | false => rfl
  | true => have := (dg_iff 47).mp h; omega
theorem no47 {d : List Nat} (h : ∀ c ∈ d, isDg c = true) : 47 ∉ d := fun m => by
  have := h 47 m
  rw [dg47] at this; cases this
theorem rowB_iff {p : List Nat} : rowB p = true ↔ p ≠ [] ∧ ∀ c ∈ p, isDg c = true := by
  unfold rowB
  rw [Bool.and_eq_true, List.all_eq_true]
  cases p with
  | nil => simp
  | cons a r => simp
theorem head_get {p : List Nat} : p[0]? = p.head? := by cases p <;> rfl
theorem bP_iff {neg : Bool} {p : List Nat} {q : Option (List Nat)} (hp : p.length ≤ 1000) (hq : ∀ z, q = some z → z.length ≤ 1000) : bP neg p q.toList = true ↔ (p = [] ∧ q = none) ∨ (p ≠ [] ∧ (∀ c ∈ p, isDg c = true) ∧ (p.head? = some 48 → p.length = 1 ∧ neg = false) ∧ ∀ z, q = some z → (∀ c ∈ z, isDg c = true) ∧ z.head? ≠ some 48) := by
  unfold bP
  cases p with
  | nil =>
    rw [if_pos (show ([] : List Nat).isEmpty = true from rfl)]
    cases q with
    | none => simp
    | some z => simp
  | cons a r =>
    rw [if_neg (by simp)]
    by_cases hr : rowB (a :: r) = true
    · have hr' := (rowB_iff.mp hr).2
      rw [hr, decide_eq_false (by omega)]
      rw [if_neg (by decide)]
      by_cases hz : (((a :: r)[0]? == some 48) && (decide (1 < (a :: r).length) || neg)) = true
      · rw [if_pos hz]
        obtain ⟨z1, z2⟩ := Bool.and_eq_true_iff.mp hz
        have z1' : (a :: r).head? = some 48 := by rw [← head_get]; exact eq_of_beq z1
        refine ⟨fun h => (Bool.false_ne_true h).elim, fun h => ?_⟩
        rcases h with ⟨h, _⟩ | ⟨_, _, h, _⟩
        · cases h
        · obtain ⟨h1, h2⟩ := h z1'
          rw [h2, h1] at z2
          cases z2
      · rw [if_neg hz]
        have key : (a :: r).head? = some 48 → (a :: r).length = 1 ∧ neg = false := fun e => by
          have e' : ((a :: r)[0]? == some 48) = true := by rw [head_get, e]; rfl
          rw [e', Bool.true_and] at hz
          cases neg with
          | true => simp at hz
          | false =>
            refine ⟨?_, rfl⟩
            simp at hz
            simp [hz]
        cases q with
        | none =>
          show true = true ↔ _
          refine ⟨fun _ => .inr ⟨by simp, hr', key, fun z e => by cases e⟩, fun _ => rfl⟩
        | some z =>
          show (if z.isEmpty = true then true else rowB z && (!(z[0]? == some 48) && decide (z.length ≤ 1000))) = true ↔ _
          have hzl := hq z rfl
          cases z with
          | nil =>
            rw [if_pos (show ([] : List Nat).isEmpty = true from rfl)]
            refine ⟨fun _ => .inr ⟨by simp, hr', key, fun z e => ?_⟩, fun _ => rfl⟩
            cases e
            exact ⟨fun c h => (by cases h), by simp⟩
          | cons b z =>
            rw [if_neg (by simp)]
            constructor
            · intro h
              obtain ⟨h1, h2⟩ := Bool.and_eq_true_iff.mp h
              obtain ⟨h2, _⟩ := Bool.and_eq_true_iff.mp h2
              refine .inr ⟨by simp, hr', key, fun w e => ?_⟩
              cases e
              refine ⟨(rowB_iff.mp h1).2, fun e => ?_⟩
              rw [head_get, e] at h2
              cases h2
            · rintro (⟨h, _⟩ | ⟨_, _, _, h⟩)
              · cases h
              · obtain ⟨h1, h2⟩ := h _ rfl
                refine Bool.and_eq_true_iff.mpr ⟨rowB_iff.mpr ⟨by simp, h1⟩, Bool.and_eq_true_iff.mpr ⟨?_, decide_eq_true hzl⟩⟩
                rw [head_get, Bool.not_eq_true']
                exact beq_eq_false_iff_ne.mpr h2
    · have hr2 : rowB (a :: r) = false := by simpa using hr
      rw [hr2, if_pos (by rfl)]
      refine ⟨fun h => (Bool.false_ne_true h).elim, fun h => ?_⟩
      rcases h with ⟨h, _⟩ | ⟨_, h, _⟩
      · cases h
      · exact absurd (rowB_iff.mpr ⟨by simp, h⟩) hr
end K01
set_option Elab.async false
set_option linter.all false
set_option maxRecDepth 100000
set_option maxHeartbeats 2000000
set_option exponentiation.threshold 9500
namespace K01
open PySem PySem.Spec PyProof.Rows L2 DL KM TX
theorem beginL_iff {neg : Bool} {r : List Nat} (h : r.length ≤ 1000) : beginL neg r = true ↔ Gd neg r := by
  unfold beginL
  rcases splitL_cases r with ⟨n, e⟩ | ⟨p, r', rfl, n, e⟩
  · rw [e]
    refine (bP_iff (neg := neg) (p := r) (q := none) h (fun z e => by cases e)).trans ⟨fun q => ?_, fun q => ?_⟩
    · rcases q with ⟨q, _⟩ | ⟨q1, q2, q3, _⟩
      · exact .inl q
      · exact .inr ⟨r, [], (List.append_nil r).symm, q1, q2, q3, .inl rfl⟩
    · rcases q with q | ⟨d, t, rfl, q1, q2, q3, q4⟩
      · exact .inl ⟨q, rfl⟩
      · rcases q4 with rfl | ⟨z, rfl, _⟩
        · rw [List.append_nil]
          exact .inr ⟨q1, q2, q3, fun z e => by cases e⟩
        · exact absurd (List.mem_append_right _ List.mem_cons_self) n
  · rw [e]
    have lp : p.length ≤ 1000 ∧ r'.length ≤ 1000 := by
      rw [List.length_append, List.length_cons] at h
      omega
    -- what Gd says of such a text
    have gd : Gd neg (p ++ 47 :: r') ↔ p ≠ [] ∧ (∀ c ∈ p, isDg c = true) ∧ (p.head? = some 48 → p.length = 1 ∧ neg = false) ∧ (∀ c ∈ r', isDg c = true) ∧ r'.head? ≠ some 48 := by
      constructor
      · rintro (q | ⟨d, t, e, q1, q2, q3, q4⟩)
        · simp at q
        · rcases q4 with rfl | ⟨z, rfl, z1, z2⟩
          · rw [List.append_nil] at e
            exact absurd (e ▸ List.mem_append_right p List.mem_cons_self) (no47 q2)
          · have ed : d = p ∧ z = r' := by
              have nd := no47 q2
              have s1 := splitL_app nd z
              have t1 : ∀ {a b : List Nat}, 47 ∉ a → (a ++ 47 :: b).takeWhile (fun c => c != 47) = a := fun {a b} ha => by
                rw [List.takeWhile_append_of_pos (fun c hc => by
                  have : c ≠ 47 := fun z => ha (z ▸ hc)
                  simpa using this)]
                rw [List.takeWhile_cons_of_neg (by decide), List.append_nil]
              have e1 := congrArg (fun l => l.takeWhile fun c => c != 47) e
              rw [t1 n, t1 nd] at e1
              refine ⟨e1.symm, ?_⟩
              rw [e1] at e
              have := List.append_cancel_left e
              exact ((List.cons.inj this).2).symm
            obtain ⟨rfl, rfl⟩ := ed
            exact ⟨q1, q2, q3, z1, z2⟩
      · rintro ⟨q1, q2, q3, q4, q5⟩
        exact .inr ⟨p, 47 :: r', rfl, q1, q2, q3, .inr ⟨r', rfl, q4, q5⟩⟩
    rcases splitL_cases r' with ⟨n', e'⟩ | ⟨p', r'', rfl, n', e'⟩
    · rw [e']
      refine (bP_iff (neg := neg) (p := p) (q := some r') lp.1 (fun z e => by cases e; exact lp.2)).trans ?_
      rw [gd]
      constructor
      · rintro (⟨_, q⟩ | ⟨q1, q2, q3, q4⟩)
        · cases q
        · exact ⟨q1, q2, q3, (q4 _ rfl).1, (q4 _ rfl).2⟩
      · rintro ⟨q1, q2, q3, q4, q5⟩
        exact .inr ⟨q1, q2, q3, fun z e => by cases e; exact ⟨q4, q5⟩⟩
    · rw [e']
      obtain ⟨a, b, e2⟩ := splitL_ne 47 r''
      rw [e2]
      refine ⟨fun q => (Bool.false_ne_true q).elim, fun q => ?_⟩
      have := (gd.mp q).2.2.2.1
      exact absurd (List.mem_append_right p' List.mem_cons_self) (no47 this)
theorem gd_pre {neg : Bool} {r : List Nat} (h : Gd neg r) (j : Nat) : Gd neg (r.take j) := by
  rcases h with rfl | ⟨d, t, rfl, h1, h2, h3, h4⟩
  · rw [List.take_nil]; exact .inl rfl
  · by_cases hj0 : j = 0
    · rw [hj0]; exact .inl rfl
    have cut : ∀ j, 0 < j → j ≤ d.length → Gd neg (d.take j) := fun j j0 _ => by
      have ne : d.take j ≠ [] := fun e => by
        have := congrArg List.length e
        rw [List.length_take, List.length_nil] at this
        have : 0 < d.length := List.length_pos_iff.mpr h1
        omega
      refine .inr ⟨d.take j, [], (List.append_nil _).symm, ne, fun c hc => h2 c (List.mem_of_mem_take hc), fun e => ?_, .inl rfl⟩
      have e' : d.head? = some 48 := by
        cases d with
        | nil => exact absurd rfl h1
        | cons a r =>
          cases j with
          | zero => omega
          | succ j => exact e
      obtain ⟨l1, l2⟩ := h3 e'
      refine ⟨?_, l2⟩
      rw [List.length_take]; omega
    by_cases hj : j ≤ d.length
    · rw [List.take_append_of_le_length hj]
      exact cut j (by omega) hj
    · have e : (d ++ t).take j = d ++ t.take (j - d.length) := by
        rw [List.take_append, List.take_of_length_le (by omega)]
      rw [e]
      refine .inr ⟨d, _, rfl, h1, h2, h3, ?_⟩
      rcases h4 with rfl | ⟨q, rfl, h5, h6⟩
      · rw [List.take_nil]; exact .inl rfl
      · obtain ⟨m, hm⟩ : ∃ m, j - d.length = m + 1 := ⟨j - d.length - 1, by omega⟩
        rw [hm]
        refine .inr ⟨q.take m, rfl, fun c hc => h5 c (List.mem_of_mem_take hc), fun e => h6 ?_⟩
        cases q with
        | nil => rw [List.take_nil] at e; exact e
        | cons a r =>
          cases m with
          | zero => cases e
          | succ m => exact e
/-- a text in its digits and what stands behind them -/
theorem gd_app {neg : Bool} {d t : List Nat} (hd : ∀ c ∈ d, isDg c = true) (ht : t = [] ∨ ∃ c t', t = c :: t' ∧ isDg c = false) (h : Gd neg (d ++ t)) :
    (d = [] ∧ t = []) ∨ (d ≠ [] ∧ (d.head? = some 48 → d.length = 1 ∧ neg = false) ∧ (t = [] ∨ ∃ q, t = 47 :: q ∧ (∀ c ∈ q, isDg c = true) ∧ q.head? ≠ some 48)) := by
  have tw : ∀ {a b : List Nat}, (∀ c ∈ a, isDg c = true) → (b = [] ∨ ∃ c t', b = c :: t' ∧ isDg c = false) → (a ++ b).takeWhile isDg = a := fun {a b} ha hb => by
    rw [List.takeWhile_append_of_pos ha]
    rcases hb with rfl | ⟨c, t', rfl, hc⟩
    · simp
    · rw [List.takeWhile_cons_of_neg (by rw [hc]; decide), List.append_nil]
  rcases h with h | ⟨d', t', e, h1, h2, h3, h4⟩
  · obtain ⟨a, b⟩ := List.append_eq_nil_iff.mp h
    exact .inl ⟨a, b⟩
  · have ht' : t' = [] ∨ ∃ c t'', t' = c :: t'' ∧ isDg c = false := by
      rcases h4 with q | ⟨q, e, _⟩
      · exact .inl q
      · exact .inr ⟨47, q, e, dg47⟩
    have e1 := congrArg (fun l => l.takeWhile isDg) e
    rw [tw hd ht, tw h2 ht'] at e1
    subst e1
    have e2 := List.append_cancel_left e
    subst e2
    exact .inr ⟨h1, h3, h4⟩
end K01
set_option Elab.async false
set_option linter.all false
set_option maxRecDepth 100000
set_option maxHeartbeats 2000000
set_option exponentiation.threshold 9500
namespace K01
open PySem PySem.Spec PyProof.Rows L2 DL KM TX
def AllDg (l : List Nat) : Prop := ∀ c ∈ l, isDg c = true
theorem dw_head (l : List Nat) : l.dropWhile isDg = [] ∨ ∃ c t, l.dropWhile isDg = c :: t ∧ isDg c = false := by
  induction l with
  | nil => exact .inl rfl
  | cons a l ih =>
    by_cases h : isDg a = true
    · rw [List.dropWhile_cons_of_pos h]; exact ih
    · rw [List.dropWhile_cons_of_neg h]
      exact .inr ⟨a, l, rfl, by simpa using h⟩
theorem nEnd_two (r : List Nat) (z : Bool) (hr : r.length ≤ 1000) : match nEnd r z with
    | .inr e => e = 0 ∧ (r = [] ∨ ∃ c r', r = c :: r' ∧ (isDg c = false ∨ (c = 48 ∧ z = false)))
    | .inl e => ∃ a t, r = a ++ t ∧ a.length = e ∧ a ≠ [] ∧ AllDg a ∧ (a.head? = some 48 → a.length = 1 ∧ z = true) ∧ (t = [] ∨ ∃ c t', t = c :: t' ∧ (isDg c = false ∨ a = [48])) := by
  unfold nEnd
  by_cases h1 : (z && r.head? == some 48) = true
  · rw [if_pos h1]
    obtain ⟨z1, z2⟩ := Bool.and_eq_true_iff.mp h1
    cases r with
    | nil => cases z2
    | cons a r =>
      obtain rfl : a = 48 := by simpa using z2
      refine ⟨[48], r, rfl, rfl, by simp, fun c hc => ?_, fun _ => ⟨rfl, z1⟩, ?_⟩
      · rw [List.mem_singleton.mp hc]
        exact (dg_iff 48).mpr (by omega)
      · cases r with
        | nil => exact .inl rfl
        | cons c t => exact .inr ⟨c, t, rfl, .inr rfl⟩
  · rw [if_neg h1]
    have split_ := List.takeWhile_append_dropWhile (p := isDg) (l := r)
    have hh : ∀ {a : Nat} {d : List Nat}, r.takeWhile isDg = a :: d → r.head? = some a := fun {a d} e => by
      rw [e] at split_
      rw [← split_]; rfl
    by_cases h2 : (r.takeWhile isDg).length = 0
    · rw [if_pos h2]
      refine ⟨rfl, ?_⟩
      cases r with
      | nil => exact .inl rfl
      | cons a r =>
        refine .inr ⟨a, r, rfl, .inl ?_⟩
        cases ha : isDg a with
        | false => rfl
        | true => rw [List.takeWhile_cons_of_pos ha] at h2; cases h2
    · rw [if_neg h2]
      by_cases h3 : r.head? = some 48
      · rw [if_pos h3]
        refine ⟨rfl, ?_⟩
        cases r with
        | nil => exact .inl rfl
        | cons a r =>
          obtain rfl : a = 48 := by simpa using h3
          refine .inr ⟨48, r, rfl, .inr ⟨rfl, ?_⟩⟩
          cases z with
          | false => rfl
          | true => simp at h1
      · rw [if_neg h3]
        have hl : ¬ 1000 < (r.takeWhile isDg).length := by
          have := congrArg List.length split_
          rw [List.length_append] at this
          omega
        rw [if_neg hl]
        refine ⟨r.takeWhile isDg, r.dropWhile isDg, split_.symm, rfl, fun e => h2 (by rw [e]; rfl), fun c hc => tw_mem hc, fun e => ?_, ?_⟩
        · cases ht : r.takeWhile isDg with
          | nil => rw [ht] at e; cases e
          | cons a d =>
            rw [ht] at e
            have : a = 48 := by simpa using e
            rw [this] at ht
            exact absurd (hh ht) h3
        · rcases dw_head r with e | ⟨c, t, e, hc⟩
          · exact .inl e
          · exact .inr ⟨c, t, e, .inl hc⟩
def BG (l : List Nat) : Prop := Gd (ngL l) (rsL l)
theorem st_le (l : List Nat) : stOf l ≤ l.length := by
  unfold stOf
  split
  · rename_i q
    have : l[0]? = some 45 := eq_of_beq q
    exact (List.getElem?_eq_some_iff.mp this).1
  · omega
theorem st_cases (l : List Nat) : (ngL l = false ∧ stOf l = 0) ∨ (ngL l = true ∧ stOf l = 1 ∧ ∃ r, l = 45 :: r) := by
  unfold stOf
  cases h : ngL l with
  | false =>
    have h' : (l[0]? == some 45) = false := h
    rw [h']
    exact .inl ⟨rfl, rfl⟩
  | true =>
    have h' : (l[0]? == some 45) = true := h
    rw [h']
    refine .inr ⟨rfl, rfl, ?_⟩
    cases l with
    | nil => cases h'
    | cons a r =>
      have : a = 45 := by simpa using h'
      exact ⟨r, by rw [this]⟩
theorem bg_take (l : List Nat) (j : Nat) (hj : stOf l ≤ j) : BG (l.take j) ↔ Gd (ngL l) ((rsL l).take (j - stOf l)) := by
  rcases st_cases l with ⟨h1, h2⟩ | ⟨h1, h2, r, rfl⟩
  · unfold BG
    have hn : ngL (l.take j) = false := by
      unfold ngL at h1 ⊢
      cases j with
      | zero => rfl
      | succ j =>
        cases l with
        | nil => rfl
        | cons a r => exact h1
    have hs : stOf (l.take j) = 0 := by
      unfold ngL at hn
      unfold stOf
      rw [hn]; rfl
    rw [hn, h1]
    show Gd false ((l.take j).drop (stOf (l.take j))) ↔ Gd false ((l.drop (stOf l)).take (j - stOf l))
    rw [hs, h2, List.drop_zero, List.drop_zero, Nat.sub_zero]
  · rw [h2] at hj
    obtain ⟨m, rfl⟩ : ∃ m, j = m + 1 := ⟨j - 1, by omega⟩
    exact Iff.rfl
theorem bg_pre {l : List Nat} {i j : Nat} (h : BG (l.take i)) (hi : stOf l ≤ i) (hij : j ≤ i) : BG (l.take j) := by
  by_cases hj : stOf l ≤ j
  · rw [bg_take l j hj]
    rw [bg_take l i hi] at h
    have := gd_pre h (j - stOf l)
    rw [List.take_take, Nat.min_eq_left (by omega)] at this
    exact this
  · have : j = 0 := by
      rcases st_cases l with ⟨_, h2⟩ | ⟨_, h2, _⟩ <;> omega
    rw [this]
    exact .inl rfl
/-- the last part is empty, or a minus by itself -/
def lastBad (l : List Nat) : Prop := (splitL 47 l).getLast? = some [] ∨ (splitL 47 l).getLast? = some [45]
end K01
set_option Elab.async false
set_option linter.all false
set_option maxRecDepth 100000
set_option maxHeartbeats 2000000
set_option exponentiation.threshold 9500
namespace K01
open PySem PySem.Spec PyProof.Rows L2 DL KM TX
/-- what the reading tells, by the texts that some fraction's text begins with -/
def DueR (l : List Nat) : (Int × Int) ⊕ Nat → Prop
  | .inr e => stOf l ≤ e ∧ e ≤ l.length ∧ BG (l.take e) ∧ (e < l.length → ¬ BG (l.take (e + 1))) ∧ (e = l.length → lastBad l)
  | .inl p => BG (l.take l.length) ∧ AllDg ((l.takeWhile fun c => c != 47).drop (stOf l)) ∧ (l.takeWhile fun c => c != 47).drop (stOf l) ≠ [] ∧
      ((47 ∉ l ∧ p = (valT l, 1)) ∨ ∃ a q, l = a ++ 47 :: q ∧ 47 ∉ a ∧ AllDg q ∧ q ≠ [] ∧ q.head? ≠ some 48 ∧ p = low (valT a) (valT q))
theorem due_first {l a t : List Nat} (hl : l.length ≤ 900) (er : rsL l = a ++ t) (a0 : a ≠ []) (ad : AllDg a) (az : a.head? = some 48 → a.length = 1 ∧ (!(ngL l)) = true) (n47 : 47 ∉ l.take (stOf l + a.length))
    {q : List Nat} (ht : t = 47 :: q) : DueR l (readB l (stOf l + a.length)) := by
  have sl := st_le l
  have ll : l.length = stOf l + (a.length + t.length) := by
    have := congrArg List.length er
    rw [List.length_drop, List.length_append] at this
    omega
  have tl : t.length = q.length + 1 := by rw [ht]; rfl
  have eq : l.drop (stOf l + a.length + 1) = q := by
    have : l.drop (stOf l + (a.length + 1)) = (rsL l).drop (a.length + 1) := by rw [List.drop_drop]
    rw [Nat.add_assoc, this, er, List.drop_append, List.drop_of_length_le (by omega), List.nil_append, ht]
    rw [show a.length + 1 - a.length = 1 by omega]; rfl
  have el : l = l.take (stOf l + a.length) ++ 47 :: q := by
    have h1 := List.take_append_drop (stOf l + a.length) l
    have h2 : l.drop (stOf l + a.length) = t := by
      have : l.drop (stOf l + a.length) = (rsL l).drop a.length := by rw [List.drop_drop]
      rw [this, er, List.drop_left]
    rw [h2, ht] at h1
    exact h1.symm
  have two := nEnd_two q false (by omega)
  have ng : (!(ngL l)) = true → ngL l = false := fun z => by simpa using z
  have take_ : ∀ m, (rsL l).take (a.length + 1 + m) = a ++ 47 :: q.take m := fun m => by
    rw [er, List.take_append, List.take_of_length_le (by omega), ht, show a.length + 1 + m - a.length = m + 1 by omega]; rfl
  have gdq : ∀ m, Gd (ngL l) (a ++ 47 :: q.take m) ↔ AllDg (q.take m) ∧ (q.take m).head? ≠ some 48 := fun m => by
    constructor
    · intro g
      rcases gd_app ad (.inr ⟨47, _, rfl, dg47⟩) g with ⟨_, z⟩ | ⟨_, _, z⟩
      · cases z
      · rcases z with z | ⟨q', z, h1, h2⟩
        · cases z
        · cases z
          exact ⟨h1, h2⟩
    · rintro ⟨h1, h2⟩
      exact .inr ⟨a, _, rfl, a0, ad, fun e => ⟨(az e).1, ng (az e).2⟩, .inr ⟨_, rfl, h1, h2⟩⟩
  have bg : ∀ m, BG (l.take (stOf l + a.length + 1 + m)) ↔ AllDg (q.take m) ∧ (q.take m).head? ≠ some 48 := fun m => by
    rw [bg_take _ _ (by omega), show stOf l + a.length + 1 + m - stOf l = a.length + 1 + m by omega, take_, gdq]
  unfold readB
  rw [eq]
  cases hn : nEnd q false with
  | inr e =>
    rw [hn] at two
    obtain ⟨rfl, h⟩ := two
    refine ⟨by omega, by omega, (bg 0).mpr ⟨fun c hc => (by cases hc), by rw [List.take_zero]; simp⟩, fun lt => ?_, fun e => ?_⟩
    · rcases h with rfl | ⟨c, q', rfl, hc⟩
      · simp only [List.length_nil] at tl; omega
      · intro g
        obtain ⟨h1, h2⟩ := (bg 1).mp g
        rcases hc with hc | ⟨rfl, _⟩
        · have := h1 c List.mem_cons_self
          rw [hc] at this; cases this
        · exact h2 rfl
    · have q0 : q = [] := List.length_eq_zero_iff.mp (by omega)
      unfold lastBad
      rw [el, q0, splitL_app n47]
      exact .inl rfl
  | inl e =>
    rw [hn] at two
    obtain ⟨b, t2, eb, bl, b0, bd, bz, ht2⟩ := two
    have bh : b.head? ≠ some 48 := fun z => by have := (bz z).2; cases this
    have tb : q.take e = b := by rw [eb, ← bl, List.take_left]
    show DueR l (if stOf l + a.length + 1 + e < l.length then .inr (stOf l + a.length + 1 + e) else .inl (low (valT (l.take (stOf l + a.length))) (valT q)))
    by_cases lt : stOf l + a.length + 1 + e < l.length
    · rw [if_pos lt]
      refine ⟨by omega, by omega, (bg e).mpr (by rw [tb]; exact ⟨bd, bh⟩), fun _ g => ?_, fun z => by omega⟩
      obtain ⟨h1, _⟩ := (bg (e + 1)).mp g
      rcases ht2 with rfl | ⟨c, t3, rfl, hc⟩
      · rw [List.append_nil] at eb
        rw [eb] at tl
        omega
      · have mem : c ∈ q.take (e + 1) := by
          rw [eb, List.take_append, ← bl, List.take_of_length_le (by omega), show b.length + 1 - b.length = 1 by omega]
          exact List.mem_append_right _ List.mem_cons_self
        rcases hc with hc | hc
        · have := h1 c mem
          rw [hc] at this; cases this
        · rw [hc] at bh
          exact bh rfl
    · rw [if_neg lt]
      have eqb : q = b := by
        have : t2 = [] := by
          refine List.length_eq_zero_iff.mp ?_
          have := congrArg List.length eb
          rw [List.length_append] at this
          omega
        rw [eb, this, List.append_nil]
      subst eqb
      have tw : (l.takeWhile fun c => c != 47) = l.take (stOf l + a.length) := by
        conv => lhs; rw [el]
        rw [List.takeWhile_append_of_pos (fun c hc => by
          have : c ≠ 47 := fun z => n47 (z ▸ hc)
          simpa using this), List.takeWhile_cons_of_neg (by decide), List.append_nil]
      have da : (l.take (stOf l + a.length)).drop (stOf l) = a := by
        rw [List.drop_take, show stOf l + a.length - stOf l = a.length by omega]
        show (rsL l).take a.length = a
        rw [er, List.take_left]
      refine ⟨?_, by rw [tw, da]; exact ad, by rw [tw, da]; exact a0, .inr ⟨l.take (stOf l + a.length), q, el, n47, bd, b0, bh, rfl⟩⟩
      have := (bg e).mpr (by rw [tb]; exact ⟨bd, bh⟩)
      rw [show stOf l + a.length + 1 + e = l.length by omega] at this
      exact this
theorem due_read (l : List Nat) (hl : l.length ≤ 900) : DueR l (readR l) := by
  have sl := st_le l
  have two := nEnd_two (rsL l) (!(ngL l)) (by rw [List.length_drop]; omega)
  have ng : (!(ngL l)) = true → ngL l = false := fun z => by simpa using z
  have pre47 : 47 ∉ l.take (stOf l) := by
    rcases st_cases l with ⟨_, h2⟩ | ⟨_, h2, r, rfl⟩
    · rw [h2]; simp
    · rw [h2]; simp
  unfold readR
  show DueR l (match nEnd (rsL l) (!(ngL l)) with
    | .inr e => .inr (stOf l + e)
    | .inl e => if stOf l + e = l.length then .inl (valT l, 1) else if l[stOf l + e]? = some 47 then readB l (stOf l + e) else .inr (stOf l + e))
  cases hn : nEnd (rsL l) (!(ngL l)) with
  | inr e =>
    rw [hn] at two
    obtain ⟨rfl, h⟩ := two
    refine ⟨by omega, by omega, ?_, fun lt g => ?_, fun e => ?_⟩
    · rw [Nat.add_zero, bg_take _ _ (Nat.le_refl _), Nat.sub_self]
      exact .inl rfl
    · rw [Nat.add_zero] at g lt
      rw [bg_take _ _ (by omega), show stOf l + 1 - stOf l = 1 by omega] at g
      rcases h with h | ⟨c, r', h, hc⟩
      · have := congrArg List.length h
        rw [List.length_drop, List.length_nil] at this
        omega
      · rw [h] at g
        rcases hc with hc | ⟨rfl, hz⟩
        · rcases gd_app (d := []) (t := [c]) (fun c h => by cases h) (.inr ⟨c, [], rfl, hc⟩) g with ⟨_, z⟩ | ⟨z, _⟩
          · cases z
          · exact z rfl
        · rcases gd_app (d := [48]) (t := []) (fun c h => by rw [List.mem_singleton.mp h]; exact (dg_iff 48).mpr (by omega)) (.inl rfl) g with ⟨z, _⟩ | ⟨_, z, _⟩
          · cases z
          · have := (z rfl).2
            rw [this] at hz; cases hz
    · rw [Nat.add_zero] at e
      unfold lastBad
      rcases st_cases l with ⟨_, h2⟩ | ⟨_, h2, r, rfl⟩
      · have : l = [] := List.length_eq_zero_iff.mp (by omega)
        rw [this]; exact .inl rfl
      · have : r = [] := List.length_eq_zero_iff.mp (by rw [h2, List.length_cons] at e; omega)
        rw [this]; exact .inr rfl
  | inl e =>
    rw [hn] at two
    obtain ⟨a, t, er, rfl, a0, ad, az, ht⟩ := two
    have ll : l.length = stOf l + (a.length + t.length) := by
      have := congrArg List.length er
      rw [List.length_drop, List.length_append] at this
      omega
    have gda : Gd (ngL l) a := .inr ⟨a, [], (List.append_nil a).symm, a0, ad, fun e => ⟨(az e).1, ng (az e).2⟩, .inl rfl⟩
    have bga : BG (l.take (stOf l + a.length)) := by
      rw [bg_take _ _ (by omega), show stOf l + a.length - stOf l = a.length by omega, er, List.take_left]
      exact gda
    have n47 : 47 ∉ l.take (stOf l + a.length) := by
      rw [List.take_add]
      intro m
      rcases List.mem_append.mp m with m | m
      · exact pre47 m
      · have : (l.drop (stOf l)).take a.length = a := by
          show (rsL l).take a.length = a
          rw [er, List.take_left]
        rw [this] at m
        exact no47 ad m
    show DueR l (if stOf l + a.length = l.length then .inl (valT l, 1) else if l[stOf l + a.length]? = some 47 then readB l (stOf l + a.length) else .inr (stOf l + a.length))
    by_cases hf : stOf l + a.length = l.length
    · rw [if_pos hf]
      have tl : l.take (stOf l + a.length) = l := by rw [hf, List.take_length]
      have tw : (l.takeWhile fun c => c != 47) = l := tw_self fun c hc => by
        have : c ≠ 47 := fun z => n47 (by rw [tl]; exact z ▸ hc)
        simpa using this
      have t0 : t = [] := List.length_eq_zero_iff.mp (by omega)
      have er' : l.drop (stOf l) = a := by
        have : rsL l = a := by rw [er, t0, List.append_nil]
        exact this
      exact ⟨by rw [← hf]; exact bga, by rw [tw, er']; exact ad, by rw [tw, er']; exact a0, .inl ⟨by rw [tl] at n47; exact n47, rfl⟩⟩
    · rw [if_neg hf]
      have at_ : l[stOf l + a.length]? = t[0]? := by
        have : l[stOf l + a.length]? = (rsL l)[a.length]? := by rw [List.getElem?_drop]
        rw [this, er, List.getElem?_append_right (Nat.le_refl _), Nat.sub_self]
      rcases ht with rfl | ⟨c, t', rfl, hc⟩
      · simp only [List.length_nil] at ll; omega
      · rw [at_]
        by_cases h47 : c = 47
        · subst h47
          rw [if_pos (show ((47 : Nat) :: t')[0]? = some 47 from rfl)]
          exact due_first hl er a0 ad az n47 rfl
        · rw [if_neg (by simpa using h47)]
          refine ⟨by omega, by rw [List.length_cons] at ll; omega, bga, fun _ g => ?_, fun z => absurd z hf⟩
          rw [bg_take _ _ (by omega), show stOf l + a.length + 1 - stOf l = a.length + 1 by omega, er, List.take_append, List.take_of_length_le (by omega), show a.length + 1 - a.length = 1 by omega] at g
          have g' : Gd (ngL l) (a ++ [c]) := g
          by_cases hd : isDg c = true
          · have ha : a = [48] := by
              rcases hc with hc | hc
              · rw [hc] at hd; cases hd
              · exact hc
            subst ha
            have g2 : Gd (ngL l) (([48] ++ [c]) ++ []) := by rw [List.append_nil]; exact g'
            rcases gd_app (d := [48] ++ [c]) (t := []) (fun x hx => by
              rcases List.mem_append.mp hx with hx | hx
              · exact ad x hx
              · rw [List.mem_singleton.mp hx]; exact hd) (.inl rfl) g2 with ⟨z, _⟩ | ⟨_, z, _⟩
            · cases z
            · have := (z rfl).1
              cases this
          · rcases gd_app ad (.inr ⟨c, [], rfl, by simpa using hd⟩) g' with ⟨z, _⟩ | ⟨_, _, z⟩
            · exact a0 z
            · rcases z with z | ⟨q, z, _⟩
              · cases z
              · cases z
                exact h47 rfl
end K01
set_option Elab.async false
set_option linter.all false
set_option maxRecDepth 100000
set_option maxHeartbeats 1000000
set_option exponentiation.threshold 9500
namespace K01
open PySem PySem.Spec PyProof.Rows L2 DL KM TX
def S_due : PSpec := fun ds kd _ => ∃ x : Str, ds = [.str x] ∧ x.length ≤ 800 ∧ PyData.strOk x = true ∧ kd (toldL x.cps.toList)
def gs24 : List (Str × Gk) := ("_law_due", .pf 4 S_due 1 []) :: gs23
def c45 : Ci := ⟨["_law_text_here", "_law_at", "_law_parts"], defScope (top 45), 3, gs23, [], none, [("_law_at", 3)]⟩
abbrev st45 (x : Str) (a : Sl) (ps : List Str) : Rho := [.val (.str x), a, .val (.lst (ps.map .str))]
theorem v45_3a {x p : Str} {a : Sl} {t : Int} {kd : D → Prop} {kx : Exn → Prop} (hp : intOf p t) (hk : kd (.lst [frP (low t 1)])) : vB 57 c45 ((defBody (top 45)).drop 3) (st45 x a [p]) (EkP kd kx) := by
  exact ⟨_, at0S, t, hp, t, 1, rfl, by decide, by decide +kernel, sz1, .inl hk⟩
theorem v45_3b {x p q : Str} {a : Sl} {t b : Int} {kd : D → Prop} {kx : Exn → Prop} (hp : intOf p t) (hq : intOf q b) (b0 : b ≠ 0) (bB : b.natAbs < 2 ^ 8999) (hk : kd (.lst [frP (low t b)])) : vB 57 c45 ((defBody (top 45)).drop 3) (st45 x a [p, q]) (EkP kd kx) := by
  exact ⟨_, at0S, t, hp, _, at1S, b, hq, t, b, rfl, b0, bB, sz1, .inl hk⟩
theorem at_last {ps : List Str} {z : Str} (h : ps.getLast? = some z) : atI (ps.map D.str) (-1) = some (.str z) := by
  have e : (ps.map D.str).getLast? = some (.str z) := by rw [List.getLast?_map, h]; rfl
  have hl : (ps.map D.str).length ≠ 0 := fun q => by
    rw [List.length_eq_zero_iff.mp q] at e; cases e
  generalize ps.map D.str = l at e hl
  unfold L2.atI L2.ixN
  rw [if_neg (by decide), if_pos (by omega)]
  show l[((-1 : Int) + (l.length : Int)).toNat]? = _
  rw [show ((-1 : Int) + (l.length : Int)).toNat = l.length - 1 by omega, ← List.getLast?_eq_getElem?]
  exact e
theorem beq_nil (z : Str) : (("" : Str) == z) = true ↔ z.cps.toList = [] := by
  rw [beq_iff_eq]
  exact ⟨fun e => by rw [← e]; rfl, fun e => str_ext (by rw [e]; rfl)⟩
theorem beq_min (z : Str) : (("-" : Str) == z) = true ↔ z.cps.toList = [45] := by
  rw [beq_iff_eq]
  exact ⟨fun e => by rw [← e]; rfl, fun e => str_ext (by rw [e]; rfl)⟩
theorem in2 (z : Str) : inD (.str z) [.str "", .str "-"] = true ↔ z.cps.toList = [] ∨ z.cps.toList = [45] := by
  show ((("" : Str) == z) || ((("-" : Str) == z) || false)) = true ↔ _
  rw [Bool.or_false, Bool.or_eq_true, beq_nil, beq_min]
theorem v45_2 {x z : Str} {a : Sl} {ps : List Str} {kd : D → Prop} {kx : Exn → Prop} (xz : x.length ≤ sizeLine) (hz : ps.getLast? = some z) (zo : PyData.strOk z = true) (hb : (z.cps.toList = [] ∨ z.cps.toList = [45]) → kd (.int (x.length : Nat)))
    (hn : ¬ (z.cps.toList = [] ∨ z.cps.toList = [45]) → vB 57 c45 ((defBody (top 45)).drop 3) (st45 x a ps) (EkP kd kx)) : vB 58 c45 ((defBody (top 45)).drop 2) (st45 x a ps) (EkP kd kx) := by
  refine ⟨_, at_last hz, sz2, ⟨shp_str zo, by decide +kernel⟩, ?_⟩
  by_cases h : z.cps.toList = [] ∨ z.cps.toList = [45]
  · exact ifT ((in2 z).mpr h) ⟨xz, hb h⟩
  · exact ifF (by
      cases hc : inD (.str z) [.str "", .str "-"] with
      | false => rfl
      | true => exact absurd ((in2 z).mp hc) h) (hn h)
theorem low_one (t : Int) : low t 1 = (t, 1) := by
  unfold low
  rw [if_pos (by decide)]
  have : gI t 1 = 1 := by
    unfold gI
    rw [Int.natAbs_one, Nat.gcd_one_right]; rfl
  rw [this, Int.fdiv_one, Int.fdiv_one]
theorem int_whole {y : Str} (dg : AllDg (y.cps.toList.drop (stOf y.cps.toList))) (ne : y.cps.toList.drop (stOf y.cps.toList) ≠ []) (hl : y.length ≤ 4300) : intOf y (valT y.cps.toList) :=
  int_of (neg := (y.cps.toList[0]? == some 45)) rfl rfl (fun c hc => (dg_iff c).mp (dg c hc)) (List.length_pos_iff.mpr ne) (by rw [str_len]; exact hl)
theorem row_facts {q : List Nat} (qd : AllDg q) (q0 : q ≠ []) (qh : q.head? ≠ some 48) (ql : q.length ≤ 1000) : stOf q = 0 ∧ valT q ≠ 0 ∧ (valT q).natAbs < 2 ^ 8999 := by
  cases q with
  | nil => exact absurd rfl q0
  | cons b r =>
    have hb := (dg_iff b).mp (qd b List.mem_cons_self)
    have b49 : 49 ≤ b := by
      have : b ≠ 48 := fun z => qh (by rw [z]; rfl)
      omega
    have nB : ((b :: r)[0]? == some 45) = false := by
      have : b ≠ 45 := by omega
      simpa using this
    have pB : 0 < NumText.digitsVal (b :: r) := NumText.digitsVal_pos b49
    have uB : NumText.digitsVal (b :: r) < 2 ^ 8999 := by
      have h1 := digits_lt (cs := b :: r) fun c hc => (dg_iff c).mp (qd c hc)
      have h2 : (10 : Nat) ^ (b :: r).length ≤ 10 ^ 1000 := Nat.pow_le_pow_right (by decide) ql
      exact upP (big (Nat.lt_of_lt_of_le h1 h2)) (by decide)
    refine ⟨by unfold stOf; rw [nB]; rfl, ?_, ?_⟩
    · rw [valT_pos nB]; omega
    · rw [valT_pos nB, Int.natAbs_natCast]; exact uB
/-- the parts of a text are read as numbers -/
theorem v45_1 {x : Str} {a : Sl} {kd : D → Prop} {kx : Exn → Prop} (hx : x.length ≤ 800) (ok : PyData.strOk x = true) (hall : BG (x.cps.toList.take x.cps.toList.length)) (hk : kd (toldL x.cps.toList)) :
    vB 59 c45 ((defBody (top 45)).drop 1) [.val (.str x), a, .no] (EkP kd kx) := by
  have xl := str_len x
  have hsz : 200000 < sizeLine := by rw [sizeLine_eq]; decide
  have dr := due_read x.cps.toList (by omega)
  have sp := split_one x 47
  have spne := split_ne x ⟨#[47]⟩
  have pk : ∀ p ∈ Txt.split x ⟨#[47]⟩, p.length ≤ x.length ∧ PyData.strOk p = true := fun p hp => part_ok hp ok
  have goal : vB 58 c45 ((defBody (top 45)).drop 2) (st45 x a (Txt.split x ⟨#[47]⟩)) (EkP kd kx) := by
    obtain ⟨z, hz⟩ : ∃ z, (Txt.split x ⟨#[47]⟩).getLast? = some z := by
      cases h : (Txt.split x ⟨#[47]⟩).getLast? with
      | none => exact absurd (List.getLast?_eq_none_iff.mp h) spne
      | some z => exact ⟨z, rfl⟩
    have zl : (splitL 47 x.cps.toList).getLast? = some z.cps.toList := by rw [← sp, List.getLast?_map, hz]; rfl
    have zo := (pk z (List.mem_of_getLast? hz)).2
    unfold toldL at hk
    have lb : lastBad x.cps.toList ↔ (z.cps.toList = [] ∨ z.cps.toList = [45]) := by
      unfold lastBad
      rw [zl]
      simp
    cases hr : readR x.cps.toList with
    | inr e =>
      rw [hr] at hk dr
      obtain ⟨d1, d2, d3, d4, d5⟩ := dr
      have ee : e = x.cps.toList.length := by
        refine Nat.le_antisymm d2 (Nat.le_of_not_lt fun lt => d4 lt ?_)
        exact bg_pre hall (st_le _) (by omega)
      refine v45_2 (by omega) hz zo (fun _ => ?_) fun h => absurd (lb.mp (d5 ee)) h
      rw [ee, xl] at hk
      exact hk
    | inl p =>
      rw [hr] at hk dr
      obtain ⟨d1, d2, d3, d4⟩ := dr
      have ad : NumText.AllDigits ((x.cps.toList.takeWhile fun c => c != 47).drop (stOf x.cps.toList)) := fun c hc => (dg_iff c).mp (d2 c hc)
      rcases d4 with ⟨n47, rfl⟩ | ⟨u, q, el, nu, qd, q0, qh, rfl⟩
      · have e1 : splitL 47 x.cps.toList = [x.cps.toList] := splitL_free n47
        rw [e1] at sp
        have tw : (x.cps.toList.takeWhile fun c => c != 47) = x.cps.toList := tw_self fun c hc => by
          have : c ≠ 47 := fun z => n47 (z ▸ hc)
          simpa using this
        rw [tw] at d2 d3
        have ps1 : Txt.split x ⟨#[47]⟩ = [x] := by
          match h : Txt.split x ⟨#[47]⟩, sp with
          | [p], sp => exact congrArg (· :: []) (str_ext (List.cons.inj sp).1)
          | [], sp => exact absurd (congrArg List.length sp) (by simp)
          | _ :: _ :: _, sp => exact absurd (congrArg List.length sp) (by simp)
        rw [ps1] at hz ⊢
        have ez : z = x := by simpa using hz.symm
        subst ez
        refine v45_2 (by omega) hz ok (fun h => ?_) fun _ => v45_3a (int_whole d2 d3 (by omega)) ?_
        · rcases h with h | h
          · rw [h] at d3; exact absurd rfl d3
          · rw [h] at d3; exact absurd rfl d3
        · rw [low_one]; exact hk
      · have n2 : 47 ∉ q := no47 qd
        have e1 : splitL 47 x.cps.toList = [u, q] := by rw [el, splitL_app nu, splitL_free n2]
        rw [e1] at sp
        have tw : (x.cps.toList.takeWhile fun c => c != 47) = u := by
          rw [el, List.takeWhile_append_of_pos (fun c hc => by
            have : c ≠ 47 := fun z => nu (z ▸ hc)
            simpa using this), List.takeWhile_cons_of_neg (by decide), List.append_nil]
        rw [tw] at d2 d3
        obtain ⟨p1, p2, ps2, h1, h2⟩ : ∃ p1 p2, Txt.split x ⟨#[47]⟩ = [p1, p2] ∧ p1.cps.toList = u ∧ p2.cps.toList = q := by
          match h : Txt.split x ⟨#[47]⟩, sp with
          | [p1, p2], sp => exact ⟨p1, p2, rfl, (List.cons.inj sp).1, (List.cons.inj (List.cons.inj sp).2).1⟩
          | [], sp => exact absurd (congrArg List.length sp) (by simp)
          | [_], sp => exact absurd (congrArg List.length sp) (by simp)
          | _ :: _ :: _ :: _, sp => exact absurd (congrArg List.length sp) (by simp)
        have l1 := (pk p1 (by rw [ps2]; exact List.mem_cons_self)).1
        have l2 := (pk p2 (by rw [ps2]; exact List.mem_cons_of_mem _ List.mem_cons_self)).1
        rw [ps2] at hz ⊢
        have ez : z = p2 := by simpa using hz.symm
        subst ez
        have us : stOf x.cps.toList = stOf u := by
          cases u with
          | nil => exact absurd List.drop_nil d3
          | cons a r => rw [el]; rfl
        rw [us] at d2 d3
        obtain ⟨r1, r2, r3⟩ := row_facts qd q0 qh (by rw [← h2, str_len]; omega)
        refine v45_2 (by omega) hz zo (fun h => ?_) fun _ => ?_
        · rw [h2] at h
          rcases h with h | h
          · exact absurd h q0
          · rw [h] at qd
            have := (dg_iff 45).mp (qd 45 List.mem_cons_self)
            omega
        · have i1 : intOf p1 (valT u) := by
            rw [← h1] at d2 d3 ⊢
            exact int_whole d2 d3 (by omega)
          have i2 : intOf z (valT q) := by
            have qd' : AllDg (q.drop (stOf q)) := by rw [r1]; exact qd
            have q0' : q.drop (stOf q) ≠ [] := by rw [r1]; exact q0
            rw [← h2] at qd' q0' ⊢
            exact int_whole qd' q0' (by omega)
          exact v45_3b i1 i2 r2 r3 hk
  exact ⟨⟨rfl, by omega⟩, goal⟩
theorem v45 (ds : List D) (kd : D → Prop) (kx : Exn → Prop) (h : S_due ds kd kx) : vB 60 c45 (defBody (top 45)) (rho0 c45.N ds) (EkP kd kx) := by
  obtain ⟨x, rfl, hx, ok, hk⟩ := h
  have xl := str_len x
  have hsz : 200000 < sizeLine := by rw [sizeLine_eq]; decide
  refine ⟨by omega, ⟨by omega, by omega⟩, fun i ρ => ∃ a, ρ = [.val (.str x), a, .no] ∧ vo a ∧ BG (x.cps.toList.take i), ⟨.no, rfl, .inl rfl, .inl rfl⟩, ?_, ?_⟩
  · rintro i d ρ1 hd ⟨a, rfl, ha, hg⟩
    have hi : i < x.length := by
      have := (List.getElem?_eq_some_iff.mp hd).1
      rw [upto_len] at this
      omega
    have ed : d = .int (i : Int) := by
      rw [upto_at (by omega)] at hd
      exact (Option.some.inj hd).symm
    subst ed
    have ec : (L2.cutS x none (some ((i : Int) + 1))).cps.toList = x.cps.toList.take (i + 1) := by
      rw [show (i : Int) + 1 = ((i + 1 : Nat) : Int) by omega]
      exact cut_l x (i + 1) (by omega)
    have hb : beginS (L2.cutS x none (some ((i : Int) + 1))) = true ↔ BG (x.cps.toList.take (i + 1)) := by
      rw [beginS_eq, ec]
      exact beginL_iff (by rw [List.length_drop, List.length_take]; omega)
    have cl : (L2.cutS x none (some ((i : Int) + 1))).length ≤ 900 := by have := cutS_length x none (some ((i : Int) + 1)); omega
    have co := ok_cut ok none (some ((i : Int) + 1))
    have sl := st_le x.cps.toList
    have dr := due_read x.cps.toList (by omega)
    have key : ¬ BG (x.cps.toList.take (i + 1)) → kd (.int (i : Int)) := fun nb => by
      unfold toldL at hk
      cases hr : readR x.cps.toList with
      | inl p =>
        rw [hr] at dr
        exact absurd (bg_pre dr.1 sl (by omega)) nb
      | inr e =>
        rw [hr] at hk dr
        obtain ⟨d1, d2, d3, d4, _⟩ := dr
        have : e = i := by
          refine Nat.le_antisymm (Nat.le_of_not_lt fun lt => nb (bg_pre d3 d1 lt)) (Nat.le_of_not_lt fun lt => d4 (by omega) (bg_pre hg (by omega) lt))
        rw [this] at hk
        exact hk
    rcases ha with rfl | ⟨da, rfl⟩
    all_goals (
      refine ⟨by omega, _, rfl, cl, co, ?_⟩
      cases hbs : beginS (L2.cutS x none (some ((i : Int) + 1))) with
      | false =>
        exact key fun z => by
          rw [hb.mpr z] at hbs; cases hbs
      | true => exact ⟨_, rfl, .inr ⟨_, rfl⟩, hb.mp hbs⟩)
  · rintro ρ1 ⟨a, rfl, ha, hg⟩
    rw [upto_len, show ((x.length : Nat) : Int).toNat = x.cps.toList.length by omega] at hg
    rcases ha with rfl | ⟨da, rfl⟩
    · exact v45_1 hx ok hg hk
    · exact v45_1 hx ok hg hk
end K01
set_option Elab.async false
set_option linter.all false
set_option maxRecDepth 100000
set_option maxHeartbeats 1000000
set_option exponentiation.threshold 9500
namespace K01
open PySem PySem.Spec PyProof.Rows L2 DL KM TX
def gs25 : List (Str × Gk) := ("_law_told", .pf 4 S_told 1 []) :: gs24
def S_spoilt : DSpec := fun l ds k => ∃ (n : Nat) (x : Str), ds = [.str x] ∧ Dice n l ∧ n ≤ 800000 ∧ x.length ≤ 300 ∧ PyData.strOk x = true ∧ ∀ (y : Str) (l' : List D), TxtD (2 * x.length + 1) y → Dice (n + 3) l' → k (.str y) l'
def gs26 : List (Str × Gk) := ("_law_spoilt", .df 3 S_spoilt 1) :: gs25
def c47 : Ci := ⟨["_law_dice_here", "_law_text_here", "_law_at", "_law_sign", "_law_way"], defScope (top 47), 2, gs25, [], none, []⟩
def sg47 : List D := (("0123456789--//0 +.x" : Str).cps.toList.map fun c => (⟨#[c]⟩ : Str)).map .str
theorem sg47_ok {d : D} (h : d ∈ sg47) : ∃ z : Str, d = .str z ∧ TxtD 1 z := by
  have all : sg47.all (fun d => match d with | .str z => decide (z.length ≤ 1) && PyData.strOk z | _ => false) = true := by decide +kernel
  have := List.all_eq_true.mp all d h
  cases d <;> first | (cases this; done) | (obtain ⟨a, b⟩ := bo2 this; exact ⟨_, rfl, of_decide_eq_true a, b⟩)
theorem cut_len (x : Str) (lo hi : Option Int) : (L2.cutS x lo hi).length ≤ x.length := cutS_length x lo hi
theorem v47 (l ds : List D) (kd : D → List D → Prop) (h : S_spoilt l ds kd) : vB 40 c47 (defBody (top 47)) (rhoD c47.N l ds) (EkD kd) := by
  obtain ⟨n, x, rfl, hD, hn, hx, ok, hk⟩ := h
  have hz : 200000 < sizeLine := by rw [sizeLine_eq]; decide
  refine ⟨by omega, n, (x.length : Int) + 1, rfl, hD, by omega, by omega, by omega, fun r l1 r0 r1 hD1 => ?_⟩
  refine ⟨Nat.le_trans (show ("0123456789--//0 +.x" : Str).length ≤ 20 by decide +kernel) (by omega), n + 1, sg47, rfl, hD1, by omega, by decide +kernel, by decide +kernel, fun d l2 hd hD2 => ?_⟩
  obtain ⟨z, rfl, zl, zo⟩ := sg47_ok hd
  refine ⟨n + 1 + 1, 5, rfl, hD2, by omega, by decide, by decide, fun w l3 w0 w1 hD3 => ?_⟩
  have c1 := cut_len x none (some r)
  have o1 := ok_cut ok none (some r)
  by_cases w00 : w = 0
  · refine ⟨⟨rfl, rfl⟩, ifT (by rw [KM.eq_int, decide_eq_true w00]) ?_⟩
    exact ⟨by omega, l3, rfl, hk _ l3 ⟨by omega, o1⟩ (hD3.mono (by omega))⟩
  · refine ⟨⟨rfl, rfl⟩, ifF (by rw [KM.eq_int, decide_eq_false w00]) ?_⟩
    by_cases w10 : w = 1
    · refine ⟨⟨rfl, rfl⟩, ifT (by rw [KM.eq_int, decide_eq_true w10]) ?_⟩
      have c2 := cut_len x (some (r + 1)) none
      have o2 := ok_cut ok (some (r + 1)) none
      exact ⟨by omega, by omega, by omega, l3, rfl, hk _ l3 ⟨by rw [app_len]; omega, ok_app o1 o2⟩ (hD3.mono (by omega))⟩
    · refine ⟨⟨rfl, rfl⟩, ifF (by rw [KM.eq_int, decide_eq_false w10]) ?_⟩
      have fin : ∀ q : Int, (L2.cutS x none (some r) ++ z).length ≤ 700 ∧ (L2.cutS x none (some r) ++ z).length + (L2.cutS x (some q) none).length ≤ 700 ∧ kd (.str (L2.cutS x none (some r) ++ z ++ L2.cutS x (some q) none)) l3 := fun q => by
        have c2 := cut_len x (some q) none
        have o2 := ok_cut ok (some q) none
        exact ⟨by rw [app_len]; omega, by rw [app_len]; omega, hk _ l3 ⟨by rw [app_len, app_len]; omega, ok_app (ok_app o1 zo) o2⟩ (hD3.mono (by omega))⟩
      refine ⟨by omega, by omega, ⟨rfl, rfl⟩, ?_⟩
      by_cases w20 : w = 2
      · obtain ⟨f1, f2, f3⟩ := fin (r + 0)
        exact ifT (by rw [KM.eq_int, decide_eq_true w20]) ⟨by omega, by omega, l3, rfl, f3⟩
      · obtain ⟨f1, f2, f3⟩ := fin (r + 1)
        exact ifF (by rw [KM.eq_int, decide_eq_false w20]) ⟨by omega, by omega, l3, rfl, f3⟩
end K01
set_option Elab.async false
set_option linter.all false
set_option maxRecDepth 100000
set_option maxHeartbeats 1000000
set_option exponentiation.threshold 9500
namespace K01
open PySem PySem.Spec PyProof.Rows L2 DL KM TX
/-! ### rows of a thousand digits -/
theorem fold_app (c : Nat) : ∀ (n : Nat) (acc : Array Nat), ((List.replicate n (#[c] : Array Nat)).foldl (· ++ ·) acc).toList = acc.toList ++ List.replicate n c
  | 0, acc => by simp
  | n + 1, acc => by
    rw [List.replicate_succ, List.foldl_cons, fold_app c n, Array.toList_append]
    rw [List.append_assoc]
    rfl
theorem mul_list (c : Nat) {n : Nat} (hn : 2 ≤ n) : (Txt.mul ⟨#[c]⟩ (n : Int)).cps.toList = List.replicate n c := by
  unfold Txt.mul
  rw [if_neg (by omega), if_neg (by
    have : ((n : Int) == 1) = false := by
      refine beq_eq_false_iff_ne.mpr fun e => ?_
      omega
    rw [this]
    simp [Str.length])]
  show ((List.replicate ((n : Int)).toNat (#[c] : Array Nat)).foldl (· ++ ·) #[]).toList = _
  rw [fold_app, Int.toNat_natCast]
  rfl
@[irreducible] def rowT : Str := Txt.mul "7" 1000
theorem rowT_list : rowT.cps.toList = List.replicate 1000 55 := by
  unfold rowT
  exact mul_list 55 (n := 1000) (by decide)
theorem rowT_len : rowT.length = 1000 := by rw [← str_len, rowT_list, List.length_replicate]
theorem rowT_ok : PyData.strOk rowT = true := by
  unfold PyData.strOk
  rw [Array.all_eq_true_iff_forall_mem]
  intro c hc
  have := Array.mem_toList_iff.mpr hc
  rw [rowT_list] at this
  rw [List.eq_of_mem_replicate this]
  decide
theorem dg55 : isDg 55 = true := (dg_iff 55).mpr (by omega)
theorem row_dg : AllDg (List.replicate 1000 55) := fun c hc => by rw [List.eq_of_mem_replicate hc]; exact dg55
theorem row_cons : List.replicate 1000 55 = 55 :: List.replicate 999 55 := rfl
theorem tw_row (t : List Nat) : (List.replicate 1000 55 ++ t).takeWhile isDg = List.replicate 1000 55 ++ t.takeWhile isDg := List.takeWhile_append_of_pos row_dg
theorem nEnd_row (t : List Nat) (z : Bool) : nEnd (List.replicate 1000 55 ++ t) z = if t.takeWhile isDg = [] then .inl 1000 else .inr 1000 := by
  have hd : (List.replicate 1000 55 ++ t).head? = some 55 := by rw [row_cons]; rfl
  unfold nEnd
  rw [hd, tw_row, List.length_append, List.length_replicate]
  rw [if_neg (by simp), if_neg (by omega), if_neg (by decide)]
  by_cases h : t.takeWhile isDg = []
  · rw [if_pos h, h]
    rfl
  · rw [if_neg h, if_pos]
    have : 0 < (t.takeWhile isDg).length := List.length_pos_iff.mpr h
    omega
/-- the signs that such a text may begin with -/
def sgL (b : Bool) : List Nat := if b = true then [45] else []
theorem st_sg (b : Bool) {c : Nat} (t : List Nat) (hc : c ≠ 45) : stOf (sgL b ++ c :: t) = (sgL b).length ∧ (sgL b ++ c :: t).drop (stOf (sgL b ++ c :: t)) = c :: t ∧ ((sgL b ++ c :: t)[0]? == some 45) = b := by
  cases b with
  | true => exact ⟨rfl, rfl, rfl⟩
  | false =>
    have h : ((c :: t)[0]? == some 45) = false := by simpa using hc
    have e : stOf (c :: t) = 0 := by unfold stOf; rw [h]; rfl
    show stOf (c :: t) = 0 ∧ (c :: t).drop (stOf (c :: t)) = c :: t ∧ ((c :: t)[0]? == some 45) = false
    rw [e]
    exact ⟨rfl, rfl, h⟩
theorem read_row (b : Bool) (t : List Nat) : readR (sgL b ++ (List.replicate 1000 55 ++ t)) = (if t.takeWhile isDg = [] then (if t = [] then .inl (valT (sgL b ++ List.replicate 1000 55), 1) else if t[0]? = some 47 then readB (sgL b ++ (List.replicate 1000 55 ++ t)) ((sgL b).length + 1000) else .inr ((sgL b).length + 1000)) else .inr ((sgL b).length + 1000)) := by
  have e : List.replicate 1000 55 ++ t = 55 :: (List.replicate 999 55 ++ t) := rfl
  obtain ⟨s1, s2, s3⟩ := st_sg b (c := 55) (List.replicate 999 55 ++ t) (by decide)
  rw [← e] at s1 s2 s3
  unfold readR
  rw [s3, s2, s1, nEnd_row]
  by_cases h : t.takeWhile isDg = []
  · rw [if_pos h, if_pos h]
    show (if (sgL b).length + 1000 = (sgL b ++ (List.replicate 1000 55 ++ t)).length then _ else _) = _
    by_cases h2 : t = []
    · subst h2
      rw [List.append_nil, if_pos (by rw [List.length_append, List.length_replicate]), if_pos rfl]
    · have : 0 < t.length := List.length_pos_iff.mpr h2
      rw [if_neg (by rw [List.length_append, List.length_append, List.length_replicate]; omega), if_neg h2]
      have e2 : (sgL b ++ (List.replicate 1000 55 ++ t))[(sgL b).length + 1000]? = t[0]? := by
        rw [List.getElem?_append_right (by omega), List.getElem?_append_right (by rw [List.length_replicate]; omega), List.length_replicate]
        congr 1
        omega
      rw [e2]
  · rw [if_neg h, if_neg h]
theorem read_frac (b : Bool) {c : Nat} (rest : List Nat) (hc : 49 ≤ c ∧ c ≤ 57) : readR (sgL b ++ c :: 47 :: rest) = readB (sgL b ++ c :: 47 :: rest) ((sgL b).length + 1) := by
  obtain ⟨s1, s2, s3⟩ := st_sg b (c := c) (47 :: rest) (by omega)
  have hd : isDg c = true := (dg_iff c).mpr (by omega)
  have tw : (c :: 47 :: rest).takeWhile isDg = [c] := by
    rw [List.takeWhile_cons_of_pos hd, List.takeWhile_cons_of_neg (by rw [dg47]; decide)]
  have hn : ∀ z, nEnd (c :: 47 :: rest) z = .inl 1 := fun z => by
    have h1 : (z && (c :: 47 :: rest).head? == some 48) = false := by
      have : ((c :: 47 :: rest).head? == some 48) = false := by
        have : c ≠ 48 := by omega
        simpa using this
      rw [this, Bool.and_false]
    have h2 : (c :: 47 :: rest).head? ≠ some 48 := by
      have : c ≠ 48 := by omega
      simpa using this
    unfold nEnd
    rw [h1, if_neg Bool.false_ne_true, tw, List.length_singleton, if_neg (show ¬ 1 = 0 by decide), if_neg h2, if_neg (show ¬ 1000 < 1 by decide)]
  unfold readR
  rw [s3, s2, s1, hn]
  show (if (sgL b).length + 1 = (sgL b ++ c :: 47 :: rest).length then _ else if (sgL b ++ c :: 47 :: rest)[(sgL b).length + 1]? = some 47 then _ else _) = _
  have e2 : (sgL b ++ c :: 47 :: rest)[(sgL b).length + 1]? = some 47 := by
    rw [List.getElem?_append_right (by omega), show (sgL b).length + 1 - (sgL b).length = 1 by omega]
    rfl
  rw [if_neg (by rw [List.length_append, List.length_cons, List.length_cons]; omega), e2, if_pos rfl]
theorem drop_frac (b : Bool) (c : Nat) (rest : List Nat) : (sgL b ++ c :: 47 :: rest).drop ((sgL b).length + 1 + 1) = rest := by
  cases b <;> rfl
theorem take_frac (b : Bool) (c : Nat) (rest : List Nat) : (sgL b ++ c :: 47 :: rest).take ((sgL b).length + 1) = sgL b ++ [c] := by
  cases b <;> rfl
theorem readB_row (b : Bool) (c : Nat) (t : List Nat) : readB (sgL b ++ c :: 47 :: (List.replicate 1000 55 ++ t)) ((sgL b).length + 1) =
    if t.takeWhile isDg = [] then (if t = [] then .inl (low (valT (sgL b ++ [c])) (valT (List.replicate 1000 55))) else .inr ((sgL b).length + 1002)) else .inr ((sgL b).length + 1002) := by
  unfold readB
  rw [drop_frac, take_frac, nEnd_row]
  by_cases h : t.takeWhile isDg = []
  · rw [if_pos h, if_pos h]
    show (if (sgL b).length + 1 + 1 + 1000 < (sgL b ++ c :: 47 :: (List.replicate 1000 55 ++ t)).length then _ else _) = _
    have el : (sgL b ++ c :: 47 :: (List.replicate 1000 55 ++ t)).length = (sgL b).length + 1 + 1 + 1000 + t.length := by
      rw [List.length_append, List.length_cons, List.length_cons, List.length_append, List.length_replicate]; omega
    rw [el]
    by_cases h2 : t = []
    · subst h2
      rw [if_neg (by simp), if_pos rfl, List.append_nil]
    · have : 0 < t.length := List.length_pos_iff.mpr h2
      rw [if_pos (by omega), if_neg h2]
  · rw [if_neg h, if_neg h]
theorem low_top (b : Int) (hb : 0 < b) : low 1 b = (1, b) := by
  unfold low
  rw [if_pos hb]
  have : gI 1 b = 1 := by
    unfold gI
    rw [Int.natAbs_one, Nat.gcd_one_left]; rfl
  rw [this, Int.fdiv_one, Int.fdiv_one]
end K01
set_option Elab.async false
set_option linter.all false
set_option maxRecDepth 100000
set_option maxHeartbeats 1000000
set_option exponentiation.threshold 9500
namespace K01
open PySem PySem.Spec PyProof.Rows L2 DL KM TX
def sgS (b : Bool) : Str := if b = true then "-" else ""
theorem sgS_list (b : Bool) : (sgS b).cps.toList = sgL b := by cases b <;> rfl
theorem sgS_len (b : Bool) : (sgS b).length ≤ 1 := by cases b <;> decide
theorem sgS_ok (b : Bool) : PyData.strOk (sgS b) = true := by cases b <;> decide +kernel
theorem row_list (b : Bool) : (sgS b ++ rowT).cps.toList = sgL b ++ List.replicate 1000 55 := by rw [app_list', sgS_list, rowT_list]
theorem told_row (b : Bool) : toldD (.str (sgS b ++ rowT)) = .lst [frP (valT (sgL b ++ List.replicate 1000 55), 1)] := by
  show toldL (sgS b ++ rowT).cps.toList = _
  unfold toldL
  have h := read_row b []
  rw [List.append_nil] at h
  rw [row_list, h, if_pos List.takeWhile_nil, if_pos rfl]
theorem valT_row {c : Nat} {cs : List Nat} (hc : 49 ≤ c ∧ c ≤ 57) : 0 < valT (c :: cs) := by
  rw [valT_pos (by
    have : c ≠ 45 := by omega
    simpa using this)]
  have := NumText.digitsVal_pos (c := c) (cs := cs) hc.1
  omega
theorem told_frac1 {rest : List Nat} {x : Str} (e : x.cps.toList = sgL false ++ 49 :: 47 :: rest) (hr : readB (sgL false ++ 49 :: 47 :: rest) ((sgL false).length + 1) = .inl (low (valT (sgL false ++ [49])) (valT rest))) (hp : 0 < valT rest) : toldD (.str x) = .lst [frP (1, valT rest)] := by
  show toldL x.cps.toList = _
  have v1 : valT (sgL false ++ [49]) = 1 := by decide
  unfold toldL
  rw [e, read_frac false _ ⟨by decide, by decide⟩, hr, v1, low_top _ hp]
theorem told_one : toldD (.str (("1/" : Str) ++ rowT)) = .lst [frP (1, valT (List.replicate 1000 55))] := by
  have h2 := readB_row false 49 []
  rw [List.append_nil, if_pos List.takeWhile_nil, if_pos rfl] at h2
  refine told_frac1 ?_ h2 (by rw [row_cons]; exact valT_row ⟨by decide, by decide⟩)
  rw [app_list', rowT_list]
  show ([49, 47] : List Nat) ++ List.replicate 1000 55 = [] ++ ([49, 47] ++ List.replicate 1000 55)
  rw [List.nil_append]
theorem told_more (b : Bool) : toldD (.str (sgS b ++ rowT ++ ("1" : Str))) = .int (((sgS b ++ rowT ++ ("1" : Str)).length : Nat) - 1 : Int) := by
  show toldL (sgS b ++ rowT ++ ("1" : Str)).cps.toList = _
  have e : (sgS b ++ rowT ++ ("1" : Str)).cps.toList = sgL b ++ (List.replicate 1000 55 ++ [49]) := by rw [app_list', row_list, List.append_assoc]; rfl
  have hl : (sgS b ++ rowT ++ ("1" : Str)).length = (sgL b).length + 1001 := by rw [← str_len, e, List.length_append, List.length_append, List.length_replicate]; rfl
  unfold toldL
  rw [e, read_row, hl]
  have tw : ([49] : List Nat).takeWhile isDg = [49] := List.takeWhile_cons_of_pos ((dg_iff 49).mpr (by omega))
  rw [tw, if_neg (by simp)]
  show D.int (((sgL b).length + 1000 : Nat) : Int) = _
  congr 1
  omega
theorem told_x (b : Bool) : toldD (.str (sgS b ++ rowT ++ ("x" : Str))) = .int (((sgS b ++ rowT ++ ("x" : Str)).length : Nat) - 1 : Int) := by
  show toldL (sgS b ++ rowT ++ ("x" : Str)).cps.toList = _
  have e : (sgS b ++ rowT ++ ("x" : Str)).cps.toList = sgL b ++ (List.replicate 1000 55 ++ [120]) := by rw [app_list', row_list, List.append_assoc]; rfl
  have hl : (sgS b ++ rowT ++ ("x" : Str)).length = (sgL b).length + 1001 := by rw [← str_len, e, List.length_append, List.length_append, List.length_replicate]; rfl
  unfold toldL
  rw [e, read_row, hl]
  have nd : isDg 120 = false := by
    cases h : isDg 120 with
    | false => rfl
    | true => have := (dg_iff 120).mp h; omega
  have tw : ([120] : List Nat).takeWhile isDg = [] := List.takeWhile_cons_of_neg (by rw [nd]; decide)
  rw [tw, if_pos rfl, if_neg (by simp), if_neg (by simp)]
  show D.int (((sgL b).length + 1000 : Nat) : Int) = _
  congr 1
  omega
theorem told_frac (b : Bool) : toldD (.str (sgS b ++ ("3/" : Str) ++ rowT ++ ("0" : Str))) = .int (((sgS b ++ ("3/" : Str) ++ rowT ++ ("0" : Str)).length : Nat) - 1 : Int) := by
  show toldL (sgS b ++ ("3/" : Str) ++ rowT ++ ("0" : Str)).cps.toList = _
  have e : (sgS b ++ ("3/" : Str) ++ rowT ++ ("0" : Str)).cps.toList = sgL b ++ 51 :: 47 :: (List.replicate 1000 55 ++ [48]) := by
    rw [app_list', app_list', app_list', sgS_list, rowT_list, List.append_assoc, List.append_assoc]; rfl
  have hl : (sgS b ++ ("3/" : Str) ++ rowT ++ ("0" : Str)).length = (sgL b).length + 1003 := by rw [← str_len, e, List.length_append, List.length_cons, List.length_cons, List.length_append, List.length_replicate]; rfl
  unfold toldL
  rw [e, read_frac b _ ⟨by decide, by decide⟩, readB_row, hl]
  have tw : ([48] : List Nat).takeWhile isDg = [48] := List.takeWhile_cons_of_pos ((dg_iff 48).mpr (by omega))
  rw [tw, if_neg (by simp)]
  show D.int (((sgL b).length + 1002 : Nat) : Int) = _
  congr 1
  omega
theorem int_row (b : Bool) : intOf (sgS b ++ rowT) (valT (sgL b ++ List.replicate 1000 55)) := by
  rw [← row_list]
  obtain ⟨s1, s2, s3⟩ := st_sg b (c := 55) (List.replicate 999 55) (by decide)
  rw [← row_cons] at s1 s2
  refine int_whole ?_ ?_ ?_
  · rw [row_list, s2]; exact row_dg
  · rw [row_list, s2, row_cons]; simp
  · rw [app_len, rowT_len]; have := sgS_len b; omega
theorem int_row0 : intOf rowT (valT (List.replicate 1000 55)) := by
  rw [← rowT_list]
  have st : stOf (List.replicate 1000 55) = 0 := by rw [row_cons]; rfl
  refine int_whole ?_ ?_ (by rw [rowT_len]; decide)
  · rw [rowT_list, st]; exact row_dg
  · rw [rowT_list, st, row_cons]; simp
end K01
set_option Elab.async false
set_option linter.all false
set_option maxRecDepth 100000
set_option maxHeartbeats 1000000
set_option exponentiation.threshold 9500
namespace K01
open PySem PySem.Spec PyProof.Rows L2 DL KM TX
def S_long : DSpec := fun l ds k => ∃ n : Nat, ds = [] ∧ Dice n l ∧ n ≤ 900000 ∧ ∀ l' : List D, Dice (n + 1) l' → k (.bl true) l'
def c49 : Ci := ⟨["_law_dice_here", "_law_sign", "_law_row", "_law_texts", "_law_text_here"], defScope (top 49), 4, gs26, [], none, [("_law_text_here", 0)]⟩
theorem fr_shp (v w : Int) : shp (.lst [frP (v, w)]) = true := rfl
theorem fr_same (v w : Int) : (!eqD (.lst [frP (v, w)]) (.lst [.tup [.int v, .int w]])) = false := by
  show (!(((v == v) && ((w == w) && true)) && true)) = false
  simp
theorem told_sm {x : Str} (hl : x.length ≤ 3000) (ok : PyData.strOk x = true) : ∀ y, D.str x = .str y → y.length ≤ 3000 ∧ PyData.strOk y = true := fun y e => by cases e; exact ⟨hl, ok⟩
def lenD : D → D
  | .str x => .int ((x.length : Nat) - 1 : Int)
  | _ => .non
theorem v49_2 {l1 : List D} {b : Bool} {kd : D → List D → Prop} {x y z : Str} (hx : x.length ≤ 1100 ∧ PyData.strOk x = true) (hy : y.length ≤ 1100 ∧ PyData.strOk y = true) (hz : z.length ≤ 1100 ∧ PyData.strOk z = true)
    (tx : toldD (.str x) = .int ((x.length : Nat) - 1 : Int)) (ty : toldD (.str y) = .int ((y.length : Nat) - 1 : Int)) (tz : toldD (.str z) = .int ((z.length : Nat) - 1 : Int)) (hk : kd (.bl true) l1) :
    vB 57 c49 ((defBody (top 49)).drop 3) [.io l1, .val (.str (sgS b)), .val (.str rowT), .val (.lst [.str x, .str y, .str z]), .no] (EkD kd) := by
  have hsz : 200000 < sizeLine := by rw [sizeLine_eq]; decide
  refine vcl_pure toldD (by show 3 ≤ 1000; omega) ⟨by decide, (by show 4 < 5; decide), rfl⟩ (fun d hm K hK => ?_) (fun d => ⟨rfl, rfl⟩) ?_
  · obtain ⟨w, rfl, hw⟩ : ∃ w, d = .str w ∧ w.length ≤ 1100 ∧ PyData.strOk w = true := by
      simp only [List.mem_cons, List.not_mem_nil, or_false] at hm
      rcases hm with rfl | rfl | rfl <;> exact ⟨_, rfl, by assumption⟩
    exact ⟨_, rfl, rfl, told_sm (by omega) hw.2, hK⟩
  · refine vcl_pure lenD (by show 3 ≤ 1000; omega) ⟨by decide, (by show 4 < 5; decide), rfl⟩ (fun d hm K hK => ?_) (fun d => ⟨rfl, rfl⟩) ?_
    · obtain ⟨w, rfl, hw⟩ : ∃ w, d = .str w ∧ w.length ≤ 1100 ∧ PyData.strOk w = true := by
        simp only [List.mem_cons, List.not_mem_nil, or_false] at hm
        rcases hm with rfl | rfl | rfl <;> exact ⟨_, rfl, by assumption⟩
      exact ⟨by omega, hK⟩
    · rw [List.map_cons, List.map_cons, List.map_cons, List.map_nil, tx, ty, tz]
      refine ⟨⟨rfl, rfl⟩, l1, rfl, ?_⟩
      refine (congrArg (fun t => kd (.bl t) l1) ?_).mp hk
      show true = ((_ == _) && ((_ == _) && ((_ == _) && true)))
      simp
theorem v49_1 {l1 : List D} {b : Bool} {kd : D → List D → Prop} (hk : kd (.bl true) l1) : vB 59 c49 ((defBody (top 49)).drop 1) [.io l1, .val (.str (sgS b)), .val (.str rowT), .no, .no] (EkD kd) := by
  have hz : 200000 < sizeLine := by rw [sizeLine_eq]; decide
  have sl := sgS_len b
  have rl := rowT_len
  have l1' : (sgS b ++ rowT).length ≤ 1001 := by rw [app_len]; omega
  have o1 := ok_app (sgS_ok b) rowT_ok
  have l2 : (("1/" : Str) ++ rowT).length ≤ 1002 := by rw [app_len, rl]; decide
  have o2 : PyData.strOk (("1/" : Str) ++ rowT) = true := ok_app (by decide +kernel) rowT_ok
  refine ⟨by omega, _, rfl, rfl, told_sm (by omega) o1, ?_⟩
  rw [told_row]
  refine ⟨by omega, _, int_row b, sz2, sz1, ⟨fr_shp _ _, fr_shp _ _⟩, ifF (fr_same _ _) ?_⟩
  refine ⟨by rw [rl]; show 2 + 1000 ≤ sizeLine; omega, _, rfl, rfl, told_sm (by omega) o2, ?_⟩
  rw [told_one]
  refine ⟨_, int_row0, sz2, sz1, ⟨fr_shp _ _, fr_shp _ _⟩, ifF (fr_same _ _) ?_⟩
  have m1 : (sgS b ++ rowT).length + ("1" : Str).length ≤ 1100 := by show (sgS b ++ rowT).length + 1 ≤ _; omega
  have m2 : (sgS b).length + ("3/" : Str).length ≤ 3 := by show (sgS b).length + 2 ≤ _; omega
  have m3 : (sgS b ++ ("3/" : Str)).length + rowT.length ≤ 1003 := by rw [app_len, rl]; omega
  have m4 : (sgS b ++ ("3/" : Str) ++ rowT).length + ("0" : Str).length ≤ 1100 := by rw [app_len]; show _ + 1 ≤ _; omega
  have m5 : (sgS b ++ rowT).length + ("x" : Str).length ≤ 1100 := by show (sgS b ++ rowT).length + 1 ≤ _; omega
  refine ⟨by omega, by omega, by omega, by omega, by omega, by omega, by omega, by show 3 ≤ sizeLine; omega, ?_⟩
  exact v49_2 ⟨by rw [app_len]; exact m1, ok_app o1 (by decide +kernel)⟩ ⟨by rw [app_len]; exact m4, ok_app (ok_app (ok_app (sgS_ok b) (by decide +kernel)) rowT_ok) (by decide +kernel)⟩ ⟨by rw [app_len]; exact m5, ok_app o1 (by decide +kernel)⟩ (told_more b) (told_frac b) (told_x b) hk
theorem v49 (l ds : List D) (kd : D → List D → Prop) (h : S_long l ds kd) : vB 60 c49 (defBody (top 49)) (rhoD c49.N l ds) (EkD kd) := by
  obtain ⟨n, rfl, hD, hn, hk⟩ := h
  have hz : 200000 < sizeLine := by rw [sizeLine_eq]; decide
  refine ⟨sz2, n, _, rfl, hD, by omega, by show 1 ≤ 2; decide, by show 2 < 2 ^ 60; decide, fun d l1 hd hD1 => ?_⟩
  obtain ⟨b, rfl⟩ : ∃ b, d = .str (sgS b) := by
    simp only [List.mem_cons, List.not_mem_nil, or_false] at hd
    rcases hd with rfl | rfl
    · exact ⟨false, rfl⟩
    · exact ⟨true, rfl⟩
  clear hd
  have er : Txt.mul "7" 1000 = rowT := by unfold rowT; rfl
  have main := v49_1 (l1 := l1) (b := b) (kd := kd) (hk l1 hD1)
  rw [← er] at main
  exact ⟨⟨by decide, by decide, by decide⟩, main⟩
end K01
set_option Elab.async false
set_option linter.all false
set_option maxRecDepth 100000
set_option maxHeartbeats 1000000
set_option exponentiation.threshold 9500
namespace K01
open PySem PySem.Spec PyProof.Rows L2 DL KM TX
open PySem.W (dataLt dataLe alike alikeAll rowLt AllAlike Sortable)
/-! ### the lots within a lot, in two ways -/
def dueL (xs : List Str) : Nat → List (List Str)
  | 0 => [[]]
  | i + 1 => dueL xs i ++ (dueL xs i).map fun c => c ++ [xs.getD i Str.empty]
theorem getD_get {xs : List Str} {i : Nat} (h : i < xs.length) : xs.getD i Str.empty = xs[i] := by
  rw [List.getD_eq_getElem?_getD, List.getElem?_eq_getElem h]; rfl
theorem take_snoc {xs : List Str} {i : Nat} (h : i < xs.length) : xs.take (i + 1) = xs.take i ++ [xs.getD i Str.empty] := by
  rw [List.take_add_one, List.getElem?_eq_getElem h, getD_get h]; rfl
theorem sub_one {c : List Str} {x : Str} : c.Sublist [x] ↔ c = [] ∨ c = [x] := by
  constructor
  · intro h
    cases h with
    | cons _ h => exact .inl (List.sublist_nil.mp h)
    | cons_cons _ h => exact .inr (by rw [List.sublist_nil.mp h])
  · rintro (rfl | rfl)
    · exact List.nil_sublist _
    · exact List.Sublist.refl _
theorem due_mem {xs : List Str} {c : List Str} : ∀ {i : Nat}, i ≤ xs.length → (c ∈ dueL xs i ↔ c.Sublist (xs.take i)) := by
  intro i
  induction i generalizing c with
  | zero =>
    intro _
    rw [List.take_zero, List.sublist_nil]
    exact List.mem_singleton
  | succ i ih =>
    intro h
    rw [take_snoc (by omega), List.sublist_append_iff]
    show c ∈ dueL xs i ++ (dueL xs i).map _ ↔ _
    rw [List.mem_append, ih (by omega), List.mem_map]
    constructor
    · rintro (h1 | ⟨d, h1, rfl⟩)
      · exact ⟨c, [], (List.append_nil c).symm, h1, List.nil_sublist _⟩
      · exact ⟨d, _, rfl, (ih (by omega)).mp h1, List.Sublist.refl _⟩
    · rintro ⟨a, b, rfl, h1, h2⟩
      rcases sub_one.mp h2 with rfl | rfl
      · exact .inl (by rw [List.append_nil]; exact h1)
      · exact .inr ⟨a, (ih (by omega)).mpr h1, rfl⟩
theorem due_nodup {xs : List Str} (hn : xs.Nodup) : ∀ {i : Nat}, i ≤ xs.length → (dueL xs i).Nodup := by
  intro i
  induction i with
  | zero => intro _; exact List.nodup_cons.mpr ⟨by simp, List.nodup_nil⟩
  | succ i ih =>
    intro h
    refine List.nodup_append.mpr ⟨ih (by omega), ?_, fun c hc d hd e => ?_⟩
    · refine List.pairwise_map.mpr ((ih (by omega)).imp fun {a b} ne e => ne (List.append_cancel_right e))
    · obtain ⟨a, _, rfl⟩ := List.mem_map.mp hd
      subst e
      have h1 := (due_mem (by omega)).mp hc
      have h2 : xs.getD i Str.empty ∈ xs.take i := h1.subset (List.mem_append_right _ List.mem_cons_self)
      rw [getD_get (by omega)] at h2
      obtain ⟨j, hj, e⟩ := List.getElem_of_mem h2
      rw [List.length_take] at hj
      rw [List.getElem_take] at e
      have lt : j < i := by omega
      have := List.pairwise_iff_getElem.mp hn j i (by omega) (by omega) lt
      exact this e
theorem due_len (xs : List Str) : ∀ i, (dueL xs i).length = 2 ^ i
  | 0 => rfl
  | i + 1 => by
    show (dueL xs i ++ (dueL xs i).map _).length = _
    rw [List.length_append, List.length_map, due_len xs i, Nat.pow_succ]; omega
theorem combs_mem : ∀ {xs : List Str} {s : Nat} {c : List Str}, c ∈ combs xs s ↔ c.Sublist xs ∧ c.length = s
  | xs, 0, c => by
    have e : combs xs 0 = [[]] := by cases xs <;> rfl
    rw [e, List.mem_singleton]
    exact ⟨fun h => by rw [h]; exact ⟨List.nil_sublist _, rfl⟩, fun h => List.length_eq_zero_iff.mp h.2⟩
  | [], s + 1, c => by
    show c ∈ [] ↔ _
    rw [List.sublist_nil]
    constructor
    · intro h; cases h
    · rintro ⟨rfl, h⟩; cases h
  | x :: r, s + 1, c => by
    show c ∈ (combs r s).map (x :: ·) ++ combs r (s + 1) ↔ _
    rw [List.mem_append, List.mem_map, combs_mem (xs := r) (s := s + 1)]
    constructor
    · rintro (⟨d, hd, rfl⟩ | ⟨h1, h2⟩)
      · obtain ⟨h1, h2⟩ := combs_mem.mp hd
        exact ⟨h1.cons₂ x, by rw [List.length_cons, h2]⟩
      · exact ⟨h1.cons x, h2⟩
    · rintro ⟨h1, h2⟩
      cases h1 with
      | cons _ h => exact .inr ⟨h, h2⟩
      | @cons_cons d _ _ h => exact .inl ⟨d, combs_mem.mpr ⟨h, by simpa using h2⟩, rfl⟩
theorem lots_mem {xs : List Str} {c : List Str} {L : Nat} : c ∈ lotsPre xs (L + 1) ↔ c.Sublist xs ∧ c.length ≤ L := by
  unfold lotsPre
  rw [List.mem_flatMap]
  constructor
  · rintro ⟨s, hs, hc⟩
    obtain ⟨h1, h2⟩ := combs_mem.mp hc
    have := List.mem_range.mp hs
    exact ⟨h1, by omega⟩
  · rintro ⟨h1, h2⟩
    exact ⟨c.length, List.mem_range.mpr (by omega), combs_mem.mpr ⟨h1, rfl⟩⟩
/-! ### .. and their order -/
abbrev pyC (c : List Str) : List PyData := c.map .str
def encC (c : List Str) : PyData := .tuple [.int (c.length : Nat), .tuple (pyC c)]
abbrev pairD (c : List Str) : D := .tup [.int (c.length : Nat), tupS c]
theorem pys_strs : ∀ c : List Str, toPy.toPys (c.map D.str) = pyC c
  | [] => rfl
  | x :: c => congrArg (PyData.str x :: ·) (pys_strs c)
theorem enc_eq (c : List Str) : toPy (pairD c) = encC c := by
  show PyData.tuple [.int _, .tuple (toPy.toPys (c.map D.str))] = _
  rw [pys_strs]; rfl
theorem alike_strs : ∀ c d : List Str, alikeAll (pyC c) (pyC d) = true
  | [], _ => by simp [alikeAll]
  | _ :: _, [] => by simp [alikeAll]
  | x :: c, y :: d => by
    show alikeAll (.str x :: pyC c) (.str y :: pyC d) = true
    rw [alikeAll, alike_strs c d]
    simp [alike]
theorem alike_encs (c d : List Str) : alike (encC c) (encC d) = true := by
  unfold encC
  simp [alike, alikeAll, alike_strs]
/-- the second comes later -/
def ltC (c d : List Str) : Prop := rowLt (pyC c) (pyC d) = true
theorem eqv_row : ∀ c d : List Str, PyData.eqvAll (pyC c) (pyC d) = decide (c = d)
  | [], [] => rfl
  | [], y :: d => by simp [PyData.eqvAll]
  | x :: c, [] => by simp [PyData.eqvAll]
  | x :: c, y :: d => by
    show PyData.eqvAll (.str x :: pyC c) (.str y :: pyC d) = _
    rw [PySem.W.eqv_all_cons, eqv_row c d]
    show ((x == y) && decide (c = d)) = _
    by_cases h1 : x = y <;> by_cases h2 : c = d <;> simp [h1, h2]
end K01
set_option Elab.async false
set_option linter.all false
set_option maxRecDepth 100000
set_option maxHeartbeats 1000000
set_option exponentiation.threshold 9500
namespace K01
open PySem PySem.Spec PyProof.Rows L2 DL KM TX
open PySem.W (dataLt dataLe alike alikeAll rowLt AllAlike Sortable)
theorem ltC_same {x : Str} {c d : List Str} (h : ltC c d) : ltC (x :: c) (x :: d) := by
  unfold ltC rowLt at *
  show PyProof.Rows.lexLt itemOrd (PySem.W.keyToksAll (.str x :: pyC c)) (PySem.W.keyToksAll (.str x :: pyC d)) = true
  rw [PySem.W.dataLt_cons (by simp [alike]), if_pos (by simp [PyData.eqv])]
  exact h
theorem ltC_first {x y : Str} (c d : List Str) (h : ltS x y = true) : ltC (x :: c) (y :: d) := by
  unfold ltC rowLt
  show PyProof.Rows.lexLt itemOrd (PySem.W.keyToksAll (.str x :: pyC c)) (PySem.W.keyToksAll (.str y :: pyC d)) = true
  have ne : x ≠ y := fun e => by rw [e, ltS_irr] at h; cases h
  rw [PySem.W.dataLt_cons (by simp [alike]), if_neg (by simp [PyData.eqv, ne]), PySem.W.dataLt_str]
  exact h
theorem ltC_irr (c : List Str) : ¬ ltC c c := fun h => by
  unfold ltC rowLt at h
  rw [lex_irrefl] at h
  cases h
theorem combs_up : ∀ {xs : List Str}, Upw xs → ∀ s, (combs xs s).Pairwise ltC
  | xs, _, 0 => by
    have e : combs xs 0 = [[]] := by cases xs <;> rfl
    rw [e]; exact List.pairwise_singleton _ _
  | [], _, s + 1 => List.Pairwise.nil
  | x :: r, h, s + 1 => by
    obtain ⟨h1, h2⟩ := List.pairwise_cons.mp h
    show ((combs r s).map (x :: ·) ++ combs r (s + 1)).Pairwise ltC
    refine List.pairwise_append.mpr ⟨List.pairwise_map.mpr ((combs_up h2 s).imp ltC_same), combs_up h2 (s + 1), fun a ha b hb => ?_⟩
    obtain ⟨c, _, rfl⟩ := List.mem_map.mp ha
    obtain ⟨b1, b2⟩ := combs_mem.mp hb
    cases b with
    | nil => cases b2
    | cons y d => exact ltC_first c d (h1 y (b1.subset List.mem_cons_self))
def ltE (c d : List Str) : Prop := dataLt (encC c) (encC d) = true
theorem ltE_len {c d : List Str} (h : c.length < d.length) : ltE c d := by
  unfold ltE encC
  rw [PySem.W.dataLt_pair (by simp [alike]) (by simp [alike, alike_strs]), if_neg (by simp only [PyData.eqv, beq_iff_eq]; omega), PySem.W.dataLt_int]
  exact decide_eq_true (by omega)
theorem ltE_row {c d : List Str} (h : c.length = d.length) (hl : ltC c d) : ltE c d := by
  have ne : c ≠ d := fun e => ltC_irr d (e ▸ hl)
  unfold ltE encC
  rw [PySem.W.dataLt_pair (by simp [alike]) (by simp [alike, alike_strs]), if_pos (by simp only [PyData.eqv, beq_iff_eq]; omega), if_neg (by
    show ¬ PyData.eqv (.tuple (pyC c)) (.tuple (pyC d)) = true
    rw [PyData.eqv, eqv_row, decide_eq_false ne]; decide), PySem.W.dataLt_tuple]
  exact hl
theorem lotsPre_up {xs : List Str} (h : Upw xs) : ∀ k, (lotsPre xs k).Pairwise ltE
  | 0 => List.Pairwise.nil
  | k + 1 => by
    rw [lotsPre_succ]
    have len : ∀ c ∈ combs xs k, c.length = k := fun c hc => (combs_mem.mp hc).2
    refine List.pairwise_append.mpr ⟨lotsPre_up h k, ?_, fun a ha b hb => ltE_len ?_⟩
    · exact (combs_up h k).imp_of_mem fun {a b} ha hb q => ltE_row (by rw [len a ha, len b hb]) q
    · rw [len b hb]
      cases k with
      | zero => cases ha
      | succ k => have := (lots_mem.mp ha).2; omega
theorem ltE_asym {c d : List Str} (h : ltE c d) : ¬ ltE d c := fun q => by
  have := PyProof.Rows.lex_trans (O := itemOrd) _ _ _ h q
  rw [lex_irrefl] at this
  cases this
theorem lots_tri {xs : List Str} (h : Upw xs) (k : Nat) : ∀ c ∈ lotsPre xs k, ∀ d ∈ lotsPre xs k, c = d ∨ ltE c d ∨ ltE d c :=
  List.Pairwise.forall_of_forall_of_flip (R := fun c d => c = d ∨ ltE c d ∨ ltE d c) (fun _ _ => .inl rfl) ((lotsPre_up h k).imp fun q => .inr (.inl q)) ((lotsPre_up h k).imp fun q => .inr (.inr q))
theorem lots_nodup {xs : List Str} (h : Upw xs) (k : Nat) : (lotsPre xs k).Nodup := (lotsPre_up h k).imp fun {a b} q e => by
  subst e
  exact ltE_asym q q
theorem lots_perm {xs : List Str} (h : Upw xs) : (dueL xs xs.length).Perm (lotsPre xs (xs.length + 1)) := by
  refine (List.perm_ext_iff_of_nodup (due_nodup (up_nodup h) (Nat.le_refl _)) (lots_nodup h _)).mpr fun c => ?_
  rw [due_mem (Nat.le_refl _), List.take_length, lots_mem]
  exact ⟨fun q => ⟨q, q.length_le⟩, fun q => q.1⟩
theorem le_pair (c d : List Str) : dataLe false toPy (pairD c) (pairD d) = true ↔ ¬ ltE d c := by
  show (!dataLt (toPy (pairD d)) (toPy (pairD c))) = true ↔ _
  rw [enc_eq, enc_eq]
  unfold ltE
  simp
theorem srt_lots {xs : List Str} (h : Upw xs) : srtD ((dueL xs xs.length).map pairD) = (lotsPre xs (xs.length + 1)).map pairD := by
  have hp : (srtD ((dueL xs xs.length).map pairD)).Perm ((lotsPre xs (xs.length + 1)).map pairD) := (List.mergeSort_perm _ _).trans ((lots_perm h).map pairD)
  refine List.Perm.eq_of_pairwise (le := fun a b => dataLe false toPy a b = true) (fun a b ha hb h1 h2 => ?_) (PySem.W.sort_pairwise (PySem.W.sortLe_total _ _ _) _) (List.pairwise_map.mpr ((lotsPre_up h _).imp fun {c d} q => (le_pair c d).mpr (ltE_asym q))) hp
  obtain ⟨c, hc, rfl⟩ := List.mem_map.mp (hp.mem_iff.mp ha)
  obtain ⟨d, hd, rfl⟩ := List.mem_map.mp hb
  rcases lots_tri h _ c hc d hd with e | q | q
  · rw [e]
  · exact absurd q ((le_pair d c).mp h2)
  · exact absurd q ((le_pair c d).mp h1)
theorem lots_filter (xs : List Str) (m : Nat) : ∀ L, (lotsPre xs (L + 1)).filter (fun c => decide (c.length ≤ m)) = lotsPre xs (min L m + 1)
  | 0 => by
    have e : combs xs 0 = [[]] := by cases xs <;> rfl
    have e1 : lotsPre xs 1 = [[]] := by rw [lotsPre_succ, e]; rfl
    rw [Nat.zero_min, e1]
    rfl
  | L + 1 => by
    rw [lotsPre_succ, List.filter_append, lots_filter xs m L]
    have len : ∀ c ∈ combs xs (L + 1), c.length = L + 1 := fun c hc => (combs_mem.mp hc).2
    by_cases h : L + 1 ≤ m
    · have e : (combs xs (L + 1)).filter (fun c => decide (c.length ≤ m)) = combs xs (L + 1) := List.filter_eq_self.mpr fun c hc => by rw [len c hc]; exact decide_eq_true h
      rw [e, Nat.min_eq_left (by omega), Nat.min_eq_left h, ← lotsPre_succ]
    · have e : (combs xs (L + 1)).filter (fun c => decide (c.length ≤ m)) = [] := List.filter_eq_nil_iff.mpr fun c hc => by rw [len c hc, decide_eq_false h]; exact Bool.false_ne_true
      rw [e, List.append_nil, Nat.min_eq_right (by omega), Nat.min_eq_right (by omega)]
theorem pys_map (l : List (List Str)) : (l.map pairD).map toPy = l.map encC := by
  rw [List.map_map]
  exact List.map_congr_left fun c _ => enc_eq c
theorem isPys_strs : ∀ c : List Str, isPy.isPys (c.map D.str) = true
  | [] => rfl
  | x :: c => by
    show (isPy (.str x) && isPy.isPys (c.map D.str)) = true
    rw [isPys_strs c]; rfl
theorem isPys_pairs : ∀ l : List (List Str), isPy.isPys (l.map pairD) = true
  | [] => rfl
  | c :: l => by
    show ((true && (isPy.isPys (c.map D.str) && true)) && isPy.isPys (l.map pairD)) = true
    rw [isPys_pairs l, isPys_strs c]; rfl
theorem depth_strs : ∀ c : List Str, PyData.depthAll (pyC c) = 0
  | [] => by simp [PyData.depthAll]
  | x :: c => by
    show PyData.depthAll (.str x :: pyC c) = 0
    rw [PyData.depthAll, depth_strs c]
    simp [PyData.depth]
theorem sort_ok (l : List (List Str)) : sortOk (l.map pairD) := by
  refine ⟨isPys_pairs l, ?_, ?_, fun d hd => ?_⟩
  · rw [pys_map]
    exact AllAlike.of alike_encs
  · rw [pys_map]
    exact Sortable.tuples fun c => ⟨_, _, rfl⟩
  · obtain ⟨c, _, rfl⟩ := List.mem_map.mp hd
    rw [enc_eq]
    unfold encC
    simp [PyData.depth, PyData.depthAll, depth_strs]
end K01
set_option Elab.async false
set_option linter.all false
set_option maxRecDepth 100000
set_option maxHeartbeats 1000000
set_option exponentiation.threshold 9500
namespace K01
open PySem PySem.Spec PyProof.Rows L2 DL KM TX
structure C3 where
  a : Addr
  b : Addr
  c : Addr
def mcs (C : C3) : List Mc := [⟨"InvalidLot", "lot", C.a, none⟩, ⟨"InvalidFraction", "fraction", C.b, none⟩, ⟨"InvalidNumber", "number ", C.c, some "given"⟩]
def isaT : List (Str × Str × Bool) := [("InvalidLot", "InvalidLot", true), ("InvalidFraction", "InvalidLot", false), ("InvalidFraction", "InvalidFraction", true), ("InvalidNumber", "InvalidLot", false), ("InvalidNumber", "InvalidFraction", false), ("InvalidNumber", "InvalidNumber", true)]
def metT (C : C3) : Option (Str × Str × List Mc × List (Str × Str × Bool)) := some ("_law_met_here", "fine", mcs C, isaT)
theorem met_lot {C : C3} {k : Str → Prop} (h : k "lot") : metP isaT (mcs C) ("InvalidLot", none) k := ⟨true, List.mem_of_getElem? (i := 0) rfl, h⟩
theorem met_frac {C : C3} {k : Str → Prop} (h : k "fraction") : metP isaT (mcs C) ("InvalidFraction", none) k := ⟨false, List.mem_of_getElem? (i := 1) rfl, true, List.mem_of_getElem? (i := 2) rfl, h⟩
theorem met_num {C : C3} {d : D} {k : Str → Prop} (py : isPy d = true) (ok : DLX.okR (toPy d)) (ln : ("number " : Str).length + (toPy d).shown.length ≤ sizeLine) (h : k (("number " : Str) ++ (toPy d).shown)) : metP isaT (mcs C) ("InvalidNumber", some ("given", d)) k :=
  ⟨false, List.mem_of_getElem? (i := 3) rfl, false, List.mem_of_getElem? (i := 4) rfl, true, List.mem_of_getElem? (i := 5) rfl, rfl, d, rfl, py, ok, ln, h⟩
/-! ### whether lots are joined, parted and listed rightly -/
abbrev lotT (xs : List Str) : D := .tup (xs.map .str)
theorem nm_len {x : Str} (h : isNm (.str x) = true) : x.length ≤ 8 := by
  obtain ⟨h1, _⟩ := bo2 (show ((decide (1 ≤ (x.length : Int)) && decide ((x.length : Int) ≤ 8)) && _) = true from h)
  have := of_decide_eq_true (bo2 h1).2
  omega
theorem isPys_lot (xs : List Str) : isPy (lotT xs) = true := isPys_strs xs
structure LotF (xs : List Str) : Prop where
  up : Upw xs
  sm : smallL (lotT xs)
  lt : isLt (lotT xs) = true
  ld : lotD (lotT xs) = xs
  st : (xs.map D.str).map strD = xs
  len : xs.length ≤ 11
  ok : ∀ x ∈ xs, PyData.strOk x = true
theorem LotD.f {xs : List Str} (h : LotD xs) : LotF xs := by
  have st : (xs.map D.str).map strD = xs := by
    rw [List.map_map]
    exact (List.map_congr_left (g := id) fun x _ => rfl).trans (List.map_id xs)
  have nm := List.all_eq_true.mp h.nm
  have ok := List.all_eq_true.mp h.ok
  refine ⟨h.up, ⟨isPys_lot xs, fun l e => ?_⟩, ?_, ?_, st, h.len, fun x hx => ok x hx⟩
  · cases e
    refine ⟨by rw [List.length_map]; have := h.len; omega, fun x hx => ?_⟩
    obtain ⟨y, hy, e⟩ := List.mem_map.mp hx
    cases e
    exact ⟨by have := nm_len (nm x hy); omega, ok x hy⟩
  · show ((xs.map D.str).all isNm && upB ((xs.map D.str).map strD)) = true
    rw [st, upB_iff.mpr h.up, Bool.and_true, List.all_map]
    exact h.nm
  · exact st
theorem lot0 : LotF [] := ⟨List.Pairwise.nil, ⟨rfl, fun l e => by cases e; exact ⟨Nat.zero_le _, fun x hx => by cases hx⟩⟩, rfl, rfl, rfl, Nat.zero_le _, fun x hx => by cases hx⟩
def gs27 : List (Str × Gk) := ("lots_of", .gf 12 S_lots 2 [.non] ["InvalidLot", "InvalidNumber"]) :: ("repr", .blt "repr") :: gs26
def c42 (C : C3) : Ci := ⟨["_law_dice_here", "_law_one", "_law_other", "_law_both", "_law_name", "_law_some", "_law_most", "_law_due_here", "_law_lot", "_law_rows", "_law_row", "_law_wrong", "_law_bad", "_law_words"], defScope (top 42), 20, gs27, ["_law_words"], metT C, [("_law_name", 10), ("_law_lot", 0), ("_law_row", 0)]⟩
/-- a value that is no lot -/
structure NoLot (w : D) : Prop where
  sm : smallL w
  no : isLt w = false
theorem v42_18 (C : C3) {l : List D} {one : List Str} {w : D} {x2 x3 x4 x5 x6 x7 x8 x9 x10 x12 x13 : Sl} {kd : D → List D → Prop} (ho : LotF one) (hw : NoLot w) (hk : kd (.bl true) l) :
    vB 62 (c42 C) ((defBody (top 42)).drop 18) [.io l, .val (lotT one), x2, x3, x4, x5, x6, x7, x8, x9, x10, .val w, x12, x13] (EkD kd) := by
  refine ⟨_, rfl, ho.sm, ?_⟩
  rw [ho.lt]
  refine ⟨by show 0 ≤ sizeLine; exact Nat.zero_le _, _, rfl, lot0.sm, w, rfl, hw.sm, ?_⟩
  rw [hw.no]
  exact ⟨l, rfl, hk⟩
end K01
set_option Elab.async false
set_option linter.all false
set_option maxRecDepth 100000
set_option maxHeartbeats 1000000
set_option exponentiation.threshold 9500
namespace K01
open PySem PySem.Spec PyProof.Rows L2 DL KM TX
/-- a value that is no number of names -/
structure BadOk (d : D) : Prop where
  py : isPy d = true
  no : ∀ (l : List D) (kd : List D → Prop) (kx : Exn → Prop), kx ("InvalidNumber", some ("given", d)) → lotsM l d kd kx
  ok : DLX.okR (toPy d)
  ln : ("number " : Str).length + (toPy d).shown.length ≤ sizeLine
  st : PyData.strOk (("number " : Str) ++ (toPy d).shown) = true
def bads : List D := [.int (-1), .bl true, .str "1", .tup [.int 1], .bl false]
theorem bad_ok : ∀ d ∈ bads, BadOk d := by
  intro d hd
  have e : ("number " : Str).length = 7 := rfl
  have hz : 200000 < sizeLine := by rw [sizeLine_eq]; decide
  simp only [bads, List.mem_cons, List.not_mem_nil, or_false] at hd
  rcases hd with rfl | rfl | rfl | rfl | rfl
  · exact ⟨rfl, fun l kd kx h => h, by show Int.natAbs _ < 10 ^ 4300; decide +kernel, Nat.le_trans (show _ ≤ 100 by decide +kernel) (by omega), by decide +kernel⟩
  · exact ⟨rfl, fun l kd kx h => h, ⟨rfl, rfl, by decide, by decide +kernel⟩, Nat.le_trans (show _ ≤ 100 by decide +kernel) (by omega), by decide +kernel⟩
  · exact ⟨rfl, fun l kd kx h => h, ⟨rfl, rfl, by decide, by decide +kernel⟩, Nat.le_trans (show _ ≤ 100 by decide +kernel) (by omega), by decide +kernel⟩
  · exact ⟨rfl, fun l kd kx h => h, ⟨by decide +kernel, by decide +kernel, by decide, by decide +kernel⟩, Nat.le_trans (show _ ≤ 100 by decide +kernel) (by omega), by decide +kernel⟩
  · exact ⟨rfl, fun l kd kx h => h, ⟨rfl, rfl, by decide, by decide +kernel⟩, Nat.le_trans (show _ ≤ 100 by decide +kernel) (by omega), by decide +kernel⟩
theorem lotsK_no {w m : D} {kd : List D → Prop} {kx : Exn → Prop} (h : isLt w = false) (hx : kx ("InvalidLot", none)) : lotsK w m kd kx := by
  cases w with
  | tup l =>
    show lotsT l m kd kx
    unfold lotsT
    rw [h]
    exact hx
  | _ => exact hx
theorem lotsK_yes {l : List D} {m : D} {kd : List D → Prop} {kx : Exn → Prop} (h : isLt (.tup l) = true) (hl : l.length ≤ 10) (hx : lotsM l m kd kx) : lotsK (.tup l) m kd kx := by
  show lotsT l m kd kx
  unfold lotsT
  rw [h, decide_eq_true hl]
  exact hx
theorem lotsK_long {l : List D} {m : D} {kd : List D → Prop} {kx : Exn → Prop} (hl : ¬ l.length ≤ 10) (hx : kx ("InvalidLot", none)) : lotsK (.tup l) m kd kx := by
  show lotsT l m kd kx
  unfold lotsT
  rw [decide_eq_false hl, Bool.and_false]
  exact hx
def ten : List D := (("abcdefghij" : Str).cps.toList.map fun c => (⟨#[c]⟩ : Str)).map .str
def elf : List D := (("abcdefghijk" : Str).cps.toList.map fun c => (⟨#[c]⟩ : Str)).map .str
theorem small_by {l : List D} (h1 : isPy (.tup l) = true) (h2 : l.length ≤ 1000) (h3 : (l.all fun x => match x with | .str y => decide (y.length ≤ 1000) && PyData.strOk y | _ => true) = true) : smallL (.tup l) := ⟨h1, fun l' e => by
  cases e
  exact ⟨h2, fun x hx => by
    have := List.all_eq_true.mp h3 _ hx
    obtain ⟨a, b⟩ := Bool.and_eq_true_iff.mp this
    exact ⟨of_decide_eq_true a, b⟩⟩⟩
theorem ten_sm : smallL (.tup ten) := small_by (by decide +kernel) (by decide +kernel) (by decide +kernel)
theorem elf_sm : smallL (.tup elf) := small_by (by decide +kernel) (by decide +kernel) (by decide +kernel)
theorem ten_lt : isLt (.tup ten) = true := by decide +kernel
theorem ten_rows : (lotsRows (ten.map strD) 1).length = 11 := by decide +kernel
theorem eq_lstrs (xs ys : List Str) : eqD (.lst (xs.map .str)) (.lst (ys.map .str)) = decide (xs = ys) := by
  show PyData.eqv (.list (toPy.toPys (xs.map D.str))) (.list (toPy.toPys (ys.map D.str))) = _
  rw [PyData.eqv, pys_strs, pys_strs, eqv_row]
theorem eq_tstrs (xs ys : List Str) : eqD (.tup (xs.map .str)) (.tup (ys.map .str)) = decide (xs = ys) := by
  show PyData.eqv (.tuple (toPy.toPys (xs.map D.str))) (.tuple (toPy.toPys (ys.map D.str))) = _
  rw [PyData.eqv, pys_strs, pys_strs, eqv_row]
def wordsS (b : D) : List Str := ["lot", "lot", "lot", "lot", "lot", ("number " : Str) ++ (toPy b).shown]
def wordsB (b : D) : List D := (wordsS b).map .str
theorem words_shp {b : D} (hb : BadOk b) : shp (.lst (wordsB b)) = true := shp_lstrs (by
  unfold wordsS
  rw [List.all_cons, List.all_cons, List.all_cons, List.all_cons, List.all_cons, List.all_cons, hb.st]
  decide +kernel)
theorem words_eq (b : D) : (!eqD (.lst (wordsB b)) (.lst (wordsB b))) = false := by
  unfold wordsB
  rw [eq_lstrs, decide_eq_true rfl]; rfl
theorem v42_17 (C : C3) {l : List D} {one : List Str} {w b : D} {x2 x3 x4 x5 x6 x7 x8 x9 x10 : Sl} {kd : D → List D → Prop} (ho : LotF one) (hw : NoLot w) (hb : BadOk b) (hk : kd (.bl true) l) :
    vB 63 (c42 C) ((defBody (top 42)).drop 17) [.io l, .val (lotT one), x2, x3, x4, x5, x6, x7, x8, x9, x10, .val w, .val b, .own (wordsB b)] (EkD kd) := by
  have hz : 200000 < sizeLine := by rw [sizeLine_eq]; decide
  refine ⟨sz1, ⟨by decide, by decide, by show 1 * 5 ≤ sizeLine; omega⟩, ⟨hb.py, hb.ok⟩, hb.ln, sz1, by show 5 + 1 ≤ sizeLine; omega, ⟨words_shp hb, words_shp hb⟩, ifF (words_eq b) ?_⟩
  refine ⟨by show 10 ≤ sizeLine; omega, .tup ten, .int 1, rfl, ten_sm, rfl, lotsK_yes ten_lt (by decide +kernel) ?_⟩
  show (shp (.int ((lotsRows (ten.map strD) 1).length : Nat)) = true ∧ _) ∧ _
  refine ⟨⟨rfl, rfl⟩, ifF ?_ (v42_18 C ho hw hk)⟩
  show (!eqD (.int ((lotsRows (ten.map strD) 1).length : Nat)) (.int 11)) = false
  rw [ten_rows, KM.eq_int]; rfl
theorem v42_11 (C : C3) {l : List D} {one some_ : List Str} {w b : D} {x2 x3 x4 x6 x7 x8 x9 x10 : Sl} {kd : D → List D → Prop} (ho : LotF one) (hs : LotF some_) (h10 : some_.length ≤ 10) (hw : NoLot w) (hb : BadOk b) (hk : kd (.bl true) l) :
    vB 69 (c42 C) ((defBody (top 42)).drop 11) [.io l, .val (lotT one), x2, x3, x4, .val (lotT some_), x6, x7, x8, x9, x10, .val w, .val b, .no] (EkD kd) := by
  have hz : 200000 < sizeLine := by rw [sizeLine_eq]; decide
  refine ⟨w, lotT one, rfl, hw.sm, ho.sm, ifF (by rw [hw.no]; rfl) (met_lot ⟨sz1, ?_⟩)⟩
  refine ⟨by show 11 ≤ sizeLine; omega, .tup elf, b, rfl, elf_sm, hb.py, lotsK_long (by decide +kernel) (met_lot ⟨by show 1 < sizeLine; omega, ?_⟩)⟩
  refine ⟨lotT one, w, rfl, ho.sm, hw.sm, ifF (by rw [hw.no, Bool.and_false]) (met_lot ⟨by show 2 < sizeLine; omega, ?_⟩)⟩
  refine ⟨w, w, rfl, hw.sm, hw.sm, ifF (by rw [hw.no]; rfl) (met_lot ⟨by show 3 < sizeLine; omega, ?_⟩)⟩
  refine ⟨w, .non, rfl, hw.sm, rfl, lotsK_no hw.no (met_lot ⟨by show 4 < sizeLine; omega, ?_⟩)⟩
  refine ⟨lotT some_, b, rfl, hs.sm, hb.py, lotsK_yes hs.lt (by rw [List.length_map]; exact h10) (hb.no _ _ _ (met_num hb.py hb.ok hb.ln ⟨by show 5 < sizeLine; omega, ?_⟩))⟩
  exact v42_17 C ho hw hb hk
end K01
set_option Elab.async false
set_option linter.all false
set_option maxRecDepth 100000
set_option maxHeartbeats 1000000
set_option exponentiation.threshold 9500
namespace K01
open PySem PySem.Spec PyProof.Rows L2 DL KM TX
/-! ### lists of lots -/
theorem toPys_rows : ∀ cs : List (List Str), toPy.toPys (cs.map tupS) = cs.map fun c => PyData.tuple (pyC c)
  | [] => rfl
  | c :: cs => by
    show PyData.tuple (toPy.toPys (c.map D.str)) :: toPy.toPys (cs.map tupS) = _
    rw [toPys_rows cs, pys_strs]; rfl
theorem isPys_rows : ∀ cs : List (List Str), isPy.isPys (cs.map tupS) = true
  | [] => rfl
  | c :: cs => by
    show (isPy.isPys (c.map D.str) && isPy.isPys (cs.map tupS)) = true
    rw [isPys_rows cs, isPys_strs]; rfl
theorem canLay_rows : ∀ {cs : List (List Str)}, (∀ c ∈ cs, c.all PyData.strOk = true) → PyData.canLayAll0 (cs.map fun c => PyData.tuple (pyC c)) = true
  | [], _ => rfl
  | c :: cs, h => by
    show (PyData.canLayAll0 (pyC c) && PyData.canLayAll0 (cs.map fun c => PyData.tuple (pyC c))) = true
    rw [canLay_rows fun c hc => h c (List.mem_cons_of_mem _ hc), canLayAll_strs', h c List.mem_cons_self]; rfl
theorem depth_rows : ∀ cs : List (List Str), PyData.depthAll (cs.map fun c => PyData.tuple (pyC c)) ≤ 1
  | [] => by simp [PyData.depthAll]
  | c :: cs => by
    show PyData.depthAll (PyData.tuple (pyC c) :: cs.map fun c => PyData.tuple (pyC c)) ≤ 1
    have := depth_rows cs
    rw [PyData.depthAll, PyData.depth, depth_strs]
    omega
theorem shp_rows {cs : List (List Str)} (h : ∀ c ∈ cs, c.all PyData.strOk = true) : shp (.lst (cs.map tupS)) = true := by
  show (isPy.isPys (cs.map tupS) && (PyData.canLayAll0 (toPy.toPys (cs.map tupS)) && decide (PyData.depthAll (toPy.toPys (cs.map tupS)) + 1 ≤ 64))) = true
  have := depth_rows cs
  rw [isPys_rows, toPys_rows, canLay_rows h, decide_eq_true (by omega)]; rfl
theorem eqv_rows : ∀ cs : List (List Str), PyData.eqvAll (cs.map fun c => PyData.tuple (pyC c)) (cs.map fun c => PyData.tuple (pyC c)) = true
  | [] => rfl
  | c :: cs => by
    show PyData.eqvAll (PyData.tuple (pyC c) :: cs.map fun c => PyData.tuple (pyC c)) (PyData.tuple (pyC c) :: cs.map fun c => PyData.tuple (pyC c)) = true
    rw [PySem.W.eqv_all_cons, eqv_rows cs, PyData.eqv, eqv_row, decide_eq_true rfl]; rfl
theorem eq_rows (cs : List (List Str)) : (!eqD (.lst (cs.map tupS)) (.lst (cs.map tupS))) = false := by
  show (!PyData.eqv (.list (toPy.toPys (cs.map tupS))) (.list (toPy.toPys (cs.map tupS)))) = false
  rw [PyData.eqv, toPys_rows, eqv_rows]; rfl
theorem lots_ok {xs : List Str} (h : LotF xs) (k : Nat) : ∀ c ∈ lotsPre xs (k + 1), c.all PyData.strOk = true := fun c hc =>
  List.all_eq_true.mpr fun x hx => h.ok x ((lots_mem.mp hc).1.subset hx)
def sndD : D → D
  | .tup [_, y] => y
  | _ => .non
def leD (m : Int) : D → Bool
  | .tup [.int k, _] => decide (k ≤ m)
  | _ => false
theorem map_snd (cs : List (List Str)) : (cs.map pairD).map sndD = cs.map tupS := by rw [List.map_map]; rfl
theorem filt_le (cs : List (List Str)) (m : Nat) : (cs.map pairD).filter (leD m) = (cs.filter fun c => decide (c.length ≤ m)).map pairD := by
  rw [List.filter_map]
  congr 1
  refine List.filter_congr fun c _ => ?_
  show decide (((c.length : Nat) : Int) ≤ (m : Int)) = _
  exact decide_eq_decide.mpr (by omega)
theorem lotsM_non {xs : List Str} (h : LotF xs) {kd : List D → Prop} {kx : Exn → Prop} (hk : kd (lotsRows xs xs.length)) : lotsM (xs.map .str) .non kd kx := by
  show kd (lotsRows ((xs.map D.str).map strD) (xs.map D.str).length)
  rw [h.st, List.length_map]; exact hk
theorem lotsM_int {xs : List Str} (h : LotF xs) {m : Nat} (hm : m ≤ 100) {kd : List D → Prop} {kx : Exn → Prop} (hk : kd (lotsRows xs (min xs.length m))) : lotsM (xs.map .str) (.int (m : Nat)) kd kx := by
  have hw : isWh (.int (m : Nat)) = true := decide_eq_true (by
    show ((m : Nat) : Int).natAbs < 10 ^ 1000
    rw [Int.natAbs_natCast]
    exact Nat.lt_of_le_of_lt hm (Nat.lt_of_lt_of_le (by decide : 100 < 10 ^ 3) (Nat.pow_le_pow_right (by decide) (by decide))))
  show (match isWh (.int (m : Nat)) && decide ((0 : Int) ≤ (m : Nat)) with
    | true => kd (lotsRows ((xs.map D.str).map strD) (min (xs.map D.str).length ((m : Nat) : Int).toNat))
    | false => kx ("InvalidNumber", some ("given", .int (m : Nat))))
  rw [hw, decide_eq_true (by omega), h.st, List.length_map, Int.toNat_natCast]
  exact hk
theorem v42_10 (C : C3) {n : Nat} {l : List D} {one some_ : List Str} {x2 x3 x4 x6 x7 x8 x9 x10 : Sl} {kd : D → List D → Prop} (ho : LotF one) (hs : LotF some_) (h10 : some_.length ≤ 10) (hD : Dice n l) (hn : n ≤ 800000) (hk : ∀ l', Dice (n + 2) l' → kd (.bl true) l') :
    vB 70 (c42 C) ((defBody (top 42)).drop 10) [.io l, .val (lotT one), x2, x3, x4, .val (lotT some_), x6, x7, x8, x9, x10, .no, .no, .no] (EkD kd) := by
  have hz : 200000 < sizeLine := by rw [sizeLine_eq]; decide
  refine ⟨n, rfl, hD, by omega, fun w l1 hw hD1 => ?_⟩
  refine ⟨sz1, by show 5 ≤ sizeLine; omega, n + 1, bads, rfl, hD1, by omega, by show 1 ≤ 5; decide, by show 5 < 2 ^ 60; decide, fun b l2 hb hD2 => ⟨sz2, ?_⟩⟩
  obtain ⟨w1, w2⟩ := no10_ok w hw
  exact v42_11 C ho hs h10 ⟨w2, w1⟩ (bad_ok b hb) (hk l2 hD2)
theorem v42_8 (C : C3) {n : Nat} {l : List D} {one some_ : List Str} {m : Nat} {d2 d3 d7 : D} {x4 : Sl} {kd : D → List D → Prop} (ho : LotF one) (hs : LotF some_) (h5 : some_.length ≤ 5) (hm : m ≤ 5) (hD : Dice n l) (hn : n ≤ 800000) (hk : ∀ l', Dice (n + 2) l' → kd (.bl true) l') (vx : vo x4) :
    vB 72 (c42 C) ((defBody (top 42)).drop 8) [.io l, .val (lotT one), .val d2, .val d3, x4, .val (lotT some_), .val (.int (m : Nat)), .val d7, .no, .val (.lst ((lotsPre some_ (some_.length + 1)).map pairD)), .no, .no, .no, .no] (EkD kd) := by
  have hz : 200000 < sizeLine := by rw [sizeLine_eq]; decide
  have len : ((lotsPre some_ (some_.length + 1)).map pairD).length ≤ 1000 := by
    rw [List.length_map, ← (lots_perm hs.up).length_eq, due_len]
    exact Nat.le_trans (Nat.pow_le_pow_right (by decide) h5) (by decide)
  have l10 : (some_.map D.str).length ≤ 10 := by rw [List.length_map]; omega
  have fst : vB 71 (c42 C) ((defBody (top 42)).drop 9) [.io l, .val (lotT one), .val d2, .val d3, x4, .val (lotT some_), .val (.int (m : Nat)), .val d7, .no, .val (.lst ((lotsPre some_ (some_.length + 1)).map pairD)), .no, .no, .no, .no] (EkD kd) := by
    rcases vx with rfl | ⟨dx, rfl⟩
    all_goals (
      refine ⟨lotT some_, .int (m : Nat), rfl, hs.sm, rfl, lotsK_yes hs.lt l10 (lotsM_int hs (by omega) ?_)⟩
      refine vcl_filt (leD m) sndD len ⟨(by show 10 ∈ [10]; decide), (by show 10 < 14; decide), rfl⟩ (fun d hd K hK => ?_) (fun d hd K hK => ?_) (fun d => ⟨rfl, rfl⟩) ?_
      · obtain ⟨c, _, rfl⟩ := List.mem_map.mp hd
        exact ⟨_, rfl, hK⟩
      · obtain ⟨c, _, rfl⟩ := List.mem_map.mp hd
        exact ⟨_, rfl, hK⟩
      · rw [filt_le, map_snd, lots_filter]
        exact ⟨⟨shp_rows (lots_ok hs _), shp_rows (lots_ok hs _)⟩, ifF (eq_rows _) (v42_10 C ho hs (by omega) hD hn hk)⟩)
  rcases vx with rfl | ⟨dx, rfl⟩
  all_goals (
    refine ⟨lotT some_, .non, rfl, hs.sm, rfl, lotsK_yes hs.lt l10 (lotsM_non hs ?_)⟩
    refine vcl_pure sndD len ⟨(by show 10 ∈ [10]; decide), (by show 10 < 14; decide), rfl⟩ (fun d hd K hK => ?_) (fun d => ⟨rfl, rfl⟩) ?_
    · obtain ⟨c, _, rfl⟩ := List.mem_map.mp hd
      exact ⟨_, rfl, hK⟩
    · rw [map_snd]
      exact ⟨⟨shp_rows (lots_ok hs _), shp_rows (lots_ok hs _)⟩, ifF (eq_rows _) fst⟩)
end K01
set_option Elab.async false
set_option linter.all false
set_option maxRecDepth 100000
set_option maxHeartbeats 1000000
set_option exponentiation.threshold 9500
namespace K01
open PySem PySem.Spec PyProof.Rows L2 DL KM TX
def pairOf : D → D
  | .tup c => .tup [.int (c.length : Nat), .tup c]
  | _ => .non
theorem map_pairOf (cs : List (List Str)) : (cs.map tupS).map pairOf = cs.map pairD := by
  rw [List.map_map]
  refine List.map_congr_left fun c _ => ?_
  show D.tup [.int ((c.map D.str).length : Nat), .tup (c.map D.str)] = _
  rw [List.length_map]
theorem v42_7 (C : C3) {n : Nat} {l : List D} {one some_ : List Str} {m : Nat} {d2 d3 : D} {x4 : Sl} {kd : D → List D → Prop} (ho : LotF one) (hs : LotF some_) (h5 : some_.length ≤ 5) (hm : m ≤ 5) (hD : Dice n l) (hn : n ≤ 800000) (hk : ∀ l', Dice (n + 2) l' → kd (.bl true) l') (vx : vo x4) :
    vB 73 (c42 C) ((defBody (top 42)).drop 7) [.io l, .val (lotT one), .val d2, .val d3, x4, .val (lotT some_), .val (.int (m : Nat)), .val (.lst ((dueL some_ some_.length).map tupS)), .no, .no, .no, .no, .no, .no] (EkD kd) := by
  have hz : 200000 < sizeLine := by rw [sizeLine_eq]; decide
  have len : ((dueL some_ some_.length).map tupS).length ≤ 1000 := by
    rw [List.length_map, due_len]
    exact Nat.le_trans (Nat.pow_le_pow_right (by decide) h5) (by decide)
  have go : ∀ y4 : Sl, vo y4 → vB 72 (c42 C) ((defBody (top 42)).drop 8) [.io l, .val (lotT one), .val d2, .val d3, y4, .val (lotT some_), .val (.int (m : Nat)), .val (.lst ((dueL some_ some_.length).map tupS)), .no, .val (.lst ((lotsPre some_ (some_.length + 1)).map pairD)), .no, .no, .no, .no] (EkD kd) :=
    fun y4 vy => v42_8 C ho hs h5 hm hD hn hk vy
  rcases vx with rfl | ⟨dx, rfl⟩
  all_goals (
    refine vcl_pure pairOf len ⟨(by show 8 ∈ [8]; decide), (by show 8 < 14; decide), rfl⟩ (fun d hd K hK => ?_) (fun d => ⟨rfl, rfl⟩) ?_
    · obtain ⟨c, _, rfl⟩ := List.mem_map.mp hd
      exact ⟨sz2, hK⟩
    · rw [map_pairOf]
      refine .inr ⟨_, .inl rfl, sort_ok _, ?_⟩
      rw [srt_lots hs.up]
      first | exact go _ (.inl rfl) | exact go _ (.inr ⟨_, rfl⟩))
def snocD (x : D) : D → D
  | .tup c => .tup (c ++ [x])
  | _ => .non
theorem map_snoc (cs : List (List Str)) (x : Str) : (cs.map tupS).map (snocD (.str x)) = (cs.map fun c => c ++ [x]).map tupS := by
  rw [List.map_map, List.map_map]
  refine List.map_congr_left fun c _ => ?_
  show D.tup (c.map D.str ++ [.str x]) = tupS (c ++ [x])
  show _ = D.tup ((c ++ [x]).map D.str)
  rw [List.map_append]; rfl
theorem v42_5 (C : C3) {n : Nat} {l : List D} {one some_ : List Str} {m : Nat} {d2 d3 : D} {kd : D → List D → Prop} (ho : LotF one) (hs : LotF some_) (h5 : some_.length ≤ 5) (hm : m ≤ 5) (hD : Dice n l) (hn : n ≤ 800000) (hk : ∀ l', Dice (n + 2) l' → kd (.bl true) l') :
    vB 75 (c42 C) ((defBody (top 42)).drop 5) [.io l, .val (lotT one), .val d2, .val d3, .no, .val (lotT some_), .val (.int (m : Nat)), .no, .no, .no, .no, .no, .no, .no] (EkD kd) := by
  have hz : 200000 < sizeLine := by rw [sizeLine_eq]; decide
  have el : (some_.map D.str).length = some_.length := List.length_map _
  refine ⟨Nat.zero_le _, sz1, ?_⟩
  refine ⟨fun i ρ => ∃ x4, ρ = [.io l, .val (lotT one), .val d2, .val d3, x4, .val (lotT some_), .val (.int (m : Nat)), .val (.lst ((dueL some_ i).map tupS)), .no, .no, .no, .no, .no, .no] ∧ vo x4, ⟨.no, rfl, .inl rfl⟩, ?_, ?_⟩
  · rintro i d ρ1 hd ⟨x4, rfl, hx⟩
    rw [List.getElem?_map] at hd
    obtain ⟨x, hx1, rfl⟩ := Option.map_eq_some_iff.mp hd
    have hi := (List.getElem?_eq_some_iff.mp hx1).1
    have ex : some_.getD i Str.empty = x := by rw [List.getD_eq_getElem?_getD, hx1]; rfl
    have len : ((dueL some_ i).map tupS).length ≤ 32 := by
      rw [List.length_map, due_len]
      exact Nat.le_trans (Nat.pow_le_pow_right (by decide) (by omega : i ≤ 5)) (by decide)
    have cl : ∀ c ∈ dueL some_ i, c.length ≤ 11 := fun c hc => by
      have := ((due_mem (by omega)).mp hc).length_le
      rw [List.length_take] at this
      omega
    have nxt : (dueL some_ i).map tupS ++ ((dueL some_ i).map fun c => c ++ [x]).map tupS = (dueL some_ (i + 1)).map tupS := by
      rw [← List.map_append, ← ex]; rfl
    rcases hx with rfl | ⟨dx, rfl⟩
    all_goals (
      refine vcl_pure (snocD (.str x)) (by omega) ⟨(by show 8 ∈ [8]; decide), (by show 8 < 14; decide), rfl⟩ (fun d hd K hK => ?_) (fun d => ⟨rfl, rfl⟩) ?_
      · obtain ⟨c, hc, rfl⟩ := List.mem_map.mp hd
        have := cl c hc
        exact ⟨sz1, by rw [List.length_map]; show c.length + 1 ≤ sizeLine; omega, hK⟩
      · rw [map_snoc]
        refine ⟨by rw [List.length_map] at len; rw [List.length_map, List.length_map, List.length_map]; omega, .val (.str x), ?_, .inr ⟨.str x, rfl⟩⟩
        rw [nxt]; rfl)
  · rintro ρ1 ⟨x4, rfl, hx⟩
    rw [el]
    exact v42_7 C ho hs h5 hm hD hn hk hx
theorem v42_4 (C : C3) {n : Nat} {l : List D} {one : List Str} {d2 d3 : D} {kd : D → List D → Prop} (ho : LotF one) (hD : Dice n l) (hn : n ≤ 700000) (hk : ∀ l', Dice (n + 15) l' → kd (.bl true) l') :
    vB 76 (c42 C) ((defBody (top 42)).drop 4) [.io l, .val (lotT one), .val d2, .val d3, .no, .no, .no, .no, .no, .no, .no, .no, .no, .no] (EkD kd) := by
  refine ⟨n, 5, rfl, hD, by omega, by decide, by decide, fun xs l1 LD ln hD1 => ?_⟩
  refine ⟨n + 12, 5, rfl, hD1, by omega, by decide, by decide, fun r l2 r0 r1 hD2 => ⟨sz2, ?_⟩⟩
  obtain ⟨m, rfl⟩ : ∃ m : Nat, r = (m : Int) := ⟨r.toNat, by omega⟩
  exact v42_5 C ho LD.f ln (by omega) hD2 (by omega) fun l' hl' => hk l' (hl'.mono (by omega))
end K01
set_option Elab.async false
set_option linter.all false
set_option maxRecDepth 100000
set_option maxHeartbeats 1000000
set_option exponentiation.threshold 9500
namespace K01
open PySem PySem.Spec PyProof.Rows L2 DL KM TX
theorem up_filter {xs : List Str} (h : Upw xs) (p : Str → Bool) : Upw (xs.filter p) := List.Pairwise.sublist List.filter_sublist h
theorem wo_eq {one : List Str} (h : Upw one) (other : List Str) : withoutS one other = (lotS (one ++ other)).filter (fun x => !decide (x ∈ other)) := by
  unfold withoutS
  refine up_one (up_filter h _) (up_filter (lotS_up _) _) fun z => ?_
  rw [List.mem_filter, List.mem_filter, lotS_mem, List.mem_append]
  by_cases q : z ∈ other <;> simp [q]
theorem co_eq {one : List Str} (h : Upw one) (other : List Str) : commonS one other = (lotS (one ++ other)).filter (fun x => decide (x ∈ one) && decide (x ∈ other)) := by
  unfold commonS
  refine up_one (up_filter h _) (up_filter (lotS_up _) _) fun z => ?_
  rw [List.mem_filter, List.mem_filter, lotS_mem, List.mem_append]
  by_cases q : z ∈ other <;> by_cases r : z ∈ one <;> simp [q, r]
theorem both_ok {one other : List Str} (h1 : LotF one) (h2 : LotF other) : ∀ x ∈ lotS (one ++ other), PyData.strOk x = true := fun x hx => by
  rcases List.mem_append.mp (lotS_mem.mp hx) with q | q
  · exact h1.ok x q
  · exact h2.ok x q
theorem all_ok {xs : List Str} (h : ∀ x ∈ xs, PyData.strOk x = true) : xs.all PyData.strOk = true := List.all_eq_true.mpr h
theorem filt_ok {xs : List Str} {p : Str → Bool} (h : ∀ x ∈ xs, PyData.strOk x = true) : (xs.filter p).all PyData.strOk = true := all_ok fun x hx => h x (List.mem_filter.mp hx).1
theorem both_len {one other : List Str} (h1 : LotF one) (h2 : LotF other) : ((lotS (one ++ other)).map D.str).length ≤ 1000 := by
  rw [List.length_map]
  have nd := up_nodup (lotS_up (one ++ other))
  have sub : lotS (one ++ other) ⊆ one ++ other := fun x hx => lotS_mem.mp hx
  have := nd.length_le_of_subset sub
  rw [List.length_append] at this
  have := h1.len
  have := h2.len
  omega
theorem tup_eq {xs ys : List Str} (h : xs = ys) : (!eqD (.tup (xs.map .str)) (.tup (ys.map .str))) = false := by rw [eq_tstrs, decide_eq_true h]; rfl
def memD (ys : List Str) (d : D) : Bool := decide (strD d ∈ ys)
theorem filt_str (xs : List Str) (p : Str → Bool) : ((xs.map D.str).filter fun d => p (strD d)).map id = (xs.filter p).map .str := by
  rw [List.map_id, List.filter_map]; rfl
/-- one, other, both as they stand behind the first two statements -/
abbrev st42 (l : List D) (one other : List Str) : Rho := [.io l, .val (lotT one), .val (lotT other), .val (.lst ((lotS (one ++ other)).map .str)), .no, .no, .no, .no, .no, .no, .no, .no, .no, .no]
theorem v42_3 (C : C3) {n : Nat} {l : List D} {one other : List Str} {kd : D → List D → Prop} (h1 : LotF one) (h2 : LotF other) (hD : Dice n l) (hn : n ≤ 700000) (hk : ∀ l', Dice (n + 15) l' → kd (.bl true) l') :
    vB 77 (c42 C) ((defBody (top 42)).drop 3) (st42 l one other) (EkD kd) := by
  refine ⟨lotT one, lotT other, rfl, h1.sm, h2.sm, ifT (by rw [h1.lt, h2.lt]; rfl) ?_⟩
  rw [h1.ld, h2.ld]
  refine vcl_filt (fun d => decide (strD d ∈ one) && decide (strD d ∈ other)) id (both_len h1 h2) ⟨(by show 4 ∈ [4]; decide), (by show 4 < 14; decide), rfl⟩ (fun d hm K hK => ?_) (fun d hm K hK => hK) (fun d => ⟨rfl, rfl⟩) ?_
  · obtain ⟨x, hx, rfl⟩ := List.mem_map.mp hm
    have ox := both_ok h1 h2 x hx
    have hK : K (decide (x ∈ one) && decide (x ∈ other)) _ := hK
    refine ⟨⟨shp_str ox, shp_strs (all_ok h1.ok)⟩, ?_⟩
    rw [inD_strs]
    by_cases q : x ∈ one
    · rw [decide_eq_true q, Bool.true_and] at hK
      refine ifT (decide_eq_true q) ⟨⟨shp_str ox, shp_strs (all_ok h2.ok)⟩, ?_⟩
      rw [inD_strs]
      exact hK
    · rw [decide_eq_false q] at hK
      exact ifF (decide_eq_false q) hK
  · rw [filt_str _ fun x => decide (x ∈ one) && decide (x ∈ other)]
    exact ⟨⟨shp_strs (by rw [co_eq h1.up]; exact filt_ok (both_ok h1 h2)), shp_strs (filt_ok (both_ok h1 h2))⟩, ifF (tup_eq (co_eq h1.up other)) (v42_4 C h1 hD hn hk)⟩
theorem v42_2 (C : C3) {n : Nat} {l : List D} {one other : List Str} {kd : D → List D → Prop} (h1 : LotF one) (h2 : LotF other) (hD : Dice n l) (hn : n ≤ 700000) (hk : ∀ l', Dice (n + 15) l' → kd (.bl true) l') :
    vB 78 (c42 C) ((defBody (top 42)).drop 2) (st42 l one other) (EkD kd) := by
  refine ⟨lotT one, lotT other, rfl, h1.sm, h2.sm, ifT (by rw [h1.lt, h2.lt]; rfl) ?_⟩
  rw [h1.ld, h2.ld]
  refine ⟨⟨shp_strs (all_ok (both_ok h1 h2)), shp_strs (all_ok (both_ok h1 h2))⟩, ifF (tup_eq rfl) ?_⟩
  refine ⟨lotT one, lotT other, rfl, h1.sm, h2.sm, ifT (by rw [h1.lt, h2.lt]; rfl) ?_⟩
  rw [h1.ld, h2.ld]
  refine vcl_filt (fun d => !decide (strD d ∈ other)) id (both_len h1 h2) ⟨(by show 4 ∈ [4]; decide), (by show 4 < 14; decide), rfl⟩ (fun d hm K hK => ?_) (fun d hm K hK => hK) (fun d => ⟨rfl, rfl⟩) ?_
  · obtain ⟨x, hx, rfl⟩ := List.mem_map.mp hm
    have ox := both_ok h1 h2 x hx
    refine ⟨⟨shp_str ox, shp_strs (all_ok h2.ok)⟩, ?_⟩
    rw [inD_strs]
    exact hK
  · rw [filt_str _ fun x => !decide (x ∈ other)]
    exact ⟨⟨shp_strs (by rw [wo_eq h1.up]; exact filt_ok (both_ok h1 h2)), shp_strs (filt_ok (both_ok h1 h2))⟩, ifF (tup_eq (wo_eq h1.up other)) (v42_3 C h1 h2 hD hn hk)⟩
def S_right : DSpec := fun l ds k => ∃ n : Nat, ds = [] ∧ Dice n l ∧ n ≤ 600000 ∧ ∀ l' : List D, Dice (n + 39) l' → k (.bl true) l'
theorem v42 (C : C3) (l ds : List D) (kd : D → List D → Prop) (h : S_right l ds kd) : vB 80 (c42 C) (defBody (top 42)) (rhoD (c42 C).N l ds) (EkD kd) := by
  obtain ⟨n, rfl, hD, hn, hk⟩ := h
  have hz : 200000 < sizeLine := by rw [sizeLine_eq]; decide
  refine ⟨n, 6, rfl, hD, by omega, by decide, by decide, fun one l1 LD1 ln1 hD1 => ?_⟩
  refine ⟨n + 12, 6, rfl, hD1, by omega, by decide, by decide, fun other l2 LD2 ln2 hD2 => ⟨sz2, ?_⟩⟩
  have h1 := LD1.f
  have h2 := LD2.f
  have a1 := h1.len
  have a2 := h2.len
  refine ⟨by rw [List.length_map, List.length_map]; omega, one ++ other, by rw [← List.map_append]; exact .t _, ?_, ?_⟩
  · rw [List.length_append]
    have : 4000 < scanBound := by decide
    omega
  · refine vcl_pure id (both_len h1 h2) ⟨(by show 4 ∈ [4]; decide), (by show 4 < 14; decide), rfl⟩ (fun d hm K hK => hK) (fun d => ⟨rfl, rfl⟩) ?_
    rw [List.map_id]
    exact v42_2 C h1 h2 hD2 (by omega) fun l' hl' => hk l' (hl'.mono (by omega))
end K01
set_option Elab.async false
set_option linter.all false
set_option maxRecDepth 100000
set_option maxHeartbeats 1000000
set_option exponentiation.threshold 9500
namespace K01
open PySem PySem.Spec PyProof.Rows L2 DL KM TX
/-! ### a number's text is read back -/
abbrev nL (n : Nat) : List Nat := (Nat.toDigits 10 n).map Char.toNat
theorem nL_digits (n : Nat) : ∀ c ∈ nL n, isDg c = true := fun c hc => (dg_iff c).mpr (TL.numL_digits n c hc)
theorem nL_ne (n : Nat) : nL n ≠ [] := TL.numL_ne n
theorem nL_val (n : Nat) : NumText.digitsVal (nL n) = n := TL.numL_val n
theorem nL_head (n : Nat) : nL n = [48 + n] ∧ n < 10 ∨ ∃ c r, nL n = c :: r ∧ 49 ≤ c ∧ c ≤ 57 := by
  induction n using Nat.strongRecOn with
  | _ n ih =>
    by_cases h : n < 10
    · exact .inl ⟨TL.numL_lt h, h⟩
    · right
      have e : nL n = nL (n / 10) ++ [48 + n % 10] := TL.numL_step (by omega)
      rcases ih (n / 10) (by omega) with ⟨e1, h1⟩ | ⟨c, r, e1, h1⟩
      · exact ⟨48 + n / 10, [48 + n % 10], by rw [e, e1]; rfl, by omega, by omega⟩
      · exact ⟨c, r ++ [48 + n % 10], by rw [e, e1]; rfl, h1⟩
theorem nL_48 {n : Nat} (h : (nL n).head? = some 48) : n = 0 ∧ nL n = [48] := by
  rcases nL_head n with ⟨e, hn⟩ | ⟨c, r, e, hc⟩
  · rw [e] at h
    have : 48 + n = 48 := by simpa using h
    have n0 : n = 0 := by omega
    exact ⟨n0, by rw [e, n0]⟩
  · rw [e] at h
    have : c = 48 := by simpa using h
    omega
theorem num_list (i : Int) : (numT i).cps.toList = sgL (decide (i < 0)) ++ nL i.natAbs := by
  unfold numT
  cases i with
  | ofNat n =>
    rw [show (decide (Int.ofNat n < 0)) = false from decide_eq_false (Int.not_lt.mpr (Int.natCast_nonneg n))]
    exact TL.tl_num n
  | negSucc n =>
    rw [show (decide (Int.negSucc n < 0)) = true from decide_eq_true (Int.negSucc_lt_zero n)]
    have e : toString (Int.negSucc n) = "-" ++ toString ((n + 1 : Nat) : Int) := rfl
    rw [e]
    have e2 : (Str.ofString ("-" ++ toString ((n + 1 : Nat) : Int))).cps.toList = [45] ++ (Str.ofString (toString ((n + 1 : Nat) : Int))).cps.toList := by
      rw [signs_ofString, signs_ofString, String.toList_append, List.map_append]; rfl
    rw [e2]
    have := TL.tl_num (n + 1)
    show [45] ++ (Str.ofString (toString ((n + 1 : Nat) : Int))).cps.toList = [45] ++ nL (n + 1)
    exact congrArg ([45] ++ ·) this
theorem nEnd_app {a t : List Nat} {z : Bool} (ad : ∀ c ∈ a, isDg c = true) (a0 : a ≠ []) (al : a.length ≤ 1000) (az : a.head? = some 48 → a = [48] ∧ z = true) (ht : t = [] ∨ ∃ c t', t = c :: t' ∧ isDg c = false) : nEnd (a ++ t) z = .inl a.length := by
  have tw : (a ++ t).takeWhile isDg = a := by
    rw [List.takeWhile_append_of_pos ad]
    rcases ht with rfl | ⟨c, t', rfl, hc⟩
    · simp
    · rw [List.takeWhile_cons_of_neg (by rw [hc]; decide), List.append_nil]
  have hd : (a ++ t).head? = a.head? := by
    cases a with
    | nil => exact absurd rfl a0
    | cons c r => rfl
  have l0 : a.length ≠ 0 := fun e => a0 (List.length_eq_zero_iff.mp e)
  unfold nEnd
  rw [hd, tw]
  by_cases h : a.head? = some 48
  · obtain ⟨e, hz⟩ := az h
    subst hz
    rw [h, if_pos rfl, e]; rfl
  · have e1 : (z && a.head? == some 48) = false := by
      have : (a.head? == some 48) = false := by simpa using h
      rw [this, Bool.and_false]
    rw [e1, if_neg Bool.false_ne_true, if_neg l0, if_neg h, if_neg (by omega)]
/-- the text of a fraction -/
def frL (p q : Int) : List Nat := sgL (decide (p < 0)) ++ (nL p.natAbs ++ if q = 1 then [] else 47 :: nL q.natAbs)
theorem valT_nL (n : Nat) : valT (nL n) = (n : Int) := by
  rw [valT_pos (by
    cases h : nL n with
    | nil => rfl
    | cons c r =>
      have := TL.numL_digits n c (by show c ∈ nL n; rw [h]; exact List.mem_cons_self)
      have : c ≠ 45 := by omega
      simpa using this), nL_val]
theorem valT_sg (p : Int) : valT (sgL (decide (p < 0)) ++ nL p.natAbs) = p := by
  by_cases h : p < 0
  · rw [decide_eq_true h]
    show -((NumText.digitsVal (nL p.natAbs) : Nat) : Int) = p
    rw [nL_val]; omega
  · rw [decide_eq_false h]
    show valT (nL p.natAbs) = p
    rw [valT_nL]; omega
theorem read_back {p q : Int} (hq : 1 ≤ q) (lp : (nL p.natAbs).length ≤ 400) (lq : (nL q.natAbs).length ≤ 400) (co : low p q = (p, q)) : readR (frL p q) = .inl (p, q) := by
  obtain ⟨c, r, ec⟩ : ∃ c r, nL p.natAbs = c :: r := by
    cases h : nL p.natAbs with
    | nil => exact absurd h (nL_ne _)
    | cons c r => exact ⟨c, r, rfl⟩
  have hc := (dg_iff c).mp (nL_digits p.natAbs c (by rw [ec]; exact List.mem_cons_self))
  let t : List Nat := if q = 1 then [] else 47 :: nL q.natAbs
  have el : frL p q = sgL (decide (p < 0)) ++ c :: (r ++ t) := by
    show sgL _ ++ (nL p.natAbs ++ t) = _
    rw [ec]; rfl
  obtain ⟨s1, s2, s3⟩ := st_sg (decide (p < 0)) (c := c) (r ++ t) (by omega)
  have ad : c :: (r ++ t) = nL p.natAbs ++ t := by rw [ec]; rfl
  have ht : t = [] ∨ ∃ c t', t = c :: t' ∧ isDg c = false := by
    show (if q = 1 then [] else _) = [] ∨ ∃ c t', (if q = 1 then [] else _) = _ ∧ _
    by_cases h : q = 1
    · rw [if_pos h]; exact .inl rfl
    · rw [if_neg h]; exact .inr ⟨47, _, rfl, dg47⟩
  have az : (nL p.natAbs).head? = some 48 → nL p.natAbs = [48] ∧ (!(decide (p < 0))) = true := fun h => by
    obtain ⟨h1, h2⟩ := nL_48 h
    refine ⟨h2, ?_⟩
    rw [decide_eq_false (by omega)]; rfl
  have n1 := nEnd_app (nL_digits p.natAbs) (nL_ne _) (by omega) az ht
  rw [el]
  unfold readR
  rw [s3, s2, s1, ad, n1]
  show (if (sgL (decide (p < 0))).length + (nL p.natAbs).length = (sgL (decide (p < 0)) ++ (nL p.natAbs ++ t)).length then _ else if (sgL (decide (p < 0)) ++ (nL p.natAbs ++ t))[(sgL (decide (p < 0))).length + (nL p.natAbs).length]? = some 47 then _ else _) = _
  by_cases h : q = 1
  · have et : t = [] := if_pos h
    rw [et, List.append_nil, if_pos (by rw [List.length_append]), valT_sg, h]
  · have et : t = 47 :: nL q.natAbs := if_neg h
    have at_ : (sgL (decide (p < 0)) ++ (nL p.natAbs ++ t))[(sgL (decide (p < 0))).length + (nL p.natAbs).length]? = some 47 := by
      rw [List.getElem?_append_right (by omega), List.getElem?_append_right (by omega), et, show (sgL (decide (p < 0))).length + (nL p.natAbs).length - (sgL (decide (p < 0))).length - (nL p.natAbs).length = 0 by omega]
      rfl
    rw [if_neg (by rw [List.length_append, List.length_append, et, List.length_cons]; omega), at_, if_pos rfl]
    unfold readB
    have e1 : (sgL (decide (p < 0)) ++ (nL p.natAbs ++ t)).drop ((sgL (decide (p < 0))).length + (nL p.natAbs).length + 1) = nL q.natAbs := by
      rw [← List.append_assoc, List.drop_append, List.drop_of_length_le (by rw [List.length_append]; omega), List.nil_append, et, List.length_append, show (sgL (decide (p < 0))).length + (nL p.natAbs).length + 1 - ((sgL (decide (p < 0))).length + (nL p.natAbs).length) = 1 by omega]
      rfl
    have e2 : (sgL (decide (p < 0)) ++ (nL p.natAbs ++ t)).take ((sgL (decide (p < 0))).length + (nL p.natAbs).length) = sgL (decide (p < 0)) ++ nL p.natAbs := by
      rw [← List.append_assoc, ← List.length_append, List.take_left]
    have hq48 : (nL q.natAbs).head? = some 48 → nL q.natAbs = [48] ∧ false = true := fun z => by
      have := (nL_48 z).1
      omega
    have n2 := nEnd_app (t := []) (z := false) (nL_digits q.natAbs) (nL_ne _) (by omega) hq48 (.inl rfl)
    rw [List.append_nil] at n2
    rw [e1, e2, n2]
    show (if (sgL (decide (p < 0))).length + (nL p.natAbs).length + 1 + (nL q.natAbs).length < (sgL (decide (p < 0)) ++ (nL p.natAbs ++ t)).length then _ else _) = _
    rw [if_neg (by rw [List.length_append, List.length_append, et, List.length_cons]; omega), valT_sg, valT_nL]
    have : ((q.natAbs : Nat) : Int) = q := by omega
    rw [this, co]
end K01
set_option Elab.async false
set_option linter.all false
set_option maxRecDepth 100000
set_option maxHeartbeats 1000000
set_option exponentiation.threshold 9500
namespace K01
open PySem PySem.Spec PyProof.Rows L2 DL KM TX
def gs28 : List (Str × Gk) := ("_law_lots_right", .df 21 S_right 0) :: ("_law_long_right", .df 5 S_long 0) :: ("max", .blt "max") :: gs27
def c50 (C : C3) : Ci := ⟨["_law_script", "_law_at", "_law_dice_here", "_law_number", "_law_due_here", "_law_turn", "_law_text_here", "_law_more", "_law_odd", "_law_wrong"], defScope (top 50), 25, gs28, ["_law_dice_here"], metT C, [("_law_at", 3), ("_law_turn", 3), ("_law_more", 3)]⟩
def forBody : List Stmt → List Stmt
  | .For _ _ b _ _ :: _ => b
  | _ => []
def body50 : List Stmt := forBody (defBody (top 50))
theorem told_shp (l : List Nat) : shp (toldL l) = true := by
  unfold toldL
  cases readR l <;> rfl
theorem told_same (l : List Nat) : (!eqD (toldL l) (toldL l)) = false := by
  unfold toldL
  cases readR l with
  | inl p =>
    show (!(((p.1 == p.1) && ((p.2 == p.2) && true)) && true)) = false
    simp
  | inr e =>
    show (!(((e : Nat) : Int) == ((e : Nat) : Int))) = false
    simp
/-- the last statements of a turn -/
theorem v50_8 (C : C3) {n : Nat} {l : List D} {s d1 d3 d4 d5 d6 d7 d8 : D} {x9 : Sl} {E : Ek} (hD : Dice n l) (hn : n ≤ 800000) (vx : vo x9) (hk : ∀ (l' : List D) (d9 : D), Dice (n + 1) l' → E.nx [.val s, .val d1, .own l', .val d3, .val d4, .val d5, .val d6, .val d7, .val d8, .val d9]) :
    vB 49 (c50 C) (body50.drop 8) [.val s, .val d1, .own l, .val d3, .val d4, .val d5, .val d6, .val d7, .val d8, x9] E := by
  have hz : 200000 < sizeLine := by rw [sizeLine_eq]; decide
  have go : ∀ (d : D) (l1 : List D), isPy d = true ∧ isFr d = false → Dice (n + 1) l1 → vB 48 (c50 C) (body50.drop 9) [.val s, .val d1, .own l1, .val d3, .val d4, .val d5, .val d6, .val d7, .val d8, .val d] E := fun d l1 hd hD1 => by
    refine ⟨d, rfl, hd.1, fun h => (by rw [hd.2] at h; cases h), ifF hd.2 (met_frac ⟨⟨by decide +kernel, by decide +kernel⟩, ifF (by decide +kernel) (hk l1 d hD1)⟩)⟩
  have lst : ∀ d ∈ [D.tup [.int 2, .int 4], .str "1/2", .int 5, .tup [.int 1, .int 0], .tup [.bl true, .int 1], .tup [], .non], isPy d = true ∧ isFr d = false := fun d hd => by
    simp only [List.mem_cons, List.not_mem_nil, or_false] at hd
    rcases hd with rfl | rfl | rfl | rfl | rfl | rfl | rfl <;> exact ⟨rfl, by decide +kernel⟩
  rcases vx with rfl | ⟨dx, rfl⟩
  all_goals exact ⟨sz2, sz2, sz2, Nat.zero_le _, by show 7 ≤ sizeLine; omega, n, _, rfl, hD, by omega, by show 1 ≤ 7; decide, by show 7 < 2 ^ 60; decide, fun d l1 hd hD1 => go d l1 (lst d hd) hD1⟩
theorem v50_6 (C : C3) {n : Nat} {l : List D} {s d1 d3 d4 d5 d6 d7 : D} {x8 x9 : Sl} {E : Ek} (hD : Dice n l) (hn : n ≤ 700000) (v8 : vo x8) (v9 : vo x9) (hk : ∀ (l' : List D) (d8 d9 : D), Dice (n + 3) l' → E.nx [.val s, .val d1, .own l', .val d3, .val d4, .val d5, .val d6, .val d7, .val d8, .val d9]) :
    vB 51 (c50 C) (body50.drop 6) [.val s, .val d1, .own l, .val d3, .val d4, .val d5, .val d6, .val d7, x8, x9] E := by
  have hz : 200000 < sizeLine := by rw [sizeLine_eq]; decide
  have lst : ∀ d ∈ [D.non, .int 5, .tup [.str "1"], .lst [.str "1"], .bl true, .tup [.int 1, .int 2]], isPy d = true ∧ toldD d = .non ∧ ∀ x, d ≠ .str x := fun d hd => by
    simp only [List.mem_cons, List.not_mem_nil, or_false] at hd
    rcases hd with rfl | rfl | rfl | rfl | rfl | rfl <;> exact ⟨rfl, rfl, fun x e => by cases e⟩
  have go : ∀ (d : D) (l1 : List D), isPy d = true ∧ toldD d = .non ∧ (∀ x, d ≠ .str x) → Dice (n + 1) l1 → vB 50 (c50 C) (body50.drop 7) [.val s, .val d1, .own l1, .val d3, .val d4, .val d5, .val d6, .val d7, .val d, x9] E := fun d l1 ⟨h1, h2, h3⟩ hD1 => by
    refine ⟨d, rfl, h1, fun x e => absurd e (h3 x), ?_⟩
    rw [h2]
    exact ⟨n + 1, rfl, hD1, by omega, fun l2 hD2 => v50_8 C hD2 (by omega) v9 fun l' d9 hl' => hk l' d d9 hl'⟩
  rcases v8 with rfl | ⟨dx, rfl⟩
  all_goals exact ⟨sz1, sz1, sz2, by show 6 ≤ sizeLine; omega, n, _, rfl, hD, by omega, by show 1 ≤ 6; decide, by show 6 < 2 ^ 60; decide, fun d l1 hd hD1 => go d l1 (lst d hd) hD1⟩
end K01
set_option Elab.async false
set_option linter.all false
set_option maxRecDepth 100000
set_option maxHeartbeats 1000000
set_option exponentiation.threshold 9500
namespace K01
open PySem PySem.Spec PyProof.Rows L2 DL KM TX
/-- three slots that are written together -/
def v3s (a b c : Sl) : Prop := (a = .no ∧ b = .no ∧ c = .no) ∨ ∃ x y z, a = .val x ∧ b = .val y ∧ c = .val z
/-- a text that the law compares -/
def txB (j : Nat) : Nat := if j = 0 then 40 else if j = 1 then 81 else 163
theorem v50_5 (C : C3) {n : Nat} {l : List D} {s d1 d3 d4 : D} {x5 x6 x7 x8 x9 : Sl} {E : Ek} (hD : Dice n l) (hn : n ≤ 600000) (v5 : v3s x5 x6 x7) (v8 : vo x8) (v9 : vo x9) (hk : ∀ (l' : List D) (d5 d6 d7 d8 d9 : D), Dice (n + 83) l' → E.nx [.val s, .val d1, .own l', .val d3, .val d4, .val d5, .val d6, .val d7, .val d8, .val d9]) :
    vB 52 (c50 C) (body50.drop 5) [.val s, .val d1, .own l, .val d3, .val d4, x5, x6, x7, x8, x9] E := by
  have hz : 200000 < sizeLine := by rw [sizeLine_eq]; decide
  refine ⟨⟨by decide, by decide⟩, fun j ρ => ∃ l' y5 y6 y7, ρ = [.val s, .val d1, .own l', .val d3, .val d4, y5, y6, y7, x8, x9] ∧ v3s y5 y6 y7 ∧ (1 ≤ j → ∃ a b c, y5 = .val a ∧ y6 = .val b ∧ y7 = .val c) ∧ Dice (n + 20 * j) l', ⟨l, x5, x6, x7, rfl, v5, fun h => absurd h (by decide), hD⟩, ?_, ?_⟩
  · rintro j d ρ1 hd ⟨l1, y5, y6, y7, rfl, vy, _, hD1⟩
    have hj : j < 4 := by
      have := (List.getElem?_eq_some_iff.mp hd).1
      rw [upto_len] at this
      omega
    -- from the drawn text on
    have go : ∀ (x : Str) (l2 : List D) (z7 : Sl), TxtD 40 x → Dice (n + 20 * j + 10) l2 → vo z7 → vB 48 (c50 C) ((forBody (body50.drop 5)).drop 1) [.val s, .val d1, .own l2, .val d3, .val d4, .val d, .val (.str x), z7, x8, x9]
        { E with nx := fun ρ => ∃ l' y5 y6 y7, ρ = [.val s, .val d1, .own l', .val d3, .val d4, y5, y6, y7, x8, x9] ∧ v3s y5 y6 y7 ∧ (1 ≤ j + 1 → ∃ a b c, y5 = .val a ∧ y6 = .val b ∧ y7 = .val c) ∧ Dice (n + 20 * (j + 1)) l', ct := fun ρ => ∃ l' y5 y6 y7, ρ = [.val s, .val d1, .own l', .val d3, .val d4, y5, y6, y7, x8, x9] ∧ v3s y5 y6 y7 ∧ (1 ≤ j + 1 → ∃ a b c, y5 = .val a ∧ y6 = .val b ∧ y7 = .val c) ∧ Dice (n + 20 * (j + 1)) l', bk := (vB 51 (c50 C) (body50.drop 6) · E) } := fun x l2 z7 hx hD2 v7 => by
      refine ⟨⟨by decide, by decide⟩, fun i ρ => ∃ l' y z, ρ = [.val s, .val d1, .own l', .val d3, .val d4, .val d, .val (.str y), z, x8, x9] ∧ vo z ∧ (1 ≤ i → ∃ c, z = .val c) ∧ TxtD (txB i) y ∧ Dice (n + 20 * j + 10 + 3 * i) l', ⟨l2, x, z7, rfl, v7, fun h => absurd h (by decide), hx, hD2⟩, ?_, ?_⟩
      · rintro i e ρ2 he ⟨l3, y, z, rfl, vz, _, hy, hD3⟩
        have hi : i < 2 := by
          have := (List.getElem?_eq_some_iff.mp he).1
          rw [upto_len] at this
          omega
        have yl : y.length ≤ 81 := by
          have := hy.len
          unfold txB at this
          split at this
          · omega
          · split at this <;> omega
        have nxt : ∀ w : Str, TxtD (2 * y.length + 1) w → TxtD (txB (i + 1)) w := fun w hw => ⟨by
          have h1 := hw.len
          have h2 := hy.len
          have i01 : i = 0 ∨ i = 1 := by omega
          rcases i01 with rfl | rfl
          · show _ ≤ 81
            have : y.length ≤ 40 := h2
            omega
          · show _ ≤ 163
            omega, hw.ok⟩
        rcases vz with rfl | ⟨dz, rfl⟩
        all_goals (
          refine ⟨.str y, rfl, rfl, told_sm (by omega) hy.ok, y, rfl, by omega, hy.ok, ⟨told_shp _, told_shp _⟩, ifF (told_same _) ?_⟩
          exact ⟨n + 20 * j + 10 + 3 * i, y, rfl, hD3, by omega, by omega, hy.ok, fun w l4 hw hD4 => ⟨l4, w, _, rfl, .inr ⟨_, rfl⟩, fun _ => ⟨_, rfl⟩, nxt w hw, hD4.mono (by omega)⟩⟩)
      · rintro ρ2 ⟨l3, y, z, rfl, vz, hz1, hy, hD3⟩
        obtain ⟨c, rfl⟩ := hz1 (by rw [upto_len]; decide)
        rw [upto_len] at hD3
        exact ⟨l3, _, _, _, rfl, .inr ⟨_, _, _, rfl, rfl, rfl⟩, fun _ => ⟨_, _, _, rfl, rfl, rfl⟩, hD3.mono (by show n + 20 * j + 10 + 3 * (2 : Int).toNat ≤ _; omega)⟩
    rcases vy with ⟨rfl, rfl, rfl⟩ | ⟨a, b, c, rfl, rfl, rfl⟩
    · exact ⟨n + 20 * j, rfl, hD1, by omega, fun x l2 hx hD2 => go x l2 _ hx hD2 (.inl rfl)⟩
    · exact ⟨n + 20 * j, rfl, hD1, by omega, fun x l2 hx hD2 => go x l2 _ hx hD2 (.inr ⟨_, rfl⟩)⟩
  · rintro ρ1 ⟨l1, y5, y6, y7, rfl, vy, h3, hD1⟩
    obtain ⟨a, b, c, rfl, rfl, rfl⟩ := h3 (by rw [upto_len]; decide)
    rw [upto_len] at hD1
    exact v50_6 C hD1 (by show n + 20 * (4 : Int).toNat ≤ _; omega) v8 v9 fun l' d8 d9 hl' => hk l' a b c d8 d9 (hl'.mono (by show n + 20 * (4 : Int).toNat + 3 ≤ _; omega))
end K01
set_option Elab.async false
set_option linter.all false
set_option maxRecDepth 100000
set_option maxHeartbeats 1000000
set_option exponentiation.threshold 9500
namespace K01
open PySem PySem.Spec PyProof.Rows L2 DL KM TX
/-- a number that the law draws -/
structure NumF (p q : Int) : Prop where
  hp : p.natAbs < 10 ^ 4
  hq : 1 ≤ q
  qB : q.natAbs < 10 ^ 41
  co : gI p q = 1
def dueS (p q : Int) : Str := numT p ++ (if q = 1 then ("" : Str) else ("/" : Str) ++ numT q)
theorem due_list {p q : Int} (h : NumF p q) : (dueS p q).cps.toList = frL p q := by
  unfold dueS frL
  rw [app_list', num_list, List.append_assoc]
  congr 2
  by_cases e : q = 1
  · rw [if_pos e, if_pos e]; rfl
  · rw [if_neg e, if_neg e, app_list', num_list]
    have := h.hq
    rw [decide_eq_false (by omega)]
    rfl
theorem frac_due {p q : Int} (h : NumF p q) : fracS (p, q) = dueS p q := by
  refine str_ext ?_
  unfold fracS dueS
  by_cases e : q = 1
  · have e' : (p, q).2 = 1 := e
    rw [if_pos e', if_pos e, app_list']
    exact (List.append_nil _).symm
  · have e' : ¬ (p, q).2 = 1 := e
    rw [if_neg e', if_neg e, app_list', app_list', app_list', app_list', app_list', List.append_assoc, List.append_assoc]
    rfl
theorem num_lens {p q : Int} (h : NumF p q) : (numT p).length ≤ 5 ∧ (numT q).length ≤ 42 := ⟨numT_len (by decide) h.hp, numT_len (by decide) h.qB⟩
theorem due_len' {p q : Int} (h : NumF p q) : (dueS p q).length ≤ 60 := by
  obtain ⟨l1, l2⟩ := num_lens h
  unfold dueS
  rw [app_len]
  split
  · show _ + 0 ≤ 60; omega
  · rw [app_len]; show _ + (1 + _) ≤ 60; omega
theorem numT_ok (i : Int) : PyData.strOk (numT i) = true := ok_str _
theorem due_ok (p q : Int) : PyData.strOk (dueS p q) = true := by
  unfold dueS
  refine ok_app (numT_ok p) ?_
  split
  · decide +kernel
  · exact ok_app (by decide +kernel) (numT_ok q)
theorem nL_len {n k : Nat} (hk : 0 < k) (h : n < 10 ^ k) : (nL n).length ≤ k := TL.numL_len hk h
theorem due_read_back {p q : Int} (h : NumF p q) : readR (dueS p q).cps.toList = .inl (p, q) := by
  rw [due_list h]
  exact read_back h.hq (Nat.le_trans (nL_len (by decide) h.hp) (by decide)) (Nat.le_trans (nL_len (by decide) h.qB) (by decide)) (low_id h.hq h.co)
theorem num_fr {p q : Int} (h : NumF p q) : isFr (frP (p, q)) = true := by
  have b1 : (10 : Nat) ^ 4 ≤ 10 ^ 1000 := Nat.pow_le_pow_right (by decide) (by decide)
  have b2 : (10 : Nat) ^ 41 ≤ 10 ^ 1000 := Nat.pow_le_pow_right (by decide) (by decide)
  show (decide (p.natAbs < 10 ^ 1000) && (decide (q.natAbs < 10 ^ 1000) && (decide (1 ≤ q) && decide (gI p q = 1)))) = true
  rw [decide_eq_true (Nat.lt_of_lt_of_le h.hp b1), decide_eq_true (Nat.lt_of_lt_of_le h.qB b2), decide_eq_true h.hq, decide_eq_true h.co]; rfl
theorem log_41 {i : Int} (h : i.natAbs < 10 ^ 41) : i.natAbs.log2 < 1920 := by
  by_cases z : i.natAbs = 0
  · rw [z]; decide
  · exact (Nat.log2_lt z (k := 1920)).mpr (Nat.lt_trans h (by decide +kernel))
theorem num_tell {p q : Int} (h : NumF p q) : tellable (p, q) := by
  obtain ⟨l1, l2⟩ := num_lens h
  exact ⟨⟨log_41 (Nat.lt_trans h.hp (by decide)), log_41 h.qB⟩, by show (numT p).length ≤ 1000; omega, by show (numT q).length ≤ 1000; omega⟩
theorem fr_eq (p q : Int) : (!eqD (frP (p, q)) (frP (p, q))) = false := by
  show (!((p == p) && ((q == q) && true))) = false
  simp
theorem v50_4 (C : C3) {n : Nat} {l : List D} {s d1 : D} {p q : Int} {x5 x6 x7 x8 x9 : Sl} {E : Ek} (hN : NumF p q) (hD : Dice n l) (hn : n ≤ 600000) (v5 : v3s x5 x6 x7) (v8 : vo x8) (v9 : vo x9) (hk : ∀ (l' : List D) (d3 d4 d5 d6 d7 d8 d9 : D), Dice (n + 83) l' → E.nx [.val s, .val d1, .own l', .val d3, .val d4, .val d5, .val d6, .val d7, .val d8, .val d9]) :
    vB 53 (c50 C) (body50.drop 4) [.val s, .val d1, .own l, .val (frP (p, q)), .val (.str (dueS p q)), x5, x6, x7, x8, x9] E := by
  have dl := due_len' hN
  refine ⟨frP (p, q), rfl, rfl, fun _ => num_tell hN, ifT (num_fr hN) ?_⟩
  have e1 : fracS (prs1 (frP (p, q))) = dueS p q := frac_due hN
  rw [e1]
  refine ⟨⟨shp_str (due_ok p q), shp_str (due_ok p q)⟩, ifF (by rw [eq_strs, decide_eq_true rfl]; rfl) ?_⟩
  refine ⟨.str (dueS p q), rfl, rfl, told_sm (by omega) (due_ok p q), ?_⟩
  show (match readR (dueS p q).cps.toList with | .inl p => _ | .inr e => _)
  rw [due_read_back hN]
  exact ⟨⟨rfl, rfl⟩, ifF (fr_eq p q) (v50_5 C hD hn v5 v8 v9 fun l' d5 d6 d7 d8 d9 hl' => hk l' _ _ d5 d6 d7 d8 d9 hl')⟩
end K01
set_option Elab.async false
set_option linter.all false
set_option maxRecDepth 100000
set_option maxHeartbeats 1000000
set_option exponentiation.threshold 9500
namespace K01
open PySem PySem.Spec PyProof.Rows L2 DL KM TX
/-- the slots behind the dice: not yet written, or all written -/
def v7s (x3 x4 x5 x6 x7 x8 x9 : Sl) : Prop := (x3 = .no ∧ x4 = .no ∧ x5 = .no ∧ x6 = .no ∧ x7 = .no ∧ x8 = .no ∧ x9 = .no) ∨ ∃ d3 d4 d5 d6 d7 d8 d9, x3 = .val d3 ∧ x4 = .val d4 ∧ x5 = .val d5 ∧ x6 = .val d6 ∧ x7 = .val d7 ∧ x8 = .val d8 ∧ x9 = .val d9
theorem v50_3 (C : C3) {n : Nat} {l : List D} {s d1 : D} {p q : Int} {x3 x4 x5 x6 x7 x8 x9 : Sl} {E : Ek} (hN : NumF p q) (hD : Dice n l) (hn : n ≤ 600000) (v : v7s x3 x4 x5 x6 x7 x8 x9) (hk : ∀ (l' : List D) (d3 d4 d5 d6 d7 d8 d9 : D), Dice (n + 83) l' → E.nx [.val s, .val d1, .own l', .val d3, .val d4, .val d5, .val d6, .val d7, .val d8, .val d9]) :
    vB 54 (c50 C) (body50.drop 3) [.val s, .val d1, .own l, .val (frP (p, q)), x4, x5, x6, x7, x8, x9] E := by
  have hz : 200000 < sizeLine := by rw [sizeLine_eq]; decide
  obtain ⟨l1, l2⟩ := num_lens hN
  have lp := log_41 (Nat.lt_trans hN.hp (by decide) : p.natAbs < 10 ^ 41)
  have lq := log_41 hN.qB
  have e1 : q = 1 → dueS p q = numT p ++ ("" : Str) := fun e => by unfold dueS; rw [if_pos e]
  have e2 : q ≠ 1 → dueS p q = numT p ++ (("/" : Str) ++ numT q) := fun e => by unfold dueS; rw [if_neg e]
  have s1 : ("/" : Str).length + (numT q).length ≤ 43 := by show 1 + _ ≤ 43; omega
  have s2 : (numT p).length + (("/" : Str) ++ numT q).length ≤ 60 := by rw [app_len]; omega
  have s3 : (numT p).length + ("" : Str).length ≤ 60 := by show _ + 0 ≤ 60; omega
  have go : ∀ {y4 y5 y6 y7 y8 y9 : Sl}, v3s y5 y6 y7 → vo y8 → vo y9 → vB 53 (c50 C) (body50.drop 4) [.val s, .val d1, .own l, .val (frP (p, q)), .val (.str (dueS p q)), y5, y6, y7, y8, y9] E := fun h5 h8 h9 => v50_4 C hN hD hn h5 h8 h9 hk
  rcases v with ⟨rfl, rfl, rfl, rfl, rfl, rfl, rfl⟩ | ⟨d3, d4, d5, d6, d7, d8, d9, rfl, rfl, rfl, rfl, rfl, rfl, rfl⟩
  · have fin := go (y4 := .no) (y5 := .no) (y6 := .no) (y7 := .no) (y8 := .no) (y9 := .no) (.inl ⟨rfl, rfl, rfl⟩) (.inl rfl) (.inl rfl)
    by_cases e : q = 1
    · rw [e1 e] at fin
      exact ⟨_, rfl, lp, _, rfl, ⟨rfl, rfl⟩, ifT (by rw [KM.eq_int, decide_eq_true e]) ⟨by exact Nat.le_trans s3 (by omega), fin⟩⟩
    · rw [e2 e] at fin
      exact ⟨_, rfl, lp, _, rfl, ⟨rfl, rfl⟩, ifF (by rw [KM.eq_int, decide_eq_false e]) ⟨_, rfl, lq, by exact Nat.le_trans s1 (by omega), by exact Nat.le_trans s2 (by omega), fin⟩⟩
  · have fin := go (y4 := .val d4) (y5 := .val d5) (y6 := .val d6) (y7 := .val d7) (y8 := .val d8) (y9 := .val d9) (.inr ⟨_, _, _, rfl, rfl, rfl⟩) (.inr ⟨_, rfl⟩) (.inr ⟨_, rfl⟩)
    by_cases e : q = 1
    · rw [e1 e] at fin
      exact ⟨_, rfl, lp, _, rfl, ⟨rfl, rfl⟩, ifT (by rw [KM.eq_int, decide_eq_true e]) ⟨by exact Nat.le_trans s3 (by omega), fin⟩⟩
    · rw [e2 e] at fin
      exact ⟨_, rfl, lp, _, rfl, ⟨rfl, rfl⟩, ifF (by rw [KM.eq_int, decide_eq_false e]) ⟨_, rfl, lq, by exact Nat.le_trans s1 (by omega), by exact Nat.le_trans s2 (by omega), fin⟩⟩
theorem num_of {t b : Int} (ht : t.natAbs < 10 ^ 4) (hb : b ≠ 0) (bB : b.natAbs < 10 ^ 41) : NumF (low t b).1 (low t b).2 := by
  obtain ⟨h1, h2, h3, h4⟩ := low_bd (t := t) hb
  exact ⟨by omega, by omega, by omega, h4⟩
theorem v50_2 (C : C3) {n : Nat} {l : List D} {s d1 : D} {x3 x4 x5 x6 x7 x8 x9 : Sl} {E : Ek} (hD : Dice n l) (hn : n ≤ 500000) (v : v7s x3 x4 x5 x6 x7 x8 x9) (hk : ∀ (l' : List D) (d3 d4 d5 d6 d7 d8 d9 : D), Dice (n + 85) l' → E.nx [.val s, .val d1, .own l', .val d3, .val d4, .val d5, .val d6, .val d7, .val d8, .val d9]) :
    vB 55 (c50 C) (body50.drop 2) [.val s, .val d1, .own l, x3, x4, x5, x6, x7, x8, x9] E := by
  have hz : 200000 < sizeLine := by rw [sizeLine_eq]; decide
  have go : ∀ (r b : Int) (l2 : List D) (y3 y4 y5 y6 y7 y8 y9 : Sl), 0 ≤ r → r < 4000 → b ≠ 0 → b.natAbs < 10 ^ 41 → Dice (n + 1 + 1) l2 → v7s y3 y4 y5 y6 y7 y8 y9 → vB 54 (c50 C) (body50.drop 3) [.val s, .val d1, .own l2, .val (frP ((low (r - 2000) b).1, (low (r - 2000) b).2)), y4, y5, y6, y7, y8, y9] E :=
    fun r b l2 y3 y4 y5 y6 y7 y8 y9 r0 r1 b0 bB hD2 vy => v50_3 C (num_of (by omega) b0 bB) hD2 (by omega) vy fun l' d3 d4 d5 d6 d7 d8 d9 hl' => hk l' d3 d4 d5 d6 d7 d8 d9 (hl'.mono (by omega))
  have lst : ∀ d ∈ [D.int 1, .int 2, .int 30, .int ((10 : Int) ^ (40 : Int).toNat + 7)], ∃ b : Int, d = .int b ∧ b ≠ 0 ∧ b.natAbs < 10 ^ 41 := fun d hd => by
    simp only [List.mem_cons, List.not_mem_nil, or_false] at hd
    rcases hd with rfl | rfl | rfl | rfl <;> exact ⟨_, rfl, by decide +kernel, by decide +kernel⟩
  have b99 : ∀ {b : Int}, b.natAbs < 10 ^ 41 → b.natAbs < 2 ^ 8999 := fun h => Nat.lt_of_lt_of_le h (Nat.le_trans (by decide +kernel : 10 ^ 41 ≤ 2 ^ 200) (Nat.pow_le_pow_right (by decide) (by decide)))
  rcases id v with ⟨rfl, rfl, rfl, rfl, rfl, rfl, rfl⟩ | ⟨d3, d4, d5, d6, d7, d8, d9, rfl, rfl, rfl, rfl, rfl, rfl, rfl⟩
  all_goals (
    refine ⟨n, 4000, rfl, hD, by omega, by decide, by decide, fun r l1 r0 r1 hD1 => ?_⟩
    refine ⟨⟨by decide, by decide +kernel⟩, by show 4 ≤ sizeLine; omega, n + 1, _, rfl, hD1, by omega, by show 1 ≤ 4; decide, by show 4 < 2 ^ 60; decide, fun d l2 hd hD2 => ?_⟩
    obtain ⟨b, rfl, b0, bB⟩ := lst d hd
    exact ⟨r - 2000, b, rfl, b0, b99 bB, go r b l2 _ _ _ _ _ _ _ r0 r1 b0 bB hD2 v⟩)
theorem v50_1 (C : C3) {l : List D} {s d1 : D} {x3 x4 x5 x6 x7 x8 x9 : Sl} {E : Ek} (hD : Dice 0 l) (v : v7s x3 x4 x5 x6 x7 x8 x9) (hk : ∀ (l' : List D) (d3 d4 d5 d6 d7 d8 d9 : D), E.nx [.val s, .val d1, .own l', .val d3, .val d4, .val d5, .val d6, .val d7, .val d8, .val d9]) :
    vB 56 (c50 C) (body50.drop 1) [.val s, .val d1, .own l, x3, x4, x5, x6, x7, x8, x9] E := by
  exact ⟨0, rfl, hD, by decide, fun l1 hD1 => v50_2 C hD1 (by decide) v fun l' d3 d4 d5 d6 d7 d8 d9 _ => hk l' d3 d4 d5 d6 d7 d8 d9⟩
def S_law : PSpec := fun ds kd _ => ∃ ns : List Int, ds = [.fls (ns.map .int)] ∧ ns.length ≤ 63 ∧ kd (.bl true)
theorem v50 (C : C3) (ds : List D) (kd : D → Prop) (kx : Exn → Prop) (h : S_law ds kd kx) : vB 60 (c50 C) (defBody (top 50)) (rho0 (c50 C).N ds) (EkP kd kx) := by
  obtain ⟨ns, rfl, hn, hk⟩ := h
  have hm : ∀ m : Int, (if 1 < (if m < 4 then m else 4) then (if m < 4 then m else 4) else 1) ≤ 4 := fun m => by split <;> split <;> omega
  have hm0 : ∀ m : Int, 1 ≤ (if 1 < (if m < 4 then m else 4) then (if m < 4 then m else 4) else 1) := fun m => by split <;> split <;> omega
  refine ⟨⟨?_, ?_⟩, fun i ρ => ρ = [.val (.fls (ns.map .int)), .no, .no, .no, .no, .no, .no, .no, .no, .no] ∨ ∃ d1 l d3 d4 d5 d6 d7 d8 d9, ρ = [.val (.fls (ns.map .int)), .val d1, .own l, .val d3, .val d4, .val d5, .val d6, .val d7, .val d8, .val d9], .inl rfl, ?_, ?_⟩
  · have := hm0 (((ns.map D.int).length : Nat) : Int)
    exact Int.le_trans (by decide) this
  · have := hm (((ns.map D.int).length : Nat) : Int)
    exact Int.lt_of_le_of_lt this (by decide)
  · rintro i d ρ1 hd hI
    have hlt := (List.getElem?_eq_some_iff.mp hd).1
    rw [upto_len] at hlt
    have hi : i < 4 := by
      have := hm (((ns.map D.int).length : Nat) : Int)
      omega
    have ed : d = .int (i : Int) := by
      rw [upto_at hlt] at hd
      exact (Option.some.inj hd).symm
    subst ed
    clear hd hlt
    rcases hI with rfl | ⟨d1, l0, d3, d4, d5, d6, d7, d8, d9, rfl⟩
    · refine ⟨ns, _, rfl, by omega, by omega, fun a b a0 aB b0 bB => ?_⟩
      have hD0 : Dice 0 [.int a, .int b, .int 0] := ⟨a, b, 0, rfl, a0, aB, b0, bB, by omega, by omega⟩
      exact v50_1 C hD0 (.inl ⟨rfl, rfl, rfl, rfl, rfl, rfl, rfl⟩) fun l' d3 d4 d5 d6 d7 d8 d9 => .inr ⟨_, l', d3, d4, d5, d6, d7, d8, d9, rfl⟩
    · refine ⟨ns, _, rfl, by omega, by omega, fun a b a0 aB b0 bB => ?_⟩
      have hD0 : Dice 0 [.int a, .int b, .int 0] := ⟨a, b, 0, rfl, a0, aB, b0, bB, by omega, by omega⟩
      exact v50_1 C hD0 (.inr ⟨_, _, _, _, _, _, _, rfl, rfl, rfl, rfl, rfl, rfl, rfl⟩) fun l' d3 d4 d5 d6 d7 d8 d9 => .inr ⟨_, l', d3, d4, d5, d6, d7, d8, d9, rfl⟩
  · rintro ρ1 (rfl | ⟨d1, l, d3, d4, d5, d6, d7, d8, d9, rfl⟩) <;> exact hk
end K01
set_option Elab.async false
set_option linter.all false
set_option maxRecDepth 100000
set_option maxHeartbeats 0
set_option exponentiation.threshold 9500
namespace K01
open PySem PySem.Spec PyProof.Rows L2 LamX DLX DL KM TX

def dd (i : Nat) (x : Str) (dv : List He.Dv := []) : He.DefD := ⟨(x, none), x, x, defArgs (top i), defBody (top i), defScope (top i), dv, []⟩
def dN : He.DefD := ⟨("InvalidNumber", some "__init__"), "__init__", "InvalidNumber.__init__", iArgs "given" ⟨34, 17, 34, 21⟩ ⟨34, 23, 34, 28⟩, iBody "given" "given" ⟨35, 8, 35, 12⟩ ⟨35, 8, 35, 18⟩ ⟨35, 21, 35, 26⟩ ⟨35, 8, 35, 26⟩, iScope "given", [], []⟩
def dP : He.DefD := ⟨("ParseError", some "__init__"), "__init__", "ParseError.__init__", iArgs "spot" ⟨30, 17, 30, 21⟩ ⟨30, 23, 30, 27⟩, iBody "spot" "spot" ⟨31, 8, 31, 12⟩ ⟨31, 8, 31, 17⟩ ⟨31, 20, 31, 24⟩ ⟨31, 8, 31, 24⟩, iScope "spot", [], []⟩
def fnL : List He.DefD := [dd 3 "is_whole", dd 4 "is_ascending", dd 5 "lot_of", dd 22 "is_name", dd 23 "is_lot", dd 6 "lowest", dd 21 "is_fraction", dd 24 "_need_fraction", dd 25 "_need_lots", dd 26 "union", dd 27 "common", dd 28 "without", dd 34 "_law_dice", dd 35 "_law_roll", dd 36 "_law_one_of", dd 38 "_law_lowest", dd 37 "_law_mixed", dd 39 "_law_names", dd 30 "fraction_text", dd 32 "_number_end", dd 31 "read_fraction", dd 40 "_law_no_lot", dd 48 "_law_text", dd 43 "_law_is_row", dd 44 "_law_can_begin", dd 45 "_law_due", dd 46 "_law_told", dd 47 "_law_spoilt", dd 49 "_law_long_right", dd 7 "parts_of", dd 29 "lots_of" [.non], dd 42 "_law_lots_right", dd 50 "law", dd 41 "_law_met_here", dN, dP]
def fa1 : List He.Fa := [.glo "is_whole", .glo "is_ascending", .glo "lot_of", .glo "is_name", .glo "is_lot", .glo "lowest", .glo "is_fraction", .glo "_need_fraction", .glo "_need_lots", .glo "union", .glo "common", .glo "without", .glo "_law_dice", .glo "_law_roll", .glo "_law_one_of", .glo "_law_lowest", .glo "_law_mixed", .glo "_law_names", .glo "fraction_text", .glo "_number_end", .glo "read_fraction", .glo "_law_no_lot", .glo "_law_text", .glo "_law_is_row", .glo "_law_can_begin", .glo "_law_due", .glo "_law_told", .glo "_law_spoilt", .glo "_law_long_right", .glo "parts_of", .glo "lots_of", .glo "_law_lots_right", .glo "law", .glo "_law_met_here"]
def fa2 : List He.Fa := [.glo "InvalidFraction", .glo "InvalidLot", .glo "InvalidNumber", .glo "ParseError", .free "isinstance", .free "int", .free "bool", .free "tuple", .free "str", .free "list", .free "set", .free "sorted", .free "abs", .free "len", .free "all", .free "min", .free "range", .free "repr", .free "max", .int "_ROOT" (10 ^ 500), .int "_LONGEST_NAME" 8, .int "_MOST_DIGITS" 1000, .int "_MOST_NAMES" 10, .str "_LETTERS" "abcdefghijklmnopqrstuvwxyz", .str "_DIGITS" "0123456789", .str "_SIGNS" "abcdefghijklmnopqrstuvwxyz0123456789", .exc "InvalidFraction", .exc "InvalidLot", .exm "InvalidLot" "InvalidLot" true, .exm "InvalidFraction" "InvalidLot" false, .exm "InvalidFraction" "InvalidFraction" true, .exm "InvalidNumber" "InvalidLot" false, .exm "InvalidNumber" "InvalidFraction" false, .exm "InvalidNumber" "InvalidNumber" true, .exm "ParseError" "ParseError" true]
def faL : List He.Fa := fa1 ++ fa2
def tfL : List He.Defn := [("_law_lots_right", none), ("law", none)]
def bmI : List Value := [.type "IndexError", .type "LookupError", .type "Exception", .type "BaseException", .type "object"]
def bmV : List Value := [.type "ValueError", .type "Exception", .type "BaseException", .type "object"]
def stopB (K : PySem.W.Frag) (x : Str) : Bool := decide (PySem.W.subIn K (.ref (He.ga K x)) (.type "StopIteration") = some false)
def exB (K : PySem.W.Frag) : Bool := He.eqO (PySem.W.nsIn K mainGlobals "gcd") (some (some (.builtin "math.gcd"))) && (fldB K "InvalidNumber" "given" bmI "IndexError.__new__" && (fldB K "ParseError" "spot" bmV "ValueError.__new__" && (stopB K "InvalidLot" && (stopB K "InvalidNumber" && decide ((He.cT K ("_law_lots_right", none)).2 ≠ (He.cT K ("law", none)).2)))))
def C3K (K : PySem.W.Frag) : C3 := ⟨He.ga K "InvalidLot", He.ga K "InvalidFraction", He.ga K "InvalidNumber"⟩
def TK (K : PySem.W.Frag) : Tb := [((He.cT K ("_law_lots_right", none)).2, "_law_lots_right.<locals>.<lambda>"), ((He.cT K ("law", none)).2, "law.<locals>.<lambda>")]
abbrev rw' := PySem.Challenge.rw_seenanddone_k01_lots_and_texts_of_fracti
theorem sc3 : FnScope c3.N ["value"] c3.sc := ⟨rfl, rfl, rfl, by decide +kernel, rfl, by decide +kernel, by decide +kernel⟩
theorem sc4 : FnScope c4.N ["values"] c4.sc := ⟨rfl, rfl, rfl, by decide +kernel, rfl, by decide +kernel, by decide +kernel⟩
theorem sc5 : FnScope c5.N ["names"] c5.sc := ⟨rfl, rfl, rfl, by decide +kernel, rfl, by decide +kernel, by decide +kernel⟩
theorem sc22 : FnScope c22.N ["value"] c22.sc := ⟨rfl, rfl, rfl, by decide +kernel, rfl, by decide +kernel, by decide +kernel⟩
theorem sc23 : FnScope c23.N ["value"] c23.sc := ⟨rfl, rfl, rfl, by decide +kernel, rfl, by decide +kernel, by decide +kernel⟩
theorem sc6 : FnScope c6.N ["top", "bottom"] c6.sc := ⟨rfl, rfl, rfl, by decide +kernel, rfl, by decide +kernel, by decide +kernel⟩
theorem sc21 : FnScope c21.N ["value"] c21.sc := ⟨rfl, rfl, rfl, by decide +kernel, rfl, by decide +kernel, by decide +kernel⟩
theorem sc24 : FnScope c24.N ["value"] c24.sc := ⟨rfl, rfl, rfl, by decide +kernel, rfl, by decide +kernel, by decide +kernel⟩
theorem sc25 : FnScope c25.N ["one", "other"] c25.sc := ⟨rfl, rfl, rfl, by decide +kernel, rfl, by decide +kernel, by decide +kernel⟩
theorem sc26 : FnScope c26.N ["one", "other"] c26.sc := ⟨rfl, rfl, rfl, by decide +kernel, rfl, by decide +kernel, by decide +kernel⟩
theorem sc27 : FnScope c27.N ["one", "other"] c27.sc := ⟨rfl, rfl, rfl, by decide +kernel, rfl, by decide +kernel, by decide +kernel⟩
theorem sc28 : FnScope c28.N ["one", "other"] c28.sc := ⟨rfl, rfl, rfl, by decide +kernel, rfl, by decide +kernel, by decide +kernel⟩
theorem sc34 : FnScope c34.N ["_law_script", "_law_at"] c34.sc := ⟨rfl, rfl, rfl, by decide +kernel, rfl, by decide +kernel, by decide +kernel⟩
theorem sc35 : FnScope c35.N ["_law_dice_here", "_law_total"] c35.sc := ⟨rfl, rfl, rfl, by decide +kernel, rfl, by decide +kernel, by decide +kernel⟩
theorem sc36 : FnScope c36.N ["_law_dice_here", "_law_items"] c36.sc := ⟨rfl, rfl, rfl, by decide +kernel, rfl, by decide +kernel, by decide +kernel⟩
theorem sc38 : FnScope c38.N ["_law_top", "_law_bottom"] c38.sc := ⟨rfl, rfl, rfl, by decide +kernel, rfl, by decide +kernel, by decide +kernel⟩
theorem sc37 : FnScope c37.N ["_law_dice_here", "_law_items"] c37.sc := ⟨rfl, rfl, rfl, by decide +kernel, rfl, by decide +kernel, by decide +kernel⟩
theorem sc39 : FnScope c39.N ["_law_dice_here", "_law_most"] c39.sc := ⟨rfl, rfl, rfl, by decide +kernel, rfl, by decide +kernel, by decide +kernel⟩
theorem sc30 : FnScope c30.N ["value"] c30.sc := ⟨rfl, rfl, rfl, by decide +kernel, rfl, by decide +kernel, by decide +kernel⟩
theorem sc32 : FnScope c32.N ["text", "start", "may_be_zero"] c32.sc := ⟨rfl, rfl, rfl, by decide +kernel, rfl, by decide +kernel, by decide +kernel⟩
theorem sc31 : FnScope c31.N ["text"] c31.sc := ⟨rfl, rfl, rfl, by decide +kernel, rfl, by decide +kernel, by decide +kernel⟩
theorem sc40 : FnScope c40.N ["_law_dice_here"] c40.sc := ⟨rfl, rfl, rfl, by decide +kernel, rfl, by decide +kernel, by decide +kernel⟩
theorem sc48 : FnScope c48.N ["_law_dice_here"] c48.sc := ⟨rfl, rfl, rfl, by decide +kernel, rfl, by decide +kernel, by decide +kernel⟩
theorem sc43 : FnScope c43.N ["_law_text_here"] c43.sc := ⟨rfl, rfl, rfl, by decide +kernel, rfl, by decide +kernel, by decide +kernel⟩
theorem sc44 : FnScope c44.N ["_law_text_here"] c44.sc := ⟨rfl, rfl, rfl, by decide +kernel, rfl, by decide +kernel, by decide +kernel⟩
theorem sc45 : FnScope c45.N ["_law_text_here"] c45.sc := ⟨rfl, rfl, rfl, by decide +kernel, rfl, by decide +kernel, by decide +kernel⟩
theorem sc46 : FnScope c46.N ["_law_text_here"] c46.sc := ⟨rfl, rfl, rfl, by decide +kernel, rfl, by decide +kernel, by decide +kernel⟩
theorem sc47 : FnScope c47.N ["_law_dice_here", "_law_text_here"] c47.sc := ⟨rfl, rfl, rfl, by decide +kernel, rfl, by decide +kernel, by decide +kernel⟩
theorem sc49 : FnScope c49.N ["_law_dice_here"] c49.sc := ⟨rfl, rfl, rfl, by decide +kernel, rfl, by decide +kernel, by decide +kernel⟩
theorem sq7 : FnScope ["values", "size", "found", "index", "rest"] ["values", "size"] (defScope (top 7)) := ⟨rfl, rfl, rfl, by decide +kernel, rfl, by decide +kernel, by decide +kernel⟩
theorem sc7 (k : Nat) (gs : List (Str × Gk)) : FnScope (c7 k gs).N ["values", "size"] (c7 k gs).sc := sq7
theorem sc29 : GScope c29.N ["lot", "most"] c29.sc := ⟨rfl, rfl, rfl, by decide +kernel, rfl, by decide +kernel, by decide +kernel⟩
theorem sq42 : FnScope ["_law_dice_here", "_law_one", "_law_other", "_law_both", "_law_name", "_law_some", "_law_most", "_law_due_here", "_law_lot", "_law_rows", "_law_row", "_law_wrong", "_law_bad", "_law_words"] ["_law_dice_here"] (defScope (top 42)) := ⟨rfl, rfl, rfl, by decide +kernel, rfl, by decide +kernel, by decide +kernel⟩
theorem sc42 (C : C3) : FnScope (c42 C).N ["_law_dice_here"] (c42 C).sc := sq42
theorem sq50 : FnScope ["_law_script", "_law_at", "_law_dice_here", "_law_number", "_law_due_here", "_law_turn", "_law_text_here", "_law_more", "_law_odd", "_law_wrong"] ["_law_script"] (defScope (top 50)) := ⟨rfl, rfl, rfl, by decide +kernel, rfl, by decide +kernel, by decide +kernel⟩
theorem sc50 (C : C3) : FnScope (c50 C).N ["_law_script"] (c50 C).sc := sq50
theorem sc41 : FnScope ["_law_call", "e"] ["_law_call"] (defScope (top 41)) := ⟨rfl, rfl, rfl, by decide +kernel, rfl, by decide +kernel, by decide +kernel⟩
theorem noMet {G : Gg} {base : Heap} {sc : Scope} {cd : Value} {q : Str} : ∀ x fine l isa, (none : Option (Str × Str × List Mc × List (Str × Str × Bool))) = some (x, fine, l, isa) → ∃ a ex, MetS G base sc cd q x fine l isa a ex := fun _ _ _ _ h => by cases h
section
variable {K : PySem.W.Frag} {h : Heap} {mg : Str → Option Value} {w : World}
theorem fact (c : He.SaysX faL fnL [] tfL exB w h K) (i : Nat) {f : He.Fa} (e : faL[i]? = some f) : f.ok K = true := c.t.d.facts (List.mem_of_getElem? e)
theorem fd3 (c : He.SaysX faL fnL [] tfL exB w h K) : ∃ fd, FunD K "is_whole" "is_whole" (defArgs (top 3)) (defBody (top 3)) (defScope (top 3)) [] [] (He.ga K "is_whole") fd := c.t.d.defs (d := dd 3 "is_whole") (List.mem_of_getElem? (i := 0) rfl)
theorem fd4 (c : He.SaysX faL fnL [] tfL exB w h K) : ∃ fd, FunD K "is_ascending" "is_ascending" (defArgs (top 4)) (defBody (top 4)) (defScope (top 4)) [] [] (He.ga K "is_ascending") fd := c.t.d.defs (d := dd 4 "is_ascending") (List.mem_of_getElem? (i := 1) rfl)
theorem fd5 (c : He.SaysX faL fnL [] tfL exB w h K) : ∃ fd, FunD K "lot_of" "lot_of" (defArgs (top 5)) (defBody (top 5)) (defScope (top 5)) [] [] (He.ga K "lot_of") fd := c.t.d.defs (d := dd 5 "lot_of") (List.mem_of_getElem? (i := 2) rfl)
theorem fd22 (c : He.SaysX faL fnL [] tfL exB w h K) : ∃ fd, FunD K "is_name" "is_name" (defArgs (top 22)) (defBody (top 22)) (defScope (top 22)) [] [] (He.ga K "is_name") fd := c.t.d.defs (d := dd 22 "is_name") (List.mem_of_getElem? (i := 3) rfl)
theorem fd23 (c : He.SaysX faL fnL [] tfL exB w h K) : ∃ fd, FunD K "is_lot" "is_lot" (defArgs (top 23)) (defBody (top 23)) (defScope (top 23)) [] [] (He.ga K "is_lot") fd := c.t.d.defs (d := dd 23 "is_lot") (List.mem_of_getElem? (i := 4) rfl)
theorem fd6 (c : He.SaysX faL fnL [] tfL exB w h K) : ∃ fd, FunD K "lowest" "lowest" (defArgs (top 6)) (defBody (top 6)) (defScope (top 6)) [] [] (He.ga K "lowest") fd := c.t.d.defs (d := dd 6 "lowest") (List.mem_of_getElem? (i := 5) rfl)
theorem fd21 (c : He.SaysX faL fnL [] tfL exB w h K) : ∃ fd, FunD K "is_fraction" "is_fraction" (defArgs (top 21)) (defBody (top 21)) (defScope (top 21)) [] [] (He.ga K "is_fraction") fd := c.t.d.defs (d := dd 21 "is_fraction") (List.mem_of_getElem? (i := 6) rfl)
theorem fd24 (c : He.SaysX faL fnL [] tfL exB w h K) : ∃ fd, FunD K "_need_fraction" "_need_fraction" (defArgs (top 24)) (defBody (top 24)) (defScope (top 24)) [] [] (He.ga K "_need_fraction") fd := c.t.d.defs (d := dd 24 "_need_fraction") (List.mem_of_getElem? (i := 7) rfl)
theorem fd25 (c : He.SaysX faL fnL [] tfL exB w h K) : ∃ fd, FunD K "_need_lots" "_need_lots" (defArgs (top 25)) (defBody (top 25)) (defScope (top 25)) [] [] (He.ga K "_need_lots") fd := c.t.d.defs (d := dd 25 "_need_lots") (List.mem_of_getElem? (i := 8) rfl)
theorem fd26 (c : He.SaysX faL fnL [] tfL exB w h K) : ∃ fd, FunD K "union" "union" (defArgs (top 26)) (defBody (top 26)) (defScope (top 26)) [] [] (He.ga K "union") fd := c.t.d.defs (d := dd 26 "union") (List.mem_of_getElem? (i := 9) rfl)
theorem fd27 (c : He.SaysX faL fnL [] tfL exB w h K) : ∃ fd, FunD K "common" "common" (defArgs (top 27)) (defBody (top 27)) (defScope (top 27)) [] [] (He.ga K "common") fd := c.t.d.defs (d := dd 27 "common") (List.mem_of_getElem? (i := 10) rfl)
theorem fd28 (c : He.SaysX faL fnL [] tfL exB w h K) : ∃ fd, FunD K "without" "without" (defArgs (top 28)) (defBody (top 28)) (defScope (top 28)) [] [] (He.ga K "without") fd := c.t.d.defs (d := dd 28 "without") (List.mem_of_getElem? (i := 11) rfl)
theorem fd34 (c : He.SaysX faL fnL [] tfL exB w h K) : ∃ fd, FunD K "_law_dice" "_law_dice" (defArgs (top 34)) (defBody (top 34)) (defScope (top 34)) [] [] (He.ga K "_law_dice") fd := c.t.d.defs (d := dd 34 "_law_dice") (List.mem_of_getElem? (i := 12) rfl)
theorem fd35 (c : He.SaysX faL fnL [] tfL exB w h K) : ∃ fd, FunD K "_law_roll" "_law_roll" (defArgs (top 35)) (defBody (top 35)) (defScope (top 35)) [] [] (He.ga K "_law_roll") fd := c.t.d.defs (d := dd 35 "_law_roll") (List.mem_of_getElem? (i := 13) rfl)
theorem fd36 (c : He.SaysX faL fnL [] tfL exB w h K) : ∃ fd, FunD K "_law_one_of" "_law_one_of" (defArgs (top 36)) (defBody (top 36)) (defScope (top 36)) [] [] (He.ga K "_law_one_of") fd := c.t.d.defs (d := dd 36 "_law_one_of") (List.mem_of_getElem? (i := 14) rfl)
theorem fd38 (c : He.SaysX faL fnL [] tfL exB w h K) : ∃ fd, FunD K "_law_lowest" "_law_lowest" (defArgs (top 38)) (defBody (top 38)) (defScope (top 38)) [] [] (He.ga K "_law_lowest") fd := c.t.d.defs (d := dd 38 "_law_lowest") (List.mem_of_getElem? (i := 15) rfl)
theorem fd37 (c : He.SaysX faL fnL [] tfL exB w h K) : ∃ fd, FunD K "_law_mixed" "_law_mixed" (defArgs (top 37)) (defBody (top 37)) (defScope (top 37)) [] [] (He.ga K "_law_mixed") fd := c.t.d.defs (d := dd 37 "_law_mixed") (List.mem_of_getElem? (i := 16) rfl)
theorem fd39 (c : He.SaysX faL fnL [] tfL exB w h K) : ∃ fd, FunD K "_law_names" "_law_names" (defArgs (top 39)) (defBody (top 39)) (defScope (top 39)) [] [] (He.ga K "_law_names") fd := c.t.d.defs (d := dd 39 "_law_names") (List.mem_of_getElem? (i := 17) rfl)
theorem fd30 (c : He.SaysX faL fnL [] tfL exB w h K) : ∃ fd, FunD K "fraction_text" "fraction_text" (defArgs (top 30)) (defBody (top 30)) (defScope (top 30)) [] [] (He.ga K "fraction_text") fd := c.t.d.defs (d := dd 30 "fraction_text") (List.mem_of_getElem? (i := 18) rfl)
theorem fd32 (c : He.SaysX faL fnL [] tfL exB w h K) : ∃ fd, FunD K "_number_end" "_number_end" (defArgs (top 32)) (defBody (top 32)) (defScope (top 32)) [] [] (He.ga K "_number_end") fd := c.t.d.defs (d := dd 32 "_number_end") (List.mem_of_getElem? (i := 19) rfl)
theorem fd31 (c : He.SaysX faL fnL [] tfL exB w h K) : ∃ fd, FunD K "read_fraction" "read_fraction" (defArgs (top 31)) (defBody (top 31)) (defScope (top 31)) [] [] (He.ga K "read_fraction") fd := c.t.d.defs (d := dd 31 "read_fraction") (List.mem_of_getElem? (i := 20) rfl)
theorem fd40 (c : He.SaysX faL fnL [] tfL exB w h K) : ∃ fd, FunD K "_law_no_lot" "_law_no_lot" (defArgs (top 40)) (defBody (top 40)) (defScope (top 40)) [] [] (He.ga K "_law_no_lot") fd := c.t.d.defs (d := dd 40 "_law_no_lot") (List.mem_of_getElem? (i := 21) rfl)
theorem fd48 (c : He.SaysX faL fnL [] tfL exB w h K) : ∃ fd, FunD K "_law_text" "_law_text" (defArgs (top 48)) (defBody (top 48)) (defScope (top 48)) [] [] (He.ga K "_law_text") fd := c.t.d.defs (d := dd 48 "_law_text") (List.mem_of_getElem? (i := 22) rfl)
theorem fd43 (c : He.SaysX faL fnL [] tfL exB w h K) : ∃ fd, FunD K "_law_is_row" "_law_is_row" (defArgs (top 43)) (defBody (top 43)) (defScope (top 43)) [] [] (He.ga K "_law_is_row") fd := c.t.d.defs (d := dd 43 "_law_is_row") (List.mem_of_getElem? (i := 23) rfl)
theorem fd44 (c : He.SaysX faL fnL [] tfL exB w h K) : ∃ fd, FunD K "_law_can_begin" "_law_can_begin" (defArgs (top 44)) (defBody (top 44)) (defScope (top 44)) [] [] (He.ga K "_law_can_begin") fd := c.t.d.defs (d := dd 44 "_law_can_begin") (List.mem_of_getElem? (i := 24) rfl)
theorem fd45 (c : He.SaysX faL fnL [] tfL exB w h K) : ∃ fd, FunD K "_law_due" "_law_due" (defArgs (top 45)) (defBody (top 45)) (defScope (top 45)) [] [] (He.ga K "_law_due") fd := c.t.d.defs (d := dd 45 "_law_due") (List.mem_of_getElem? (i := 25) rfl)
theorem fd46 (c : He.SaysX faL fnL [] tfL exB w h K) : ∃ fd, FunD K "_law_told" "_law_told" (defArgs (top 46)) (defBody (top 46)) (defScope (top 46)) [] [] (He.ga K "_law_told") fd := c.t.d.defs (d := dd 46 "_law_told") (List.mem_of_getElem? (i := 26) rfl)
theorem fd47 (c : He.SaysX faL fnL [] tfL exB w h K) : ∃ fd, FunD K "_law_spoilt" "_law_spoilt" (defArgs (top 47)) (defBody (top 47)) (defScope (top 47)) [] [] (He.ga K "_law_spoilt") fd := c.t.d.defs (d := dd 47 "_law_spoilt") (List.mem_of_getElem? (i := 27) rfl)
theorem fd49 (c : He.SaysX faL fnL [] tfL exB w h K) : ∃ fd, FunD K "_law_long_right" "_law_long_right" (defArgs (top 49)) (defBody (top 49)) (defScope (top 49)) [] [] (He.ga K "_law_long_right") fd := c.t.d.defs (d := dd 49 "_law_long_right") (List.mem_of_getElem? (i := 28) rfl)
theorem fd7 (c : He.SaysX faL fnL [] tfL exB w h K) : ∃ fd, FunD K "parts_of" "parts_of" (defArgs (top 7)) (defBody (top 7)) (defScope (top 7)) [] [] (He.ga K "parts_of") fd := c.t.d.defs (d := dd 7 "parts_of") (List.mem_of_getElem? (i := 29) rfl)
theorem fd29 (c : He.SaysX faL fnL [] tfL exB w h K) : ∃ fd, FunD K "lots_of" "lots_of" (defArgs (top 29)) (defBody (top 29)) (defScope (top 29)) [.non] [] (He.ga K "lots_of") fd := c.t.d.defs (d := dd 29 "lots_of" [.non]) (List.mem_of_getElem? (i := 30) rfl)
theorem fd42 (c : He.SaysX faL fnL [] tfL exB w h K) : ∃ fd, FunD K "_law_lots_right" "_law_lots_right" (defArgs (top 42)) (defBody (top 42)) (defScope (top 42)) [] [] (He.ga K "_law_lots_right") fd := c.t.d.defs (d := dd 42 "_law_lots_right") (List.mem_of_getElem? (i := 31) rfl)
theorem fd50 (c : He.SaysX faL fnL [] tfL exB w h K) : ∃ fd, FunD K "law" "law" (defArgs (top 50)) (defBody (top 50)) (defScope (top 50)) [] [] (He.ga K "law") fd := c.t.d.defs (d := dd 50 "law") (List.mem_of_getElem? (i := 32) rfl)
theorem fd41 (c : He.SaysX faL fnL [] tfL exB w h K) : ∃ fd, FunD K "_law_met_here" "_law_met_here" (defArgs (top 41)) (defBody (top 41)) (defScope (top 41)) [] [] (He.ga K "_law_met_here") fd := c.t.d.defs (d := dd 41 "_law_met_here") (List.mem_of_getElem? (i := 33) rfl)
theorem fdN (c : He.SaysX faL fnL [] tfL exB w h K) : ∃ fd, FunD K "__init__" "InvalidNumber.__init__" (iArgs "given" ⟨34, 17, 34, 21⟩ ⟨34, 23, 34, 28⟩) (iBody "given" "given" ⟨35, 8, 35, 12⟩ ⟨35, 8, 35, 18⟩ ⟨35, 21, 35, 26⟩ ⟨35, 8, 35, 26⟩) (iScope "given") [] [] (He.ma K (He.ga K "InvalidNumber") "__init__") fd := c.t.d.defs (d := dN) (List.mem_of_getElem? (i := 34) rfl)
theorem fdP (c : He.SaysX faL fnL [] tfL exB w h K) : ∃ fd, FunD K "__init__" "ParseError.__init__" (iArgs "spot" ⟨30, 17, 30, 21⟩ ⟨30, 23, 30, 27⟩) (iBody "spot" "spot" ⟨31, 8, 31, 12⟩ ⟨31, 8, 31, 17⟩ ⟨31, 20, 31, 24⟩ ⟨31, 8, 31, 24⟩) (iScope "spot") [] [] (He.ma K (He.ga K "ParseError") "__init__") fd := c.t.d.defs (d := dP) (List.mem_of_getElem? (i := 35) rfl)
theorem fldN (X : K.In h) (G : h.Ns mainGlobals mg) (c : He.SaysX faL fnL [] tfL exB w h K) : FldTxt K mg (He.ga K "InvalidNumber") (He.ma K (He.ga K "InvalidNumber") "__init__") "InvalidNumber" "given" "given" "InvalidNumber.__init__" "IndexError" "IndexError.__new__" "IndexError.__init__" bmI := by
  obtain ⟨_, b⟩ := He.ba c.more
  obtain ⟨b, _⟩ := He.ba b
  obtain ⟨fd, Fi⟩ := fdN c
  exact fld_of b F.excBase_IndexError F.store_IndexError.passes (He.glo_ok X G (fact c 36 rfl)) Fi (by decide +kernel) (by decide) (by decide) (fun _ _ _ _ _ _ _ _ _ _ _ _ _ => rfl) (fun _ _ _ _ _ => rfl) (fun _ _ _ _ _ => rfl) (fun _ _ _ => rfl) (fun _ _ _ => rfl)
theorem fldP (X : K.In h) (G : h.Ns mainGlobals mg) (c : He.SaysX faL fnL [] tfL exB w h K) : FldTxt K mg (He.ga K "ParseError") (He.ma K (He.ga K "ParseError") "__init__") "ParseError" "spot" "spot" "ParseError.__init__" "ValueError" "ValueError.__new__" "ValueError.__init__" bmV := by
  obtain ⟨_, b⟩ := He.ba c.more
  obtain ⟨_, b⟩ := He.ba b
  obtain ⟨b, _⟩ := He.ba b
  obtain ⟨fd, Fi⟩ := fdP c
  exact fld_of b F.excBase_ValueError F.store_ValueError.passes (He.glo_ok X G (fact c 37 rfl)) Fi (by decide +kernel) (by decide) (by decide) (fun _ _ _ _ _ _ _ _ _ _ _ _ _ => rfl) (fun _ _ _ _ _ => rfl) (fun _ _ _ _ _ => rfl) (fun _ _ _ => rfl) (fun _ _ _ => rfl)
theorem stops (X : K.In h) (G : h.Ns mainGlobals mg) (c : He.SaysX faL fnL [] tfL exB w h K) : ∀ y ∈ [("InvalidLot" : Str), "InvalidNumber"], NoStopX ⟨K, mg, TK K⟩ y := by
  obtain ⟨_, b⟩ := He.ba c.more
  obtain ⟨_, b⟩ := He.ba b
  obtain ⟨_, b⟩ := He.ba b
  obtain ⟨b3, b⟩ := He.ba b
  obtain ⟨b4, _⟩ := He.ba b
  intro y hy cls hc
  have hc : mg y = some cls := hc
  simp only [List.mem_cons, List.not_mem_nil, or_false] at hy
  rcases hy with rfl | rfl
  · rw [He.glo_ok X G (fact c 35 rfl)] at hc; cases hc; exact of_decide_eq_true b3
  · rw [He.glo_ok X G (fact c 36 rfl)] at hc; cases hc; exact of_decide_eq_true b4
theorem tabNe (c : He.SaysX faL fnL [] tfL exB w h K) : (He.cT K ("_law_lots_right", none)).2 ≠ (He.cT K ("law", none)).2 := by
  obtain ⟨_, b⟩ := He.ba c.more
  obtain ⟨_, b⟩ := He.ba b
  obtain ⟨_, b⟩ := He.ba b
  obtain ⟨_, b⟩ := He.ba b
  obtain ⟨_, b⟩ := He.ba b
  exact of_decide_eq_true b
theorem gk0 {P : Program} {base : Heap} (X : K.In h) (G : h.Ns mainGlobals mg) (c : He.SaysX faL fnL [] tfL exB w h K) : ∀ x g, gs0.lookup x = some g → GkOk ⟨K, mg, TK K⟩ P w base x g := by
  obtain ⟨bg, _⟩ := He.ba c.more
  refine gk_cons ⟨He.free_ok X G (fact c 38 rfl), by decide +kernel⟩ ?_
  refine gk_cons ⟨He.free_ok X G (fact c 39 rfl), by decide +kernel⟩ ?_
  refine gk_cons (.inr ⟨"bool", rfl, He.free_ok X G (fact c 40 rfl), by decide +kernel⟩) ?_
  refine gk_cons ⟨He.free_ok X G (fact c 41 rfl), by decide +kernel⟩ ?_
  refine gk_cons ⟨He.free_ok X G (fact c 42 rfl), by decide +kernel⟩ ?_
  refine gk_cons ⟨He.free_ok X G (fact c 43 rfl), by decide +kernel⟩ ?_
  refine gk_cons ⟨He.free_ok X G (fact c 44 rfl), by decide +kernel⟩ ?_
  refine gk_cons ⟨He.free_ok X G (fact c 45 rfl), by decide +kernel⟩ ?_
  refine gk_cons ⟨He.free_ok X G (fact c 46 rfl), by decide +kernel⟩ ?_
  refine gk_cons ⟨He.free_ok X G (fact c 47 rfl), by decide +kernel⟩ ?_
  refine gk_cons ⟨He.free_ok X G (fact c 48 rfl), by decide +kernel⟩ ?_
  refine gk_cons ⟨He.free_ok X G (fact c 49 rfl), by decide +kernel⟩ ?_
  refine gk_cons ⟨He.free_ok X G (fact c 50 rfl), by decide +kernel⟩ ?_
  refine gk_cons (PySem.W.mg_of X G (He.eqO_ok bg)) ?_
  refine gk_cons (gk_int (He.int_ok X G (fact c 53 rfl))) ?_
  refine gk_cons (gk_str (He.str_ok X G (fact c 57 rfl))) ?_
  refine gk_cons (gk_str (He.str_ok X G (fact c 58 rfl))) ?_
  refine gk_cons (gk_str (He.str_ok X G (fact c 59 rfl))) ?_
  refine gk_cons (gk_int (He.int_ok X G (fact c 54 rfl))) ?_
  refine gk_cons (gk_int (He.int_ok X G (fact c 55 rfl))) ?_
  refine gk_cons (gk_int (He.int_ok X G (fact c 56 rfl))) ?_
  refine gk_cons (gk_exS (He.glo_ok X G (fact c 34 rfl)) (fact c 60 rfl)) ?_
  refine gk_cons (gk_exS (He.glo_ok X G (fact c 35 rfl)) (fact c 61 rfl)) ?_
  refine gk_cons ⟨_, _, _, _, _, _, _, _, fldN X G c⟩ ?_
  refine gk_cons ⟨_, _, _, _, _, _, _, _, fldP X G c⟩ ?_
  exact gk_nil
end
end K01
set_option Elab.async false
set_option linter.all false
set_option maxRecDepth 100000
set_option maxHeartbeats 0
set_option exponentiation.threshold 9500
namespace K01
open PySem PySem.Spec PyProof.Rows L2 LamX DLX DL KM TX
section
variable {K : PySem.W.Frag} {h : Heap} {mg : Str → Option Value} {w : World}
theorem isaK (X : K.In h) (G : h.Ns mainGlobals mg) (c : He.SaysX faL fnL [] tfL exB w h K) : IsaOk K mg isaT := by
  intro x y b hm Cx Cy hx hy
  simp only [isaT, List.mem_cons, List.not_mem_nil, or_false, Prod.mk.injEq] at hm
  rcases hm with ⟨rfl, rfl, rfl⟩ | ⟨rfl, rfl, rfl⟩ | ⟨rfl, rfl, rfl⟩ | ⟨rfl, rfl, rfl⟩ | ⟨rfl, rfl, rfl⟩ | ⟨rfl, rfl, rfl⟩
  · rw [He.glo_ok X G (fact c 35 rfl)] at hx; rw [He.glo_ok X G (fact c 35 rfl)] at hy; cases hx; cases hy; exact He.exm_ok (fact c 62 rfl)
  · rw [He.glo_ok X G (fact c 34 rfl)] at hx; rw [He.glo_ok X G (fact c 35 rfl)] at hy; cases hx; cases hy; exact He.exm_ok (fact c 63 rfl)
  · rw [He.glo_ok X G (fact c 34 rfl)] at hx; rw [He.glo_ok X G (fact c 34 rfl)] at hy; cases hx; cases hy; exact He.exm_ok (fact c 64 rfl)
  · rw [He.glo_ok X G (fact c 36 rfl)] at hx; rw [He.glo_ok X G (fact c 35 rfl)] at hy; cases hx; cases hy; exact He.exm_ok (fact c 65 rfl)
  · rw [He.glo_ok X G (fact c 36 rfl)] at hx; rw [He.glo_ok X G (fact c 34 rfl)] at hy; cases hx; cases hy; exact He.exm_ok (fact c 66 rfl)
  · rw [He.glo_ok X G (fact c 36 rfl)] at hx; rw [He.glo_ok X G (fact c 36 rfl)] at hy; cases hx; cases hy; exact He.exm_ok (fact c 67 rfl)
theorem isaP (X : K.In h) (G : h.Ns mainGlobals mg) (c : He.SaysX faL fnL [] tfL exB w h K) : IsaOk K mg isa46 := by
  intro x y b hm Cx Cy hx hy
  simp only [isa46, List.mem_cons, List.not_mem_nil, or_false, Prod.mk.injEq] at hm
  obtain ⟨rfl, rfl, rfl⟩ := hm
  rw [He.glo_ok X G (fact c 37 rfl)] at hx; rw [He.glo_ok X G (fact c 37 rfl)] at hy; cases hx; cases hy; exact He.exm_ok (fact c 68 rfl)
theorem mcOk (X : K.In h) (G : h.Ns mainGlobals mg) (c : He.SaysX faL fnL [] tfL exB w h K) : ∀ m ∈ mcs (C3K K), McOk K mg (defScope (top 41)) m := by
  intro m hm
  simp only [mcs, C3K, List.mem_cons, List.not_mem_nil, or_false] at hm
  rcases hm with rfl | rfl | rfl
  · exact ⟨(by decide +kernel : (defScope (top 41)).names.lookup ("InvalidLot" : Str) = some NameKind.globalImplicit), (by decide : (("InvalidLot" : Str) == ("__debug__" : Str)) = false), He.glo_ok X G (fact c 35 rfl), fun f e => by cases e⟩
  · exact ⟨(by decide +kernel : (defScope (top 41)).names.lookup ("InvalidFraction" : Str) = some NameKind.globalImplicit), (by decide : (("InvalidFraction" : Str) == ("__debug__" : Str)) = false), He.glo_ok X G (fact c 34 rfl), fun f e => by cases e⟩
  · exact ⟨(by decide +kernel : (defScope (top 41)).names.lookup ("InvalidNumber" : Str) = some NameKind.globalImplicit), (by decide : (("InvalidNumber" : Str) == ("__debug__" : Str)) = false), He.glo_ok X G (fact c 36 rfl), fun f e => by cases e; exact fld_xf (fldN X G c)⟩
theorem bd41 {fd : FuncData} (F : FunD K "_law_met_here" "_law_met_here" (defArgs (top 41)) (defBody (top 41)) (defScope (top 41)) [] [] (He.ga K "_law_met_here") fd) : L2.Binds K fd ["_law_call"] [] := F.bindsN fun _ _ _ _ _ _ us hl => match us, hl with | [_], _ => rfl
theorem metS {base : Heap} {sc : Scope} {q : Str} {pa : Arguments} {bo : List Stmt} {fd : FuncData} (X : K.In h) (G : h.Ns mainGlobals mg) (c : He.SaysX faL fnL [] tfL exB w h K) (hsc : sc.names.lookup ("_law_met_here" : Str) = some NameKind.globalImplicit) (TB : TabB base mg (He.cT K (q, none)).1 (He.cT K (q, none)).2)
    (F : FunD K q q pa bo sc [] [] (He.ga K q) fd) (hq : ((He.cT K (q, none)).2, q ++ ".<locals>." ++ "<lambda>") ∈ TK K) (hu : ∀ p ∈ TK K, p.1 = (He.cT K (q, none)).2 → p.2 = q ++ ".<locals>." ++ "<lambda>") :
    MetS ⟨K, mg, TK K⟩ base sc fd.code q "_law_met_here" "fine" (mcs (C3K K)) isaT "_law_call" "e" := by
  obtain ⟨fd41', F41⟩ := fd41 c
  obtain ⟨oc, od, dV, kV, doc, pm, an, cdv, ct, osl, rfl, lk, hcd, _, _⟩ := F.ex
  obtain ⟨ca, rfl⟩ := He.codeIn_ref hcd
  have ec : He.codeOf K (q, none) = ca := He.codeOf_eq lk rfl
  refine ⟨hsc, by decide, ?_, He.free_ok X G (fact c 51 rfl), isaK X G c, by decide, by decide, by decide, by decide, ⟨_, _, TB, by rw [← ec]; rfl, hq, hu⟩⟩
  exact ⟨He.ga K "_law_met_here", fd41', defArgs (top 41), defBody (top 41), defScope (top 41), _, ["_law_call", "e"], _, _, _, _, _, _, _, He.glo_ok X G (fact c 33 rfl), F41, rfl, sc41, rfl, rfl, by decide +kernel, by decide +kernel, .inl (by decide +kernel), .plain (.plain (.fld .nil)), mcOk X G c, bd41 F41, fun e => by cases e⟩
theorem lawK (X : K.In h) (G : h.Ns mainGlobals mg) (c : He.SaysX faL fnL [] tfL exB w h K) : LawG rw' w K 26 63 "_law_script" mg (He.ga K "law") h := by
  obtain ⟨f3, F3⟩ := fd3 c
  obtain ⟨f4, F4⟩ := fd4 c
  obtain ⟨f5, F5⟩ := fd5 c
  obtain ⟨f22, F22⟩ := fd22 c
  obtain ⟨f23, F23⟩ := fd23 c
  obtain ⟨f6, F6⟩ := fd6 c
  obtain ⟨f21, F21⟩ := fd21 c
  obtain ⟨f24, F24⟩ := fd24 c
  obtain ⟨f25, F25⟩ := fd25 c
  obtain ⟨f26, F26⟩ := fd26 c
  obtain ⟨f27, F27⟩ := fd27 c
  obtain ⟨f28, F28⟩ := fd28 c
  obtain ⟨f34, F34⟩ := fd34 c
  obtain ⟨f35, F35⟩ := fd35 c
  obtain ⟨f36, F36⟩ := fd36 c
  obtain ⟨f38, F38⟩ := fd38 c
  obtain ⟨f37, F37⟩ := fd37 c
  obtain ⟨f39, F39⟩ := fd39 c
  obtain ⟨f30, F30⟩ := fd30 c
  obtain ⟨f32, F32⟩ := fd32 c
  obtain ⟨f31, F31⟩ := fd31 c
  obtain ⟨f40, F40⟩ := fd40 c
  obtain ⟨f48, F48⟩ := fd48 c
  obtain ⟨f43, F43⟩ := fd43 c
  obtain ⟨f44, F44⟩ := fd44 c
  obtain ⟨f45, F45⟩ := fd45 c
  obtain ⟨f46, F46⟩ := fd46 c
  obtain ⟨f47, F47⟩ := fd47 c
  obtain ⟨f49, F49⟩ := fd49 c
  obtain ⟨f7, F7⟩ := fd7 c
  obtain ⟨f29, F29⟩ := fd29 c
  obtain ⟨f42, F42⟩ := fd42 c
  obtain ⟨f50, F50⟩ := fd50 c
  have b3 : L2.Binds K f3 ["value"] [] := F3.bindsN fun _ _ _ _ _ _ us hl => match us, hl with | [_], _ => rfl
  have b4 : L2.Binds K f4 ["values"] [] := F4.bindsN fun _ _ _ _ _ _ us hl => match us, hl with | [_], _ => rfl
  have b5 : L2.Binds K f5 ["names"] [] := F5.bindsN fun _ _ _ _ _ _ us hl => match us, hl with | [_], _ => rfl
  have b22 : L2.Binds K f22 ["value"] [] := F22.bindsN fun _ _ _ _ _ _ us hl => match us, hl with | [_], _ => rfl
  have b23 : L2.Binds K f23 ["value"] [] := F23.bindsN fun _ _ _ _ _ _ us hl => match us, hl with | [_], _ => rfl
  have b6 : L2.Binds K f6 ["top", "bottom"] [] := F6.bindsN fun _ _ _ _ _ _ us hl => match us, hl with | [_, _], _ => rfl
  have b21 : L2.Binds K f21 ["value"] [] := F21.bindsN fun _ _ _ _ _ _ us hl => match us, hl with | [_], _ => rfl
  have b24 : L2.Binds K f24 ["value"] [] := F24.bindsN fun _ _ _ _ _ _ us hl => match us, hl with | [_], _ => rfl
  have b25 : L2.Binds K f25 ["one", "other"] [] := F25.bindsN fun _ _ _ _ _ _ us hl => match us, hl with | [_, _], _ => rfl
  have b26 : L2.Binds K f26 ["one", "other"] [] := F26.bindsN fun _ _ _ _ _ _ us hl => match us, hl with | [_, _], _ => rfl
  have b27 : L2.Binds K f27 ["one", "other"] [] := F27.bindsN fun _ _ _ _ _ _ us hl => match us, hl with | [_, _], _ => rfl
  have b28 : L2.Binds K f28 ["one", "other"] [] := F28.bindsN fun _ _ _ _ _ _ us hl => match us, hl with | [_, _], _ => rfl
  have b34 : L2.Binds K f34 ["_law_script", "_law_at"] [] := F34.bindsN fun _ _ _ _ _ _ us hl => match us, hl with | [_, _], _ => rfl
  have b35 : L2.Binds K f35 ["_law_dice_here", "_law_total"] [] := F35.bindsN fun _ _ _ _ _ _ us hl => match us, hl with | [_, _], _ => rfl
  have b36 : L2.Binds K f36 ["_law_dice_here", "_law_items"] [] := F36.bindsN fun _ _ _ _ _ _ us hl => match us, hl with | [_, _], _ => rfl
  have b38 : L2.Binds K f38 ["_law_top", "_law_bottom"] [] := F38.bindsN fun _ _ _ _ _ _ us hl => match us, hl with | [_, _], _ => rfl
  have b37 : L2.Binds K f37 ["_law_dice_here", "_law_items"] [] := F37.bindsN fun _ _ _ _ _ _ us hl => match us, hl with | [_, _], _ => rfl
  have b39 : L2.Binds K f39 ["_law_dice_here", "_law_most"] [] := F39.bindsN fun _ _ _ _ _ _ us hl => match us, hl with | [_, _], _ => rfl
  have b30 : L2.Binds K f30 ["value"] [] := F30.bindsN fun _ _ _ _ _ _ us hl => match us, hl with | [_], _ => rfl
  have b32 : L2.Binds K f32 ["text", "start", "may_be_zero"] [] := F32.bindsN fun _ _ _ _ _ _ us hl => match us, hl with | [_, _, _], _ => rfl
  have b31 : L2.Binds K f31 ["text"] [] := F31.bindsN fun _ _ _ _ _ _ us hl => match us, hl with | [_], _ => rfl
  have b40 : L2.Binds K f40 ["_law_dice_here"] [] := F40.bindsN fun _ _ _ _ _ _ us hl => match us, hl with | [_], _ => rfl
  have b48 : L2.Binds K f48 ["_law_dice_here"] [] := F48.bindsN fun _ _ _ _ _ _ us hl => match us, hl with | [_], _ => rfl
  have b43 : L2.Binds K f43 ["_law_text_here"] [] := F43.bindsN fun _ _ _ _ _ _ us hl => match us, hl with | [_], _ => rfl
  have b44 : L2.Binds K f44 ["_law_text_here"] [] := F44.bindsN fun _ _ _ _ _ _ us hl => match us, hl with | [_], _ => rfl
  have b45 : L2.Binds K f45 ["_law_text_here"] [] := F45.bindsN fun _ _ _ _ _ _ us hl => match us, hl with | [_], _ => rfl
  have b46 : L2.Binds K f46 ["_law_text_here"] [] := F46.bindsN fun _ _ _ _ _ _ us hl => match us, hl with | [_], _ => rfl
  have b47 : L2.Binds K f47 ["_law_dice_here", "_law_text_here"] [] := F47.bindsN fun _ _ _ _ _ _ us hl => match us, hl with | [_, _], _ => rfl
  have b49 : L2.Binds K f49 ["_law_dice_here"] [] := F49.bindsN fun _ _ _ _ _ _ us hl => match us, hl with | [_], _ => rfl
  have b7 : L2.Binds K f7 ["values", "size"] [] := F7.bindsN fun _ _ _ _ _ _ us hl => match us, hl with | [_, _], _ => rfl
  have b42 : L2.Binds K f42 ["_law_dice_here"] [] := F42.bindsN fun _ _ _ _ _ _ us hl => match us, hl with | [_], _ => rfl
  have b50 : L2.Binds K f50 ["_law_script"] [] := F50.bindsN fun _ _ _ _ _ _ us hl => match us, hl with | [_], _ => rfl
  have b29 : ∀ n, ∃ (dvs : List V) (dsv : List Value), L2.Binds K f29 ["lot", "most"] dsv ∧ Vals dvs dsv ∧ ∀ W H, RepL K mg W H (dfl 2 [.non] n) dvs := by
    intro n
    by_cases hn : 2 ≤ n
    · obtain ⟨ds, hv, hb⟩ := F29.binds1 (ps := ["lot", "most"]) 2 1 (by simp) rfl fun T kV doc pm an cdv ct us its h1 h2 => match us, its, h1, h2 with | [_, _], [_], _, _ => ⟨_, rfl, rfl⟩
      refine ⟨_, ds, hb, hv, fun W H => ?_⟩
      have e : dfl 2 [.non] n = [] := by
        show [D.non].drop (1 - (2 - n)) = []
        rw [show 1 - (2 - n) = 1 by omega]; rfl
      rw [e]; exact rfl
    · obtain ⟨ds, hv, hb⟩ := F29.binds1 (ps := ["lot", "most"]) 1 0 (by simp) rfl fun T kV doc pm an cdv ct us its h1 h2 => match us, its, h1, h2 with | [_], [_], _, _ => ⟨_, rfl, rfl⟩
      refine ⟨_, ds, hb, hv, fun W H => ?_⟩
      have e : dfl 2 [.non] n = [.non] := by
        show [D.non].drop (1 - (2 - n)) = [.non]
        rw [show 1 - (2 - n) = 0 by omega]; rfl
      rw [e]; exact ⟨_, _, rfl, rfl, rfl⟩
  refine ⟨f50, tfL.map (He.cT K), spP ⟨K, mg, TK K⟩ 1 S_law, fun p hp => ?_, fun p hp => ?_, fun p hp => ?_, fun s u => FunD.bindsA (ps := ["_law_script"]) F50 (fun _ _ _ _ _ _ us hl => match us, hl with | [_], _ => rfl) s [u] rfl, fun H a ns hl _ hH hS => ?_, fun base KB GB dig TB => ?_⟩
  · obtain ⟨q, hq, rfl⟩ := List.mem_map.mp hp
    exact c.empty q hq
  · obtain ⟨q, hq, rfl⟩ := List.mem_map.mp hp
    exact c.out q hq
  · obtain ⟨q, hq, rfl⟩ := List.mem_map.mp hp
    exact PySem.W.codeHd_of_K X (c.hd q hq)
  · refine law_sp (G := ⟨K, mg, TK K⟩) (n := 63) (fun ns kd kx h1 h2 => ⟨ns, rfl, h1, h2⟩) H a ns hl (fun p hp => ?_) hS
    rcases List.mem_cons.mp hp with rfl | hp
    · exact hH (He.cT K ("_law_lots_right", none)) List.mem_cons_self
    · rw [List.mem_singleton.mp hp]
      exact hH (He.cT K ("law", none)) (List.mem_cons_of_mem _ List.mem_cons_self)
  have ne := tabNe c
  have M42 := metS X G c (sc := (c42 (C3K K)).sc) (by decide +kernel : (defScope (top 42)).names.lookup ("_law_met_here" : Str) = some NameKind.globalImplicit) (TB (He.cT K ("_law_lots_right", none)) List.mem_cons_self) F42 List.mem_cons_self fun p hp e => by
    rcases List.mem_cons.mp hp with rfl | hp
    · rfl
    · rw [List.mem_singleton.mp hp] at e
      exact absurd e.symm ne
  have M50 := metS X G c (sc := (c50 (C3K K)).sc) (by decide +kernel : (defScope (top 50)).names.lookup ("_law_met_here" : Str) = some NameKind.globalImplicit) (TB (He.cT K ("law", none)) (List.mem_cons_of_mem _ List.mem_cons_self)) F50 (List.mem_cons_of_mem _ List.mem_cons_self) fun p hp e => by
    rcases List.mem_cons.mp hp with rfl | hp
    · exact absurd e ne
    · rw [List.mem_singleton.mp hp]; rfl
  have g0 := gk0 (P := PySem.W.OpenLaw.prog rw') (base := base) X G c
  have p3 : FnG (PySem.W.OpenLaw.prog rw') w K mg base (L2.CX (PySem.W.OpenLaw.prog rw') w) 1 (He.ga K "is_whole") f3 ["value"] (spP ⟨K, mg, TK K⟩ 1 S_is_whole) := fnP (G := ⟨K, mg, TK K⟩) (c := c3) 30 F3 (sc3) (by decide +kernel) g0 dig noMet fun ds kd kx _ hS => v3 ds kd kx hS
  have g1 : ∀ x g, gs1.lookup x = some g → GkOk ⟨K, mg, TK K⟩ (PySem.W.OpenLaw.prog rw') w base x g := gk_cons (gk_pf (He.glo_ok X G (fact c 0 rfl)) p3 F3.kp b3) g0
  have p4 : FnG (PySem.W.OpenLaw.prog rw') w K mg base (L2.CX (PySem.W.OpenLaw.prog rw') w) 1 (He.ga K "is_ascending") f4 ["values"] (spP ⟨K, mg, TK K⟩ 1 S_asc) := fnP (G := ⟨K, mg, TK K⟩) (c := c4) 40 F4 (sc4) (by decide +kernel) g1 dig noMet fun ds kd kx _ hS => v4 ds kd kx hS
  have g2 : ∀ x g, gs2.lookup x = some g → GkOk ⟨K, mg, TK K⟩ (PySem.W.OpenLaw.prog rw') w base x g := gk_cons (gk_pf (He.glo_ok X G (fact c 1 rfl)) p4 F4.kp b4) g1
  have p5 : FnG (PySem.W.OpenLaw.prog rw') w K mg base (L2.CX (PySem.W.OpenLaw.prog rw') w) 1 (He.ga K "lot_of") f5 ["names"] (spP ⟨K, mg, TK K⟩ 1 S_lot_of) := fnP (G := ⟨K, mg, TK K⟩) (c := c5) 40 F5 (sc5) (by decide +kernel) g2 dig noMet fun ds kd kx _ hS => v5 ds kd kx hS
  have g3 : ∀ x g, gs3.lookup x = some g → GkOk ⟨K, mg, TK K⟩ (PySem.W.OpenLaw.prog rw') w base x g := gk_cons (gk_pf (He.glo_ok X G (fact c 2 rfl)) p5 F5.kp b5) g2
  have p22 : FnG (PySem.W.OpenLaw.prog rw') w K mg base (L2.CX (PySem.W.OpenLaw.prog rw') w) 1 (He.ga K "is_name") f22 ["value"] (spP ⟨K, mg, TK K⟩ 1 S_is_name) := fnP (G := ⟨K, mg, TK K⟩) (c := c22) 40 F22 (sc22) (by decide +kernel) g0 dig noMet fun ds kd kx _ hS => v22 ds kd kx hS
  have g4 : ∀ x g, gs4.lookup x = some g → GkOk ⟨K, mg, TK K⟩ (PySem.W.OpenLaw.prog rw') w base x g := gk_cons (gk_pf (He.glo_ok X G (fact c 3 rfl)) p22 F22.kp b22) g3
  have p23 : FnG (PySem.W.OpenLaw.prog rw') w K mg base (L2.CX (PySem.W.OpenLaw.prog rw') w) 2 (He.ga K "is_lot") f23 ["value"] (spP ⟨K, mg, TK K⟩ 1 S_is_lot) := fnP (G := ⟨K, mg, TK K⟩) (c := c23) 40 F23 (sc23) (by decide +kernel) g4 dig noMet fun ds kd kx _ hS => v23 ds kd kx hS
  have g5 : ∀ x g, gs5.lookup x = some g → GkOk ⟨K, mg, TK K⟩ (PySem.W.OpenLaw.prog rw') w base x g := gk_cons (gk_pf (He.glo_ok X G (fact c 4 rfl)) p23 F23.kp b23) g4
  have p6 : FnG (PySem.W.OpenLaw.prog rw') w K mg base (L2.CX (PySem.W.OpenLaw.prog rw') w) 1 (He.ga K "lowest") f6 ["top", "bottom"] (spP ⟨K, mg, TK K⟩ 2 S_lowest) := fnP (G := ⟨K, mg, TK K⟩) (c := c6) 30 F6 (sc6) (by decide +kernel) g0 dig noMet fun ds kd kx _ hS => v6 ds kd kx hS
  have g6 : ∀ x g, gs6.lookup x = some g → GkOk ⟨K, mg, TK K⟩ (PySem.W.OpenLaw.prog rw') w base x g := gk_cons (gk_pf (He.glo_ok X G (fact c 5 rfl)) p6 F6.kp b6) g5
  have p21 : FnG (PySem.W.OpenLaw.prog rw') w K mg base (L2.CX (PySem.W.OpenLaw.prog rw') w) 2 (He.ga K "is_fraction") f21 ["value"] (spP ⟨K, mg, TK K⟩ 1 S_is_fraction) := fnP (G := ⟨K, mg, TK K⟩) (c := c21) 40 F21 (sc21) (by decide +kernel) g1 dig noMet fun ds kd kx _ hS => v21 ds kd kx hS
  have g7 : ∀ x g, gs7.lookup x = some g → GkOk ⟨K, mg, TK K⟩ (PySem.W.OpenLaw.prog rw') w base x g := gk_cons (gk_pf (He.glo_ok X G (fact c 6 rfl)) p21 F21.kp b21) g6
  have p24 : FnG (PySem.W.OpenLaw.prog rw') w K mg base (L2.CX (PySem.W.OpenLaw.prog rw') w) 3 (He.ga K "_need_fraction") f24 ["value"] (spP ⟨K, mg, TK K⟩ 1 S_need_fraction) := fnP (G := ⟨K, mg, TK K⟩) (c := c24) 40 F24 (sc24) (by decide +kernel) g7 dig noMet fun ds kd kx _ hS => v24 ds kd kx hS
  have g8 : ∀ x g, gs8.lookup x = some g → GkOk ⟨K, mg, TK K⟩ (PySem.W.OpenLaw.prog rw') w base x g := gk_cons (gk_pf (He.glo_ok X G (fact c 7 rfl)) p24 F24.kp b24) g7
  have p25 : FnG (PySem.W.OpenLaw.prog rw') w K mg base (L2.CX (PySem.W.OpenLaw.prog rw') w) 3 (He.ga K "_need_lots") f25 ["one", "other"] (spP ⟨K, mg, TK K⟩ 2 S_need_lots) := fnP (G := ⟨K, mg, TK K⟩) (c := c25) 40 F25 (sc25) (by decide +kernel) g7 dig noMet fun ds kd kx _ hS => v25 ds kd kx hS
  have g9 : ∀ x g, gs9.lookup x = some g → GkOk ⟨K, mg, TK K⟩ (PySem.W.OpenLaw.prog rw') w base x g := gk_cons (gk_pf (He.glo_ok X G (fact c 8 rfl)) p25 F25.kp b25) g8
  have p26 : FnG (PySem.W.OpenLaw.prog rw') w K mg base (L2.CX (PySem.W.OpenLaw.prog rw') w) 4 (He.ga K "union") f26 ["one", "other"] (spP ⟨K, mg, TK K⟩ 2 (S_lots2 unionS)) := fnP (G := ⟨K, mg, TK K⟩) (c := c26) 40 F26 (sc26) (by decide +kernel) g9 dig noMet fun ds kd kx _ hS => v26 ds kd kx hS
  have g9a : ∀ x g, gs9a.lookup x = some g → GkOk ⟨K, mg, TK K⟩ (PySem.W.OpenLaw.prog rw') w base x g := gk_cons (gk_pf (He.glo_ok X G (fact c 9 rfl)) p26 F26.kp b26) g9
  have p27 : FnG (PySem.W.OpenLaw.prog rw') w K mg base (L2.CX (PySem.W.OpenLaw.prog rw') w) 4 (He.ga K "common") f27 ["one", "other"] (spP ⟨K, mg, TK K⟩ 2 (S_lots2 commonS)) := fnP (G := ⟨K, mg, TK K⟩) (c := c27) 40 F27 (sc27) (by decide +kernel) g9 dig noMet fun ds kd kx _ hS => v27 ds kd kx hS
  have g9b : ∀ x g, gs9b.lookup x = some g → GkOk ⟨K, mg, TK K⟩ (PySem.W.OpenLaw.prog rw') w base x g := gk_cons (gk_pf (He.glo_ok X G (fact c 10 rfl)) p27 F27.kp b27) g9a
  have p28 : FnG (PySem.W.OpenLaw.prog rw') w K mg base (L2.CX (PySem.W.OpenLaw.prog rw') w) 4 (He.ga K "without") f28 ["one", "other"] (spP ⟨K, mg, TK K⟩ 2 (S_lots2 withoutS)) := fnP (G := ⟨K, mg, TK K⟩) (c := c28) 40 F28 (sc28) (by decide +kernel) g9 dig noMet fun ds kd kx _ hS => v28 ds kd kx hS
  have g10 : ∀ x g, gs10.lookup x = some g → GkOk ⟨K, mg, TK K⟩ (PySem.W.OpenLaw.prog rw') w base x g := gk_cons (gk_pf (He.glo_ok X G (fact c 11 rfl)) p28 F28.kp b28) g9b
  have p34 : FnG (PySem.W.OpenLaw.prog rw') w K mg base (L2.CX (PySem.W.OpenLaw.prog rw') w) 1 (He.ga K "_law_dice") f34 ["_law_script", "_law_at"] (spF ⟨K, mg, TK K⟩ 2 S_dice) := fnF (G := ⟨K, mg, TK K⟩) (c := c34) 40 F34 (sc34) (by decide +kernel) g10 dig noMet fun ds kd _ hS => v34 ds kd hS
  have g11 : ∀ x g, gs11.lookup x = some g → GkOk ⟨K, mg, TK K⟩ (PySem.W.OpenLaw.prog rw') w base x g := gk_cons (gk_ff (He.glo_ok X G (fact c 12 rfl)) p34 F34.kp b34) g10
  have p35 : FnG (PySem.W.OpenLaw.prog rw') w K mg base (L2.CX (PySem.W.OpenLaw.prog rw') w) 1 (He.ga K "_law_roll") f35 ["_law_dice_here", "_law_total"] (spD ⟨K, mg, TK K⟩ 1 S_roll) := fnD (G := ⟨K, mg, TK K⟩) (c := c35) (m := 1) 40 F35 (sc35) rfl g11 dig noMet fun l ds kd _ hS => v35 l ds kd hS
  have g12 : ∀ x g, gs12.lookup x = some g → GkOk ⟨K, mg, TK K⟩ (PySem.W.OpenLaw.prog rw') w base x g := gk_cons (gk_df (He.glo_ok X G (fact c 13 rfl)) p35 F35.kp b35) g11
  have p36 : FnG (PySem.W.OpenLaw.prog rw') w K mg base (L2.CX (PySem.W.OpenLaw.prog rw') w) 2 (He.ga K "_law_one_of") f36 ["_law_dice_here", "_law_items"] (spD ⟨K, mg, TK K⟩ 1 S_one) := fnD (G := ⟨K, mg, TK K⟩) (c := c36) (m := 1) 40 F36 (sc36) rfl g12 dig noMet fun l ds kd _ hS => v36 l ds kd hS
  have g13 : ∀ x g, gs13.lookup x = some g → GkOk ⟨K, mg, TK K⟩ (PySem.W.OpenLaw.prog rw') w base x g := gk_cons (gk_df (He.glo_ok X G (fact c 14 rfl)) p36 F36.kp b36) g12
  have p38 : FnG (PySem.W.OpenLaw.prog rw') w K mg base (L2.CX (PySem.W.OpenLaw.prog rw') w) 1 (He.ga K "_law_lowest") f38 ["_law_top", "_law_bottom"] (spP ⟨K, mg, TK K⟩ 2 S_lowest) := fnP (G := ⟨K, mg, TK K⟩) (c := c38) 40 F38 (sc38) (by decide +kernel) g13 dig noMet fun ds kd kx _ hS => v38 ds kd kx hS
  have g14 : ∀ x g, gs14.lookup x = some g → GkOk ⟨K, mg, TK K⟩ (PySem.W.OpenLaw.prog rw') w base x g := gk_cons (gk_pf (He.glo_ok X G (fact c 15 rfl)) p38 F38.kp b38) g13
  have p37 : FnG (PySem.W.OpenLaw.prog rw') w K mg base (L2.CX (PySem.W.OpenLaw.prog rw') w) 2 (He.ga K "_law_mixed") f37 ["_law_dice_here", "_law_items"] (spD ⟨K, mg, TK K⟩ 1 S_mixed) := fnD (G := ⟨K, mg, TK K⟩) (c := c37) (m := 1) 40 F37 (sc37) rfl g14 dig noMet fun l ds kd _ hS => v37 l ds kd hS
  have g15 : ∀ x g, gs15.lookup x = some g → GkOk ⟨K, mg, TK K⟩ (PySem.W.OpenLaw.prog rw') w base x g := gk_cons (gk_df (He.glo_ok X G (fact c 16 rfl)) p37 F37.kp b37) g14
  have p39 : FnG (PySem.W.OpenLaw.prog rw') w K mg base (L2.CX (PySem.W.OpenLaw.prog rw') w) 3 (He.ga K "_law_names") f39 ["_law_dice_here", "_law_most"] (spD ⟨K, mg, TK K⟩ 1 S_names) := fnD (G := ⟨K, mg, TK K⟩) (c := c39) (m := 1) 40 F39 (sc39) rfl g15 dig noMet fun l ds kd _ hS => v39 l ds kd hS
  have g16 : ∀ x g, gs16.lookup x = some g → GkOk ⟨K, mg, TK K⟩ (PySem.W.OpenLaw.prog rw') w base x g := gk_cons (gk_df (He.glo_ok X G (fact c 17 rfl)) p39 F39.kp b39) g15
  have p30 : FnG (PySem.W.OpenLaw.prog rw') w K mg base (L2.CX (PySem.W.OpenLaw.prog rw') w) 4 (He.ga K "fraction_text") f30 ["value"] (spP ⟨K, mg, TK K⟩ 1 S_ftext) := fnP (G := ⟨K, mg, TK K⟩) (c := c30) 40 F30 (sc30) (by decide +kernel) g16 dig noMet fun ds kd kx _ hS => v30 ds kd kx hS
  have g17 : ∀ x g, gs17.lookup x = some g → GkOk ⟨K, mg, TK K⟩ (PySem.W.OpenLaw.prog rw') w base x g := gk_cons (gk_pf (He.glo_ok X G (fact c 18 rfl)) p30 F30.kp b30) g16
  have p32 : FnG (PySem.W.OpenLaw.prog rw') w K mg base (L2.CX (PySem.W.OpenLaw.prog rw') w) 2 (He.ga K "_number_end") f32 ["text", "start", "may_be_zero"] (spP ⟨K, mg, TK K⟩ 3 S_nend) := fnP (G := ⟨K, mg, TK K⟩) (c := c32) 40 F32 (sc32) (by decide +kernel) g17 dig noMet fun ds kd kx _ hS => v32 ds kd kx hS
  have g18 : ∀ x g, gs18.lookup x = some g → GkOk ⟨K, mg, TK K⟩ (PySem.W.OpenLaw.prog rw') w base x g := gk_cons (gk_pf (He.glo_ok X G (fact c 19 rfl)) p32 F32.kp b32) g17
  have p31 : FnG (PySem.W.OpenLaw.prog rw') w K mg base (L2.CX (PySem.W.OpenLaw.prog rw') w) 3 (He.ga K "read_fraction") f31 ["text"] (spP ⟨K, mg, TK K⟩ 1 S_read) := fnP (G := ⟨K, mg, TK K⟩) (c := c31) 60 F31 (sc31) (by decide +kernel) g18 dig noMet fun ds kd kx _ hS => v31 ds kd kx hS
  have g19 : ∀ x g, gs19.lookup x = some g → GkOk ⟨K, mg, TK K⟩ (PySem.W.OpenLaw.prog rw') w base x g := gk_cons (gk_pf (He.glo_ok X G (fact c 20 rfl)) p31 F31.kp b31) g18
  have p40 : FnG (PySem.W.OpenLaw.prog rw') w K mg base (L2.CX (PySem.W.OpenLaw.prog rw') w) 3 (He.ga K "_law_no_lot") f40 ["_law_dice_here"] (spD ⟨K, mg, TK K⟩ 0 S_nolot) := fnD (G := ⟨K, mg, TK K⟩) (c := c40) (m := 0) 40 F40 (sc40) rfl g19 dig noMet fun l ds kd _ hS => v40 l ds kd hS
  have g20 : ∀ x g, gs20.lookup x = some g → GkOk ⟨K, mg, TK K⟩ (PySem.W.OpenLaw.prog rw') w base x g := gk_cons (gk_df (He.glo_ok X G (fact c 21 rfl)) p40 F40.kp b40) g19
  have p48 : FnG (PySem.W.OpenLaw.prog rw') w K mg base (L2.CX (PySem.W.OpenLaw.prog rw') w) 3 (He.ga K "_law_text") f48 ["_law_dice_here"] (spD ⟨K, mg, TK K⟩ 0 S_text) := fnD (G := ⟨K, mg, TK K⟩) (c := c48) (m := 0) 40 F48 (sc48) rfl g20 dig noMet fun l ds kd _ hS => v48 l ds kd hS
  have g21 : ∀ x g, gs21.lookup x = some g → GkOk ⟨K, mg, TK K⟩ (PySem.W.OpenLaw.prog rw') w base x g := gk_cons (gk_df (He.glo_ok X G (fact c 22 rfl)) p48 F48.kp b48) g20
  have p43 : FnG (PySem.W.OpenLaw.prog rw') w K mg base (L2.CX (PySem.W.OpenLaw.prog rw') w) 1 (He.ga K "_law_is_row") f43 ["_law_text_here"] (spP ⟨K, mg, TK K⟩ 1 S_row) := fnP (G := ⟨K, mg, TK K⟩) (c := c43) 40 F43 (sc43) (by decide +kernel) g21 dig noMet fun ds kd kx _ hS => v43 ds kd kx hS
  have g22 : ∀ x g, gs22.lookup x = some g → GkOk ⟨K, mg, TK K⟩ (PySem.W.OpenLaw.prog rw') w base x g := gk_cons (gk_pf (He.glo_ok X G (fact c 23 rfl)) p43 F43.kp b43) g21
  have p44 : FnG (PySem.W.OpenLaw.prog rw') w K mg base (L2.CX (PySem.W.OpenLaw.prog rw') w) 2 (He.ga K "_law_can_begin") f44 ["_law_text_here"] (spP ⟨K, mg, TK K⟩ 1 S_begin) := fnP (G := ⟨K, mg, TK K⟩) (c := c44) 60 F44 (sc44) (by decide +kernel) g22 dig noMet fun ds kd kx _ hS => v44 ds kd kx hS
  have g23 : ∀ x g, gs23.lookup x = some g → GkOk ⟨K, mg, TK K⟩ (PySem.W.OpenLaw.prog rw') w base x g := gk_cons (gk_pf (He.glo_ok X G (fact c 24 rfl)) p44 F44.kp b44) g22
  have p45 : FnG (PySem.W.OpenLaw.prog rw') w K mg base (L2.CX (PySem.W.OpenLaw.prog rw') w) 4 (He.ga K "_law_due") f45 ["_law_text_here"] (spP ⟨K, mg, TK K⟩ 1 S_due) := fnP (G := ⟨K, mg, TK K⟩) (c := c45) 60 F45 (sc45) (by decide +kernel) g23 dig noMet fun ds kd kx _ hS => v45 ds kd kx hS
  have g24 : ∀ x g, gs24.lookup x = some g → GkOk ⟨K, mg, TK K⟩ (PySem.W.OpenLaw.prog rw') w base x g := gk_cons (gk_pf (He.glo_ok X G (fact c 25 rfl)) p45 F45.kp b45) g23
  have xP := fld_xf (fldP X G c)
  have p46 : FnG (PySem.W.OpenLaw.prog rw') w K mg base (L2.CX (PySem.W.OpenLaw.prog rw') w) 4 (He.ga K "_law_told") f46 ["_law_text_here"] (spP ⟨K, mg, TK K⟩ 1 S_told) := fnT (G := ⟨K, mg, TK K⟩) (c := c46) (i := 1) (ex := "e") (cn := "ParseError") (fld := "spot") (isa := isa46) 40 F46 sc46 (by decide +kernel) g23 dig rfl rfl (by decide +kernel) (by decide) (by decide) (by decide +kernel) (by decide) (He.glo_ok X G (fact c 37 rfl)) xP.1 xP.2 (isaP X G c) fun ds kd kx _ hS => v46 ds kd kx hS
  have g25 : ∀ x g, gs25.lookup x = some g → GkOk ⟨K, mg, TK K⟩ (PySem.W.OpenLaw.prog rw') w base x g := gk_cons (gk_pf (He.glo_ok X G (fact c 26 rfl)) p46 F46.kp b46) g24
  have p47 : FnG (PySem.W.OpenLaw.prog rw') w K mg base (L2.CX (PySem.W.OpenLaw.prog rw') w) 3 (He.ga K "_law_spoilt") f47 ["_law_dice_here", "_law_text_here"] (spD ⟨K, mg, TK K⟩ 1 S_spoilt) := fnD (G := ⟨K, mg, TK K⟩) (c := c47) (m := 1) 40 F47 (sc47) rfl g25 dig noMet fun l ds kd _ hS => v47 l ds kd hS
  have g26 : ∀ x g, gs26.lookup x = some g → GkOk ⟨K, mg, TK K⟩ (PySem.W.OpenLaw.prog rw') w base x g := gk_cons (gk_df (He.glo_ok X G (fact c 27 rfl)) p47 F47.kp b47) g25
  have p49 : FnG (PySem.W.OpenLaw.prog rw') w K mg base (L2.CX (PySem.W.OpenLaw.prog rw') w) 5 (He.ga K "_law_long_right") f49 ["_law_dice_here"] (spD ⟨K, mg, TK K⟩ 0 S_long) := fnD (G := ⟨K, mg, TK K⟩) (c := c49) (m := 0) 60 F49 (sc49) rfl g26 dig noMet fun l ds kd _ hS => v49 l ds kd hS
  have p7 : ∀ k, k ≤ 10 → FnG (PySem.W.OpenLaw.prog rw') w K mg base (L2.CX (PySem.W.OpenLaw.prog rw') w) (k + 1) (He.ga K "parts_of") f7 ["values", "size"] (spP ⟨K, mg, TK K⟩ 2 (S_parts k)) := by
    intro k
    induction k with
    | zero => intro _; exact fnP (G := ⟨K, mg, TK K⟩) (c := c7 0 gs2) 40 F7 (sc7 0 gs2) (by show 2 ≤ 5; decide) g2 dig noMet fun ds kd kx _ hS => v7_0 gs2 ds kd kx hS
    | succ k ih =>
      intro hk
      have gp : ∀ x g, List.lookup x ((("parts_of" : Str), Gk.pf (k + 1) (S_parts k) 2 []) :: gs2) = some g → GkOk ⟨K, mg, TK K⟩ (PySem.W.OpenLaw.prog rw') w base x g := gk_cons (gk_pf (He.glo_ok X G (fact c 29 rfl)) (ih (by omega)) F7.kp b7) g2
      exact fnP (G := ⟨K, mg, TK K⟩) (c := c7 (k + 1) (("parts_of", .pf (k + 1) (S_parts k) 2 []) :: gs2)) 40 F7 (sc7 _ _) (by show 2 ≤ 5; decide) gp dig noMet fun ds kd kx _ hS => v7_s k (by omega) ds kd kx hS
  have g9p : ∀ x g, gs9p.lookup x = some g → GkOk ⟨K, mg, TK K⟩ (PySem.W.OpenLaw.prog rw') w base x g := gk_cons (gk_pf (He.glo_ok X G (fact c 29 rfl)) (p7 10 (Nat.le_refl _)) F7.kp b7) g9
  have p29 : QFn (PySem.W.OpenLaw.prog rw') w K mg base 12 (He.ga K "lots_of") f29 ["lot", "most"] (spG ⟨K, mg, TK K⟩ 2 S_lots) := qfn_data (G := ⟨K, mg, TK K⟩) (c := c29) 40 F29 sc29 (by decide +kernel) g9p dig rfl fun ds kd kx _ hS => v29 ds kd kx hS
  have g27 : ∀ x g, gs27.lookup x = some g → GkOk ⟨K, mg, TK K⟩ (PySem.W.OpenLaw.prog rw') w base x g := gk_cons ⟨_, _, _, He.glo_ok X G (fact c 30 rfl), p29, F29.kp, b29, stops X G c⟩ (gk_cons ⟨He.free_ok X G (fact c 51 rfl), by decide +kernel⟩ g26)
  have p42 : FnG (PySem.W.OpenLaw.prog rw') w K mg base (L2.CX (PySem.W.OpenLaw.prog rw') w) 21 (He.ga K "_law_lots_right") f42 ["_law_dice_here"] (spD ⟨K, mg, TK K⟩ 0 S_right) := fnD (G := ⟨K, mg, TK K⟩) (c := (c42 (C3K K))) (m := 0) 80 F42 (sc42 (C3K K)) rfl g27 dig (fun x fine l isa e => by cases e; exact ⟨_, _, M42⟩) fun l ds kd _ hS => v42 (C3K K) l ds kd hS
  have g28 : ∀ x g, gs28.lookup x = some g → GkOk ⟨K, mg, TK K⟩ (PySem.W.OpenLaw.prog rw') w base x g := gk_cons (gk_df (He.glo_ok X G (fact c 31 rfl)) p42 F42.kp b42) (gk_cons (gk_df (He.glo_ok X G (fact c 28 rfl)) p49 F49.kp b49) (gk_cons ⟨He.free_ok X G (fact c 52 rfl), by decide +kernel⟩ g27))
  have p50 : FnG (PySem.W.OpenLaw.prog rw') w K mg base (L2.CX (PySem.W.OpenLaw.prog rw') w) 26 (He.ga K "law") f50 ["_law_script"] (spP ⟨K, mg, TK K⟩ 1 S_law) := fnP (G := ⟨K, mg, TK K⟩) (c := (c50 (C3K K))) 60 F50 (sc50 (C3K K)) (by show 1 ≤ 10; decide) g28 dig (fun x fine l isa e => by cases e; exact ⟨_, _, M50⟩) fun ds kd kx _ hS => v50 (C3K K) ds kd kx hS
  exact p50
end
end K01
set_option Elab.async false
set_option linter.all false
set_option maxRecDepth 100000
set_option maxHeartbeats 0
set_option exponentiation.threshold 9500
namespace K01
open PySem PySem.Spec PyProof.Rows L2 LamX DLX DL
abbrev R : PySem.W.OpenRow := PySem.W.OpenLaw.row rw'
def loose1 : List PySem.Str := ["_ROOT", "is_whole", "is_ascending", "lot_of", "lowest", "parts_of", "StudyError", "InvalidFraction", "InvalidLot", "ParseError", "InvalidNumber", "_LETTERS", "_DIGITS", "_SIGNS", "_LONGEST_NAME", "_MOST_DIGITS", "_MOST_NAMES", "is_fraction", "is_name", "is_lot"]
def loose2 : List PySem.Str := ["_need_fraction", "_need_lots", "union", "common", "without", "lots_of", "fraction_text", "read_fraction", "_number_end", "_law_dice", "_law_roll", "_law_one_of", "_law_mixed", "_law_lowest", "_law_names", "_law_no_lot", "_law_met_here", "_law_lots_right", "_law_is_row", "_law_can_begin", "_law_due", "_law_told", "_law_spoilt", "_law_text", "_law_long_right"]
def looseL : List PySem.Str := loose1 ++ loose2
abbrev hk : PySem.W.Hook := He.hookX 6 faL fnL [] tfL exB
def ob (s : PySem.W.SharedT) : He.AlX := He.obsX 6 faL fnL [] tfL exB (HandSHeadRun.getT s)
theorem ob_eq (s : PySem.W.SharedT) : ob s = hk.obs s.abs := He.obsX_eq (HandSHeadRun.getT_eq s)
theorem run (w : World) : HandSHeadRun.RunEqI R (PySem.W.view R.prog [0, 50]) hk ob 3000 looseL w := by
  unfold HandSHeadRun.RunEqI
  kernel_rfl
end K01
set_option Elab.async false
set_option linter.all false
set_option maxRecDepth 100000
set_option maxHeartbeats 0
set_option exponentiation.threshold 9500
open PySem PySem.W PySem.Calls PyProof.Rows
theorem PySem.Challenge.cw_seenanddone_k01_lots_and_texts_of_fracti_holds : PySem.Challenge.rw_seenanddone_k01_lots_and_texts_of_fracti.Holds := by
  w_on; o_law
  refine HandSHeadRun.head_imp (r := OpenLaw.row PySem.Challenge.rw_seenanddone_k01_lots_and_texts_of_fracti) (q := view (OpenLaw.row PySem.Challenge.rw_seenanddone_k01_lots_and_texts_of_fracti).prog [0, 50]) (H := K01.hk) (ob := K01.ob) (M := 3000) (loose := K01.looseL) (d := HandSHeadRun.topDef (OpenLaw.row PySem.Challenge.rw_seenanddone_k01_lots_and_texts_of_fracti).prog 50) (kwd := []) K01.ob_eq
    K01.run (by kernel_rfl) (by kernel_rfl) (by kernel_rfl) (by rfl) (by first | assumption | decide +kernel) (by decide +kernel) ⟨rfl, rfl, rfl, rfl, rfl, by decide +kernel⟩ ?hw ?hc
  case hw => w_witness2
  case hc =>
    refine DLX.walkG (l := PySem.Challenge.rw_seenanddone_k01_lots_and_texts_of_fracti) (n := 63) (k := 26) (x := "_law_script") rfl (by decide) (by kernel_rfl) ⟨rfl, by decide, by decide⟩ ?F
    intro w mg fa h Y G hmg0
    obtain ⟨K, KX, c⟩ := Y
    have hmg : mg ("law" : PySem.Str) = some (.ref fa) := by
      have e : (HandSHeadRun.topDef (OpenLaw.row PySem.Challenge.rw_seenanddone_k01_lots_and_texts_of_fracti).prog 50).name = ("law" : PySem.Str) := by kernel_rfl
      rw [← e]
      exact hmg0
    have e2 := hmg.symm.trans (He.glo_ok KX G (K01.fact c 32 rfl))
    have e3 : fa = He.ga K "law" := by cases e2; rfl
    exact ⟨K, KX, e3 ▸ K01.lawK KX G c⟩
